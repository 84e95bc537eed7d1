/- A slice of integers that came in: opened. -/
import Derived.Test.YtblhofoikpnbkaaDoorR
import Derived.Carry
import Derived.ChangeMaps5
namespace Go.Proofs.YtblhofoikpnbkaaDoor
open Go.ChangeShapes Go.WideShapes Go.ChangeAt Go.RowKit

theorem laidOut : laidOutB Tryd.prog = true := by kernel_rfl
theorem cells5 : Tryd.prog.cellsOf 5 = 1 := by kernel_rfl

variable {H : Type} {enc : TypeId × Value → H} {W : World}

theorem sl_open {t e : TypeId} {k : IntKind} {r : Reach} {b0 : Nat} {v : Value} {d : DataW H} {p : List MemPlace} (ht : Tryd.prog.underlying t = some (.slice e)) (he : Tryd.prog.underlying e = some (.int k)) (hc : Tryd.prog.cellsOf e = 1)
    (hval : Value.okWide Tryd.prog W r b0 t v) (h : DataW.Trod enc Tryd.prog W 0 (fun _ => true) true t v d p) :
    ∃ l : List Int, Sl k W v l ∧ (∀ z ∈ l, (Lit.int k z).wf = true) ∧ l.length ≤ maxLen := by
  obtain ⟨a, len, cap, rfl⟩ := okWide_slice ht hval
  obtain ⟨fu, hf⟩ := h
  rcases open_ints ht he hc hf with ⟨hcs, hx⟩ | ⟨a', len', cap', zs, hcs, _, hl, hm, hz, hx, hcell, hwz⟩
  · simp [Value.cells] at hcs
    obtain ⟨rfl, rfl, rfl⟩ := hcs
    exact ⟨[], ⟨none, 0, rfl, Nat.le_refl _, fun j z hj => by simp at hj⟩, by simp, by simp⟩
  · simp [Value.cells] at hcs
    obtain ⟨rfl, rfl, rfl⟩ := hcs
    simp only [if_true] at hz
    have hlz : (zs.take len).length = len := by simp; omega
    refine ⟨zs.take len, ⟨some a', cap, by rw [hlz], by rw [hlz]; exact hl, fun j z hj => ?_⟩, fun z hz' => hwz z (List.mem_of_mem_take hz'), by rw [hlz]; omega⟩
    have hj1 : j < len := by
      have := (List.getElem?_eq_some_iff.1 hj).1
      omega
    have h0 := hcell 0 (by omega)
    obtain ⟨xb, xo, spot⟩ := a'
    have hspot : spot = none := by simpa [Addr.add] using World.cell?_spot h0
    subst hspot
    refine ⟨xb, xo, rfl, ?_⟩
    have := hcell j (by omega)
    rw [Addr.add_lit] at this
    rw [this]
    rw [List.getElem?_take_of_lt hj1] at hj
    simp [List.getD, hj]

theorem u8_bd {x : Int} (h : (Lit.int .u8 x).wf = true) : 0 ≤ x ∧ x ≤ 255 := by
  simp [Lit.wf, IntKind.min, IntKind.max, IntKind.signed, IntKind.bits] at h
  omega
theorem i32_bd {x : Int} (h : (Lit.int .i32 x).wf = true) : -2147483648 ≤ x ∧ x ≤ 2147483647 := by
  simp [Lit.wf, IntKind.min, IntKind.max, IntKind.signed, IntKind.bits] at h
  omega

theorem bytes_list : ∀ l : List Int, (∀ z ∈ l, (Lit.int .u8 z).wf = true) → ∃ b : List UInt8, l = b.map fun x => (x.toNat : Int)
  | [], _ => ⟨[], rfl⟩
  | z :: l, h => by
    obtain ⟨b, hb⟩ := bytes_list l (fun y hy => h y (by simp [hy]))
    have hz := u8_bd (h z (by simp))
    refine ⟨UInt8.ofNat z.toNat :: b, ?_⟩
    rw [List.map_cons, ← hb]
    congr 1
    rw [UInt8.toNat_ofNat']
    omega

theorem runes_open {r : Reach} {b0 : Nat} {v : Value} {d : DataW H} {p : List MemPlace} (hval : Value.okWide Tryd.prog W r b0 24 v) (h : DataW.Trod enc Tryd.prog W 0 (fun _ => true) true 24 v d p) :
    ∃ l : List Int, Sl .i32 W v l ∧ (∀ z ∈ l, -2147483648 ≤ z ∧ z ≤ 2147483647) ∧ l.length ≤ maxLen := by
  obtain ⟨l, h1, h2, h3⟩ := sl_open Tryd.underlying24 Tryd.underlying21 cells21 hval h
  exact ⟨l, h1, fun z hz => i32_bd (h2 z hz), h3⟩
theorem bytes_open {r : Reach} {b0 : Nat} {v : Value} {d : DataW H} {p : List MemPlace} (hval : Value.okWide Tryd.prog W r b0 22 v) (h : DataW.Trod enc Tryd.prog W 0 (fun _ => true) true 22 v d p) :
    ∃ b : List UInt8, By W v b ∧ b.length ≤ maxLen := by
  obtain ⟨l, h1, h2, h3⟩ := sl_open Tryd.underlying22 Tryd.underlying5 cells5 hval h
  obtain ⟨b, rfl⟩ := bytes_list l h2
  exact ⟨b, h1, by simpa using h3⟩
end Go.Proofs.YtblhofoikpnbkaaDoor
