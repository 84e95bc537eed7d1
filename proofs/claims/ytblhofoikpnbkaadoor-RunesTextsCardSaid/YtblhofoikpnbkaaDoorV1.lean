/- utf8.word of a slice of bytes; what utf8.Valid cuts off, and reads. -/
import Derived.Test.YtblhofoikpnbkaaDoorW6
import Derived.Shelf.RegionOpenPlain
import Derived.Shelf.Unicode.DecodeSlow
import Derived.Lib.Walk
import Derived.Lib.Endian
import Derived.Lib.EndianBits
import Derived.RegionTactic
import Derived.Deep.Draws
import Derived.Deep.QuietTactic
import Derived.Lib.ValidAsc
namespace Go.Proofs.YtblhofoikpnbkaaDoor
open Go.RowKit Go.Shelf

/-- The bytes of t lie in w from a place on. -/
def Bt (w : World) (g off : Nat) (t : ByteArray) : Prop := ∀ j, j < t.size → w.cell? ⟨g, off + j, none⟩ = some (.int .u8 (t.get! j).toNat)

set_option maxHeartbeats 8000000 in
set_option maxRecDepth 100000 in
theorem word_any (g off n c : Nat) (s : ByteArray) (w : World) (hs : 8 ≤ s.size) (hn : s.size = n) (hb : Bt w g off s) :
    Calls Tryd.prog 37 #[.slice (some ⟨g, off, none⟩) n c] w fun e w' => e = .returned (.int .u64 (Lib.leNat [s.get! 0, s.get! 1, s.get! 2, s.get! 3, s.get! 4, s.get! 5, s.get! 6, s.get! 7])) ∧ ∃ q, w' = w.drewN q := by
  have c0 := hb 0 (by omega)
  have c1 := hb 1 (by omega)
  have c2 := hb 2 (by omega)
  have c3 := hb 3 (by omega)
  have c4 := hb 4 (by omega)
  have c5 := hb 5 (by omega)
  have c6 := hb 6 (by omega)
  have c7 := hb 7 (by omega)
  obtain ⟨x0, hx0⟩ : ∃ x0, s.get! 0 = x0 := ⟨_, rfl⟩
  obtain ⟨x1, hx1⟩ : ∃ x1, s.get! 1 = x1 := ⟨_, rfl⟩
  obtain ⟨x2, hx2⟩ : ∃ x2, s.get! 2 = x2 := ⟨_, rfl⟩
  obtain ⟨x3, hx3⟩ : ∃ x3, s.get! 3 = x3 := ⟨_, rfl⟩
  obtain ⟨x4, hx4⟩ : ∃ x4, s.get! 4 = x4 := ⟨_, rfl⟩
  obtain ⟨x5, hx5⟩ : ∃ x5, s.get! 5 = x5 := ⟨_, rfl⟩
  obtain ⟨x6, hx6⟩ : ∃ x6, s.get! 6 = x6 := ⟨_, rfl⟩
  obtain ⟨x7, hx7⟩ : ∃ x7, s.get! 7 = x7 := ⟨_, rfl⟩
  rw [hx0, hx1, hx2, hx3, hx4, hx5, hx6, hx7]
  rw [hx0] at c0
  rw [hx1] at c1
  rw [hx2] at c2
  rw [hx3] at c3
  rw [hx4] at c4
  rw [hx5] at c5
  rw [hx6] at c6
  rw [hx7] at c7
  rw [Nat.add_zero] at c0
  have h0 : x0.toNat < 256 := x0.toNat_lt
  have h1 : x1.toNat < 256 := x1.toNat_lt
  have h2 : x2.toNat < 256 := x2.toNat_lt
  have h3 : x3.toNat < 256 := x3.toNat_lt
  have h4 : x4.toNat < 256 := x4.toNat_lt
  have h5 : x5.toNat < 256 := x5.toNat_lt
  have h6 : x6.toNat < 256 := x6.toNat_lt
  have h7 : x7.toNat < 256 := x7.toNat_lt
  have hv : ((Lib.leNat [x0, x1, x2, x3, x4, x5, x6, x7] : Nat) : Int) = (x0.toNat : Int) + (x1.toNat : Int) * 256 + (x2.toNat : Int) * 65536 + (x3.toNat : Int) * 16777216 + (x4.toNat : Int) * 4294967296 + (x5.toNat : Int) * 1099511627776 + (x6.toNat : Int) * 281474976710656 + (x7.toNat : Int) * 72057594037927936 := by
    simp only [Lib.leNat]
    push_cast
    omega
  have q0 : (0 : Int) < (n : Int) := by omega
  have q1 : (1 : Int) < (n : Int) := by omega
  have q2 : (2 : Int) < (n : Int) := by omega
  have q3 : (3 : Int) < (n : Int) := by omega
  have q4 : (4 : Int) < (n : Int) := by omega
  have q5 : (5 : Int) < (n : Int) := by omega
  have q6 : (6 : Int) < (n : Int) := by omega
  have q7 : (7 : Int) < (n : Int) := by omega
  clear hx0 hx1 hx2 hx3 hx4 hx5 hx6 hx7 hb hs hn
  have HV := Lib.hid hv
  clear hv
  have mixed : Tryd.prog.follows Departure.mixedOrders = true := by kernel_rfl
  go_enter Tryd.func37, Tryd.ntmps37
  go_wp2
  go_quiet (fail)
  go_wp2
  go_ret
  refine ⟨?_, _, rfl⟩
  simp (disch := omega) only [Go.u64_wrap_id, Go.u64_or8, Go.u64_or16, Go.u64_or24, Go.u64_or32, Go.u64_or40, Go.u64_or48, Go.u64_or56]
  rw [HV.out]
  rfl

/-- A slice without spare that reads as the bytes of t. -/
def Bs (w : World) (v : Value) (t : ByteArray) : Prop := ∃ a, v = .slice a t.size t.size ∧ (0 < t.size → ∃ g off, a = some ⟨g, off, none⟩ ∧ g < w.heap.size ∧ Bt w g off t)
theorem Bt.below {w w' : World} {g off : Nat} {t : ByteArray} (h : Bt w g off t) (hg : g < w.heap.size) (hb : Below w.heap.size w w') : Bt w' g off t :=
  fun j hj => (hb.cell (p := ⟨g, off + j, none⟩) hg).trans (h j hj)

theorem get_ext (t : ByteArray) (k j : Nat) (h : k + j < t.size) : (t.extract k t.size).get! j = t.get! (k + j) := by
  rw [← Lib.getD_get!', ← Lib.getD_get!', Lib.ext_list, Lib.getD_dropU]

/-- 'p[k:]'. -/
noncomputable def cut22 (x k : Value) : Sem Value := Instr.slice 22 x (some k) none none
theorem slice_cut22 (x k : Value) : Instr.slice 22 x (some k) none none = cut22 x k := rfl
/-- 'p[:n:n]'. -/
noncomputable def clip22 (x n m : Value) : Sem Value := Instr.slice 22 x none (some n) (some m)
theorem slice_clip22 (x n m : Value) : Instr.slice 22 x none (some n) (some m) = clip22 x n m := rfl

theorem Bs.cut {w : World} {v : Value} {t : ByteArray} (h : Bs w v t) (k : Nat) (hk : k ≤ t.size) (hs : t.size ≤ 9223372036854775807) :
    ∃ v', (∀ W : World, (cut22 v (.int .i64 (k : Int))).run Tryd.prog W = .ok v' W) ∧ Bs w v' (t.extract k t.size) := by
  obtain ⟨i0, hi, hz0, hz1, hz2⟩ := info_parts info5
  obtain ⟨a, rfl, ha⟩ := h
  refine ⟨.slice (if t.size = k then a else a.map (·.add (k * 1))) (t.size - k) (t.size - k), fun W => ?_, ?_⟩
  · unfold cut22
    have h1 : ¬ (k : Int) < 0 := by omega
    have h2 : ¬ (t.size : Int) < (k : Int) := by omega
    simp [Instr.slice, Instr.sliceBounds, Instr.sliceBound, asIntOf, run_underlying Tryd.underlying22, hk, sizeOf, typeInfo, hi, hz1]
  · refine ⟨_, by rw [Lib.ext_size], fun h0 => ?_⟩
    rw [Lib.ext_size] at h0
    obtain ⟨g, off, rfl, hg, hb⟩ := ha (by omega)
    rw [if_neg (by omega)]
    refine ⟨g, off + k, ?_, hg, fun j hj => ?_⟩
    · simp only [Option.map_some, Nat.mul_one, Option.some.injEq]
      rw [Addr.add_lit]
    · rw [Lib.ext_size] at hj
      rw [get_ext t k j (by omega), show off + k + j = off + (k + j) by omega]
      exact hb (k + j) (by omega)

/-- The whole of a slice of bytes, its spare cut off. -/
theorem By.clip {w : World} {v : Value} {b : List UInt8} (h : By w v b) :
    ∃ v', (∀ W : World, (clip22 v (.int .i64 (b.length : Int)) (.int .i64 (b.length : Int))).run Tryd.prog W = .ok v' W) ∧ Bs w v' ⟨b.toArray⟩ := by
  have hz : (⟨b.toArray⟩ : ByteArray).size = b.length := by simp [Go.Lib.size_eq]
  obtain ⟨i0, hi, hz0, hz1, hz2⟩ := info_parts info5
  obtain ⟨a, cap, rfl, hc, hr⟩ := h
  rw [List.length_map] at hc ⊢
  refine ⟨.slice a b.length b.length, fun W => ?_, a, by rw [hz], fun h0 => ?_⟩
  · unfold clip22
    cases a with
    | none => simp [Instr.slice, Instr.sliceBounds, Instr.sliceBound, asIntOf, run_underlying Tryd.underlying22, hc, sizeOf, typeInfo, hi, hz1]
    | some p => simp [Instr.slice, Instr.sliceBounds, Instr.sliceBound, asIntOf, run_underlying Tryd.underlying22, hc, sizeOf, typeInfo, hi, hz1, Addr.add]
  · rw [hz] at h0
    obtain ⟨g, off, rfl, c0⟩ := hr 0 ((b[0]).toNat : Int) (by simp [h0])
    refine ⟨g, off, rfl, World.block_lt_of_cell? w _ c0, fun j hj => ?_⟩
    rw [hz] at hj
    obtain ⟨g', off', e, c1⟩ := hr j ((b[j]).toNat : Int) (by simp [hj])
    cases e
    rw [c1, ← Lib.getD_get!']
    simp [List.getD, hj]
end Go.Proofs.YtblhofoikpnbkaaDoor
