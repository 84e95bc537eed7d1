/- A slice of glyphs that came in: opened. -/
import Derived.Test.YtkiglnfapoifiaaDoorR
import Derived.Test.YtkiglnfapoifiaaDoorG5
import Derived.Carry
import Derived.ChangeMaps5
import Derived.Deep.Slices
import Derived.Deep.Fields
import Derived.ChangeSame
namespace Go.Proofs.YtkiglnfapoifiaaDoor
open Go.ChangeShapes Go.WideShapes Go.ChangeAt Go.RowKit Go.Deep

section
variable {H : Type} {enc : TypeId × Value → H} {P : Program} {w : World} {base : Nat} {spare : Nat → Bool} {held : Bool}
/-- A slice of structs of one-cell fields, each read. -/
theorem open_rows {t e : TypeId} {fs : Array Field} {fuel : Nat} {cs : List Value} {x : DataW H × List MemPlace} (ht : P.underlying t = some (.slice e)) (he : P.underlying e = some (.struct fs))
    (hone : oneCellFields P fs = true) (hC : P.cellsOf e = fs.size) (h : DataW.trod enc P w base spare held fuel t cs = some x) :
    (cs = [.slice none 0 0] ∧ x = (.nil, [])) ∨
    ∃ (a : Addr) (len cap : Nat), cs = [.slice (some a) len cap] ∧ len ≤ cap ∧ cap ≤ maxLen ∧
      ∀ i, i < len → ∀ (j : Nat) (f : Field), fs[j]? = some f → ∃ (n : Nat) (v : Value) (y : DataW H × List MemPlace), w.cell? (a.add (i * fs.size + j)) = some v ∧ DataW.trod enc P w base spare held n f.type [v] = some y := by
  rcases open_slice ht h with h0 | ⟨a, len, cap, m, n, D, Pl, hcs, hb, hl, hm, hmm, hx, hi⟩
  · exact .inl h0
  · refine .inr ⟨a, len, cap, hcs, hl, hm, fun i him j f hj => ?_⟩
    obtain ⟨cs', hc, ht'⟩ := hi i (by rw [hmm]; split <;> omega)
    rw [hC] at hc
    obtain ⟨ys, n', hn', hy, hlen, hyl, hf⟩ := DataW.trod_struct he ht'
    obtain ⟨_, hcl, hat⟩ := World.cells?_some hc
    obtain ⟨ho, hk⟩ := hone_of hone j f hj
    have hjl : j < fs.size := (Array.getElem?_eq_some_iff.1 hj).1
    have hcell := hat j hjl
    have hv : cs'[j]? = some (cs'[j]'(by omega)) := List.getElem?_eq_getElem (by omega)
    have h1 := hf j f hj
    rw [ho, hk] at h1
    have hone' : (cs'.drop j).take 1 = [cs'[j]'(by omega)] := by
      rw [List.drop_eq_getElem_cons (by omega)]
      rfl
    rw [hone'] at h1
    have hys : ys[j]? = some (ys[j]'(by omega)) := List.getElem?_eq_getElem (by omega)
    refine ⟨_, _, _, ?_, h1.trans hys⟩
    rw [← Go.Deep.add_add, hcell, hv]
end

variable {H : Type} {enc : TypeId × Value → H} {W : World}
theorem cellsG : Tryd.prog.cellsOf 47 = 2 := by kernel_rfl
theorem fieldsG : ∃ fs : Array Field, Tryd.prog.underlying 47 = some (.struct fs) ∧ oneCellFields Tryd.prog fs = true ∧ ∃ f0 f1 : Field, fs = #[f0, f1] ∧ f0.type = 21 ∧ f1.type = 5 :=
  ⟨_, Tryd.underlying47, by kernel_rfl, _, _, rfl, rfl, rfl⟩

theorem rows_list (w : World) (a : Addr) : ∀ (n : Nat), (∀ i, i < n → ∃ g : Gly, w.cell? (a.add (i * 2 + 0)) = some (.int .i32 g.1) ∧ w.cell? (a.add (i * 2 + 1)) = some (.int .u8 g.2) ∧ ((-2147483648 ≤ g.1 ∧ g.1 ≤ 2147483647) ∧ (0 ≤ g.2 ∧ g.2 ≤ 255))) →
    ∃ l : List Gly, l.length = n ∧ okG l ∧ ∀ (i : Nat) (g : Gly), l[i]? = some g → w.cell? (a.add (i * 2 + 0)) = some (.int .i32 g.1) ∧ w.cell? (a.add (i * 2 + 1)) = some (.int .u8 g.2)
  | 0, _ => ⟨[], rfl, fun g hg => by simp at hg, fun i g hi => by simp at hi⟩
  | n + 1, h => by
    obtain ⟨l, hl, hok, hr⟩ := rows_list w a n (fun i hi => h i (by omega))
    obtain ⟨g, h0, h1, hb⟩ := h n (by omega)
    refine ⟨l ++ [g], by simp [hl], fun x hx => ?_, fun i x hx => ?_⟩
    · rcases List.mem_append.1 hx with hx | hx
      · exact hok x hx
      · simp only [List.mem_singleton] at hx; rw [hx]; exact hb
    · by_cases hi : i < n
      · rw [List.getElem?_append_left (by omega)] at hx
        exact hr i x hx
      · have : i = n := by
          have := (List.getElem?_eq_some_iff.1 hx).1
          simp at this
          omega
        subst this
        rw [List.getElem?_append_right (by omega)] at hx
        simp [hl] at hx
        subst hx
        exact ⟨h0, h1⟩

theorem glyphs_open {r : Reach} {b0 : Nat} {v : Value} {d : DataW H} {p : List MemPlace} (hval : Value.okWide Tryd.prog W r b0 22 v) (h : DataW.Trod enc Tryd.prog W 0 (fun _ => true) true 22 v d p) :
    ∃ l : List Gly, Gs W v l ∧ okG l ∧ l.length ≤ maxLen := by
  obtain ⟨a, len, cap, rfl⟩ := okWide_slice Tryd.underlying22 hval
  obtain ⟨fu, hf⟩ := h
  obtain ⟨fs, hu, hone, f0, f1, rfl, ht0, ht1⟩ := fieldsG
  rcases open_rows Tryd.underlying22 hu hone cellsG hf with ⟨hcs, hx⟩ | ⟨a', len', cap', hcs, hl, hm, hi⟩
  · simp [Value.cells] at hcs
    obtain ⟨rfl, rfl, rfl⟩ := hcs
    exact ⟨[], Fs.nil W, fun g hg => by simp at hg, by simp⟩
  · simp [Value.cells] at hcs
    obtain ⟨rfl, rfl, rfl⟩ := hcs
    obtain ⟨l, hll, hok, hr⟩ := rows_list W a' len (fun i hil => by
      obtain ⟨n0, v0, y0, hc0, h0⟩ := hi i hil 0 f0 rfl
      obtain ⟨n1, v1, y1, hc1, h1⟩ := hi i hil 1 f1 rfl
      rw [ht0] at h0
      rw [ht1] at h1
      obtain ⟨z0, hz0, _, hw0⟩ := DataW.trod_int Tryd.underlying21 h0
      obtain ⟨z1, hz1, _, hw1⟩ := DataW.trod_int Tryd.underlying5 h1
      obtain rfl : v0 = .int .i32 z0 := by simpa using hz0
      obtain rfl : v1 = .int .u8 z1 := by simpa using hz1
      exact ⟨(z0, z1), hc0, hc1, i32_bd hw0, u8_bd hw1⟩)
    refine ⟨l, ⟨some a', cap, by rw [hll], by rw [hll]; exact hl, fun j g hj => ?_⟩, hok, by rw [hll]; omega⟩
    obtain ⟨h0, h1⟩ := hr j g hj
    obtain ⟨xb, xo, spot⟩ := a'
    have hjl := (List.getElem?_eq_some_iff.1 hj).1
    have h00 := (hr 0 _ (List.getElem?_eq_getElem (show 0 < l.length by omega))).1
    have hspot : spot = none := by simpa [Addr.add] using World.cell?_spot h00
    subst hspot
    refine ⟨xb, xo, rfl, fun i c hc => ?_⟩
    rw [Addr.add_lit] at h0 h1
    match i, hc with
    | 0, hc => simp [gcell] at hc; rw [← hc]; exact h0
    | 1, hc => simp [gcell] at hc; rw [← hc]; exact h1
    | i + 2, hc => simp [gcell] at hc
end Go.Proofs.YtkiglnfapoifiaaDoor
