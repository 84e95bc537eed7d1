/- Documents that came in: opened, and how much there is of them. -/
import Derived.Test.YtpcbbhfbldchlaaQ2
import Derived.Test.YtpcbbhfbldchlaaRows
import Derived.WalkKit
import Derived.ProofKit
import Derived.OpenShut
import Derived.Carry
import Derived.ChangeMaps5
import Derived.Deep.Slices
import Derived.Deep.Fields
import Derived.ChangeSame
import Derived.Lib.SmallJoins
set_option linter.unusedVariables false
set_option linter.unusedSimpArgs false
namespace Go.Proofs.Ytpcbbhfbldchlaa
open Go.ChangeShapes Go.WideShapes Go.ChangeAt Go.RowKit Go.Deep
section
variable {H : Type}
theorem bulk_one (d : DataW H) : 1 ≤ Rows.uptoBulk d := by
  cases d with
  | lit l => cases l <;> simp [Rows.uptoBulk]
  | nil => simp [Rows.uptoBulk]
  | ptr d => simp [Rows.uptoBulk]
  | slice elems spare => simp [Rows.uptoBulk]
  | agg parts => simp [Rows.uptoBulk]
  | iface t d => simp [Rows.uptoBulk]
  | map entries => simp [Rows.uptoBulk]
  | held h => simp [Rows.uptoBulk]
theorem bulk_len (l : List (DataW H)) : l.length ≤ Rows.uptoBulkAll l := by
  induction l with
  | nil => simp [Rows.uptoBulkAll]
  | cons x r ih => have := bulk_one x; simp only [Rows.uptoBulkAll, List.length_cons]; omega
theorem bulk_sum {β : Type} (F : β → Nat) : ∀ (l : List β) (ys : List (DataW H)), l.length = ys.length → (∀ (i : Nat) y d, l[i]? = some y → ys[i]? = some d → F y ≤ Rows.uptoBulk d) → (l.map F).sum ≤ Rows.uptoBulkAll ys
  | [], _, _, _ => by simp
  | y :: l, [], h, _ => by simp at h
  | y :: l, d :: ys, h, k => by
    have h1 := bulk_sum F l ys (by simpa using h) (fun i y' d' hy hd => k (i + 1) y' d' (by simpa using hy) (by simpa using hd))
    have h2 := k 0 y d rfl rfl
    simp only [List.map_cons, List.sum_cons, Rows.uptoBulkAll]
    omega
end
theorem two_lists {α β : Type} (Q : Nat → α → β → Prop) : ∀ n, (∀ i, i < n → ∃ x y, Q i x y) → ∃ (L : List α) (l : List β), L.length = n ∧ l.length = n ∧ ∀ (i : Nat) x y, L[i]? = some x → l[i]? = some y → Q i x y
  | 0, _ => ⟨[], [], rfl, rfl, fun i x y h => by simp at h⟩
  | n + 1, h => by
    obtain ⟨L, l, h1, h2, h3⟩ := two_lists Q n (fun i hi => h i (by omega))
    obtain ⟨x, y, hq⟩ := h n (by omega)
    refine ⟨L ++ [x], l ++ [y], by simp [h1], by simp [h2], fun i x' y' hx hy => ?_⟩
    by_cases hi : i < n
    · rw [List.getElem?_append_left (by omega)] at hx hy
      exact h3 i x' y' hx hy
    · have : i = n := by
        have := (List.getElem?_eq_some_iff.1 hx).1
        simp at this
        omega
      subst this
      rw [List.getElem?_append_right (by omega)] at hx hy
      rw [h1, Nat.sub_self] at hx
      rw [h2, Nat.sub_self] at hy
      simp at hx hy
      subst hx hy
      exact hq
theorem fss_of {α : Type} {n : Nat} {f : α → List Value} (hn : ∀ x, (f x).length = n) (h0 : 0 < n) {w : World} {a : Addr} {L : List α} {len cap : Nat} (hl : L.length = len) (hc : len ≤ cap)
    (h : ∀ (i : Nat) x, L[i]? = some x → ∀ (j : Nat) c, (f x)[j]? = some c → w.cell? (a.add (i * n + j)) = some c) : FsS (fun b => b < w.heap.size) n f w (.slice (some a) len cap) L := by
  have key : 0 < L.length → a.spot = none ∧ a.block < w.heap.size := fun hL => by
    have hx : L[0]? = some (L[0]'hL) := List.getElem?_eq_getElem hL
    obtain ⟨c, hcx⟩ : ∃ c, (f (L[0]'hL))[0]? = some c := ⟨(f (L[0]'hL))[0]'(by rw [hn]; exact h0), List.getElem?_eq_getElem _⟩
    have hcell := h 0 _ hx 0 c hcx
    have e : a.add (0 * n + 0) = a := by simp [Addr.add]
    rw [e] at hcell
    exact ⟨World.cell?_spot hcell, World.block_lt_of_cell? w _ hcell⟩
  obtain ⟨xb, xo, spot⟩ := a
  refine ⟨⟨some _, cap, by rw [hl], by rw [hl]; exact hc, fun j x hj => ?_⟩, fun a' k c e hk => ?_⟩
  · obtain ⟨h1, h2⟩ := key (by have := (List.getElem?_eq_some_iff.1 hj).1; omega)
    simp only at h1
    subst h1
    refine ⟨xb, xo, rfl, fun i c hi => ?_⟩
    have := h j x hj i c hi
    rw [Addr.add_lit] at this
    exact this
  · injection e with e1 e2 e3
    injection e1 with e1
    subst e1 e2
    exact ⟨(key (by omega)).2, fun h0 => absurd (Nat.lt_of_le_of_lt (Nat.zero_le _) (key (by omega)).2) h0⟩
section
variable {H : Type} {enc : TypeId × Value → H} {P : Program} {w : World} {held : Bool}
/-- A slice, each of its elements read. -/
theorem open_sl {t e : TypeId} {fuel : Nat} {v : Value} {x : DataW H × List MemPlace} (ht : P.underlying t = some (.slice e)) (h : DataW.trod enc P w 0 (fun _ => true) held fuel t [v] = some x) :
    (v = .slice none 0 0 ∧ x.1 = .nil) ∨
    ∃ (a : Addr) (len cap n : Nat) (ys : List (DataW H × List MemPlace)) (rest : List (DataW H)), fuel = n + 1 ∧ v = .slice (some a) len cap ∧ len ≤ cap ∧ ys.length = len ∧ x.1 = .slice (ys.map (·.1)) rest ∧
      ∀ (i : Nat), i < len → ∃ cs y, ys[i]? = some y ∧ cs.length = P.cellsOf e ∧ (∀ (j : Nat) c, cs[j]? = some c → w.cell? (a.add (i * P.cellsOf e + j)) = some c) ∧ DataW.trod enc P w 0 (fun _ => true) held n e cs = some y := by
  rcases DataW.trod_slice ht h with ⟨hcs, hx⟩ | ⟨a, len, cap, elems, rest, n, hf, hcs, hx, -, hl, hm, hel, hi, -, -⟩
  · exact .inl ⟨by simpa using hcs, by rw [hx]⟩
  · refine .inr ⟨a, len, cap, n, elems, rest.map (·.1), hf, by simpa using hcs, hl, hel, by rw [hx], fun i hil => ?_⟩
    have h1 := hi i hil
    have h2 : elems[i]? = some (elems[i]'(by omega)) := List.getElem?_eq_getElem (by omega)
    rw [h2] at h1
    obtain ⟨cs, hc, ht'⟩ := Option.bind_eq_some_iff.1 h1
    obtain ⟨_, hcl, hat⟩ := World.cells?_some hc
    refine ⟨cs, _, h2, hcl, fun j c hj => ?_, ht'⟩
    have hjl := (List.getElem?_eq_some_iff.1 hj).1
    have h3 := hat j (by omega)
    rw [← Go.Deep.add_add, h3, hj]
end
variable {H : Type} {enc : TypeId × Value → H} {w : World} {held : Bool}
theorem cellsGl : Try.prog.cellsOf 27 = 2 := by kernel_rfl
theorem fieldsGl : ∃ fs : Array Field, Try.prog.underlying 27 = some (.struct fs) ∧ oneCellFields Try.prog fs = true ∧ ∃ f0 f1 : Field, fs = #[f0, f1] ∧ f0.type = 21 ∧ f1.type = 5 :=
  ⟨_, Try.underlying27, by kernel_rfl, _, _, rfl, rfl, rfl⟩
theorem one_field {P : Program} {fs : Array Field} (hone : oneCellFields P fs = true) {cs : List Value} {j : Nat} {f : Field} (hf : fs[j]? = some f) {c : Value} (hc : cs[j]? = some c) : (cs.drop f.offset).take (P.cellsOf f.type) = [c] := by
  obtain ⟨ho, hk⟩ := hone_of hone j f hf
  obtain ⟨hj, rfl⟩ := List.getElem?_eq_some_iff.1 hc
  rw [ho, hk, List.drop_eq_getElem_cons hj]
  rfl
theorem get_of_len {α : Type} {l : List α} {n : Nat} (h : l.length = n) {j : Nat} (hj : j < n) : ∃ c, l[j]? = some c := ⟨l[j]'(by omega), List.getElem?_eq_getElem _⟩
set_option maxRecDepth 100000 in
theorem glyph_of {n : Nat} {cs : List Value} {y : DataW H × List MemPlace} (h : DataW.trod enc Try.prog w 0 (fun _ => true) held n 27 cs = some y) : ∃ g : Gly, cs = gcell g := by
  obtain ⟨fs, hu, hone, f0, f1, rfl, ht0, ht1⟩ := fieldsGl
  obtain ⟨ys, n', -, -, hcl, hyl, hf⟩ := DataW.trod_struct hu h
  rw [cellsGl] at hcl
  obtain ⟨c0, h0⟩ := get_of_len hcl (j := 0) (by omega)
  obtain ⟨c1, h1⟩ := get_of_len hcl (j := 1) (by omega)
  obtain ⟨y0, e0⟩ := get_of_len hyl (j := 0) (by simp)
  obtain ⟨y1, e1⟩ := get_of_len hyl (j := 1) (by simp)
  have k0 := hf 0 f0 rfl
  have k1 := hf 1 f1 rfl
  rw [one_field hone (j := 0) (f := f0) rfl h0, ht0, e0] at k0
  rw [one_field hone (j := 1) (f := f1) rfl h1, ht1, e1] at k1
  obtain ⟨x0, hx0, -⟩ := DataW.trod_int Try.underlying21 k0
  obtain ⟨x1, hx1, -⟩ := DataW.trod_int Try.underlying5 k1
  have q0 : c0 = .int .i32 x0 := by simpa using hx0
  have q1 : c1 = .int .u8 x1 := by simpa using hx1
  refine ⟨(x0, x1), ?_⟩
  rcases cs with _ | ⟨a, _ | ⟨b, _ | ⟨c, cs⟩⟩⟩
  · simp at hcl
  · simp at hcl
  · simp at h0 h1
    rw [h0, h1, q0, q1]
    rfl
  · simp at hcl
theorem glyphs_of {fuel : Nat} {v : Value} {x : DataW H × List MemPlace} (h : DataW.trod enc Try.prog w 0 (fun _ => true) held fuel 23 [v] = some x) :
    ∃ l : List Gly, FsS (fun b => b < w.heap.size) 2 gcell w v l ∧ 1 + l.length ≤ Rows.uptoBulk x.1 := by
  rcases open_sl Try.underlying23 h with ⟨rfl, hx⟩ | ⟨a, len, cap, n, ys, rest, -, rfl, hl, hyl, hx, hi⟩
  · exact ⟨[], FsS.nil _ _ _ _, by rw [hx]; simp [Rows.uptoBulk]⟩
  · rw [cellsGl] at hi
    obtain ⟨L, l, h1, h2, h3⟩ := two_lists (fun i (g : Gly) (_ : Unit) => ∀ (j : Nat) c, (gcell g)[j]? = some c → w.cell? (a.add (i * 2 + j)) = some c) len (fun i hil => by
      obtain ⟨cs, y, hy, hcl, hc, ht⟩ := hi i hil
      obtain ⟨g, rfl⟩ := glyph_of ht
      exact ⟨g, (), hc⟩)
    refine ⟨L, fss_of gcell_len (by decide) h1 hl (fun i x hx j c hj => ?_), ?_⟩
    · have hil := (List.getElem?_eq_some_iff.1 hx).1
      obtain ⟨u, hu⟩ := get_of_len h2 (j := i) (by omega)
      exact h3 i x u hx hu j c hj
    · have := bulk_len (ys.map (·.1))
      rw [List.length_map] at this
      rw [hx]
      simp only [Rows.uptoBulk]
      omega
theorem text_of {n : Nat} {c : Value} {y : DataW H × List MemPlace} (h : DataW.trod enc Try.prog w 0 (fun _ => true) held n 9 [c] = some y) : ∃ b : List UInt8, c = .string ⟨b.toArray⟩ ∧ Rows.uptoBulk y.1 = b.length + 1 := by
  obtain ⟨s, e1, e2, e3⟩ := DataW.trod_string Try.underlying9 h
  refine ⟨s.data.toList, by simpa using e1, ?_⟩
  rw [congrArg Prod.fst e2]
  simp [Rows.uptoBulk]
end Go.Proofs.Ytpcbbhfbldchlaa
