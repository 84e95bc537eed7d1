/- Documents that came in: opened, and how much there is of them. -/
import Derived.Test.YtaeplneiicobgaaGreatDoorQ2
import Derived.Test.YtaeplneiicobgaaGreatDoorRows
import Derived.WalkKit
import Derived.ProofKit
import Derived.OpenShut
import Derived.Carry
import Derived.ChangeMaps5
import Derived.Deep.Slices
import Derived.Deep.Fields
import Derived.ChangeSame
import Derived.Lib.SmallJoins
set_option linter.unusedVariables false
set_option linter.unusedSimpArgs false
namespace Go.Proofs.YtaeplneiicobgaaGreatDoor
open Go.ChangeShapes Go.WideShapes Go.ChangeAt Go.RowKit Go.Deep
section
variable {H : Type}
theorem bulk_one (d : DataW H) : 1 ≤ Rows.uptoBulk d := by
  cases d with
  | lit l => cases l <;> simp [Rows.uptoBulk]
  | nil => simp [Rows.uptoBulk]
  | ptr d => simp [Rows.uptoBulk]
  | slice elems spare => simp [Rows.uptoBulk]
  | agg parts => simp [Rows.uptoBulk]
  | iface t d => simp [Rows.uptoBulk]
  | map entries => simp [Rows.uptoBulk]
  | held h => simp [Rows.uptoBulk]
theorem bulk_len (l : List (DataW H)) : l.length ≤ Rows.uptoBulkAll l := by
  induction l with
  | nil => simp [Rows.uptoBulkAll]
  | cons x r ih => have := bulk_one x; simp only [Rows.uptoBulkAll, List.length_cons]; omega
theorem bulk_sum {β : Type} (F : β → Nat) : ∀ (l : List β) (ys : List (DataW H)), l.length = ys.length → (∀ (i : Nat) y d, l[i]? = some y → ys[i]? = some d → F y ≤ Rows.uptoBulk d) → (l.map F).sum ≤ Rows.uptoBulkAll ys
  | [], _, _, _ => by simp
  | y :: l, [], h, _ => by simp at h
  | y :: l, d :: ys, h, k => by
    have h1 := bulk_sum F l ys (by simpa using h) (fun i y' d' hy hd => k (i + 1) y' d' (by simpa using hy) (by simpa using hd))
    have h2 := k 0 y d rfl rfl
    simp only [List.map_cons, List.sum_cons, Rows.uptoBulkAll]
    omega
end
theorem two_lists {α β : Type} (Q : Nat → α → β → Prop) : ∀ n, (∀ i, i < n → ∃ x y, Q i x y) → ∃ (L : List α) (l : List β), L.length = n ∧ l.length = n ∧ ∀ (i : Nat) x y, L[i]? = some x → l[i]? = some y → Q i x y
  | 0, _ => ⟨[], [], rfl, rfl, fun i x y h => by simp at h⟩
  | n + 1, h => by
    obtain ⟨L, l, h1, h2, h3⟩ := two_lists Q n (fun i hi => h i (by omega))
    obtain ⟨x, y, hq⟩ := h n (by omega)
    refine ⟨L ++ [x], l ++ [y], by simp [h1], by simp [h2], fun i x' y' hx hy => ?_⟩
    by_cases hi : i < n
    · rw [List.getElem?_append_left (by omega)] at hx hy
      exact h3 i x' y' hx hy
    · have : i = n := by
        have := (List.getElem?_eq_some_iff.1 hx).1
        simp at this
        omega
      subst this
      rw [List.getElem?_append_right (by omega)] at hx hy
      rw [h1, Nat.sub_self] at hx
      rw [h2, Nat.sub_self] at hy
      simp at hx hy
      subst hx hy
      exact hq
theorem fss_of {α : Type} {n : Nat} {f : α → List Value} (hn : ∀ x, (f x).length = n) (h0 : 0 < n) {w : World} {a : Addr} {L : List α} {len cap : Nat} (hl : L.length = len) (hc : len ≤ cap)
    (h : ∀ (i : Nat) x, L[i]? = some x → ∀ (j : Nat) c, (f x)[j]? = some c → w.cell? (a.add (i * n + j)) = some c) : FsS (fun b => b < w.heap.size) n f w (.slice (some a) len cap) L := by
  have key : 0 < L.length → a.spot = none ∧ a.block < w.heap.size := fun hL => by
    have hx : L[0]? = some (L[0]'hL) := List.getElem?_eq_getElem hL
    obtain ⟨c, hcx⟩ : ∃ c, (f (L[0]'hL))[0]? = some c := ⟨(f (L[0]'hL))[0]'(by rw [hn]; exact h0), List.getElem?_eq_getElem _⟩
    have hcell := h 0 _ hx 0 c hcx
    have e : a.add (0 * n + 0) = a := by simp [Addr.add]
    rw [e] at hcell
    exact ⟨World.cell?_spot hcell, World.block_lt_of_cell? w _ hcell⟩
  obtain ⟨xb, xo, spot⟩ := a
  refine ⟨⟨some _, cap, by rw [hl], by rw [hl]; exact hc, fun j x hj => ?_⟩, fun a' k c e hk => ?_⟩
  · obtain ⟨h1, h2⟩ := key (by have := (List.getElem?_eq_some_iff.1 hj).1; omega)
    simp only at h1
    subst h1
    refine ⟨xb, xo, rfl, fun i c hi => ?_⟩
    have := h j x hj i c hi
    rw [Addr.add_lit] at this
    exact this
  · injection e with e1 e2 e3
    injection e1 with e1
    subst e1 e2
    exact ⟨(key (by omega)).2, fun h0 => absurd (Nat.lt_of_le_of_lt (Nat.zero_le _) (key (by omega)).2) h0⟩
section
variable {H : Type} {enc : TypeId × Value → H} {P : Program} {w : World} {held : Bool}
/-- A slice, each of its elements read. -/
theorem open_sl {t e : TypeId} {fuel : Nat} {v : Value} {x : DataW H × List MemPlace} (ht : P.underlying t = some (.slice e)) (h : DataW.trod enc P w 0 (fun _ => true) held fuel t [v] = some x) :
    (v = .slice none 0 0 ∧ x.1 = .nil) ∨
    ∃ (a : Addr) (len cap n : Nat) (ys : List (DataW H × List MemPlace)) (rest : List (DataW H)), fuel = n + 1 ∧ v = .slice (some a) len cap ∧ len ≤ cap ∧ ys.length = len ∧ x.1 = .slice (ys.map (·.1)) rest ∧
      ∀ (i : Nat), i < len → ∃ cs y, ys[i]? = some y ∧ cs.length = P.cellsOf e ∧ (∀ (j : Nat) c, cs[j]? = some c → w.cell? (a.add (i * P.cellsOf e + j)) = some c) ∧ DataW.trod enc P w 0 (fun _ => true) held n e cs = some y := by
  rcases DataW.trod_slice ht h with ⟨hcs, hx⟩ | ⟨a, len, cap, elems, rest, n, hf, hcs, hx, -, hl, hm, hel, hi, -, -⟩
  · exact .inl ⟨by simpa using hcs, by rw [hx]⟩
  · refine .inr ⟨a, len, cap, n, elems, rest.map (·.1), hf, by simpa using hcs, hl, hel, by rw [hx], fun i hil => ?_⟩
    have h1 := hi i hil
    have h2 : elems[i]? = some (elems[i]'(by omega)) := List.getElem?_eq_getElem (by omega)
    rw [h2] at h1
    obtain ⟨cs, hc, ht'⟩ := Option.bind_eq_some_iff.1 h1
    obtain ⟨_, hcl, hat⟩ := World.cells?_some hc
    refine ⟨cs, _, h2, hcl, fun j c hj => ?_, ht'⟩
    have hjl := (List.getElem?_eq_some_iff.1 hj).1
    have h3 := hat j (by omega)
    rw [← Go.Deep.add_add, h3, hj]
end
variable {H : Type} {enc : TypeId × Value → H} {w : World} {held : Bool}
theorem cellsGl : Tryz.prog.cellsOf 43 = 2 := by kernel_rfl
theorem fieldsGl : ∃ fs : Array Field, Tryz.prog.underlying 43 = some (.struct fs) ∧ oneCellFields Tryz.prog fs = true ∧ ∃ f0 f1 : Field, fs = #[f0, f1] ∧ f0.type = 21 ∧ f1.type = 5 :=
  ⟨_, Tryz.underlying43, by kernel_rfl, _, _, rfl, rfl, rfl⟩
theorem one_field {P : Program} {fs : Array Field} (hone : oneCellFields P fs = true) {cs : List Value} {j : Nat} {f : Field} (hf : fs[j]? = some f) {c : Value} (hc : cs[j]? = some c) : (cs.drop f.offset).take (P.cellsOf f.type) = [c] := by
  obtain ⟨ho, hk⟩ := hone_of hone j f hf
  obtain ⟨hj, rfl⟩ := List.getElem?_eq_some_iff.1 hc
  rw [ho, hk, List.drop_eq_getElem_cons hj]
  rfl
theorem get_of_len {α : Type} {l : List α} {n : Nat} (h : l.length = n) {j : Nat} (hj : j < n) : ∃ c, l[j]? = some c := ⟨l[j]'(by omega), List.getElem?_eq_getElem _⟩
set_option maxRecDepth 100000 in
theorem glyph_of {n : Nat} {cs : List Value} {y : DataW H × List MemPlace} (h : DataW.trod enc Tryz.prog w 0 (fun _ => true) held n 43 cs = some y) : ∃ g : Gly, cs = gcell g := by
  obtain ⟨fs, hu, hone, f0, f1, rfl, ht0, ht1⟩ := fieldsGl
  obtain ⟨ys, n', -, -, hcl, hyl, hf⟩ := DataW.trod_struct hu h
  rw [cellsGl] at hcl
  obtain ⟨c0, h0⟩ := get_of_len hcl (j := 0) (by omega)
  obtain ⟨c1, h1⟩ := get_of_len hcl (j := 1) (by omega)
  obtain ⟨y0, e0⟩ := get_of_len hyl (j := 0) (by simp)
  obtain ⟨y1, e1⟩ := get_of_len hyl (j := 1) (by simp)
  have k0 := hf 0 f0 rfl
  have k1 := hf 1 f1 rfl
  rw [one_field hone (j := 0) (f := f0) rfl h0, ht0, e0] at k0
  rw [one_field hone (j := 1) (f := f1) rfl h1, ht1, e1] at k1
  obtain ⟨x0, hx0, -⟩ := DataW.trod_int Tryz.underlying21 k0
  obtain ⟨x1, hx1, -⟩ := DataW.trod_int Tryz.underlying5 k1
  have q0 : c0 = .int .i32 x0 := by simpa using hx0
  have q1 : c1 = .int .u8 x1 := by simpa using hx1
  refine ⟨(x0, x1), ?_⟩
  rcases cs with _ | ⟨a, _ | ⟨b, _ | ⟨c, cs⟩⟩⟩
  · simp at hcl
  · simp at hcl
  · simp at h0 h1
    rw [h0, h1, q0, q1]
    rfl
  · simp at hcl
theorem glyphs_of {fuel : Nat} {v : Value} {x : DataW H × List MemPlace} (h : DataW.trod enc Tryz.prog w 0 (fun _ => true) held fuel 26 [v] = some x) :
    ∃ l : List Gly, FsS (fun b => b < w.heap.size) 2 gcell w v l ∧ 1 + l.length ≤ Rows.uptoBulk x.1 := by
  rcases open_sl Tryz.underlying26 h with ⟨rfl, hx⟩ | ⟨a, len, cap, n, ys, rest, -, rfl, hl, hyl, hx, hi⟩
  · exact ⟨[], FsS.nil _ _ _ _, by rw [hx]; simp [Rows.uptoBulk]⟩
  · rw [cellsGl] at hi
    obtain ⟨L, l, h1, h2, h3⟩ := two_lists (fun i (g : Gly) (_ : Unit) => ∀ (j : Nat) c, (gcell g)[j]? = some c → w.cell? (a.add (i * 2 + j)) = some c) len (fun i hil => by
      obtain ⟨cs, y, hy, hcl, hc, ht⟩ := hi i hil
      obtain ⟨g, rfl⟩ := glyph_of ht
      exact ⟨g, (), hc⟩)
    refine ⟨L, fss_of gcell_len (by decide) h1 hl (fun i x hx j c hj => ?_), ?_⟩
    · have hil := (List.getElem?_eq_some_iff.1 hx).1
      obtain ⟨u, hu⟩ := get_of_len h2 (j := i) (by omega)
      exact h3 i x u hx hu j c hj
    · have := bulk_len (ys.map (·.1))
      rw [List.length_map] at this
      rw [hx]
      simp only [Rows.uptoBulk]
      omega
theorem cellsSG : Tryz.prog.cellsOf 26 = 1 := by kernel_rfl
theorem rowsG_of {fuel : Nat} {v : Value} {x : DataW H × List MemPlace} (h : DataW.trod enc Tryz.prog w 0 (fun _ => true) held fuel 28 [v] = some x) :
    ∃ l : List (List Gly), GrS (fun b => b < w.heap.size) w v l ∧ 1 + (l.length + lens l) ≤ Rows.uptoBulk x.1 := by
  rcases open_sl Tryz.underlying28 h with ⟨rfl, hx⟩ | ⟨a, len, cap, n, ys, rest, -, rfl, hl, hyl, hx, hi⟩
  · exact ⟨[], GrS.nil _ _, by rw [hx]; simp [Rows.uptoBulk, lens]⟩
  · rw [cellsSG] at hi
    obtain ⟨L, l, h1, h2, h3⟩ := two_lists (fun i (s : PV) (r : List Gly) => (∀ (j : Nat) c, (pcell s)[j]? = some c → w.cell? (a.add (i * 1 + j)) = some c) ∧ FsS (fun b => b < w.heap.size) 2 gcell w (pv s) r ∧ ∃ y, ys[i]? = some y ∧ 1 + r.length ≤ Rows.uptoBulk y.1) len (fun i hil => by
      obtain ⟨cs, y, hy, hcl, hc, ht⟩ := hi i hil
      rcases cs with _ | ⟨c, _ | ⟨d, cs⟩⟩
      · simp at hcl
      · obtain ⟨r, hr, hb⟩ := glyphs_of ht
        obtain ⟨s, hs⟩ := pv_of hr.1
        subst hs
        exact ⟨s, r, hc, hr, y, hy, hb⟩
      · simp at hcl)
    refine ⟨l, ⟨L, by rw [h1, h2], fss_of pcell_len (by decide) h1 hl (fun i x hx j c hj => ?_), fun i s r hs hr => (h3 i s r hs hr).2.1⟩, ?_⟩
    · have hil := (List.getElem?_eq_some_iff.1 hx).1
      obtain ⟨u, hu⟩ := get_of_len h2 (j := i) (by omega)
      exact (h3 i x u hx hu).1 j c hj
    · have hs := bulk_sum (fun r : List Gly => 1 + r.length) l (ys.map (·.1)) (by rw [List.length_map, h2, hyl]) (fun i r d hr hd => by
        obtain ⟨u, hu⟩ := get_of_len h1 (j := i) (by have := (List.getElem?_eq_some_iff.1 hr).1; omega)
        obtain ⟨y, hy, hb⟩ := (h3 i u r hu hr).2.2
        rw [List.getElem?_map, hy] at hd
        simp at hd
        subst hd
        exact hb)
      have e : (l.map fun r : List Gly => 1 + r.length).sum = l.length + lens l := by
        clear hs h3 h2
        induction l with
        | nil => rfl
        | cons r l ih => simp only [List.map_cons, List.sum_cons, ih, List.length_cons, lens]; omega
      rw [hx]
      simp only [Rows.uptoBulk]
      omega
theorem cellsTr : Tryz.prog.cellsOf 41 = 2 := by kernel_rfl
theorem fieldsTr : ∃ fs : Array Field, Tryz.prog.underlying 41 = some (.struct fs) ∧ oneCellFields Tryz.prog fs = true ∧ ∃ f0 f1 : Field, fs = #[f0, f1] ∧ f0.type = 4 ∧ f1.type = 28 :=
  ⟨_, Tryz.underlying41, by kernel_rfl, _, _, rfl, rfl, rfl⟩
set_option maxRecDepth 100000 in
theorem trow_of {n : Nat} {cs : List Value} {y : DataW H × List MemPlace} (h : DataW.trod enc Tryz.prog w 0 (fun _ => true) held n 41 cs = some y) :
    ∃ (s : Bool × PV) (r : Trow), cs = trcell s ∧ s.1 = r.1 ∧ GrS (fun b => b < w.heap.size) w (pv s.2) r.2 ∧ trl r ≤ Rows.uptoBulk y.1 := by
  obtain ⟨fs, hu, hone, f0, f1, rfl, ht0, ht1⟩ := fieldsTr
  obtain ⟨ys, n', -, hy, hcl, hyl, hf⟩ := DataW.trod_struct hu h
  rw [cellsTr] at hcl
  obtain ⟨c0, h0⟩ := get_of_len hcl (j := 0) (by omega)
  obtain ⟨c1, h1⟩ := get_of_len hcl (j := 1) (by omega)
  obtain ⟨y0, e0⟩ := get_of_len hyl (j := 0) (by simp)
  obtain ⟨y1, e1⟩ := get_of_len hyl (j := 1) (by simp)
  have k0 := hf 0 f0 rfl
  have k1 := hf 1 f1 rfl
  rw [one_field hone (j := 0) (f := f0) rfl h0, ht0, e0] at k0
  rw [one_field hone (j := 1) (f := f1) rfl h1, ht1, e1] at k1
  obtain ⟨x0, hx0, -⟩ := DataW.trod_bool Tryz.underlying4 k0
  obtain ⟨r, hr, hb⟩ := rowsG_of k1
  obtain ⟨a, c, er⟩ := hr.len
  have q0 : c0 = .bool x0 := by simpa using hx0
  subst er
  refine ⟨(x0, (a, r.length, c)), (x0, r), ?_, rfl, hr, ?_⟩
  · rcases cs with _ | ⟨a, _ | ⟨b, _ | ⟨c, cs⟩⟩⟩
    · simp at hcl
    · simp at hcl
    · simp at h0 h1
      rw [h0, h1, q0]
      rfl
    · simp at hcl
  · have hys : ys = [y0, y1] := by
      rcases ys with _ | ⟨a, _ | ⟨b, _ | ⟨c, ys⟩⟩⟩
      · simp at hyl
      · simp at hyl
      · simp at e0 e1; rw [e0, e1]
      · simp at hyl
    rw [hy, hys]
    simp only [List.map_cons, List.map_nil, Rows.uptoBulk, Rows.uptoBulkAll, trl]
    omega
theorem trows_of {fuel : Nat} {v : Value} {x : DataW H × List MemPlace} (h : DataW.trod enc Tryz.prog w 0 (fun _ => true) held fuel 22 [v] = some x) :
    ∃ l : List Trow, TrS (fun b => b < w.heap.size) w v l ∧ 1 + trls l ≤ Rows.uptoBulk x.1 := by
  rcases open_sl Tryz.underlying22 h with ⟨rfl, hx⟩ | ⟨a, len, cap, n, ys, rest, -, rfl, hl, hyl, hx, hi⟩
  · exact ⟨[], TrS.nil _ _, by rw [hx]; simp [Rows.uptoBulk, trls]⟩
  · rw [cellsTr] at hi
    obtain ⟨L, l, h1, h2, h3⟩ := two_lists (fun i (s : Bool × PV) (r : Trow) => (∀ (j : Nat) c, (trcell s)[j]? = some c → w.cell? (a.add (i * 2 + j)) = some c) ∧ (s.1 = r.1 ∧ GrS (fun b => b < w.heap.size) w (pv s.2) r.2) ∧ ∃ y, ys[i]? = some y ∧ trl r ≤ Rows.uptoBulk y.1) len (fun i hil => by
      obtain ⟨cs, y, hy, hcl, hc, ht⟩ := hi i hil
      obtain ⟨s, r, rfl, hsr, hr, hb⟩ := trow_of ht
      exact ⟨s, r, hc, ⟨hsr, hr⟩, y, hy, hb⟩)
    refine ⟨l, ⟨L, by rw [h1, h2], fss_of trcell_len (by decide) h1 hl (fun i x hx j c hj => ?_), fun i s r hs hr => (h3 i s r hs hr).2.1⟩, ?_⟩
    · have hil := (List.getElem?_eq_some_iff.1 hx).1
      obtain ⟨u, hu⟩ := get_of_len h2 (j := i) (by omega)
      exact (h3 i x u hx hu).1 j c hj
    · have hs := bulk_sum trl l (ys.map (·.1)) (by rw [List.length_map, h2, hyl]) (fun i r d hr hd => by
        obtain ⟨u, hu⟩ := get_of_len h1 (j := i) (by have := (List.getElem?_eq_some_iff.1 hr).1; omega)
        obtain ⟨y, hy, hb⟩ := (h3 i u r hu hr).2.2
        rw [List.getElem?_map, hy] at hd
        simp at hd
        subst hd
        exact hb)
      rw [hx]
      simp only [Rows.uptoBulk]
      unfold trls
      omega
theorem cellsTb : Tryz.prog.cellsOf 24 = 4 := by kernel_rfl
theorem fieldsTb : ∃ fs : Array Field, Tryz.prog.underlying 24 = some (.struct fs) ∧ oneCellFields Tryz.prog fs = true ∧ ∃ f0 f1 f2 f3 : Field, fs = #[f0, f1, f2, f3] ∧ f0.type = 9 ∧ f1.type = 22 ∧ f2.type = 4 ∧ f3.type = 4 :=
  ⟨_, Tryz.underlying24, by kernel_rfl, _, _, _, _, rfl, rfl, rfl, rfl, rfl⟩
def tbcell (cols : List UInt8) (rows : PV) (box all : Bool) : List Value := [.string ⟨cols.toArray⟩, pv rows, .bool box, .bool all]
def tbl (t : Tab) : Nat := t.cols.length + trls t.rows
theorem text_of {n : Nat} {c : Value} {y : DataW H × List MemPlace} (h : DataW.trod enc Tryz.prog w 0 (fun _ => true) held n 9 [c] = some y) : ∃ b : List UInt8, c = .string ⟨b.toArray⟩ ∧ Rows.uptoBulk y.1 = b.length + 1 := by
  obtain ⟨s, e1, e2, e3⟩ := DataW.trod_string Tryz.underlying9 h
  refine ⟨s.data.toList, by simpa using e1, ?_⟩
  rw [congrArg Prod.fst e2]
  simp [Rows.uptoBulk]
set_option maxRecDepth 100000 in
theorem table_of {n : Nat} {cs : List Value} {y : DataW H × List MemPlace} (h : DataW.trod enc Tryz.prog w 0 (fun _ => true) held n 24 cs = some y) :
    ∃ (t : Tab) (rows : PV), cs = tbcell t.cols rows t.box t.all ∧ TrS (fun b => b < w.heap.size) w (pv rows) t.rows ∧ 1 + tbl t ≤ Rows.uptoBulk y.1 := by
  obtain ⟨fs, hu, hone, f0, f1, f2, f3, rfl, ht0, ht1, ht2, ht3⟩ := fieldsTb
  obtain ⟨ys, n', -, hy, hcl, hyl, hf⟩ := DataW.trod_struct hu h
  rw [cellsTb] at hcl
  obtain ⟨c0, h0⟩ := get_of_len hcl (j := 0) (by omega)
  obtain ⟨c1, h1⟩ := get_of_len hcl (j := 1) (by omega)
  obtain ⟨c2, h2⟩ := get_of_len hcl (j := 2) (by omega)
  obtain ⟨c3, h3⟩ := get_of_len hcl (j := 3) (by omega)
  obtain ⟨y0, e0⟩ := get_of_len hyl (j := 0) (by simp)
  obtain ⟨y1, e1⟩ := get_of_len hyl (j := 1) (by simp)
  obtain ⟨y2, e2⟩ := get_of_len hyl (j := 2) (by simp)
  obtain ⟨y3, e3⟩ := get_of_len hyl (j := 3) (by simp)
  have k0 := hf 0 f0 rfl
  have k1 := hf 1 f1 rfl
  have k2 := hf 2 f2 rfl
  have k3 := hf 3 f3 rfl
  rw [one_field hone (j := 0) (f := f0) rfl h0, ht0, e0] at k0
  rw [one_field hone (j := 1) (f := f1) rfl h1, ht1, e1] at k1
  rw [one_field hone (j := 2) (f := f2) rfl h2, ht2, e2] at k2
  rw [one_field hone (j := 3) (f := f3) rfl h3, ht3, e3] at k3
  obtain ⟨b0, rfl, hb0⟩ := text_of k0
  obtain ⟨r, hr, hb⟩ := trows_of k1
  obtain ⟨x2, hx2, -⟩ := DataW.trod_bool Tryz.underlying4 k2
  obtain ⟨x3, hx3, -⟩ := DataW.trod_bool Tryz.underlying4 k3
  have q2 : c2 = .bool x2 := by simpa using hx2
  have q3 : c3 = .bool x3 := by simpa using hx3
  obtain ⟨a, c, er⟩ := hr.len
  subst er
  refine ⟨⟨b0, r, x2, x3⟩, (a, r.length, c), ?_, hr, ?_⟩
  · rcases cs with _ | ⟨a0, _ | ⟨a1, _ | ⟨a2, _ | ⟨a3, _ | ⟨a4, cs⟩⟩⟩⟩⟩
    · simp at hcl
    · simp at hcl
    · simp at hcl
    · simp at hcl
    · simp at h0 h1 h2 h3
      rw [h0, h1, h2, h3, q2, q3]
      rfl
    · simp at hcl
  · have hys : ys = [y0, y1, y2, y3] := by
      rcases ys with _ | ⟨a0, _ | ⟨a1, _ | ⟨a2, _ | ⟨a3, _ | ⟨a4, ys⟩⟩⟩⟩⟩
      · simp at hyl
      · simp at hyl
      · simp at hyl
      · simp at hyl
      · simp at e0 e1 e2 e3; rw [e0, e1, e2, e3]
      · simp at hyl
    have hb2 := bulk_one y2.1
    have hb3 := bulk_one y3.1
    rw [hy, hys]
    simp only [List.map_cons, List.map_nil, Rows.uptoBulk, Rows.uptoBulkAll, tbl]
    omega
set_option maxRecDepth 100000 in
theorem table_open {r : Reach} {b0 : Nat} {v : Value} {d : DataW H} {p : List MemPlace} (hval : Value.okWide Tryz.prog w r b0 24 v) (h : DataW.Trod enc Tryz.prog w 0 (fun _ => true) true 24 v d p) :
    ∃ (t : Tab) (rows : PV), v = .agg #[.string ⟨t.cols.toArray⟩, pv rows, .bool t.box, .bool t.all] ∧ TrS (fun b => b < w.heap.size) w (pv rows) t.rows ∧ 1 + tbl t ≤ Rows.uptoBulk d := by
  obtain ⟨cs, rfl, hsz⟩ := okWide_struct Tryz.underlying24 hval
  obtain ⟨fu, hf⟩ := h
  obtain ⟨t, q, hc, hq, hb⟩ := table_of (cs := cs.toList) hf
  have e : cs = #[.string ⟨t.cols.toArray⟩, pv q, .bool t.box, .bool t.all] := Array.ext' hc
  exact ⟨t, q, by rw [e], hq, hb⟩
end Go.Proofs.YtaeplneiicobgaaGreatDoor
