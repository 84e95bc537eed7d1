/- A reader of lines: what its block holds, the rows of its own, and what each method leaves as it lay. -/
import Derived.Test.YteckiifnldcjbaaDoorK5
import Derived.RangeFuncOwn
import Derived.Lib.Builder
import Derived.Lib.AppendStr
import Derived.Lib.UnsafeStr
namespace Go.Proofs.YteckiifnldcjbaaDoor
open Go.RowKit

/-- Blocks of cells of element type e, from base on, lie as they lay. -/
def SameE (e base : Nat) (W W' : World) : Prop := ∀ g cur, base ≤ g → W.heap[g]? = some (.cells cur e (0, 0)) → W'.heap[g]? = W.heap[g]?
theorem SameE.below {e base : Nat} {W W' : World} (h : Below W.heap.size W W') : SameE e base W W' := fun g cur _ hg => h.block g (Array.getElem?_eq_some_iff.1 hg).1
theorem SameE.low {e base B : Nat} (W : World) (hB : B < base) (j : Nat) (v : Value) : SameE e base W (W.setCell ⟨B, j, none⟩ v) := fun g cur hg _ =>
  Below.heap_setCell W ⟨B, j, none⟩ v g (by simp only; omega)
theorem SameE.grown {e base : Nat} {W W' : World} {row : Option Nat} (hg : W.grownBy W' row) (hr : ∀ r, row = some r → ∃ cur e', W.heap[r]? = some (.cells cur e' (0, 0)) ∧ e' ≠ e) : SameE e base W W' := fun g cur _ h =>
  hg.block g (Array.getElem?_eq_some_iff.1 h).1 (fun e1 => by
    obtain ⟨c2, e2, h2, hne⟩ := hr g e1.symm
    rw [h] at h2
    injection h2 with h2
    injection h2 with _ h3 _
    exact hne h3.symm)
theorem heap_freeze (W : World) (p : Addr) (n k : Nat) (h : k ≠ p.block) : (W.freeze p n).heap[k]? = W.heap[k]? := by
  unfold World.freeze
  split
  · rfl
  · simp only [Array.getElem?_modify]
    rw [if_neg (fun e => h e.symm)]
theorem FOwn.held {α : Type} {e n base : Nat} {f : α → List Value} {W W' : World} {x : Value} {l : List α} (h : FOwn e n f base W x l) (hs : SameE e base W W') : FOwn e n f base W' x l := by
  refine ⟨h.1, ?_⟩
  rcases h.2 with h0 | ⟨g, cap, cur, e1, hg, hh, r⟩
  · exact .inl h0
  · exact .inr ⟨g, cap, cur, e1, hg, (hs g cur hg hh).trans hh, r⟩

/-- What a reader leaves as it lay: all below base but its own block, and whatever is no cells. -/
structure Fr (base B : Nat) (W W' : World) : Prop where
  os : W'.os = W.os
  tape : W'.tape = W.tape
  output : W'.output = W.output
  low : ∀ k, k < base → k ≠ B → W'.heap[k]? = W.heap[k]?
  ko : KeepsOthers W W'
section
variable {base B : Nat} {W W' : World}
theorem Fr.refl (W : World) : Fr base B W W := ⟨rfl, rfl, rfl, fun _ _ _ => rfl, KeepsOthers.refl _⟩
theorem Fr.trans {W'' : World} (h : Fr base B W W') (k : Fr base B W' W'') : Fr base B W W'' :=
  ⟨k.os.trans h.os, k.tape.trans h.tape, k.output.trans h.output, fun i h1 h2 => (k.low i h1 h2).trans (h.low i h1 h2), h.ko.trans k.ko⟩
theorem Fr.size (h : Fr base B W W') : W.heap.size ≤ W'.heap.size := h.ko.size
theorem Fr.of_below (hb : base ≤ W.heap.size) (h : Below W.heap.size W W') : Fr base B W W' :=
  ⟨h.os, h.tape, h.output, fun k hk _ => h.block k (by omega), h.size, fun k o hk _ => (h.block k (Array.getElem?_eq_some_iff.1 hk).1).trans hk⟩
theorem Fr.set (W : World) (j : Nat) (v : Value) : Fr base B W (W.setCell ⟨B, j, none⟩ v) :=
  ⟨rfl, rfl, rfl, fun k _ hk => Below.heap_setCell W ⟨B, j, none⟩ v k hk, KeepsOthers.setCell _ _ _⟩
theorem Fr.alloc (hb : base ≤ W.heap.size) (o : Obj) : Fr base B W (W.alloc o) := Fr.of_below hb ((Below.refl _ _).alloc (Nat.le_refl _) _)
theorem Fr.drew (W : World) : Fr base B W W.drew := ⟨rfl, rfl, rfl, fun _ _ _ => rfl, ⟨Nat.le_refl _, fun _ _ h _ => h⟩⟩
theorem Fr.grown {row : Option Nat} (hb : base ≤ W.heap.size) (hg : W.grownBy W' row) (hr : ∀ r, row = some r → base ≤ r ∧ ∃ cur e, W.heap[r]? = some (.cells cur e (0, 0))) : Fr base B W W' :=
  ⟨hg.os, hg.tape, hg.output, fun k hk _ => hg.block k (by omega) (fun e => by have := (hr k e.symm).1; omega), KeepsOthers.of_grownBy hg (fun j o hj ho => by
    obtain ⟨-, cur, e, h⟩ := hr j hj
    rw [h] at ho
    cases ho
    rfl)⟩
theorem Fr.freeze {g : Nat} (hg : base ≤ g) (n : Nat) {cur : Array Value} {e : Nat} {fz : Nat × Nat} (hc : W.heap[g]? = some (.cells cur e fz)) : Fr base B W (W.freeze ⟨g, 0, none⟩ n) := by
  have hbf := Lib.below_freeze (B := base) (Below.refl base W) (p := ⟨g, 0, none⟩) hg n
  refine ⟨hbf.os, hbf.tape, hbf.output, fun k hk _ => hbf.block k hk, hbf.size, fun k o hk ho => ?_⟩
  rw [heap_freeze]
  · exact hk
  · rintro rfl
    rw [hc] at hk
    cases hk
    cases ho
theorem Fr.below {D : Nat} (h : Fr base B W W') (h1 : D ≤ base) (h2 : D ≤ B) : Below D W W' := ⟨h.os, h.tape, h.output, h.size, fun k hk => h.low k (by omega) (by omega)⟩
theorem Fr.mx (h : Fr base B W W') {D : Nat} (h1 : D ≤ base) (h2 : D ≤ B) {w : World} (hw : w.heap.size ≤ D) (hm : Mx w) (hb : Below D w W) : Mx W' :=
  hm.below hw (hb.trans (h.below h1 h2))
end

/-- A row of a document: its line, a macro's name, its arguments, a text. -/
abbrev Row := Int × List UInt8 × List (List UInt8) × List UInt8
abbrev RV := Int × List UInt8 × (Option Addr × Nat × Nat) × List UInt8
def avOf (a : Option Addr × Nat × Nat) : Value := .slice a.1 a.2.1 a.2.2
def rcell (r : RV) : List Value := [.int .i64 r.1, .string ⟨r.2.1.toArray⟩, avOf r.2.2.1, .string ⟨r.2.2.2.toArray⟩]
theorem rcell_len (r : RV) : (rcell r).length = 4 := rfl
theorem rcell_one (r : RV) : ∀ u ∈ rcell r, u.oneCell' = true := by
  intro u hu
  simp [rcell, avOf] at hu
  rcases hu with rfl | rfl | rfl | rfl <;> rfl
abbrev Dg := Int × Int × Int
def dcell (d : Dg) : List Value := [.int .i64 d.1, .int .i64 d.2.1, .int .i64 d.2.2]
theorem dcell_len (d : Dg) : (dcell d).length = 3 := rfl
theorem dcell_one (d : Dg) : ∀ u ∈ dcell d, u.oneCell' = true := by
  intro u hu
  simp [dcell] at hu
  rcases hu with rfl | rfl | rfl <;> rfl
abbrev DOwn (base : Nat) (W : World) (x : Value) (l : List Dg) : Prop := FOwn 45 3 dcell base W x l
abbrev VOwn (base : Nat) (W : World) (x : Value) (l : List RV) : Prop := FOwn 34 4 rcell base W x l
/-- A row as it lies, and what it says. -/
structure RvIs (A : Value → List (List UInt8) → Prop) (x : RV) (y : Row) : Prop where
  line : x.1 = y.1
  mac : x.2.1 = y.2.1
  text : x.2.2.2 = y.2.2.2
  args : A (avOf x.2.2.1) y.2.2.1
def AllIs (A : Value → List (List UInt8) → Prop) (L : List RV) (l : List Row) : Prop := L.length = l.length ∧ ∀ (j : Nat) x y, L[j]? = some x → l[j]? = some y → RvIs A x y
theorem AllIs.nil (A : Value → List (List UInt8) → Prop) : AllIs A [] [] := ⟨rfl, fun j x y h => by simp at h⟩
theorem AllIs.mono {A A' : Value → List (List UInt8) → Prop} {L : List RV} {l : List Row} (h : AllIs A L l) (ha : ∀ v a, A v a → A' v a) : AllIs A' L l :=
  ⟨h.1, fun j x y h1 h2 => by have := h.2 j x y h1 h2; exact ⟨this.line, this.mac, this.text, ha _ _ this.args⟩⟩
theorem AllIs.snoc {A : Value → List (List UInt8) → Prop} {L : List RV} {l : List Row} (h : AllIs A L l) {x : RV} {y : Row} (hx : RvIs A x y) : AllIs A (L ++ [x]) (l ++ [y]) := by
  refine ⟨by simp [h.1], fun j x' y' h1 h2 => ?_⟩
  by_cases hj : j < L.length
  · rw [List.getElem?_append_left hj] at h1
    rw [List.getElem?_append_left (by rw [← h.1]; exact hj)] at h2
    exact h.2 j x' y' h1 h2
  · rw [List.getElem?_append_right (by omega)] at h1
    rw [List.getElem?_append_right (by rw [← h.1]; omega)] at h2
    have e1 : j - L.length = 0 := by
      have := (List.getElem?_eq_some_iff.1 h1).1
      simp at this
      omega
    rw [e1] at h1
    rw [← h.1, e1] at h2
    simp at h1 h2
    subst h1 h2
    exact hx
def RwOwn (base : Nat) (W : World) (v : Value) (l : List Row) : Prop := ∃ L : List RV, VOwn base W v L ∧ AllIs (SOwn base W) L l
theorem RwOwn.nil (base : Nat) (W : World) : RwOwn base W (.slice none 0 0) [] := ⟨[], FOwn.nil _ _, AllIs.nil _⟩
theorem RwOwn.held {base : Nat} {W W' : World} {v : Value} {l : List Row} (h : RwOwn base W v l) (h1 : SameE 34 base W W') (h2 : SameE 9 base W W') : RwOwn base W' v l := by
  obtain ⟨L, hL, hA⟩ := h
  exact ⟨L, hL.held h1, hA.mono fun v a ha => ha.held h2⟩
theorem RwOwn.keep {base : Nat} {W W' : World} {v : Value} {l : List Row} (h : RwOwn base W v l) (hb : Below W.heap.size W W') : RwOwn base W' v l := h.held (SameE.below hb) (SameE.below hb)
theorem RwOwn.len {base : Nat} {W : World} {v : Value} {l : List Row} (h : RwOwn base W v l) : ∃ a cap, v = .slice a l.length cap := by
  obtain ⟨L, hL, hA⟩ := h
  obtain ⟨a, cap, e⟩ := (FOwn.sl rcell_len hL).len
  rw [hA.1] at e
  exact ⟨a, cap, e⟩
theorem infoRw : (Tryd.prog.info? 34).map (fun i => (i.zero, i.size, i.bytes)) = some (some (.agg #[.int .i64 0, .string ⟨#[]⟩, .slice none 0 0, .string ⟨#[]⟩]), 4, 64) := by kernel_rfl
theorem infoDg : (Tryd.prog.info? 45).map (fun i => (i.zero, i.size, i.bytes)) = some (some (.agg #[.int .i64 0, .int .i64 0, .int .i64 0]), 3, 24) := by kernel_rfl
theorem infoU8 : (Tryd.prog.info? 5).map (fun i => (i.zero, i.size, i.bytes)) = some (some (.int .u8 0), 1, 1) := by kernel_rfl

/-- A row more: the append itself. -/
theorem RwOwn.push {base : Nat} {W : World} {v : Value} {l : List Row} (h : RwOwn base W v l) (hb : base ≤ W.heap.size) (hl : l.length ≤ 500000) (y : Row) (a : Option Addr × Nat × Nat) (hA : SOwn base W (avOf a) y.2.2.1) (C : Array Value) (hC : C = (rcell (y.1, y.2.1, a, y.2.2.2)).toArray) :
    ∃ v' w2, (Builtin.append_ #[29, 29] 29 #[v, .slice (some ⟨W.heap.size, 0, none⟩) 1 1]).run Tryd.prog (W.alloc (.cells C 34)) = .ok v' w2 ∧ RwOwn base w2 v' (l ++ [y]) ∧
      (W.alloc (.cells C 34)).grownBy w2 v.ownBlock ∧ (∀ r, v.ownBlock = some r → base ≤ r ∧ r < W.heap.size ∧ ∃ cur, (W.alloc (.cells C 34)).heap[r]? = some (.cells cur 34 (0, 0))) := by
  obtain ⟨L, hL, hI⟩ := h
  obtain ⟨i0, hi, hz0, hz1, hz2⟩ := info_parts infoRw
  have b1 := below_lit W (.cells C 34)
  have h1 := hL.keep b1
  have hu : Fs 4 rcell (W.alloc (.cells C 34)) (.slice (some ⟨W.heap.size, 0, none⟩) 1 1) [(y.1, y.2.1, a, y.2.2.2)] := by
    have := fs_lit rcell_len W 34 [(y.1, y.2.1, a, y.2.2.2)]
    rw [flatV_one, ← hC] at this
    exact this
  obtain ⟨v', w2, hrun, ho, hg, hq⟩ := fapp rcell_len rcell_one (by decide) Tryd.underlying29 hi hz0 hz1 hz2 rfl (by decide) h1 hu (by simp; omega) (by rw [hI.1]; simp; omega)
  have hrow : ∀ r, v.ownBlock = some r → base ≤ r ∧ ∃ cur, (W.alloc (.cells C 34)).heap[r]? = some (.cells cur 34 (0, 0)) := fun r hr => h1.ty hr
  refine ⟨v', w2, hrun, ⟨L ++ [(y.1, y.2.1, a, y.2.2.2)], ho, ?_⟩, hg, fun r hr => ⟨(hrow r hr).1, ?_, (hrow r hr).2⟩⟩
  · have hs : SameE 9 base (W.alloc (.cells C 34)) w2 := SameE.grown hg (fun r hr => by
      obtain ⟨-, cur, e⟩ := hrow r hr
      exact ⟨cur, _, e, by decide⟩)
    exact (hI.mono fun v a ha => (ha.keep b1).held hs).snoc ⟨rfl, rfl, rfl, (hA.keep b1).held hs⟩
  · obtain ⟨-, cur, e⟩ := hL.ty hr
    exact (Array.getElem?_eq_some_iff.1 e).1
/-- Something more that is wrong: the append itself. -/
theorem DOwn.push {base : Nat} {W : World} {v : Value} {l : List Dg} (h : DOwn base W v l) (hb : base ≤ W.heap.size) (hl : l.length ≤ 500000) (y : Dg) (C : Array Value) (hC : C = (dcell y).toArray) :
    ∃ v' w2, (Builtin.append_ #[40, 40] 40 #[v, .slice (some ⟨W.heap.size, 0, none⟩) 1 1]).run Tryd.prog (W.alloc (.cells C 45)) = .ok v' w2 ∧ DOwn base w2 v' (l ++ [y]) ∧
      (W.alloc (.cells C 45)).grownBy w2 v.ownBlock ∧ (∀ r, v.ownBlock = some r → base ≤ r ∧ r < W.heap.size ∧ ∃ cur, (W.alloc (.cells C 45)).heap[r]? = some (.cells cur 45 (0, 0))) := by
  obtain ⟨i0, hi, hz0, hz1, hz2⟩ := info_parts infoDg
  have b1 := below_lit W (.cells C 45)
  have h1 := h.keep b1
  have hu : Fs 3 dcell (W.alloc (.cells C 45)) (.slice (some ⟨W.heap.size, 0, none⟩) 1 1) [y] := by
    have := fs_lit dcell_len W 45 [y]
    rw [flatV_one, ← hC] at this
    exact this
  obtain ⟨v', w2, hrun, ho, hg, hq⟩ := fapp dcell_len dcell_one (by decide) Tryd.underlying40 hi hz0 hz1 hz2 rfl (by decide) h1 hu (by simp; omega) (by simp; omega)
  refine ⟨v', w2, hrun, ho, hg, fun r hr => ⟨(h1.ty hr).1, ?_, (h1.ty hr).2⟩⟩
  obtain ⟨-, cur, e⟩ := h.ty hr
  exact (Array.getElem?_eq_some_iff.1 e).1
end Go.Proofs.YteckiifnldcjbaaDoor
