/- Slices of structs of one-cell fields, as lists: what such a slice reads as, and rows of them that the call owns. No number of the program is in here. Rows of the call's own: of another element type they lie apart; blocks whose cells are all known; a piece of a row; an append as one step of a region that draws. No number of the program is in here. -/
import Derived.Test.YtpcbbhfbldchlaaProg
import Derived.WalkKit
import Derived.WalkSpells
import Derived.WalkLawsBesides
import Derived.Lib.Hide
import Derived.Below
import Derived.Maps.AppendAt
import Derived.OwnWalk
import Derived.Laws.OwnMore
set_option linter.unusedVariables false
set_option linter.unusedSimpArgs false
namespace Go.Proofs.Ytpcbbhfbldchlaa
open Go.RowKit
section
variable {α : Type} {n : Nat} {f : α → List Value}
def flatV (f : α → List Value) (l : List α) : List Value := (l.map f).flatten
theorem flatV_app (f : α → List Value) (a b : List α) : flatV f (a ++ b) = flatV f a ++ flatV f b := by simp [flatV]
theorem flatV_cons (f : α → List Value) (x : α) (l : List α) : flatV f (x :: l) = f x ++ flatV f l := by simp [flatV]
theorem flatV_len (hf : ∀ x, (f x).length = n) : ∀ l : List α, (flatV f l).length = l.length * n
  | [] => by simp [flatV]
  | x :: l => by
    rw [flatV_cons, List.length_append, hf x, flatV_len hf l, List.length_cons, Nat.add_mul]
    omega
theorem flatV_at (hf : ∀ x, (f x).length = n) : ∀ (l : List α) (j i : Nat) (x : α) (c : Value), l[j]? = some x → (f x)[i]? = some c → (flatV f l)[j * n + i]? = some c
  | [], j, i, x, c, h, _ => by simp at h
  | y :: l, 0, i, x, c, h, hc => by
    simp at h
    subst h
    rw [flatV_cons, Nat.zero_mul, Nat.zero_add, List.getElem?_append_left (List.getElem?_eq_some_iff.1 hc).1]
    exact hc
  | y :: l, j + 1, i, x, c, h, hc => by
    have ih := flatV_at hf l j i x c (by simpa using h) hc
    have e : (j + 1) * n + i = n + (j * n + i) := by rw [Nat.add_mul]; omega
    rw [flatV_cons, e, List.getElem?_append_right (by rw [hf y]; omega), hf y]
    rw [show n + (j * n + i) - n = j * n + i by omega]
    exact ih
theorem flatV_inv (hf : ∀ x, (f x).length = n) : ∀ (l : List α) (q : Nat) (c : Value), (flatV f l)[q]? = some c → ∃ (j i : Nat) (x : α), q = j * n + i ∧ l[j]? = some x ∧ (f x)[i]? = some c
  | [], q, c, h => by simp [flatV] at h
  | y :: l, q, c, h => by
    rw [flatV_cons] at h
    by_cases hq : q < n
    · rw [List.getElem?_append_left (by rw [hf y]; exact hq)] at h
      exact ⟨0, q, y, by simp, by simp, h⟩
    · rw [List.getElem?_append_right (by rw [hf y]; omega), hf y] at h
      obtain ⟨j, i, x, he, hj, hc⟩ := flatV_inv hf l (q - n) c h
      exact ⟨j + 1, i, x, by rw [Nat.add_mul]; omega, by simpa using hj, hc⟩
/-- A slice of such structs, that reads as l. -/
def Fs (n : Nat) (f : α → List Value) (w : World) (v : Value) (l : List α) : Prop :=
  ∃ a cap, v = .slice a l.length cap ∧ l.length ≤ cap ∧ ∀ j x, l[j]? = some x → ∃ b off, a = some ⟨b, off, none⟩ ∧ ∀ i c, (f x)[i]? = some c → w.cell? ⟨b, off + (j * n + i), none⟩ = some c
theorem Fs.below {w w' : World} {v : Value} {l : List α} (h : Fs n f w v l) (hb : Below w.heap.size w w') : Fs n f w' v l := by
  obtain ⟨a, cap, rfl, hc, hr⟩ := h
  refine ⟨a, cap, rfl, hc, fun j x hj => ?_⟩
  obtain ⟨b, off, rfl, h0⟩ := hr j x hj
  refine ⟨b, off, rfl, fun i c hi => ?_⟩
  have h1 := h0 i c hi
  have hlt := World.block_lt_of_cell? w _ h1
  exact (hb.cell hlt).trans h1
theorem Fs.nil (w : World) : Fs n f w (.slice none 0 0) [] := ⟨none, 0, rfl, Nat.le_refl _, fun j x hj => by simp at hj⟩
theorem Fs.len {w : World} {v : Value} {l : List α} (h : Fs n f w v l) : ∃ a cap, v = .slice a l.length cap := by
  obtain ⟨a, cap, rfl, _⟩ := h; exact ⟨a, cap, rfl⟩
/-- A row of the call's own. -/
def FOwn (e n : Nat) (f : α → List Value) (base : Nat) (W : World) (x : Value) (l : List α) : Prop := W.ownsRow base e n x l.length (flatV f l)
variable {e : Nat}
theorem FOwn.nil (base : Nat) (W : World) : FOwn e n f base W (.slice none 0 0) [] := World.ownsRow_nil _ _ _ _
theorem FOwn.sl (hf : ∀ x, (f x).length = n) {base : Nat} {W : World} {x : Value} {l : List α} (h : FOwn e n f base W x l) : Fs n f W x l := by
  rcases h.2 with ⟨rfl, h0⟩ | ⟨g, cap, cur, rfl, hb, hh, hn, _⟩
  · have : l = [] := List.eq_nil_of_length_eq_zero h0
    subst this
    exact Fs.nil W
  · refine ⟨_, _, rfl, hn, fun j x hj => ⟨g, 0, rfl, fun i c hi => ?_⟩⟩
    have := World.ownsRow.cells (g := g) h rfl (j * n + i) c (flatV_at hf l j i x c hj hi)
    rw [Addr.add_lit] at this
    exact this
theorem FOwn.below {base : Nat} {w0 W w' : World} {x : Value} {l : List α} (h : FOwn e n f base W x l) (hb : Below base w0 W) (hs : base ≤ W.heap.size) (hg : W.grownBy w' x.ownBlock) : Below base w0 w' :=
  hb.grown hg hs (fun j e => (World.ownsRow.lt h j e).1)
theorem FOwn.mono {base base' : Nat} {W : World} {x : Value} {l : List α} (h : FOwn e n f base W x l) (hb : base' ≤ base) : FOwn e n f base' W x l := by
  refine ⟨h.1, ?_⟩
  rcases h.2 with h0 | ⟨g, cap, cur, e1, hg, r⟩
  · exact .inl h0
  · exact .inr ⟨g, cap, cur, e1, by omega, r⟩
theorem FOwn.keep {base : Nat} {W w' : World} {x : Value} {l : List α} (h : FOwn e n f base W x l) (hb : Below W.heap.size W w') : FOwn e n f base w' x l := by
  refine ⟨h.1, ?_⟩
  rcases h.2 with h0 | ⟨g, cap, cur, e1, hg, hh, r⟩
  · exact .inl h0
  · exact .inr ⟨g, cap, cur, e1, hg, (hb.block g (Array.getElem?_eq_some_iff.1 hh).1).trans hh, r⟩
/-- A row grows: one of another block stays. -/
theorem FOwn.apart {base : Nat} {W w' : World} {x : Value} {l : List α} {row : Option Nat} (h : FOwn e n f base W x l) (hg : W.grownBy w' row) (hne : x.ownBlock = none ∨ x.ownBlock ≠ row) : FOwn e n f base w' x l :=
  World.ownsRow.kept h hg hne
theorem fs_new {w : World} (hf : ∀ x, (f x).length = n) (C : Array Value) (t : TypeId) (fr : Nat × Nat) (l : List α) (cap : Nat) (hc : l.length ≤ cap) (h : ∀ (q : Nat) (c : Value), (flatV f l)[q]? = some c → C[q]? = some c) :
    Fs n f (w.alloc (.cells C t fr)) (.slice (some ⟨w.heap.size, 0, none⟩) l.length cap) l := by
  refine ⟨_, _, rfl, hc, fun j x hj => ⟨_, _, rfl, fun i c hi => ?_⟩⟩
  rw [Nat.zero_add, World.cell?_alloc_mark]
  exact h _ _ (flatV_at hf l j i x c hj hi)
theorem fs_lit (hf : ∀ x, (f x).length = n) (w : World) (t : TypeId) (l : List α) :
    Fs n f (w.alloc (.cells (flatV f l).toArray t)) (.slice (some ⟨w.heap.size, 0, none⟩) l.length l.length) l :=
  fs_new hf _ t (0, 0) l l.length (Nat.le_refl _) (fun q c hq => by simpa using hq)
theorem fown_lit (hf : ∀ x, (f x).length = n) {base : Nat} (w : World) (hb : base ≤ w.heap.size) (l : List α) (hl : l.length ≤ maxLen) :
    FOwn e n f base (w.alloc (.cells (flatV f l).toArray e)) (.slice (some ⟨w.heap.size, 0, none⟩) l.length l.length) l :=
  ⟨flatV_len hf l, .inr ⟨w.heap.size, l.length, _, rfl, hb, heap_alloc_new w _, Nat.le_refl _, hl, by simp [flatV_len hf l], List.take_of_length_le (by simp [flatV_len hf l])⟩⟩
/-- 'append(x, u...)', x a row of the call's own. -/
theorem fapp {P : Program} {W : World} {base t bytes : Nat} {i0 : TypeInfo} {z : Value} (hf : ∀ x, (f x).length = n) (h1 : ∀ x, ∀ u ∈ f x, u.oneCell' = true) (hn : 0 < n)
    (ht : P.underlying t = some (.slice e)) (hi : P.info? e = some i0) (hz0 : i0.zero = some z) (hz1 : i0.size = n) (hz2 : i0.bytes = bytes) (hzs : z.cells.size = n) (hbt : bytes ≤ 1000)
    {x u : Value} {l m : List α} (h : FOwn e n f base W x l) (hu : Fs n f W u m) (hb : base ≤ W.heap.size) (hd : l.length + m.length ≤ 1000000) :
    ∃ x' w', (Builtin.append_ #[t, t] t #[x, u]).run P W = .ok x' w' ∧ FOwn e n f base w' x' (l ++ m) ∧ W.grownBy w' x.ownBlock ∧ (x'.ownBlock = x.ownBlock ∨ x'.ownBlock = some W.heap.size) := by
  obtain ⟨a, cap, rfl, hcap, hc⟩ := hu
  rcases a with _ | a
  · obtain rfl : m = [] := by
      rcases m with _ | ⟨y, es⟩
      · rfl
      · obtain ⟨g, off, hg, _⟩ := hc 0 y rfl
        cases hg
    refine ⟨x, W, ?_, by simpa using h, ⟨rfl, rfl, rfl, Nat.le_refl _, fun _ _ _ => rfl⟩, .inl rfl⟩
    have hz : ∀ (b : Option Addr) (k c : Nat), k ≤ c → (Builtin.append_ #[t, t] t #[.slice b k c, .slice none 0 cap]).run P W = .ok (.slice b k c) W := by
      intro b k c hnc
      rcases b with _ | b
      · simp [Builtin.append_, run_underlying ht, sizeOf, typeInfo, hi, Builtin.lenOf, Builtin.firstCells, hnc, Result.andThen]
      · simp [Builtin.append_, run_underlying ht, sizeOf, typeInfo, hi, Builtin.lenOf, Builtin.firstCells, hnc, Result.andThen, storeCells]
    rcases h.2 with ⟨rfl, h0⟩ | ⟨g, cap', cur, rfl, hh⟩
    · exact hz none 0 0 (Nat.le_refl _)
    · exact hz _ _ _ hh.2.2.1
  · have hcells : ∀ j v, (flatV f m)[j]? = some v → W.cell? (a.add j) = some v := by
      intro j v hj
      obtain ⟨q, i, y, rfl, hq, hi⟩ := flatV_inv hf m j v hj
      obtain ⟨g, off, hg, h0⟩ := hc q y hq
      obtain rfl := Option.some.inj hg
      rw [Addr.add_lit]
      exact h0 i v hi
    obtain ⟨x', w', hr, ho, hg, _, hq⟩ := run_append_own_at (P := P) W base t t e i0 z n bytes ht hi hz0 hz1 hz2 hzs hn x l.length (flatV f l) h a m.length cap (flatV f m) (flatV_len hf m) hcells (fun u hu => by
      simp only [flatV, List.mem_flatten, List.mem_map] at hu
      obtain ⟨ys, ⟨y, _, rfl⟩, hy⟩ := hu
      exact h1 y u hy) (by unfold maxLen; omega) (by
        have : (l.length + m.length) * bytes ≤ 1000000 * 1000 := Nat.mul_le_mul hd hbt
        omega) hb
    exact ⟨x', w', hr, by unfold FOwn; rw [flatV_app, List.length_append]; exact ho, hg, hq⟩
/-- 'v[k:]'. -/
theorem Fs.back {P : Program} {w : World} {v : Value} {l : List α} {t : TypeId} {i0 : TypeInfo} (ht : P.underlying t = some (.slice e)) (hi : P.info? e = some i0) (hz1 : i0.size = n) (h : Fs n f w v l) (k : Nat) (hk : k ≤ l.length) :
    ∃ u, (∀ W : World, (Instr.slice t v (some (.int .i64 (k : Int))) none none).run P W = .ok u W) ∧ Fs n f w u (l.drop k) := by
  obtain ⟨a, cap, rfl, hc, hr⟩ := h
  refine ⟨.slice (if cap = k then a else a.map (·.add (k * n))) (l.length - k) (cap - k), fun W => ?_, ?_⟩
  · have h1 : k ≤ cap := by omega
    simp [Instr.slice, Instr.sliceBounds, Instr.sliceBound, asIntOf, run_underlying ht, h1, hk, sizeOf, typeInfo, hi, hz1]
  · have hl : (l.drop k).length = l.length - k := by rw [List.length_drop]
    refine ⟨_, _, by rw [hl], by rw [hl]; omega, fun j x hj => ?_⟩
    have hj1 : j < l.length - k := by
      have := (List.getElem?_eq_some_iff.1 hj).1
      omega
    rw [List.getElem?_drop] at hj
    obtain ⟨g, off, rfl, h0⟩ := hr (k + j) x hj
    rw [if_neg (by omega)]
    refine ⟨g, off + k * n, ?_, fun i c hi => ?_⟩
    · simp only [Option.map_some, Option.some.injEq]
      rw [Addr.add_lit]
    · have := h0 i c hi
      rw [show off + k * n + (j * n + i) = off + ((k + j) * n + i) by rw [Nat.add_mul]; omega]
      exact this
end
end Go.Proofs.Ytpcbbhfbldchlaa
namespace Go.Proofs.Ytpcbbhfbldchlaa
open Go.RowKit
/-- Block g holds the cells L. -/
def Blk (W : World) (g : Nat) (e : TypeId) (L : List Value) : Prop := W.heap[g]? = some (.cells L.toArray e (0, 0))
theorem Blk.cell {W : World} {g : Nat} {e : TypeId} {L : List Value} (h : Blk W g e L) (j : Nat) : W.cell? ⟨g, j, none⟩ = L[j]? := by
  have h' : W.heap[g]? = some (.cells L.toArray e (0, 0)) := h
  simp only [World.cell?, h']
  simp
theorem Blk.frozen {W : World} {g : Nat} {e : TypeId} {L : List Value} (h : Blk W g e L) {j : Nat} (hj : j < L.length) : W.frozen? ⟨g, j, none⟩ = false := by
  have h' : W.heap[g]? = some (.cells L.toArray e (0, 0)) := h
  simp only [World.frozen?, h']
  simp
theorem Blk.set {W : World} {g : Nat} {e : TypeId} {L : List Value} (h : Blk W g e L) (j : Nat) (v : Value) : Blk (W.setCell ⟨g, j, none⟩ v) g e (L.set j v) := by
  have h' : W.heap[g]? = some (.cells L.toArray e (0, 0)) := h
  unfold Blk
  rw [setCell_eq_setRow W g j L.toArray e (0, 0) v h', setRow_heap W g _ _ e (0, 0) h']
  simp
theorem Blk.below {W W' : World} {g : Nat} {e : TypeId} {L : List Value} (h : Blk W g e L) (hb : Below W.heap.size W W') : Blk W' g e L := (hb.block g (Array.getElem?_eq_some_iff.1 h).1).trans h
section
variable {α : Type} {n : Nat} {f : α → List Value}
theorem Blk.fown {W : World} {g e base : Nat} {l : List α} (hf : ∀ x, (f x).length = n) (h : Blk W g e (flatV f l)) (hb : base ≤ g) (hl : l.length ≤ maxLen) :
    FOwn e n f base W (.slice (some ⟨g, 0, none⟩) l.length l.length) l :=
  ⟨flatV_len hf l, .inr ⟨g, l.length, _, rfl, hb, h, Nat.le_refl _, hl, by simp [flatV_len hf l], List.take_of_length_le (by simp [flatV_len hf l])⟩⟩
end
theorem FOwn.ty {α : Type} {e n : Nat} {f : α → List Value} {base : Nat} {W : World} {x : Value} {l : List α} (h : FOwn e n f base W x l) {g : Nat} (hg : x.ownBlock = some g) : base ≤ g ∧ ∃ cur, W.heap[g]? = some (.cells cur e (0, 0)) := by
  rcases h.2 with ⟨rfl, _⟩ | ⟨g', cap, cur, rfl, hb, hh, _⟩
  · cases hg
  · simp only [Value.ownBlock, Option.some.injEq] at hg
    subst hg
    exact ⟨hb, cur, hh⟩
theorem ty_apart {α β : Type} {e n e' n' : Nat} {f : α → List Value} {f' : β → List Value} {base base' : Nat} {W : World} {x y : Value} {l : List α} {m : List β} (h1 : FOwn e n f base W x l) (h2 : FOwn e' n' f' base' W y m) (he : e ≠ e') :
    x.ownBlock = none ∨ x.ownBlock ≠ y.ownBlock := by
  cases hx : x.ownBlock with
  | none => exact .inl rfl
  | some g =>
    refine .inr fun h => ?_
    obtain ⟨-, c1, e1⟩ := h1.ty hx
    obtain ⟨-, c2, e2⟩ := h2.ty h.symm
    rw [e1] at e2
    injection e2 with e2
    injection e2 with _ e3 _
    exact he e3
/-- 'v[q:k]'. -/
theorem Fs.mid {α : Type} {n : Nat} {f : α → List Value} {e : Nat} {P : Program} {w : World} {v : Value} {l : List α} {t : TypeId} {i0 : TypeInfo} (ht : P.underlying t = some (.slice e)) (hi : P.info? e = some i0) (hz1 : i0.size = n) (h : Fs n f w v l) (q k : Nat) (hq : q ≤ k) (hk : k ≤ l.length) :
    ∃ u, (∀ W : World, (Instr.slice t v (some (.int .i64 (q : Int))) (some (.int .i64 (k : Int))) none).run P W = .ok u W) ∧ Fs n f w u ((l.take k).drop q) := by
  obtain ⟨a, cap, rfl, hc, hr⟩ := h
  refine ⟨.slice (if cap = q then a else a.map (·.add (q * n))) (k - q) (cap - q), fun W => ?_, ?_⟩
  · have h1 : k ≤ cap := by omega
    simp [Instr.slice, Instr.sliceBounds, Instr.sliceBound, asIntOf, run_underlying ht, h1, hq, sizeOf, typeInfo, hi, hz1]
  · have hl : ((l.take k).drop q).length = k - q := by rw [List.length_drop, List.length_take]; omega
    refine ⟨_, _, by rw [hl], by rw [hl]; omega, fun j x hj => ?_⟩
    have hj1 : j < k - q := by
      have := (List.getElem?_eq_some_iff.1 hj).1
      omega
    rw [List.getElem?_drop, List.getElem?_take_of_lt (by omega)] at hj
    obtain ⟨g, off, rfl, h0⟩ := hr (q + j) x hj
    rw [if_neg (by omega)]
    refine ⟨g, off + q * n, ?_, fun i c hi => ?_⟩
    · simp only [Option.map_some, Option.some.injEq]
      rw [Addr.add_lit]
    · have := h0 i c hi
      rw [show off + q * n + (j * n + i) = off + ((q + j) * n + i) by rw [Nat.add_mul]; omega]
      exact this
theorem take_same {α : Type} {a b : List α} {j : Nat} {x : α} (h : a.take j = b.take j) (ha : a[j]? = some x) (hb : b[j]? = some x) : a.take (j + 1) = b.take (j + 1) := by
  rw [List.take_add_one, List.take_add_one, h, ha, hb]
theorem not_same {α : Type} {a b : List α} {j : Nat} {x y : α} (ha : a[j]? = some x) (hb : b[j]? = some y) (h : x ≠ y) : a ≠ b := by
  rintro rfl
  rw [ha] at hb
  exact h (Option.some.inj hb)
end Go.Proofs.Ytpcbbhfbldchlaa
