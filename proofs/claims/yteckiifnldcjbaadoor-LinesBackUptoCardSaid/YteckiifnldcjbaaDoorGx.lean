/- Rows of the call's own: of another element type they lie apart; blocks whose cells are all known; a piece of a row; an append as one step of a region that draws. No number of the program is in here. -/
import Derived.Test.YteckiifnldcjbaaDoorG0
import Derived.Laws.OwnMore
namespace Go.Proofs.YteckiifnldcjbaaDoor
open Go.RowKit

/-- Block g holds the cells L. -/
def Blk (W : World) (g : Nat) (e : TypeId) (L : List Value) : Prop := W.heap[g]? = some (.cells L.toArray e (0, 0))
theorem Blk.cell {W : World} {g : Nat} {e : TypeId} {L : List Value} (h : Blk W g e L) (j : Nat) : W.cell? ⟨g, j, none⟩ = L[j]? := by
  have h' : W.heap[g]? = some (.cells L.toArray e (0, 0)) := h
  simp only [World.cell?, h']
  simp
theorem Blk.frozen {W : World} {g : Nat} {e : TypeId} {L : List Value} (h : Blk W g e L) {j : Nat} (hj : j < L.length) : W.frozen? ⟨g, j, none⟩ = false := by
  have h' : W.heap[g]? = some (.cells L.toArray e (0, 0)) := h
  simp only [World.frozen?, h']
  simp
theorem Blk.set {W : World} {g : Nat} {e : TypeId} {L : List Value} (h : Blk W g e L) (j : Nat) (v : Value) : Blk (W.setCell ⟨g, j, none⟩ v) g e (L.set j v) := by
  have h' : W.heap[g]? = some (.cells L.toArray e (0, 0)) := h
  unfold Blk
  rw [setCell_eq_setRow W g j L.toArray e (0, 0) v h', setRow_heap W g _ _ e (0, 0) h']
  simp
theorem Blk.below {W W' : World} {g : Nat} {e : TypeId} {L : List Value} (h : Blk W g e L) (hb : Below W.heap.size W W') : Blk W' g e L := (hb.block g (Array.getElem?_eq_some_iff.1 h).1).trans h

section
variable {α : Type} {n : Nat} {f : α → List Value}
theorem Blk.fown {W : World} {g e base : Nat} {l : List α} (hf : ∀ x, (f x).length = n) (h : Blk W g e (flatV f l)) (hb : base ≤ g) (hl : l.length ≤ maxLen) :
    FOwn e n f base W (.slice (some ⟨g, 0, none⟩) l.length l.length) l :=
  ⟨flatV_len hf l, .inr ⟨g, l.length, _, rfl, hb, h, Nat.le_refl _, hl, by simp [flatV_len hf l], List.take_of_length_le (by simp [flatV_len hf l])⟩⟩
end

theorem FOwn.ty {α : Type} {e n : Nat} {f : α → List Value} {base : Nat} {W : World} {x : Value} {l : List α} (h : FOwn e n f base W x l) {g : Nat} (hg : x.ownBlock = some g) : base ≤ g ∧ ∃ cur, W.heap[g]? = some (.cells cur e (0, 0)) := by
  rcases h.2 with ⟨rfl, _⟩ | ⟨g', cap, cur, rfl, hb, hh, _⟩
  · cases hg
  · simp only [Value.ownBlock, Option.some.injEq] at hg
    subst hg
    exact ⟨hb, cur, hh⟩
theorem ty_apart {α β : Type} {e n e' n' : Nat} {f : α → List Value} {f' : β → List Value} {base base' : Nat} {W : World} {x y : Value} {l : List α} {m : List β} (h1 : FOwn e n f base W x l) (h2 : FOwn e' n' f' base' W y m) (he : e ≠ e') :
    x.ownBlock = none ∨ x.ownBlock ≠ y.ownBlock := by
  cases hx : x.ownBlock with
  | none => exact .inl rfl
  | some g =>
    refine .inr fun h => ?_
    obtain ⟨-, c1, e1⟩ := h1.ty hx
    obtain ⟨-, c2, e2⟩ := h2.ty h.symm
    rw [e1] at e2
    injection e2 with e2
    injection e2 with _ e3 _
    exact he e3

/-- 'v[q:k]'. -/
theorem Fs.mid {α : Type} {n : Nat} {f : α → List Value} {e : Nat} {P : Program} {w : World} {v : Value} {l : List α} {t : TypeId} {i0 : TypeInfo} (ht : P.underlying t = some (.slice e)) (hi : P.info? e = some i0) (hz1 : i0.size = n) (h : Fs n f w v l) (q k : Nat) (hq : q ≤ k) (hk : k ≤ l.length) :
    ∃ u, (∀ W : World, (Instr.slice t v (some (.int .i64 (q : Int))) (some (.int .i64 (k : Int))) none).run P W = .ok u W) ∧ Fs n f w u ((l.take k).drop q) := by
  obtain ⟨a, cap, rfl, hc, hr⟩ := h
  refine ⟨.slice (if cap = q then a else a.map (·.add (q * n))) (k - q) (cap - q), fun W => ?_, ?_⟩
  · have h1 : k ≤ cap := by omega
    simp [Instr.slice, Instr.sliceBounds, Instr.sliceBound, asIntOf, run_underlying ht, h1, hq, sizeOf, typeInfo, hi, hz1]
  · have hl : ((l.take k).drop q).length = k - q := by rw [List.length_drop, List.length_take]; omega
    refine ⟨_, _, by rw [hl], by rw [hl]; omega, fun j x hj => ?_⟩
    have hj1 : j < k - q := by
      have := (List.getElem?_eq_some_iff.1 hj).1
      omega
    rw [List.getElem?_drop, List.getElem?_take_of_lt (by omega)] at hj
    obtain ⟨g, off, rfl, h0⟩ := hr (q + j) x hj
    rw [if_neg (by omega)]
    refine ⟨g, off + q * n, ?_, fun i c hi => ?_⟩
    · simp only [Option.map_some, Option.some.injEq]
      rw [Addr.add_lit]
    · have := h0 i c hi
      rw [show off + q * n + (j * n + i) = off + ((q + j) * n + i) by rw [Nat.add_mul]; omega]
      exact this
/-- An append whose run is known, as one step of a region that draws. -/
theorem step_append_run {P : Program} {ops : Array Oper} {o : Oper} {a : Act} {w : World} {K : Act → World → Prop} {Q : Exit → Act → World → Prop} {E : Prop}
    (hgd : o.guard = none) (d s : Operand) (t t' : TypeId) (hop : o.op = Op.call { callee := Callee.builtin Builtin.append, args := #[d, s], argTypes := #[t, t'] })
    (vd vs : Value) (hd : a.eval d = vd) (hs : a.eval s = vs) {v' : Value} {w' : World} (hrun : (Builtin.append_ #[t, t'] o.type #[vd, vs]).run P w = .ok v' w') (hK : K (a.put o.dst v') w') :
    if Region.wanted o (yielded ops a.tmps) = true then Oper.wp P o a w K Q else E := by
  have hw : Region.wanted o (yielded ops a.tmps) = true := by simp [Region.wanted, hgd]
  rw [if_pos hw]
  unfold Oper.wp
  have hb : builtin .append #[t, t'] o.type = fun _ args => (do pure (.value (← Builtin.append_ #[t, t'] o.type args)) : Sem Next) := rfl
  simp [execOp, hop, resolve, invoke, hb, hd, hs, hrun, Result.andThen]
  exact hK

theorem grown_cell {W W' : World} {row : Option Nat} (h : W.grownBy W' row) {b : Nat} (hb : b < W.heap.size) (hr : row ≠ some b) : W'.cell? ⟨b, 0, none⟩ = W.cell? ⟨b, 0, none⟩ ∧ W'.frozen? ⟨b, 0, none⟩ = W.frozen? ⟨b, 0, none⟩ :=
  ⟨World.cell?_of_block (w := W) (h.block b hb (fun e => hr e.symm)), World.frozen?_of_block (w := W) (h.block b hb (fun e => hr e.symm))⟩
theorem take_same {α : Type} {a b : List α} {j : Nat} {x : α} (h : a.take j = b.take j) (ha : a[j]? = some x) (hb : b[j]? = some x) : a.take (j + 1) = b.take (j + 1) := by
  rw [List.take_add_one, List.take_add_one, h, ha, hb]
theorem not_same {α : Type} {a b : List α} {j : Nat} {x y : α} (ha : a[j]? = some x) (hb : b[j]? = some y) (h : x ≠ y) : a ≠ b := by
  rintro rfl
  rw [ha] at hb
  exact h (Option.some.inj hb)
end Go.Proofs.YteckiifnldcjbaaDoor
