/- The contract of walk at an error that New made: it yields that one item. -/
import Derived.Test.YtalopkplpbdgjaaDoorW6
import Derived.RangeFuncKeeps
import Derived.RangeFuncBound
import Derived.RangeFuncLeaves
import Derived.RangeFuncCalls
import Derived.RangeFuncWrites
import Derived.Shelf.Abstract
import Derived.OwnWalkIn
import Derived.TacticsInMore
import Derived.LoopNIn
import Derived.LoopIn
namespace Go.Proofs.YtalopkplpbdgjaaDoor
open Go.RowKit Go.Shelf Go.Extern.Stop Go.Stop Go.Extern

attribute [local go_sem] Oper.semAt_some

/-- What walk yields: an error that New made, and what the moves around it do. -/
structure Item where
  b : Nat
  d : D
  s : Spot
structure Item.Ok (W : World) (x : Item) : Prop where
  k : W.cell? ⟨x.b, 0, none⟩ = some (.int .i64 x.d.1)
  l : W.cell? ⟨x.b, 1, none⟩ = some (.int .i64 x.d.2.1)
  c : W.cell? ⟨x.b, 2, none⟩ = some (.int .i64 x.d.2.2)
  nz : x.d.1 ≠ 0
  pl : inPlace x.d
  so : x.s.Ok 1048576
abbrev ItemAt (W : World) := { x : Item // x.Ok W }
def encs {W : World} (x : ItemAt W) : Array Value := #[.pointer (some ⟨x.1.b, 0, none⟩), .agg #[.int .i64 x.1.s.a1, .int .i64 x.1.s.l1, .int .i64 x.1.s.h1, .int .i64 x.1.s.a2, .int .i64 x.1.s.l2, .int .i64 x.1.s.h2]]
def dOf {W : World} (x : ItemAt W) : D := x.1.s.ap x.1.d

/-- The blocks that a walk reads again behind a round lie as they lay. -/
structure KT (n₀ : Nat) (W W' : World) : Prop where
  below : Below n₀ W W'
  mine : ∀ (b : Nat) (cs : Array Value) (t : TypeId) (fr : Nat × Nat), W.heap[b]? = some (.cells cs t fr) → t = 66 ∨ t = 34 → W'.heap[b]? = some (.cells cs t fr)
theorem KT.refl (n₀ : Nat) (W : World) : KT n₀ W W := ⟨Below.refl _ _, fun _ _ _ _ h _ => h⟩
theorem KT.trans {n₀ : Nat} {A B C : World} (h : KT n₀ A B) (k : KT n₀ B C) : KT n₀ A C := ⟨h.below.trans k.below, fun b cs t fr hb ht => k.mine b cs t fr (h.mine b cs t fr hb ht) ht⟩
theorem KT.of_below {n₀ : Nat} {A B : World} (h : Below A.heap.size A B) (hn : n₀ ≤ A.heap.size) : KT n₀ A B :=
  ⟨h.mono hn, fun b _cs _t _fr hb _ => (h.block b (Array.getElem?_eq_some_iff.1 hb).1).trans hb⟩

theorem grown_of_below {A B : World} (h : Below A.heap.size A B) (row : Option Nat) : A.grownBy B row := ⟨h.os, h.tape, h.output, h.size, fun k hk _ => h.block k hk⟩

def ErrType (w : World) : Prop := w.cell? ⟨0, 0, none⟩ = some (.iface 96 (.agg #[.pointer (some ⟨1, 34, none⟩)]))

theorem errType_below {A B : World} (h : ErrType A) (hb : Below A.heap.size A B) : ErrType B := by
  unfold ErrType at *
  rw [hb.cell (World.block_lt_of_cell? _ _ h)]
  exact h

def YieldsTo (W0 : World) (l N : Nat) (J Jx : List (ItemAt W0) → World → Prop) : Prop :=
  ∀ (m : Nat) (pre : List (ItemAt W0)) (x : ItemAt W0) (W : World), J pre W → pre.length < N → YieldAt Fence.wide m Tryd.prog l (encs x) W fun e W' =>
      (e = .returned (.bool true) ∧ J (pre ++ [x]) W' ∧ KT W0.heap.size W W') ∨ (e = .returned (.bool false) ∧ Jx (pre ++ [x]) W')

def WalkPost (W0 : World) (J Jx : List (ItemAt W0) → World → Prop) (ds : List D) (pre : List (ItemAt W0)) (W : World) (e : Ending) (W' : World) : Prop :=
  (e = .returned (.bool true) ∧ ∃ q : List (ItemAt W0), q.map dOf = ds ∧ J (pre ++ q) W' ∧ KT W0.heap.size W W') ∨ (e = .returned (.bool false) ∧ ∃ q : List (ItemAt W0), q.map dOf <+: ds ∧ q ≠ [] ∧ Jx (pre ++ q) W')

theorem one_no_moved (v : Value) (xT : TypeId) (w : World) : (Instr.typeAssert (.iface 62 v) xT 75 true).run Tryd.prog w = .ok (.tuple #[.pointer none, .bool false]) w := by kernel_rfl
theorem moved_moved (v : Value) (xT : TypeId) (w : World) : (Instr.typeAssert (.iface 75 v) xT 75 true).run Tryd.prog w = .ok (.tuple #[v, .bool true]) w := by kernel_rfl
theorem joined_no_moved (v : Value) (xT : TypeId) (w : World) : (Instr.typeAssert (.iface 78 v) xT 75 true).run Tryd.prog w = .ok (.tuple #[.pointer none, .bool false]) w := by kernel_rfl

set_option maxRecDepth 100000 in
set_option maxHeartbeats 4000000 in
theorem walk_one (W0 : World) (l N m : Nat) (J Jx : List (ItemAt W0) → World → Prop) (B0 : Nat) (hJ : AbidesFrom B0 J) (hY : YieldsTo W0 l N J Jx)
    (x : ItemAt W0) (pre : List (ItemAt W0)) (W : World) (hE : ErrType W0) (hB : Below W0.heap.size W0 W) (hj : J pre W) (hN : pre.length < N) :
    CallsIn Fence.wide m Tryd.prog 37 #[.iface 62 (.pointer (some ⟨x.1.b, 0, none⟩)), .agg #[.int .i64 x.1.s.a1, .int .i64 x.1.s.l1, .int .i64 x.1.s.h1, .int .i64 x.1.s.a2, .int .i64 x.1.s.l2, .int .i64 x.1.s.h2], .func (.yield l) #[] #[]] W (WalkPost W0 J Jx [dOf x] pre W) := by
  have hnot : ∀ (x : Bool) (w : World), (Op.unary .not (.bool x)).run Tryd.prog w = .ok (.bool (!x)) w := fun _ _ => rfl
  have i1 := fun v w => callsIn_wide (n := m - 1).2 (inside_one v w)
  refine callsIn_of_wp Tryd.func37 rfl trivial ?_ rfl
  simp only [Tryd.ntmps37, List.size_toArray, List.length_cons, List.length_nil, Nat.reduceAdd, Nat.reduceSub, Array.replicate_succ, Array.replicate_zero, List.push_toArray, List.append_toArray, List.nil_append, List.cons_append]
  have ta := one_no_moved
  gi_wp2_with (first
    | (refine ⟨trivial, fun h => (by cases h), ?_⟩; gi_at_call 46; refine (i1 _ _).mono ?_; rintro e W1 ⟨rfl, hb1⟩; have hB1 : Below W.heap.size W W1 := ((Below.refl _ W).alloc (Nat.le_refl _) _).trans (hb1.mono (by simp)); have hE1 : ErrType W1 := (errType_below hE (hB.trans (hB1.mono hB.size))); obtain ⟨hc1, hf1⟩ := bcell hb1)
    | (refine ⟨trivial, fun h => (by cases h), ?_⟩; gi_at_call 47; refine ((callsIn_wide (n := m - 1)).2 (made_one _ _ hE1)).mono ?_; rintro e W2 ⟨rfl, hb2⟩; obtain ⟨hc2, hf2⟩ := bcell hb2; have hz := hb1.size; simp at hz; have hn2 : W.heap.size < W1.heap.size := (by omega); have hB2 : Below W.heap.size W W2 := hB1.trans (hb2.mono hB1.size); obtain ⟨fn, tmps, assign, body, hy, hR⟩ := hY (m - 1) pre x W2 (hJ pre W W2 none hj (grown_of_below hB2 none) (fun r e => (by cases e))) hN; dsimp only [encs] at hy)
    | (refine ⟨fun h => (by cases h), ?_⟩; refine hR.mono ?_; clear hR; rintro e W3 (⟨rfl, hJ3, hk3⟩ | ⟨rfl, hx3⟩)))
  · go_ret
    exact .inl ⟨rfl, [x], rfl, hJ3, (KT.of_below hB2 hB.size).trans hk3⟩
  · go_ret
    exact .inr ⟨rfl, [x], List.prefix_refl _, by simp, hx3⟩
end Go.Proofs.YtalopkplpbdgjaaDoor
