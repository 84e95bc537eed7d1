/- The program's own for documents: a node's cells; Deep, Count. The program's own for documents: Count, by a closure that counts. -/
import Derived.Test.YtpccjgoeoeehoaaDoorB0
set_option linter.unusedVariables false
set_option linter.unusedSimpArgs false
namespace Go.Proofs.YtpccjgoeoeehoaaDoor
open Go.RowKit
/-- The cells of a node. -/
structure NC (w : World) (g o : Nat) (x : NV) : Prop where
  c0 : w.cell? ⟨g, o, none⟩ = some (.int .i64 x.kind)
  c1 : w.cell? ⟨g, o + 1, none⟩ = some (.int .i64 x.line)
  c2 : w.cell? ⟨g, o + 2, none⟩ = some (.int .i64 x.n)
  c3 : w.cell? ⟨g, o + 3, none⟩ = some (.slice x.text.1 x.text.2.1 x.text.2.2)
  c4 : w.cell? ⟨g, o + 4, none⟩ = some (.slice x.kids.1 x.kids.2.1 x.kids.2.2)
  c5 : w.cell? ⟨g, o + 5, none⟩ = some (.slice x.rows.1 x.rows.2.1 x.rows.2.2)
  c6 : w.cell? ⟨g, o + 6, none⟩ = some (.string ⟨x.cols.toArray⟩)
  c7 : w.cell? ⟨g, o + 7, none⟩ = some (.slice x.trows.1 x.trows.2.1 x.trows.2.2)
  c8 : w.cell? ⟨g, o + 8, none⟩ = some (.bool x.box)
  c9 : w.cell? ⟨g, o + 9, none⟩ = some (.bool x.all)
attribute [local go_sem ↓ high] builtin_mxS
end Go.Proofs.YtpccjgoeoeehoaaDoor
namespace Go.Proofs.YtpccjgoeoeehoaaDoor
open Go.RowKit
/-- All blocks that were there stand as they stood, but some. -/
structure Exc (X : Nat → Prop) (w w' : World) : Prop where
  os : w'.os = w.os
  tape : w'.tape = w.tape
  output : w'.output = w.output
  size : w.heap.size ≤ w'.heap.size
  block : ∀ k, k < w.heap.size → ¬ X k → w'.heap[k]? = w.heap[k]?
theorem Exc.refl (X : Nat → Prop) (w : World) : Exc X w w := ⟨rfl, rfl, rfl, Nat.le_refl _, fun _ _ _ => rfl⟩
theorem Exc.trans {X Y : Nat → Prop} {a b c : World} (h : Exc X a b) (k : Exc Y b c) (hXY : ∀ i, i < a.heap.size → Y i → X i) : Exc X a c :=
  ⟨k.os.trans h.os, k.tape.trans h.tape, k.output.trans h.output, Nat.le_trans h.size k.size, fun i hi hx => (k.block i (Nat.lt_of_lt_of_le hi h.size) (fun q => hx (hXY i hi q))).trans (h.block i hi hx)⟩
theorem Exc.then {X : Nat → Prop} {a b c : World} (h : Exc X a b) (k : Exc X b c) : Exc X a c := h.trans k (fun _ _ q => q)
theorem Exc.of {X : Nat → Prop} {w w' : World} (h : Below w.heap.size w w') : Exc X w w' := ⟨h.os, h.tape, h.output, h.size, fun k hk _ => h.block k hk⟩
theorem Exc.below {X : Nat → Prop} {w w' : World} {D : Nat} (h : Exc X w w') (hD : D ≤ w.heap.size) (hX : ∀ b, b < D → ¬ X b) : Below D w w' :=
  ⟨h.os, h.tape, h.output, h.size, fun k hk => h.block k (Nat.lt_of_lt_of_le hk hD) (hX k hk)⟩
theorem Exc.mono {X Y : Nat → Prop} {w w' : World} (h : Exc X w w') (hXY : ∀ i, i < w.heap.size → X i → Y i) : Exc Y w w' :=
  ⟨h.os, h.tape, h.output, h.size, fun k hk hy => h.block k hk (fun q => hy (hXY k hk q))⟩
theorem Exc.set {X : Nat → Prop} {a w : World} (h : Exc X a w) {g : Nat} (j : Nat) (v : Value) (hg : g < a.heap.size → X g) : Exc X a (w.setCell ⟨g, j, none⟩ v) :=
  ⟨h.os, h.tape, h.output, by simpa [World.setCell] using h.size, fun k hk hx => (Below.heap_setCell w ⟨g, j, none⟩ v k (fun e => hx (by subst e; exact hg hk))).trans (h.block k hk hx)⟩
theorem Exc.blk {X : Nat → Prop} {w w' : World} (h : Exc X w w') {g : Nat} {e : TypeId} {L : List Value} (hb : Blk w g e L) (hX : ¬ X g) : Blk w' g e L := (h.block g (Array.getElem?_eq_some_iff.1 hb).1 hX).trans hb
theorem bel2 (w : World) (a b : Obj) : Below w.heap.size w ((w.alloc a).alloc b) := ((Below.refl _ w).alloc (Nat.le_refl _) _).alloc (by simp) _
theorem Blk.lt {W : World} {g : Nat} {e : TypeId} {L : List Value} (h : Blk W g e L) : g < W.heap.size := (Array.getElem?_eq_some_iff.1 h).1
end Go.Proofs.YtpccjgoeoeehoaaDoor
