/- A table's reader: what it holds, and what its methods leave as it was. -/
import Derived.Test.YtaeplneiicobgaaDoorV0
import Derived.Test.YtaeplneiicobgaaDoorJF
import Derived.Test.YtaeplneiicobgaaDoorQ2
import Derived.Test.YtaeplneiicobgaaDoorQ9
import Derived.Test.YtaeplneiicobgaaDoorEc
import Derived.Test.YtaeplneiicobgaaDoorJ7
set_option linter.unusedVariables false
set_option linter.unusedSimpArgs false
namespace Go.Proofs.YtaeplneiicobgaaDoor
open Go.RowKit
/-- What a reader has told so far: how many lines it has read, columns, rows, box, all lines, what is wrong. -/
structure RS where
  k : Nat
  cols : Txt
  rows : List Trow
  bx : Bool
  al : Bool
  d : List Dgn
abbrev rdC (line : Int) (vl : Value) (s : RS) (vr vd : Value) : List Value := [.int .i64 line, vl, .int .i64 (s.k : Int), .string ⟨s.cols.toArray⟩, vr, .bool s.bx, .bool s.al, vd]
structure RI (w : World) (B : Nat) (line : Int) (vl : Value) (s : RS) (W : World) : Prop where
  sz : w.heap.size ≤ B
  bel : Below w.heap.size w W
  val : ∃ vr vd, Blk W B 68 (rdC line vl s vr vd) ∧ WInv w.heap.size W vr s.rows ∧ DOwn w.heap.size W vd s.d
/-- All stands but the reader's own block, and rows of what is wrong; of the reader's the rows of the table do. -/
structure FrR (W W' : World) : Prop where
  size : W.heap.size ≤ W'.heap.size
  same : ∀ (g : Nat) (o : Obj), W.heap[g]? = some o → (∀ cur fz, o ≠ Obj.cells cur 68 fz) → (∀ cur fz, o ≠ Obj.cells cur 41 fz) → W'.heap[g]? = some o
  rw4 : ∀ (B : Nat) (x : Value), W.cell? ⟨B, 4, none⟩ = some x → (∃ cur fz, W.heap[B]? = some (Obj.cells cur 68 fz)) → W'.cell? ⟨B, 4, none⟩ = some x ∧ ∃ cur fz, W'.heap[B]? = some (Obj.cells cur 68 fz)
theorem FrR.refl (W : World) : FrR W W := ⟨Nat.le_refl _, fun _ _ h _ _ => h, fun B x h1 h2 => ⟨h1, h2⟩⟩
theorem FrR.trans {a b c : World} (h : FrR a b) (k : FrR b c) : FrR a c := ⟨Nat.le_trans h.size k.size, fun g o ho h1 h2 => k.same g o (h.same g o ho h1 h2) h1 h2, fun B x h1 h2 => k.rw4 B x (h.rw4 B x h1 h2).1 (h.rw4 B x h1 h2).2⟩
theorem FrR.below {W W' : World} (h : Below W.heap.size W W') : FrR W W' := ⟨h.size, fun g o ho _ _ => (h.block g (Array.getElem?_eq_some_iff.1 ho).1).trans ho, fun B x h1 ⟨cur, fz, h2⟩ => ⟨(h.cell (p := ⟨B, 4, none⟩) (Array.getElem?_eq_some_iff.1 h2).1).trans h1, cur, fz, (h.block B (Array.getElem?_eq_some_iff.1 h2).1).trans h2⟩⟩
theorem FrR.set {W : World} {B : Nat} {L : List Value} (h : Blk W B 68 L) (j : Nat) (v : Value) (hj : j ≠ 4 := by decide) : FrR W (W.setCell ⟨B, j, none⟩ v) := by
  refine ⟨(Below.refl 0 W).setCell (p := ⟨B, j, none⟩) (Nat.zero_le _) v |>.size, fun g o ho h1 _ => ?_, fun B' x h1 h2 => ?_⟩
  · rw [Below.heap_setCell _ _ _ _ (fun e => by
      have e : g = B := e
      have k : W.heap[B]? = some (.cells L.toArray 68 (0, 0)) := h
      rw [← e, ho] at k
      injection k with k
      exact h1 _ _ k)]
    exact ho
  · by_cases e : B' = B
    · subst e
      have h3 := h.set j v
      refine ⟨?_, _, _, h3⟩
      rw [h3.cell 4, ← h1, h.cell 4, List.getElem?_set_ne hj]
    · obtain ⟨cur, fz, h2⟩ := h2
      have h3 : (W.setCell ⟨B, j, none⟩ v).heap[B']? = W.heap[B']? := Below.heap_setCell _ _ _ _ (fun q => e q)
      exact ⟨(World.cell?_of_block h3).trans h1, cur, fz, h3.trans h2⟩
theorem FrR.grown {W W' : World} {row : Option Nat} (hg : W.grownBy W' row) (hr : ∀ g, row = some g → ∃ cur fz, W.heap[g]? = some (.cells cur 41 fz)) : FrR W W' :=
  ⟨hg.size, fun g o ho _ h2 => (hg.block g (Array.getElem?_eq_some_iff.1 ho).1 (fun e => by
    obtain ⟨cur, fz, hc⟩ := hr g e.symm
    rw [ho] at hc
    injection hc with hc
    exact h2 _ _ hc)).trans ho, fun B x h1 ⟨cur, fz, h2⟩ => by
    have h3 : W'.heap[B]? = W.heap[B]? := hg.block B (Array.getElem?_eq_some_iff.1 h2).1 (fun e => by
      obtain ⟨cur', fz', hc⟩ := hr B e.symm
      rw [h2] at hc
      injection hc with hc
      injection hc with _ hc
      exact absurd hc (by decide))
    exact ⟨(World.cell?_of_block h3).trans h1, cur, fz, h3.trans h2⟩⟩
theorem FrR.sam {W W' : World} (h : FrR W W') {e : TypeId} (base : Nat) (h1 : e ≠ 68) (h2 : e ≠ 41) : SamT e base W W' := fun g cur fz _ hg =>
  h.same g _ hg (fun c f q => by injection q with _ q; exact h1 q) (fun c f q => by injection q with _ q; exact h2 q)
theorem FrR.blk {W W' : World} (h : FrR W W') {g e : Nat} {L : List Value} (hb : Blk W g e L) (h1 : e ≠ 68) (h2 : e ≠ 41) : Blk W' g e L := hb.sam (Nat.zero_le _) (h.sam 0 h1 h2)
theorem FrR.ko {W W' : World} (h : FrR W W') : KeepsOthers W W' := ⟨h.size, fun k o hk ho => h.same k o hk (fun c f q => by subst q; cases ho) (fun c f q => by subst q; cases ho)⟩
theorem SamT.others {e : TypeId} {base B : Nat} {A A' : World} {row : Option Nat} (hg : A.grownBy A' row) (hr : ∀ r, row = some r → B ≤ r ∧ ∃ o : Obj, A.heap[r]? = some o ∧ o.isCells = false) : SamT e base A A' := fun g cur fz _ h =>
  (hg.block g (Array.getElem?_eq_some_iff.1 h).1 (fun q => by
    obtain ⟨-, o, ho, hc⟩ := hr g q.symm
    rw [h] at ho
    cases ho
    cases hc)).trans h
section
variable {w W W' : World} {B : Nat} {line : Int} {vl : Value} {s : RS}
theorem RI.lt (h : RI w B line vl s W) : B < W.heap.size := by
  obtain ⟨vr, vd, hb, -, -⟩ := h.val
  exact (Array.getElem?_eq_some_iff.1 hb).1
theorem RI.keep (h : RI w B line vl s W) (hb : Below W.heap.size W W') : RI w B line vl s W' := by
  obtain ⟨vr, vd, h1, h2, h3⟩ := h.val
  exact ⟨h.sz, h.bel.trans (hb.mono h.bel.size), vr, vd, h1.below hb, h2.keep hb, h3.keep hb⟩
theorem RI.fr0 {B' : Nat} (hB : w.heap.size ≤ B') : Fr0 B' (RI w B line vl s) := by
  intro A A' row h hg hr
  obtain ⟨vr, vd, h1, h2, h3⟩ := h.val
  exact ⟨h.sz, h.bel.grown hg h.bel.size (fun k e => Nat.le_trans hB (hr k e).1), vr, vd, h1.sam (Nat.zero_le _) (SamT.others hg hr), h2.sam (SamT.others hg hr) (SamT.others hg hr) (SamT.others hg hr), h3.sam (SamT.others hg hr)⟩
/-- A cell of the reader's is written that holds neither rows nor what is wrong. -/
theorem RI.put (h : RI w B line vl s W) {s' : RS} (j : Nat) (v : Value) (hr : s'.rows = s.rows) (hd : s'.d = s.d) (hl : ∀ vr vd, (rdC line vl s vr vd).set j v = rdC line vl s' vr vd) : RI w B line vl s' (W.setCell ⟨B, j, none⟩ v) := by
  obtain ⟨vr, vd, h1, h2, h3⟩ := h.val
  refine ⟨h.sz, h.bel.setCell (p := ⟨B, j, none⟩) h.sz _, vr, vd, hl vr vd ▸ h1.set j v, ?_, ?_⟩
  · rw [hr]; exact h2.sam (SamT.set h1 (by decide) _ _) (SamT.set h1 (by decide) _ _) (SamT.set h1 (by decide) _ _)
  · rw [hd]; exact h3.sam (SamT.set h1 (by decide) _ _)
theorem RI.frp (h : RI w B line vl s W) (j : Nat) (v : Value) (hj : j ≠ 4 := by decide) : FrR W (W.setCell ⟨B, j, none⟩ v) := by
  obtain ⟨vr, vd, h1, h2, h3⟩ := h.val
  exact FrR.set h1 j v hj
/-- Something more that is wrong. -/
theorem RI.tell (h : RI w B line vl s W) (x : Dgn) (hD : s.d.length ≤ 500000) :
    ∃ a c a' c' w2, W.cell? ⟨B, 7, none⟩ = some (.slice a s.d.length c) ∧ (appDg #[.slice a s.d.length c, .slice (some ⟨W.heap.size, 0, none⟩) 1 1]).run Tryd.prog (W.alloc (.cells (edcell x).toArray 41)) = .ok (.value (.slice a' (s.d.length + 1) c')) w2 ∧ w2.cell? ⟨B, 7, none⟩ = some (.slice a s.d.length c) ∧ w2.frozen? ⟨B, 7, none⟩ = false ∧
      RI w B line vl { s with d := s.d ++ [x] } (w2.setCell ⟨B, 7, none⟩ (.slice a' (s.d.length + 1) c')) ∧ FrR W (w2.setCell ⟨B, 7, none⟩ (.slice a' (s.d.length + 1) c')) ∧
      ∀ h, h < W.heap.size → h ≠ B → (Value.slice a s.d.length c).ownBlock ≠ some h → (w2.setCell ⟨B, 7, none⟩ (.slice a' (s.d.length + 1) c')).heap[h]? = W.heap[h]? ∧ (Value.slice a' (s.d.length + 1) c').ownBlock ≠ some h := by
  have b1 := below_lit W (.cells (edcell x).toArray 41)
  have hb0 := h.bel.size
  obtain ⟨vr, vd, h1, h2, h3⟩ := h.val
  obtain ⟨a, c, rfl⟩ := (FOwn.sl edcell_len h3).len
  have k1 := h1.below b1
  have k3 := h3.keep b1
  have hsz : (W.alloc (.cells (edcell x).toArray 41)).heap.size = W.heap.size + 1 := World.size_alloc ..
  obtain ⟨vd', w2, hrun, ho, hg, hown⟩ := appDg_own k3 (fs_lit edcell_len W 41 [x]) (by omega) (by simp; omega)
  obtain ⟨a', c', rfl⟩ := (FOwn.sl edcell_len ho).len
  have hl : (s.d ++ [x]).length = s.d.length + 1 := by simp
  rw [hl] at hrun ho
  have hty : ∀ g, (Value.slice a s.d.length c).ownBlock = some g → ∃ cur fz, (W.alloc (.cells (edcell x).toArray 41)).heap[g]? = some (.cells cur 41 fz) := fun g hg' => by
    obtain ⟨-, cur, hc⟩ := k3.ty hg'
    exact ⟨cur, _, hc⟩
  have f1 : FrR W w2 := (FrR.below b1).trans (FrR.grown hg hty)
  have sm : ∀ {e : TypeId}, e ≠ 41 → SamT e w.heap.size (W.alloc (.cells (edcell x).toArray 41)) w2 := fun he => SamT.grown hg hty he
  have blk2 : Blk w2 B 68 (rdC line vl s vr (.slice a s.d.length c)) := k1.sam h.sz (sm (by decide))
  refine ⟨a, c, a', c', w2, h1.cell 7, ?_, blk2.cell 7, blk2.frozen (by simp), ?_, f1.trans (FrR.set blk2 7 _), ?_⟩
  · exact hrun
  · refine ⟨h.sz, (((h.bel.trans (b1.mono hb0)).grown hg (by omega) (fun j e => (k3.ty e).1)).setCell (p := ⟨B, 7, none⟩) h.sz _), vr, _, blk2.set 7 _, ?_, ho.sam (SamT.set blk2 (by decide) _ _)⟩
    exact (((h2.keep b1).sam (sm (by decide)) (sm (by decide)) (sm (by decide))).sam (SamT.set blk2 (by decide) _ _) (SamT.set blk2 (by decide) _ _) (SamT.set blk2 (by decide) _ _))
  · intro h hlt hne hoe
    refine ⟨?_, ?_⟩
    · rw [Below.heap_setCell _ _ _ _ (fun e => hne e), hg.block h (by omega) (fun e => hoe e.symm)]
      exact b1.block h hlt
    · rw [hl] at hown
      rcases hown with e | e
      · rw [e]; exact hoe
      · rw [e, hsz]; intro q; injection q with q; omega
end
end Go.Proofs.YtaeplneiicobgaaDoor
