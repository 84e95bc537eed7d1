/- Memory in which integers were changed, and nothing else. -/
import Derived.Test.YtienjlbpaedbjaaDoorOQ2
namespace Go.Proofs.YtienjlbpaedbjaaDoor
open Go.RowKit

/-- The same cell, or integers of one kind in both. -/
def SInt (a b : Option Value) : Prop := b = a ∨ ∃ k x y, a = some (.int k x) ∧ b = some (.int k y)
theorem SInt.trans {a b c : Option Value} (h : SInt a b) (k : SInt b c) : SInt a c := by
  rcases h with rfl | ⟨q, x, y, h1, h2⟩
  · exact k
  · rcases k with rfl | ⟨q', x', y', h3, h4⟩
    · exact .inr ⟨q, x, y, h1, h2⟩
    · rw [h2] at h3
      injection h3 with h3
      injection h3 with h3 h5
      subst h3
      exact .inr ⟨q, x, y', h1, h4⟩
/-- In the blocks from D to E integers may differ; the blocks below D and from E on stand. -/
structure Sp (D E : Nat) (w w' : World) : Prop where
  os : w'.os = w.os
  tape : w'.tape = w.tape
  output : w'.output = w.output
  size : w.heap.size ≤ w'.heap.size
  out : ∀ k, k < w.heap.size → (k < D ∨ E ≤ k) → w'.heap[k]? = w.heap[k]?
  cell : ∀ k j, k < w.heap.size → SInt (w.cell? ⟨k, j, none⟩) (w'.cell? ⟨k, j, none⟩)
  frz : ∀ k j, k < w.heap.size → w'.frozen? ⟨k, j, none⟩ = w.frozen? ⟨k, j, none⟩
section
variable {D E : Nat} {a b c w w' : World}
theorem Sp.refl (D E : Nat) (w : World) : Sp D E w w := ⟨rfl, rfl, rfl, Nat.le_refl _, fun _ _ _ => rfl, fun _ _ _ => .inl rfl, fun _ _ _ => rfl⟩
theorem Sp.trans (h : Sp D E a b) (k : Sp D E b c) : Sp D E a c :=
  ⟨k.os.trans h.os, k.tape.trans h.tape, k.output.trans h.output, Nat.le_trans h.size k.size, fun i h1 h2 => (k.out i (Nat.lt_of_lt_of_le h1 h.size) h2).trans (h.out i h1 h2),
    fun i j h1 => (h.cell i j h1).trans (k.cell i j (Nat.lt_of_lt_of_le h1 h.size)), fun i j h1 => (k.frz i j (Nat.lt_of_lt_of_le h1 h.size)).trans (h.frz i j h1)⟩
theorem Sp.of (h : Below w.heap.size w w') : Sp D E w w' :=
  ⟨h.os, h.tape, h.output, h.size, fun k hk _ => h.block k hk, fun k j hk => .inl (World.cell?_of_block (h.block k hk)), fun k j hk => World.frozen?_of_block (h.block k hk)⟩
theorem Sp.set {g o : Nat} {k : IntKind} {x y : Int} (hc : w.cell? ⟨g, o, none⟩ = some (.int k x)) (h1 : D ≤ g) (h2 : g < E) : Sp D E w (w.setCell ⟨g, o, none⟩ (.int k y)) := by
  refine ⟨rfl, rfl, rfl, by simp [World.setCell], fun i _ hi => Below.heap_setCell w ⟨g, o, none⟩ _ i (by show i ≠ g; omega), fun i j _ => ?_, fun i j _ => by simp⟩
  by_cases e : (⟨g, o, none⟩ : Addr) = ⟨i, j, none⟩
  · rw [← e, hc, World.cell?_setCell_same _ _ _ hc]
    exact .inr ⟨k, x, y, rfl, rfl⟩
  · rw [World.cell?_setCell_other _ _ _ _ e]
    exact .inl rfl
theorem Sp.blk (h : Sp D E w w') {g : Nat} {e : TypeId} {L : List Value} (hb : Blk w g e L) (hg : g < D ∨ E ≤ g) : Blk w' g e L := (h.out g (Array.getElem?_eq_some_iff.1 hb).1 hg).trans hb
theorem Sp.below (h : Sp D E w w') (hD : D ≤ w.heap.size) : Below D w w' := ⟨h.os, h.tape, h.output, h.size, fun k hk => h.out k (Nat.lt_of_lt_of_le hk hD) (.inl hk)⟩
theorem Sp.lt {g o : Nat} {v : Value} (hc : w.cell? ⟨g, o, none⟩ = some v) : g < w.heap.size := World.block_lt_of_cell? w _ hc
theorem Sp.int (h : Sp D E w w') {g o : Nat} {k : IntKind} {x : Int} (hc : w.cell? ⟨g, o, none⟩ = some (.int k x)) : ∃ y, w'.cell? ⟨g, o, none⟩ = some (.int k y) := by
  rcases h.cell g o (Sp.lt hc) with e | ⟨q, a, b, e1, e2⟩
  · exact ⟨x, by rw [e, hc]⟩
  · rw [hc] at e1
    injection e1 with e1
    injection e1 with e1 e3
    subst e1
    exact ⟨b, e2⟩
theorem Sp.val (h : Sp D E w w') {g o : Nat} {v : Value} (hc : w.cell? ⟨g, o, none⟩ = some v) (hv : ∀ k x, v ≠ .int k x) : w'.cell? ⟨g, o, none⟩ = some v := by
  rcases h.cell g o (Sp.lt hc) with e | ⟨q, a, b, e1, e2⟩
  · rw [e, hc]
  · rw [hc] at e1
    injection e1 with e1
    exact absurd e1 (hv _ _)
end
/-- A glyph of a row, to be changed. -/
theorem Sp.glyph {D E : Nat} {S : Nat → Prop} {X W : World} {t : Option Addr} {n c : Nat} {l : List Gly} (hF : FsS S 2 gcell X (.slice t n c) l) (h0 : ¬ S 0) (hS : ∀ b, S b → D ≤ b ∧ b < E) (hW : Sp D E X W) {p : Nat} (hp : p < n) :
    ∃ g off r, t = some ⟨g, off, none⟩ ∧ W.cell? ⟨g, off + p * 2, none⟩ = some (.int .i32 r) ∧ W.frozen? ⟨g, off + p * 2, none⟩ = false ∧ Sp D E X (W.setCell ⟨g, off + p * 2, none⟩ (.int .i32 33)) ∧
      ∀ (B : Nat) e L, E ≤ B → Blk W B e L → Blk (W.setCell ⟨g, off + p * 2, none⟩ (.int .i32 33)) B e L := by
  obtain ⟨⟨a0, c0, e0, hc, hr⟩, hf⟩ := hF
  injection e0 with e1 e2 e3
  subst e1 e2 e3
  obtain ⟨x, hx⟩ : ∃ x, l[p]? = some x := ⟨l[p], List.getElem?_eq_getElem hp⟩
  obtain ⟨g, off, rfl, hcell⟩ := hr p x hx
  have hft := hf ⟨g, off, none⟩ l.length c rfl (by omega)
  have hSg := hS g hft.1
  have hcl : X.cell? ⟨g, off + p * 2, none⟩ = some (.int .i32 x.1) := hcell 0 _ rfl
  have hfz := hft.2 h0 (p * 2) (by omega)
  obtain ⟨r, hr'⟩ := hW.int hcl
  have hset := Sp.set (D := D) (E := E) (y := 33) hr' hSg.1 hSg.2
  exact ⟨g, off, r, rfl, hr', (hW.frz g _ (Sp.lt hcl)).trans hfz, hW.trans hset, fun B e L hB hb => hset.blk hb (.inr hB)⟩
/-- A row of rows. -/
theorem Sp.row {D E : Nat} {S : Nat → Prop} {X W : World} {t : Option Addr} {n c : Nat} {l : List (List Gly)} (hF : GrS S X (.slice t n c) l) (hW : Sp D E X W) {p : Nat} (hp : p < n) :
    ∃ g off b k d r, t = some ⟨g, off, none⟩ ∧ W.cell? ⟨g, off + p, none⟩ = some (.slice b k d) ∧ FsS S 2 gcell X (.slice b k d) r ∧ r ∈ l := by
  obtain ⟨a0, c0, e0⟩ := hF.len
  injection e0 with e1 e2 e3
  subst e1 e2 e3
  obtain ⟨r, hr⟩ : ∃ r, l[p]? = some r := ⟨l[p], List.getElem?_eq_getElem hp⟩
  obtain ⟨g, off, b, d, rfl, -, hc, hf⟩ := hF.at hr
  exact ⟨g, off, b, _, d, r, rfl, hW.val hc (fun k x h => by cases h), hf, List.mem_of_getElem? hr⟩
/-- A node, as it lies. -/
theorem Sp.node {D E : Nat} {S : Nat → Prop} {X W : World} {t : Option Addr} {n c : Nat} {l : List Nd} (hF : NsS S X (.slice t n c) l) (h0 : ¬ S 0) (hS : ∀ b, S b → D ≤ b ∧ b < E) (hW : Sp D E X W) {p : Nat} (hp : p < n) :
    ∃ (g off : Nat) (x : NV) (y : Nd), t = some ⟨g, off, none⟩ ∧ l[p]? = some y ∧ NC W g (off + p * 10) x ∧ FsS S 2 gcell X (pv x.text) y.hd.text ∧ GrS S X (pv x.rows) y.hd.rows ∧ W.frozen? ⟨g, off + p * 10 + 1, none⟩ = false ∧ D ≤ g ∧ g < E := by
  cases hF with
  | mk _ _ L hl hs hh hk =>
    obtain ⟨⟨a0, c0, e0, hc, hr⟩, hf⟩ := hs
    injection e0 with e1 e2 e3
    subst e1 e2 e3
    obtain ⟨x, hx⟩ : ∃ x, L[p]? = some x := ⟨L[p], List.getElem?_eq_getElem hp⟩
    obtain ⟨y, hy⟩ : ∃ y, l[p]? = some y := ⟨l[p]'(by omega), List.getElem?_eq_getElem _⟩
    obtain ⟨g, off, rfl, hcell⟩ := hr p x hx
    have hft := hf ⟨g, off, none⟩ L.length c rfl (by omega)
    have hSg := hS g hft.1
    have HH := hh p x y hx hy
    have C : ∀ i v, (ncell x)[i]? = some v → X.cell? ⟨g, off + p * 10 + i, none⟩ = some v := fun i v h => by rw [Nat.add_assoc]; exact hcell i v h
    obtain ⟨z0, q0⟩ := hW.int (o := off + p * 10) (C 0 _ rfl)
    obtain ⟨z1, q1⟩ := hW.int (C 1 _ rfl)
    obtain ⟨z2, q2⟩ := hW.int (C 2 _ rfl)
    refine ⟨g, off, { x with kind := z0, line := z1, n := z2 }, y, rfl, hy, ⟨q0, q1, q2, ?_, ?_, ?_, ?_, ?_, ?_, ?_⟩, HH.text, HH.rows, ?_, hSg⟩
    · exact hW.val (C 3 _ rfl) (fun k x h => by cases h)
    · exact hW.val (C 4 _ rfl) (fun k x h => by cases h)
    · exact hW.val (C 5 _ rfl) (fun k x h => by cases h)
    · exact hW.val (C 6 _ rfl) (fun k x h => by cases h)
    · exact hW.val (C 7 _ rfl) (fun k x h => by cases h)
    · exact hW.val (C 8 _ rfl) (fun k x h => by cases h)
    · exact hW.val (C 9 _ rfl) (fun k x h => by cases h)
    · have := hft.2 h0 (p * 10 + 1) (by omega)
      rw [show off + p * 10 + 1 = off + (p * 10 + 1) by omega]
      exact (hW.frz g _ (Sp.lt (C 1 _ rfl))).trans this
end Go.Proofs.YtienjlbpaedbjaaDoor
