/- Rows that are made and filled one by one; Of and Text, in the program and in the document's answer. -/
import Derived.Test.YtkiglnfapoifiaaDoorG7
import Derived.Test.YtkiglnfapoifiaaDoorW9
namespace Go.Proofs.YtkiglnfapoifiaaDoor
open Go.RowKit

/-- Block g holds the cells L. -/
def Blk (W : World) (g : Nat) (e : TypeId) (L : List Value) : Prop := W.heap[g]? = some (.cells L.toArray e (0, 0))
theorem Blk.cell {W : World} {g : Nat} {e : TypeId} {L : List Value} (h : Blk W g e L) (j : Nat) : W.cell? ⟨g, j, none⟩ = L[j]? := by
  have h' : W.heap[g]? = some (.cells L.toArray e (0, 0)) := h
  simp only [World.cell?, h']
  simp
theorem Blk.frozen {W : World} {g : Nat} {e : TypeId} {L : List Value} (h : Blk W g e L) {j : Nat} (hj : j < L.length) : W.frozen? ⟨g, j, none⟩ = false := by
  have h' : W.heap[g]? = some (.cells L.toArray e (0, 0)) := h
  simp only [World.frozen?, h']
  simp
theorem Blk.set {W : World} {g : Nat} {e : TypeId} {L : List Value} (h : Blk W g e L) (j : Nat) (v : Value) : Blk (W.setCell ⟨g, j, none⟩ v) g e (L.set j v) := by
  have h' : W.heap[g]? = some (.cells L.toArray e (0, 0)) := h
  unfold Blk
  rw [setCell_eq_setRow W g j L.toArray e (0, 0) v h', setRow_heap W g _ _ e (0, 0) h']
  simp
theorem Blk.below {W W' : World} {g : Nat} {e : TypeId} {L : List Value} (h : Blk W g e L) (hb : Below W.heap.size W W') : Blk W' g e L := (hb.block g (Array.getElem?_eq_some_iff.1 h).1).trans h

section
variable {α : Type} {n : Nat} {f : α → List Value}
theorem Blk.fown {W : World} {g e base : Nat} {l : List α} (hf : ∀ x, (f x).length = n) (h : Blk W g e (flatV f l)) (hb : base ≤ g) (hl : l.length ≤ maxLen) :
    FOwn e n f base W (.slice (some ⟨g, 0, none⟩) l.length l.length) l :=
  ⟨flatV_len hf l, .inr ⟨g, l.length, _, rfl, hb, h, Nat.le_refl _, hl, by simp [flatV_len hf l], List.take_of_length_le (by simp [flatV_len hf l])⟩⟩
end

/-- The first j of D, each so set; then what is zero. -/
def ofRow (D : List Int) (s : Int) (j : Nat) : List Gly := (D.take j).map (fun r => (r, s)) ++ List.replicate (D.length - j) zg
theorem ofRow_zero (D : List Int) (s : Int) : ofRow D s 0 = List.replicate D.length zg := by simp [ofRow]
theorem ofRow_full (D : List Int) (s : Int) : ofRow D s D.length = D.map (fun r => (r, s)) := by simp [ofRow]
theorem ofRow_len (D : List Int) (s : Int) {j : Nat} (hj : j ≤ D.length) : (ofRow D s j).length = D.length := by simp [ofRow]; omega
theorem ofRow_set {D : List Int} {s : Int} {j : Nat} {r : Int} (h : D[j]? = some r) : (ofRow D s j).set j (r, s) = ofRow D s (j + 1) := by
  have hlt := (List.getElem?_eq_some_iff.1 h).1
  unfold ofRow
  have hl : ((D.take j).map fun r => (r, s)).length = j := by simp; omega
  rw [List.set_append_right _ _ (by omega), hl, Nat.sub_self]
  obtain ⟨m, hm⟩ : ∃ m, D.length - j = m + 1 := ⟨D.length - j - 1, by omega⟩
  rw [hm, List.replicate_succ, List.set_cons_zero, List.take_add_one, h, show D.length - (j + 1) = m by omega]
  simp
theorem flatV_set : ∀ (l : List Gly) (j : Nat) (x : Gly), j < l.length → ((flatV gcell l).set (j * 2) (.int .i32 x.1)).set (j * 2 + 1) (.int .u8 x.2) = flatV gcell (l.set j x)
  | [], j, x, h => by simp at h
  | y :: l, 0, x, h => by simp [flatV_cons, gcell]
  | y :: l, j + 1, x, h => by
    have ih := flatV_set l j x (by simpa using h)
    have e : (j + 1) * 2 = j * 2 + 2 := by omega
    rw [e, List.set_cons_succ, flatV_cons, flatV_cons, ← ih]
    simp [gcell]
theorem ofRow_at {D : List Int} {s : Int} {j : Nat} (hj : j < D.length) : ∃ u v, (flatV gcell (ofRow D s j))[j * 2]? = some u ∧ (flatV gcell (ofRow D s j))[j * 2 + 1]? = some v := by
  have hl : (flatV gcell (ofRow D s j)).length = D.length * 2 := by rw [flatV_len gcell_len, ofRow_len D s (by omega)]
  exact ⟨_, _, List.getElem?_eq_getElem (by omega), List.getElem?_eq_getElem (by omega)⟩
theorem made_zero (n : Nat) : (rowC 0 n) = flatV gcell (List.replicate n zg) := by simp [rowC]

attribute [local go_sem ↓ high] make_makeG
set_option maxRecDepth 100000 in
set_option maxHeartbeats 1000000 in
theorem of_any (b : List UInt8) (s : Int) (w : World) (hb : b.length ≤ 90000) :
    Calls Tryd.prog 23 #[.string ⟨b.toArray⟩, .int .u8 s] w fun e w' => ∃ u, e = .returned u ∧ GOwn w.heap.size w' u ((dec b).map fun r => (r, s)) ∧ Below w.heap.size w w' := by
  obtain ⟨u0, w0, k0, s0, b0⟩ := bytes_of_str w b
  have HD := Lib.hid (decode_any b u0 w0 s0 (by omega))
  have hdl := dec_le b
  have B0 := Lib.hid b0
  have z0 := b0.size
  obtain ⟨D, hD⟩ : ∃ D, dec b = D := ⟨_, rfl⟩
  rw [hD] at HD hdl ⊢
  clear hD s0 b0
  go_enter Tryd.func23, Tryd.ntmps23
  go_wp2_with fail
  refine HD.out.mono ?_
  rintro e w1 ⟨u1, rfl, s1, b1⟩
  have S1 := Lib.hid s1
  have B1 := Lib.hid (B0.out.trans (b1.mono z0))
  have z1 := B1.out.size
  obtain ⟨a1, c1, rfl, -, -⟩ := s1
  have kmk := makeG_run w1 D.length (by omega)
  have hb2 := below_lit w1 (.cells (rowC 0 D.length).toArray 47)
  have HR0 : Hid (Blk (w1.alloc (.cells (rowC 0 D.length).toArray 47)) w1.heap.size 47 (flatV gcell (ofRow D s 0))) := Lib.hid (by
    rw [ofRow_zero, ← made_zero]
    exact heap_alloc_new w1 _)
  have HB2 := Lib.hid hb2
  clear b1 hb2 HD
  go_wp2_with fail
  go_loopw [17] (fun i wr => ∃ j : Nat, j ≤ D.length ∧ i = .int .i64 j ∧ Blk wr w1.heap.size 47 (flatV gcell (ofRow D s j)) ∧ Below w1.heap.size w1 wr) (fun i _ => D.length - (intOf i).toNat)
  case atStart => exact ⟨0, by omega, rfl, HR0.out, HB2.out⟩
  case round =>
    obtain ⟨j, hj, rfl, hblk, hbw⟩ := hrel
    have HBK := Lib.hid hblk
    have HBW := Lib.hid hbw
    clear hblk hbw
    by_cases hlt : j < D.length
    · obtain ⟨r, hr⟩ : ∃ r, D[j]? = some r := ⟨D[j], List.getElem?_eq_getElem hlt⟩
      obtain ⟨a2, c2, hv2, -, hrd⟩ := S1.out.below HBW.out
      injection hv2 with e1 e2 e3
      subst e1
      obtain ⟨g, off, rfl, c0⟩ := hrd j r hr
      obtain ⟨x0, x1, d0, d1⟩ := ofRow_at (s := s) hlt
      have q0 := (HBK.out.cell (j * 2)).trans d0
      have q1 := (HBK.out.cell (j * 2 + 1)).trans d1
      have f0 := HBK.out.frozen (List.getElem?_eq_some_iff.1 d0).1
      have f1 := HBK.out.frozen (List.getElem?_eq_some_iff.1 d1).1
      have HN : Hid (Blk ((wr.setCell ⟨w1.heap.size, j * 2, none⟩ (.int .i32 r)).setCell ⟨w1.heap.size, j * 2 + 1, none⟩ (.int .u8 s)) w1.heap.size 47 (flatV gcell (ofRow D s (j + 1)))) := Lib.hid (by
        have h := (HBK.out.set (j * 2) (.int .i32 r)).set (j * 2 + 1) (.int .u8 s)
        rw [flatV_set _ j (r, s) (by rw [ofRow_len D s (by omega)]; exact hlt), ofRow_set hr] at h
        exact h)
      have HBN : Hid (Below w1.heap.size w1 ((wr.setCell ⟨w1.heap.size, j * 2, none⟩ (.int .i32 r)).setCell ⟨w1.heap.size, j * 2 + 1, none⟩ (.int .u8 s))) := Lib.hid ((HBW.out.setCell (Nat.le_refl _) _).setCell (Nat.le_refl _) _)
      have hi0 : (j : Int) < (D.length : Int) := by omega
      have hi1 : (0 : Int) ≤ (j : Int) := by omega
      clear hr hrd d0 d1
      go_wp2_with fail
      go_roundw
      case rel => exact ⟨j + 1, by omega, by go_num, HN.out, HBN.out⟩
      case measure => (simp [intOf]; try omega)
    · obtain rfl : j = D.length := by omega
      have HO : Hid (GOwn w.heap.size wr (.slice (some ⟨w1.heap.size, 0, none⟩) D.length D.length) (D.map fun r => (r, s))) := Lib.hid (by
        have h := HBK.out
        rw [ofRow_full] at h
        have := Blk.fown (base := w.heap.size) gcell_len h z1 (by simp [maxLen]; omega)
        simpa using this)
      have HF := Lib.hid (B1.out.trans (HBW.out.mono z1))
      go_wp2_with fail
      go_ret
      exact ⟨_, rfl, HO.out, HF.out⟩
end Go.Proofs.YtkiglnfapoifiaaDoor
