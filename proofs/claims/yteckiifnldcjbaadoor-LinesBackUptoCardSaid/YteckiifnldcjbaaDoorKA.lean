/- A reader tells a macro. -/
import Derived.Test.YteckiifnldcjbaaDoorK9
import Derived.Test.YteckiifnldcjbaaDoorK7
import Derived.Test.YteckiifnldcjbaaDoorRt
import Derived.Deep.RegionLaw
namespace Go.Proofs.YteckiifnldcjbaaDoor
open Go.RowKit

def nmN (t : List UInt8) : Nat := (t.takeWhile (fun c => !blk c)).length
theorem nmN_le (t : List UInt8) : nmN t ≤ t.length := (List.takeWhile_sublist _).length_le
theorem indexAny_nm : ∀ t : List UInt8, Lib.indexAny t [32, 9] = if nmN t < t.length then (nmN t : Int) else -1
  | [] => rfl
  | b :: l => by
    have ih := indexAny_nm l
    have hb : ([32, 9] : List UInt8).contains b = blk b := by
      apply bool_of_iff
      simp [blk]
    conv => lhs; unfold Lib.indexAny
    rw [hb]
    have hle := nmN_le l
    cases hbk : blk b
    · have e : nmN (b :: l) = nmN l + 1 := by simp [nmN, List.takeWhile_cons, hbk]
      rw [e, List.length_cons]
      simp only [Bool.false_eq_true, if_false]
      by_cases h : nmN l < l.length
      · rw [if_pos h] at ih
        rw [ih, if_pos (show nmN l + 1 < l.length + 1 by omega)]
        have h1 : ((nmN l : Int) == -1) = false := by rw [beq_eq_false_iff_ne]; omega
        rw [h1]
        simp
      · rw [if_neg h] at ih
        rw [ih, if_neg (show ¬ nmN l + 1 < l.length + 1 by omega)]
        rfl
    · have e : nmN (b :: l) = 0 := by simp [nmN, List.takeWhile_cons, hbk]
      rw [e]
      simp
/-- The row that a macro's text tells, and what is wrong in it. -/
def mrow (q : Int) (t : List UInt8) : Row := (q, t.take (nmN t), (args (t.drop (nmN t))).1.take 200, [])
def mdgs (q : Int) (t : List UInt8) : List Dg := (if (args (t.drop (nmN t))).2 then [] else [(5, q, 0)]) ++ (if 200 < (args (t.drop (nmN t))).1.length then [(11, q, 0)] else [])

section
variable {base B : Nat} {W : World} {ln fi : Int} {va vb vr vd : Value} {tx : List UInt8} {rows : List Row} {dg : List Dg}
theorem RS.lit (h : RS base B W ln fi va vb vr vd tx rows dg) : B < W.heap.size := (Array.getElem?_eq_some_iff.1 h.blk).1
/-- A row more. -/
theorem RS.say (h : RS base B W ln fi va vb vr vd tx rows dg) (hl : rows.length ≤ 500000) (y : Row) (a : Option Addr × Nat × Nat) (hA : SOwn base W (avOf a) y.2.2.1) (C : Array Value) (hC : C = (rcell (y.1, y.2.1, a, y.2.2.2)).toArray) :
    ∃ vr' w2, (Builtin.append_ #[29, 29] 29 #[vr, .slice (some ⟨W.heap.size, 0, none⟩) 1 1]).run Tryd.prog (W.alloc (.cells C 34)).drew = .ok vr' w2 ∧ w2.cell? ⟨B, 4, none⟩ = some vr ∧ w2.frozen? ⟨B, 4, none⟩ = false ∧
      RS base B (w2.setCell ⟨B, 4, none⟩ vr') ln fi va vb vr' vd tx (rows ++ [y]) dg ∧ Fr base B W (w2.setCell ⟨B, 4, none⟩ vr') ∧ ∃ b n c, vr' = .slice b n c := by
  have h0 := h.keep (Below.refl W.heap.size W).drew
  have hAd : SOwn base W.drew (avOf a) y.2.2.1 := hA.keep (Below.refl _ _).drew
  obtain ⟨vr', w2, hrun, hrw, hg, hrow⟩ := h0.rw.push h0.sz hl y a hAd C hC
  have b1 : Below W.heap.size W (W.drew.alloc (.cells C 34)) := ((Below.refl _ W).drew).alloc (Nat.le_refl _) _
  have h1 := h.keep b1
  have hlt := h.lt
  have hne : vr.ownBlock ≠ some B := fun e => by have := (hrow B e).1; omega
  have hb2 : Blk w2 B 67 [.int .i64 ln, .int .i64 fi, va, vb, vr, vd] := (hg.block B h1.lit (fun e => hne e.symm)).trans h1.blk
  have sd : SameE 45 base (W.drew.alloc (.cells C 34)) w2 := SameE.grown hg (fun r hr => by obtain ⟨-, -, cur, e⟩ := hrow r hr; exact ⟨cur, _, e, by decide⟩)
  have sb : SameE 5 base (W.drew.alloc (.cells C 34)) w2 := SameE.grown hg (fun r hr => by obtain ⟨-, -, cur, e⟩ := hrow r hr; exact ⟨cur, _, e, by decide⟩)
  have hd2 := h1.dg.held sd
  have hf2 := h1.bf.held sb
  refine ⟨vr', w2, hrun, hb2.cell 4, hb2.frozen (by simp), ⟨⟨hlt, ?_, hb2.set 4 vr', ?_, hd2.held (SameE.low w2 hlt 4 vr')⟩, h.ad, hf2.held (SameE.low w2 hlt 4 vr'), h.bn⟩, ?_, ?_⟩
  · rw [setCell_sz]; exact Nat.le_trans h1.sz hg.size
  · exact hrw.held (SameE.low w2 hlt 4 vr') (SameE.low w2 hlt 4 vr')
  · refine ((Fr.of_below h.sz b1).trans (Fr.grown h1.sz hg (fun r hr => ?_))).trans (Fr.set _ _ _)
    obtain ⟨q1, -, cur, e⟩ := hrow r hr
    exact ⟨q1, cur, _, e⟩
  · obtain ⟨b, c, e⟩ := hrw.len
    exact ⟨_, _, _, e⟩
/-- Something more that is wrong: rows, and texts, lie as they lay. -/
theorem RS.tell (h : RS base B W ln fi va vb vr vd tx rows dg) (hl : dg.length ≤ 500000) (y : Dg) (C : Array Value) (hC : C = (dcell y).toArray) :
    ∃ vd' w2, (Builtin.append_ #[40, 40] 40 #[vd, .slice (some ⟨W.heap.size, 0, none⟩) 1 1]).run Tryd.prog (W.alloc (.cells C 45)).drew = .ok vd' w2 ∧ w2.cell? ⟨B, 5, none⟩ = some vd ∧ w2.frozen? ⟨B, 5, none⟩ = false ∧
      RS base B (w2.setCell ⟨B, 5, none⟩ vd') ln fi va vb vr vd' tx rows (dg ++ [y]) ∧ Fr base B W (w2.setCell ⟨B, 5, none⟩ vd') ∧ SameE 34 base W (w2.setCell ⟨B, 5, none⟩ vd') ∧ SameE 9 base W (w2.setCell ⟨B, 5, none⟩ vd') ∧ ∃ b n c, vd' = .slice b n c := by
  have h0 := h.keep (Below.refl W.heap.size W).drew
  obtain ⟨vd', w2, hrun, hdg, hg, hrow⟩ := h0.dg.push h0.sz hl y C hC
  have b1 : Below W.heap.size W (W.drew.alloc (.cells C 45)) := ((Below.refl _ W).drew).alloc (Nat.le_refl _) _
  have h1 := h.keep b1
  have hlt := h.lt
  have hne : vd.ownBlock ≠ some B := fun e => by have := (hrow B e).1; omega
  have hb2 : Blk w2 B 67 [.int .i64 ln, .int .i64 fi, va, vb, vr, vd] := (hg.block B h1.lit (fun e => hne e.symm)).trans h1.blk
  have s1 : SameE 34 base (W.drew.alloc (.cells C 45)) w2 := SameE.grown hg (fun r hr => by obtain ⟨-, -, cur, e⟩ := hrow r hr; exact ⟨cur, _, e, by decide⟩)
  have s2 : SameE 9 base (W.drew.alloc (.cells C 45)) w2 := SameE.grown hg (fun r hr => by obtain ⟨-, -, cur, e⟩ := hrow r hr; exact ⟨cur, _, e, by decide⟩)
  have sb : SameE 5 base (W.drew.alloc (.cells C 45)) w2 := SameE.grown hg (fun r hr => by obtain ⟨-, -, cur, e⟩ := hrow r hr; exact ⟨cur, _, e, by decide⟩)
  have hr2 := h1.rw.held s1 s2
  have hf2 := h1.bf.held sb
  have tr : ∀ e, SameE e base (W.drew.alloc (.cells C 45)) w2 → SameE e base W (w2.setCell ⟨B, 5, none⟩ vd') := fun e hs g cur hbg hc => by
    have q1 := SameE.below (e := e) (base := base) b1 g cur hbg hc
    have q2 := hs g cur hbg (q1.trans hc)
    have q3 := Below.heap_setCell w2 ⟨B, 5, none⟩ vd' g (by simp only; omega)
    exact q3.trans (q2.trans q1)
  refine ⟨vd', w2, hrun, hb2.cell 5, hb2.frozen (by simp), ⟨⟨hlt, ?_, hb2.set 5 vd', hr2.held (SameE.low w2 hlt 5 vd') (SameE.low w2 hlt 5 vd'), ?_⟩, h.ad, hf2.held (SameE.low w2 hlt 5 vd'), h.bn⟩, ?_, tr _ s1, tr _ s2, ?_⟩
  · rw [setCell_sz]; exact Nat.le_trans h1.sz hg.size
  · exact hdg.held (SameE.low w2 hlt 5 vd')
  · refine ((Fr.of_below h.sz b1).trans (Fr.grown h1.sz hg (fun r hr => ?_))).trans (Fr.set _ _ _)
    obtain ⟨q1, -, cur, e⟩ := hrow r hr
    exact ⟨q1, cur, _, e⟩
  · obtain ⟨b, c, e⟩ := (FOwn.sl dcell_len hdg).len
    exact ⟨_, _, _, e⟩
end
end Go.Proofs.YteckiifnldcjbaaDoor
