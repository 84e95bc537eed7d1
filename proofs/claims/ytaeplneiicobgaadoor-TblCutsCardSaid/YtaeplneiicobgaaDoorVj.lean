/- A table's reader: all the lines: the maths, and what holds in memory. -/
import Derived.Test.YtaeplneiicobgaaDoorVi
import Derived.Test.YtaeplneiicobgaaDoorVe
set_option linter.unusedVariables false
set_option linter.unusedSimpArgs false
namespace Go.Proofs.YtaeplneiicobgaaDoor
open Go.RowKit
theorem colsP_len9 : ∀ (l : List Txt) (ln : Int) (cols : Txt) (d : List Dgn), cols.length ≤ 20 → (colsP l ln cols d).1.length ≤ 20
  | [], ln, cols, d, h => h
  | s :: r, ln, cols, d, h => by
    have h2 : (if (colsB s).1 = [] then cols else (colsB s).1.take 20).length ≤ 20 := by
      split
      · exact h
      · rw [List.length_take]; omega
    unfold colsP
    simp only
    split
    · exact h2
    · exact colsP_len9 r _ _ _ h2
theorem lookS_P (line : Int) (L : List Txt) : lookP line L = ((lookS line L).bx, (lookS line L).al, (lookS line L).d, L.drop (lookS line L).k, line + (lookS line L).k) ∧ (lookS line L).k ≤ L.length ∧ (lookS line L).d.length ≤ 1 + 2 * (lookS line L).k ∧ (lookS line L).rows = [] := by
  cases L with
  | nil => exact ⟨by simp [lookP, lookS, s00], Nat.le_refl _, Nat.zero_le _, rfl⟩
  | cons x r =>
    unfold lookP lookS
    by_cases h : endsB x 59
    · simp only [if_pos h]
      refine ⟨by simp [RS.lk, s00], by simp [RS.lk], ?_, rfl⟩
      simp only [RS.lk, s00, List.nil_append]
      split <;> simp
    · simp only [if_neg h]
      exact ⟨by simp [s00], Nat.zero_le _, Nat.zero_le _, rfl⟩
theorem rowsP_nil9 (lg : Lgf) (nc n : Nat) (ln : Int) (rs : List Trow) (d : List Dgn) : rowsP lg nc n [] ln rs d = (rs, d) := by cases n <;> rfl
/-- What a line more turns, as a row. -/
def rowS (L : List Txt) (line : Int) (s : RS) (x : Txt) : RS :=
  let q := rowP lgF s.cols.length x (L.drop (s.k + 1)) (line + s.k)
  { k := max (s.k + 1) (L.length - q.2.2.2.length), cols := s.cols, rows := s.rows ++ [q.1], bx := s.bx, al := s.al, d := s.d ++ q.2.1 }
theorem RowE.eq9 {L : List Txt} {line : Int} {x : Txt} {s s' : RS} (h : RowE L line x s.next s') : s' = rowS L line s x := by
  have h1 := h.k0
  have h2 := h.kl
  have h3 := h.rest
  have h4 := h.rows
  have h5 := h.d
  rw [next_ln] at h3 h4 h5
  have h6 := congrArg List.length h3
  rw [List.length_drop] at h6
  obtain ⟨k, cols, rows, bx, al, d⟩ := s'
  have e1 : cols = s.cols := h.cols
  have e2 : bx = s.bx := h.bx
  have e3 : al = s.al := h.al
  simp only at h1 h2 h3 h4 h5 h6
  subst e1 e2 e3 h4 h5
  unfold rowS
  simp only [RS.mk.injEq, and_true, true_and]
  refine ⟨?_, rfl, rfl⟩
  show k = max (s.k + 1) (L.length - (rowP lgF s.cols.length x (L.drop (s.k + 1)) (line + s.k)).2.2.2.length)
  have e : (rowP lgF s.cols.length x (L.drop (s.k + 1)) (line + s.k)).2.2.2.length = L.length - k := h6.symm
  have h1' : s.k + 1 ≤ k := h1
  rw [e]
  omega
/-- Between two rows, and what the rest will tell. -/
structure PaK (L : List Txt) (line : Int) (sC : RS) (T : List Trow × List Dgn) (s : RS) : Prop where
  kl : s.k ≤ L.length
  dl : s.d.length + 2 * lnT (L.drop s.k) ≤ sC.d.length + 2 * lnT (L.drop sC.k)
  rl : s.rows.length ≤ s.k
  cols : s.cols = sC.cols
  bx : s.bx = sC.bx
  al : s.al = sC.al
  inv : ∃ n, (L.drop s.k).length ≤ n ∧ rowsP lgF sC.cols.length n (L.drop s.k) (line + s.k) s.rows s.d = T
theorem PaK.step {L : List Txt} {line : Int} {sC s s' : RS} {T : List Trow × List Dgn} {x : Txt} (h : PaK L line sC T s) (hx : L[s.k]? = some x) (hE : RowE L line x s.next s') : PaK L line sC T s' := by
  have h1 := h.dl
  have h2 := hE.dl
  have hd := lnT_drop hx
  have e1 : lnT (L.drop s.next.k) = lnT (L.drop (s.k + 1)) := rfl
  have e2 : s.next.d.length = s.d.length := rfl
  have e3 : s.k + 1 ≤ s'.k := hE.k0
  rw [e1, e2] at h2
  have h3 : lnT (L.drop s'.k) ≤ lnT (L.drop (s.k + 1)) := by
    have h := lnT_drop_le (L.drop (s.k + 1)) (s'.k - (s.k + 1))
    rw [List.drop_drop] at h
    rwa [show s.k + 1 + (s'.k - (s.k + 1)) = s'.k by omega] at h
  have h4 := hE.rows
  have h5 := hE.d
  have h6 := hE.rest
  have h7 := hE.ln
  rw [next_ln] at h4 h5 h6 h7
  have e4 : s.next.rows = s.rows := rfl
  have e5 : s.next.d = s.d := rfl
  have e6 : s.next.cols = s.cols := rfl
  have e7 : L.drop s.next.k = L.drop (s.k + 1) := rfl
  rw [e4, e6, e7, h.cols] at h4
  rw [e5, e6, e7, h.cols] at h5
  rw [e6, e7, h.cols] at h6 h7
  have h8 := h.rl
  obtain ⟨n, q1, q2⟩ := h.inv
  rw [drop_one9 hx] at q1 q2
  refine ⟨hE.kl, by omega, by rw [h4]; simp; omega, hE.cols.trans h.cols, hE.bx.trans h.bx, hE.al.trans h.al, ?_⟩
  cases n with
  | zero => simp at q1
  | succ n =>
    refine ⟨n, ?_, ?_⟩
    · simp only [List.length_cons, List.length_drop] at q1 ⊢
      omega
    · rw [← q2]
      show _ = rowsP lgF sC.cols.length n _ _ _ _
      rw [h4, h5, ← h6]
      rcases h7 with h7 | h7
      · rw [h7, rowsP_nil9, rowsP_nil9]
      · rw [h7, show line + (s'.k : Int) - 1 + 1 = line + s'.k by omega]
theorem PaK.fin {L : List Txt} {line : Int} {sC s : RS} {T : List Trow × List Dgn} (h : PaK L line sC T s) (hk : s.k = L.length) : T = (s.rows, s.d) := by
  obtain ⟨n, q1, q2⟩ := h.inv
  rw [hk, List.drop_length, rowsP_nil9] at q2
  exact q2.symm
/-- All that is read. -/
theorem parse_of9 {L : List Txt} {line : Int} {sC s : RS} (hC : CoE L line (lookS line L) (colsP (L.drop (lookS line L).k) (line + (lookS line L).k) [] (lookS line L).d) sC)
    (hT : (rowsP lgF sC.cols.length (L.drop sC.k).length (L.drop sC.k) (line + sC.k) [] sC.d) = (s.rows, s.d)) (h1 : s.cols = sC.cols) (h2 : s.bx = sC.bx) (h3 : s.al = sC.al) :
    parseP lgF line L = (mend ⟨s.cols, s.rows, s.bx, s.al⟩, s.d) := by
  obtain ⟨p1, p2, p3, p4⟩ := lookS_P line L
  unfold parseP
  rw [p1]
  simp only
  have c1 := hC.cols
  have c2 := hC.d
  have c3 := hC.rest
  have c4 := hC.ln
  rw [← c1, ← c2, ← c3, c4, hT, h1, h2, h3, hC.bx, hC.al]
theorem parse_trls9 {L : List Txt} {line : Int} {sC s : RS} (hT : (rowsP lgF sC.cols.length (L.drop sC.k).length (L.drop sC.k) (line + sC.k) [] sC.d) = (s.rows, s.d)) : trls s.rows ≤ 2 * lnT L := by
  have h := rowsP_size (lg := lgF) (fun s => (lgF_len s).1) sC.cols.length (L.drop sC.k).length (L.drop sC.k) (line + sC.k) [] sC.d
  rw [hT] at h
  have h2 := lnT_drop_le L sC.k
  have h3 := lnT_num (L.drop sC.k)
  simp only [trls, List.map_nil, List.sum_nil] at h ⊢
  omega
theorem WInv.low9 {base base' : Nat} {W : World} {v : Value} {l : List Trow} (h : WInv base W v l) (hb : base' ≤ base) : WInv base' W v l := by
  obtain ⟨L, S, hL, hl, hS, hE⟩ := h.own
  exact ⟨⟨L, S, FOwn.mono hL hb, hl, fun b q => ⟨Nat.le_trans hb (hS b q).1, (hS b q).2⟩, hE⟩⟩
/-- Parse, between two rows. -/
structure PaM (w : World) (B C C2 R : Nat) (line : Int) (vl : Value) (s : RS) (W : World) : Prop where
  ri : RI w B line vl s W
  b1 : Blk W C 66 [.pointer (some ⟨B, 0, none⟩)]
  b2 : Blk W C2 66 [.pointer (some ⟨B, 0, none⟩)]
  res : Blk W R 36 [.string ⟨#[]⟩, .slice none 0 0, .bool false, .bool false]
section
variable {w : World} {B C C2 R : Nat} {line : Int} {vl : Value} {s s' : RS} {A A' : World}
theorem PaM.go (h : PaM w B C C2 R line vl s A) (hr : RI w B line vl s' A') (hf : FrW A A') : PaM w B C C2 R line vl s' A' :=
  ⟨hr, hf.blk h.b1 (by decide) (by decide) (by decide), hf.blk h.b2 (by decide) (by decide) (by decide), hf.blk h.res (by decide) (by decide) (by decide)⟩
theorem PaM.keep (h : PaM w B C C2 R line vl s A) (hb : Below A.heap.size A A') : PaM w B C C2 R line vl s A' := h.go (h.ri.keep hb) (FrR.below hb).w
theorem PaM.fr0 {B' : Nat} (h1 : w.heap.size ≤ B') : Fr0 B' (PaM w B C C2 R line vl s) := fun A A' row h hg hr =>
  ⟨RI.fr0 h1 A A' row h.ri hg hr, Blk.fr0 A A' row h.b1 hg hr, Blk.fr0 A A' row h.b2 hg hr, Blk.fr0 A A' row h.res hg hr⟩
end
/-- What Parse leaves. -/
structure PaF (w : World) (v vd : Value) (rows : List Trow) (d : List Dgn) (W : World) : Prop where
  bel : Below w.heap.size w W
  rows : WInv w.heap.size W v rows
  d : DOwn w.heap.size W vd d
theorem PaF.fr0 {w : World} {v vd : Value} {rows : List Trow} {d : List Dgn} {B' : Nat} (hB : w.heap.size ≤ B') : Fr0 B' (PaF w v vd rows d) := fun A A' row h hg hr =>
  ⟨h.bel.grown hg h.bel.size (fun k e => Nat.le_trans hB (hr k e).1), h.rows.sam (SamT.others hg hr) (SamT.others hg hr) (SamT.others hg hr), h.d.sam (SamT.others hg hr)⟩
theorem PaF.set {w W : World} {v vd : Value} {rows : List Trow} {d : List Dgn} {R : Nat} {L : List Value} (h : PaF w v vd rows d W) (hR : w.heap.size ≤ R) (hb : Blk W R 36 L) (j : Nat) (x : Value) : PaF w v vd rows d (W.setCell ⟨R, j, none⟩ x) :=
  ⟨h.bel.setCell (p := ⟨R, j, none⟩) hR _, h.rows.sam (SamT.set hb (by decide) _ _) (SamT.set hb (by decide) _ _) (SamT.set hb (by decide) _ _), h.d.sam (SamT.set hb (by decide) _ _)⟩
end Go.Proofs.YtaeplneiicobgaaDoor
