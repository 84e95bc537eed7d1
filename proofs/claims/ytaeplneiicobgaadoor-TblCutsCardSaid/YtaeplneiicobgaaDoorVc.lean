/- A table's reader: a line of columns. -/
import Derived.Test.YtaeplneiicobgaaDoorV8
import Derived.Test.YtaeplneiicobgaaDoorV9
import Derived.Test.YtaeplneiicobgaaDoorV6
import Derived.Test.YtaeplneiicobgaaDoorV5
set_option linter.unusedVariables false
set_option linter.unusedSimpArgs false
namespace Go.Proofs.YtaeplneiicobgaaDoor
open Go.RowKit
attribute [local go_sem ↓ high] binop_eqlS binop_neqS
/-- What a line of columns tells. -/
def RS.col (line : Int) (s : RS) (x : Txt) : RS := { s with cols := (if (colsB x).1 = [] then s.cols else (colsB x).1.take 20), d := s.d ++ (if (colsB x).2 then [] else [(10, line + s.k - 1, 0)]) ++ (if 20 < (colsB x).1.length then [(11, line + s.k - 1, 0)] else []) }
def tellIf (s : RS) (b : Bool) (x : Dgn) : RS := if b then { s with d := s.d ++ [x] } else s
def setCols (s : RS) (c : Txt) : RS := { s with cols := (if c = [] then s.cols else c) }
theorem col_eq (line : Int) (s : RS) (x : Txt) : s.col line x = setCols (tellIf (tellIf s (!(colsB x).2) (10, line + s.k - 1, 0)) (decide (20 < (colsB x).1.length)) (11, line + s.k - 1, 0)) ((colsB x).1.take 20) := by
  unfold RS.col setCols tellIf
  have h : ((colsB x).1.take 20 = []) ↔ ((colsB x).1 = []) := by
    cases (colsB x).1 <;> simp
  by_cases h1 : (colsB x).1 = []
  · rw [if_pos h1, if_pos (h.2 h1)]
    rw [h1]
    cases (colsB x).2 <;> simp
  · rw [if_neg h1, if_neg (fun e => h1 (h.1 e))]
    cases (colsB x).2 <;> by_cases h2 : 20 < (colsB x).1.length <;> simp [h2]
theorem RI.setCols {w : World} {B : Nat} {line : Int} {vl : Value} {s : RS} {W : World} (h : RI w B line vl s W) {c : Txt} (hc : c ≠ []) : RI w B line vl (setCols s c) (W.setCell ⟨B, 3, none⟩ (.string ⟨c.toArray⟩)) :=
  h.put 3 _ (by unfold Go.Proofs.YtaeplneiicobgaaDoor.setCols; rfl) (by unfold Go.Proofs.YtaeplneiicobgaaDoor.setCols; rfl) (fun vr vd => by unfold Go.Proofs.YtaeplneiicobgaaDoor.setCols; rw [if_neg hc]; rfl)
theorem RI.c3 {w : World} {B : Nat} {line : Int} {vl : Value} {s : RS} {W : World} (h : RI w B line vl s W) : W.cell? ⟨B, 3, none⟩ = some (.string ⟨s.cols.toArray⟩) ∧ W.frozen? ⟨B, 3, none⟩ = false := by
  obtain ⟨vr, vd, h1, -, -⟩ := h.val
  exact ⟨h1.cell 3, h1.frozen (by simp)⟩
set_option maxRecDepth 100000 in
set_option maxHeartbeats 4000000 in
theorem column_any {w : World} {B : Nat} {line : Int} {vl : Value} {s : RS} (x : Txt) (W : World) (hRI : RI w B line vl s W) (hU : U8 w) (hb : x.length ≤ 2000) (h0 : 0 ≤ line) (h1 : line ≤ 100000) (hk : s.k ≤ 1000000) (hd : s.d.length ≤ 400000) :
    Calls Tryd.prog 43 #[.pointer (some ⟨B, 0, none⟩), .string ⟨x.toArray⟩] W fun e W' => e = .returned (.tuple #[]) ∧ RI w B line vl (s.col line x) W' ∧ FrR W W' := by
  rw [col_eq]
  obtain ⟨ln, hln⟩ : ∃ ln, line + (s.k : Int) - 1 = ln := ⟨_, rfl⟩
  rw [hln]
  have HC := Lib.hid (columns_any x W (hU.below hRI.bel) (by omega))
  obtain ⟨c, hc⟩ : ∃ c, (colsB x).1 = c := ⟨_, rfl⟩
  obtain ⟨ok, hok⟩ : ∃ ok, (colsB x).2 = ok := ⟨_, rfl⟩
  rw [hc, hok] at HC ⊢
  have hcl : c.length ≤ 100000 := by
    rw [← hc, colsB_eq]
    have h2 := wordsB_num (noEnd x 46)
    have h3 := noEnd_len x 46
    show (List.map _ (wordsB (noEnd x 46))).length ≤ _
    rw [List.length_map]
    omega
  have hsc := arr_size c
  have A1 : Hid (∀ V s', RI w B line vl s' V → s'.k = s.k → Calls Tryd.prog 42 #[.pointer (some ⟨B, 0, none⟩)] V fun e V' => e = .returned (.int .i64 ln) ∧ RI w B line vl s' V' ∧ FrR V V') := Lib.hid fun V s' hV hk' => by
    have h := at9_any V hV h0 h1 (by omega)
    rw [hk', hln] at h
    exact h.mono fun e V' ⟨q1, q2⟩ => ⟨q1, hV.keep q2, FrR.below q2⟩
  have T1 : Hid (∀ V s' (k : Int), RI w B line vl s' V → s'.d.length ≤ 500000 → Calls Tryd.prog 41 #[.pointer (some ⟨B, 0, none⟩), .int .i64 k, .int .i64 ln] V fun e V' => e = .returned (.tuple #[]) ∧ RI w B line vl { s' with d := s'.d ++ [(k, ln, 0)] } V' ∧ FrR V V') := Lib.hid fun V s' k hV hd' => tell9_any V hV k ln hd'
  have HRI := Lib.hid hRI
  have hdl : ∀ (q : Dgn), (s.d ++ [q]).length ≤ 500000 := fun q => by simp; omega
  have HFIN : Hid (∀ V s' (cc : Txt), cc ≠ [] → RI w B line vl s' V → RI w B line vl (setCols s' cc) (V.setCell ⟨B, 3, none⟩ (.string ⟨cc.toArray⟩)) ∧ FrR V (V.setCell ⟨B, 3, none⟩ (.string ⟨cc.toArray⟩))) := Lib.hid fun V s' cc hcc hV => ⟨hV.setCols hcc, hV.frp 3 _⟩
  clear hRI hU hc hok hln
  have hds : s.d.length ≤ 500000 := by omega
  by_cases h20 : 20 < c.length
  · have hb20 : decide (20 < c.length) = true := decide_eq_true h20
    have h20' : (20 : Int) < (c.length : Int) := by omega
    have KT : ∀ W, (Instr.slice 9 (.string ⟨c.toArray⟩) none (some (.int .i64 20)) none).run Tryd.prog W = .ok (.string ⟨(c.take 20).toArray⟩) W := str_to c 20 (by omega)
    obtain ⟨cc, hce⟩ : ∃ cc, c.take 20 = cc := ⟨_, rfl⟩
    have hcc : cc ≠ [] := fun e => by
      have := congrArg List.length hce
      rw [List.length_take, e, List.length_nil] at this
      omega
    have hlc := List.length_take (l := c) (i := 20)
    rw [hce] at KT hlc ⊢
    have N1 : ∀ W, (neqS (.string ⟨cc.toArray⟩) (.string ⟨#[]⟩)).run Tryd.prog W = .ok (.bool true) W := neqS_other hcc
    have hlc' : cc.length = 20 := by omega
    have hsc' := arr_size cc
    rw [hb20]
    clear hb20 hce hlc
    cases ok
    · go_enter Tryd.func43, Tryd.ntmps43
      go_wp2_with (first
      | (go_at_call 9; refine HC.out.mono ?_; rintro e w1 ⟨rfl, b1⟩; have R1 := Lib.hid (HRI.out.keep b1); have F1 := Lib.hid (FrR.below b1); obtain ⟨p1, p2⟩ := R1.out.c3; clear b1)
      | (go_at_call 42; (with_reducible refine (A1.out _ _ R3.out rfl).mono ?_); rintro e w4 ⟨rfl, r, f⟩; have R4 := Lib.hid r; have F4 := Lib.hid (F3.out.trans f); clear r f)
      | (go_at_call 42; (with_reducible refine (A1.out _ _ R1.out rfl).mono ?_); rintro e w2 ⟨rfl, r, f⟩; have R2 := Lib.hid r; have F2 := Lib.hid (F1.out.trans f); clear r f)
      | (go_at_call 41; (with_reducible refine (T1.out _ _ 11 R4.out (hdl _)).mono ?_); rintro e w5 ⟨rfl, r, f⟩; have R5 := Lib.hid r; have F5 := Lib.hid (F4.out.trans f); obtain ⟨y1, y2⟩ := R5.out.c3; clear r f)
      | (go_at_call 41; (with_reducible refine (T1.out _ _ _ R2.out hds).mono ?_); rintro e w3 ⟨rfl, r, f⟩; have R3 := Lib.hid r; have F3 := Lib.hid (F2.out.trans f); obtain ⟨x1, x2⟩ := R3.out.c3; clear r f))
      go_end0
      exact ⟨rfl, (HFIN.out _ _ _ hcc R5.out).1, F5.out.trans (HFIN.out _ _ _ hcc R5.out).2⟩
    · go_enter Tryd.func43, Tryd.ntmps43
      go_wp2_with (first
      | (go_at_call 9; refine HC.out.mono ?_; rintro e w1 ⟨rfl, b1⟩; have R1 := Lib.hid (HRI.out.keep b1); have F1 := Lib.hid (FrR.below b1); obtain ⟨p1, p2⟩ := R1.out.c3; clear b1)
      | (go_at_call 42; (with_reducible refine (A1.out _ _ R3.out rfl).mono ?_); rintro e w4 ⟨rfl, r, f⟩; have R4 := Lib.hid r; have F4 := Lib.hid (F3.out.trans f); clear r f)
      | (go_at_call 42; (with_reducible refine (A1.out _ _ R1.out rfl).mono ?_); rintro e w2 ⟨rfl, r, f⟩; have R2 := Lib.hid r; have F2 := Lib.hid (F1.out.trans f); clear r f)
      | (go_at_call 41; (with_reducible refine (T1.out _ _ 11 R4.out (hdl _)).mono ?_); rintro e w5 ⟨rfl, r, f⟩; have R5 := Lib.hid r; have F5 := Lib.hid (F4.out.trans f); obtain ⟨y1, y2⟩ := R5.out.c3; clear r f)
      | (go_at_call 41; (with_reducible refine (T1.out _ _ _ R2.out hds).mono ?_); rintro e w3 ⟨rfl, r, f⟩; have R3 := Lib.hid r; have F3 := Lib.hid (F2.out.trans f); obtain ⟨x1, x2⟩ := R3.out.c3; clear r f))
      go_end0
      exact ⟨rfl, (HFIN.out _ _ _ hcc R3.out).1, F3.out.trans (HFIN.out _ _ _ hcc R3.out).2⟩
  · have hb20 : decide (20 < c.length) = false := decide_eq_false h20
    have h20' : ¬ (20 : Int) < (c.length : Int) := by omega
    have hce : c.take 20 = c := List.take_of_length_le (by omega)
    rw [hb20, hce]
    clear hb20 hce
    by_cases hcc : c = []
    · subst hcc
      have N1 : ∀ W, (neqS (.string ⟨([] : Txt).toArray⟩) (.string ⟨#[]⟩)).run Tryd.prog W = .ok (.bool false) W := neqS_same []
      cases ok
      · go_enter Tryd.func43, Tryd.ntmps43
        go_wp2_with (first
        | (go_at_call 9; refine HC.out.mono ?_; rintro e w1 ⟨rfl, b1⟩; have R1 := Lib.hid (HRI.out.keep b1); have F1 := Lib.hid (FrR.below b1); obtain ⟨p1, p2⟩ := R1.out.c3; clear b1)
        | (go_at_call 42; (with_reducible refine (A1.out _ _ R3.out rfl).mono ?_); rintro e w4 ⟨rfl, r, f⟩; have R4 := Lib.hid r; have F4 := Lib.hid (F3.out.trans f); clear r f)
        | (go_at_call 42; (with_reducible refine (A1.out _ _ R1.out rfl).mono ?_); rintro e w2 ⟨rfl, r, f⟩; have R2 := Lib.hid r; have F2 := Lib.hid (F1.out.trans f); clear r f)
        | (go_at_call 41; (with_reducible refine (T1.out _ _ 11 R4.out (hdl _)).mono ?_); rintro e w5 ⟨rfl, r, f⟩; have R5 := Lib.hid r; have F5 := Lib.hid (F4.out.trans f); obtain ⟨y1, y2⟩ := R5.out.c3; clear r f)
        | (go_at_call 41; (with_reducible refine (T1.out _ _ _ R2.out hds).mono ?_); rintro e w3 ⟨rfl, r, f⟩; have R3 := Lib.hid r; have F3 := Lib.hid (F2.out.trans f); obtain ⟨x1, x2⟩ := R3.out.c3; clear r f))
        go_end0
        exact ⟨rfl, R3.out, F3.out⟩
      · go_enter Tryd.func43, Tryd.ntmps43
        go_wp2_with (first
        | (go_at_call 9; refine HC.out.mono ?_; rintro e w1 ⟨rfl, b1⟩; have R1 := Lib.hid (HRI.out.keep b1); have F1 := Lib.hid (FrR.below b1); obtain ⟨p1, p2⟩ := R1.out.c3; clear b1)
        | (go_at_call 42; (with_reducible refine (A1.out _ _ R3.out rfl).mono ?_); rintro e w4 ⟨rfl, r, f⟩; have R4 := Lib.hid r; have F4 := Lib.hid (F3.out.trans f); clear r f)
        | (go_at_call 42; (with_reducible refine (A1.out _ _ R1.out rfl).mono ?_); rintro e w2 ⟨rfl, r, f⟩; have R2 := Lib.hid r; have F2 := Lib.hid (F1.out.trans f); clear r f)
        | (go_at_call 41; (with_reducible refine (T1.out _ _ 11 R4.out (hdl _)).mono ?_); rintro e w5 ⟨rfl, r, f⟩; have R5 := Lib.hid r; have F5 := Lib.hid (F4.out.trans f); obtain ⟨y1, y2⟩ := R5.out.c3; clear r f)
        | (go_at_call 41; (with_reducible refine (T1.out _ _ _ R2.out hds).mono ?_); rintro e w3 ⟨rfl, r, f⟩; have R3 := Lib.hid r; have F3 := Lib.hid (F2.out.trans f); obtain ⟨x1, x2⟩ := R3.out.c3; clear r f))
        go_end0
        exact ⟨rfl, R1.out, F1.out⟩
    · have N1 : ∀ W, (neqS (.string ⟨c.toArray⟩) (.string ⟨#[]⟩)).run Tryd.prog W = .ok (.bool true) W := neqS_other hcc
      cases ok
      · go_enter Tryd.func43, Tryd.ntmps43
        go_wp2_with (first
        | (go_at_call 9; refine HC.out.mono ?_; rintro e w1 ⟨rfl, b1⟩; have R1 := Lib.hid (HRI.out.keep b1); have F1 := Lib.hid (FrR.below b1); obtain ⟨p1, p2⟩ := R1.out.c3; clear b1)
        | (go_at_call 42; (with_reducible refine (A1.out _ _ R3.out rfl).mono ?_); rintro e w4 ⟨rfl, r, f⟩; have R4 := Lib.hid r; have F4 := Lib.hid (F3.out.trans f); clear r f)
        | (go_at_call 42; (with_reducible refine (A1.out _ _ R1.out rfl).mono ?_); rintro e w2 ⟨rfl, r, f⟩; have R2 := Lib.hid r; have F2 := Lib.hid (F1.out.trans f); clear r f)
        | (go_at_call 41; (with_reducible refine (T1.out _ _ 11 R4.out (hdl _)).mono ?_); rintro e w5 ⟨rfl, r, f⟩; have R5 := Lib.hid r; have F5 := Lib.hid (F4.out.trans f); obtain ⟨y1, y2⟩ := R5.out.c3; clear r f)
        | (go_at_call 41; (with_reducible refine (T1.out _ _ _ R2.out hds).mono ?_); rintro e w3 ⟨rfl, r, f⟩; have R3 := Lib.hid r; have F3 := Lib.hid (F2.out.trans f); obtain ⟨x1, x2⟩ := R3.out.c3; clear r f))
        go_end0
        exact ⟨rfl, (HFIN.out _ _ _ hcc R3.out).1, F3.out.trans (HFIN.out _ _ _ hcc R3.out).2⟩
      · go_enter Tryd.func43, Tryd.ntmps43
        go_wp2_with (first
        | (go_at_call 9; refine HC.out.mono ?_; rintro e w1 ⟨rfl, b1⟩; have R1 := Lib.hid (HRI.out.keep b1); have F1 := Lib.hid (FrR.below b1); obtain ⟨p1, p2⟩ := R1.out.c3; clear b1)
        | (go_at_call 42; (with_reducible refine (A1.out _ _ R3.out rfl).mono ?_); rintro e w4 ⟨rfl, r, f⟩; have R4 := Lib.hid r; have F4 := Lib.hid (F3.out.trans f); clear r f)
        | (go_at_call 42; (with_reducible refine (A1.out _ _ R1.out rfl).mono ?_); rintro e w2 ⟨rfl, r, f⟩; have R2 := Lib.hid r; have F2 := Lib.hid (F1.out.trans f); clear r f)
        | (go_at_call 41; (with_reducible refine (T1.out _ _ 11 R4.out (hdl _)).mono ?_); rintro e w5 ⟨rfl, r, f⟩; have R5 := Lib.hid r; have F5 := Lib.hid (F4.out.trans f); obtain ⟨y1, y2⟩ := R5.out.c3; clear r f)
        | (go_at_call 41; (with_reducible refine (T1.out _ _ _ R2.out hds).mono ?_); rintro e w3 ⟨rfl, r, f⟩; have R3 := Lib.hid r; have F3 := Lib.hid (F2.out.trans f); obtain ⟨x1, x2⟩ := R3.out.c3; clear r f))
        go_end0
        exact ⟨rfl, (HFIN.out _ _ _ hcc R1.out).1, F1.out.trans (HFIN.out _ _ _ hcc R1.out).2⟩
end Go.Proofs.YtaeplneiicobgaaDoor
