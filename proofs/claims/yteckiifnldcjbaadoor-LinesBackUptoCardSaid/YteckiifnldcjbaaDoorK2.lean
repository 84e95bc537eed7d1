/- Contracts of what tells a byte, or a text, alone: blanks, backslashes, signs, what is quoted. -/
import Derived.Test.YteckiifnldcjbaaDoorRs
import Derived.WalkSpells
namespace Go.Proofs.YteckiifnldcjbaaDoor
open Go.RowKit

set_option maxHeartbeats 400000 in
theorem blank_any (c : UInt8) (w : World) : Calls Tryd.prog 25 #[.int .u8 (c.toNat : Int)] w fun e w' => e = .returned (.bool (blk c)) ∧ w = w' := by
  have h1 : blk c = (((c.toNat : Int) == 32) || ((c.toNat : Int) == 9)) := by
    apply bool_of_iff
    simp only [blk, Bool.or_eq_true, beq_iff_eq]
    constructor
    · rintro (rfl | rfl)
      · exact .inl rfl
      · exact .inr rfl
    · rintro (h | h)
      · exact .inl (UInt8.toNat_inj.1 (by have : c.toNat = 32 := by omega
                                          exact this))
      · exact .inr (UInt8.toNat_inj.1 (by have : c.toNat = 9 := by omega
                                          exact this))
  rw [h1]
  clear h1
  generalize (c.toNat : Int) = x
  go_enter Tryd.func25, Tryd.ntmps25
  go_wp2
  all_goals
    go_ret
    refine ⟨ret_bool ?_, rfl⟩
    simp_all

set_option maxHeartbeats 400000 in
theorem rblank_any (c : UInt8) (w : World) : Calls Tryd.prog 28 #[.int .u8 (c.toNat : Int)] w fun e w' => e = .returned (.bool (blk c)) ∧ w = w' := by
  have h1 : blk c = (((c.toNat : Int) == 32) || ((c.toNat : Int) == 9)) := by
    apply bool_of_iff
    simp only [blk, Bool.or_eq_true, beq_iff_eq]
    constructor
    · rintro (rfl | rfl)
      · exact .inl rfl
      · exact .inr rfl
    · rintro (h | h)
      · exact .inl (UInt8.toNat_inj.1 (by have : c.toNat = 32 := by omega
                                          exact this))
      · exact .inr (UInt8.toNat_inj.1 (by have : c.toNat = 9 := by omega
                                          exact this))
  rw [h1]
  clear h1
  generalize (c.toNat : Int) = x
  go_enter Tryd.func28, Tryd.ntmps28
  go_wp2
  all_goals
    go_ret
    refine ⟨ret_bool ?_, rfl⟩
    simp_all

set_option maxHeartbeats 400000 in
theorem slashed_any (b : List UInt8) (w : World) (hb : b.length ≤ 1000000) : Calls Tryd.prog 46 #[.string ⟨b.toArray⟩] w fun e w' => e = .returned (.bool (sl b)) ∧ w = w' := by
  have H := trimRight_one b 92 (by decide) w (by omega)
  have h1 := trimR_sl b
  have h2 := trimR_le b
  have hz := arr_size b
  have hz2 := arr_size (Lib.trimRightB b 92)
  generalize Lib.trimRightB b 92 = t at H h1 h2 hz2
  have h3 : sl b = decide (((b.length : Int) - (t.length : Int)) % 2 = 1) := by
    cases hs : sl b
    · rw [hs] at h1
      simp at h1
      symm
      rw [decide_eq_false_iff_not]
      omega
    · rw [hs] at h1
      simp at h1
      symm
      rw [decide_eq_true_iff]
      omega
  generalize sl b = q at h3
  have h4 : (0 : Int) ≤ (b.length : Int) - (t.length : Int) := by omega
  have HH := Lib.hid H
  have H3 := Lib.hid h3
  clear H h1 h2 h3
  go_enter Tryd.func46, Tryd.ntmps46
  go_wp2_with (go_at_call 61; refine HH.out.mono ?_; rintro e w' ⟨rfl, rfl⟩)
  go_ret
  refine ⟨ret_bool ?_, rfl⟩
  rw [H3.out]
  apply bool_of_iff
  simp
  try omega

/-- The sign of a macro's line. -/
def ptd : List UInt8 → Bool
  | [] => false
  | c :: _ => c == 46 || c == 39
set_option maxHeartbeats 400000 in
theorem pointed_any (b : List UInt8) (w : World) : Calls Tryd.prog 48 #[.string ⟨b.toArray⟩] w fun e w' => e = .returned (.bool (ptd b)) ∧ w = w' := by
  have H1 := Lib.hid (hasPrefix_any b [46] w)
  have H2 := Lib.hid (hasPrefix_any b [39] w)
  have h3 : ptd b = (Lib.hasPrefix b [46] || Lib.hasPrefix b [39]) := by
    cases b with
    | nil => rfl
    | cons c t =>
      simp only [ptd, Lib.hasPrefix, List.isPrefixOf, Bool.and_true]
      congr 1
      · exact bool_of_iff (by simp only [beq_iff_eq]; exact eq_comm)
      · exact bool_of_iff (by simp only [beq_iff_eq]; exact eq_comm)
  rw [h3]
  generalize Lib.hasPrefix b [46] = x at H1 ⊢
  generalize Lib.hasPrefix b [39] = y at H2 ⊢
  clear h3
  go_enter Tryd.func48, Tryd.ntmps48
  go_wp2_with (first
    | (go_at_call 44; with_reducible refine H1.out.mono ?_; clear H1; rintro e w' ⟨rfl, rfl⟩)
    | (go_at_call 44; with_reducible refine H2.out.mono ?_; clear H2; rintro e w' ⟨rfl, rfl⟩))
  all_goals
    go_ret
    refine ⟨ret_bool ?_, rfl⟩
    simp_all

/-- A text as one argument. -/
def qt (b : List UInt8) : List UInt8 := 34 :: (dbl b ++ [34])
theorem qt_len (b : List UInt8) : (qt b).length ≤ 2 * b.length + 2 := by
  have := (dbl_len b).2
  simp [qt]; omega

attribute [local go_sem ↓ high] binop_addS
set_option maxHeartbeats 400000 in
theorem quoted_any (b : List UInt8) (w : World) (hM : Mx w) (hb : b.length ≤ 1000000) :
    Calls Tryd.prog 15 #[.string ⟨b.toArray⟩] w fun e w' => e = .returned (.string ⟨(qt b).toArray⟩) ∧ Below w.heap.size w w' := by
  have hcl : Lib.count b [34] ≤ b.length := by
    rw [Lib.count_one]
    exact List.count_le_length
  have H := replace_any b [34] [34, 34] w hM (by omega) (by decide) (by simp only [List.length_cons, List.length_nil]; omega)
  rw [replace_dbl] at H
  have hd := (dbl_len b).2
  have A1 := str_add [34] (dbl b) (by simp; omega)
  have A2 := str_add ([34] ++ dbl b) [34] (by simp; omega)
  have e : ([34] ++ dbl b) ++ [34] = qt b := by simp [qt]
  rw [e] at A2
  generalize dbl b = d at H A1 A2
  generalize [34] ++ d = d2 at A1 A2
  generalize qt b = q at A2 ⊢
  have HH := Lib.hid H
  clear H e hd hcl hM
  go_enter Tryd.func15, Tryd.ntmps15
  go_wp2_with (go_at_call 30; refine HH.out.mono ?_; rintro e w' ⟨rfl, b1⟩)
  go_ret
  exact ⟨rfl, b1⟩

set_option maxHeartbeats 400000 in
theorem single_any (P : List UInt8) (w : World) (hM : Mx w) (hb : P.length ≤ 1000000) :
    Calls Tryd.prog 45 #[.string ⟨(dbl P).toArray⟩] w fun e w' => e = .returned (.string ⟨P.toArray⟩) ∧ Below w.heap.size w w' := by
  have hd := (dbl_len P).2
  have hc : P.count 34 ≤ P.length := List.count_le_length
  have H := replace_any (dbl P) [34, 34] [34] w hM (by omega) (by decide) (by rw [count_dbl]; simp only [List.length_cons, List.length_nil]; omega)
  rw [replace_undbl] at H
  generalize dbl P = d at H ⊢
  have HH := Lib.hid H
  clear H hM
  go_enter Tryd.func45, Tryd.ntmps45
  go_wp2_with (go_at_call 30; refine HH.out.mono ?_; rintro e w' ⟨rfl, b1⟩)
  go_ret
  exact ⟨rfl, b1⟩
end Go.Proofs.YteckiifnldcjbaaDoor
