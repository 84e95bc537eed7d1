/- Contracts of what needs no table: Valid, Control, Safe, each in the program and in the document's answer. -/
import Derived.Test.YtgfmpndojjopnaaProg
import Derived.Test.YtgfmpndojjopnaaM
import Derived.WalkKit
import Derived.WalkSpells
import Derived.WalkLawsBesides
namespace Go.Proofs.Ytgfmpndojjopnaa
open Go.RowKit

theorem ret_bool {a b : Bool} (h : a = b) : Ending.returned (.bool a) = .returned (.bool b) := by rw [h]
theorem ret_int {k : IntKind} {a b : Int} (h : a = b) : Ending.returned (.int k a) = .returned (.int k b) := by rw [h]

/-- Two ways to say a test on numbers. -/
theorem bool_of_iff {a b : Bool} (h : a = true ↔ b = true) : a = b := by cases a <;> cases b <;> simp at h ⊢

set_option maxHeartbeats 400000 in
theorem vr_any (r : Int) (w : World) : Calls Try.prog 59 #[.int .i32 r] w fun e w' => e = .returned (.bool (vld r)) ∧ w = w' := by
  go_enter Try.func59, Try.ntmps59
  go_wp2
  all_goals
    go_ret
    refine ⟨ret_bool (bool_of_iff ?_), rfl⟩
    simp only [vld, Bool.or_eq_true, Bool.and_eq_true, beq_iff_eq, decide_eq_true_eq]
    first | omega | (simp only [true_iff, Bool.false_eq_true, false_iff]; omega)

set_option maxHeartbeats 400000 in
theorem valid_any (r : Int) (w : World) : Calls Try.prog 58 #[.int .i32 r] w fun e w' => e = .returned (.bool (vld r)) ∧ w = w' := by
  go_enter Try.func58, Try.ntmps58
  go_wp2_with (go_at_call 59; refine (vr_any _ _).mono ?_; rintro e w' ⟨rfl, rfl⟩)
  go_ret
  exact ⟨rfl, rfl⟩

set_option maxHeartbeats 400000 in
theorem rvalid_any (r : Int) (w : World) : Calls Try.prog 48 #[.int .i32 r] w fun e w' => e = .returned (.bool (vld r)) ∧ w = w' := by
  go_enter Try.func48, Try.ntmps48
  go_wp2
  all_goals
    go_ret
    refine ⟨ret_bool (bool_of_iff ?_), rfl⟩
    simp only [vld, Bool.or_eq_true, Bool.and_eq_true, beq_iff_eq, decide_eq_true_eq]
    first | omega | (simp only [true_iff, Bool.false_eq_true, false_iff]; omega)

set_option maxHeartbeats 400000 in
theorem control_any (r : Int) (w : World) : Calls Try.prog 28 #[.int .i32 r] w fun e w' => e = .returned (.bool (ctl r)) ∧ w = w' := by
  go_enter Try.func28, Try.ntmps28
  go_wp2
  all_goals
    try intro _ _ hh
    go_ret
    refine ⟨ret_bool (bool_of_iff ?_), rfl⟩
    simp only [ctl, Bool.or_eq_true, Bool.and_eq_true, beq_iff_eq, decide_eq_true_eq]
    first | omega | (simp only [true_iff, Bool.false_eq_true, false_iff]; omega)

set_option maxHeartbeats 400000 in
theorem rcontrol_any (r : Int) (w : World) : Calls Try.prog 34 #[.int .i32 r] w fun e w' => e = .returned (.bool (ctl r)) ∧ w = w' := by
  go_enter Try.func34, Try.ntmps34
  go_wp2
  all_goals
    go_ret
    refine ⟨ret_bool (bool_of_iff ?_), rfl⟩
    simp only [ctl, Bool.or_eq_true, Bool.and_eq_true, beq_iff_eq, decide_eq_true_eq]
    first | omega | (simp only [true_iff, Bool.false_eq_true, false_iff]; omega)

set_option maxHeartbeats 400000 in
theorem rsafe_any (r : Int) (w : World) : Calls Try.prog 53 #[.int .i32 r] w fun e w' => e = .returned (.int .i32 (sf r)) ∧ w = w' := by
  go_enter Try.func53, Try.ntmps53
  go_wp2_with (first
    | (go_at_call 48; refine (rvalid_any _ _).mono ?_; rintro e w' ⟨rfl, rfl⟩)
    | (go_at_call 34; refine (rcontrol_any _ _).mono ?_; rintro e w' ⟨rfl, rfl⟩))
  all_goals
    go_ret
    refine ⟨ret_int ?_, rfl⟩
    unfold sf
    simp_all
end Go.Proofs.Ytgfmpndojjopnaa
