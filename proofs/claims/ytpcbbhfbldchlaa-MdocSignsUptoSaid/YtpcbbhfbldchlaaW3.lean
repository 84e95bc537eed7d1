/- Plain maths of layer 2: what may be, what is a control, how wide a rune is. Contracts of what needs no table: Valid, Control, Safe, each in the program and in the document's answer. The two tables of Width as the world holds them; hasNone, hasTwo, Width, Sum. Slices of integers as lists; Sum; the document's own within, Width, Sum. -/
import Derived.WalkKit
import Derived.Test.YtpcbbhfbldchlaaProg
import Derived.WalkSpells
import Derived.WalkLawsBesides
import Derived.Lib.Hide
import Derived.Below
set_option linter.unusedVariables false
set_option linter.unusedSimpArgs false
namespace Go.Proofs.Ytpcbbhfbldchlaa
def vld (r : Int) : Bool := decide ((0 ≤ r ∧ r < 55296) ∨ (57343 < r ∧ r ≤ 1114111))
def ctl (r : Int) : Bool := decide ((0 ≤ r ∧ r < 32) ∨ (127 ≤ r ∧ r ≤ 159) ∨ r = 8232 ∨ r = 8233)
def nones : List (Int × Int) := [(768, 879), (1155, 1161), (1425, 1469), (1552, 1562), (1611, 1631), (6832, 6911), (7616, 7679), (8203, 8207), (8400, 8447), (65024, 65039), (65056, 65071), (917760, 917999)]
def twos : List (Int × Int) := [(4352, 4447), (9001, 9002), (11904, 12350), (12353, 13311), (13312, 19903), (19968, 42191), (43360, 43391), (44032, 55203), (63744, 64255), (65072, 65135), (65280, 65376), (65504, 65510), (127744, 128591), (129280, 129535), (131072, 196605), (196608, 262141)]
def inT (l : List (Int × Int)) (r : Int) : Bool := l.any fun p => decide (p.1 ≤ r ∧ r ≤ p.2)
def wd (r : Int) : Int := if vld r = false ∨ ctl r = true ∨ inT nones r = true then 0 else if inT twos r = true then 2 else 1
def lo (l : List (Int × Int)) (i : Nat) : Int := (l.getD i (0, 0)).1
def hi (l : List (Int × Int)) (i : Nat) : Int := (l.getD i (0, 0)).2
end Go.Proofs.Ytpcbbhfbldchlaa
namespace Go.Proofs.Ytpcbbhfbldchlaa
open Go.RowKit
theorem ret_bool {a b : Bool} (h : a = b) : Ending.returned (.bool a) = .returned (.bool b) := by rw [h]
theorem ret_int {k : IntKind} {a b : Int} (h : a = b) : Ending.returned (.int k a) = .returned (.int k b) := by rw [h]
/-- Two ways to say a test on numbers. -/
theorem bool_of_iff {a b : Bool} (h : a = true ↔ b = true) : a = b := by cases a <;> cases b <;> simp at h ⊢
set_option maxHeartbeats 400000 in
theorem vr_any (r : Int) (w : World) : Calls Try.prog 44 #[.int .i32 r] w fun e w' => e = .returned (.bool (vld r)) ∧ w = w' := by
  go_enter Try.func44, Try.ntmps44
  go_wp2
  all_goals
    go_ret
    refine ⟨ret_bool (bool_of_iff ?_), rfl⟩
    simp only [vld, Bool.or_eq_true, Bool.and_eq_true, beq_iff_eq, decide_eq_true_eq]
    first | omega | (simp only [true_iff, Bool.false_eq_true, false_iff]; omega)
set_option maxHeartbeats 400000 in
theorem valid_any (r : Int) (w : World) : Calls Try.prog 43 #[.int .i32 r] w fun e w' => e = .returned (.bool (vld r)) ∧ w = w' := by
  go_enter Try.func43, Try.ntmps43
  go_wp2_with (go_at_call 44; refine (vr_any _ _).mono ?_; rintro e w' ⟨rfl, rfl⟩)
  go_ret
  exact ⟨rfl, rfl⟩
set_option maxHeartbeats 400000 in
theorem rvalid_any (r : Int) (w : World) : Calls Try.prog 21 #[.int .i32 r] w fun e w' => e = .returned (.bool (vld r)) ∧ w = w' := by
  go_enter Try.func21, Try.ntmps21
  go_wp2
  all_goals
    go_ret
    refine ⟨ret_bool (bool_of_iff ?_), rfl⟩
    simp only [vld, Bool.or_eq_true, Bool.and_eq_true, beq_iff_eq, decide_eq_true_eq]
    first | omega | (simp only [true_iff, Bool.false_eq_true, false_iff]; omega)
set_option maxHeartbeats 400000 in
theorem control_any (r : Int) (w : World) : Calls Try.prog 30 #[.int .i32 r] w fun e w' => e = .returned (.bool (ctl r)) ∧ w = w' := by
  go_enter Try.func30, Try.ntmps30
  go_wp2
  all_goals
    try intro _ _ hh
    go_ret
    refine ⟨ret_bool (bool_of_iff ?_), rfl⟩
    simp only [ctl, Bool.or_eq_true, Bool.and_eq_true, beq_iff_eq, decide_eq_true_eq]
    first | omega | (simp only [true_iff, Bool.false_eq_true, false_iff]; omega)
end Go.Proofs.Ytpcbbhfbldchlaa
namespace Go.Proofs.Ytpcbbhfbldchlaa
open Go.RowKit
/-- The number that a value of an integer holds. -/
def intOf : Value → Int
  | .int _ n => n
  | _ => 0
@[simp] theorem intOf_int (k : IntKind) (n : Int) : intOf (.int k n) = n := rfl
end Go.Proofs.Ytpcbbhfbldchlaa
namespace Go.Proofs.Ytpcbbhfbldchlaa
open Go.RowKit
/-- A slice of integers of one kind, that reads as l. -/
def Sl (k : IntKind) (w : World) (v : Value) (l : List Int) : Prop :=
  ∃ a cap, v = .slice a l.length cap ∧ l.length ≤ cap ∧ ∀ j z, l[j]? = some z → ∃ g off, a = some ⟨g, off, none⟩ ∧ w.cell? ⟨g, off + j, none⟩ = some (.int k z)
theorem Sl.below {k : IntKind} {w w' : World} {v : Value} {l : List Int} (h : Sl k w v l) (hb : Below w.heap.size w w') : Sl k w' v l := by
  obtain ⟨a, cap, rfl, hc, hr⟩ := h
  refine ⟨a, cap, rfl, hc, fun j z hj => ?_⟩
  obtain ⟨g, off, rfl, h0⟩ := hr j z hj
  have hlt := World.block_lt_of_cell? w _ h0
  exact ⟨g, off, rfl, (hb.cell hlt).trans h0⟩
/-- All widths, together. -/
def sm (l : List Int) : Int := (l.map wd).sum
end Go.Proofs.Ytpcbbhfbldchlaa
