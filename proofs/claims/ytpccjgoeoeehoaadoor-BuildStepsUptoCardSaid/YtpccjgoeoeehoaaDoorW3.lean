/- Plain maths of layer 2: what may be, what is a control, how wide a rune is. Contracts of what needs no table: Valid, Control, Safe, each in the program and in the document's answer. The two tables of Width as the world holds them; hasNone, hasTwo, Width, Sum. Slices of integers as lists; Sum; the document's own within, Width, Sum. -/
import Derived.WalkKit
import Derived.Test.YtpccjgoeoeehoaaDoorProg
import Derived.WalkSpells
import Derived.WalkLawsBesides
import Derived.Lib.Hide
import Derived.Below
set_option linter.unusedVariables false
set_option linter.unusedSimpArgs false
namespace Go.Proofs.YtpccjgoeoeehoaaDoor
def vld (r : Int) : Bool := decide ((0 ≤ r ∧ r < 55296) ∨ (57343 < r ∧ r ≤ 1114111))
def ctl (r : Int) : Bool := decide ((0 ≤ r ∧ r < 32) ∨ (127 ≤ r ∧ r ≤ 159) ∨ r = 8232 ∨ r = 8233)
def nones : List (Int × Int) := [(768, 879), (1155, 1161), (1425, 1469), (1552, 1562), (1611, 1631), (6832, 6911), (7616, 7679), (8203, 8207), (8400, 8447), (65024, 65039), (65056, 65071), (917760, 917999)]
def twos : List (Int × Int) := [(4352, 4447), (9001, 9002), (11904, 12350), (12353, 13311), (13312, 19903), (19968, 42191), (43360, 43391), (44032, 55203), (63744, 64255), (65072, 65135), (65280, 65376), (65504, 65510), (127744, 128591), (129280, 129535), (131072, 196605), (196608, 262141)]
def inT (l : List (Int × Int)) (r : Int) : Bool := l.any fun p => decide (p.1 ≤ r ∧ r ≤ p.2)
def wd (r : Int) : Int := if vld r = false ∨ ctl r = true ∨ inT nones r = true then 0 else if inT twos r = true then 2 else 1
def lo (l : List (Int × Int)) (i : Nat) : Int := (l.getD i (0, 0)).1
def hi (l : List (Int × Int)) (i : Nat) : Int := (l.getD i (0, 0)).2
end Go.Proofs.YtpccjgoeoeehoaaDoor
namespace Go.Proofs.YtpccjgoeoeehoaaDoor
open Go.RowKit
theorem ret_bool {a b : Bool} (h : a = b) : Ending.returned (.bool a) = .returned (.bool b) := by rw [h]
/-- Two ways to say a test on numbers. -/
theorem bool_of_iff {a b : Bool} (h : a = true ↔ b = true) : a = b := by cases a <;> cases b <;> simp at h ⊢
end Go.Proofs.YtpccjgoeoeehoaaDoor
namespace Go.Proofs.YtpccjgoeoeehoaaDoor
open Go.RowKit
/-- The number that a value of an integer holds. -/
def intOf : Value → Int
  | .int _ n => n
  | _ => 0
@[simp] theorem intOf_int (k : IntKind) (n : Int) : intOf (.int k n) = n := rfl
end Go.Proofs.YtpccjgoeoeehoaaDoor
namespace Go.Proofs.YtpccjgoeoeehoaaDoor
open Go.RowKit
end Go.Proofs.YtpccjgoeoeehoaaDoor
