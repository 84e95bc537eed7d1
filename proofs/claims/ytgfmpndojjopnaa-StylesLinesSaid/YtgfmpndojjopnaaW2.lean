/- The two tables of Width as the world holds them; hasNone, hasTwo, Width, Sum. -/
import Derived.Test.YtgfmpndojjopnaaW1
import Derived.Lib.Hide
import Derived.Below
namespace Go.Proofs.Ytgfmpndojjopnaa
open Go.RowKit

/-- The number that a value of an integer holds. -/
def intOf : Value → Int
  | .int _ n => n
  | _ => 0
@[simp] theorem intOf_int (k : IntKind) (n : Int) : intOf (.int k n) = n := rfl

theorem next_lt {f : Nat → Int} {r : Int} {j : Nat} (h : ∀ k, k < j → f k < r) (hj : ¬ r ≤ f j) : ∀ k, k < j + 1 → f k < r := by
  intro k hk
  by_cases hkj : k < j
  · exact h k hkj
  · obtain rfl : k = j := by omega
    omega

end Go.Proofs.Ytgfmpndojjopnaa
