/- Rows of what is told, that came in. -/
import Derived.Test.YtpcbbhfbldchlaaRD
import Derived.Test.YtpcbbhfbldchlaaBd
set_option linter.unusedVariables false
set_option linter.unusedSimpArgs false
namespace Go.Proofs.Ytpcbbhfbldchlaa
open Go.ChangeShapes Go.WideShapes Go.ChangeAt Go.RowKit
section
variable {H : Type} {enc : TypeId × Value → H} {w : World} {held : Bool}
theorem cellsStr : Try.prog.cellsOf 9 = 1 := by kernel_rfl
end
end Go.Proofs.Ytpcbbhfbldchlaa
