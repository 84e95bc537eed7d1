/- Rows of what is told, that came in. -/
import Derived.Test.YtaeplneiicobgaaDoorRD
import Derived.Test.YtaeplneiicobgaaDoorBd
set_option linter.unusedVariables false
set_option linter.unusedSimpArgs false
namespace Go.Proofs.YtaeplneiicobgaaDoor
open Go.ChangeShapes Go.WideShapes Go.ChangeAt Go.RowKit
section
variable {H : Type} {enc : TypeId × Value → H} {w : World} {held : Bool}
theorem cellsStr : Tryd.prog.cellsOf 9 = 1 := by kernel_rfl
end
end Go.Proofs.YtaeplneiicobgaaDoor
