/- Rows of what is told, that came in. -/
import Derived.Test.YtebabjnngdjceaaGreatDoorRD
import Derived.Test.YtebabjnngdjceaaGreatDoorC5
set_option linter.unusedVariables false
set_option linter.unusedSimpArgs false
namespace Go.Proofs.YtebabjnngdjceaaGreatDoor
open Go.RowKit
section
open Go.ChangeShapes Go.WideShapes Go.ChangeAt Go.RowKit
section
variable {H:Type} {enc:TypeId×Value→H} {w:World} {held:Bool}
theorem FT:Tryz.prog.cellsOf 9=1:=by kernel_rfl
end
end
end Go.Proofs.YtebabjnngdjceaaGreatDoor
