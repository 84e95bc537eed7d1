/- Documents that came in:  -/
import Derived.Test.YtebabjnngdjceaaGreatDoorH2
import Derived.Test.YtebabjnngdjceaaGreatDoorRows
import Derived.Lib.SmallJoins
set_option linter.unusedVariables false
set_option linter.unusedSimpArgs false
namespace Go.Proofs.YtebabjnngdjceaaGreatDoor
open Go.RowKit
section
open Go.ChangeShapes Go.WideShapes Go.ChangeAt Go.RowKit Go.Deep
section
variable {H:Type}
end
section
variable {H:Type}{enc:TypeId×Value→H}{P:Program}{w:World}{held:Bool}
end
variable {H:Type}{enc:TypeId×Value→H}{w:World}{held:Bool}
def tbl (t:Tab):Nat:=t.cols.length+cZ t.rows
end
end Go.Proofs.YtebabjnngdjceaaGreatDoor
