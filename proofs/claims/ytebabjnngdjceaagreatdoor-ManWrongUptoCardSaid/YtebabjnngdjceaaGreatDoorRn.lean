/- A slice of texts that ca -/
import Derived.Test.YtebabjnngdjceaaGreatDoorRE
import Derived.Test.YtebabjnngdjceaaGreatDoorKH
set_option linter.unusedVariables false
set_option linter.unusedSimpArgs false
namespace Go.Proofs.YtebabjnngdjceaaGreatDoor
open Go.RowKit
section
open Go.ChangeShapes Go.WideShapes Go.ChangeAt Go.RowKit Go.Deep
variable {H:Type}{enc:TypeId×Value→H}{W:World}
theorem FC:Tryz.prog.cellsOf 9=1:=by kernel_rfl
def sO:Value→List UInt8
 | .string s=>s.data.toList
 | _=>[]
end
section
open Go.ChangeShapes Go.WideShapes Go.ChangeAt Go.RowKit Go.Deep
section
variable {H:Type}{enc:TypeId×Value→H}{P:Program}{w:World}{base:Nat}{spare:Nat→Bool}{held:Bool}
end
variable {H:Type}{enc:TypeId×Value→H}{W:World}
theorem MS:Tryz.prog.cellsOf 33=4:=by kernel_rfl
theorem Kb:∃fs:Array Field,Tryz.prog.underlying 33=some (.struct fs)∧oneCellFields Tryz.prog fs=true∧ ∃f0 f1 f2 f3:Field,fs= #[f0,f1,f2,f3]∧f0.type=3∧f1.type=9∧f2.type=22∧f3.type=9:=
 ⟨_,Tryz.underlying33,by kernel_rfl,_,_,_,_,rfl,rfl,rfl,rfl,rfl⟩
end
end Go.Proofs.YtebabjnngdjceaaGreatDoor
