/- Plain maths of layer 10: -/
import Derived.Test.YtebabjnngdjceaaGreatDoorQh
import Derived.Test.YtebabjnngdjceaaGreatDoorVa
set_option linter.unusedVariables false
set_option linter.unusedSimpArgs false
namespace Go.Proofs.YtebabjnngdjceaaGreatDoor
open Go.RowKit
theorem Nc (r:aI)(h:r.mac=mTH∨r.mac=mSH∨r.mac=mSS∨r.mac=mEX∨r.mac=mEE):fP r=none:=by
 unfold fP;have h1:r.mac≠ []∧ ¬(r.mac=[66]∨r.mac=[73])∧ ¬(r.mac=[66,73]∨r.mac=[66,82]∨r.mac=[73,66]∨r.mac=[73,82]∨r.mac=[82,66]∨r.mac=[82,73]):=by
  rcases h with e | e | e | e | e<;>rw[e]<;>decide
 rw[PO h1.1,PO h1.2.1,PO h1.2.2]
end Go.Proofs.YtebabjnngdjceaaGreatDoor
