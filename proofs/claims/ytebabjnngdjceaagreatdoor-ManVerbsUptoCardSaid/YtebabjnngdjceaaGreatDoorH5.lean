/- Plain maths of layer 10: the laws' contents, of the layers below. -/
import Derived.Test.YtebabjnngdjceaaGreatDoorHa
import Derived.Test.YtebabjnngdjceaaGreatDoorH2
import Derived.Test.YtebabjnngdjceaaGreatDoorQg
import Derived.Test.YtebabjnngdjceaaGreatDoorJI
set_option linter.unusedVariables false
set_option linter.unusedSimpArgs false
namespace Go.Proofs.YtebabjnngdjceaaGreatDoor
open Go.RowKit
theorem Bo (r:aQ) (h:r.mac=mTH∨r.mac=mSH∨r.mac=mSS∨r.mac=mEX∨r.mac=mEE):dK r=none:=by
 unfold dK;have h1:r.mac≠ []∧ ¬(r.mac=[66]∨r.mac=[73])∧ ¬(r.mac=[66,73]∨r.mac=[66,82]∨r.mac=[73,66]∨r.mac=[73,82]∨r.mac=[82,66]∨r.mac=[82,73]):=by
  rcases h with e | e | e | e | e<;>rw[e]<;>decide
 rw[if_neg h1.1,if_neg h1.2.1,if_neg h1.2.2]
theorem J6:I9.out:=⟨Bo⟩
theorem Gv (f:Int) (x:Txt):bQ f [x]=((lgS f x).1,(lgS f x).2):=by
 show(jn [] (lgS f x).1,[]++(lgS f x).2)=_;simp[jn]
theorem J5:I9.txt (fun s=>(lgF s).1):=⟨fun r h=>⟨(lgF r.text).2,by show dK r=_;unfold dK;rw[if_pos h]⟩,fun r h=>Bo r (.inr (.inl h)),fun x=>by show(bQ 0 [x]).1=_;rw[Gv];rfl⟩
end Go.Proofs.YtebabjnngdjceaaGreatDoor
