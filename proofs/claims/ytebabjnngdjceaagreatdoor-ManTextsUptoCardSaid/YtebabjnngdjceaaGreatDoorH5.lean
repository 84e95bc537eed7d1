/- Plain maths of layer 10: the laws' contents, of the layers below. -/
import Derived.Test.YtebabjnngdjceaaGreatDoorHa
import Derived.Test.YtebabjnngdjceaaGreatDoorH2
import Derived.Test.YtebabjnngdjceaaGreatDoorQg
import Derived.Test.YtebabjnngdjceaaGreatDoorJI
import Derived.Test.YtebabjnngdjceaaGreatDoorZ0
set_option linter.unusedVariables false
set_option linter.unusedSimpArgs false
namespace Go.Proofs.YtebabjnngdjceaaGreatDoor
open Go.RowKit
theorem LZ (r:bu) (h:r.mac=mTH∨r.mac=mSH∨r.mac=mSS∨r.mac=mEX∨r.mac=mEE):fD r=none:=by
 unfold fD;have h1:r.mac≠ []∧ ¬(r.mac=[66]∨r.mac=[73])∧ ¬(r.mac=[66,73]∨r.mac=[66,82]∨r.mac=[73,66]∨r.mac=[73,82]∨r.mac=[82,66]∨r.mac=[82,73]):=by
  rcases h with e | e | e | e | e<;>rw[e]<;>decide
 rw[Pd h1.1,Pd h1.2.1,Pd h1.2.2]
theorem J7 (f:Int) (x:Txt):df f [x]=((lgS f x).1,(lgS f x).2):=by
 show(jn [] (lgS f x).1,[]++(lgS f x).2)=_;simp[jn]
theorem NF:I9.txt (fun s=>(lgF s).1):=⟨fun r h=>⟨(lgF r.text).2,by show fD r=_;unfold fD;rw[Pk h]⟩,fun r h=>LZ r (.inr (.inl h)),fun x=>by show(df 0 [x]).1=_;rw[J7];rfl⟩
end Go.Proofs.YtebabjnngdjceaaGreatDoor
