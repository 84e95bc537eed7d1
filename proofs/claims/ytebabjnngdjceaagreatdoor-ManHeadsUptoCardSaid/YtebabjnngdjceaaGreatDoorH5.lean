/- Plain maths of layer 10: the laws' contents, of the layers below. -/
import Derived.Test.YtebabjnngdjceaaGreatDoorHa
import Derived.Test.YtebabjnngdjceaaGreatDoorH4
import Derived.Test.YtebabjnngdjceaaGreatDoorJI
import Derived.Test.YtebabjnngdjceaaGreatDoorZ0
set_option linter.unusedVariables false
set_option linter.unusedSimpArgs false
namespace Go.Proofs.YtebabjnngdjceaaGreatDoor
open Go.RowKit
theorem JL (r:aW) (h:r.mac=mTH∨r.mac=mSH∨r.mac=mSS∨r.mac=mEX∨r.mac=mEE):dY r=none:=by
 unfold dY;have h1:r.mac≠ []∧ ¬(r.mac=[66]∨r.mac=[73])∧ ¬(r.mac=[66,73]∨r.mac=[66,82]∨r.mac=[73,66]∨r.mac=[73,82]∨r.mac=[82,66]∨r.mac=[82,73]):=by
  rcases h with e | e | e | e | e<;>rw[e]<;>decide
 rw[ME h1.1,ME h1.2.1,ME h1.2.2]
theorem KV:I9.out:=⟨JL⟩
theorem Ie (f:Int) (x:Txt):bT f [x]=((lgS f x).1,(lgS f x).2):=by
 show(jn [] (lgS f x).1,[]++(lgS f x).2)=_;simp[jn]
theorem uz (x:UInt8) (h:sI x=true):lgF [x]=([((x.toNat:Int),0)],[]):=(Kq [x] (fun y hy=>by rw[List.mem_singleton.1 hy];exact h)).1
theorem LP:I9.ab:=by
 refine⟨?_,fun ln=>?_⟩
 ·show bT 0 [[97]]=_
  rw[Ie,F8,uz 97 (by decide)];rfl
 ·show dY ⟨ln,[],[],[98]⟩=_
  unfold dY;rw[MO rfl,uz 98 (by decide)];rfl
end Go.Proofs.YtebabjnngdjceaaGreatDoor
