/- Plain maths of layer 2:  -/
import Derived.Test.YtebabjnngdjceaaGreatDoorProg
import Derived.WalkSpells
import Derived.WalkLawsBesides
import Derived.Lib.Hide
import Derived.Test.YtebabjnngdjceaaGreatDoorZ0
set_option linter.unusedVariables false
set_option linter.unusedSimpArgs false
set_option maxHeartbeats 400000
namespace Go.Proofs.YtebabjnngdjceaaGreatDoor
open Go.RowKit
section
open Go.RowKit
def vld (r:Int):Bool:=decide ((0≤r∧r<55296)∨(57343<r∧r≤1114111))
def ctl (r:Int):Bool:=decide ((0≤r∧r<32)∨(127≤r∧r≤159)∨r=8232∨r=8233)
def sf (r:Int):Int:=if vld r=true∧ctl r=false then r else 65533
def OM:List (Int×Int):=[(768,879),(1155,1161),(1425,1469),(1552,1562),(1611,1631),(6832,6911),(7616,7679),(8203,8207),(8400,8447),(65024,65039),(65056,65071),(917760,917999)]
def Pk:List (Int×Int):=[(4352,4447),(9001,9002),(11904,12350),(12353,13311),(13312,19903),(19968,42191),(43360,43391),(44032,55203),(63744,64255),(65072,65135),(65280,65376),(65504,65510),(127744,128591),(129280,129535),(131072,196605),(196608,262141)]
def inT (l:List (Int×Int))(r:Int):Bool:=l.any fun p=>decide (p.1≤r∧r≤p.2)
def wd (r:Int):Int:=if vld r=false∨ctl r=true∨inT OM r=true then 0 else if inT Pk r=true then 2 else 1
def lo (l:List (Int×Int))(i:Nat):Int:=(l.getD i (0,0)).1
def hi (l:List (Int×Int))(i:Nat):Int:=(l.getD i (0,0)).2
end
section
theorem aH {a b:Bool}(h:a=b):Ending.returned (.bool a)=.returned (.bool b):=by rw[h]
theorem EI {k:IntKind}{a b:Int}(h:a=b):Ending.returned (.int k a)=.returned (.int k b):=by rw[h]
theorem bO {a b:Bool}(h:a=true↔b=true):a=b:=by cases a<;>cases b<;>simp at h⊢
theorem II (r:Int)(w:World):Calls Tryz.prog 214 #[.int .i32 r] w fun e w'=>e=.returned (.bool (vld r))∧w=w':=by
 go_enter Tryz.func214,Tryz.ntmps214
 go_wp2
 all_goals
  go_ret;refine⟨aH (bO ?_),rfl⟩;simp only[vld,Bool.or_eq_true,Q7,RA,decide_eq_true_eq]
  first | omega | (simp only[true_iff,Qf,false_iff];omega)
theorem FK (r:Int)(w:World):Calls Tryz.prog 232 #[.int .i32 r] w fun e w'=>e=.returned (.bool (vld r))∧w=w':=by
 go_enter Tryz.func232,Tryz.ntmps232
 go_wp2_with (go_at_call 214;refine(II _ _).mono ?_;rintro e w' ⟨rfl,rfl⟩)
 go_ret;exact⟨rfl,rfl⟩
theorem ru (r:Int)(w:World):Calls Tryz.prog 102 #[.int .i32 r] w fun e w'=>e=.returned (.bool (ctl r))∧w=w':=by
 go_enter Tryz.func102,Tryz.ntmps102
 go_wp2
 all_goals
  try intro _ _ hh
  go_ret;refine⟨aH (bO ?_),rfl⟩;simp only[ctl,Bool.or_eq_true,Q7,RA,decide_eq_true_eq]
  first | omega | (simp only[true_iff,Qf,false_iff];omega)
end
section
def intOf:Value→Int
 | .int _ n=>n
 | _=>0
@[simp] theorem intOf_int (k:IntKind) (n:Int):intOf (.int k n)=n:=rfl
end
section
def Sl (k:IntKind)(w:World)(v:Value)(l:List Int):Prop:=
 ∃a cap,v=.slice a l.length cap∧l.length≤cap∧ ∀j z,l[j]? =some z→ ∃g off,a=some ⟨g,off,none⟩∧w.cell? ⟨g,off+j,none⟩=some (.int k z)
theorem Sl.below {k:IntKind}{w w':World}{v:Value}{l:List Int}(h:Sl k w v l)(hb:Below w.heap.size w w'):Sl k w' v l:=by
 obtain⟨a,cap,rfl,hc,hr⟩:=h;refine⟨a,cap,rfl,hc,fun j z hj=>?_⟩;obtain⟨g,off,rfl,h0⟩:=hr j z hj;have hlt:=PX w _ h0;exact⟨g,off,rfl,(hb.cell hlt).trans h0⟩
def sm (l:List Int):Int:=(l.map wd).sum
end
end Go.Proofs.YtebabjnngdjceaaGreatDoor
