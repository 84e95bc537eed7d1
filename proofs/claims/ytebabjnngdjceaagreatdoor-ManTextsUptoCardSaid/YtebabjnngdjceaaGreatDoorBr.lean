/- Rows of what is told, that came in. Openers: rows of rows, Bools, one node. -/
import Derived.Test.YtebabjnngdjceaaGreatDoorRD
import Derived.Test.YtebabjnngdjceaaGreatDoorBe
import Derived.Test.YtebabjnngdjceaaGreatDoorZ0
set_option linter.unusedVariables false
set_option linter.unusedSimpArgs false
set_option maxRecDepth 100000
namespace Go.Proofs.YtebabjnngdjceaaGreatDoor
open Go.RowKit
section
open Go.ChangeShapes Go.WideShapes Go.ChangeAt Go.RowKit
section
variable {H:Type} {enc:TypeId×Value→H} {w:World} {held:Bool}
theorem Ju:Tryz.prog.cellsOf 9=1:=by kernel_rfl
end
end
section
open Go.ChangeShapes Go.WideShapes Go.ChangeAt Go.RowKit
section
variable {H:Type} {enc:TypeId×Value→H} {w:World} {held:Bool}
theorem LM:Tryz.prog.cellsOf 4=1:=by kernel_rfl
theorem JB {fuel:Nat} {v:Value} {x:DataW H×List MemPlace} (h:DataW.trod enc Tryz.prog w 0 (fun _=>true) held fuel 23 [v]=some x):
  ∃l:List Bool,FsS (fun b=>b<w.heap.size) 1 uN w v l∧1+l.length≤Rows.uptoBulk x.1:=by
 rcases DK Tryz.underlying23 h with⟨rfl,hx⟩| ⟨a,len,cap,n,ys,rest,-,rfl,hl,hyl,hx,hi⟩
 ·exact⟨[],FsS.nil _ _ _ _,by rw[hx];simp[Rows.uptoBulk]⟩
 ·rw[LM]at hi
  obtain⟨L,l,h1,h2,h3⟩:=pM (fun i (g:Bool) (_:Unit)=> ∀(j:Nat) c,(uN g)[j]? =some c→w.cell? (a.add (i*1+j))=some c) len (fun i hil=>by
   obtain⟨cs,y,hy,hcl,hc,ht⟩:=hi i hil;rcases cs with _ | ⟨c,_ | ⟨d,cs⟩⟩
   ·simp at hcl
   ·obtain⟨x0,hx0,-⟩:=DataW.trod_bool Tryz.underlying4 ht
    have q0:c= .bool x0:=by simpa using hx0
    subst q0;exact⟨x0,(),hc⟩
   ·simp at hcl)
  refine⟨L,I8 Df (by decide) h1 hl (fun i x hx j c hj=>?_),?_⟩
  ·have hil:=(OV.1 hx).1
   obtain⟨u,hu⟩:=nO h2 (j:=i) (by omega);exact h3 i x u hx hu j c hj
  ·have:=Jy (ys.map (·.1))
   rw[Qe]at this;rw[hx];simp only[Rows.uptoBulk];omega
theorem De {r:Reach} {b0:Nat} {v:Value} {d:DataW H} {p:List MemPlace} (hval:Value.okWide Tryz.prog w r b0 23 v) (h:DataW.Trod enc Tryz.prog w 0 (fun _=>true) true 23 v d p):
  ∃l:List Bool,FsS (fun b=>b<w.heap.size) 1 uN w v l∧1+l.length≤Rows.uptoBulk d:=by
 obtain⟨a,len,cap,rfl⟩:=okWide_slice Tryz.underlying23 hval;obtain⟨fu,hf⟩:=h;exact JB hf
end
end
end Go.Proofs.YtebabjnngdjceaaGreatDoor
