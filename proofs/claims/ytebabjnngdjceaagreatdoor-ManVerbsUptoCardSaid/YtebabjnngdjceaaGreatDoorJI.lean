/- Rows of texts that came in, with the sum of their lengths. How much is read of a table's lines: plain maths. How much is told of a table's lines: plain maths. -/
import Derived.Test.YtebabjnngdjceaaGreatDoorRD
import Derived.Test.YtebabjnngdjceaaGreatDoorBg
import Derived.Test.YtebabjnngdjceaaGreatDoorY3
import Derived.Test.YtebabjnngdjceaaGreatDoorHa
set_option linter.unusedVariables false
set_option linter.unusedSimpArgs false
set_option maxRecDepth 100000
namespace Go.Proofs.YtebabjnngdjceaaGreatDoor
open Go.RowKit
section
open Go.ChangeShapes Go.WideShapes Go.ChangeAt Go.RowKit
def lnT (l:List (List UInt8)):Nat:=(l.map (fun b=>b.length+1)).sum
theorem iQ (b:List UInt8) (l:List (List UInt8)):lnT (b::l)=b.length+1+lnT l:=by simp[lnT]
theorem Ij (l m:List (List UInt8)):lnT (l++m)=lnT l+lnT m:=by simp[lnT]
theorem uW: ∀l:List (List UInt8),l.length≤lnT l
 | []=>Nat.zero_le _
 | b::l=>by have:=uW l;rw[iQ,List.length_cons];omega
theorem AU {l:List (List UInt8)} {b:List UInt8} (h:b∈l):b.length+1≤lnT l:=by
 induction l with
 | nil=>simp at h
 | cons x l ih=>
  rw[iQ];rcases List.mem_cons.1 h with rfl | h
  ·omega
  ·have:=ih h;omega
theorem qF (l:List (List UInt8)) (j:Nat):lnT (l.take j)≤lnT l:=by
 have:=Ij (l.take j) (l.drop j);rw[List.take_append_drop]at this;omega
section
variable {H:Type} {enc:TypeId×Value→H} {w:World} {held:Bool}
theorem Eg {fuel:Nat} {v:Value} {x:DataW H×List MemPlace} (h:DataW.trod enc Tryz.prog w 0 (fun _=>true) held fuel 22 [v]=some x):
  ∃l:List (List UInt8),FsS (fun b=>b<w.heap.size) 1 mh w v l∧1+lnT l≤Rows.uptoBulk x.1:=by
 rcases He Tryz.underlying22 h with⟨rfl,hx⟩| ⟨a,len,cap,n,ys,rest,-,rfl,hl,hyl,hx,hi⟩
 ·exact⟨[],FsS.nil _ _ _ _,by rw[hx];simp[Rows.uptoBulk,lnT]⟩
 ·rw[FT]at hi
  obtain⟨L,l,h1,h2,h3⟩:=sI (fun i (g:List UInt8) (_:Unit)=>(∀(j:Nat) c,(mh g)[j]? =some c→w.cell? (a.add (i*1+j))=some c)∧ ∃y,ys[i]? =some y∧g.length+1≤Rows.uptoBulk y.1) len (fun i hil=>by
   obtain⟨cs,y,hy,hcl,hc,ht⟩:=hi i hil;rcases cs with _ | ⟨c,_ | ⟨d,cs⟩⟩
   ·simp at hcl
   ·obtain⟨b,rfl,hb⟩:=GK ht
    exact⟨b,(),hc,y,hy,by omega⟩
   ·simp at hcl)
  refine⟨L,JQ bP (by decide) h1 hl (fun i x hx j c hj=>?_),?_⟩
  ·have hil:=(List.getElem?_eq_some_iff.1 hx).1
   obtain⟨u,hu⟩:=qL h2 (j:=i) (by omega);exact(h3 i x u hx hu).1 j c hj
  ·have hs:=xM (fun b:List UInt8=>b.length+1) L (ys.map (·.1)) (by rw[List.length_map,h1,hyl]) (fun i r d hr hd=>by
    obtain⟨u,hu⟩:=qL h2 (j:=i) (by have:=(List.getElem?_eq_some_iff.1 hr).1;omega);obtain⟨y,hy,hb⟩:=(h3 i r u hr hu).2;rw[List.getElem?_map,hy]at hd;simp at hd;subst hd;exact hb)
   rw[hx];simp only[Rows.uptoBulk,lnT];omega
theorem yA {r:Reach} {b0:Nat} {v:Value} {d:DataW H} {p:List MemPlace} (hval:Value.okWide Tryz.prog w r b0 22 v) (h:DataW.Trod enc Tryz.prog w 0 (fun _=>true) true 22 v d p):
  ∃l:List (List UInt8),FsS (fun b=>b<w.heap.size) 1 mh w v l∧1+lnT l≤Rows.uptoBulk d:=by
 obtain⟨a,len,cap,rfl⟩:=okWide_slice Tryz.underlying22 hval;obtain⟨fu,hf⟩:=h;exact Eg hf
end
end
theorem Fb (a b:List (List Gly)):lens (a++b)=lens a+lens b:=by simp[lens]
section
variable {lg:Lgf} (hg: ∀s,(lg s).1.length≤s.length)
include hg
omit hg in
omit hg in
omit hg in
omit hg in
omit hg in
end
theorem qW (ln:Int) (l:List (Int×Int)):(bu ln l).length=l.length:=by simp[bu]
section
variable {lg:Lgf} (hg: ∀s,(lg s).2.length≤s.length)
include hg
omit hg in
omit hg in
omit hg in
end
end Go.Proofs.YtebabjnngdjceaaGreatDoor
