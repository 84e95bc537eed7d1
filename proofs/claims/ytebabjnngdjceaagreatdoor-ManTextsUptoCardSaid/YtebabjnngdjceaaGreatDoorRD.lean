/- Documents that came in: opened, and how much there is of them. -/
import Derived.Test.YtebabjnngdjceaaGreatDoorDa
import Derived.Test.YtebabjnngdjceaaGreatDoorRows
import Derived.WalkKit
import Derived.ProofKit
import Derived.OpenShut
import Derived.Carry
import Derived.ChangeMaps5
import Derived.Deep.Slices
import Derived.Deep.Fields
import Derived.ChangeSame
import Derived.Lib.SmallJoins
import Derived.Test.YtebabjnngdjceaaGreatDoorZ0
set_option linter.unusedVariables false
set_option linter.unusedSimpArgs false
namespace Go.Proofs.YtebabjnngdjceaaGreatDoor
open Go.RowKit
section
open Go.ChangeShapes Go.WideShapes Go.ChangeAt Go.RowKit Go.Deep
section
variable {H:Type}
theorem Jw (d:DataW H):1≤Rows.uptoBulk d:=by
 cases d with
 | lit l=>cases l<;>simp[Rows.uptoBulk]
 | nil=>simp[Rows.uptoBulk]
 | ptr d=>simp[Rows.uptoBulk]
 | slice elems spare=>simp[Rows.uptoBulk]
 | agg parts=>simp[Rows.uptoBulk]
 | iface t d=>simp[Rows.uptoBulk]
 | map entries=>simp[Rows.uptoBulk]
 | held h=>simp[Rows.uptoBulk]
theorem Jy (l:List (DataW H)):l.length≤Rows.uptoBulkAll l:=by
 induction l with
 | nil=>simp[Rows.uptoBulkAll]
 | cons x r ih=>have:=Jw x;simp only[Rows.uptoBulkAll,Pe];omega
theorem AU {β:Type} (F:β→Nat): ∀(l:List β) (ys:List (DataW H)),l.length=ys.length→(∀(i:Nat) y d,l[i]? =some y→ys[i]? =some d→F y≤Rows.uptoBulk d)→(l.map F).sum≤Rows.uptoBulkAll ys
 | [],_,_,_=>by simp
 | y::l,[],h,_=>by simp at h
 | y::l,d::ys,h,k=>by
  have h1:=AU F l ys (by simpa using h) (fun i y' d' hy hd=>k (i+1) y' d' (by simpa using hy) (by simpa using hd));have h2:=k 0 y d rfl rfl;simp only[PL,QZ,Rows.uptoBulkAll];omega
end
theorem pM {α β:Type} (Q:Nat→α→β→Prop): ∀n,(∀i,i<n→ ∃x y,Q i x y)→ ∃(L:List α) (l:List β),L.length=n∧l.length=n∧ ∀(i:Nat) x y,L[i]? =some x→l[i]? =some y→Q i x y
 | 0,_=>⟨[],[],rfl,rfl,fun i x y h=>by simp at h⟩
 | n+1,h=>by
  obtain⟨L,l,h1,h2,h3⟩:=pM Q n (fun i hi=>h i (by omega));obtain⟨x,y,hq⟩:=h n (by omega);refine⟨L++ [x],l++ [y],by simp[h1],by simp[h2],fun i x' y' hx hy=>?_⟩
  by_cases hi:i<n
  ·rw[PE (by omega)]at hx hy
   exact h3 i x' y' hx hy
  ·have:i=n:=by
    have:=(OV.1 hx).1;simp at this;omega
   subst this;rw[Ps (by omega)]at hx hy;rw[h1,QW]at hx;rw[h2,QW]at hy;simp at hx hy;subst hx hy;exact hq
theorem I8 {α:Type} {n:Nat} {f:α→List Value} (hn: ∀x,(f x).length=n) (h0:0<n) {w:World} {a:Addr} {L:List α} {len cap:Nat} (hl:L.length=len) (hc:len≤cap)
  (h: ∀(i:Nat) x,L[i]? =some x→ ∀(j:Nat) c,(f x)[j]? =some c→w.cell? (a.add (i*n+j))=some c):FsS (fun b=>b<w.heap.size) n f w (.slice (some a) len cap) L:=by
 have key:0<L.length→a.spot=none∧a.block<w.heap.size:=fun hL=>by
  have hx:L[0]? =some (L[0]'hL):=OU hL;obtain⟨c,hcx⟩: ∃c,(f (L[0]'hL))[0]? =some c:=⟨(f (L[0]'hL))[0]'(by rw[hn];exact h0),OU _⟩;have hcell:=h 0 _ hx 0 c hcx;have e:a.add (0*n+0)=a:=by simp[Addr.add]
  rw[e]at hcell;exact⟨World.cell?_spot hcell,Po w _ hcell⟩
 obtain⟨xb,xo,spot⟩:=a;refine⟨⟨some _,cap,by rw[hl],by rw[hl];exact hc,fun j x hj=>?_⟩,fun a' k c e hk=>?_⟩
 ·obtain⟨h1,h2⟩:=key (by have:=(OV.1 hj).1;omega)
  simp only at h1;subst h1;refine⟨xb,xo,rfl,fun i c hi=>?_⟩;have:=h j x hj i c hi;rw[Qo]at this;exact this
 ·injection e with e1 e2 e3
  injection e1 with e1
  subst e1 e2;exact⟨(key (by omega)).2,fun h0=>absurd (Nat.lt_of_le_of_lt (Qr _) (key (by omega)).2) h0⟩
section
variable {H:Type} {enc:TypeId×Value→H} {P:Program} {w:World} {held:Bool}
theorem DK {t e:TypeId} {fuel:Nat} {v:Value} {x:DataW H×List MemPlace} (ht:P.underlying t=some (.slice e)) (h:DataW.trod enc P w 0 (fun _=>true) held fuel t [v]=some x):
  (v= .slice none 0 0∧x.1= .nil)∨
  ∃(a:Addr) (len cap n:Nat) (ys:List (DataW H×List MemPlace)) (rest:List (DataW H)),fuel=n+1∧v= .slice (some a) len cap∧len≤cap∧ys.length=len∧x.1= .slice (ys.map (·.1)) rest∧
   ∀(i:Nat),i<len→ ∃cs y,ys[i]? =some y∧cs.length=P.cellsOf e∧(∀(j:Nat) c,cs[j]? =some c→w.cell? (a.add (i*P.cellsOf e+j))=some c)∧DataW.trod enc P w 0 (fun _=>true) held n e cs=some y:=by
 rcases DataW.trod_slice ht h with⟨hcs,hx⟩| ⟨a,len,cap,elems,rest,n,hf,hcs,hx,-,hl,hm,hel,hi,-,-⟩
 ·exact .inl ⟨by simpa using hcs,by rw[hx]⟩
 ·refine .inr ⟨a,len,cap,n,elems,rest.map (·.1),hf,by simpa using hcs,hl,hel,by rw[hx],fun i hil=>?_⟩
  have h1:=hi i hil;have h2:elems[i]? =some (elems[i]'(by omega)):=OU (by omega);rw[h2]at h1;obtain⟨cs,hc,ht'⟩:=Option.bind_eq_some_iff.1 h1;obtain⟨_,hcl,hat⟩:=World.cells?_some hc;refine⟨cs,_,h2,hcl,fun j c hj=>?_,ht'⟩;have hjl:=(OV.1 hj).1;have h3:=hat j (by omega);rw[←Go.Deep.add_add,h3,hj]
end
variable {H:Type} {enc:TypeId×Value→H} {w:World} {held:Bool}
theorem nO {α:Type} {l:List α} {n:Nat} (h:l.length=n) {j:Nat} (hj:j<n): ∃c,l[j]? =some c:=⟨l[j]'(by omega),OU _⟩
def tbl (t:Tab):Nat:=t.cols.length+bX t.rows
theorem Km {n:Nat} {c:Value} {y:DataW H×List MemPlace} (h:DataW.trod enc Tryz.prog w 0 (fun _=>true) held n 9 [c]=some y): ∃b:List UInt8,c= .string ⟨b.toArray⟩∧Rows.uptoBulk y.1=b.length+1:=by
 obtain⟨s,e1,e2,e3⟩:=DataW.trod_string Tryz.underlying9 h;refine⟨s.data.toList,by simpa using e1,?_⟩;rw[Pj Prod.fst e2];simp[Rows.uptoBulk]
end
end Go.Proofs.YtebabjnngdjceaaGreatDoor
