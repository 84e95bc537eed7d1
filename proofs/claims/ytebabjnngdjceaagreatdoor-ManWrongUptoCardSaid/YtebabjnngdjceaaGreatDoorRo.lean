/- A slice of rows that cam -/
import Derived.Test.YtebabjnngdjceaaGreatDoorRn
import Derived.Test.YtebabjnngdjceaaGreatDoorN6
set_option linter.unusedVariables false
set_option linter.unusedSimpArgs false
set_option maxRecDepth 100000
namespace Go.Proofs.YtebabjnngdjceaaGreatDoor
open Go.RowKit
section
open Go.ChangeShapes Go.WideShapes Go.ChangeAt Go.RowKit Go.Deep
section
variable {H:Type}
theorem BR (l r:List (DataW H)):Rows.uptoBulkAll (l++r)=Rows.uptoBulkAll l+Rows.uptoBulkAll r:=by
 induction l with
 | nil=>simp[Rows.uptoBulkAll]
 | cons x l ih=>simp only[Qe,Rows.uptoBulkAll,ih];omega
theorem OZ {ys:List (DataW H)}{a b c d:DataW H}(h0:ys[0]? =some a)(h1:ys[1]? =some b)(h2:ys[2]? =some c)(h3:ys[3]? =some d):
  Rows.uptoBulk a+Rows.uptoBulk b+Rows.uptoBulk c+Rows.uptoBulk d≤Rows.uptoBulkAll ys:=by
 rcases ys with _ | ⟨y0,_ | ⟨y1,_ | ⟨y2,_ | ⟨y3,r⟩⟩⟩⟩
 ·simp at h0
 ·simp at h1
 ·simp at h2
 ·simp at h3
 ·simp at h0 h1 h2 h3
  subst h0 h1 h2 h3;simp only[Rows.uptoBulkAll];omega
theorem xE (D:Nat→DataW H)(T:Nat→List UInt8):∀n,(∀i,i<n→Rows.uptoBulk (D i)=(T i).length+1)→3*n+tot ((List.range n).map T)≤3*Rows.uptoBulkAll ((List.range n).map D)
 | 0,_=>by simp[tot]
 | n+1,h=>by
  have h1:=xE D T n (fun i hi=>h i (by omega));have h2:=h n (by omega);rw[List.range_succ,Rn,Rn,BR];simp only[Qo,QH,Rows.uptoBulkAll,zU];omega
theorem xG (E:Nat→DataW H)(l:List Row):∀n,n≤l.length→(∀i y,l[i]? =some y→rowLen y≤3*Rows.uptoBulk (E i))→aO (l.take n)≤3*Rows.uptoBulkAll ((List.range n).map E)
 | 0,_,_=>by simp[aO]
 | n+1,hn,h=>by
  have h1:=xG E l n (by omega) h;have hy:l[n]? =some (l[n]'(by omega)):=Pz (by omega);have h2:=h n _ hy;rw[oP hy,List.range_succ,Rn,BR];simp only[Qo,QH,Rows.uptoBulkAll];omega
end
section
variable {H:Type}{enc:TypeId×Value→H}{P:Program}{w:World}{base:Nat}{spare:Nat→Bool}{held:Bool}
theorem CR {t e:TypeId}{fs:Array Field}{fuel:Nat}{cs:List Value}{x:DataW H×List MemPlace}(ht:P.underlying t=some (.slice e))(he:P.underlying e=some (.struct fs))
  (hone:oneCellFields P fs=true) (hC:P.cellsOf e=fs.size) (h:DataW.trod enc P w base spare held fuel t cs=some x):
  (cs=[.slice none 0 0]∧x=(.nil,[]))∨
  ∃(a:Addr) (len cap:Nat) (D:Nat→DataW H) (sp:List (DataW H)),cs=[.slice (some a) len cap]∧len≤cap∧cap≤maxLen∧x.1=.slice ((List.range len).map D) sp∧
   ∀i,i<len→ ∃ys,D i=.agg ys∧ ∀(j:Nat) (f:Field),fs[j]? =some f→ ∃(n:Nat) (v:Value) (y:DataW H×List MemPlace),w.cell? (a.add (i*fs.size+j))=some v∧DataW.trod enc P w base spare held n f.type [v]=some y∧ys[j]? =some y.1:=by
 rcases open_slice ht h with h0 | ⟨a,len,cap,m,n,D,Pl,hcs,hb,hl,hm,hmm,hx,hi⟩
 ·exact .inl h0
 ·have hx1:x.1=.slice ((List.range len).map D) ((List.range (m-len)).map fun j=>D (len+j)):=PR Prod.fst hx
  refine .inr ⟨a,len,cap,D,_,hcs,hl,hm,hx1,fun i him=>?_⟩;obtain⟨cs',hc,ht'⟩:=hi i (by rw[hmm];split<;>omega);rw[hC]at hc;obtain⟨ys,n',hn',hy,hlen,hyl,hf⟩:=DataW.trod_struct he ht';obtain⟨_,hcl,hat⟩:=World.cells?_some hc;refine⟨ys.map (·.1),PR Prod.fst hy,fun j f hj=>?_⟩;obtain⟨ho,hk⟩:=hone_of hone j f hj;have hjl:j<fs.size:=(Py.1 hj).1;have hcell:=hat j hjl;have hv:cs'[j]? =some (cs'[j]'(by omega)):=Pz (by omega);have h1:=hf j f hj;rw[ho,hk]at h1;have hone':(cs'.drop j).take 1=[cs'[j]'(by omega)]:=by
   rw[Qu (by omega)];rfl
  rw[hone']at h1;have hys:ys[j]? =some (ys[j]'(by omega)):=Pz (by omega);refine⟨_,_,_,?_,h1.trans hys,?_⟩
  ·rw[←Go.Deep.add_add,hcell,hv]
  ·rw[QL,hys];rfl
end
variable {H:Type}{enc:TypeId×Value→H}{W:World}
theorem Cr {fu:Nat}{v:Value}{x:DataW H×List MemPlace}(hf:DataW.trod enc Tryz.prog W 0 (fun _=>true) true fu 22 [v]=some x):
  ∃(l:List (List UInt8)) (a:Option Addr×Nat×Nat),v=bE a∧Ss W v l∧3*l.length+tot l≤3*Rows.uptoBulk x.1:=by
 have shape:∃a len cap,v=.slice a len cap:=by
  rcases open_slice1 Tryz.underlying22 FC hf with⟨hcs,hx⟩| ⟨a',len',cap',m,n,V,D,Pl,hcs,hb,hl,hm,hmm,hx,hi⟩
  ·exact⟨none,0,0,by simpa using hcs⟩
  ·exact⟨some a',len',cap',by simpa using hcs⟩
 obtain⟨a,len,cap,rfl⟩:=shape;rcases open_slice1 Tryz.underlying22 FC hf with⟨hcs,hx⟩| ⟨a',len',cap',m,n,V,D,Pl,hcs,hb,hl,hm,hmm,hx,hi⟩
 ·simp[Value.cells]at hcs
  obtain⟨rfl,rfl,rfl⟩:=hcs;exact⟨[],(none,0,0),rfl,Fs.nil W,by simp[tot]⟩
 ·simp[Value.cells]at hcs
  obtain⟨rfl,rfl,rfl⟩:=hcs;have hd:x.1=.slice ((List.range len).map D) ((List.range (m-len)).map fun j=>D (len+j)):=PR Prod.fst hx;have hml:len≤m:=by rw[hmm];split<;>omega
  have key:∀i,i<len→W.cell? (a'.add i)=some (.string ⟨(sO (V i)).toArray⟩)∧Rows.uptoBulk (D i)=(sO (V i)).length+1:=fun i hil=>by
   obtain⟨hc,ht⟩:=hi i (by omega);obtain⟨s,e1,e2,e3⟩:=DataW.trod_string Tryz.underlying9 ht;have e1':V i=.string s:=by simpa using e1
   have ed:D i=.lit (.string s.data.toList):=PR Prod.fst e2;refine⟨?_,?_⟩
   ·rw[hc,e1'];simp[sO]
   ·rw[ed,e1']
    simp[Rows.uptoBulk,sO]
  refine⟨(List.range len).map fun i=>sO (V i),(some a',len,cap),rfl,⟨some a',cap,by simp,by simp;exact hl,fun j y hj=>?_⟩,?_⟩
  ·obtain⟨xb,xo,spot⟩:=a'
   rw[QL]at hj;obtain⟨i,hi',rfl⟩:=Option.map_eq_some_iff.1 hj;obtain⟨hjl,hji⟩:=Pw.1 hi';simp only[List.getElem_range]at hji;simp only[List.length_range]at hjl;subst hji;have h0:=(key j hjl).1;have hspot:spot=none:=by simpa[Addr.add] using World.cell?_spot (key 0 (by omega)).1
   subst hspot;refine⟨xb,xo,rfl,fun k c hc=>?_⟩;rw[QV]at h0
   match k,hc with
   | 0,hc=>
    have:c=.string ⟨(sO (V j)).toArray⟩:=by simpa[jw] using hc.symm
    subst this
    simpa using h0
   | k+1,hc=>simp[jw]at hc
  ·have hb:=xE D (fun i=>sO (V i)) len (fun i hi=>(key i hi).2)
   rw[hd];simp only[Rows.uptoBulk,Qy,List.length_range];omega
theorem tY (w:World)(a:Addr)(Q:Nat→Row→Prop):∀(n:Nat),(∀i,i<n→ ∃(x:RV) (y:Row),(∀j c,(ai x)[j]? =some c→w.cell? (a.add (i*4+j))=some c)∧Ox (Ss w) x y∧Q i y)→
  ∃(L:List RV) (l:List Row),L.length=n∧gG (Ss w) L l∧(∀i y,l[i]? =some y→Q i y)∧ ∀(i:Nat) (x:RV),L[i]? =some x→ ∀j c,(ai x)[j]? =some c→w.cell? (a.add (i*4+j))=some c
 | 0,_=>⟨[],[],rfl,gG.nil _,fun i y hg=>by simp at hg,fun i g hi=>by simp at hi⟩
 | n+1,h=>by
  obtain⟨L,l,hl,hA,hok,hr⟩:=tY w a Q n (fun i hi=>h i (by omega));obtain⟨x,y,h0,h1,hb⟩:=h n (by omega);have hll:l.length=n:=by rw[←hA.1,hl]
  refine⟨L++ [x],l++ [y],by simp[hl],hA.snoc h1,fun i z hz=>?_,fun i z hz=>?_⟩
  ·by_cases hi:i<n
   ·rw[P7 (by omega)]at hz
    exact hok i z hz
   ·have:i=n:=by
     have:=(Pw.1 hz).1;simp at this;omega
    subst this;rw[P5 (by omega)]at hz;simp[hll]at hz;subst hz;exact hb
  ·by_cases hi:i<n
   ·rw[P7 (by omega)]at hz
    exact hr i z hz
   ·have:i=n:=by
     have:=(Pw.1 hz).1;simp at this;omega
    subst this;rw[P5 (by omega)]at hz;simp[hl]at hz;subst hz;exact h0
theorem CF {r:Reach}{b0:Nat}{v:Value}{d:DataW H}{p:List MemPlace}(hval:Value.okWide Tryz.prog W r b0 25 v)(h:DataW.Trod enc Tryz.prog W 0 (fun _=>true) true 25 v d p):
  ∃l:List Row,Rws W v l∧aO l≤3*Rows.uptoBulk d:=by
 obtain⟨a,len,cap,rfl⟩:=okWide_slice Tryz.underlying25 hval;obtain⟨fu,hf⟩:=h;obtain⟨fs,hu,hone,f0,f1,f2,f3,rfl,ht0,ht1,ht2,ht3⟩:=Kb;rcases CR Tryz.underlying25 hu hone MS hf with⟨hcs,hx⟩| ⟨a',len',cap',D,sp,hcs,hl,hm,hx,hi⟩
 ·simp[Value.cells]at hcs
  obtain⟨rfl,rfl,rfl⟩:=hcs;exact⟨[],⟨[],Fs.nil W,gG.nil _⟩,by simp[aO]⟩
 ·simp[Value.cells]at hcs
  obtain⟨rfl,rfl,rfl⟩:=hcs;have txt:∀{n:Nat} {v:Value} {y:DataW H×List MemPlace},DataW.trod enc Tryz.prog W 0 (fun _=>true) true n 9 [v]=some y→ ∃b:List UInt8,v=.string ⟨b.toArray⟩∧Rows.uptoBulk y.1=b.length+1:=fun ht=>by
   obtain⟨s,e1,e2,e3⟩:=DataW.trod_string Tryz.underlying9 ht;refine⟨s.data.toList,by simpa using e1,?_⟩;rw[PR Prod.fst e2];simp[Rows.uptoBulk]
  obtain⟨L,l,hL,hA,hok,hr⟩:=tY W a' (fun i y=>rowLen y≤3*Rows.uptoBulk (D i)) len (fun i hil=>by
   obtain⟨ys,hD,hi⟩:=hi i hil;obtain⟨n0,v0,y0,hc0,h0,w0⟩:=hi 0 f0 rfl;obtain⟨n1,v1,y1,hc1,h1,w1⟩:=hi 1 f1 rfl;obtain⟨n2,v2,y2,hc2,h2,w2⟩:=hi 2 f2 rfl;obtain⟨n3,v3,y3,hc3,h3,w3⟩:=hi 3 f3 rfl;rw[ht0]at h0;rw[ht1]at h1;rw[ht2]at h2;rw[ht3]at h3;obtain⟨z0,hz0,hx0,hw0⟩:=DataW.trod_int Tryz.underlying3 h0;obtain rfl:v0=.int .i64 z0:=by simpa using hz0
   obtain⟨b1,rfl,hb1⟩:=txt h1;obtain⟨b3,rfl,hb3⟩:=txt h3;obtain⟨l2,a2,rfl,hs2,ha2⟩:=Cr h2;have hq:=OZ w0 w1 w2 w3;refine⟨(z0,b1,a2,b3),(z0,b1,l2,b3),fun j c hc=>?_,⟨rfl,rfl,rfl,hs2⟩,?_⟩
   ·match j,hc with
    | 0,hc=>simp[ai]at hc;subst hc;exact hc0
    | 1,hc=>simp[ai]at hc;subst hc;exact hc1
    | 2,hc=>simp[ai]at hc;subst hc;exact hc2
    | 3,hc=>simp[ai]at hc;subst hc;exact hc3
    | j+4,hc=>simp[ai]at hc
   ·rw[hD]
    simp only[Rows.uptoBulk,rowLen];omega)
  refine⟨l,⟨L,⟨some a',cap,by rw[hL],by rw[hL];exact hl,fun j x hj=>?_⟩,hA⟩,?_⟩
  ·have hr':=hr j x hj
   obtain⟨xb,xo,spot⟩:=a';have hjl:=(Pw.1 hj).1;have h00:=hr 0 _ (Pz (show 0<L.length by omega)) 0 _ rfl;have hspot:spot=none:=by simpa[Addr.add] using World.cell?_spot h00
   subst hspot;refine⟨xb,xo,rfl,fun i c hc=>?_⟩;have:=hr' i c hc;rw[QV]at this;exact this
  ·have hll:l.length=len:=by rw[←hA.1,hL]
   have:=xG D l len (by omega) hok;rw[←hll,Qa,hll]at this;simp only at hx;rw[hx];simp only[Rows.uptoBulk];omega
end
end Go.Proofs.YtebabjnngdjceaaGreatDoor
