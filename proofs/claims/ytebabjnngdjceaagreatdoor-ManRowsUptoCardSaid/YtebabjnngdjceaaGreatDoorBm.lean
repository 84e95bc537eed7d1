/- Rows that the call owns: -/
import Derived.Test.YtebabjnngdjceaaGreatDoorW5
import Derived.Test.YtebabjnngdjceaaGreatDoorGx
import Derived.Shelf.Unicode.DecodeAny
set_option linter.unusedVariables false
set_option linter.unusedSimpArgs false
set_option maxRecDepth 100000
set_option maxHeartbeats 8000000
namespace Go.Proofs.YtebabjnngdjceaaGreatDoor
open Go.RowKit
section
open Go.RowKit
end
section
theorem ae (w:World)(o:Obj):zB w (w.alloc o):=(QA _ w).alloc (Qv _) _
end
section
open Go.RowKit
abbrev Gly:=Int×Int
def aQ (g:Gly):List Value:=[.int .i32 g.1,.int .u8 g.2]
theorem ah (g:Gly):(aQ g).length=2:=rfl
theorem qV (g:Gly):∀u∈aQ g,u.oneCell'=true:=by
 intro u hu;simp only[aQ,Q8,Rn,Sw]at hu;rcases hu with rfl | rfl<;>rfl
abbrev Gs (w:World)(v:Value)(l:List Gly):Prop:=Fs 2 aQ w v l
abbrev bu (base:Nat)(W:World)(x:Value)(l:List Gly):Prop:=ag 35 2 aQ base W x l
theorem Gs.at {w:World}{a:Option Addr}{k cap:Nat}{l:List Gly}(h:Gs w (.slice a k cap) l){j:Nat}{g:Gly}(hj:l[j]? =some g):
  ∃b off,a=some ⟨b,off,none⟩∧w.cell? ⟨b,off+j*2,none⟩=some (.int .i32 g.1)∧w.cell? ⟨b,off+j*2+1,none⟩=some (.int .u8 g.2)∧b<w.heap.size:=by
 obtain⟨a',cap',hv,_,hr⟩:=h;injection hv with h1 h2 h3
 subst h1;obtain⟨b,off,rfl,h0⟩:=hr j g hj;have c0:=h0 0 _ rfl;have c1:=h0 1 _ rfl;exact⟨b,off,rfl,c0,c1,QJ w _ c0⟩
theorem vD:(Tryz.prog.info? 35).map (fun i=>(i.zero,i.size,i.bytes))=some (some (.agg #[.int .i32 0,.int .u8 0]),2,8):=by kernel_rfl
theorem eqG (k l k' l':Int)(w:World):(Op.equalIn 10000 35 (.agg #[.int .i32 k,.int .u8 l]) (.agg #[.int .i32 k',.int .u8 l'])).run Tryz.prog w=.ok (k==k'&&l==l') w:=by
 rw[run_equalIn_agg w 9999 35 _ _ (by kernel_rfl) (by kernel_rfl)];have h3:((Tryz.prog.fieldsOf 35).toList.map fun f=>(f.name != "_",f.type,f.offset))=[(true,21,0),(true,5,1)]:=by kernel_rfl
 generalize (Tryz.prog.fieldsOf 35).toList=fs at*;rcases fs with _ | ⟨f0,_ | ⟨f1,_ | ⟨f2,fs⟩⟩⟩
 ·simp at h3
 ·simp at h3
 ·simp only[Q5,Ru,TA,Sm,and_true,bne_iff_ne,ne_eq]at h3
  obtain⟨⟨n0,t0,o0⟩,⟨n1,t1,o1⟩⟩:=h3;have e0:∀(a b:Int) (w:World),(Op.equalIn 9999 21 (.int .i32 a) (.int .i32 b)).run Tryz.prog w=.ok (a==b) w:=fun a b w=>run_equalIn_int w 9998 21 .i32 .i32 a b Tryz.underlying21
  have e1:∀(a b:Int) (w:World),(Op.equalIn 9999 5 (.int .u8 a) (.int .u8 b)).run Tryz.prog w=.ok (a==b) w:=fun a b w=>run_equalIn_int w 9998 5 .u8 .u8 a b Tryz.underlying5
  simp[go_sem,Op.eqFields,n0,n1,t0,t1,o0,o1,e0,e1]
  by_cases a1:k=k'<;>by_cases a2:l=l'<;>simp[a1,a2]
 ·simp at h3
theorem Br (k l k' l':Int)(w:World):(binOp .neq 35 (.agg #[.int .i32 k,.int .u8 l]) (.agg #[.int .i32 k',.int .u8 l'])).run Tryz.prog w=.ok (.bool (!(k==k'&&l==l'))) w:=by
 rw[run_neq_struct,eqG];rfl
theorem Hf (k l:Int)(w:World):(binOp .neq 35 (.agg #[.int .i32 k,.int .u8 l]) (.agg #[.int .i32 k,.int .u8 l])).run Tryz.prog w=.ok (.bool false) w:=by
 rw[Br];simp
theorem DJ {x y:Gly}(h:x≠y)(w:World):(binOp .neq 35 (.agg #[.int .i32 x.1,.int .u8 x.2]) (.agg #[.int .i32 y.1,.int .u8 y.2])).run Tryz.prog w=.ok (.bool true) w:=by
 rw[Br];have:(x.1==y.1&&x.2==y.2)=false:=by
  rw[Tk];intro e;simp only[RN,SQ]at e;exact h (Prod.ext e.1 e.2)
 rw[this];rfl
end
section
noncomputable def appG (args:Array Value):Sem Next:=do pure (.value (←Builtin.append_ #[26,26] 26 args))
theorem fH (cs:Array Bool)(args:Array Value):builtin .append #[26,26] 26 cs args=appG args:=rfl
theorem fq {base:Nat}{W:World}{x u:Value}{l m:List Gly}(h:bu base W x l)(hu:Gs W u m)(hb:base≤W.heap.size)(hd:l.length+m.length≤1000000):
  ∃x' w',(appG #[x,u]).run Tryz.prog W=.ok (.value x') w'∧bu base w' x' (l++m)∧W.grownBy w' x.ownBlock∧(x'.ownBlock=x.ownBlock∨x'.ownBlock=some W.heap.size):=by
 obtain⟨i0,hi,hz0,hz1,hz2⟩:=Rj vD;obtain⟨x',w',hr,r⟩:=mM ah qV (by decide) Tryz.underlying26 hi hz0 hz1 hz2 rfl (by decide) h hu hb hd;refine⟨x',w',?_,r⟩;unfold appG;simp only[Rx,RA,Rk,hr]
noncomputable def qW (x hi:Value):Sem Value:=Instr.slice 26 x none (some hi) none
theorem gJ (x hi:Value):Instr.slice 26 x none (some hi) none=qW x hi:=rfl
noncomputable def Ot (x lo:Value):Sem Value:=Instr.slice 26 x (some lo) none none
theorem mf (x lo:Value):Instr.slice 26 x (some lo) none none=Ot x lo:=rfl
theorem lH {w:World}{v:Value}{l:List Gly}(h:Gs w v l)(k:Nat)(hk:k≤l.length):
  ∃u,(∀W:World,(qW v (.int .i64 (k:Int))).run Tryz.prog W=.ok u W)∧Gs w u (l.take k)∧(∀a m cap,v=.slice a m cap→u=.slice a k cap):=by
 obtain⟨i0,hi,hz0,hz1,hz2⟩:=Rj vD;exact Fs.front Tryz.underlying26 hi h k hk
theorem yx {w:World}{v:Value}{l:List Gly}(h:Gs w v l)(k:Nat)(hk:k≤l.length):
  ∃u,(∀W:World,(Ot v (.int .i64 (k:Int))).run Tryz.prog W=.ok u W)∧Gs w u (l.drop k):=by
 obtain⟨i0,hi,hz0,hz1,hz2⟩:=Rj vD;exact Fs.back Tryz.underlying26 hi hz1 h k hk
attribute [local go_sem ↓ high] fH
theorem gu (l:List Gly)(v:Value)(w:World)(hv:Gs w v l)(hl:l.length≤200000):
  Calls Tryz.prog 126 #[v] w fun e w'=> ∃u,e=.returned u∧bu w.heap.size w' u l∧zB w w':=by
 have HV:=zH hv;obtain⟨a,cap,rfl,-,hr⟩:=hv
 cases a with
 | none=>
  obtain rfl:l=[]:=by
   cases l with
   | nil=>rfl
   | cons x l=>obtain⟨g,off,h0,_⟩:=hr 0 x rfl;cases h0
  clear hr;have hnil:(binOp .eql 26 (.slice none 0 cap) (.slice none 0 0)).run Tryz.prog w=.ok (.bool true) w:=R9 w 26 35 none 0 cap 0 0 Tryz.underlying26;simp only[QH];go_enter Tryz.func126,Tryz.ntmps126
  go_wp2_with fail
  go_ret;exact⟨_,rfl,ag.nil _ _,QA _ _⟩
 | some a=>
  clear hr;have b1:=ae w (.cells #[] 35);have o1:bu w.heap.size (w.alloc (.cells #[] 35)) (.slice (some ⟨w.heap.size,0,none⟩) 0 0) []:=mK ah w (Qv _) [] (by simp);obtain⟨x',w',k1,o2,g2,-⟩:=fq o1 (Fs.below HV.out b1) (by simp) (by simp;omega);have b2:=zH (o1.below b1 (by simp) g2);have O2:=zH o2;have hnil:(binOp .eql 26 (.slice (some a) l.length cap) (.slice none 0 0)).run Tryz.prog w=.ok (.bool false) w:=R9 w 26 35 (some a) l.length cap 0 0 Tryz.underlying26;clear o1 o2 g2 b1;go_enter Tryz.func126,Tryz.ntmps126
  go_wp2_with fail
  go_ret;exact⟨_,rfl,O2.out,b2.out⟩
end
section
open Go.RowKit
abbrev bV:=Bool×List (List Gly)
structure Tab where
 cols:List UInt8
 rows:List bV
 box:Bool
 all:Bool
deriving DecidableEq
structure Hd where
 kind:Int
 line:Int
 n:Int
 text:List Gly
 rows:List (List Gly)
 grid:Tab
deriving DecidableEq
inductive Nd where
 | mk (h:Hd) (kids:List Nd)
def Nd.hd:Nd→Hd
 | .mk h _=>h
def Nd.kids:Nd→List Nd
 | .mk _ k=>k
def lens {α:Type}(l:List (List α)):Nat:=(l.map List.length).sum
def trl (t:bV):Nat:=1+t.2.length+lens t.2
def bM (l:List bV):Nat:=(l.map trl).sum
def hdl (h:Hd):Nat:=3+h.text.length+h.grid.cols.length+(h.rows.length+lens h.rows)+bM h.grid.rows
mutual
def lL:Nd→Nat
 | .mk _ ks=>1+aO ks
def aO:List Nd→Nat
 | []=>0
 | x::l=>lL x+aO l
end
mutual
def dpN:Nd→Nat
 | .mk _ ks=>1+dpL ks
def dpL:List Nd→Nat
 | []=>0
 | x::l=>max (dpN x) (dpL l)
end
mutual
def nlN:Nd→Nat
 | .mk h ks=>hdl h+nlL ks
def nlL:List Nd→Nat
 | []=>0
 | x::l=>nlN x+nlL l
end
theorem nO (y:Nd):lL y=1+aO y.kids:=by cases y;simp[lL,Nd.kids]
theorem DI (y:Nd):nlN y=hdl y.hd+nlL y.kids:=by cases y;simp[nlN,Nd.kids,Nd.hd]
theorem vV:∀(a b:List Nd),aO (a++b)=aO a+aO b
 | [],b=>by simp[aO]
 | x::a,b=>by simp only[QY,aO,vV a b];omega
theorem fD:∀(a b:List Nd),nlL (a++b)=nlL a+nlL b
 | [],b=>by simp[nlL]
 | x::a,b=>by simp only[QY,nlL,fD a b];omega
theorem vU {l:List Nd}{p:Nat}{y:Nd}(hy:l[p]? =some y):aO (l.take (p+1))=aO (l.take p)+(1+aO y.kids):=by
 rw[Q7,hy,vV];simp only[Option.toList_some,aO,nO];omega
theorem Ni {l:List Nd}{p:Nat}{y:Nd}(hy:l[p]? =some y):nlL (l.take (p+1))=nlL (l.take p)+(hdl y.hd+nlL y.kids):=by
 rw[Q7,hy,fD];simp only[Option.toList_some,nlL,DI];omega
theorem Lt (l:List Nd)(p:Nat):aO (l.take p)≤aO l:=by
 have h:=vV (l.take p) (l.drop p);rw[Rs]at h;omega
theorem Ng (l:List Nd)(p:Nat):nlL (l.take p)≤nlL l:=by
 have h:=fD (l.take p) (l.drop p);rw[Rs]at h;omega
theorem zX {l:List Nd}{p:Nat}{y:Nd}(hy:l[p]? =some y):1+aO y.kids+aO (l.take p)≤aO l:=by
 have h1:=vU hy;have h2:=Lt l (p+1);omega
theorem Bq {l:List Nd}{p:Nat}{y:Nd}(hy:l[p]? =some y):hdl y.hd+nlL y.kids+nlL (l.take p)≤nlL l:=by
 have h1:=Ni hy;have h2:=Ng l (p+1);omega
theorem qm:∀l:List Nd,l.length≤aO l
 | []=>by simp[aO]
 | x::l=>by
  have:=qm l;have:=nO x;simp only[aO,QC];omega
mutual
theorem NR:∀x:Nd,dpN x≤lL x
 | .mk _ ks=>by
  have:=F7 ks;simp only[dpN,lL];omega
theorem F7:∀l:List Nd,dpL l≤aO l
 | []=>by simp[dpL,aO]
 | x::l=>by
  have:=NR x;have:=F7 l;simp only[dpL,aO];omega
end
mutual
theorem NT:∀x:Nd,3*lL x≤nlN x
 | .mk h ks=>by
  have:=qj ks;simp only[nlN,lL];unfold hdl;omega
theorem qj:∀l:List Nd,3*aO l≤nlL l
 | []=>by simp[nlL,aO]
 | x::l=>by
  have:=NT x;have:=qj l;simp only[nlL,aO];omega
end
theorem Ir {α:Type}{l:List (List α)}{p:Nat}{x:List α}(hx:l[p]? =some x):lens (l.take (p+1))=lens (l.take p)+x.length:=by
 rw[Q7,hx];simp[lens]
theorem Iq {α:Type}(l:List (List α))(p:Nat):lens (l.take p)≤lens l:=by
 have h:lens (l.take p++l.drop p)=lens (l.take p)+lens (l.drop p):=by unfold lens;rw[Si,List.sum_append]
 rw[Rs]at h;omega
theorem pX {α:Type}{l:List (List α)}{p:Nat}{x:List α}(hx:l[p]? =some x):x.length+lens (l.take p)≤lens l:=by
 have h1:=Ir hx;have h2:=Iq l (p+1);omega
theorem Gq {l:List bV}{p:Nat}{x:bV}(hx:l[p]? =some x):bM (l.take (p+1))=bM (l.take p)+trl x:=by
 rw[Q7,hx];simp[bM]
theorem Gp (l:List bV)(p:Nat):bM (l.take p)≤bM l:=by
 have h:bM (l.take p++l.drop p)=bM (l.take p)+bM (l.drop p):=by unfold bM;rw[Si,List.sum_append]
 rw[Rs]at h;omega
theorem sD {l:List bV}{p:Nat}{x:bV}(hx:l[p]? =some x):trl x+bM (l.take p)≤bM l:=by
 have h1:=Gq hx;have h2:=Gp l (p+1);omega
theorem l7:∀l:List bV,l.length≤bM l
 | []=>by simp[bM]
 | x::l=>by
  have:=l7 l;simp only[bM,Q5,Sb,QC]at this⊢;unfold trl at this⊢;omega
def Kp (S:Nat→Prop)(w w':World):Prop:= ∀b,S b→w'.heap[b]? =w.heap[b]?
theorem Kp.below {S:Nat→Prop}{D:Nat}{w w':World}(h:Below D w w')(hS:∀b,S b→b<D):Kp S w w':=fun b hb=>h.block b (hS b hb)
theorem Kp.grown {S:Nat→Prop}{w w':World}{row:Option Nat}(h:w.grownBy w' row)(hS:∀b,S b→b<w.heap.size∧some b≠row):Kp S w w':=fun b hb=>h.block b (hS b hb).1 (hS b hb).2
def foot (S:Nat→Prop)(w:World)(n:Nat)(v:Value):Prop:= ∀a k c,v=.slice (some a) k c→0<k→S a.block∧(¬S 0→ ∀i,i<k*n→w.frozen? ⟨a.block,a.off+i,none⟩=false)
def FsS {α:Type}(S:Nat→Prop)(n:Nat)(f:α→List Value)(w:World)(v:Value)(l:List α):Prop:=Fs n f w v l∧foot S w n v
theorem FsS.keep {α:Type}{S:Nat→Prop}{n:Nat}{f:α→List Value}{w w':World}{v:Value}{l:List α}(h:FsS S n f w v l)(hk:Kp S w w'):FsS S n f w' v l:=by
 obtain⟨⟨a,cap,rfl,hc,hr⟩,hf⟩:=h;refine⟨⟨a,cap,rfl,hc,fun j x hj=>?_⟩,fun a' k c e hpos=>⟨(hf a' k c e hpos).1,fun h0 i hi=>(World.frozen?_of_block (w:=w) (a:=⟨a'.block,a'.off+i,none⟩) (hk a'.block (hf a' k c e hpos).1)).trans ((hf a' k c e hpos).2 h0 i hi)⟩⟩;obtain⟨b,off,rfl,h0⟩:=hr j x hj;have hS:S b:=(hf _ _ _ rfl (by have:=(Qu.1 hj).1;omega)).1;exact⟨b,off,rfl,fun i c hi=>(Ra (hk b hS)).trans (h0 i c hi)⟩
theorem FsS.mono {α:Type}{S T:Nat→Prop}{n:Nat}{f:α→List Value}{w:World}{v:Value}{l:List α}(h:FsS S n f w v l)(hST:∀b,S b→T b):FsS T n f w v l:=
 ⟨h.1,fun a k c e hk=>⟨hST _ (h.2 a k c e hk).1,fun h0=>(h.2 a k c e hk).2 (fun q=>h0 (hST 0 q))⟩⟩
theorem FsS.nil {α:Type}(S:Nat→Prop)(n:Nat)(f:α→List Value)(w:World):FsS S n f w (.slice none 0 0) ([]:List α):=⟨Fs.nil w,fun a k c e _=>by injection e with e1;cases e1⟩
theorem FsS.at {α:Type}{S:Nat→Prop}{n:Nat}{f:α→List Value}{w:World}{a:Option Addr}{k cap:Nat}{l:List α}(h:FsS S n f w (.slice a k cap) l){j:Nat}{x:α}(hx:l[j]? =some x):
  ∃g off,a=some ⟨g,off,none⟩∧S g∧ ∀i c,(f x)[i]? =some c→w.cell? ⟨g,off+(j*n+i),none⟩=some c:=by
 obtain⟨⟨a',cap',hv,hc,hr⟩,hf⟩:=h;injection hv with h1 h2 h3
 subst h1;obtain⟨b,off,rfl,h0⟩:=hr j x hx;exact⟨b,off,rfl,(hf _ _ _ rfl (by have:=(Qu.1 hx).1;omega)).1,h0⟩
abbrev PV:=Option Addr×Nat×Nat
def pv (s:PV):Value:= .slice s.1 s.2.1 s.2.2
def aK (s:PV):List Value:=[pv s]
theorem bv (s:PV):(aK s).length=1:=rfl
theorem jW (s:PV):∀u∈aK s,u.oneCell'=true:=by
 intro u hu;simp[aK,pv]at hu;subst hu;rfl
def cK (x:Bool×PV):List Value:=[.bool x.1,pv x.2]
theorem dB (x:Bool×PV):(cK x).length=2:=rfl
theorem oq (x:Bool×PV):∀u∈cK x,u.oneCell'=true:=by
 intro u hu;simp[cK,pv]at hu;rcases hu with rfl | rfl<;>rfl
def GrS (S:Nat→Prop)(w:World)(v:Value)(l:List (List Gly)):Prop:=
 ∃L:List PV,L.length=l.length∧FsS S 1 aK w v L∧ ∀(i:Nat) s r,L[i]? =some s→l[i]? =some r→FsS S 2 aQ w (pv s) r
def TrS (S:Nat→Prop)(w:World)(v:Value)(l:List bV):Prop:=
 ∃L:List (Bool×PV),L.length=l.length∧FsS S 2 cK w v L∧ ∀(i:Nat) s r,L[i]? =some s→l[i]? =some r→s.1=r.1∧GrS S w (pv s.2) r.2
theorem GrS.keep {S:Nat→Prop}{w w':World}{v:Value}{l:List (List Gly)}(h:GrS S w v l)(hk:Kp S w w'):GrS S w' v l:=by
 obtain⟨L,h1,h2,h3⟩:=h;exact⟨L,h1,h2.keep hk,fun i s r hs hr=>(h3 i s r hs hr).keep hk⟩
theorem TrS.keep {S:Nat→Prop}{w w':World}{v:Value}{l:List bV}(h:TrS S w v l)(hk:Kp S w w'):TrS S w' v l:=by
 obtain⟨L,h1,h2,h3⟩:=h;exact⟨L,h1,h2.keep hk,fun i s r hs hr=>⟨(h3 i s r hs hr).1,(h3 i s r hs hr).2.keep hk⟩⟩
theorem GrS.mono {S T:Nat→Prop}{w:World}{v:Value}{l:List (List Gly)}(h:GrS S w v l)(hST:∀b,S b→T b):GrS T w v l:=by
 obtain⟨L,h1,h2,h3⟩:=h;exact⟨L,h1,h2.mono hST,fun i s r hs hr=>(h3 i s r hs hr).mono hST⟩
theorem TrS.mono {S T:Nat→Prop}{w:World}{v:Value}{l:List bV}(h:TrS S w v l)(hST:∀b,S b→T b):TrS T w v l:=by
 obtain⟨L,h1,h2,h3⟩:=h;exact⟨L,h1,h2.mono hST,fun i s r hs hr=>⟨(h3 i s r hs hr).1,(h3 i s r hs hr).2.mono hST⟩⟩
theorem GrS.nil (S:Nat→Prop)(w:World):GrS S w (.slice none 0 0) []:=⟨[],rfl,FsS.nil _ _ _ _,fun i s r h=>by simp at h⟩
theorem TrS.nil (S:Nat→Prop)(w:World):TrS S w (.slice none 0 0) []:=⟨[],rfl,FsS.nil _ _ _ _,fun i s r h=>by simp at h⟩
theorem GrS.len {S:Nat→Prop}{w:World}{v:Value}{l:List (List Gly)}(h:GrS S w v l):∃a cap,v=.slice a l.length cap:=by
 obtain⟨L,h1,h2,-⟩:=h;obtain⟨a,cap,e⟩:=h2.1.len;exact⟨a,cap,h1▸e⟩
theorem TrS.len {S:Nat→Prop}{w:World}{v:Value}{l:List bV}(h:TrS S w v l):∃a cap,v=.slice a l.length cap:=by
 obtain⟨L,h1,h2,-⟩:=h;obtain⟨a,cap,e⟩:=h2.1.len;exact⟨a,cap,h1▸e⟩
theorem GrS.at {S:Nat→Prop}{w:World}{a:Option Addr}{k cap:Nat}{l:List (List Gly)}(h:GrS S w (.slice a k cap) l){j:Nat}{r:List Gly}(hr:l[j]? =some r):
  ∃g off b c,a=some ⟨g,off,none⟩∧S g∧w.cell? ⟨g,off+j,none⟩=some (.slice b r.length c)∧FsS S 2 aQ w (.slice b r.length c) r:=by
 obtain⟨L,h1,h2,h3⟩:=h;obtain⟨s,hs⟩:∃s,L[j]? =some s:=⟨L[j]'(by have:=(Qu.1 hr).1;omega),Qw _⟩;obtain⟨g,off,e,hg,hc⟩:=h2.at hs;have h4:=h3 j s r hs hr;obtain⟨b,c,e2⟩:=h4.1.len;have c0:=hc 0 _ rfl;rw[SS,Rm,e2]at c0;rw[e2]at h4;exact⟨g,off,b,c,e,hg,c0,h4⟩
theorem TrS.at {S:Nat→Prop}{w:World}{a:Option Addr}{k cap:Nat}{l:List bV}(h:TrS S w (.slice a k cap) l){j:Nat}{r:bV}(hr:l[j]? =some r):
  ∃g off b c,a=some ⟨g,off,none⟩∧S g∧w.cell? ⟨g,off+j*2,none⟩=some (.bool r.1)∧w.cell? ⟨g,off+j*2+1,none⟩=some (.slice b r.2.length c)∧GrS S w (.slice b r.2.length c) r.2:=by
 obtain⟨L,h1,h2,h3⟩:=h;obtain⟨s,hs⟩:∃s,L[j]? =some s:=⟨L[j]'(by have:=(Qu.1 hr).1;omega),Qw _⟩;obtain⟨g,off,e,hg,hc⟩:=h2.at hs;obtain⟨e1,h4⟩:=h3 j s r hs hr;obtain⟨b,c,e2⟩:=h4.len;have c0:=hc 0 _ rfl;have c1:=hc 1 _ rfl;rw[e1]at c0;rw[e2]at c1 h4;exact⟨g,off,b,c,e,hg,c0,c1,h4⟩
structure NV where
 kind:Int
 line:Int
 n:Int
 text:PV
 kids:PV
 rows:PV
 cols:List UInt8
 trows:PV
 box:Bool
 all:Bool
def af (x:NV):List Value:=[.int .i64 x.kind,.int .i64 x.line,.int .i64 x.n,pv x.text,pv x.kids,pv x.rows,.string ⟨x.cols.toArray⟩,pv x.trows,.bool x.box,.bool x.all]
theorem az (x:NV):(af x).length=10:=rfl
theorem jX (x:NV):∀u∈af x,u.oneCell'=true:=by
 intro u hu;simp[af,pv]at hu;rcases hu with rfl | rfl | rfl | rfl | rfl | rfl | rfl | rfl | rfl | rfl<;>rfl
structure df (S:Nat→Prop)(w:World)(x:NV)(h:Hd):Prop where
 kind:x.kind=h.kind
 line:x.line=h.line
 n:x.n=h.n
 text:FsS S 2 aQ w (pv x.text) h.text
 rows:GrS S w (pv x.rows) h.rows
 cols:x.cols=h.grid.cols
 trows:TrS S w (pv x.trows) h.grid.rows
 box:x.box=h.grid.box
 all:x.all=h.grid.all
theorem df.keep {S:Nat→Prop}{w w':World}{x:NV}{h:Hd}(k:df S w x h)(hk:Kp S w w'):df S w' x h:=
 ⟨k.kind,k.line,k.n,k.text.keep hk,k.rows.keep hk,k.cols,k.trows.keep hk,k.box,k.all⟩
theorem df.mono {S T:Nat→Prop}{w:World}{x:NV}{h:Hd}(k:df S w x h)(hST:∀b,S b→T b):df T w x h:=
 ⟨k.kind,k.line,k.n,k.text.mono hST,k.rows.mono hST,k.cols,k.trows.mono hST,k.box,k.all⟩
inductive NsS (S:Nat→Prop)(w:World):Value→List Nd→Prop where
 | mk (v:Value) (l:List Nd) (L:List NV) (hl:L.length=l.length) (hs:FsS S 10 af w v L) (hh:∀(i:Nat) x y,L[i]? =some x→l[i]? =some y→df S w x y.hd)
   (hk:∀(i:Nat) x y,L[i]? =some x→l[i]? =some y→NsS S w (pv x.kids) y.kids):NsS S w v l
theorem NsS.keep {S:Nat→Prop}{w w':World}{v:Value}{l:List Nd}(h:NsS S w v l)(k:Kp S w w'):NsS S w' v l:=by
 induction h with
 | mk v l L hl hs hh hk ih=>exact .mk v l L hl (hs.keep k) (fun i x y h1 h2=>(hh i x y h1 h2).keep k) ih
theorem NsS.mono {S T:Nat→Prop}{w:World}{v:Value}{l:List Nd}(h:NsS S w v l)(hST:∀b,S b→T b):NsS T w v l:=by
 induction h with
 | mk v l L hl hs hh hk ih=>exact .mk v l L hl (hs.mono hST) (fun i x y h1 h2=>(hh i x y h1 h2).mono hST) ih
theorem NsS.nil (S:Nat→Prop)(w:World):NsS S w (.slice none 0 0) []:= .mk _ _ [] rfl (FsS.nil _ _ _ _) (fun i x y h=>by simp at h) (fun i x y h=>by simp at h)
theorem NsS.len {S:Nat→Prop}{w:World}{v:Value}{l:List Nd}(h:NsS S w v l):∃a cap,v=.slice a l.length cap:=by
 cases h with
 | mk _ _ L hl hs hh hk=>
  obtain⟨a,cap,e⟩:=hs.1.len;exact⟨a,cap,hl▸e⟩
structure NAt (S:Nat→Prop)(w:World)(g o:Nat)(y:Nd)(text kids rows trows:PV):Prop where
 c0:w.cell? ⟨g,o,none⟩=some (.int .i64 y.hd.kind)
 c1:w.cell? ⟨g,o+1,none⟩=some (.int .i64 y.hd.line)
 c2:w.cell? ⟨g,o+2,none⟩=some (.int .i64 y.hd.n)
 c3:w.cell? ⟨g,o+3,none⟩=some (.slice text.1 y.hd.text.length text.2.2)
 c4:w.cell? ⟨g,o+4,none⟩=some (.slice kids.1 y.kids.length kids.2.2)
 c5:w.cell? ⟨g,o+5,none⟩=some (.slice rows.1 y.hd.rows.length rows.2.2)
 c6:w.cell? ⟨g,o+6,none⟩=some (.string ⟨y.hd.grid.cols.toArray⟩)
 c7:w.cell? ⟨g,o+7,none⟩=some (.slice trows.1 y.hd.grid.rows.length trows.2.2)
 c8:w.cell? ⟨g,o+8,none⟩=some (.bool y.hd.grid.box)
 c9:w.cell? ⟨g,o+9,none⟩=some (.bool y.hd.grid.all)
 blk:S g
 text:FsS S 2 aQ w (.slice text.1 y.hd.text.length text.2.2) y.hd.text
 kids:NsS S w (.slice kids.1 y.kids.length kids.2.2) y.kids
 rows:GrS S w (.slice rows.1 y.hd.rows.length rows.2.2) y.hd.rows
 trows:TrS S w (.slice trows.1 y.hd.grid.rows.length trows.2.2) y.hd.grid.rows
theorem pG {s:PV}{a:Option Addr}{n c:Nat}(h:pv s=.slice a n c):s=(a,n,c):=by
 obtain⟨s0,s1,s2⟩:=s;unfold pv at h;injection h with h1 h2 h3
 simp only at h1 h2 h3;subst h1 h2 h3;rfl
theorem NsS.at {S:Nat→Prop}{w:World}{a:Option Addr}{k cap:Nat}{l:List Nd}(h:NsS S w (.slice a k cap) l){j:Nat}{y:Nd}(hy:l[j]? =some y):
  ∃g off text kids rows trows,a=some ⟨g,off,none⟩∧NAt S w g (off+j*10) y text kids rows trows:=by
 cases h with
 | mk _ _ L hl hs hh hk=>
  obtain⟨x,hx⟩:∃x,L[j]? =some x:=⟨L[j]'(by have:=(Qu.1 hy).1;omega),Qw _⟩;obtain⟨g,off,e,hg,hc⟩:=hs.at hx;have H:=hh j x y hx hy;have K:=hk j x y hx hy;obtain⟨t1,t2,et⟩:=H.text.1.len;obtain⟨k1,k2,ek⟩:=K.len;obtain⟨r1,r2,er⟩:=H.rows.len;obtain⟨q1,q2,eq⟩:=H.trows.len;have hT:=H.text;have hR:=H.rows;have hQ:=H.trows;rw[et]at hT;rw[ek]at K;rw[er]at hR;rw[eq]at hQ;have hcell:∀i c,(af x)[i]? =some c→w.cell? ⟨g,off+j*10+i,none⟩=some c:=fun i c h=>by rw[Nat.add_assoc];exact hc i c h
  refine⟨g,off,(t1,y.hd.text.length,t2),(k1,y.kids.length,k2),(r1,y.hd.rows.length,r2),(q1,y.hd.grid.rows.length,q2),e,
   ⟨hcell 0 _ (by simp[af,H.kind]),hcell 1 _ (by simp[af,H.line]),hcell 2 _ (by simp[af,H.n]),hcell 3 _ (by simp[af,et]),hcell 4 _ (by simp[af,ek]),hcell 5 _ (by simp[af,er]),hcell 6 _ (by simp[af,H.cols]),hcell 7 _ (by simp[af,eq]),hcell 8 _ (by simp[af,H.box]),hcell 9 _ (by simp[af,H.all]),hg,hT,K,hR,hQ⟩⟩
end
section
def trm:List Gly→List Gly
 | []=>[]
 | g::l=>if trm l=[]∧g.1=32 then [] else g::trm l
def sqA:Bool→List Gly→List Gly
 | _,[]=>[]
 | b,g::l=>if g.1=32 then(if b then(32,0)::sqA false l else sqA false l) else g::sqA true l
def sqz (l:List Gly):List Gly:=sqA false (trm l)
theorem ik (g:Gly)(l:List Gly):trm (g::l)=if trm l=[]∧g.1=32 then [] else g::trm l:=rfl
theorem JA:∀l:List Gly,trm (trm l)=trm l
 | []=>rfl
 | g::l=>by
  have ih:=JA l;rw[ik]
  split
  ·rfl
  ·rename_i h
   rw[ik,ih,QG h]
theorem EX:∀l:List Gly,(trm l).length≤l.length
 | []=>by simp[trm]
 | g::l=>by
  have ih:=EX l;rw[ik]
  split
  ·simp
  ·simp only[QC];omega
theorem jT (b:Bool){g:Gly}(h:g.1=32)(l:List Gly):sqA b (g::l)=if b then(32,0)::sqA false l else sqA false l:=by
 show(if g.1=32 then _ else _)=_;rw[QP h]
theorem iQ (b:Bool){g:Gly}(h:g.1≠32)(l:List Gly):sqA b (g::l)=g::sqA true l:=by
 show(if g.1=32 then _ else _)=_;rw[QG h]
theorem qE:∀(b:Bool) (l:List Gly),(sqA b l).filter (fun g=>g.1 != 32)=l.filter (fun g=>g.1 != 32)
 | _,[]=>rfl
 | b,g::l=>by
  by_cases hg:g.1=32
  ·rw[jT b hg,Tp (by simp[hg])]
   cases b
   ·exact qE false l
   ·rw[QP rfl,Tp (by simp)]
    exact qE false l
  ·rw[iQ b hg,Tn (by simp[hg]),Tn (by simp[hg]),qE true l]
theorem yN:∀(b:Bool) (l:List Gly),(sqA b l).length≤l.length
 | _,[]=>by simp[sqA]
 | b,g::l=>by
  by_cases hg:g.1=32
  ·rw[jT b hg]
   have:=yN false l
   cases b
   ·simp only[QC,QX,Sa];omega
   ·simp only[if_true,QC];omega
  ·rw[iQ b hg]
   have:=yN true l;simp only[QC];omega
theorem sF (l:List Gly):(sqz l).length≤l.length:=QO (yN false _) (EX l)
theorem Fa:sqz []=[]:=rfl
def side (c:UInt8):Bool:=c==108 || c==99 || c==114
def jd (cols:List UInt8):List UInt8:=if(cols.filter side).take 20=[] then [108] else(cols.filter side).take 20
def eF:Nat→List (List Gly)→List (List Gly)
 | 0,_=>[]
 | n+1,[]=>[]::eF n []
 | n+1,c::l=>sqz c::eF n l
def gL (n:Nat)(r:bV):bV:=(r.1,if r.1 then [] else eF n r.2)
def mend (t:Tab):Tab:=⟨jd t.cols,t.rows.map (gL (jd t.cols).length),t.box,t.all&&t.box⟩
theorem lw:∀(n:Nat) (l:List (List Gly)),(eF n l).length=n
 | 0,_=>rfl
 | n+1,[]=>by simp[eF,lw n []]
 | n+1,c::l=>by simp[eF,lw n l]
theorem ve (c:List UInt8):1≤(jd c).length∧(jd c).length≤20∧(jd c).all side=true:=by
 unfold jd
 split
 ·exact⟨by decide,by decide,by decide⟩
 ·rename_i h
  refine⟨?_,?_,?_⟩
  ·have:=Rh.2 h
   omega
  ·rw[QN];omega
  ·rw[List.all_eq_true]
   intro x hx;exact(List.mem_filter.1 (R7 hx)).2
end
section
def stands (k w:Int):Bool:=(k==1&&w==0)|| (k==2&&w==1)|| (decide (3≤k)&&decide (k≤7))
def bS:Tab:=⟨[],[],false,false⟩
def isNone (t:Tab):Bool:=decide (t.cols=[])&&decide (t.rows=[])&& !t.box&& !t.all
def nZ (lo hi x:Int):Int:=max lo (min x hi)
def aS (h:Hd)(k:Int):Hd:=
 ⟨k,nZ 0 1099511627775 h.line,if k=4∨k=5 then nZ 0 200 h.n else 0,if 1≤k∧k≤4 then sqz h.text else [],if k=6 then h.rows else [],if k=7 then mend h.grid else bS⟩
def bZ (h:Hd)(kids:Bool):Bool:=
 if 1≤h.kind∧h.kind≤3 then decide (h.text≠ []) else if h.kind=5 then kids else if h.kind=6 then decide (h.rows≠ []) else h.kind==4 || (h.kind==7&&decide (h.grid.rows≠ []))
def oK {α:Type}(l:List α):Bool:= !l.isEmpty
def aJ (k w:Int):Int:=if(k=1∨k=2)∧stands k w=false then 3 else k
def lY (k:Int):Bool:=k==1 || k==2 || k==4 || k==5
def eY (h:Hd)(w:Int):Bool:=lY h.kind&&aJ h.kind w==h.kind&&(aJ h.kind w==5 || bZ (aS h (aJ h.kind w)) false)
mutual
def tdN:Nd→Int→Nat→Nat→List Nd×Nat
 | .mk h ks,w,d,n=>
  if eY h w then
   (if bZ (aS h (aJ h.kind w)) (oK (tdL ks (aJ h.kind w) (d+1) n).1) then [.mk (aS h (aJ h.kind w)) (tdL ks (aJ h.kind w) (d+1) n).1] else [],(tdL ks (aJ h.kind w) (d+1) n).2)
  else
   ((if bZ (aS h (aJ h.kind w)) false then [.mk (aS h (aJ h.kind w)) []] else [])++(if lY h.kind then(tdL ks w d n).1 else []),if lY h.kind then(tdL ks w d n).2 else n)
def tdL:List Nd→Int→Nat→Nat→List Nd×Nat
 | [],_,_,n=>([],n)
 | x::l,w,d,n=>if n=0∨20≤d then([],n) else((tdN x w d (n-1)).1++(tdL l w d (tdN x w d (n-1)).2).1,(tdL l w d (tdN x w d (n-1)).2).2)
end
def tT (l:List Nd):List Nd:=(tdL l 0 0 20000).1
theorem E8 (w:Int)(d n:Nat):tdL [] w d n=([],n):=by simp[tdL]
theorem Ay (x:Nd)(l:List Nd)(w:Int)(d n:Nat):tdL (x::l) w d n=if n=0∨20≤d then([],n) else((tdN x w d (n-1)).1++(tdL l w d (tdN x w d (n-1)).2).1,(tdL l w d (tdN x w d (n-1)).2).2):=by
 conv=>lhs;unfold tdL
theorem JJ (h:Hd)(ks:List Nd)(w:Int)(d n:Nat):tdN (.mk h ks) w d n=if eY h w then
   (if bZ (aS h (aJ h.kind w)) (oK (tdL ks (aJ h.kind w) (d+1) n).1) then [.mk (aS h (aJ h.kind w)) (tdL ks (aJ h.kind w) (d+1) n).1] else [],(tdL ks (aJ h.kind w) (d+1) n).2)
  else
   ((if bZ (aS h (aJ h.kind w)) false then [.mk (aS h (aJ h.kind w)) []] else [])++(if lY h.kind then(tdL ks w d n).1 else []),if lY h.kind then(tdL ks w d n).2 else n):=by
 conv=>lhs;unfold tdN
end
section
def ink (l:List Gly):List Gly:=l.filter fun g=>g.1 != 32
end
section
open Go.Shelf Go.RowKit Go.Lib
def U8 (w:World):Prop:=Lib.Utf8Tabs 0 1 w
theorem U8.below {w w':World}(h:U8 w)(hb:zB w w'):U8 w':=Utf8Tabs_below h hb
end
section
open Go.RowKit
theorem Kp.drewN (S:Nat→Prop)(w:World)(m:Nat):Kp S w (w.drewN m):=fun b _=>(below_drewN (QA (b+1) w) m).block b (by omega)
noncomputable def mxS (args:Array Value):Sem Next:=do pure (.value (←Builtin.max_ #[3,3] 3 args))
theorem iC (cs:Array Bool)(args:Array Value):builtin .max #[3,3] 3 cs args=mxS args:=rfl
theorem sJ (x y z:Int)(hz:(if y>x then y else x)=z)(w:World):(mxS #[.int .i64 x,.int .i64 y]).run Tryz.prog w=.ok (.value (.int .i64 z)) w:=by
 unfold mxS;simp only[Rx,RA,run_max_int2,Rk,hz]
attribute [local go_sem ↓ high] iC
end
section
theorem bsz (b:List UInt8):(⟨b.toArray⟩:ByteArray).size=b.length:=by simp[Go.Lib.size_eq]
theorem NAt.keep {S:Nat→Prop}{w w':World}{g o:Nat}{y:Nd}{text kids rows trows:PV}(h:NAt S w g o y text kids rows trows)(hk:Kp S w w'):NAt S w' g o y text kids rows trows:=
 have e:w'.heap[g]? =w.heap[g]? :=hk g h.blk
 ⟨(Ra e).trans h.c0,(Ra e).trans h.c1,(Ra e).trans h.c2,(Ra e).trans h.c3,(Ra e).trans h.c4,(Ra e).trans h.c5,(Ra e).trans h.c6,(Ra e).trans h.c7,(Ra e).trans h.c8,(Ra e).trans h.c9,
  h.blk,h.text.keep hk,h.kids.keep hk,h.rows.keep hk,h.trows.keep hk⟩
end
section
theorem Gs.drewN {w:World}{v:Value}{l:List Gly}(h:Gs w v l)(m:Nat):Gs (w.drewN m) v l:=Fs.below h (below_drewN (QA _ _) m)
theorem GrS.drewN {S:Nat→Prop}{w:World}{v:Value}{l:List (List Gly)}(h:GrS S w v l)(m:Nat):GrS S (w.drewN m) v l:=h.keep (Kp.drewN S w m)
theorem TrS.drewN {S:Nat→Prop}{w:World}{v:Value}{l:List bV}(h:TrS S w v l)(m:Nat):TrS S (w.drewN m) v l:=h.keep (Kp.drewN S w m)
def QtN (b:Bool)(w:World)(e:Ending)(w':World):Prop:=e=.returned (.bool b)∧ ∃m,w'=w.drewN m
theorem QTI {P:Prop}(h:P:=by
 obtain rfl:j=a.length:=by omega
 have hs:a=b:=by
  have h:=HS.out;rw[QT,HLen.out,QT]at h;exact h
 have HT:=zH (Q6 hs);clear hs;go_wp2_with fail
 go_ret;exact⟨aF HT.out.symm,m,HW.out⟩):P:=h
theorem uu (a b:List Gly)(v u:Value)(w:World)(hv:Gs w v a)(hu:Gs w u b)(hl:a.length≤1000000000)(hl':b.length≤1000000000):
  Calls Tryz.prog 11 #[v,u] w (QtN (decide (a=b)) w):=by
 have HV:=zH hv;have HU:=zH hu;obtain⟨aa,ca,rfl,-,-⟩:=hv;obtain⟨ab,cb,rfl,-,-⟩:=hu;unfold QtN
 by_cases hlen:a.length=b.length
 ·have HLen:=zH hlen
  have hne:((a.length:Int) != (b.length:Int))=false:=by simp[hlen]
  clear hlen;go_enter Tryz.func11,Tryz.ntmps11
  go_wp2_with fail
  go_loopw [5] (fun i wr=> ∃j m:Nat,j≤a.length∧i=.int .i64 j∧Hid (a.take j=b.take j)∧Hid (wr=w.drewN m)) (fun i _=>a.length-(intOf i).toNat)
  case atStart=>exact⟨0,0,by omega,rfl,zH rfl,zH rfl⟩
  case round=>
   obtain⟨j,m,hj,rfl,HS,HW⟩:=hrel
   by_cases hlt:j<a.length
   ·obtain⟨x,hx⟩:∃x,a[j]? =some x:=⟨a[j],Qw hlt⟩
    obtain⟨y,hy⟩:∃y,b[j]? =some y:=⟨b[j]'(by have:=HLen.out;omega),Qw _⟩;obtain⟨g,off,rfl,c0,c1,-⟩:=Gs.at (Gs.drewN HV.out m) hx;obtain⟨g',off',rfl,c0',c1',-⟩:=Gs.at (Gs.drewN HU.out m) hy;rw[←HW.out]at c0 c1 c0' c1';have hi0:(j:Int)<(a.length:Int):=by omega
    have hi2:(j:Int)<(b.length:Int):=by have:=HLen.out;omega
    have hi1:(0:Int)≤(j:Int):=by omega
    by_cases hxy:x=y
    ·subst hxy
     have HT:=zH (take_same HS.out hx hy);have hq:=Hf;clear hx hy;go_wp2_with fail
     go_quiet (fail)
     go_wp2
     go_roundw
     case rel=>exact⟨j+1,_,by omega,by go_num,HT,zH (by rw[HW.out,Sy])⟩
     case measure=>simp[intOf];omega
    ·have HT:=zH (QQ (uR hx hy hxy))
     have hq:=DJ hxy;clear hx hy hxy;go_wp2_with fail
     go_quiet (fail)
     go_wp2
     go_ret;exact⟨aF HT.out.symm,_,by rw[HW.out,Sy]⟩
   ·exact QTI
 ·have hne:((a.length:Int) != (b.length:Int))=true:=by simp;omega
  have HT:=zH (QQ (show¬a=b from fun h=>hlen (by rw[h])));clear hlen;go_enter Tryz.func11,Tryz.ntmps11
  go_wp2_with fail
  go_ret;exact⟨aF HT.out.symm,0,rfl⟩
theorem nX (S T:Nat→Prop)(a b:List (List Gly))(v u:Value)(w:World)(hv:GrS S w v a)(hu:GrS T w u b)(hl:a.length+lens a≤1000000000)(hl':b.length+lens b≤1000000000):
  Calls Tryz.prog 42 #[v,u] w (QtN (decide (a=b)) w):=by
 have HV:=zH hv;have HU:=zH hu;obtain⟨aa,ca,rfl⟩:=hv.len;obtain⟨ab,cb,rfl⟩:=hu.len;clear hv hu;unfold QtN
 by_cases hlen:a.length=b.length
 ·have HLen:=zH hlen
  have hne:((a.length:Int) != (b.length:Int))=false:=by simp[hlen]
  clear hlen;go_enter Tryz.func42,Tryz.ntmps42
  go_wp2_with fail
  go_loopw [5] (fun i wr=> ∃j m:Nat,j≤a.length∧i=.int .i64 j∧Hid (a.take j=b.take j)∧Hid (wr=w.drewN m)) (fun i _=>a.length-(intOf i).toNat)
  case atStart=>exact⟨0,0,by omega,rfl,zH rfl,zH rfl⟩
  case round=>
   obtain⟨j,m,hj,rfl,HS,HW⟩:=hrel
   by_cases hlt:j<a.length
   ·obtain⟨x,hx⟩:∃x,a[j]? =some x:=⟨a[j],Qw hlt⟩
    obtain⟨y,hy⟩:∃y,b[j]? =some y:=⟨b[j]'(by have:=HLen.out;omega),Qw _⟩;obtain⟨g,off,b1,z1,rfl,-,c0,h1⟩:=(HV.out.drewN m).at hx;obtain⟨g',off',b2,z2,rfl,-,c0',h2⟩:=(HU.out.drewN m).at hy;rw[←HW.out]at c0 c0' h1 h2;have lx:=pX hx;have ly:=pX hy;have hi0:(j:Int)<(a.length:Int):=by omega
    have hi2:(j:Int)<(b.length:Int):=by have:=HLen.out;omega
    have hi1:(0:Int)≤(j:Int):=by omega
    have hR:=fun q=>uu x y _ _ (wr.drewN q) (Gs.drewN h1.1 q) (Gs.drewN h2.1 q) (by omega) (by omega)
    unfold QtN at hR
    by_cases hxy:x=y
    ·have HT:=zH (take_same HS.out hx (by rw[hxy];exact hy))
     simp only[Q6 hxy]at hR;have HR:=zH hR;clear hx hy hR h1 h2 hxy lx ly;go_wp2_with fail
     go_quiet (first | (go_at_call 11;exact Calls.quiet_of (HR.out _)))
     go_wp2
     go_roundw
     case rel=>exact⟨j+1,_,by omega,by go_num,HT,zH (by rw[HW.out,Sy])⟩
     case measure=>simp[intOf];omega
    ·have HT:=zH (QQ (uR hx hy hxy))
     simp only[QQ hxy]at hR;have HR:=zH hR;clear hx hy hR h1 h2 hxy lx ly;go_wp2_with fail
     go_quiet (first | (go_at_call 11;exact Calls.quiet_of (HR.out _)))
     go_wp2
     go_ret;exact⟨aF HT.out.symm,_,by rw[HW.out,Sy]⟩
   ·exact QTI
 ·have hne:((a.length:Int) != (b.length:Int))=true:=by simp;omega
  have HT:=zH (QQ (show¬a=b from fun h=>hlen (by rw[h])));clear hlen;go_enter Tryz.func42,Tryz.ntmps42
  go_wp2_with fail
  go_ret;exact⟨aF HT.out.symm,0,rfl⟩
end
section
open Go.RowKit
noncomputable def eqT (a c:Value):Sem Value:=binOp .eql 9 a c
theorem iV (a c:Value):binOp .eql 9 a c=eqT a c:=rfl
noncomputable def OU (a c:Value):Sem Value:=binOp .neq 9 a c
theorem gZ (a c:Value):binOp .neq 9 a c=OU a c:=rfl
theorem E9 (a c:List UInt8):decide ((⟨a.toArray⟩:ByteArray)=⟨c.toArray⟩)=decide (a=c):=by
 apply bH;simp
theorem FZ (a c:List UInt8)(W:World):(eqT (.string ⟨a.toArray⟩) (.string ⟨c.toArray⟩)).run Tryz.prog W=.ok (.bool (decide (a=c))) W:=by
 rw[←E9];unfold eqT;simp[go_sem];exact bH (by simp)
theorem Kg (a c:List UInt8)(W:World):(OU (.string ⟨a.toArray⟩) (.string ⟨c.toArray⟩)).run Tryz.prog W=.ok (.bool (!decide (a=c))) W:=by
 rw[←E9];unfold OU;simp[go_sem];exact bH (by simp)
def ug (t:Tab)(r:PV):Value:= .agg #[.string ⟨t.cols.toArray⟩,pv r,.bool t.box,.bool t.all]
theorem OG (a b:Tab):a=b↔a.cols=b.cols∧a.rows=b.rows∧a.box=b.box∧a.all=b.all:=by
 obtain⟨a1,a2,a3,a4⟩:=a;obtain⟨b1,b2,b3,b4⟩:=b;simp
attribute [local go_sem ↓ high] iV gZ
theorem ut (S T:Nat→Prop)(a b:Tab)(r1 r2:PV)(w:World)(hv:TrS S w (pv r1) a.rows)(hu:TrS T w (pv r2) b.rows)(hl:bM a.rows≤1000000000)(hl':bM b.rows≤1000000000)(hS:∀x,S x→x<w.heap.size)(hT:∀x,T x→x<w.heap.size):
  Calls Tryz.prog 43 #[ug a r1,ug b r2] w fun e w'=>e=.returned (.bool (decide (a=b)))∧zB w w':=by
 obtain⟨a1,z1,e1⟩:=hv.len;obtain rfl:=pG e1;obtain⟨a2,z2,e2⟩:=hu.len;obtain rfl:=pG e2;unfold ug pv;simp only;obtain⟨A,hA⟩:∃A:Obj,(.cells #[.string ⟨a.cols.toArray⟩,.slice a1 a.rows.length z1,.bool a.box,.bool a.all] 56:Obj)=A:=⟨_,rfl⟩;obtain⟨B,hB⟩:∃B:Obj,(.cells #[.string ⟨b.cols.toArray⟩,.slice a2 b.rows.length z2,.bool b.box,.bool b.all] 56:Obj)=B:=⟨_,rfl⟩;have bl:zB w ((w.alloc A).alloc B):=((QA _ w).alloc (Qv _) _).alloc (by simp) _;have hbA:Blk ((w.alloc A).alloc B) w.heap.size 56 [.string ⟨a.cols.toArray⟩,.slice a1 a.rows.length z1,.bool a.box,.bool a.all]:=by
  rw[←hA];exact(Rf _ _ (by simp)).trans (QD w _)
 have hbB:Blk ((w.alloc A).alloc B) (w.heap.size+1) 56 [.string ⟨b.cols.toArray⟩,.slice a2 b.rows.length z2,.bool b.box,.bool b.all]:=by
  rw[←hB];have:=QD (w.alloc A) (.cells #[.string ⟨b.cols.toArray⟩,.slice a2 b.rows.length z2,.bool b.box,.bool b.all] 56);rw[QK]at this;exact this
 have hV:=hv.keep (Kp.below bl hS);have hU:=hu.keep (Kp.below bl hT);obtain⟨w0,hw0⟩:∃w0,(w.alloc A).alloc B=w0:=⟨_,rfl⟩;rw[hw0]at bl hbA hbB hV hU;have BL:=zH bl;have HBA:=zH hbA;have HBB:=zH hbB;have HV:=zH hV;have HU:=zH hU;have W0:=zH hw0;have NE:=fun x y=>Kg x y
 have hiff:=OG a b;have htn:=l7 a.rows;have c0:w0.cell? ⟨w.heap.size,0,none⟩=some (.string ⟨a.cols.toArray⟩):=hbA.cell 0;have c1:w0.cell? ⟨w.heap.size,1,none⟩=some (.slice a1 a.rows.length z1):=hbA.cell 1;have c2:w0.cell? ⟨w.heap.size,2,none⟩=some (.bool a.box):=hbA.cell 2;have c3:w0.cell? ⟨w.heap.size,3,none⟩=some (.bool a.all):=hbA.cell 3;have d0:w0.cell? ⟨w.heap.size+1,0,none⟩=some (.string ⟨b.cols.toArray⟩):=hbB.cell 0;have d1:w0.cell? ⟨w.heap.size+1,1,none⟩=some (.slice a2 b.rows.length z2):=hbB.cell 1;have d2:w0.cell? ⟨w.heap.size+1,2,none⟩=some (.bool b.box):=hbB.cell 2;have d3:w0.cell? ⟨w.heap.size+1,3,none⟩=some (.bool b.all):=hbB.cell 3;clear bl hbA hbB hV hU hv hu hS hT
 by_cases q0:a.cols=b.cols
 ·have n0:=NE a.cols b.cols
  rw[Q6 q0]at n0;simp only[Bool.not_true]at n0
  by_cases q2:a.box=b.box
  ·rw[←q2]at d2
   by_cases q3:a.all=b.all
   ·rw[←q3]at d3
    by_cases q1:a.rows.length=b.rows.length
    ·rw[←q1]at d1
     have HLen:=zH q1;have HIFF:Hid (a=b↔a.rows=b.rows):=zH ⟨fun h=>by rw[h],fun h=>hiff.2 ⟨q0,h,q2,q3⟩⟩;clear q0 q1 q2 q3 hiff NE;subst hA hB;go_enter Tryz.func43,Tryz.ntmps43
     go_wp2_with fail
     clear c0 c1 c2 c3 d0 d1 d2 d3 n0;go_loopw [5] (fun i wr=> ∃j m:Nat,j≤a.rows.length∧i=.int .i64 j∧Hid (a.rows.take j=b.rows.take j)∧Hid (wr=w0.drewN m)) (fun i _=>a.rows.length-(intOf i).toNat)
     case atStart=>exact⟨0,0,by omega,rfl,zH rfl,zH rfl⟩
     case round=>
      obtain⟨j,m,hj,rfl,HS,HW⟩:=hrel;have hbA:Blk wr w.heap.size 56 _:=HW.out▸HBA.out.below (below_drewN (QA _ _) m);have hbB:Blk wr (w.heap.size+1) 56 _:=HW.out▸HBB.out.below (below_drewN (QA _ _) m);have c1:wr.cell? ⟨w.heap.size,1,none⟩=some (.slice a1 a.rows.length z1):=hbA.cell 1;have d1:wr.cell? ⟨w.heap.size+1,1,none⟩=some (.slice a2 a.rows.length z2):=HLen.out▸hbB.cell 1;clear hbA hbB
      by_cases hlt:j<a.rows.length
      ·obtain⟨x,hx⟩:∃x,a.rows[j]? =some x:=⟨a.rows[j],Qw hlt⟩
       obtain⟨y,hy⟩:∃y,b.rows[j]? =some y:=⟨b.rows[j]'(by have:=HLen.out;omega),Qw _⟩;obtain⟨g1,o1,b1,y1,k1,-,c4,c5,h1⟩:=(HV.out.drewN m).at hx;obtain⟨g2,o2,b2,y2,k2,-,d4,d5,h2⟩:=(HU.out.drewN m).at hy;rw[←HW.out]at c4 c5 h1 d4 d5 h2;simp only at k1 k2;rw[k1]at c1;rw[k2]at d1;have lx:=sD hx;have ly:=sD hy;unfold trl at lx ly;have hi0:(j:Int)<(a.rows.length:Int):=by omega
       have hi1:(0:Int)≤(j:Int):=by omega
       have hR:=fun q=>nX S T x.2 y.2 _ _ (wr.drewN q) (h1.drewN q) (h2.drewN q) (by omega) (by omega)
       unfold QtN at hR;have BW:=zH (fun q=>below_drewN (B:=w.heap.size) (QA w.heap.size w0) q);obtain⟨x1,x2⟩:=x;obtain⟨u1,u2⟩:=y;simp only at c4 c5 d4 d5 hR
       by_cases e1:x1=u1
       ·rw[←e1]at d4
        by_cases e2:x2=u2
        ·have HT:=zH (take_same HS.out hx (by rw[e1,e2];exact hy))
         simp only[Q6 e2]at hR;have HR:=zH hR;clear hx hy hR h1 h2 lx ly e1 e2 k1 k2;go_wp2_with fail
         go_quiet (first | (go_at_call 42;exact Calls.quiet_of (HR.out _)))
         go_wp2
         go_roundw
         case rel=>exact⟨j+1,_,by omega,by go_num,HT,zH (by rw[HW.out,Sy])⟩
         case measure=>simp[intOf];omega
        ·have HF:=zH (QQ (show¬a=b from fun h=>e2 (by
          have hh:=hx;rw[HIFF.out.1 h,hy]at hh;injection hh with hh
          injection hh with _ hh
          exact hh.symm)))
         simp only[QQ e2]at hR;have HR:=zH hR;clear hx hy hR h1 h2 lx ly e1 e2 k1 k2;go_wp2_with fail
         go_quiet (first | (go_at_call 42;exact Calls.quiet_of (HR.out _)))
         go_wp2
         go_ret;exact⟨aF HF.out.symm,by rw[HW.out,Sy];exact BL.out.trans (BW.out _)⟩
       ·have HF:=zH (QQ (show¬a=b from fun h=>e1 (by
         have hh:=hx;rw[HIFF.out.1 h,hy]at hh;injection hh with hh
         injection hh with hh _
         exact hh.symm)))
        have n1:(x1==u1)=false:=by simpa using e1
        clear hx hy hR h1 h2 lx ly e1 k1 k2;go_wp2_with fail
        go_quiet (fail)
        go_wp2
        go_ret;exact⟨aF HF.out.symm,by rw[HW.out,Sy];exact BL.out.trans (BW.out _)⟩
      ·obtain rfl:j=a.rows.length:=by omega
       have hlt':¬(a.rows.length:Int)<(a.rows.length:Int):=by omega
       have hs:a.rows=b.rows:=by
        have h:=HS.out;rw[QT,HLen.out,QT]at h;exact h
       have HT:=zH (Q6 (HIFF.out.2 hs));have BW:=zH (fun q=>below_drewN (B:=w.heap.size) (QA w.heap.size w0) q);clear hs;go_wp2_with fail
       go_ret;exact⟨aF HT.out.symm,by rw[HW.out];exact BL.out.trans (BW.out _)⟩
    ·have n1:((a.rows.length:Int) != (b.rows.length:Int))=true:=by simp;omega
     have HF:=zH (QQ (show¬a=b from fun h=>q1 (by rw[h])));clear q0 q1 q2 q3 hiff NE;subst hA hB;go_enter Tryz.func43,Tryz.ntmps43
     go_wp2_with fail
     go_ret;exact⟨aF HF.out.symm,BL.out⟩
   ·have n3:(a.all==b.all)=false:=by simpa using q3
    have HF:=zH (QQ (show¬a=b from fun h=>q3 (by rw[h])));clear q0 q2 q3 hiff NE;subst hA hB;go_enter Tryz.func43,Tryz.ntmps43
    go_wp2_with fail
    go_ret;exact⟨aF HF.out.symm,BL.out⟩
  ·have n2:(a.box==b.box)=false:=by simpa using q2
   have HF:=zH (QQ (show¬a=b from fun h=>q2 (by rw[h])));clear q0 q2 hiff NE;subst hA hB;go_enter Tryz.func43,Tryz.ntmps43
   go_wp2_with fail
   go_ret;exact⟨aF HF.out.symm,BL.out⟩
 ·have n0:=NE a.cols b.cols
  rw[QQ q0]at n0;simp only[Bool.not_false]at n0;have HF:=zH (QQ (show¬a=b from fun h=>q0 (by rw[h])));clear q0 hiff NE;subst hA hB;go_enter Tryz.func43,Tryz.ntmps43
  go_wp2_with fail
  go_ret;exact⟨aF HF.out.symm,BL.out⟩
end
section
attribute [local go_sem ↓ high] iV gZ
theorem PZ (a b:Hd):a=b↔a.kind=b.kind∧a.line=b.line∧a.n=b.n∧a.text=b.text∧a.rows=b.rows∧a.grid=b.grid:=by
 obtain⟨a1,a2,a3,a4,a5,a6⟩:=a;obtain⟨b1,b2,b3,b4,b5,b6⟩:=b;simp
theorem PQ (a b:Nd):a=b↔a.hd=b.hd∧a.kids=b.kids:=by
 obtain⟨a1,a2⟩:=a;obtain⟨b1,b2⟩:=b;simp[Nd.hd,Nd.kids]
noncomputable def Cg (a b:List Nd):Bool:= @decide (a=b) (Classical.propDecidable _)
theorem nI {a b:List Nd}(h:a=b):Cg a b=true:=by unfold Cg;exact @Q6 _ (Classical.propDecidable _) h
theorem oM {a b:List Nd}(h:¬a=b):Cg a b=false:=by unfold Cg;exact @QQ _ (Classical.propDecidable _) h
def ndL (kd ln nn:Int)(y:Nd)(t k r q:PV):List Value:=
 [.int .i64 kd,.int .i64 ln,.int .i64 nn,.slice t.1 y.hd.text.length t.2.2,.slice k.1 y.kids.length k.2.2,.slice r.1 y.hd.rows.length r.2.2,.string ⟨y.hd.grid.cols.toArray⟩,.slice q.1 y.hd.grid.rows.length q.2.2,.bool y.hd.grid.box,.bool y.hd.grid.all]
theorem xE (S T:Nat→Prop):∀(n:Nat) (a b:List Nd),aO a=n→nlL a≤1000000000→nlL b≤1000000000→ ∀(v u:Value) (w:World),NsS S w v a→NsS T w u b→(∀x,S x→x<w.heap.size)→(∀x,T x→x<w.heap.size)→
  Calls Tryz.prog 21 #[v,u] w fun e w'=>e=.returned (.bool (Cg a b))∧zB w w':=by
 intro n
 induction n using Nat.strongRecOn with
 | _ n IH=>
  intro a b hn hba hbb v u w hv hu hS hT;have HV:=zH hv;have HU:=zH hu;obtain⟨aa,ca,rfl⟩:=hv.len;obtain⟨ab,cb,rfl⟩:=hu.len;have HI:Hid (∀(k m:List Nd),aO k<n→nlL k≤1000000000→nlL m≤1000000000→ ∀(v u:Value) (w:World),NsS S w v k→NsS T w u m→(∀x,S x→x<w.heap.size)→(∀x,T x→x<w.heap.size)→
   Calls Tryz.prog 21 #[v,u] w fun e w'=>e=.returned (.bool (Cg k m))∧zB w w'):=zH (fun k m hk h1 h2=>IH (aO k) hk k m rfl h1 h2)
  have hll:=qm a;have hnl:=qj a;have HS:=zH hS;have HT:=zH hT;clear hv hu IH hS hT
  by_cases hlen:a.length=b.length
  ·have HLen:=zH hlen
   have hne:((a.length:Int) != (b.length:Int))=false:=by simp[hlen]
   clear hlen;go_enter Tryz.func21,Tryz.ntmps21
   go_wp2_with fail
   go_loopw [5] (fun i wr=> ∃j:Nat,j≤a.length∧i=.int .i64 j∧Hid (a.take j=b.take j)∧Hid (zB w wr)) (fun i _=>a.length-(intOf i).toNat)
   case atStart=>exact⟨0,by omega,rfl,zH rfl,zH (QA _ _)⟩
   case round=>
    obtain⟨j,hj,rfl,HTk,BW⟩:=hrel
    by_cases hlt:j<a.length
    ·obtain⟨x,hx⟩:∃x,a[j]? =some x:=⟨a[j],Qw hlt⟩
     obtain⟨y,hy⟩:∃y,b[j]? =some y:=⟨b[j]'(by have:=HLen.out;omega),Qw _⟩;have hi0:(j:Int)<(a.length:Int):=by omega
     have hi2:(j:Int)<(b.length:Int):=by have:=HLen.out;omega
     have hi1:(0:Int)≤(j:Int):=by omega
     have lx:=Bq hx;have ly:=Bq hy;have cx:=zX hx;have dx:hdl x.hd=3+x.hd.text.length+x.hd.grid.cols.length+(x.hd.rows.length+lens x.hd.rows)+bM x.hd.grid.rows:=rfl;have dy:hdl y.hd=3+y.hd.text.length+y.hd.grid.cols.length+(y.hd.rows.length+lens y.hd.rows)+bM y.hd.grid.rows:=rfl;obtain⟨g1,o1,t1,k1,r1,q1,rfl,hA⟩:=HV.out.at hx;obtain⟨g2,o2,t2,k2,r2,q2,rfl,hB⟩:=HU.out.at hy;have KS:=zH (fun W (h:zB w W)=>hA.keep (Kp.below h HS.out));have KT:=zH (fun W (h:zB w W)=>hB.keep (Kp.below h HT.out));have hA1:=KS.out wr BW.out;have hB1:=KT.out wr BW.out;have a0:=hA1.c0;have a1:=hA1.c1;have a2:=hA1.c2;have a3:=hA1.c3;have a4:=hA1.c4;have a5:=hA1.c5;have a6:=hA1.c6;have a7:=hA1.c7;have a8:=hA1.c8;have a9:=hA1.c9;obtain⟨xk,hxk⟩:∃k,x.hd.kind=k:=⟨_,rfl⟩;obtain⟨xl,hxl⟩:∃k,x.hd.line=k:=⟨_,rfl⟩;obtain⟨xn,hxn⟩:∃k,x.hd.n=k:=⟨_,rfl⟩;obtain⟨yk,hyk⟩:∃k,y.hd.kind=k:=⟨_,rfl⟩;obtain⟨yl,hyl⟩:∃k,y.hd.line=k:=⟨_,rfl⟩;obtain⟨yn,hyn⟩:∃k,y.hd.n=k:=⟨_,rfl⟩;rw[hxk]at a0;rw[hxl]at a1;rw[hxn]at a2;have bl1:=ae wr (.cells (ndL xk xl xn x t1 k1 r1 q1).toArray 58);have hB2:=KT.out (wr.alloc (.cells (ndL xk xl xn x t1 k1 r1 q1).toArray 58)) (BW.out.trans (bl1.mono BW.out.size));have b0:=hB2.c0;have b1:=hB2.c1;have b2:=hB2.c2;have b3:=hB2.c3;have b4:=hB2.c4;have b5:=hB2.c5;have b6:=hB2.c6;have b7:=hB2.c7;have b8:=hB2.c8;have b9:=hB2.c9;rw[hyk]at b0;rw[hyl]at b1;rw[hyn]at b2;have bl2:zB wr ((wr.alloc (.cells (ndL xk xl xn x t1 k1 r1 q1).toArray 58)).alloc (.cells (ndL yk yl yn y t2 k2 r2 q2).toArray 58)):=((QA _ wr).alloc (Qv _) _).alloc (by simp) _;have hbA:Blk ((wr.alloc (.cells (ndL xk xl xn x t1 k1 r1 q1).toArray 58)).alloc (.cells (ndL yk yl yn y t2 k2 r2 q2).toArray 58)) wr.heap.size 58 (ndL xk xl xn x t1 k1 r1 q1):=(Rf _ _ (by simp)).trans (QD wr _);have hbB:Blk ((wr.alloc (.cells (ndL xk xl xn x t1 k1 r1 q1).toArray 58)).alloc (.cells (ndL yk yl yn y t2 k2 r2 q2).toArray 58)) (wr.heap.size+1) 58 (ndL yk yl yn y t2 k2 r2 q2):=by
      have:=QD (wr.alloc (.cells (ndL xk xl xn x t1 k1 r1 q1).toArray 58)) (.cells (ndL yk yl yn y t2 k2 r2 q2).toArray 58);rw[QK]at this;exact this
     have BL2:=BW.out.trans (bl2.mono BW.out.size);have c0:((wr.alloc (.cells (ndL xk xl xn x t1 k1 r1 q1).toArray 58)).alloc (.cells (ndL yk yl yn y t2 k2 r2 q2).toArray 58)).cell? ⟨wr.heap.size,0,none⟩=some (.int .i64 xk):=hbA.cell 0;have d0:((wr.alloc (.cells (ndL xk xl xn x t1 k1 r1 q1).toArray 58)).alloc (.cells (ndL yk yl yn y t2 k2 r2 q2).toArray 58)).cell? ⟨wr.heap.size+1,0,none⟩=some (.int .i64 yk):=hbB.cell 0;have c1:((wr.alloc (.cells (ndL xk xl xn x t1 k1 r1 q1).toArray 58)).alloc (.cells (ndL yk yl yn y t2 k2 r2 q2).toArray 58)).cell? ⟨wr.heap.size,1,none⟩=some (.int .i64 xl):=hbA.cell 1;have d1:((wr.alloc (.cells (ndL xk xl xn x t1 k1 r1 q1).toArray 58)).alloc (.cells (ndL yk yl yn y t2 k2 r2 q2).toArray 58)).cell? ⟨wr.heap.size+1,1,none⟩=some (.int .i64 yl):=hbB.cell 1;have c2:((wr.alloc (.cells (ndL xk xl xn x t1 k1 r1 q1).toArray 58)).alloc (.cells (ndL yk yl yn y t2 k2 r2 q2).toArray 58)).cell? ⟨wr.heap.size,2,none⟩=some (.int .i64 xn):=hbA.cell 2;have d2:((wr.alloc (.cells (ndL xk xl xn x t1 k1 r1 q1).toArray 58)).alloc (.cells (ndL yk yl yn y t2 k2 r2 q2).toArray 58)).cell? ⟨wr.heap.size+1,2,none⟩=some (.int .i64 yn):=hbB.cell 2;have c3:((wr.alloc (.cells (ndL xk xl xn x t1 k1 r1 q1).toArray 58)).alloc (.cells (ndL yk yl yn y t2 k2 r2 q2).toArray 58)).cell? ⟨wr.heap.size,3,none⟩=some (.slice t1.1 x.hd.text.length t1.2.2):=hbA.cell 3;have d3:((wr.alloc (.cells (ndL xk xl xn x t1 k1 r1 q1).toArray 58)).alloc (.cells (ndL yk yl yn y t2 k2 r2 q2).toArray 58)).cell? ⟨wr.heap.size+1,3,none⟩=some (.slice t2.1 y.hd.text.length t2.2.2):=hbB.cell 3;have HBK:Hid (∀W,Below ((wr.alloc (.cells (ndL xk xl xn x t1 k1 r1 q1).toArray 58)).alloc (.cells (ndL yk yl yn y t2 k2 r2 q2).toArray 58)).heap.size ((wr.alloc (.cells (ndL xk xl xn x t1 k1 r1 q1).toArray 58)).alloc (.cells (ndL yk yl yn y t2 k2 r2 q2).toArray 58)) W→Blk W wr.heap.size 58 (ndL xk xl xn x t1 k1 r1 q1)∧Blk W (wr.heap.size+1) 58 (ndL yk yl yn y t2 k2 r2 q2)):=zH (fun W h=>⟨hbA.below h,hbB.below h⟩);have HDR:=zH (fun m=>below_drewN (QA ((wr.alloc (.cells (ndL xk xl xn x t1 k1 r1 q1).toArray 58)).alloc (.cells (ndL yk yl yn y t2 k2 r2 q2).toArray 58)).heap.size ((wr.alloc (.cells (ndL xk xl xn x t1 k1 r1 q1).toArray 58)).alloc (.cells (ndL yk yl yn y t2 k2 r2 q2).toArray 58))) m);have HX:=zH hx;have HY:=zH hy;have fin:∀(h:¬x=y),Cg a b=false:=fun h=>oM (fun e=>h (by have h1:=HX.out;rw[e,HY.out]at h1;injection h1 with h1;exact h1.symm))
     have FIN:=zH fin;have HEQ:Hid (x=y↔(xk=yk∧xl=yl∧xn=yn∧x.hd.text=y.hd.text∧x.hd.rows=y.hd.rows∧x.hd.grid=y.hd.grid)∧x.kids=y.kids):=zH (by rw[PQ,PZ,hxk,hxl,hxn,hyk,hyl,hyn]);have HT4:=zH (fun W (h:zB w W)=>uu x.hd.text y.hd.text _ _ W (KS.out W h).text.1 (KT.out W h).text.1 (by omega) (by omega));have HT5:=zH (fun W (h:zB w W)=>nX S T x.hd.rows y.hd.rows _ _ W (KS.out W h).rows (KT.out W h).rows (by omega) (by omega));have HT6:=zH (fun W (h:zB w W)=>ut S T x.hd.grid y.hd.grid (q1.1,x.hd.grid.rows.length,q1.2.2) (q2.1,y.hd.grid.rows.length,q2.2.2) W (KS.out W h).trows (KT.out W h).trows (by omega) (by omega) (fun z hz=>QB (HS.out z hz) h.size) (fun z hz=>QB (HT.out z hz) h.size));have HT7:=zH (fun W (h:zB w W)=>HI.out x.kids y.kids (by omega) (by omega) (by omega) _ _ W (KS.out W h).kids (KT.out W h).kids (fun z hz=>QB (HS.out z hz) h.size) (fun z hz=>QB (HT.out z hz) h.size));unfold QtN at HT4 HT5;unfold ug pv at HT6;have B2:=zH BL2;have hwz:w.heap.size≤wr.heap.size:=BW.out.size;clear hx hy lx ly cx dx dy hxk hxl hxn hyk hyl hyn fin bl1 bl2 hB2 hbA hbB BL2 KS KT;simp only[ndL]at b0 b1 b2 b3 b4 b5 b6 b7 b8 b9 c0 d0 c1 d1 c2 d2 c3 d3 B2 HBK HDR
     by_cases e0:xk=yk
     ·subst e0
      by_cases e1:xl=yl
      ·subst e1
       by_cases e2:xn=yn
       ·subst e2
        go_wp2_with fail
        refine(HT4.out _ B2.out).mono ?_;rintro e w4 ⟨rfl,m4,hw4⟩;have h4:=HDR.out m4;rw[←hw4]at h4;have B4:=zH (B2.out.trans (h4.mono B2.out.size));obtain⟨kA,kB⟩:=HBK.out w4 h4;have H4:=zH h4;have c5:w4.cell? ⟨wr.heap.size,5,none⟩=some (.slice r1.1 x.hd.rows.length r1.2.2):=kA.cell 5;have d5:w4.cell? ⟨wr.heap.size+1,5,none⟩=some (.slice r2.1 y.hd.rows.length r2.2.2):=kB.cell 5;clear kA kB hw4 h4 HT4 c0 c1 c2 c3 d0 d1 d2 d3 b0 a0 b1 a1 b2 a2 b3 a3 b4 a4 b5 a5 b6 a6 b7 a7 b8 a8 b9 a9
        by_cases e4:x.hd.text=y.hd.text
        ·rw[Q6 e4]
         have E4:=zH e4;clear e4;go_wp2_with fail
         refine(HT5.out _ B4.out).mono ?_;rintro e w5 ⟨rfl,m5,hw5⟩;have h5:=below_drewN (QA w4.heap.size w4) m5;rw[←hw5]at h5;have B5:=zH (B4.out.trans (h5.mono B4.out.size));have H5:=zH (H4.out.trans (h5.mono H4.out.size));obtain⟨kA,kB⟩:=HBK.out w5 H5.out;have c6:w5.cell? ⟨wr.heap.size,6,none⟩=some (.string ⟨x.hd.grid.cols.toArray⟩):=kA.cell 6;have d6:w5.cell? ⟨wr.heap.size+1,6,none⟩=some (.string ⟨y.hd.grid.cols.toArray⟩):=kB.cell 6;have c7:w5.cell? ⟨wr.heap.size,7,none⟩=some (.slice q1.1 x.hd.grid.rows.length q1.2.2):=kA.cell 7;have d7:w5.cell? ⟨wr.heap.size+1,7,none⟩=some (.slice q2.1 y.hd.grid.rows.length q2.2.2):=kB.cell 7;have c8:w5.cell? ⟨wr.heap.size,8,none⟩=some (.bool x.hd.grid.box):=kA.cell 8;have d8:w5.cell? ⟨wr.heap.size+1,8,none⟩=some (.bool y.hd.grid.box):=kB.cell 8;have c9:w5.cell? ⟨wr.heap.size,9,none⟩=some (.bool x.hd.grid.all):=kA.cell 9;have d9:w5.cell? ⟨wr.heap.size+1,9,none⟩=some (.bool y.hd.grid.all):=kB.cell 9;clear kA kB hw5 h5 HT5 c5 d5 H4 B4
         by_cases e5:x.hd.rows=y.hd.rows
         ·rw[Q6 e5]
          have E5:=zH e5;clear e5;go_wp2_with fail
          refine(HT6.out _ B5.out).mono ?_;rintro e w6 ⟨rfl,h6⟩;have B6:=zH (B5.out.trans (h6.mono B5.out.size));have H6:=zH (H5.out.trans (h6.mono H5.out.size));obtain⟨kA,kB⟩:=HBK.out w6 H6.out;have c4:w6.cell? ⟨wr.heap.size,4,none⟩=some (.slice k1.1 x.kids.length k1.2.2):=kA.cell 4;have d4:w6.cell? ⟨wr.heap.size+1,4,none⟩=some (.slice k2.1 y.kids.length k2.2.2):=kB.cell 4;clear kA kB h6 HT6 H5 B5 c6 c7 c8 c9 d6 d7 d8 d9
          by_cases e6:x.hd.grid=y.hd.grid
          ·rw[Q6 e6]
           have E6:=zH e6;clear e6;go_wp2_with fail
           refine(HT7.out _ B6.out).mono ?_;rintro e w7 ⟨rfl,h7⟩;have B7:=zH (B6.out.trans (h7.mono B6.out.size));clear h7 HT7 H6 B6 c4 d4
           by_cases e7:x.kids=y.kids
           ·have HNX:=zH (take_same HTk.out HX.out (by rw[HEQ.out.2 (by refine⟨⟨?_,?_,?_,E4.out,E5.out,E6.out⟩,e7⟩<;>first | rfl | trivial)];exact HY.out))
            rw[nI e7];clear e7;go_wp2_with fail
            go_roundw
            case rel=>exact⟨j+1,by omega,by go_num,HNX,B7⟩
            case measure=>(simp[intOf];try omega)
           ·rw[oM e7]
            have HF:=zH (FIN.out (fun h=>e7 (HEQ.out.1 h).2));clear e7;go_wp2_with fail
            go_ret;exact⟨aF HF.out.symm,B7.out⟩
          ·rw[QQ e6]
           have HF:=zH (FIN.out (fun h=>e6 (HEQ.out.1 h).1.2.2.2.2.2));clear e6 c4 d4;go_wp2_with fail
           go_ret;exact⟨aF HF.out.symm,B6.out⟩
         ·rw[QQ e5]
          have HF:=zH (FIN.out (fun h=>e5 (HEQ.out.1 h).1.2.2.2.2.1));clear e5 c6 c7 c8 c9 d6 d7 d8 d9;go_wp2_with fail
          go_ret;exact⟨aF HF.out.symm,B5.out⟩
        ·rw[QQ e4]
         have HF:=zH (FIN.out (fun h=>e4 (HEQ.out.1 h).1.2.2.2.1));clear e4 c5 d5;go_wp2_with fail
         go_ret;exact⟨aF HF.out.symm,B4.out⟩
       ·have n2:(xn==yn)=false:=by simpa using e2
        have m2:(xn != yn)=true:=by simpa using e2
        have HF:=zH (FIN.out (fun h=>e2 (HEQ.out.1 h).1.2.2.1));go_wp2_with fail
        go_ret;exact⟨aF HF.out.symm,B2.out⟩
      ·have n1:(xl==yl)=false:=by simpa using e1
       have m1:(xl != yl)=true:=by simpa using e1
       have HF:=zH (FIN.out (fun h=>e1 (HEQ.out.1 h).1.2.1));go_wp2_with fail
       go_ret;exact⟨aF HF.out.symm,B2.out⟩
     ·have n0:(xk==yk)=false:=by simpa using e0
      have m0:(xk != yk)=true:=by simpa using e0
      have HF:=zH (FIN.out (fun h=>e0 (HEQ.out.1 h).1.1));go_wp2_with fail
      go_ret;exact⟨aF HF.out.symm,B2.out⟩
    ·obtain rfl:j=a.length:=by omega
     have hlt':¬(a.length:Int)<(a.length:Int):=by omega
     have hs:a=b:=by
      have h:=HTk.out;rw[QT,HLen.out,QT]at h;exact h
     have HQ:=zH (nI hs);clear hs;go_wp2_with fail
     go_ret;exact⟨aF HQ.out.symm,BW.out⟩
  ·have hne:((a.length:Int) != (b.length:Int))=true:=by simp;omega
   have HQ:=zH (oM (show¬a=b from fun h=>hlen (by rw[h])));clear hlen;go_enter Tryz.func21,Tryz.ntmps21
   go_wp2_with fail
   go_ret;exact⟨aF HQ.out.symm,QA _ _⟩
end
section
attribute [local go_sem ↓ high] iV gZ
structure Nm where
 a:List UInt8
 b:List UInt8
 c:List UInt8
 d:List UInt8
def oN (m:Nm)(v:Value):List Value:=[.string ⟨m.a.toArray⟩,.string ⟨m.b.toArray⟩,.string ⟨m.c.toArray⟩,.string ⟨m.d.toArray⟩,v]
def qf (m:Nm)(v:Value):Value:= .agg (oN m v).toArray
theorem oW {e e':TypeId}(w:World)(L M:List Value):∀W,W=(w.alloc (.cells L.toArray e)).alloc (.cells M.toArray e')→zB w W∧Blk W w.heap.size e L∧Blk W (w.heap.size+1) e' M:=by
 rintro W rfl;refine⟨((QA _ w).alloc (Qv _) _).alloc (by simp) _,(Rf _ _ (by simp)).trans (QD w _),?_⟩;have:=QD (w.alloc (.cells L.toArray e)) (.cells M.toArray e');rw[QK]at this;exact this
theorem yX (S T:Nat→Prop)(m:Nm)(a b:List Nd)(v u:Value)(w:World)(hba:nlL a≤1000000000)(hbb:nlL b≤1000000000)(hv:NsS S w v a)(hu:NsS T w u b)(hS:∀x,S x→x<w.heap.size)(hT:∀x,T x→x<w.heap.size):
  Calls Tryz.prog 19 #[qf m v,qf m u] w fun e w'=>e=.returned (.bool (Cg a b))∧zB w w':=by
 obtain⟨k1,z1,rfl⟩:=hv.len;obtain⟨k2,z2,rfl⟩:=hu.len;obtain⟨w0,hw0⟩:∃w0,w0=(w.alloc (.cells (oN m (.slice k1 a.length z1)).toArray 38)).alloc (.cells (oN m (.slice k2 b.length z2)).toArray 38):=⟨_,rfl⟩;obtain⟨bl,hbA,hbB⟩:=oW w _ _ w0 hw0;have c0:w0.cell? ⟨w.heap.size,0,none⟩=some (.string ⟨m.a.toArray⟩):=hbA.cell 0;have c1:w0.cell? ⟨w.heap.size,1,none⟩=some (.string ⟨m.b.toArray⟩):=hbA.cell 1;have c2:w0.cell? ⟨w.heap.size,2,none⟩=some (.string ⟨m.c.toArray⟩):=hbA.cell 2;have c3:w0.cell? ⟨w.heap.size,3,none⟩=some (.string ⟨m.d.toArray⟩):=hbA.cell 3;have c4:w0.cell? ⟨w.heap.size,4,none⟩=some (.slice k1 a.length z1):=hbA.cell 4;have d0:w0.cell? ⟨w.heap.size+1,0,none⟩=some (.string ⟨m.a.toArray⟩):=hbB.cell 0;have d1:w0.cell? ⟨w.heap.size+1,1,none⟩=some (.string ⟨m.b.toArray⟩):=hbB.cell 1;have d2:w0.cell? ⟨w.heap.size+1,2,none⟩=some (.string ⟨m.c.toArray⟩):=hbB.cell 2;have d3:w0.cell? ⟨w.heap.size+1,3,none⟩=some (.string ⟨m.d.toArray⟩):=hbB.cell 3;have d4:w0.cell? ⟨w.heap.size+1,4,none⟩=some (.slice k2 b.length z2):=hbB.cell 4;have EQ:∀(s:List UInt8) W,(eqT (.string ⟨s.toArray⟩) (.string ⟨s.toArray⟩)).run Tryz.prog W=.ok (.bool true) W:=fun s W=>by
  have h:=FZ s s W;rw[Q6 rfl]at h;exact h
 have HR:=zH (xE S T _ a b rfl hba hbb _ _ w0 (hv.keep (Kp.below bl hS)) (hu.keep (Kp.below bl hT)) (fun x hx=>QB (hS x hx) bl.size) (fun x hx=>QB (hT x hx) bl.size));have BL:=zH bl;unfold qf;clear hv hu hS hT bl hbA hbB;unfold oN at hw0⊢;subst hw0;go_enter Tryz.func19,Tryz.ntmps19
 go_wp2_with fail
 refine HR.out.mono ?_;rintro e w1 ⟨rfl,b1⟩;have B1:=zH (BL.out.trans (b1.mono BL.out.size));clear b1 HR BL c0 c1 c2 c3 c4 d0 d1 d2 d3 d4;go_wp2_with fail
 go_ret;exact⟨rfl,B1.out⟩
end
def jn (a b:List Gly):List Gly:=if a=[] then b else if b=[] then a else a++ [(32,0)]++b
structure Bt where
 nm:Nm
 kids:List Nd
 opn:List Nd
 text:List Gly
 line:Int
 has:Bool
def lm (y x:Nd):Nd:= .mk y.hd (y.kids++ [x])
def kK (t:Bt)(x:Nd):Bt:=
 match t.opn.getLast? with
 | none=>{t with kids:=t.kids++ [x] }
 | some y=>{t with opn:=t.opn.dropLast++ [lm y x] }
def mo (t:Bt):Nd:= .mk ⟨3,t.line,0,t.text,[],bS⟩ []
def oh (t:Bt):Bt:={t with text:=[],line:=0,has:=false}
def bP (t:Bt):Bt:=oh (if ink t.text=[] then t else kK t (mo t))
def iJ (t:Bt)(l:List Gly)(line:Int):Bt:={t with text:=jn t.text l,line:=if t.has then t.line else line,has:=true}
def si (t:Bt)(x:Nd):Bt:=kK (bP t) x
def wy (t:Bt)(x:Nd):Bt:={bP t with opn:=(bP t).opn++ [x] }
def lQ (t:Bt):Bt:=
 match t.opn.getLast? with
 | none=>t
 | some x=>kK {t with opn:=t.opn.dropLast} x
def bIn (t:Bt)(k:Int):Bool:=t.opn.any fun y=>y.hd.kind==k
def xI (k:Int):Nat→Bt→Bt
 | 0,t=>t
 | n+1,t=>match t.opn.getLast? with
  | none=>t
  | some y=>if y.hd.kind=k then lQ t else xI k n (lQ t)
def dC (t:Bt)(k:Int):Bt×Bool:=if bIn (bP t) k then(xI k (bP t).opn.length (bP t),true) else(bP t,false)
def qI (K:List Int):Nat→Bt→Bt
 | 0,t=>t
 | n+1,t=>match t.opn.getLast? with
  | none=>t
  | some y=>if y.hd.kind∈K then qI K n (lQ t) else t
def aM (t:Bt)(K:List Int):Bt:=qI K (bP t).opn.length (bP t)
def nV:List Nd→List Nd
 | []=>[]
 | y::r=>[.mk y.hd (y.kids++nV r)]
def jv (t:Bt):List Nd:=t.kids++nV t.opn
def qy (t:Bt):List Nd:=tT (jv (bP t))
theorem OV (x:Nd):Nd.mk x.hd x.kids=x:=by cases x;rfl
theorem wX:∀(l:List Nd) (y x:Nd),nV (l++ [y,x])=nV (l++ [lm y x])
 | [],y,x=>by
  cases y;cases x
  simp[nV,lm,Nd.hd,Nd.kids]
 | z::l,y,x=>by
  have:=wX l y x;simp only[QY,nV,this]
theorem jf {t:Bt}(x:Nd)(h:t.opn=[]):kK t x={t with kids:=t.kids++ [x] }:=by unfold kK;rw[h];rfl
theorem je {t:Bt}(x:Nd){l:List Nd}{y:Nd}(h:t.opn=l++ [y]):kK t x={t with opn:=l++ [lm y x] }:=by unfold kK;rw[h];simp
theorem dF (l:List Nd):l=[]∨ ∃r y,l=r++ [y]:=by
 rcases SC l with h | ⟨r,y,h⟩
 ·exact .inl h
 ·exact .inr ⟨r,y,by simpa using h⟩
theorem pJ {t:Bt}(h:t.opn=[]):lQ t=t:=by unfold lQ;rw[h];rfl
theorem mh {t:Bt}{l:List Nd}{x:Nd}(h:t.opn=l++ [x]):lQ t=kK {t with opn:=l} x:=by unfold lQ;rw[h];simp
theorem MV (t:Bt):jv (lQ t)=jv t:=by
 rcases dF t.opn with h | ⟨l,x,h⟩
 ·rw[pJ h]
 ·rw[mh h]
  rcases dF l with h2 | ⟨r,y,h2⟩
  ·rw[jf x (by exact h2)]
   unfold jv;simp only;rw[h,h2];simp[nV,OV]
  ·rw[je x (show({t with opn:=l}:Bt).opn=r++ [y] from h2)]
   unfold jv;simp only;rw[h,h2,Rq];rw[show [y]++ [x]=[y,x] from rfl,wX]
theorem pK (t:Bt):(lQ t).opn.length=t.opn.length-1:=by
 rcases dF t.opn with h | ⟨l,x,h⟩
 ·rw[pJ h,h];rfl
 ·rw[mh h]
  rcases dF l with h2 | ⟨r,y,h2⟩
  ·rw[jf x (by exact h2),h];simp[h2]
  ·rw[je x (show({t with opn:=l}:Bt).opn=r++ [y] from h2),h,h2];simp
def rD (t u:Bt):Prop:=u.nm=t.nm∧u.text=t.text∧u.line=t.line∧u.has=t.has
theorem rD.trans {a b c:Bt}(h:rD a b)(k:rD b c):rD a c:=⟨k.1.trans h.1,k.2.1.trans h.2.1,k.2.2.1.trans h.2.2.1,k.2.2.2.trans h.2.2.2⟩
theorem qQ (t:Bt)(x:Nd):rD t (kK t x):=by
 unfold kK
 split<;>exact⟨rfl,rfl,rfl,rfl⟩
theorem GZ (t:Bt):rD t (lQ t):=by
 unfold lQ
 split
 ·exact⟨rfl,rfl,rfl,rfl⟩
 ·exact(show rD t {t with opn:=t.opn.dropLast} from⟨rfl,rfl,rfl,rfl⟩).trans (qQ _ _)
def Oo (t:Bt):Prop:=t.text=[]∧t.line=0∧t.has=false
theorem Pk {t:Bt}(h:Oo t):bP t=t:=by
 obtain⟨nm,kids,opn,text,line,has⟩:=t;obtain⟨h1,h2,h3⟩:=h;simp only at h1 h2 h3;subst h1 h2 h3;rfl
abbrev Txt:=List UInt8
def aZ (c:UInt8):Txt→List Txt
 | []=>[[]]
 | x::r=>if x=c then []::aZ c r else match aZ c r with
  | []=>[[x]]
  | h::t=>(x::h)::t
theorem zW (c:UInt8):∀s:Txt,aZ c s≠ []
 | []=>by simp[aZ]
 | x::r=>by
  unfold aZ
  split
  ·simp
  ·split<;>simp
theorem qi (c:UInt8):∀s:Txt,(aZ c s).length=1+s.count c
 | []=>by simp[aZ]
 | x::r=>by
  have ih:=qi c r;unfold aZ
  by_cases h:x=c
  ·rw[QP h,QC,ih,h,Ta];omega
  ·rw[QG h,Tz h]
   cases e:aZ c r with
   | nil=>exact absurd e (zW c r)
   | cons a b=>
    rw[e]at ih
    simpa using ih
theorem Lr (c:UInt8):∀s:Txt,c∉s→aZ c s=[s]
 | [],_=>rfl
 | x::r,h=>by
  have h1:x≠c:=fun e=>h (by rw[e];exact RO)
  unfold aZ;rw[QG h1,Lr c r (fun q=>h (RJ _ q))]
theorem Gb (c:UInt8):∀(a b:Txt),c∉a→aZ c (a++c::b)=a::aZ c b
 | [],b,_=>by
  show aZ c (c::b)=_
  conv=>lhs;unfold aZ
  rw[QP rfl]
 | x::a,b,h=>by
  have h1:x≠c:=fun e=>h (by rw[e];exact RO)
  have ih:=Gb c a b (fun q=>h (RJ _ q));show aZ c (x::(a++c::b))=_
  conv=>lhs;unfold aZ
  rw[QG h1,ih]
theorem Ci (c:UInt8):∀(s:Txt) (x:UInt8),aZ c (s++ [x])=if x=c then aZ c s++ [[]] else(aZ c s).dropLast++ [((aZ c s).getLast?.getD [])++ [x]]
 | [],x=>by
  show aZ c [x]=_
  by_cases h:x=c<;>simp[aZ,h]
 | y::s,x=>by
  have ih:=Ci c s x;have hne:=zW c s;show aZ c (y::(s++ [x]))=_;unfold aZ;rw[ih]
  by_cases hy:y=c
  ·rw[QP hy,QP hy]
   by_cases h:x=c
   ·rw[QP h,QP h];rfl
   ·rw[QG h,QG h]
    cases e:aZ c s with
    | nil=>exact absurd e hne
    | cons a b=>simp
  ·rw[QG hy,QG hy]
   cases e:aZ c s with
   | nil=>exact absurd e hne
   | cons a b=>
    by_cases h:x=c
    ·rw[QP h,QP h];rfl
    ·rw[QG h,QG h]
     cases b with
     | nil=>simp
     | cons b1 b2=>simp
def rX (x:UInt8):Bool:=x==32 || x==44
def fK:Txt→Txt→List Txt
 | w,[]=>if w=[] then [] else [w]
 | w,x::r=>if rX x then(if w=[] then fK [] r else w::fK [] r) else fK (w++ [x]) r
def dm (s:Txt):List Txt:=fK [] s
theorem mW:∀(s w:Txt),∀a∈fK w s,a≠ []
 | [],w,a,ha=>by
  unfold fK at ha
  split at ha
  ·simp at ha
  ·simp at ha;rw[ha];assumption
 | x::s,w,a,ha=>by
  unfold fK at ha
  split at ha
  ·split at ha
   ·exact mW s _ a ha
   ·rcases Q8.1 ha with e | e
    ·rw[e];assumption
    ·exact mW s _ a e
  ·exact mW s _ a ha
theorem Jq (s:Txt):∀a∈dm s,a≠ []:=mW s []
def dV (s:Txt)(c:UInt8):Bool:=s.getLast? ==some c
def mU:Txt:=[98,111,120]
def lS:Txt:=[97,108,108,98,111,120]
def lookW:List Txt→Option (Bool×Bool)
 | []=>some (false,false)
 | w::l=>if w=mU∨w=lS then(lookW l).map (fun q=>(true,q.2 || w==lS)) else none
def gT (s:Txt):Bool×Bool×Bool:=
 if dV s 59 then match lookW (dm s.dropLast)with
  | some (b,a)=>(b,a,true)
  | none=>(false,false,false)
 else(false,false,false)
def Cs (w:Txt):UInt8×Bool:=match w.head? with
 | some x=>if x=108∨x=76 then(108,true) else if x=99∨x=67 then(99,true) else if x=114∨x=82 then(114,true) else(108,false)
 | none=>(108,false)
def aU (s:Txt):Txt×Bool:=
 let l:=dm (if dV s 46 then s.dropLast else s)
 (l.map (fun w=>(Cs w).1),l.all (fun w=>(Cs w).2))
abbrev Dgn:=Int×Int×Int
abbrev Lgf:=Txt→List Gly×List (Int×Int)
def bJ (ln:Int)(l:List (Int×Int)):List Dgn:=l.map (fun q=>(q.1,ln,q.2))
def N7 (s:Txt):Bool:=s.take 2== [84,125]
def tbW:Txt:=[84,123]
def di (lg:Lgf):List Txt→Int→List Gly→List Dgn→List Gly×List Dgn×Int×List Txt
 | [],ln,acc,d=>(acc,d,ln,[])
 | s::r,ln,acc,d=>if N7 s then(acc,d,ln,s::r) else di lg r (ln+1) (jn acc (lg s).1) (d++bJ ln (lg s).2)
theorem xw (lg:Lgf):∀(l:List Txt) (ln:Int) (acc:List Gly) (d:List Dgn),(di lg l ln acc d).2.2.2.length≤l.length
 | [],_,_,_=>by simp[di]
 | s::r,ln,acc,d=>by
  unfold di
  split
  ·simp
  ·have:=xw lg r (ln+1) (jn acc (lg s).1) (d++bJ ln (lg s).2)
   simp only[QC];omega
abbrev sw:=List (List Gly)×List Dgn×Int×List Txt
def dL (lg:Lgf)(K:List Txt→List Txt→Int→List (List Gly)→List Dgn→sw):List Txt→List Txt→Int→List (List Gly)→List Dgn→sw
 | [],rest,ln,cs,d=>(cs,d,ln,rest)
 | p::ps,rest,ln,cs,d=>if p=tbW then
   match di lg rest (ln+1) [] d with
   | (g,d2,ln2,[])=>(cs++ [g],d2++ [(7,ln,0)],ln2,[])
   | (g,d2,ln2,s::r)=>K (aZ 9 s).tail r ln2 (cs++ [g]) d2
  else dL lg K ps rest ln (cs++ [(lg p).1]) (d++bJ ln (lg p).2)
def dh (lg:Lgf):Nat→List Txt→List Txt→Int→List (List Gly)→List Dgn→sw
 | 0=>dL lg (fun _ rest ln cs d=>(cs,d,ln,rest))
 | n+1=>dL lg (dh lg n)
def rowP (lg:Lgf)(nc:Nat)(s:Txt)(rest:List Txt)(ln:Int):bV×List Dgn×Int×List Txt:=
 if s=[95]∨s=[61] then((true,[]),[],ln,rest) else
  let q:=dh lg (rest.length+1) (aZ 9 s) rest ln [] []
  ((false,q.1),q.2.1++(if nc<q.1.length then [(11,ln,0)] else []),q.2.2.1,q.2.2.2)
def fP (lg:Lgf)(nc:Nat):Nat→List Txt→Int→List bV→List Dgn→List bV×List Dgn
 | 0,_,_,rs,d=>(rs,d)
 | _,[],_,rs,d=>(rs,d)
 | n+1,s::r,ln,rs,d=>let q:=rowP lg nc s r ln
  fP lg nc n q.2.2.2 (q.2.2.1+1) (rs++ [q.1]) (d++q.2.1)
def eH:List Txt→Int→Txt→List Dgn→Txt×Bool×List Dgn×List Txt×Int
 | [],ln,cols,d=>(cols,false,d,[],ln)
 | s::r,ln,cols,d=>
  let c:=aU s
  let d':=d++(if c.2 then [] else [(10,ln,0)])++(if 20<c.1.length then [(11,ln,0)] else [])
  let cols':=if c.1=[] then cols else c.1.take 20
  if dV s 46 then(cols',true,d',r,ln+1) else eH r (ln+1) cols' d'
def dz (line:Int)(l:List Txt):Bool×Bool×List Dgn×List Txt×Int:=match l with
 | []=>(false,false,[],[],line)
 | s::r=>if dV s 59 then((gT s).1,(gT s).2.1,(if(gT s).2.2 then [] else [(10,line,0)]),r,line+1) else(false,false,[],s::r,line)
def iF (lg:Lgf)(line:Int)(l:List Txt):Tab×List Dgn:=
 let a:=dz line l
 let b:=eH a.2.2.2.1 a.2.2.2.2 [] a.2.2.1
 let cols:=if b.1=[] then [108] else b.1
 let d:=b.2.2.1++(if b.2.1 then [] else [(7,line,0)])
 let q:=fP lg cols.length b.2.2.2.1.length b.2.2.2.1 b.2.2.2.2 [] d
 (mend ⟨cols,q.1,a.1,a.2.1⟩,q.2)
section
variable {lg:Lgf}(hg:∀s,∀q∈(lg s).2,0≤q.2)
include hg
omit hg in
end
structure aR where
 line:Int
 mac:Txt
 args:List Txt
 text:Txt
structure qA where
 inl:aR→Option (List Gly×List (Int×Int))
 wds:List Txt→List Gly×List (Int×Int)
 tab:Int→List Txt→Tab×List Dgn
structure MWt where
 kind:Int
 line:Int
 n:Int
structure Md where
 b:Bt
 d:List Dgn
 th:Bool
 w:Option MWt
 v:Option (Int×List (List Gly))
 g:Option (Int×List Txt)
def mdg (c:UInt8):Bool:=decide (48≤c.toNat)&&decide (c.toNat≤57)
def Qk (s:Txt):Int:=s.foldl (fun a c=>10*a+((c.toNat:Int)-48)) 0
def nT (s:Txt)(or:Int):Int×Bool:=
 let t:=if s.getLast?=some 110 then s.dropLast else s
 if t≠ []∧t.all mdg=true∧t.length≤6 then(min (Qk t) 200,true) else(or,false)
def aD (s:Md)(k ln:Int):Md:={s with d:=s.d++ [(k,ln,0)] }
def cO (kind line n:Int)(t:List Gly):Hd:=⟨kind,line,n,t,[],bS⟩
def dw (s:Md)(h:Hd):Md:=if 20≤s.b.opn.length then aD s 8 h.line else {s with b:=wy s.b (.mk h []) }
def iN (r:aR)(k:Nat):Txt:=(r.args[k]?).getD []
def aN (s:Md)(r:aR)(k:Nat):Md×Int:=match r.args[k]? with
 | none=>(s,7)
 | some a=>if(nT a 7).2 then(s,(nT a 7).1) else(aD s 5 r.line,7)
def CK (I:qA)(s:Md)(r:aR)(l:List Txt):Md×List Gly:=({s with d:=s.d++bJ r.line (I.wds l).2},(I.wds l).1)
def BS (I:qA)(s:Md)(r:aR)(k:Int)(K:List Int):Md:=
 let s1:={s with b:=aM s.b K}
 if r.args=[] then {s1 with w:=some ⟨k,r.line,0⟩ } else
  let q:=CK I s1 r r.args
  dw q.1 (cO k r.line 0 q.2)
def MN (I:qA)(s:Md)(r:aR)(tp:Bool):Md:=
 let s1:={s with b:=aM s.b [4] }
 if tp then
  let q:=aN s1 r 0
  {q.1 with w:=some ⟨4,r.line,q.2⟩ }
 else
  let q:=CK I s1 r (r.args.take 1)
  let p:=aN q.1 r 1
  dw p.1 (cO 4 r.line p.2 q.2)
def mTH:Txt:=[84,72]
def mSH:Txt:=[83,72]
def mSS:Txt:=[83,83]
def Il (I:qA)(s:Md)(r:aR):Md:=
 if r.mac=mTH then(if s.th then aD s 13 r.line else {s with th:=true,b:={s.b with nm:=⟨iN r 0,iN r 1,iN r 2,iN r 3⟩ } })
 else if r.mac=mSH then BS I s r 1 [1,2,4,5]
 else if r.mac=mSS then BS I s r 2 [2,4,5]
 else if r.mac=[80,80]∨r.mac=[80]∨r.mac=[76,80] then {s with b:=aM s.b [4] }
 else if r.mac=[84,80] then MN I s r true
 else if r.mac=[73,80] then MN I s r false
 else if r.mac=[82,83] then(let q:=aN s r 0;dw q.1 (cO 5 r.line q.2 []))
 else if r.mac=[82,69] then(let q:=dC s.b 5;if q.2 then {s with b:=q.1} else aD {s with b:=q.1} 6 r.line)
 else if r.mac=[69,88]∨r.mac=[110,102] then {s with b:=bP s.b,v:=some (r.line,[]) }
 else if r.mac=[84,83] then {s with b:=bP s.b,g:=some (r.line,[]) }
 else if r.mac=[69,69]∨r.mac=[102,105]∨r.mac=[84,69] then aD s 6 r.line
 else aD s 4 r.line
def qd (s:Md)(v:Int×List (List Gly)):Md:={s with b:=si s.b (.mk ⟨6,v.1,0,[],v.2,bS⟩ []),v:=none}
def endG (I:qA)(s:Md)(g:Int×List Txt):Md:={s with b:=si s.b (.mk ⟨7,g.1,0,[],[],(I.tab g.1 g.2).1⟩ []),d:=s.d++(I.tab g.1 g.2).2,g:=none}
def FV (s:Md)(r:aR)(l:List Gly):Md:=match s.v with
 | some v=>{s with v:=some (v.1,v.2++ [l]) }
 | none=>match s.w with
  | some w=>dw {s with w:=none} (cO w.kind w.line w.n l)
  | none=>if r.mac=[]∧ink l=[] then {s with b:=bP s.b} else {s with b:=iJ s.b l r.line}
def upM (s:Md):Md:=match s.w with
 | some w=>{aD s 5 w.line with w:=none}
 | none=>s
def kZ (I:qA)(s:Md)(r:aR):Md:=match s.g with
 | some g=>if r.mac=[] then {s with g:=some (g.1,g.2++ [r.text]) } else if r.mac=[84,69] then endG I s g else aD s 13 r.line
 | none=>match I.inl r with
  | some q=>if r.mac≠ []∧r.args=[] then aD s 5 r.line else FV {s with d:=s.d++bJ r.line q.2} r q.1
  | none=>match s.v with
   | some v=>if r.mac=[69,69]∨r.mac=[102,105] then qd s v else aD s 13 r.line
   | none=>Il I (upM s) r
def r9 (I:qA)(s:Md):Md:=match s.g with
 | some g=>endG I (aD s 7 g.1) g
 | none=>s
def Ca (s:Md):Md:=match s.v with
 | some v=>qd (aD s 7 v.1) v
 | none=>s
def vK (s:Md):Md:=if s.th then s else aD s 12 0
def Ev (I:qA)(s:Md):Md:=vK (Ca (r9 I (upM s)))
def md0:Md:=⟨⟨⟨[],[],[],[]⟩,[],[],[],0,false⟩,[],false,none,none,none⟩
def gF (I:qA)(l:List aR):Md:=l.foldl (kZ I) md0
def dE (I:qA)(l:List aR):Md:=Ev I (gF I l)
section
variable {m:Nm}{s:Md}{I:qA}
end
section
open Go.RowKit
structure NC (w:World)(g o:Nat)(x:NV):Prop where
 c0:w.cell? ⟨g,o,none⟩=some (.int .i64 x.kind)
 c1:w.cell? ⟨g,o+1,none⟩=some (.int .i64 x.line)
 c2:w.cell? ⟨g,o+2,none⟩=some (.int .i64 x.n)
 c3:w.cell? ⟨g,o+3,none⟩=some (.slice x.text.1 x.text.2.1 x.text.2.2)
 c4:w.cell? ⟨g,o+4,none⟩=some (.slice x.kids.1 x.kids.2.1 x.kids.2.2)
 c5:w.cell? ⟨g,o+5,none⟩=some (.slice x.rows.1 x.rows.2.1 x.rows.2.2)
 c6:w.cell? ⟨g,o+6,none⟩=some (.string ⟨x.cols.toArray⟩)
 c7:w.cell? ⟨g,o+7,none⟩=some (.slice x.trows.1 x.trows.2.1 x.trows.2.2)
 c8:w.cell? ⟨g,o+8,none⟩=some (.bool x.box)
 c9:w.cell? ⟨g,o+9,none⟩=some (.bool x.all)
attribute [local go_sem ↓ high] iC
end
section
structure Exc (X:Nat→Prop)(w w':World):Prop where
 os:w'.os=w.os
 tape:w'.tape=w.tape
 output:w'.output=w.output
 size:w.heap.size≤w'.heap.size
 block:∀k,k<w.heap.size→ ¬X k→w'.heap[k]? =w.heap[k]?
theorem Exc.refl (X:Nat→Prop)(w:World):Exc X w w:=⟨rfl,rfl,rfl,Qv _,fun _ _ _=>rfl⟩
theorem Exc.trans {X Y:Nat→Prop}{a b c:World}(h:Exc X a b)(k:Exc Y b c)(hXY:∀i,i<a.heap.size→Y i→X i):Exc X a c:=
 ⟨k.os.trans h.os,k.tape.trans h.tape,k.output.trans h.output,QO h.size k.size,fun i hi hx=>(k.block i (QB hi h.size) (fun q=>hx (hXY i hi q))).trans (h.block i hi hx)⟩
theorem Exc.then {X:Nat→Prop}{a b c:World}(h:Exc X a b)(k:Exc X b c):Exc X a c:=h.trans k (fun _ _ q=>q)
theorem Exc.of {X:Nat→Prop}{w w':World}(h:zB w w'):Exc X w w':=⟨h.os,h.tape,h.output,h.size,fun k hk _=>h.block k hk⟩
theorem Exc.below {X:Nat→Prop}{w w':World}{D:Nat}(h:Exc X w w')(hD:D≤w.heap.size)(hX:∀b,b<D→ ¬X b):Below D w w':=
 ⟨h.os,h.tape,h.output,h.size,fun k hk=>h.block k (QB hk hD) (hX k hk)⟩
theorem Exc.mono {X Y:Nat→Prop}{w w':World}(h:Exc X w w')(hXY:∀i,i<w.heap.size→X i→Y i):Exc Y w w':=
 ⟨h.os,h.tape,h.output,h.size,fun k hk hy=>h.block k hk (fun q=>hy (hXY k hk q))⟩
theorem Exc.set {X:Nat→Prop}{a w:World}(h:Exc X a w){g:Nat}(j:Nat)(v:Value)(hg:g<a.heap.size→X g):Exc X a (w.setCell ⟨g,j,none⟩ v):=
 ⟨h.os,h.tape,h.output,by simpa[World.setCell] using h.size,fun k hk hx=>(QF w ⟨g,j,none⟩ v k (fun e=>hx (by subst e;exact hg hk))).trans (h.block k hk hx)⟩
theorem Exc.blk {X:Nat→Prop}{w w':World}(h:Exc X w w'){g:Nat}{e:TypeId}{L:List Value}(hb:Blk w g e L)(hX:¬X g):Blk w' g e L:=(h.block g (Qx.1 hb).1 hX).trans hb
theorem Pp (w:World)(a b:Obj):zB w ((w.alloc a).alloc b):=((QA _ w).alloc (Qv _) _).alloc (by simp) _
theorem Blk.lt {W:World}{g:Nat}{e:TypeId}{L:List Value}(h:Blk W g e L):g<W.heap.size:=(Qx.1 h).1
end
def t0:Bt:=⟨⟨[],[],[],[]⟩,[],[],[],0,false⟩
end Go.Proofs.YtebabjnngdjceaaGreatDoor
