/- Rows that the call owns: -/
import Derived.Test.YtebabjnngdjceaaGreatDoorW5
import Derived.Test.YtebabjnngdjceaaGreatDoorGx
import Derived.Shelf.Unicode.DecodeAny
set_option linter.unusedVariables false
set_option linter.unusedSimpArgs false
set_option maxRecDepth 100000
set_option maxHeartbeats 8000000
namespace Go.Proofs.YtebabjnngdjceaaGreatDoor
open Go.RowKit
section
open Go.RowKit
end
section
theorem ae (w:World)(o:Obj):Below w.heap.size w (w.alloc o):=(PG _ w).alloc (Px _) _
end
section
open Go.RowKit
abbrev Gly:=Int×Int
def aR (g:Gly):List Value:=[.int .i32 g.1,.int .u8 g.2]
theorem ah (g:Gly):(aR g).length=2:=rfl
theorem qB (g:Gly):∀u∈aR g,u.oneCell'=true:=by
 intro u hu;simp only[aR,Qn,Qs,Ri]at hu;rcases hu with rfl | rfl<;>rfl
abbrev Gs (w:World)(v:Value)(l:List Gly):Prop:=Fs 2 aR w v l
abbrev aW (base:Nat)(W:World)(x:Value)(l:List Gly):Prop:=ag 35 2 aR base W x l
theorem Gs.at {w:World}{a:Option Addr}{k cap:Nat}{l:List Gly}(h:Gs w (.slice a k cap) l){j:Nat}{g:Gly}(hj:l[j]? =some g):
  ∃b off,a=some ⟨b,off,none⟩∧w.cell? ⟨b,off+j*2,none⟩=some (.int .i32 g.1)∧w.cell? ⟨b,off+j*2+1,none⟩=some (.int .u8 g.2)∧b<w.heap.size:=by
 obtain⟨a',cap',hv,_,hr⟩:=h;injection hv with h1 h2 h3
 subst h1;obtain⟨b,off,rfl,h0⟩:=hr j g hj;have c0:=h0 0 _ rfl;have c1:=h0 1 _ rfl;exact⟨b,off,rfl,c0,c1,PX w _ c0⟩
theorem uR:(Tryz.prog.info? 35).map (fun i=>(i.zero,i.size,i.bytes))=some (some (.agg #[.int .i32 0,.int .u8 0]),2,8):=by kernel_rfl
theorem eqG (k l k' l':Int)(w:World):(Op.equalIn 10000 35 (.agg #[.int .i32 k,.int .u8 l]) (.agg #[.int .i32 k',.int .u8 l'])).run Tryz.prog w=.ok (k==k'&&l==l') w:=by
 rw[run_equalIn_agg w 9999 35 _ _ (by kernel_rfl) (by kernel_rfl)];have h3:((Tryz.prog.fieldsOf 35).toList.map fun f=>(f.name != "_",f.type,f.offset))=[(true,21,0),(true,5,1)]:=by kernel_rfl
 generalize (Tryz.prog.fieldsOf 35).toList=fs at*;rcases fs with _ | ⟨f0,_ | ⟨f1,_ | ⟨f2,fs⟩⟩⟩
 ·simp at h3
 ·simp at h3
 ·simp only[Qo,QH,R7,Q9,and_true,bne_iff_ne,ne_eq]at h3
  obtain⟨⟨n0,t0,o0⟩,⟨n1,t1,o1⟩⟩:=h3;have e0:∀(a b:Int) (w:World),(Op.equalIn 9999 21 (.int .i32 a) (.int .i32 b)).run Tryz.prog w=.ok (a==b) w:=fun a b w=>run_equalIn_int w 9998 21 .i32 .i32 a b Tryz.underlying21
  have e1:∀(a b:Int) (w:World),(Op.equalIn 9999 5 (.int .u8 a) (.int .u8 b)).run Tryz.prog w=.ok (a==b) w:=fun a b w=>run_equalIn_int w 9998 5 .u8 .u8 a b Tryz.underlying5
  simp[go_sem,Op.eqFields,n0,n1,t0,t1,o0,o1,e0,e1]
  by_cases a1:k=k'<;>by_cases a2:l=l'<;>simp[a1,a2]
 ·simp at h3
theorem AQ (k l k' l':Int)(w:World):(binOp .neq 35 (.agg #[.int .i32 k,.int .u8 l]) (.agg #[.int .i32 k',.int .u8 l'])).run Tryz.prog w=.ok (.bool (!(k==k'&&l==l'))) w:=by
 rw[run_neq_struct,eqG];rfl
theorem Gq (k l:Int)(w:World):(binOp .neq 35 (.agg #[.int .i32 k,.int .u8 l]) (.agg #[.int .i32 k,.int .u8 l])).run Tryz.prog w=.ok (.bool false) w:=by
 rw[AQ];simp
theorem C8 {x y:Gly}(h:x≠y)(w:World):(binOp .neq 35 (.agg #[.int .i32 x.1,.int .u8 x.2]) (.agg #[.int .i32 y.1,.int .u8 y.2])).run Tryz.prog w=.ok (.bool true) w:=by
 rw[AQ];have:(x.1==y.1&&x.2==y.2)=false:=by
  rw[Bool.eq_false_iff];intro e;simp only[Q7,RA]at e;exact h (Prod.ext e.1 e.2)
 rw[this];rfl
end
section
noncomputable def appG (args:Array Value):Sem Next:=do pure (.value (←Builtin.append_ #[26,26] 26 args))
theorem fB (cs:Array Bool)(args:Array Value):builtin .append #[26,26] 26 cs args=appG args:=rfl
theorem eX {base:Nat}{W:World}{x u:Value}{l m:List Gly}(h:aW base W x l)(hu:Gs W u m)(hb:base≤W.heap.size)(hd:l.length+m.length≤1000000):
  ∃x' w',(appG #[x,u]).run Tryz.prog W=.ok (.value x') w'∧aW base w' x' (l++m)∧W.grownBy w' x.ownBlock∧(x'.ownBlock=x.ownBlock∨x'.ownBlock=some W.heap.size):=by
 obtain⟨i0,hi,hz0,hz1,hz2⟩:=Ql uR;obtain⟨x',w',hr,r⟩:=lM ah qB (by decide) Tryz.underlying26 hi hz0 hz1 hz2 rfl (by decide) h hu hb hd;refine⟨x',w',?_,r⟩;unfold appG;simp only[QD,QG,Qm,hr]
noncomputable def qC (x hi:Value):Sem Value:=Instr.slice 26 x none (some hi) none
theorem gI (x hi:Value):Instr.slice 26 x none (some hi) none=qC x hi:=rfl
noncomputable def Np (x lo:Value):Sem Value:=Instr.slice 26 x (some lo) none none
theorem lU (x lo:Value):Instr.slice 26 x (some lo) none none=Np x lo:=rfl
theorem kZ {w:World}{v:Value}{l:List Gly}(h:Gs w v l)(k:Nat)(hk:k≤l.length):
  ∃u,(∀W:World,(qC v (.int .i64 (k:Int))).run Tryz.prog W=.ok u W)∧Gs w u (l.take k)∧(∀a m cap,v=.slice a m cap→u=.slice a k cap):=by
 obtain⟨i0,hi,hz0,hz1,hz2⟩:=Ql uR;exact Fs.front Tryz.underlying26 hi h k hk
theorem xM {w:World}{v:Value}{l:List Gly}(h:Gs w v l)(k:Nat)(hk:k≤l.length):
  ∃u,(∀W:World,(Np v (.int .i64 (k:Int))).run Tryz.prog W=.ok u W)∧Gs w u (l.drop k):=by
 obtain⟨i0,hi,hz0,hz1,hz2⟩:=Ql uR;exact Fs.back Tryz.underlying26 hi hz1 h k hk
attribute [local go_sem ↓ high] fB
theorem fU (l:List Gly)(v:Value)(w:World)(hv:Gs w v l)(hl:l.length≤200000):
  Calls Tryz.prog 126 #[v] w fun e w'=> ∃u,e=.returned u∧aW w.heap.size w' u l∧Below w.heap.size w w':=by
 have HV:=zH hv;obtain⟨a,cap,rfl,-,hr⟩:=hv
 cases a with
 | none=>
  obtain rfl:l=[]:=by
   cases l with
   | nil=>rfl
   | cons x l=>obtain⟨g,off,h0,_⟩:=hr 0 x rfl;cases h0
  clear hr;have hnil:(binOp .eql 26 (.slice none 0 cap) (.slice none 0 0)).run Tryz.prog w=.ok (.bool true) w:=QZ w 26 35 none 0 cap 0 0 Tryz.underlying26;simp only[PQ];go_enter Tryz.func126,Tryz.ntmps126
  go_wp2_with fail
  go_ret;exact⟨_,rfl,ag.nil _ _,PG _ _⟩
 | some a=>
  clear hr;have b1:=ae w (.cells #[] 35);have o1:aW w.heap.size (w.alloc (.cells #[] 35)) (.slice (some ⟨w.heap.size,0,none⟩) 0 0) []:=mq ah w (Px _) [] (by simp);obtain⟨x',w',k1,o2,g2,-⟩:=eX o1 (Fs.below HV.out b1) (by simp) (by simp;omega);have b2:=zH (o1.below b1 (by simp) g2);have O2:=zH o2;have hnil:(binOp .eql 26 (.slice (some a) l.length cap) (.slice none 0 0)).run Tryz.prog w=.ok (.bool false) w:=QZ w 26 35 (some a) l.length cap 0 0 Tryz.underlying26;clear o1 o2 g2 b1;go_enter Tryz.func126,Tryz.ntmps126
  go_wp2_with fail
  go_ret;exact⟨_,rfl,O2.out,b2.out⟩
end
section
open Go.RowKit
abbrev bT:=Bool×List (List Gly)
structure Tab where
 cols:List UInt8
 rows:List bT
 box:Bool
 all:Bool
deriving DecidableEq
structure Hd where
 kind:Int
 line:Int
 n:Int
 text:List Gly
 rows:List (List Gly)
 grid:Tab
deriving DecidableEq
inductive Nd where
 | mk (h:Hd) (kids:List Nd)
def Nd.hd:Nd→Hd
 | .mk h _=>h
def Nd.kids:Nd→List Nd
 | .mk _ k=>k
def lens {α:Type}(l:List (List α)):Nat:=(l.map List.length).sum
def trl (t:bT):Nat:=1+t.2.length+lens t.2
def cZ (l:List bT):Nat:=(l.map trl).sum
def hdl (h:Hd):Nat:=3+h.text.length+h.grid.cols.length+(h.rows.length+lens h.rows)+cZ h.grid.rows
mutual
def lu:Nd→Nat
 | .mk _ ks=>1+aP ks
def aP:List Nd→Nat
 | []=>0
 | x::l=>lu x+aP l
end
mutual
def dpN:Nd→Nat
 | .mk _ ks=>1+dpL ks
def dpL:List Nd→Nat
 | []=>0
 | x::l=>max (dpN x) (dpL l)
end
mutual
def nlN:Nd→Nat
 | .mk h ks=>hdl h+nlL ks
def nlL:List Nd→Nat
 | []=>0
 | x::l=>nlN x+nlL l
end
theorem nD (y:Nd):lu y=1+aP y.kids:=by cases y;simp[lu,Nd.kids]
theorem CZ (y:Nd):nlN y=hdl y.hd+nlL y.kids:=by cases y;simp[nlN,Nd.kids,Nd.hd]
theorem vE:∀(a b:List Nd),aP (a++b)=aP a+aP b
 | [],b=>by simp[aP]
 | x::a,b=>by simp only[Qe,aP,vE a b];omega
theorem gJ:∀(a b:List Nd),nlL (a++b)=nlL a+nlL b
 | [],b=>by simp[nlL]
 | x::a,b=>by simp only[Qe,nlL,gJ a b];omega
theorem vD {l:List Nd}{p:Nat}{y:Nd}(hy:l[p]? =some y):aP (l.take (p+1))=aP (l.take p)+(1+aP y.kids):=by
 rw[Qw,hy,vE];simp only[Option.toList_some,aP,nD];omega
theorem Ma {l:List Nd}{p:Nat}{y:Nd}(hy:l[p]? =some y):nlL (l.take (p+1))=nlL (l.take p)+(hdl y.hd+nlL y.kids):=by
 rw[Qw,hy,gJ];simp only[Option.toList_some,nlL,CZ];omega
theorem Kq (l:List Nd)(p:Nat):aP (l.take p)≤aP l:=by
 have h:=vE (l.take p) (l.drop p);rw[QK]at h;omega
theorem L8 (l:List Nd)(p:Nat):nlL (l.take p)≤nlL l:=by
 have h:=gJ (l.take p) (l.drop p);rw[QK]at h;omega
theorem zo {l:List Nd}{p:Nat}{y:Nd}(hy:l[p]? =some y):1+aP y.kids+aP (l.take p)≤aP l:=by
 have h1:=vD hy;have h2:=Kq l (p+1);omega
theorem AO {l:List Nd}{p:Nat}{y:Nd}(hy:l[p]? =some y):hdl y.hd+nlL y.kids+nlL (l.take p)≤nlL l:=by
 have h1:=Ma hy;have h2:=L8 l (p+1);omega
theorem pU:∀l:List Nd,l.length≤aP l
 | []=>by simp[aP]
 | x::l=>by
  have:=pU l;have:=nD x;simp only[aP,PI];omega
mutual
theorem MN:∀x:Nd,dpN x≤lu x
 | .mk _ ks=>by
  have:=Fu ks;simp only[dpN,lu];omega
theorem Fu:∀l:List Nd,dpL l≤aP l
 | []=>by simp[dpL,aP]
 | x::l=>by
  have:=MN x;have:=Fu l;simp only[dpL,aP];omega
end
mutual
theorem MP:∀x:Nd,3*lu x≤nlN x
 | .mk h ks=>by
  have:=pR ks;simp only[nlN,lu];unfold hdl;omega
theorem pR:∀l:List Nd,3*aP l≤nlL l
 | []=>by simp[nlL,aP]
 | x::l=>by
  have:=MP x;have:=pR l;simp only[nlL,aP];omega
end
theorem GZ {α:Type}{l:List (List α)}{p:Nat}{x:List α}(hx:l[p]? =some x):lens (l.take (p+1))=lens (l.take p)+x.length:=by
 rw[Qw,hx];simp[lens]
theorem GY {α:Type}(l:List (List α))(p:Nat):lens (l.take p)≤lens l:=by
 have h:lens (l.take p++l.drop p)=lens (l.take p)+lens (l.drop p):=by unfold lens;rw[Rn,List.sum_append]
 rw[QK]at h;omega
theorem pE {α:Type}{l:List (List α)}{p:Nat}{x:List α}(hx:l[p]? =some x):x.length+lens (l.take p)≤lens l:=by
 have h1:=GZ hx;have h2:=GY l (p+1);omega
theorem FN {l:List bT}{p:Nat}{x:bT}(hx:l[p]? =some x):cZ (l.take (p+1))=cZ (l.take p)+trl x:=by
 rw[Qw,hx];simp[cZ]
theorem FM (l:List bT)(p:Nat):cZ (l.take p)≤cZ l:=by
 have h:cZ (l.take p++l.drop p)=cZ (l.take p)+cZ (l.drop p):=by unfold cZ;rw[Rn,List.sum_append]
 rw[QK]at h;omega
theorem rT {l:List bT}{p:Nat}{x:bT}(hx:l[p]? =some x):trl x+cZ (l.take p)≤cZ l:=by
 have h1:=FN hx;have h2:=FM l (p+1);omega
theorem oL:∀l:List bT,l.length≤cZ l
 | []=>by simp[cZ]
 | x::l=>by
  have:=oL l;simp only[cZ,Qo,Rz,PI]at this⊢;unfold trl at this⊢;omega
def Kp (S:Nat→Prop)(w w':World):Prop:= ∀b,S b→w'.heap[b]? =w.heap[b]?
theorem Kp.below {S:Nat→Prop}{D:Nat}{w w':World}(h:Below D w w')(hS:∀b,S b→b<D):Kp S w w':=fun b hb=>h.block b (hS b hb)
theorem Kp.grown {S:Nat→Prop}{w w':World}{row:Option Nat}(h:w.grownBy w' row)(hS:∀b,S b→b<w.heap.size∧some b≠row):Kp S w w':=fun b hb=>h.block b (hS b hb).1 (hS b hb).2
def foot (S:Nat→Prop)(w:World)(n:Nat)(v:Value):Prop:= ∀a k c,v=.slice (some a) k c→0<k→S a.block∧(¬S 0→ ∀i,i<k*n→w.frozen? ⟨a.block,a.off+i,none⟩=false)
def FsS {α:Type}(S:Nat→Prop)(n:Nat)(f:α→List Value)(w:World)(v:Value)(l:List α):Prop:=Fs n f w v l∧foot S w n v
theorem FsS.keep {α:Type}{S:Nat→Prop}{n:Nat}{f:α→List Value}{w w':World}{v:Value}{l:List α}(h:FsS S n f w v l)(hk:Kp S w w'):FsS S n f w' v l:=by
 obtain⟨⟨a,cap,rfl,hc,hr⟩,hf⟩:=h;refine⟨⟨a,cap,rfl,hc,fun j x hj=>?_⟩,fun a' k c e hpos=>⟨(hf a' k c e hpos).1,fun h0 i hi=>(World.frozen?_of_block (w:=w) (a:=⟨a'.block,a'.off+i,none⟩) (hk a'.block (hf a' k c e hpos).1)).trans ((hf a' k c e hpos).2 h0 i hi)⟩⟩;obtain⟨b,off,rfl,h0⟩:=hr j x hj;have hS:S b:=(hf _ _ _ rfl (by have:=(Pw.1 hj).1;omega)).1;exact⟨b,off,rfl,fun i c hi=>(Qh (hk b hS)).trans (h0 i c hi)⟩
theorem FsS.mono {α:Type}{S T:Nat→Prop}{n:Nat}{f:α→List Value}{w:World}{v:Value}{l:List α}(h:FsS S n f w v l)(hST:∀b,S b→T b):FsS T n f w v l:=
 ⟨h.1,fun a k c e hk=>⟨hST _ (h.2 a k c e hk).1,fun h0=>(h.2 a k c e hk).2 (fun q=>h0 (hST 0 q))⟩⟩
theorem FsS.nil {α:Type}(S:Nat→Prop)(n:Nat)(f:α→List Value)(w:World):FsS S n f w (.slice none 0 0) ([]:List α):=⟨Fs.nil w,fun a k c e _=>by injection e with e1;cases e1⟩
theorem FsS.at {α:Type}{S:Nat→Prop}{n:Nat}{f:α→List Value}{w:World}{a:Option Addr}{k cap:Nat}{l:List α}(h:FsS S n f w (.slice a k cap) l){j:Nat}{x:α}(hx:l[j]? =some x):
  ∃g off,a=some ⟨g,off,none⟩∧S g∧ ∀i c,(f x)[i]? =some c→w.cell? ⟨g,off+(j*n+i),none⟩=some c:=by
 obtain⟨⟨a',cap',hv,hc,hr⟩,hf⟩:=h;injection hv with h1 h2 h3
 subst h1;obtain⟨b,off,rfl,h0⟩:=hr j x hx;exact⟨b,off,rfl,(hf _ _ _ rfl (by have:=(Pw.1 hx).1;omega)).1,h0⟩
abbrev PV:=Option Addr×Nat×Nat
def pv (s:PV):Value:= .slice s.1 s.2.1 s.2.2
def aJ (s:PV):List Value:=[pv s]
theorem aX (s:PV):(aJ s).length=1:=rfl
theorem jQ (s:PV):∀u∈aJ s,u.oneCell'=true:=by
 intro u hu;simp[aJ,pv]at hu;subst hu;rfl
def cz (x:Bool×PV):List Value:=[.bool x.1,pv x.2]
theorem dB (x:Bool×PV):(cz x).length=2:=rfl
theorem nS (x:Bool×PV):∀u∈cz x,u.oneCell'=true:=by
 intro u hu;simp[cz,pv]at hu;rcases hu with rfl | rfl<;>rfl
def GrS (S:Nat→Prop)(w:World)(v:Value)(l:List (List Gly)):Prop:=
 ∃L:List PV,L.length=l.length∧FsS S 1 aJ w v L∧ ∀(i:Nat) s r,L[i]? =some s→l[i]? =some r→FsS S 2 aR w (pv s) r
def TrS (S:Nat→Prop)(w:World)(v:Value)(l:List bT):Prop:=
 ∃L:List (Bool×PV),L.length=l.length∧FsS S 2 cz w v L∧ ∀(i:Nat) s r,L[i]? =some s→l[i]? =some r→s.1=r.1∧GrS S w (pv s.2) r.2
theorem GrS.keep {S:Nat→Prop}{w w':World}{v:Value}{l:List (List Gly)}(h:GrS S w v l)(hk:Kp S w w'):GrS S w' v l:=by
 obtain⟨L,h1,h2,h3⟩:=h;exact⟨L,h1,h2.keep hk,fun i s r hs hr=>(h3 i s r hs hr).keep hk⟩
theorem TrS.keep {S:Nat→Prop}{w w':World}{v:Value}{l:List bT}(h:TrS S w v l)(hk:Kp S w w'):TrS S w' v l:=by
 obtain⟨L,h1,h2,h3⟩:=h;exact⟨L,h1,h2.keep hk,fun i s r hs hr=>⟨(h3 i s r hs hr).1,(h3 i s r hs hr).2.keep hk⟩⟩
theorem GrS.mono {S T:Nat→Prop}{w:World}{v:Value}{l:List (List Gly)}(h:GrS S w v l)(hST:∀b,S b→T b):GrS T w v l:=by
 obtain⟨L,h1,h2,h3⟩:=h;exact⟨L,h1,h2.mono hST,fun i s r hs hr=>(h3 i s r hs hr).mono hST⟩
theorem TrS.mono {S T:Nat→Prop}{w:World}{v:Value}{l:List bT}(h:TrS S w v l)(hST:∀b,S b→T b):TrS T w v l:=by
 obtain⟨L,h1,h2,h3⟩:=h;exact⟨L,h1,h2.mono hST,fun i s r hs hr=>⟨(h3 i s r hs hr).1,(h3 i s r hs hr).2.mono hST⟩⟩
theorem GrS.nil (S:Nat→Prop)(w:World):GrS S w (.slice none 0 0) []:=⟨[],rfl,FsS.nil _ _ _ _,fun i s r h=>by simp at h⟩
theorem TrS.nil (S:Nat→Prop)(w:World):TrS S w (.slice none 0 0) []:=⟨[],rfl,FsS.nil _ _ _ _,fun i s r h=>by simp at h⟩
theorem GrS.len {S:Nat→Prop}{w:World}{v:Value}{l:List (List Gly)}(h:GrS S w v l):∃a cap,v=.slice a l.length cap:=by
 obtain⟨L,h1,h2,-⟩:=h;obtain⟨a,cap,e⟩:=h2.1.len;exact⟨a,cap,h1▸e⟩
theorem TrS.len {S:Nat→Prop}{w:World}{v:Value}{l:List bT}(h:TrS S w v l):∃a cap,v=.slice a l.length cap:=by
 obtain⟨L,h1,h2,-⟩:=h;obtain⟨a,cap,e⟩:=h2.1.len;exact⟨a,cap,h1▸e⟩
theorem GrS.at {S:Nat→Prop}{w:World}{a:Option Addr}{k cap:Nat}{l:List (List Gly)}(h:GrS S w (.slice a k cap) l){j:Nat}{r:List Gly}(hr:l[j]? =some r):
  ∃g off b c,a=some ⟨g,off,none⟩∧S g∧w.cell? ⟨g,off+j,none⟩=some (.slice b r.length c)∧FsS S 2 aR w (.slice b r.length c) r:=by
 obtain⟨L,h1,h2,h3⟩:=h;obtain⟨s,hs⟩:∃s,L[j]? =some s:=⟨L[j]'(by have:=(Pw.1 hr).1;omega),Pz _⟩;obtain⟨g,off,e,hg,hc⟩:=h2.at hs;have h4:=h3 j s r hs hr;obtain⟨b,c,e2⟩:=h4.1.len;have c0:=hc 0 _ rfl;rw[RB,Qr,e2]at c0;rw[e2]at h4;exact⟨g,off,b,c,e,hg,c0,h4⟩
theorem TrS.at {S:Nat→Prop}{w:World}{a:Option Addr}{k cap:Nat}{l:List bT}(h:TrS S w (.slice a k cap) l){j:Nat}{r:bT}(hr:l[j]? =some r):
  ∃g off b c,a=some ⟨g,off,none⟩∧S g∧w.cell? ⟨g,off+j*2,none⟩=some (.bool r.1)∧w.cell? ⟨g,off+j*2+1,none⟩=some (.slice b r.2.length c)∧GrS S w (.slice b r.2.length c) r.2:=by
 obtain⟨L,h1,h2,h3⟩:=h;obtain⟨s,hs⟩:∃s,L[j]? =some s:=⟨L[j]'(by have:=(Pw.1 hr).1;omega),Pz _⟩;obtain⟨g,off,e,hg,hc⟩:=h2.at hs;obtain⟨e1,h4⟩:=h3 j s r hs hr;obtain⟨b,c,e2⟩:=h4.len;have c0:=hc 0 _ rfl;have c1:=hc 1 _ rfl;rw[e1]at c0;rw[e2]at c1 h4;exact⟨g,off,b,c,e,hg,c0,c1,h4⟩
structure NV where
 kind:Int
 line:Int
 n:Int
 text:PV
 kids:PV
 rows:PV
 cols:List UInt8
 trows:PV
 box:Bool
 all:Bool
def af (x:NV):List Value:=[.int .i64 x.kind,.int .i64 x.line,.int .i64 x.n,pv x.text,pv x.kids,pv x.rows,.string ⟨x.cols.toArray⟩,pv x.trows,.bool x.box,.bool x.all]
theorem ay (x:NV):(af x).length=10:=rfl
theorem jS (x:NV):∀u∈af x,u.oneCell'=true:=by
 intro u hu;simp[af,pv]at hu;rcases hu with rfl | rfl | rfl | rfl | rfl | rfl | rfl | rfl | rfl | rfl<;>rfl
structure df (S:Nat→Prop)(w:World)(x:NV)(h:Hd):Prop where
 kind:x.kind=h.kind
 line:x.line=h.line
 n:x.n=h.n
 text:FsS S 2 aR w (pv x.text) h.text
 rows:GrS S w (pv x.rows) h.rows
 cols:x.cols=h.grid.cols
 trows:TrS S w (pv x.trows) h.grid.rows
 box:x.box=h.grid.box
 all:x.all=h.grid.all
theorem df.keep {S:Nat→Prop}{w w':World}{x:NV}{h:Hd}(k:df S w x h)(hk:Kp S w w'):df S w' x h:=
 ⟨k.kind,k.line,k.n,k.text.keep hk,k.rows.keep hk,k.cols,k.trows.keep hk,k.box,k.all⟩
theorem df.mono {S T:Nat→Prop}{w:World}{x:NV}{h:Hd}(k:df S w x h)(hST:∀b,S b→T b):df T w x h:=
 ⟨k.kind,k.line,k.n,k.text.mono hST,k.rows.mono hST,k.cols,k.trows.mono hST,k.box,k.all⟩
inductive NsS (S:Nat→Prop)(w:World):Value→List Nd→Prop where
 | mk (v:Value) (l:List Nd) (L:List NV) (hl:L.length=l.length) (hs:FsS S 10 af w v L) (hh:∀(i:Nat) x y,L[i]? =some x→l[i]? =some y→df S w x y.hd)
   (hk:∀(i:Nat) x y,L[i]? =some x→l[i]? =some y→NsS S w (pv x.kids) y.kids):NsS S w v l
theorem NsS.keep {S:Nat→Prop}{w w':World}{v:Value}{l:List Nd}(h:NsS S w v l)(k:Kp S w w'):NsS S w' v l:=by
 induction h with
 | mk v l L hl hs hh hk ih=>exact .mk v l L hl (hs.keep k) (fun i x y h1 h2=>(hh i x y h1 h2).keep k) ih
theorem NsS.mono {S T:Nat→Prop}{w:World}{v:Value}{l:List Nd}(h:NsS S w v l)(hST:∀b,S b→T b):NsS T w v l:=by
 induction h with
 | mk v l L hl hs hh hk ih=>exact .mk v l L hl (hs.mono hST) (fun i x y h1 h2=>(hh i x y h1 h2).mono hST) ih
theorem NsS.nil (S:Nat→Prop)(w:World):NsS S w (.slice none 0 0) []:= .mk _ _ [] rfl (FsS.nil _ _ _ _) (fun i x y h=>by simp at h) (fun i x y h=>by simp at h)
theorem NsS.len {S:Nat→Prop}{w:World}{v:Value}{l:List Nd}(h:NsS S w v l):∃a cap,v=.slice a l.length cap:=by
 cases h with
 | mk _ _ L hl hs hh hk=>
  obtain⟨a,cap,e⟩:=hs.1.len;exact⟨a,cap,hl▸e⟩
structure NAt (S:Nat→Prop)(w:World)(g o:Nat)(y:Nd)(text kids rows trows:PV):Prop where
 c0:w.cell? ⟨g,o,none⟩=some (.int .i64 y.hd.kind)
 c1:w.cell? ⟨g,o+1,none⟩=some (.int .i64 y.hd.line)
 c2:w.cell? ⟨g,o+2,none⟩=some (.int .i64 y.hd.n)
 c3:w.cell? ⟨g,o+3,none⟩=some (.slice text.1 y.hd.text.length text.2.2)
 c4:w.cell? ⟨g,o+4,none⟩=some (.slice kids.1 y.kids.length kids.2.2)
 c5:w.cell? ⟨g,o+5,none⟩=some (.slice rows.1 y.hd.rows.length rows.2.2)
 c6:w.cell? ⟨g,o+6,none⟩=some (.string ⟨y.hd.grid.cols.toArray⟩)
 c7:w.cell? ⟨g,o+7,none⟩=some (.slice trows.1 y.hd.grid.rows.length trows.2.2)
 c8:w.cell? ⟨g,o+8,none⟩=some (.bool y.hd.grid.box)
 c9:w.cell? ⟨g,o+9,none⟩=some (.bool y.hd.grid.all)
 blk:S g
 text:FsS S 2 aR w (.slice text.1 y.hd.text.length text.2.2) y.hd.text
 kids:NsS S w (.slice kids.1 y.kids.length kids.2.2) y.kids
 rows:GrS S w (.slice rows.1 y.hd.rows.length rows.2.2) y.hd.rows
 trows:TrS S w (.slice trows.1 y.hd.grid.rows.length trows.2.2) y.hd.grid.rows
theorem oQ {s:PV}{a:Option Addr}{n c:Nat}(h:pv s=.slice a n c):s=(a,n,c):=by
 obtain⟨s0,s1,s2⟩:=s;unfold pv at h;injection h with h1 h2 h3
 simp only at h1 h2 h3;subst h1 h2 h3;rfl
theorem NsS.at {S:Nat→Prop}{w:World}{a:Option Addr}{k cap:Nat}{l:List Nd}(h:NsS S w (.slice a k cap) l){j:Nat}{y:Nd}(hy:l[j]? =some y):
  ∃g off text kids rows trows,a=some ⟨g,off,none⟩∧NAt S w g (off+j*10) y text kids rows trows:=by
 cases h with
 | mk _ _ L hl hs hh hk=>
  obtain⟨x,hx⟩:∃x,L[j]? =some x:=⟨L[j]'(by have:=(Pw.1 hy).1;omega),Pz _⟩;obtain⟨g,off,e,hg,hc⟩:=hs.at hx;have H:=hh j x y hx hy;have K:=hk j x y hx hy;obtain⟨t1,t2,et⟩:=H.text.1.len;obtain⟨k1,k2,ek⟩:=K.len;obtain⟨r1,r2,er⟩:=H.rows.len;obtain⟨q1,q2,eq⟩:=H.trows.len;have hT:=H.text;have hR:=H.rows;have hQ:=H.trows;rw[et]at hT;rw[ek]at K;rw[er]at hR;rw[eq]at hQ;have hcell:∀i c,(af x)[i]? =some c→w.cell? ⟨g,off+j*10+i,none⟩=some c:=fun i c h=>by rw[Nat.add_assoc];exact hc i c h
  refine⟨g,off,(t1,y.hd.text.length,t2),(k1,y.kids.length,k2),(r1,y.hd.rows.length,r2),(q1,y.hd.grid.rows.length,q2),e,
   ⟨hcell 0 _ (by simp[af,H.kind]),hcell 1 _ (by simp[af,H.line]),hcell 2 _ (by simp[af,H.n]),hcell 3 _ (by simp[af,et]),hcell 4 _ (by simp[af,ek]),hcell 5 _ (by simp[af,er]),hcell 6 _ (by simp[af,H.cols]),hcell 7 _ (by simp[af,eq]),hcell 8 _ (by simp[af,H.box]),hcell 9 _ (by simp[af,H.all]),hg,hT,K,hR,hQ⟩⟩
end
section
def trm:List Gly→List Gly
 | []=>[]
 | g::l=>if trm l=[]∧g.1=32 then [] else g::trm l
def sqA:Bool→List Gly→List Gly
 | _,[]=>[]
 | b,g::l=>if g.1=32 then(if b then(32,0)::sqA false l else sqA false l) else g::sqA true l
def sqz (l:List Gly):List Gly:=sqA false (trm l)
theorem ic (g:Gly)(l:List Gly):trm (g::l)=if trm l=[]∧g.1=32 then [] else g::trm l:=rfl
theorem IU:∀l:List Gly,trm (trm l)=trm l
 | []=>rfl
 | g::l=>by
  have ih:=IU l;rw[ic]
  split
  ·rfl
  ·rename_i h
   rw[ic,ih,PO h]
theorem Ex:∀l:List Gly,(trm l).length≤l.length
 | []=>by simp[trm]
 | g::l=>by
  have ih:=Ex l;rw[ic]
  split
  ·simp
  ·simp only[PI];omega
theorem jO (b:Bool){g:Gly}(h:g.1=32)(l:List Gly):sqA b (g::l)=if b then(32,0)::sqA false l else sqA false l:=by
 show(if g.1=32 then _ else _)=_;rw[PZ h]
theorem iP (b:Bool){g:Gly}(h:g.1≠32)(l:List Gly):sqA b (g::l)=g::sqA true l:=by
 show(if g.1=32 then _ else _)=_;rw[PO h]
theorem qc:∀(b:Bool) (l:List Gly),(sqA b l).filter (fun g=>g.1 != 32)=l.filter (fun g=>g.1 != 32)
 | _,[]=>rfl
 | b,g::l=>by
  by_cases hg:g.1=32
  ·rw[jO b hg,List.filter_cons_of_neg (by simp[hg])]
   cases b
   ·exact qc false l
   ·rw[PZ rfl,List.filter_cons_of_neg (by simp)]
    exact qc false l
  ·rw[iP b hg,List.filter_cons_of_pos (by simp[hg]),List.filter_cons_of_pos (by simp[hg]),qc true l]
theorem ym:∀(b:Bool) (l:List Gly),(sqA b l).length≤l.length
 | _,[]=>by simp[sqA]
 | b,g::l=>by
  by_cases hg:g.1=32
  ·rw[jO b hg]
   have:=ym false l
   cases b
   ·simp only[PI,Qf,Q8];omega
   ·simp only[if_true,PI];omega
  ·rw[iP b hg]
   have:=ym true l;simp only[PI];omega
theorem ED (l:List Gly):(sqz l).length≤l.length:=PY (ym false _) (Ex l)
theorem EC:sqz []=[]:=rfl
def side (c:UInt8):Bool:=c==108 || c==99 || c==114
def lH (cols:List UInt8):List UInt8:=if(cols.filter side).take 20=[] then [108] else(cols.filter side).take 20
def gK:Nat→List (List Gly)→List (List Gly)
 | 0,_=>[]
 | n+1,[]=>[]::gK n []
 | n+1,c::l=>sqz c::gK n l
def iZ (n:Nat)(r:bT):bT:=(r.1,if r.1 then [] else gK n r.2)
def mend (t:Tab):Tab:=⟨lH t.cols,t.rows.map (iZ (lH t.cols).length),t.box,t.all&&t.box⟩
theorem om:∀(n:Nat) (l:List (List Gly)),(gK n l).length=n
 | 0,_=>rfl
 | n+1,[]=>by simp[gK,om n []]
 | n+1,c::l=>by simp[gK,om n l]
theorem Ba (c:List UInt8):1≤(lH c).length∧(lH c).length≤20∧(lH c).all side=true:=by
 unfold lH
 split
 ·exact⟨by decide,by decide,by decide⟩
 ·rename_i h
  refine⟨?_,?_,?_⟩
  ·have:=Qp.2 h
   omega
  ·rw[PW];omega
  ·rw[List.all_eq_true]
   intro x hx;exact(List.mem_filter.1 (Rb hx)).2
end
section
def stands (k w:Int):Bool:=(k==1&&w==0)|| (k==2&&w==1)|| (decide (3≤k)&&decide (k≤7))
def bS:Tab:=⟨[],[],false,false⟩
def isNone (t:Tab):Bool:=decide (t.cols=[])&&decide (t.rows=[])&& !t.box&& !t.all
def nP (lo hi x:Int):Int:=max lo (min x hi)
def bN (h:Hd)(k:Int):Hd:=
 ⟨k,nP 0 1099511627775 h.line,if k=4∨k=5 then nP 0 200 h.n else 0,if 1≤k∧k≤4 then sqz h.text else [],if k=6 then h.rows else [],if k=7 then mend h.grid else bS⟩
def bY (h:Hd)(kids:Bool):Bool:=
 if 1≤h.kind∧h.kind≤3 then decide (h.text≠ []) else if h.kind=5 then kids else if h.kind=6 then decide (h.rows≠ []) else h.kind==4 || (h.kind==7&&decide (h.grid.rows≠ []))
def ow {α:Type}(l:List α):Bool:= !l.isEmpty
def aN (k w:Int):Int:=if(k=1∨k=2)∧stands k w=false then 3 else k
def mf (k:Int):Bool:=k==1 || k==2 || k==4 || k==5
def eH (h:Hd)(w:Int):Bool:=mf h.kind&&aN h.kind w==h.kind&&(aN h.kind w==5 || bY (bN h (aN h.kind w)) false)
mutual
def tdN:Nd→Int→Nat→Nat→List Nd×Nat
 | .mk h ks,w,d,n=>
  if eH h w then
   (if bY (bN h (aN h.kind w)) (ow (tdL ks (aN h.kind w) (d+1) n).1) then [.mk (bN h (aN h.kind w)) (tdL ks (aN h.kind w) (d+1) n).1] else [],(tdL ks (aN h.kind w) (d+1) n).2)
  else
   ((if bY (bN h (aN h.kind w)) false then [.mk (bN h (aN h.kind w)) []] else [])++(if mf h.kind then(tdL ks w d n).1 else []),if mf h.kind then(tdL ks w d n).2 else n)
def tdL:List Nd→Int→Nat→Nat→List Nd×Nat
 | [],_,_,n=>([],n)
 | x::l,w,d,n=>if n=0∨20≤d then([],n) else((tdN x w d (n-1)).1++(tdL l w d (tdN x w d (n-1)).2).1,(tdL l w d (tdN x w d (n-1)).2).2)
end
def zV (l:List Nd):List Nd:=(tdL l 0 0 20000).1
theorem Lx (w:Int)(d n:Nat):tdL [] w d n=([],n):=by simp[tdL]
theorem IZ (x:Nd)(l:List Nd)(w:Int)(d n:Nat):tdL (x::l) w d n=if n=0∨20≤d then([],n) else((tdN x w d (n-1)).1++(tdL l w d (tdN x w d (n-1)).2).1,(tdL l w d (tdN x w d (n-1)).2).2):=by
 conv=>lhs;unfold tdL
theorem ND (h:Hd)(ks:List Nd)(w:Int)(d n:Nat):tdN (.mk h ks) w d n=if eH h w then
   (if bY (bN h (aN h.kind w)) (ow (tdL ks (aN h.kind w) (d+1) n).1) then [.mk (bN h (aN h.kind w)) (tdL ks (aN h.kind w) (d+1) n).1] else [],(tdL ks (aN h.kind w) (d+1) n).2)
  else
   ((if bY (bN h (aN h.kind w)) false then [.mk (bN h (aN h.kind w)) []] else [])++(if mf h.kind then(tdL ks w d n).1 else []),if mf h.kind then(tdL ks w d n).2 else n):=by
 conv=>lhs;unfold tdN
end
section
def ink (l:List Gly):List Gly:=l.filter fun g=>g.1 != 32
end
section
open Go.Shelf Go.RowKit Go.Lib
def U8 (w:World):Prop:=Lib.Utf8Tabs 0 1 w
theorem U8.below {w w':World}(h:U8 w)(hb:Below w.heap.size w w'):U8 w':=Utf8Tabs_below h hb
end
section
open Go.RowKit
theorem Kp.drewN (S:Nat→Prop)(w:World)(m:Nat):Kp S w (w.drewN m):=fun b _=>(below_drewN (PG (b+1) w) m).block b (by omega)
noncomputable def mxS (args:Array Value):Sem Next:=do pure (.value (←Builtin.max_ #[3,3] 3 args))
theorem iy (cs:Array Bool)(args:Array Value):builtin .max #[3,3] 3 cs args=mxS args:=rfl
theorem rY (x y z:Int)(hz:(if y>x then y else x)=z)(w:World):(mxS #[.int .i64 x,.int .i64 y]).run Tryz.prog w=.ok (.value (.int .i64 z)) w:=by
 unfold mxS;simp only[QD,QG,run_max_int2,Qm,hz]
attribute [local go_sem ↓ high] iy
end
section
theorem bsz (b:List UInt8):(⟨b.toArray⟩:ByteArray).size=b.length:=by simp[Go.Lib.size_eq]
theorem NAt.keep {S:Nat→Prop}{w w':World}{g o:Nat}{y:Nd}{text kids rows trows:PV}(h:NAt S w g o y text kids rows trows)(hk:Kp S w w'):NAt S w' g o y text kids rows trows:=
 have e:w'.heap[g]? =w.heap[g]? :=hk g h.blk
 ⟨(Qh e).trans h.c0,(Qh e).trans h.c1,(Qh e).trans h.c2,(Qh e).trans h.c3,(Qh e).trans h.c4,(Qh e).trans h.c5,(Qh e).trans h.c6,(Qh e).trans h.c7,(Qh e).trans h.c8,(Qh e).trans h.c9,
  h.blk,h.text.keep hk,h.kids.keep hk,h.rows.keep hk,h.trows.keep hk⟩
end
section
theorem Gs.drewN {w:World}{v:Value}{l:List Gly}(h:Gs w v l)(m:Nat):Gs (w.drewN m) v l:=Fs.below h (below_drewN (PG _ _) m)
theorem GrS.drewN {S:Nat→Prop}{w:World}{v:Value}{l:List (List Gly)}(h:GrS S w v l)(m:Nat):GrS S (w.drewN m) v l:=h.keep (Kp.drewN S w m)
theorem TrS.drewN {S:Nat→Prop}{w:World}{v:Value}{l:List bT}(h:TrS S w v l)(m:Nat):TrS S (w.drewN m) v l:=h.keep (Kp.drewN S w m)
def QtN (b:Bool)(w:World)(e:Ending)(w':World):Prop:=e=.returned (.bool b)∧ ∃m,w'=w.drewN m
theorem QTI {P:Prop}(h:P:=by
 obtain rfl:j=a.length:=by omega
 have hs:a=b:=by
  have h:=HS.out;rw[Qa,HLen.out,Qa]at h;exact h
 have HT:=zH (Qz hs);clear hs;go_wp2_with fail
 go_ret;exact⟨aH HT.out.symm,m,HW.out⟩):P:=h
theorem tX (a b:List Gly)(v u:Value)(w:World)(hv:Gs w v a)(hu:Gs w u b)(hl:a.length≤1000000000)(hl':b.length≤1000000000):
  Calls Tryz.prog 11 #[v,u] w (QtN (decide (a=b)) w):=by
 have HV:=zH hv;have HU:=zH hu;obtain⟨aa,ca,rfl,-,-⟩:=hv;obtain⟨ab,cb,rfl,-,-⟩:=hu;unfold QtN
 by_cases hlen:a.length=b.length
 ·have HLen:=zH hlen
  have hne:((a.length:Int) != (b.length:Int))=false:=by simp[hlen]
  clear hlen;go_enter Tryz.func11,Tryz.ntmps11
  go_wp2_with fail
  go_loopw [5] (fun i wr=> ∃j m:Nat,j≤a.length∧i=.int .i64 j∧Hid (a.take j=b.take j)∧Hid (wr=w.drewN m)) (fun i _=>a.length-(intOf i).toNat)
  case atStart=>exact⟨0,0,by omega,rfl,zH rfl,zH rfl⟩
  case round=>
   obtain⟨j,m,hj,rfl,HS,HW⟩:=hrel
   by_cases hlt:j<a.length
   ·obtain⟨x,hx⟩:∃x,a[j]? =some x:=⟨a[j],Pz hlt⟩
    obtain⟨y,hy⟩:∃y,b[j]? =some y:=⟨b[j]'(by have:=HLen.out;omega),Pz _⟩;obtain⟨g,off,rfl,c0,c1,-⟩:=Gs.at (Gs.drewN HV.out m) hx;obtain⟨g',off',rfl,c0',c1',-⟩:=Gs.at (Gs.drewN HU.out m) hy;rw[←HW.out]at c0 c1 c0' c1';have hi0:(j:Int)<(a.length:Int):=by omega
    have hi2:(j:Int)<(b.length:Int):=by have:=HLen.out;omega
    have hi1:(0:Int)≤(j:Int):=by omega
    by_cases hxy:x=y
    ·subst hxy
     have HT:=zH (take_same HS.out hx hy);have hq:=Gq;clear hx hy;go_wp2_with fail
     go_quiet (fail)
     go_wp2
     go_roundw
     case rel=>exact⟨j+1,_,by omega,by go_num,HT,zH (by rw[HW.out,Rj])⟩
     case measure=>simp[intOf];omega
    ·have HT:=zH (P8 (uE hx hy hxy))
     have hq:=C8 hxy;clear hx hy hxy;go_wp2_with fail
     go_quiet (fail)
     go_wp2
     go_ret;exact⟨aH HT.out.symm,_,by rw[HW.out,Rj]⟩
   ·exact QTI
 ·have hne:((a.length:Int) != (b.length:Int))=true:=by simp;omega
  have HT:=zH (P8 (show¬a=b from fun h=>hlen (by rw[h])));clear hlen;go_enter Tryz.func11,Tryz.ntmps11
  go_wp2_with fail
  go_ret;exact⟨aH HT.out.symm,0,rfl⟩
theorem nN (S T:Nat→Prop)(a b:List (List Gly))(v u:Value)(w:World)(hv:GrS S w v a)(hu:GrS T w u b)(hl:a.length+lens a≤1000000000)(hl':b.length+lens b≤1000000000):
  Calls Tryz.prog 42 #[v,u] w (QtN (decide (a=b)) w):=by
 have HV:=zH hv;have HU:=zH hu;obtain⟨aa,ca,rfl⟩:=hv.len;obtain⟨ab,cb,rfl⟩:=hu.len;clear hv hu;unfold QtN
 by_cases hlen:a.length=b.length
 ·have HLen:=zH hlen
  have hne:((a.length:Int) != (b.length:Int))=false:=by simp[hlen]
  clear hlen;go_enter Tryz.func42,Tryz.ntmps42
  go_wp2_with fail
  go_loopw [5] (fun i wr=> ∃j m:Nat,j≤a.length∧i=.int .i64 j∧Hid (a.take j=b.take j)∧Hid (wr=w.drewN m)) (fun i _=>a.length-(intOf i).toNat)
  case atStart=>exact⟨0,0,by omega,rfl,zH rfl,zH rfl⟩
  case round=>
   obtain⟨j,m,hj,rfl,HS,HW⟩:=hrel
   by_cases hlt:j<a.length
   ·obtain⟨x,hx⟩:∃x,a[j]? =some x:=⟨a[j],Pz hlt⟩
    obtain⟨y,hy⟩:∃y,b[j]? =some y:=⟨b[j]'(by have:=HLen.out;omega),Pz _⟩;obtain⟨g,off,b1,z1,rfl,-,c0,h1⟩:=(HV.out.drewN m).at hx;obtain⟨g',off',b2,z2,rfl,-,c0',h2⟩:=(HU.out.drewN m).at hy;rw[←HW.out]at c0 c0' h1 h2;have lx:=pE hx;have ly:=pE hy;have hi0:(j:Int)<(a.length:Int):=by omega
    have hi2:(j:Int)<(b.length:Int):=by have:=HLen.out;omega
    have hi1:(0:Int)≤(j:Int):=by omega
    have hR:=fun q=>tX x y _ _ (wr.drewN q) (Gs.drewN h1.1 q) (Gs.drewN h2.1 q) (by omega) (by omega)
    unfold QtN at hR
    by_cases hxy:x=y
    ·have HT:=zH (take_same HS.out hx (by rw[hxy];exact hy))
     simp only[Qz hxy]at hR;have HR:=zH hR;clear hx hy hR h1 h2 hxy lx ly;go_wp2_with fail
     go_quiet (first | (go_at_call 11;exact Calls.quiet_of (HR.out _)))
     go_wp2
     go_roundw
     case rel=>exact⟨j+1,_,by omega,by go_num,HT,zH (by rw[HW.out,Rj])⟩
     case measure=>simp[intOf];omega
    ·have HT:=zH (P8 (uE hx hy hxy))
     simp only[P8 hxy]at hR;have HR:=zH hR;clear hx hy hR h1 h2 hxy lx ly;go_wp2_with fail
     go_quiet (first | (go_at_call 11;exact Calls.quiet_of (HR.out _)))
     go_wp2
     go_ret;exact⟨aH HT.out.symm,_,by rw[HW.out,Rj]⟩
   ·exact QTI
 ·have hne:((a.length:Int) != (b.length:Int))=true:=by simp;omega
  have HT:=zH (P8 (show¬a=b from fun h=>hlen (by rw[h])));clear hlen;go_enter Tryz.func42,Tryz.ntmps42
  go_wp2_with fail
  go_ret;exact⟨aH HT.out.symm,0,rfl⟩
end
section
open Go.RowKit
noncomputable def eqT (a c:Value):Sem Value:=binOp .eql 9 a c
theorem iT (a c:Value):binOp .eql 9 a c=eqT a c:=rfl
noncomputable def NQ (a c:Value):Sem Value:=binOp .neq 9 a c
theorem gW (a c:Value):binOp .neq 9 a c=NQ a c:=rfl
theorem EB (a c:List UInt8):decide ((⟨a.toArray⟩:ByteArray)=⟨c.toArray⟩)=decide (a=c):=by
 apply bO;simp
theorem MJ (a c:List UInt8)(W:World):(eqT (.string ⟨a.toArray⟩) (.string ⟨c.toArray⟩)).run Tryz.prog W=.ok (.bool (decide (a=c))) W:=by
 rw[←EB];unfold eqT;simp[go_sem];exact bO (by simp)
theorem Jt (a c:List UInt8)(W:World):(NQ (.string ⟨a.toArray⟩) (.string ⟨c.toArray⟩)).run Tryz.prog W=.ok (.bool (!decide (a=c))) W:=by
 rw[←EB];unfold NQ;simp[go_sem];exact bO (by simp)
def tH (t:Tab)(r:PV):Value:= .agg #[.string ⟨t.cols.toArray⟩,pv r,.bool t.box,.bool t.all]
theorem NH (a b:Tab):a=b↔a.cols=b.cols∧a.rows=b.rows∧a.box=b.box∧a.all=b.all:=by
 obtain⟨a1,a2,a3,a4⟩:=a;obtain⟨b1,b2,b3,b4⟩:=b;simp
attribute [local go_sem ↓ high] iT gW
theorem tV (S T:Nat→Prop)(a b:Tab)(r1 r2:PV)(w:World)(hv:TrS S w (pv r1) a.rows)(hu:TrS T w (pv r2) b.rows)(hl:cZ a.rows≤1000000000)(hl':cZ b.rows≤1000000000)(hS:∀x,S x→x<w.heap.size)(hT:∀x,T x→x<w.heap.size):
  Calls Tryz.prog 43 #[tH a r1,tH b r2] w fun e w'=>e=.returned (.bool (decide (a=b)))∧Below w.heap.size w w':=by
 obtain⟨a1,z1,e1⟩:=hv.len;obtain rfl:=oQ e1;obtain⟨a2,z2,e2⟩:=hu.len;obtain rfl:=oQ e2;unfold tH pv;simp only;obtain⟨A,hA⟩:∃A:Obj,(.cells #[.string ⟨a.cols.toArray⟩,.slice a1 a.rows.length z1,.bool a.box,.bool a.all] 56:Obj)=A:=⟨_,rfl⟩;obtain⟨B,hB⟩:∃B:Obj,(.cells #[.string ⟨b.cols.toArray⟩,.slice a2 b.rows.length z2,.bool b.box,.bool b.all] 56:Obj)=B:=⟨_,rfl⟩;have bl:Below w.heap.size w ((w.alloc A).alloc B):=((PG _ w).alloc (Px _) _).alloc (by simp) _;have hbA:Blk ((w.alloc A).alloc B) w.heap.size 56 [.string ⟨a.cols.toArray⟩,.slice a1 a.rows.length z1,.bool a.box,.bool a.all]:=by
  rw[←hA];exact(Qk _ _ (by simp)).trans (PK w _)
 have hbB:Blk ((w.alloc A).alloc B) (w.heap.size+1) 56 [.string ⟨b.cols.toArray⟩,.slice a2 b.rows.length z2,.bool b.box,.bool b.all]:=by
  rw[←hB];have:=PK (w.alloc A) (.cells #[.string ⟨b.cols.toArray⟩,.slice a2 b.rows.length z2,.bool b.box,.bool b.all] 56);rw[PS]at this;exact this
 have hV:=hv.keep (Kp.below bl hS);have hU:=hu.keep (Kp.below bl hT);obtain⟨w0,hw0⟩:∃w0,(w.alloc A).alloc B=w0:=⟨_,rfl⟩;rw[hw0]at bl hbA hbB hV hU;have BL:=zH bl;have HBA:=zH hbA;have HBB:=zH hbB;have HV:=zH hV;have HU:=zH hU;have W0:=zH hw0;have NE:=fun x y=>Jt x y
 have hiff:=NH a b;have htn:=oL a.rows;have c0:w0.cell? ⟨w.heap.size,0,none⟩=some (.string ⟨a.cols.toArray⟩):=hbA.cell 0;have c1:w0.cell? ⟨w.heap.size,1,none⟩=some (.slice a1 a.rows.length z1):=hbA.cell 1;have c2:w0.cell? ⟨w.heap.size,2,none⟩=some (.bool a.box):=hbA.cell 2;have c3:w0.cell? ⟨w.heap.size,3,none⟩=some (.bool a.all):=hbA.cell 3;have d0:w0.cell? ⟨w.heap.size+1,0,none⟩=some (.string ⟨b.cols.toArray⟩):=hbB.cell 0;have d1:w0.cell? ⟨w.heap.size+1,1,none⟩=some (.slice a2 b.rows.length z2):=hbB.cell 1;have d2:w0.cell? ⟨w.heap.size+1,2,none⟩=some (.bool b.box):=hbB.cell 2;have d3:w0.cell? ⟨w.heap.size+1,3,none⟩=some (.bool b.all):=hbB.cell 3;clear bl hbA hbB hV hU hv hu hS hT
 by_cases q0:a.cols=b.cols
 ·have n0:=NE a.cols b.cols
  rw[Qz q0]at n0;simp only[Bool.not_true]at n0
  by_cases q2:a.box=b.box
  ·rw[←q2]at d2
   by_cases q3:a.all=b.all
   ·rw[←q3]at d3
    by_cases q1:a.rows.length=b.rows.length
    ·rw[←q1]at d1
     have HLen:=zH q1;have HIFF:Hid (a=b↔a.rows=b.rows):=zH ⟨fun h=>by rw[h],fun h=>hiff.2 ⟨q0,h,q2,q3⟩⟩;clear q0 q1 q2 q3 hiff NE;subst hA hB;go_enter Tryz.func43,Tryz.ntmps43
     go_wp2_with fail
     clear c0 c1 c2 c3 d0 d1 d2 d3 n0;go_loopw [5] (fun i wr=> ∃j m:Nat,j≤a.rows.length∧i=.int .i64 j∧Hid (a.rows.take j=b.rows.take j)∧Hid (wr=w0.drewN m)) (fun i _=>a.rows.length-(intOf i).toNat)
     case atStart=>exact⟨0,0,by omega,rfl,zH rfl,zH rfl⟩
     case round=>
      obtain⟨j,m,hj,rfl,HS,HW⟩:=hrel;have hbA:Blk wr w.heap.size 56 _:=HW.out▸HBA.out.below (below_drewN (PG _ _) m);have hbB:Blk wr (w.heap.size+1) 56 _:=HW.out▸HBB.out.below (below_drewN (PG _ _) m);have c1:wr.cell? ⟨w.heap.size,1,none⟩=some (.slice a1 a.rows.length z1):=hbA.cell 1;have d1:wr.cell? ⟨w.heap.size+1,1,none⟩=some (.slice a2 a.rows.length z2):=HLen.out▸hbB.cell 1;clear hbA hbB
      by_cases hlt:j<a.rows.length
      ·obtain⟨x,hx⟩:∃x,a.rows[j]? =some x:=⟨a.rows[j],Pz hlt⟩
       obtain⟨y,hy⟩:∃y,b.rows[j]? =some y:=⟨b.rows[j]'(by have:=HLen.out;omega),Pz _⟩;obtain⟨g1,o1,b1,y1,k1,-,c4,c5,h1⟩:=(HV.out.drewN m).at hx;obtain⟨g2,o2,b2,y2,k2,-,d4,d5,h2⟩:=(HU.out.drewN m).at hy;rw[←HW.out]at c4 c5 h1 d4 d5 h2;simp only at k1 k2;rw[k1]at c1;rw[k2]at d1;have lx:=rT hx;have ly:=rT hy;unfold trl at lx ly;have hi0:(j:Int)<(a.rows.length:Int):=by omega
       have hi1:(0:Int)≤(j:Int):=by omega
       have hR:=fun q=>nN S T x.2 y.2 _ _ (wr.drewN q) (h1.drewN q) (h2.drewN q) (by omega) (by omega)
       unfold QtN at hR;have BW:=zH (fun q=>below_drewN (B:=w.heap.size) (PG w.heap.size w0) q);obtain⟨x1,x2⟩:=x;obtain⟨u1,u2⟩:=y;simp only at c4 c5 d4 d5 hR
       by_cases e1:x1=u1
       ·rw[←e1]at d4
        by_cases e2:x2=u2
        ·have HT:=zH (take_same HS.out hx (by rw[e1,e2];exact hy))
         simp only[Qz e2]at hR;have HR:=zH hR;clear hx hy hR h1 h2 lx ly e1 e2 k1 k2;go_wp2_with fail
         go_quiet (first | (go_at_call 42;exact Calls.quiet_of (HR.out _)))
         go_wp2
         go_roundw
         case rel=>exact⟨j+1,_,by omega,by go_num,HT,zH (by rw[HW.out,Rj])⟩
         case measure=>simp[intOf];omega
        ·have HF:=zH (P8 (show¬a=b from fun h=>e2 (by
          have hh:=hx;rw[HIFF.out.1 h,hy]at hh;injection hh with hh
          injection hh with _ hh
          exact hh.symm)))
         simp only[P8 e2]at hR;have HR:=zH hR;clear hx hy hR h1 h2 lx ly e1 e2 k1 k2;go_wp2_with fail
         go_quiet (first | (go_at_call 42;exact Calls.quiet_of (HR.out _)))
         go_wp2
         go_ret;exact⟨aH HF.out.symm,by rw[HW.out,Rj];exact BL.out.trans (BW.out _)⟩
       ·have HF:=zH (P8 (show¬a=b from fun h=>e1 (by
         have hh:=hx;rw[HIFF.out.1 h,hy]at hh;injection hh with hh
         injection hh with hh _
         exact hh.symm)))
        have n1:(x1==u1)=false:=by simpa using e1
        clear hx hy hR h1 h2 lx ly e1 k1 k2;go_wp2_with fail
        go_quiet (fail)
        go_wp2
        go_ret;exact⟨aH HF.out.symm,by rw[HW.out,Rj];exact BL.out.trans (BW.out _)⟩
      ·obtain rfl:j=a.rows.length:=by omega
       have hlt':¬(a.rows.length:Int)<(a.rows.length:Int):=by omega
       have hs:a.rows=b.rows:=by
        have h:=HS.out;rw[Qa,HLen.out,Qa]at h;exact h
       have HT:=zH (Qz (HIFF.out.2 hs));have BW:=zH (fun q=>below_drewN (B:=w.heap.size) (PG w.heap.size w0) q);clear hs;go_wp2_with fail
       go_ret;exact⟨aH HT.out.symm,by rw[HW.out];exact BL.out.trans (BW.out _)⟩
    ·have n1:((a.rows.length:Int) != (b.rows.length:Int))=true:=by simp;omega
     have HF:=zH (P8 (show¬a=b from fun h=>q1 (by rw[h])));clear q0 q1 q2 q3 hiff NE;subst hA hB;go_enter Tryz.func43,Tryz.ntmps43
     go_wp2_with fail
     go_ret;exact⟨aH HF.out.symm,BL.out⟩
   ·have n3:(a.all==b.all)=false:=by simpa using q3
    have HF:=zH (P8 (show¬a=b from fun h=>q3 (by rw[h])));clear q0 q2 q3 hiff NE;subst hA hB;go_enter Tryz.func43,Tryz.ntmps43
    go_wp2_with fail
    go_ret;exact⟨aH HF.out.symm,BL.out⟩
  ·have n2:(a.box==b.box)=false:=by simpa using q2
   have HF:=zH (P8 (show¬a=b from fun h=>q2 (by rw[h])));clear q0 q2 hiff NE;subst hA hB;go_enter Tryz.func43,Tryz.ntmps43
   go_wp2_with fail
   go_ret;exact⟨aH HF.out.symm,BL.out⟩
 ·have n0:=NE a.cols b.cols
  rw[P8 q0]at n0;simp only[Bool.not_false]at n0;have HF:=zH (P8 (show¬a=b from fun h=>q0 (by rw[h])));clear q0 hiff NE;subst hA hB;go_enter Tryz.func43,Tryz.ntmps43
  go_wp2_with fail
  go_ret;exact⟨aH HF.out.symm,BL.out⟩
end
section
attribute [local go_sem ↓ high] iT gW
theorem OW (a b:Hd):a=b↔a.kind=b.kind∧a.line=b.line∧a.n=b.n∧a.text=b.text∧a.rows=b.rows∧a.grid=b.grid:=by
 obtain⟨a1,a2,a3,a4,a5,a6⟩:=a;obtain⟨b1,b2,b3,b4,b5,b6⟩:=b;simp
theorem OO (a b:Nd):a=b↔a.hd=b.hd∧a.kids=b.kids:=by
 obtain⟨a1,a2⟩:=a;obtain⟨b1,b2⟩:=b;simp[Nd.hd,Nd.kids]
noncomputable def DY (a b:List Nd):Bool:= @decide (a=b) (Classical.propDecidable _)
theorem qF {a b:List Nd}(h:a=b):DY a b=true:=by unfold DY;exact @Qz _ (Classical.propDecidable _) h
theorem oD {a b:List Nd}(h:¬a=b):DY a b=false:=by unfold DY;exact @P8 _ (Classical.propDecidable _) h
def ndL (kd ln nn:Int)(y:Nd)(t k r q:PV):List Value:=
 [.int .i64 kd,.int .i64 ln,.int .i64 nn,.slice t.1 y.hd.text.length t.2.2,.slice k.1 y.kids.length k.2.2,.slice r.1 y.hd.rows.length r.2.2,.string ⟨y.hd.grid.cols.toArray⟩,.slice q.1 y.hd.grid.rows.length q.2.2,.bool y.hd.grid.box,.bool y.hd.grid.all]
theorem F9 (S T:Nat→Prop):∀(n:Nat) (a b:List Nd),aP a=n→nlL a≤1000000000→nlL b≤1000000000→ ∀(v u:Value) (w:World),NsS S w v a→NsS T w u b→(∀x,S x→x<w.heap.size)→(∀x,T x→x<w.heap.size)→
  Calls Tryz.prog 21 #[v,u] w fun e w'=>e=.returned (.bool (DY a b))∧Below w.heap.size w w':=by
 intro n
 induction n using Nat.strongRecOn with
 | _ n IH=>
  intro a b hn hba hbb v u w hv hu hS hT;have HV:=zH hv;have HU:=zH hu;obtain⟨aa,ca,rfl⟩:=hv.len;obtain⟨ab,cb,rfl⟩:=hu.len;have HI:Hid (∀(k m:List Nd),aP k<n→nlL k≤1000000000→nlL m≤1000000000→ ∀(v u:Value) (w:World),NsS S w v k→NsS T w u m→(∀x,S x→x<w.heap.size)→(∀x,T x→x<w.heap.size)→
   Calls Tryz.prog 21 #[v,u] w fun e w'=>e=.returned (.bool (DY k m))∧Below w.heap.size w w'):=zH (fun k m hk h1 h2=>IH (aP k) hk k m rfl h1 h2)
  have hll:=pU a;have hnl:=pR a;have HS:=zH hS;have HT:=zH hT;clear hv hu IH hS hT
  by_cases hlen:a.length=b.length
  ·have HLen:=zH hlen
   have hne:((a.length:Int) != (b.length:Int))=false:=by simp[hlen]
   clear hlen;go_enter Tryz.func21,Tryz.ntmps21
   go_wp2_with fail
   go_loopw [5] (fun i wr=> ∃j:Nat,j≤a.length∧i=.int .i64 j∧Hid (a.take j=b.take j)∧Hid (Below w.heap.size w wr)) (fun i _=>a.length-(intOf i).toNat)
   case atStart=>exact⟨0,by omega,rfl,zH rfl,zH (PG _ _)⟩
   case round=>
    obtain⟨j,hj,rfl,HTk,BW⟩:=hrel
    by_cases hlt:j<a.length
    ·obtain⟨x,hx⟩:∃x,a[j]? =some x:=⟨a[j],Pz hlt⟩
     obtain⟨y,hy⟩:∃y,b[j]? =some y:=⟨b[j]'(by have:=HLen.out;omega),Pz _⟩;have hi0:(j:Int)<(a.length:Int):=by omega
     have hi2:(j:Int)<(b.length:Int):=by have:=HLen.out;omega
     have hi1:(0:Int)≤(j:Int):=by omega
     have lx:=AO hx;have ly:=AO hy;have cx:=zo hx;have dx:hdl x.hd=3+x.hd.text.length+x.hd.grid.cols.length+(x.hd.rows.length+lens x.hd.rows)+cZ x.hd.grid.rows:=rfl;have dy:hdl y.hd=3+y.hd.text.length+y.hd.grid.cols.length+(y.hd.rows.length+lens y.hd.rows)+cZ y.hd.grid.rows:=rfl;obtain⟨g1,o1,t1,k1,r1,q1,rfl,hA⟩:=HV.out.at hx;obtain⟨g2,o2,t2,k2,r2,q2,rfl,hB⟩:=HU.out.at hy;have KS:=zH (fun W (h:Below w.heap.size w W)=>hA.keep (Kp.below h HS.out));have KT:=zH (fun W (h:Below w.heap.size w W)=>hB.keep (Kp.below h HT.out));have hA1:=KS.out wr BW.out;have hB1:=KT.out wr BW.out;have a0:=hA1.c0;have a1:=hA1.c1;have a2:=hA1.c2;have a3:=hA1.c3;have a4:=hA1.c4;have a5:=hA1.c5;have a6:=hA1.c6;have a7:=hA1.c7;have a8:=hA1.c8;have a9:=hA1.c9;obtain⟨xk,hxk⟩:∃k,x.hd.kind=k:=⟨_,rfl⟩;obtain⟨xl,hxl⟩:∃k,x.hd.line=k:=⟨_,rfl⟩;obtain⟨xn,hxn⟩:∃k,x.hd.n=k:=⟨_,rfl⟩;obtain⟨yk,hyk⟩:∃k,y.hd.kind=k:=⟨_,rfl⟩;obtain⟨yl,hyl⟩:∃k,y.hd.line=k:=⟨_,rfl⟩;obtain⟨yn,hyn⟩:∃k,y.hd.n=k:=⟨_,rfl⟩;rw[hxk]at a0;rw[hxl]at a1;rw[hxn]at a2;have bl1:=ae wr (.cells (ndL xk xl xn x t1 k1 r1 q1).toArray 58);have hB2:=KT.out (wr.alloc (.cells (ndL xk xl xn x t1 k1 r1 q1).toArray 58)) (BW.out.trans (bl1.mono BW.out.size));have b0:=hB2.c0;have b1:=hB2.c1;have b2:=hB2.c2;have b3:=hB2.c3;have b4:=hB2.c4;have b5:=hB2.c5;have b6:=hB2.c6;have b7:=hB2.c7;have b8:=hB2.c8;have b9:=hB2.c9;rw[hyk]at b0;rw[hyl]at b1;rw[hyn]at b2;have bl2:Below wr.heap.size wr ((wr.alloc (.cells (ndL xk xl xn x t1 k1 r1 q1).toArray 58)).alloc (.cells (ndL yk yl yn y t2 k2 r2 q2).toArray 58)):=((PG _ wr).alloc (Px _) _).alloc (by simp) _;have hbA:Blk ((wr.alloc (.cells (ndL xk xl xn x t1 k1 r1 q1).toArray 58)).alloc (.cells (ndL yk yl yn y t2 k2 r2 q2).toArray 58)) wr.heap.size 58 (ndL xk xl xn x t1 k1 r1 q1):=(Qk _ _ (by simp)).trans (PK wr _);have hbB:Blk ((wr.alloc (.cells (ndL xk xl xn x t1 k1 r1 q1).toArray 58)).alloc (.cells (ndL yk yl yn y t2 k2 r2 q2).toArray 58)) (wr.heap.size+1) 58 (ndL yk yl yn y t2 k2 r2 q2):=by
      have:=PK (wr.alloc (.cells (ndL xk xl xn x t1 k1 r1 q1).toArray 58)) (.cells (ndL yk yl yn y t2 k2 r2 q2).toArray 58);rw[PS]at this;exact this
     have BL2:=BW.out.trans (bl2.mono BW.out.size);have c0:((wr.alloc (.cells (ndL xk xl xn x t1 k1 r1 q1).toArray 58)).alloc (.cells (ndL yk yl yn y t2 k2 r2 q2).toArray 58)).cell? ⟨wr.heap.size,0,none⟩=some (.int .i64 xk):=hbA.cell 0;have d0:((wr.alloc (.cells (ndL xk xl xn x t1 k1 r1 q1).toArray 58)).alloc (.cells (ndL yk yl yn y t2 k2 r2 q2).toArray 58)).cell? ⟨wr.heap.size+1,0,none⟩=some (.int .i64 yk):=hbB.cell 0;have c1:((wr.alloc (.cells (ndL xk xl xn x t1 k1 r1 q1).toArray 58)).alloc (.cells (ndL yk yl yn y t2 k2 r2 q2).toArray 58)).cell? ⟨wr.heap.size,1,none⟩=some (.int .i64 xl):=hbA.cell 1;have d1:((wr.alloc (.cells (ndL xk xl xn x t1 k1 r1 q1).toArray 58)).alloc (.cells (ndL yk yl yn y t2 k2 r2 q2).toArray 58)).cell? ⟨wr.heap.size+1,1,none⟩=some (.int .i64 yl):=hbB.cell 1;have c2:((wr.alloc (.cells (ndL xk xl xn x t1 k1 r1 q1).toArray 58)).alloc (.cells (ndL yk yl yn y t2 k2 r2 q2).toArray 58)).cell? ⟨wr.heap.size,2,none⟩=some (.int .i64 xn):=hbA.cell 2;have d2:((wr.alloc (.cells (ndL xk xl xn x t1 k1 r1 q1).toArray 58)).alloc (.cells (ndL yk yl yn y t2 k2 r2 q2).toArray 58)).cell? ⟨wr.heap.size+1,2,none⟩=some (.int .i64 yn):=hbB.cell 2;have c3:((wr.alloc (.cells (ndL xk xl xn x t1 k1 r1 q1).toArray 58)).alloc (.cells (ndL yk yl yn y t2 k2 r2 q2).toArray 58)).cell? ⟨wr.heap.size,3,none⟩=some (.slice t1.1 x.hd.text.length t1.2.2):=hbA.cell 3;have d3:((wr.alloc (.cells (ndL xk xl xn x t1 k1 r1 q1).toArray 58)).alloc (.cells (ndL yk yl yn y t2 k2 r2 q2).toArray 58)).cell? ⟨wr.heap.size+1,3,none⟩=some (.slice t2.1 y.hd.text.length t2.2.2):=hbB.cell 3;have HBK:Hid (∀W,Below ((wr.alloc (.cells (ndL xk xl xn x t1 k1 r1 q1).toArray 58)).alloc (.cells (ndL yk yl yn y t2 k2 r2 q2).toArray 58)).heap.size ((wr.alloc (.cells (ndL xk xl xn x t1 k1 r1 q1).toArray 58)).alloc (.cells (ndL yk yl yn y t2 k2 r2 q2).toArray 58)) W→Blk W wr.heap.size 58 (ndL xk xl xn x t1 k1 r1 q1)∧Blk W (wr.heap.size+1) 58 (ndL yk yl yn y t2 k2 r2 q2)):=zH (fun W h=>⟨hbA.below h,hbB.below h⟩);have HDR:=zH (fun m=>below_drewN (PG ((wr.alloc (.cells (ndL xk xl xn x t1 k1 r1 q1).toArray 58)).alloc (.cells (ndL yk yl yn y t2 k2 r2 q2).toArray 58)).heap.size ((wr.alloc (.cells (ndL xk xl xn x t1 k1 r1 q1).toArray 58)).alloc (.cells (ndL yk yl yn y t2 k2 r2 q2).toArray 58))) m);have HX:=zH hx;have HY:=zH hy;have fin:∀(h:¬x=y),DY a b=false:=fun h=>oD (fun e=>h (by have h1:=HX.out;rw[e,HY.out]at h1;injection h1 with h1;exact h1.symm))
     have FIN:=zH fin;have HEQ:Hid (x=y↔(xk=yk∧xl=yl∧xn=yn∧x.hd.text=y.hd.text∧x.hd.rows=y.hd.rows∧x.hd.grid=y.hd.grid)∧x.kids=y.kids):=zH (by rw[OO,OW,hxk,hxl,hxn,hyk,hyl,hyn]);have HT4:=zH (fun W (h:Below w.heap.size w W)=>tX x.hd.text y.hd.text _ _ W (KS.out W h).text.1 (KT.out W h).text.1 (by omega) (by omega));have HT5:=zH (fun W (h:Below w.heap.size w W)=>nN S T x.hd.rows y.hd.rows _ _ W (KS.out W h).rows (KT.out W h).rows (by omega) (by omega));have HT6:=zH (fun W (h:Below w.heap.size w W)=>tV S T x.hd.grid y.hd.grid (q1.1,x.hd.grid.rows.length,q1.2.2) (q2.1,y.hd.grid.rows.length,q2.2.2) W (KS.out W h).trows (KT.out W h).trows (by omega) (by omega) (fun z hz=>PH (HS.out z hz) h.size) (fun z hz=>PH (HT.out z hz) h.size));have HT7:=zH (fun W (h:Below w.heap.size w W)=>HI.out x.kids y.kids (by omega) (by omega) (by omega) _ _ W (KS.out W h).kids (KT.out W h).kids (fun z hz=>PH (HS.out z hz) h.size) (fun z hz=>PH (HT.out z hz) h.size));unfold QtN at HT4 HT5;unfold tH pv at HT6;have B2:=zH BL2;have hwz:w.heap.size≤wr.heap.size:=BW.out.size;clear hx hy lx ly cx dx dy hxk hxl hxn hyk hyl hyn fin bl1 bl2 hB2 hbA hbB BL2 KS KT;simp only[ndL]at b0 b1 b2 b3 b4 b5 b6 b7 b8 b9 c0 d0 c1 d1 c2 d2 c3 d3 B2 HBK HDR
     by_cases e0:xk=yk
     ·subst e0
      by_cases e1:xl=yl
      ·subst e1
       by_cases e2:xn=yn
       ·subst e2
        go_wp2_with fail
        refine(HT4.out _ B2.out).mono ?_;rintro e w4 ⟨rfl,m4,hw4⟩;have h4:=HDR.out m4;rw[←hw4]at h4;have B4:=zH (B2.out.trans (h4.mono B2.out.size));obtain⟨kA,kB⟩:=HBK.out w4 h4;have H4:=zH h4;have c5:w4.cell? ⟨wr.heap.size,5,none⟩=some (.slice r1.1 x.hd.rows.length r1.2.2):=kA.cell 5;have d5:w4.cell? ⟨wr.heap.size+1,5,none⟩=some (.slice r2.1 y.hd.rows.length r2.2.2):=kB.cell 5;clear kA kB hw4 h4 HT4 c0 c1 c2 c3 d0 d1 d2 d3 b0 a0 b1 a1 b2 a2 b3 a3 b4 a4 b5 a5 b6 a6 b7 a7 b8 a8 b9 a9
        by_cases e4:x.hd.text=y.hd.text
        ·rw[Qz e4]
         have E4:=zH e4;clear e4;go_wp2_with fail
         refine(HT5.out _ B4.out).mono ?_;rintro e w5 ⟨rfl,m5,hw5⟩;have h5:=below_drewN (PG w4.heap.size w4) m5;rw[←hw5]at h5;have B5:=zH (B4.out.trans (h5.mono B4.out.size));have H5:=zH (H4.out.trans (h5.mono H4.out.size));obtain⟨kA,kB⟩:=HBK.out w5 H5.out;have c6:w5.cell? ⟨wr.heap.size,6,none⟩=some (.string ⟨x.hd.grid.cols.toArray⟩):=kA.cell 6;have d6:w5.cell? ⟨wr.heap.size+1,6,none⟩=some (.string ⟨y.hd.grid.cols.toArray⟩):=kB.cell 6;have c7:w5.cell? ⟨wr.heap.size,7,none⟩=some (.slice q1.1 x.hd.grid.rows.length q1.2.2):=kA.cell 7;have d7:w5.cell? ⟨wr.heap.size+1,7,none⟩=some (.slice q2.1 y.hd.grid.rows.length q2.2.2):=kB.cell 7;have c8:w5.cell? ⟨wr.heap.size,8,none⟩=some (.bool x.hd.grid.box):=kA.cell 8;have d8:w5.cell? ⟨wr.heap.size+1,8,none⟩=some (.bool y.hd.grid.box):=kB.cell 8;have c9:w5.cell? ⟨wr.heap.size,9,none⟩=some (.bool x.hd.grid.all):=kA.cell 9;have d9:w5.cell? ⟨wr.heap.size+1,9,none⟩=some (.bool y.hd.grid.all):=kB.cell 9;clear kA kB hw5 h5 HT5 c5 d5 H4 B4
         by_cases e5:x.hd.rows=y.hd.rows
         ·rw[Qz e5]
          have E5:=zH e5;clear e5;go_wp2_with fail
          refine(HT6.out _ B5.out).mono ?_;rintro e w6 ⟨rfl,h6⟩;have B6:=zH (B5.out.trans (h6.mono B5.out.size));have H6:=zH (H5.out.trans (h6.mono H5.out.size));obtain⟨kA,kB⟩:=HBK.out w6 H6.out;have c4:w6.cell? ⟨wr.heap.size,4,none⟩=some (.slice k1.1 x.kids.length k1.2.2):=kA.cell 4;have d4:w6.cell? ⟨wr.heap.size+1,4,none⟩=some (.slice k2.1 y.kids.length k2.2.2):=kB.cell 4;clear kA kB h6 HT6 H5 B5 c6 c7 c8 c9 d6 d7 d8 d9
          by_cases e6:x.hd.grid=y.hd.grid
          ·rw[Qz e6]
           have E6:=zH e6;clear e6;go_wp2_with fail
           refine(HT7.out _ B6.out).mono ?_;rintro e w7 ⟨rfl,h7⟩;have B7:=zH (B6.out.trans (h7.mono B6.out.size));clear h7 HT7 H6 B6 c4 d4
           by_cases e7:x.kids=y.kids
           ·have HNX:=zH (take_same HTk.out HX.out (by rw[HEQ.out.2 (by refine⟨⟨?_,?_,?_,E4.out,E5.out,E6.out⟩,e7⟩<;>first | rfl | trivial)];exact HY.out))
            rw[qF e7];clear e7;go_wp2_with fail
            go_roundw
            case rel=>exact⟨j+1,by omega,by go_num,HNX,B7⟩
            case measure=>(simp[intOf];try omega)
           ·rw[oD e7]
            have HF:=zH (FIN.out (fun h=>e7 (HEQ.out.1 h).2));clear e7;go_wp2_with fail
            go_ret;exact⟨aH HF.out.symm,B7.out⟩
          ·rw[P8 e6]
           have HF:=zH (FIN.out (fun h=>e6 (HEQ.out.1 h).1.2.2.2.2.2));clear e6 c4 d4;go_wp2_with fail
           go_ret;exact⟨aH HF.out.symm,B6.out⟩
         ·rw[P8 e5]
          have HF:=zH (FIN.out (fun h=>e5 (HEQ.out.1 h).1.2.2.2.2.1));clear e5 c6 c7 c8 c9 d6 d7 d8 d9;go_wp2_with fail
          go_ret;exact⟨aH HF.out.symm,B5.out⟩
        ·rw[P8 e4]
         have HF:=zH (FIN.out (fun h=>e4 (HEQ.out.1 h).1.2.2.2.1));clear e4 c5 d5;go_wp2_with fail
         go_ret;exact⟨aH HF.out.symm,B4.out⟩
       ·have n2:(xn==yn)=false:=by simpa using e2
        have m2:(xn != yn)=true:=by simpa using e2
        have HF:=zH (FIN.out (fun h=>e2 (HEQ.out.1 h).1.2.2.1));go_wp2_with fail
        go_ret;exact⟨aH HF.out.symm,B2.out⟩
      ·have n1:(xl==yl)=false:=by simpa using e1
       have m1:(xl != yl)=true:=by simpa using e1
       have HF:=zH (FIN.out (fun h=>e1 (HEQ.out.1 h).1.2.1));go_wp2_with fail
       go_ret;exact⟨aH HF.out.symm,B2.out⟩
     ·have n0:(xk==yk)=false:=by simpa using e0
      have m0:(xk != yk)=true:=by simpa using e0
      have HF:=zH (FIN.out (fun h=>e0 (HEQ.out.1 h).1.1));go_wp2_with fail
      go_ret;exact⟨aH HF.out.symm,B2.out⟩
    ·obtain rfl:j=a.length:=by omega
     have hlt':¬(a.length:Int)<(a.length:Int):=by omega
     have hs:a=b:=by
      have h:=HTk.out;rw[Qa,HLen.out,Qa]at h;exact h
     have HQ:=zH (qF hs);clear hs;go_wp2_with fail
     go_ret;exact⟨aH HQ.out.symm,BW.out⟩
  ·have hne:((a.length:Int) != (b.length:Int))=true:=by simp;omega
   have HQ:=zH (oD (show¬a=b from fun h=>hlen (by rw[h])));clear hlen;go_enter Tryz.func21,Tryz.ntmps21
   go_wp2_with fail
   go_ret;exact⟨aH HQ.out.symm,PG _ _⟩
end
section
attribute [local go_sem ↓ high] iT gW
structure Nm where
 a:List UInt8
 b:List UInt8
 c:List UInt8
 d:List UInt8
def rQ (m:Nm)(v:Value):List Value:=[.string ⟨m.a.toArray⟩,.string ⟨m.b.toArray⟩,.string ⟨m.c.toArray⟩,.string ⟨m.d.toArray⟩,v]
def rP (m:Nm)(v:Value):Value:= .agg (rQ m v).toArray
theorem sP {e e':TypeId}(w:World)(L M:List Value):∀W,W=(w.alloc (.cells L.toArray e)).alloc (.cells M.toArray e')→Below w.heap.size w W∧Blk W w.heap.size e L∧Blk W (w.heap.size+1) e' M:=by
 rintro W rfl;refine⟨((PG _ w).alloc (Px _) _).alloc (by simp) _,(Qk _ _ (by simp)).trans (PK w _),?_⟩;have:=PK (w.alloc (.cells L.toArray e)) (.cells M.toArray e');rw[PS]at this;exact this
end
def jn (a b:List Gly):List Gly:=if a=[] then b else if b=[] then a else a++ [(32,0)]++b
structure Bt where
 nm:Nm
 kids:List Nd
 opn:List Nd
 text:List Gly
 line:Int
 has:Bool
def kH (y x:Nd):Nd:= .mk y.hd (y.kids++ [x])
def jh (t:Bt)(x:Nd):Bt:=
 match t.opn.getLast? with
 | none=>{t with kids:=t.kids++ [x] }
 | some y=>{t with opn:=t.opn.dropLast++ [kH y x] }
def lG (t:Bt):Nd:= .mk ⟨3,t.line,0,t.text,[],bS⟩ []
def mI (t:Bt):Bt:={t with text:=[],line:=0,has:=false}
def bM (t:Bt):Bt:=mI (if ink t.text=[] then t else jh t (lG t))
def iA (t:Bt)(l:List Gly)(line:Int):Bt:={t with text:=jn t.text l,line:=if t.has then t.line else line,has:=true}
def qI (t:Bt)(x:Nd):Bt:=jh (bM t) x
def rE (t:Bt)(x:Nd):Bt:={bM t with opn:=(bM t).opn++ [x] }
def jg (t:Bt):Bt:=
 match t.opn.getLast? with
 | none=>t
 | some x=>jh {t with opn:=t.opn.dropLast} x
def bIn (t:Bt)(k:Int):Bool:=t.opn.any fun y=>y.hd.kind==k
def qU (k:Int):Nat→Bt→Bt
 | 0,t=>t
 | n+1,t=>match t.opn.getLast? with
  | none=>t
  | some y=>if y.hd.kind=k then jg t else qU k n (jg t)
def dm (t:Bt)(k:Int):Bt×Bool:=if bIn (bM t) k then(qU k (bM t).opn.length (bM t),true) else(bM t,false)
def lY (K:List Int):Nat→Bt→Bt
 | 0,t=>t
 | n+1,t=>match t.opn.getLast? with
  | none=>t
  | some y=>if y.hd.kind∈K then lY K n (jg t) else t
def aK (t:Bt)(K:List Int):Bt:=lY K (bM t).opn.length (bM t)
def nL:List Nd→List Nd
 | []=>[]
 | y::r=>[.mk y.hd (y.kids++nL r)]
def jY (t:Bt):List Nd:=t.kids++nL t.opn
def wz (t:Bt):List Nd:=zV (jY (bM t))
theorem NR (x:Nd):Nd.mk x.hd x.kids=x:=by cases x;rfl
theorem wE:∀(l:List Nd) (y x:Nd),nL (l++ [y,x])=nL (l++ [kH y x])
 | [],y,x=>by
  cases y;cases x
  simp[nL,kH,Nd.hd,Nd.kids]
 | z::l,y,x=>by
  have:=wE l y x;simp only[Qe,nL,this]
theorem jb {t:Bt}(x:Nd)(h:t.opn=[]):jh t x={t with kids:=t.kids++ [x] }:=by unfold jh;rw[h];rfl
theorem ja {t:Bt}(x:Nd){l:List Nd}{y:Nd}(h:t.opn=l++ [y]):jh t x={t with opn:=l++ [kH y x] }:=by unfold jh;rw[h];simp
theorem dG (l:List Nd):l=[]∨ ∃r y,l=r++ [y]:=by
 rcases Ro l with h | ⟨r,y,h⟩
 ·exact .inl h
 ·exact .inr ⟨r,y,by simpa using h⟩
theorem oV {t:Bt}(h:t.opn=[]):jg t=t:=by unfold jg;rw[h];rfl
theorem lW {t:Bt}{l:List Nd}{x:Nd}(h:t.opn=l++ [x]):jg t=jh {t with opn:=l} x:=by unfold jg;rw[h];simp
theorem LQ (t:Bt):jY (jg t)=jY t:=by
 rcases dG t.opn with h | ⟨l,x,h⟩
 ·rw[oV h]
 ·rw[lW h]
  rcases dG l with h2 | ⟨r,y,h2⟩
  ·rw[jb x (by exact h2)]
   unfold jY;simp only;rw[h,h2];simp[nL,NR]
  ·rw[ja x (show({t with opn:=l}:Bt).opn=r++ [y] from h2)]
   unfold jY;simp only;rw[h,h2,Qx];rw[show [y]++ [x]=[y,x] from rfl,wE]
theorem oW (t:Bt):(jg t).opn.length=t.opn.length-1:=by
 rcases dG t.opn with h | ⟨l,x,h⟩
 ·rw[oV h,h];rfl
 ·rw[lW h]
  rcases dG l with h2 | ⟨r,y,h2⟩
  ·rw[jb x (by exact h2),h];simp[h2]
  ·rw[ja x (show({t with opn:=l}:Bt).opn=r++ [y] from h2),h,h2];simp
def qR (t u:Bt):Prop:=u.nm=t.nm∧u.text=t.text∧u.line=t.line∧u.has=t.has
theorem qR.trans {a b c:Bt}(h:qR a b)(k:qR b c):qR a c:=⟨k.1.trans h.1,k.2.1.trans h.2.1,k.2.2.1.trans h.2.2.1,k.2.2.2.trans h.2.2.2⟩
theorem qy (t:Bt)(x:Nd):qR t (jh t x):=by
 unfold jh
 split<;>exact⟨rfl,rfl,rfl,rfl⟩
theorem Gg (t:Bt):qR t (jg t):=by
 unfold jg
 split
 ·exact⟨rfl,rfl,rfl,rfl⟩
 ·exact(show qR t {t with opn:=t.opn.dropLast} from⟨rfl,rfl,rfl,rfl⟩).trans (qy _ _)
def Nl (t:Bt):Prop:=t.text=[]∧t.line=0∧t.has=false
theorem Oi {t:Bt}(h:Nl t):bM t=t:=by
 obtain⟨nm,kids,opn,text,line,has⟩:=t;obtain⟨h1,h2,h3⟩:=h;simp only at h1 h2 h3;subst h1 h2 h3;rfl
abbrev Txt:=List UInt8
def aU (c:UInt8):Txt→List Txt
 | []=>[[]]
 | x::r=>if x=c then []::aU c r else match aU c r with
  | []=>[[x]]
  | h::t=>(x::h)::t
theorem zn (c:UInt8):∀s:Txt,aU c s≠ []
 | []=>by simp[aU]
 | x::r=>by
  unfold aU
  split
  ·simp
  ·split<;>simp
theorem pQ (c:UInt8):∀s:Txt,(aU c s).length=1+s.count c
 | []=>by simp[aU]
 | x::r=>by
  have ih:=pQ c r;unfold aU
  by_cases h:x=c
  ·rw[PZ h,PI,ih,h,Ry];omega
  ·rw[PO h,R6 h]
   cases e:aU c r with
   | nil=>exact absurd e (zn c r)
   | cons a b=>
    rw[e]at ih
    simpa using ih
theorem Ko (c:UInt8):∀s:Txt,c∉s→aU c s=[s]
 | [],_=>rfl
 | x::r,h=>by
  have h1:x≠c:=fun e=>h (by rw[e];exact QQ)
  unfold aU;rw[PO h1,Ko c r (fun q=>h (QM _ q))]
theorem Fy (c:UInt8):∀(a b:Txt),c∉a→aU c (a++c::b)=a::aU c b
 | [],b,_=>by
  show aU c (c::b)=_
  conv=>lhs;unfold aU
  rw[PZ rfl]
 | x::a,b,h=>by
  have h1:x≠c:=fun e=>h (by rw[e];exact QQ)
  have ih:=Fy c a b (fun q=>h (QM _ q));show aU c (x::(a++c::b))=_
  conv=>lhs;unfold aU
  rw[PO h1,ih]
theorem Bz (c:UInt8):∀(s:Txt) (x:UInt8),aU c (s++ [x])=if x=c then aU c s++ [[]] else(aU c s).dropLast++ [((aU c s).getLast?.getD [])++ [x]]
 | [],x=>by
  show aU c [x]=_
  by_cases h:x=c<;>simp[aU,h]
 | y::s,x=>by
  have ih:=Bz c s x;have hne:=zn c s;show aU c (y::(s++ [x]))=_;unfold aU;rw[ih]
  by_cases hy:y=c
  ·rw[PZ hy,PZ hy]
   by_cases h:x=c
   ·rw[PZ h,PZ h];rfl
   ·rw[PO h,PO h]
    cases e:aU c s with
    | nil=>exact absurd e hne
    | cons a b=>simp
  ·rw[PO hy,PO hy]
   cases e:aU c s with
   | nil=>exact absurd e hne
   | cons a b=>
    by_cases h:x=c
    ·rw[PZ h,PZ h];rfl
    ·rw[PO h,PO h]
     cases b with
     | nil=>simp
     | cons b1 b2=>simp
def rH (x:UInt8):Bool:=x==32 || x==44
def fG:Txt→Txt→List Txt
 | w,[]=>if w=[] then [] else [w]
 | w,x::r=>if rH x then(if w=[] then fG [] r else w::fG [] r) else fG (w++ [x]) r
def dz (s:Txt):List Txt:=fG [] s
theorem mM:∀(s w:Txt),∀a∈fG w s,a≠ []
 | [],w,a,ha=>by
  unfold fG at ha
  split at ha
  ·simp at ha
  ·simp at ha;rw[ha];assumption
 | x::s,w,a,ha=>by
  unfold fG at ha
  split at ha
  ·split at ha
   ·exact mM s _ a ha
   ·rcases Qn.1 ha with e | e
    ·rw[e];assumption
    ·exact mM s _ a e
  ·exact mM s _ a ha
theorem IE (s:Txt):∀a∈dz s,a≠ []:=mM s []
def dV (s:Txt)(c:UInt8):Bool:=s.getLast? ==some c
def mH:Txt:=[98,111,120]
def lD:Txt:=[97,108,108,98,111,120]
def lookW:List Txt→Option (Bool×Bool)
 | []=>some (false,false)
 | w::l=>if w=mH∨w=lD then(lookW l).map (fun q=>(true,q.2 || w==lD)) else none
def gP (s:Txt):Bool×Bool×Bool:=
 if dV s 59 then match lookW (dz s.dropLast)with
  | some (b,a)=>(b,a,true)
  | none=>(false,false,false)
 else(false,false,false)
def BO (w:Txt):UInt8×Bool:=match w.head? with
 | some x=>if x=108∨x=76 then(108,true) else if x=99∨x=67 then(99,true) else if x=114∨x=82 then(114,true) else(108,false)
 | none=>(108,false)
def aS (s:Txt):Txt×Bool:=
 let l:=dz (if dV s 46 then s.dropLast else s)
 (l.map (fun w=>(BO w).1),l.all (fun w=>(BO w).2))
abbrev Dgn:=Int×Int×Int
abbrev Lgf:=Txt→List Gly×List (Int×Int)
def aY (ln:Int)(l:List (Int×Int)):List Dgn:=l.map (fun q=>(q.1,ln,q.2))
def MV (s:Txt):Bool:=s.take 2== [84,125]
def tbW:Txt:=[84,123]
def bV (lg:Lgf):List Txt→Int→List Gly→List Dgn→List Gly×List Dgn×Int×List Txt
 | [],ln,acc,d=>(acc,d,ln,[])
 | s::r,ln,acc,d=>if MV s then(acc,d,ln,s::r) else bV lg r (ln+1) (jn acc (lg s).1) (d++aY ln (lg s).2)
theorem wM (lg:Lgf):∀(l:List Txt) (ln:Int) (acc:List Gly) (d:List Dgn),(bV lg l ln acc d).2.2.2.length≤l.length
 | [],_,_,_=>by simp[bV]
 | s::r,ln,acc,d=>by
  unfold bV
  split
  ·simp
  ·have:=wM lg r (ln+1) (jn acc (lg s).1) (d++aY ln (lg s).2)
   simp only[PI];omega
abbrev qM:=List (List Gly)×List Dgn×Int×List Txt
def dD (lg:Lgf)(K:List Txt→List Txt→Int→List (List Gly)→List Dgn→qM):List Txt→List Txt→Int→List (List Gly)→List Dgn→qM
 | [],rest,ln,cs,d=>(cs,d,ln,rest)
 | p::ps,rest,ln,cs,d=>if p=tbW then
   match bV lg rest (ln+1) [] d with
   | (g,d2,ln2,[])=>(cs++ [g],d2++ [(7,ln,0)],ln2,[])
   | (g,d2,ln2,s::r)=>K (aU 9 s).tail r ln2 (cs++ [g]) d2
  else dD lg K ps rest ln (cs++ [(lg p).1]) (d++aY ln (lg p).2)
def cK (lg:Lgf):Nat→List Txt→List Txt→Int→List (List Gly)→List Dgn→qM
 | 0=>dD lg (fun _ rest ln cs d=>(cs,d,ln,rest))
 | n+1=>dD lg (cK lg n)
def rowP (lg:Lgf)(nc:Nat)(s:Txt)(rest:List Txt)(ln:Int):bT×List Dgn×Int×List Txt:=
 if s=[95]∨s=[61] then((true,[]),[],ln,rest) else
  let q:=cK lg (rest.length+1) (aU 9 s) rest ln [] []
  ((false,q.1),q.2.1++(if nc<q.1.length then [(11,ln,0)] else []),q.2.2.1,q.2.2.2)
def fE (lg:Lgf)(nc:Nat):Nat→List Txt→Int→List bT→List Dgn→List bT×List Dgn
 | 0,_,_,rs,d=>(rs,d)
 | _,[],_,rs,d=>(rs,d)
 | n+1,s::r,ln,rs,d=>let q:=rowP lg nc s r ln
  fE lg nc n q.2.2.2 (q.2.2.1+1) (rs++ [q.1]) (d++q.2.1)
def dY:List Txt→Int→Txt→List Dgn→Txt×Bool×List Dgn×List Txt×Int
 | [],ln,cols,d=>(cols,false,d,[],ln)
 | s::r,ln,cols,d=>
  let c:=aS s
  let d':=d++(if c.2 then [] else [(10,ln,0)])++(if 20<c.1.length then [(11,ln,0)] else [])
  let cols':=if c.1=[] then cols else c.1.take 20
  if dV s 46 then(cols',true,d',r,ln+1) else dY r (ln+1) cols' d'
def dw (line:Int)(l:List Txt):Bool×Bool×List Dgn×List Txt×Int:=match l with
 | []=>(false,false,[],[],line)
 | s::r=>if dV s 59 then((gP s).1,(gP s).2.1,(if(gP s).2.2 then [] else [(10,line,0)]),r,line+1) else(false,false,[],s::r,line)
def fH (lg:Lgf)(line:Int)(l:List Txt):Tab×List Dgn:=
 let a:=dw line l
 let b:=dY a.2.2.2.1 a.2.2.2.2 [] a.2.2.1
 let cols:=if b.1=[] then [108] else b.1
 let d:=b.2.2.1++(if b.2.1 then [] else [(7,line,0)])
 let q:=fE lg cols.length b.2.2.2.1.length b.2.2.2.1 b.2.2.2.2 [] d
 (mend ⟨cols,q.1,a.1,a.2.1⟩,q.2)
section
variable {lg:Lgf}(hg:∀s,∀q∈(lg s).2,0≤q.2)
include hg
omit hg in
end
structure aI where
 line:Int
 mac:Txt
 args:List Txt
 text:Txt
structure mK where
 inl:aI→Option (List Gly×List (Int×Int))
 wds:List Txt→List Gly×List (Int×Int)
 tab:Int→List Txt→Tab×List Dgn
structure MWt where
 kind:Int
 line:Int
 n:Int
structure Md where
 b:Bt
 d:List Dgn
 th:Bool
 w:Option MWt
 v:Option (Int×List (List Gly))
 g:Option (Int×List Txt)
def mdg (c:UInt8):Bool:=decide (48≤c.toNat)&&decide (c.toNat≤57)
def Pm (s:Txt):Int:=s.foldl (fun a c=>10*a+((c.toNat:Int)-48)) 0
def nJ (s:Txt)(or:Int):Int×Bool:=
 let t:=if s.getLast?=some 110 then s.dropLast else s
 if t≠ []∧t.all mdg=true∧t.length≤6 then(min (Pm t) 200,true) else(or,false)
def aD (s:Md)(k ln:Int):Md:={s with d:=s.d++ [(k,ln,0)] }
def cB (kind line n:Int)(t:List Gly):Hd:=⟨kind,line,n,t,[],bS⟩
def dh (s:Md)(h:Hd):Md:=if 20≤s.b.opn.length then aD s 8 h.line else {s with b:=rE s.b (.mk h []) }
def iM (r:aI)(k:Nat):Txt:=(r.args[k]?).getD []
def aL (s:Md)(r:aI)(k:Nat):Md×Int:=match r.args[k]? with
 | none=>(s,7)
 | some a=>if(nJ a 7).2 then(s,(nJ a 7).1) else(aD s 5 r.line,7)
def xQ (I:mK)(s:Md)(r:aI)(l:List Txt):Md×List Gly:=({s with d:=s.d++aY r.line (I.wds l).2},(I.wds l).1)
def uT (I:mK)(s:Md)(r:aI)(k:Int)(K:List Int):Md:=
 let s1:={s with b:=aK s.b K}
 if r.args=[] then {s1 with w:=some ⟨k,r.line,0⟩ } else
  let q:=xQ I s1 r r.args
  dh q.1 (cB k r.line 0 q.2)
def FP (I:mK)(s:Md)(r:aI)(tp:Bool):Md:=
 let s1:={s with b:=aK s.b [4] }
 if tp then
  let q:=aL s1 r 0
  {q.1 with w:=some ⟨4,r.line,q.2⟩ }
 else
  let q:=xQ I s1 r (r.args.take 1)
  let p:=aL q.1 r 1
  dh p.1 (cB 4 r.line p.2 q.2)
def mTH:Txt:=[84,72]
def mSH:Txt:=[83,72]
def mSS:Txt:=[83,83]
def Bc (I:mK)(s:Md)(r:aI):Md:=
 if r.mac=mTH then(if s.th then aD s 13 r.line else {s with th:=true,b:={s.b with nm:=⟨iM r 0,iM r 1,iM r 2,iM r 3⟩ } })
 else if r.mac=mSH then uT I s r 1 [1,2,4,5]
 else if r.mac=mSS then uT I s r 2 [2,4,5]
 else if r.mac=[80,80]∨r.mac=[80]∨r.mac=[76,80] then {s with b:=aK s.b [4] }
 else if r.mac=[84,80] then FP I s r true
 else if r.mac=[73,80] then FP I s r false
 else if r.mac=[82,83] then(let q:=aL s r 0;dh q.1 (cB 5 r.line q.2 []))
 else if r.mac=[82,69] then(let q:=dm s.b 5;if q.2 then {s with b:=q.1} else aD {s with b:=q.1} 6 r.line)
 else if r.mac=[69,88]∨r.mac=[110,102] then {s with b:=bM s.b,v:=some (r.line,[]) }
 else if r.mac=[84,83] then {s with b:=bM s.b,g:=some (r.line,[]) }
 else if r.mac=[69,69]∨r.mac=[102,105]∨r.mac=[84,69] then aD s 6 r.line
 else aD s 4 r.line
def endV (s:Md)(v:Int×List (List Gly)):Md:={s with b:=qI s.b (.mk ⟨6,v.1,0,[],v.2,bS⟩ []),v:=none}
def endG (I:mK)(s:Md)(g:Int×List Txt):Md:={s with b:=qI s.b (.mk ⟨7,g.1,0,[],[],(I.tab g.1 g.2).1⟩ []),d:=s.d++(I.tab g.1 g.2).2,g:=none}
def xq (s:Md)(r:aI)(l:List Gly):Md:=match s.v with
 | some v=>{s with v:=some (v.1,v.2++ [l]) }
 | none=>match s.w with
  | some w=>dh {s with w:=none} (cB w.kind w.line w.n l)
  | none=>if r.mac=[]∧ink l=[] then {s with b:=bM s.b} else {s with b:=iA s.b l r.line}
def upM (s:Md):Md:=match s.w with
 | some w=>{aD s 5 w.line with w:=none}
 | none=>s
def iD (I:mK)(s:Md)(r:aI):Md:=match s.g with
 | some g=>if r.mac=[] then {s with g:=some (g.1,g.2++ [r.text]) } else if r.mac=[84,69] then endG I s g else aD s 13 r.line
 | none=>match I.inl r with
  | some q=>if r.mac≠ []∧r.args=[] then aD s 5 r.line else xq {s with d:=s.d++aY r.line q.2} r q.1
  | none=>match s.v with
   | some v=>if r.mac=[69,69]∨r.mac=[102,105] then endV s v else aD s 13 r.line
   | none=>Bc I (upM s) r
def oz (I:mK)(s:Md):Md:=match s.g with
 | some g=>endG I (aD s 7 g.1) g
 | none=>s
def wh (s:Md):Md:=match s.v with
 | some v=>endV (aD s 7 v.1) v
 | none=>s
def rO (s:Md):Md:=if s.th then s else aD s 12 0
def zh (I:mK)(s:Md):Md:=rO (wh (oz I (upM s)))
def md0:Md:=⟨⟨⟨[],[],[],[]⟩,[],[],[],0,false⟩,[],false,none,none,none⟩
def gp (I:mK)(l:List aI):Md:=l.foldl (iD I) md0
def di (I:mK)(l:List aI):Md:=zh I (gp I l)
theorem CY (t:Bt)(x:Nd):(jh t x).nm=t.nm:=by unfold jh;split<;>rfl
theorem l7 (t:Bt):(bM t).nm=t.nm:=by
 unfold bM mI;show(if ink t.text=[] then t else jh t (lG t)).nm=t.nm
 split
 ·rfl
 ·exact CY _ _
theorem LZ (t:Bt)(l:List Gly)(n:Int):(iA t l n).nm=t.nm:=rfl
theorem L6 (t:Bt)(x:Nd):(rE t x).nm=t.nm:=l7 t
theorem nm_add (t:Bt)(x:Nd):(qI t x).nm=t.nm:=(CY _ _).trans (l7 t)
theorem CX (t:Bt):(jg t).nm=t.nm:=by
 unfold jg
 split
 ·rfl
 ·exact CY _ _
theorem wV (K:List Int):∀(n:Nat) (t:Bt),(lY K n t).nm=t.nm
 | 0,t=>rfl
 | n+1,t=>by
  unfold lY
  split
  ·rfl
  ·split
   ·exact(wV K n (jg t)).trans (CX t)
   ·rfl
theorem AB (k:Int):∀(n:Nat) (t:Bt),(qU k n t).nm=t.nm
 | 0,t=>rfl
 | n+1,t=>by
  unfold qU
  split
  ·rfl
  ·split
   ·exact CX t
   ·exact(AB k n (jg t)).trans (CX t)
theorem yI (t:Bt)(K:List Int):(aK t K).nm=t.nm:=(wV _ _ _).trans (l7 t)
theorem AC (t:Bt)(k:Int):(dm t k).1.nm=t.nm:=by
 unfold dm
 split
 ·exact(AB _ _ _).trans (l7 t)
 ·exact l7 t
structure ThK (m:Nm)(s:Md):Prop where
 th:s.th=true
 nm:s.b.nm=m
 d:∀q∈s.d,q.1≠12
section
variable {m:Nm}{s:Md}{I:mK}
theorem ThK.tell (h:ThK m s)(k ln:Int)(hk:k≠12:=by decide):ThK m (aD s k ln):=⟨h.th,h.nm,fun q hq=>by
 rcases QR.1 hq with hq | hq
 ·exact h.d q hq
 ·rw[RH.1 hq];exact hk⟩
theorem ThK.more (h:ThK m s){l:List Dgn}(hl:∀q∈l,q.1≠12):ThK m {s with d:=s.d++l}:=⟨h.th,h.nm,fun q hq=>(QR.1 hq).elim (h.d q) (hl q)⟩
theorem ThK.bld (h:ThK m s){b:Bt}(hb:b.nm=s.b.nm):ThK m {s with b:=b}:=⟨h.th,hb.trans h.nm,h.d⟩
theorem ThK.opn (h:ThK m s)(x:Hd):ThK m (dh s x):=by
 unfold dh
 split
 ·exact h.tell 8 _
 ·exact h.bld (L6 _ _)
def mK.ok (I:mK):Prop:=(∀r q,I.inl r=some q→ ∀x∈q.2,x.1≠12)∧(∀l,∀x∈(I.wds l).2,x.1≠12)∧ ∀ln l,∀x∈(I.tab ln l).2,x.1≠12
theorem D6 {ln:Int}{l:List (Int×Int)}(h:∀x∈l,x.1≠12):∀q∈aY ln l,q.1≠12:=fun q hq=>by
 unfold aY at hq;obtain⟨x,hx,rfl⟩:=Rm.1 hq;exact h x hx
theorem ThK.narg (h:ThK m s)(r:aI)(k:Nat):ThK m (aL s r k).1:=by
 unfold aL
 split
 ·exact h
 ·split
  ·exact h
  ·exact h.tell 5 _
theorem ThK.wds (h:ThK m s)(hI:I.ok)(r:aI)(l:List Txt):ThK m (xQ I s r l).1:=h.more (D6 (hI.2.1 l))
theorem ThK.wait (h:ThK m s)(w:Option MWt):ThK m {s with w:=w}:=⟨h.th,h.nm,h.d⟩
theorem ThK.head (h:ThK m s)(hI:I.ok)(r:aI)(k:Int)(K:List Int):ThK m (uT I s r k K):=by
 unfold uT;have h1:ThK m {s with b:=aK s.b K}:=h.bld (yI _ _);simp only
 split
 ·exact h1.wait _
 ·exact(h1.wds hI r r.args).opn _
theorem ThK.tag (h:ThK m s)(hI:I.ok)(r:aI)(tp:Bool):ThK m (FP I s r tp):=by
 unfold FP;have h1:ThK m {s with b:=aK s.b [4] }:=h.bld (yI _ _);simp only
 split
 ·exact(h1.narg r 0).wait _
 ·exact((h1.wds hI r _).narg r 1).opn _
theorem ThK.endV (h:ThK m s)(v:Int×List (List Gly)):ThK m (endV s v):=⟨h.th,(nm_add _ _).trans h.nm,h.d⟩
theorem ThK.endG (h:ThK m s)(hI:I.ok)(g:Int×List Txt):ThK m (endG I s g):=⟨h.th,(nm_add _ _).trans h.nm,fun q hq=>(QR.1 hq).elim (h.d q) (hI.2.2 _ _ q)⟩
theorem ThK.up (h:ThK m s):ThK m (upM s):=by
 unfold upM
 split
 ·exact(h.tell 5 _).wait _
 ·exact h
theorem ThK.ite {c:Prop}[Decidable c]{a b:Md}(ha:ThK m a)(hb:ThK m b):ThK m (if c then a else b):=by
 by_cases h:c
 ·rw[PZ h];exact ha
 ·rw[PO h];exact hb
theorem ThK.mac (h:ThK m s)(hI:I.ok)(r:aI):ThK m (Bc I s r):=by
 unfold Bc;refine ThK.ite ?_ (ThK.ite ?_ (ThK.ite ?_ (ThK.ite ?_ (ThK.ite ?_ (ThK.ite ?_ (ThK.ite ?_ (ThK.ite ?_ (ThK.ite ?_ (ThK.ite ?_ (ThK.ite ?_ ?_))))))))))
 ·rw[PZ h.th];exact h.tell 13 _
 ·exact h.head hI r _ _
 ·exact h.head hI r _ _
 ·exact h.bld (yI _ _)
 ·exact h.tag hI r _
 ·exact h.tag hI r _
 ·exact(h.narg r 0).opn _
 ·exact ThK.ite (h.bld (AC _ _)) ((h.bld (AC _ _)).tell 6 _)
 ·exact⟨h.th,(l7 _).trans h.nm,h.d⟩
 ·exact⟨h.th,(l7 _).trans h.nm,h.d⟩
 ·exact h.tell 6 _
 ·exact h.tell 4 _
theorem ThK.feed (h:ThK m s)(r:aI)(l:List Gly):ThK m (xq s r l):=by
 unfold xq
 split
 ·exact⟨h.th,h.nm,h.d⟩
 ·split
  ·exact(h.wait none).opn _
  ·split
   ·exact h.bld (l7 _)
   ·exact h.bld (LZ _ _ _)
theorem ThK.row (h:ThK m s)(hI:I.ok)(r:aI):ThK m (iD I s r):=by
 unfold iD
 split
 ·split
  ·exact⟨h.th,h.nm,h.d⟩
  ·split
   ·exact h.endG hI _
   ·exact h.tell 13 _
 ·split
  ·rename_i q hq
   split
   ·exact h.tell 5 _
   ·exact(h.more (D6 (hI.1 r q hq))).feed _ _
  ·split
   ·split
    ·exact h.endV _
    ·exact h.tell 13 _
   ·exact h.up.mac hI r
theorem ThK.rows (hI:I.ok):∀(l:List aI) (s:Md),ThK m s→ThK m (l.foldl (iD I) s)
 | [],s,h=>h
 | r::l,s,h=>ThK.rows hI l (iD I s r) (h.row hI r)
theorem ThK.fin (h:ThK m s)(hI:I.ok):ThK m (zh I s):=by
 unfold zh;have h2:ThK m (oz I (upM s)):=by
  unfold oz
  split
  ·exact(h.up.tell 7 _).endG hI _
  ·exact h.up
 have h3:ThK m (wh (oz I (upM s))):=by
  unfold wh
  split
  ·exact(h2.tell 7 _).endV _
  ·exact h2
 unfold rO;rw[PZ h3.th];exact h3
end
theorem FI {I:mK}(hI:I.ok)(line:Int)(name:Txt)(l:List aI)(hT:I.inl ⟨line,mTH,[name],[]⟩=none):
  (di I (⟨line,mTH,[name],[]⟩::l)).b.nm=⟨name,[],[],[]⟩∧ ∀q∈(di I (⟨line,mTH,[name],[]⟩::l)).d,q.1≠12:=by
 have h0:ThK ⟨name,[],[],[]⟩ (iD I md0 ⟨line,mTH,[name],[]⟩):=by
  unfold iD;simp only[md0];rw[hT];refine⟨rfl,rfl,fun q hq=>?_⟩
  cases hq
 have h:=(ThK.rows hI l _ h0).fin hI;exact⟨h.nm,h.d⟩
section
open Go.RowKit
structure NC (w:World)(g o:Nat)(x:NV):Prop where
 c0:w.cell? ⟨g,o,none⟩=some (.int .i64 x.kind)
 c1:w.cell? ⟨g,o+1,none⟩=some (.int .i64 x.line)
 c2:w.cell? ⟨g,o+2,none⟩=some (.int .i64 x.n)
 c3:w.cell? ⟨g,o+3,none⟩=some (.slice x.text.1 x.text.2.1 x.text.2.2)
 c4:w.cell? ⟨g,o+4,none⟩=some (.slice x.kids.1 x.kids.2.1 x.kids.2.2)
 c5:w.cell? ⟨g,o+5,none⟩=some (.slice x.rows.1 x.rows.2.1 x.rows.2.2)
 c6:w.cell? ⟨g,o+6,none⟩=some (.string ⟨x.cols.toArray⟩)
 c7:w.cell? ⟨g,o+7,none⟩=some (.slice x.trows.1 x.trows.2.1 x.trows.2.2)
 c8:w.cell? ⟨g,o+8,none⟩=some (.bool x.box)
 c9:w.cell? ⟨g,o+9,none⟩=some (.bool x.all)
attribute [local go_sem ↓ high] iy
end
section
structure Exc (X:Nat→Prop)(w w':World):Prop where
 os:w'.os=w.os
 tape:w'.tape=w.tape
 output:w'.output=w.output
 size:w.heap.size≤w'.heap.size
 block:∀k,k<w.heap.size→ ¬X k→w'.heap[k]? =w.heap[k]?
theorem Exc.refl (X:Nat→Prop)(w:World):Exc X w w:=⟨rfl,rfl,rfl,Px _,fun _ _ _=>rfl⟩
theorem Exc.trans {X Y:Nat→Prop}{a b c:World}(h:Exc X a b)(k:Exc Y b c)(hXY:∀i,i<a.heap.size→Y i→X i):Exc X a c:=
 ⟨k.os.trans h.os,k.tape.trans h.tape,k.output.trans h.output,PY h.size k.size,fun i hi hx=>(k.block i (PH hi h.size) (fun q=>hx (hXY i hi q))).trans (h.block i hi hx)⟩
theorem Exc.then {X:Nat→Prop}{a b c:World}(h:Exc X a b)(k:Exc X b c):Exc X a c:=h.trans k (fun _ _ q=>q)
theorem Exc.of {X:Nat→Prop}{w w':World}(h:Below w.heap.size w w'):Exc X w w':=⟨h.os,h.tape,h.output,h.size,fun k hk _=>h.block k hk⟩
theorem Exc.below {X:Nat→Prop}{w w':World}{D:Nat}(h:Exc X w w')(hD:D≤w.heap.size)(hX:∀b,b<D→ ¬X b):Below D w w':=
 ⟨h.os,h.tape,h.output,h.size,fun k hk=>h.block k (PH hk hD) (hX k hk)⟩
theorem Exc.mono {X Y:Nat→Prop}{w w':World}(h:Exc X w w')(hXY:∀i,i<w.heap.size→X i→Y i):Exc Y w w':=
 ⟨h.os,h.tape,h.output,h.size,fun k hk hy=>h.block k hk (fun q=>hy (hXY k hk q))⟩
theorem Exc.set {X:Nat→Prop}{a w:World}(h:Exc X a w){g:Nat}(j:Nat)(v:Value)(hg:g<a.heap.size→X g):Exc X a (w.setCell ⟨g,j,none⟩ v):=
 ⟨h.os,h.tape,h.output,by simpa[World.setCell] using h.size,fun k hk hx=>(PN w ⟨g,j,none⟩ v k (fun e=>hx (by subst e;exact hg hk))).trans (h.block k hk hx)⟩
theorem Exc.blk {X:Nat→Prop}{w w':World}(h:Exc X w w'){g:Nat}{e:TypeId}{L:List Value}(hb:Blk w g e L)(hX:¬X g):Blk w' g e L:=(h.block g (Py.1 hb).1 hX).trans hb
theorem Oo (w:World)(a b:Obj):Below w.heap.size w ((w.alloc a).alloc b):=((PG _ w).alloc (Px _) _).alloc (by simp) _
theorem Blk.lt {W:World}{g:Nat}{e:TypeId}{L:List Value}(h:Blk W g e L):g<W.heap.size:=(Py.1 h).1
end
def t0:Bt:=⟨⟨[],[],[],[]⟩,[],[],[],0,false⟩
def mEX:Txt:=[69,88]
def mEE:Txt:=[69,69]
end Go.Proofs.YtebabjnngdjceaaGreatDoor
