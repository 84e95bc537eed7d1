/- Cut; known() is true. kn -/
import Derived.Test.YtebabjnngdjceaaGreatDoorH2
import Derived.Deep.LoopGhost
import Derived.Lib.AppendZerosOnto
import Derived.Laws.CopyOwn
set_option linter.unusedVariables false
set_option linter.unusedSimpArgs false
set_option maxRecDepth 100000
set_option maxHeartbeats 8000000
namespace Go.Proofs.YtebabjnngdjceaaGreatDoor
open Go.RowKit
section
open Go.RowKit
attribute [local go_sem ↓ high] gI lU
end
section
attribute [local go_sem ↓ high] gI lU
def kl:List Gly:=[(97,0),(19968,0),(98,0)]
end
section
attribute [local go_sem ↓ high] gI
def aZ:List Gly→Nat
 | []=>0
 | g::l=>if aZ l=0∧g.1=32 then 0 else aZ l+1
theorem lS:∀l:List Gly,aZ l≤l.length
 | []=>Px _
 | g::l=>by
  unfold aZ
  split
  ·omega
  ·have:=lS l;simp only[PI];omega
theorem sV:∀(l:List Gly) (j:Nat) (g:Gly),aZ l≤j→l[j]? =some g→g.1=32
 | [],j,g,_,h=>by simp at h
 | x::l,0,g,hj,h=>by
  simp at h;subst h;unfold aZ at hj
  split at hj
  ·rename_i hx;exact hx.2
  ·omega
 | x::l,j+1,g,hj,h=>by
  refine sV l j g ?_ (by simpa using h);unfold aZ at hj
  split at hj
  ·rename_i hx;omega
  ·omega
theorem sW:∀(l:List Gly) (g:Gly),0<aZ l→l[aZ l-1]? =some g→g.1≠32
 | [],g,h,_=>by simp[aZ]at h
 | x::l,g,h,hg=>by
  by_cases hx:aZ l=0∧x.1=32
  ·have:aZ (x::l)=0:=by unfold aZ;rw[PZ hx]
   omega
  ·have e:aZ (x::l)=aZ l+1:=by conv=>lhs;unfold aZ;rw[PO hx]
   rw[e]at hg
   by_cases h0:aZ l=0
   ·rw[h0]at hg
    simp at hg;subst hg;exact fun h32=>hx ⟨h0,h32⟩
   ·have e2:aZ l+1-1=aZ l-1+1:=by omega
    rw[e2]at hg;exact sW l g (by omega) (by simpa using hg)
theorem oM {l:List Gly}{n:Nat}(hn:n≤l.length)(h1:∀j g,n≤j→l[j]? =some g→g.1=32)(h2:∀g,0<n→l[n-1]? =some g→g.1≠32):n=aZ l:=by
 have hl:=lS l
 by_cases h:n<aZ l
 ·exfalso
  have hlt:aZ l-1<l.length:=by omega
  have hg:l[aZ l-1]? =some l[aZ l-1]:=Pz hlt;exact sW l _ (by omega) hg (h1 _ _ (by omega) hg)
 ·by_cases h':aZ l<n
  ·exfalso
   have hlt:n-1<l.length:=by omega
   have hg:l[n-1]? =some l[n-1]:=Pz hlt;exact h2 _ (by omega) hg (sV l _ _ (by omega) hg)
  ·omega
def jL (l:List Gly):List Gly:=l.take (aZ l)
theorem qa (l:List Gly):(jL l).length=aZ l:=by
 unfold jL;rw[PW];have:=lS l;omega
theorem QTT {P:Prop}(h:P:=by
 have f1':=f1;simp only[R8,Int.natCast_one,Int.natCast_zero,Int.cast_ofNat_Int]at f1';clear s1 f1;go_wp2_with fail
 refine HC.out.mono ?_;rintro e w1 ⟨u,rfl,o1,b1⟩;have O1:Hid (aW wr.heap.size w1 u (jL l)):=zH (by unfold jL;rw[←HN.out];exact o1);clear o1 HC;go_wp2_with fail
 go_ret;exact⟨_,rfl,O1.out,b1⟩):P:=h
theorem sS (l:List Gly)(v:Value)(w:World)(hv:Gs w v l)(hl:l.length≤100000):
  Calls Tryz.prog 91 #[v] w fun e w'=> ∃u,e=.returned u∧aW w.heap.size w' u (jL l)∧Below w.heap.size w w':=by
 have HV:=zH hv;obtain⟨a,cap,rfl⟩:=hv.len;clear hv;go_enter Tryz.func91,Tryz.ntmps91
 go_wp2_with fail
 go_loopw [3] (fun s wr=> ∃n:Nat,n≤l.length∧s=.int .i64 n∧Hid (∀j g,n≤j→l[j]? =some g→g.1=32)∧wr=w) (fun s _=>(intOf s).toNat)
 case atStart=>exact⟨l.length,Px _,rfl,zH (fun j g hj hg=>by rw[RZ hj]at hg;cases hg),rfl⟩
 case round=>
  obtain⟨n,hn,rfl,HB,rfl⟩:=hrel
  by_cases h0:0<n
  ·obtain⟨m,rfl⟩:∃m,n=m+1:=⟨n-1,by omega⟩
   obtain⟨z,hz⟩:∃z,l[m]? =some z:=⟨l[m]'(by omega),Pz _⟩;obtain⟨g,off,rfl,c0,c1,-⟩:=Gs.at HV.out hz;have hi0:(m:Int)<(l.length:Int):=by omega
   have hi1:(0:Int)≤(m:Int):=by omega
   have HZ:=zH hz;clear hz c1
   by_cases h32:z.1=32
   ·have HN:Hid (∀j g,m≤j→l[j]? =some g→g.1=32):=zH (fun j g hj hg=>by
     by_cases e:j=m
     ·subst e
      rw[HZ.out]at hg;rw[←PT hg];exact h32
     ·exact HB.out j g (by omega) hg)
    go_wp2_with fail
    go_roundw
    case rel=>exact⟨m,by omega,by go_num,HN,by first | trivial | rfl⟩
    case measure=>(simp[intOf];try omega)
   ·have HN:Hid (m+1=aZ l):=zH (oM hn HB.out (fun g _ hg=>by
     rw[show m+1-1=m from rfl,HZ.out]at hg;rw[←PT hg];exact h32))
    obtain⟨u1,f1,s1,-⟩:=kZ HV.out (m+1) hn;have HC:=zH (fU (l.take (m+1)) u1 wr s1 (by rw[PW];omega));exact QTT
  ·obtain rfl:n=0:=by omega
   have HN:Hid (0=aZ l):=zH (oM hn HB.out (fun g h _=>absurd h (by omega)));obtain⟨u1,f1,s1,-⟩:=kZ HV.out 0 hn;have HC:=zH (fU (l.take 0) u1 wr s1 (by rw[PW];omega));exact QTT
end
section
open Go.RowKit
theorem wI:∀l:List Gly,jL l=trm l
 | []=>rfl
 | g::l=>by
  have ih:=wI l;have hn:aZ l=0↔trm l=[]:=by
   rw[←ih];unfold jL
   constructor
   ·intro h;rw[h];rfl
   ·intro h
    have:=lS l;have h2:(l.take (aZ l)).length=0:=by rw[h];rfl
    rw[PW]at h2;omega
  unfold jL;rw[ic]
  by_cases hc:aZ l=0∧g.1=32
  ·have e:aZ (g::l)=0:=by unfold aZ;rw[PZ hc]
   rw[e,PZ ⟨hn.1 hc.1,hc.2⟩];rfl
  ·have e:aZ (g::l)=aZ l+1:=by conv=>lhs;unfold aZ;rw[PO hc]
   rw[e,PO (fun h=>hc ⟨hn.2 h.1,h.2⟩)];show g::l.take (aZ l)=g::trm l;rw[←ih];rfl
def oo (b:Bool)(l:List Gly):Bool:=match l.getLast? with
 | none=>b
 | some g=>g.1 != 32
theorem qY (b:Bool)(g:Gly)(l:List Gly):oo b (g::l)=oo (g.1 != 32) l:=by
 unfold oo
 cases l with
 | nil=>rfl
 | cons x l=>
  rw[List.getLast?_cons_cons]
  cases h:(x::l).getLast? with
  | none=>simp at h
  | some y=>rfl
theorem mV:∀(b:Bool) (P Q:List Gly),sqA b (P++Q)=sqA b P++sqA (oo b (sqA b P)) Q
 | b,[],Q=>rfl
 | b,g::P,Q=>by
  rw[Qe]
  by_cases hg:g.1=32
  ·rw[jO b hg,jO b hg]
   cases b
   ·simpa using mV false P Q
   ·rw[PZ rfl,PZ rfl,mV false P Q,qY]
    rfl
  ·rw[iP b hg,iP b hg,mV true P Q,qY]
   have e:(g.1 != 32)=true:=by simpa using hg
   rw[e];rfl
attribute [local go_sem ↓ high] fB
end
section
def il (x:Int):List Value:=[.int .i64 x]
theorem Ha (x:Int):(il x).length=1:=rfl
end
section
def Fe (k:Int)(tl cl rl ql:Nat):Bool:=
 if 1≤k∧k≤3 then decide (0<tl) else if k=5 then decide (0<cl) else if k=6 then decide (0<rl) else k==4 || (k==7&&decide (0<ql))
end
section
end
section
open Go.RowKit
def aF (e:TypeId)(base:Nat)(W W':World):Prop:= ∀g cur fz,base≤g→W.heap[g]? =some (.cells cur e fz)→W'.heap[g]? =some (.cells cur e fz)
theorem aF.trans {e:TypeId}{base:Nat}{a b c:World}(h:aF e base a b)(k:aF e base b c):aF e base a c:=fun g cur fz hb hg=>k g cur fz hb (h g cur fz hb hg)
theorem aF.below {e:TypeId}{base:Nat}{W W':World}(h:Below W.heap.size W W'):aF e base W W':=fun g _ _ _ hg=>(h.block g (Py.1 hg).1).trans hg
theorem aF.grown {e e':TypeId}{base:Nat}{W W':World}{row:Option Nat}(h:W.grownBy W' row)(hr:∀g,row=some g→ ∃cur fz,W.heap[g]? =some (.cells cur e' fz))(he:e≠e'):aF e base W W':=by
 intro g cur fz _ hg;rw[h.block g (Py.1 hg).1 (fun e2=>by
  obtain⟨cur',fz',h2⟩:=hr g e2.symm;rw[hg]at h2;injection h2 with h2
  injection h2 with _ h3
  exact he h3)]
 exact hg
theorem aF.set {e e':TypeId}{base g:Nat}{W:World}{L:List Value}(hb:Blk W g e' L)(he:e≠e')(j:Nat)(v:Value):aF e base W (W.setCell ⟨g,j,none⟩ v):=by
 intro g2 cur fz _ hg;have hne:g2≠g:=fun e2=>by
  rw[e2]at hg;have h1:W.heap[g]? =some (.cells L.toArray e' (0,0)):=hb;rw[h1]at hg;injection hg with hg
  injection hg with _ h3
  exact he h3.symm
 rw[PN _ _ _ _ (fun e2=>hne e2)];exact hg
theorem ag.sam {α:Type}{e n:Nat}{f:α→List Value}{base:Nat}{W W':World}{x:Value}{l:List α}(h:ag e n f base W x l)(hs:aF e base W W'):ag e n f base W' x l:=by
 refine⟨h.1,?_⟩;rcases h.2 with hn | ⟨g,cap,cur,hx,hb,hgg,rest⟩
 ·exact .inl hn
 ·exact .inr ⟨g,cap,cur,hx,hb,hs g cur _ hb hgg,rest⟩
theorem Fg {α:Type}{P:Program}{W:World}{base t e n bytes:Nat}{f:α→List Value}{i0:TypeInfo}{z:Value}(hf:∀x,(f x).length=n)(h1:∀x,∀u∈f x,u.oneCell'=true)(hn:0<n)
  (ht:P.underlying t=some (.slice e)) (hi:P.info? e=some i0) (hz0:i0.zero=some z) (hz1:i0.size=n) (hz2:i0.bytes=bytes) (hzs:z.cells.size=n) (hbt:bytes≤1000)
  {x:Value} {l:List α} (h:ag e n f base W x l) (hb:base≤W.heap.size) (hl:l.length≤500000) (y:α):
  ∃a' c' w',(Builtin.append_ #[t,t] t #[x,.slice (some ⟨W.heap.size,0,none⟩) 1 1]).run P (W.alloc (.cells (f y).toArray e))=.ok (.slice a' (l.length+1) c') w'∧ag e n f base w' (.slice a' (l.length+1) c') (l++ [y])∧
   (W.alloc (.cells (f y).toArray e)).grownBy w' x.ownBlock∧(∀g,x.ownBlock=some g→ ∃cur fz,(W.alloc (.cells (f y).toArray e)).heap[g]? =some (.cells cur e fz)):=by
 have b1:=ae W (.cells (f y).toArray e);have hu:Fs n f (W.alloc (.cells (f y).toArray e)) (.slice (some ⟨W.heap.size,0,none⟩) 1 1) [y]:=by
  have:=dM hf W e [y];rw[dU]at this;exact this
 obtain⟨x',w',hr,ho,hg,-⟩:=lM hf h1 hn ht hi hz0 hz1 hz2 hzs hbt (h.keep b1) hu (PY hb b1.size) (by simp;omega);obtain⟨a',c',e'⟩:=(ag.sl hf ho).len;have e2:(l++ [y]).length=l.length+1:=by simp
 rw[e2]at e';subst e';refine⟨a',c',w',hr,ho,hg,fun g hg'=>?_⟩;obtain⟨-,cur,hc⟩:=(h.keep b1).ty hg';exact⟨cur,_,hc⟩
theorem mg:(Tryz.prog.info? 26).map (fun i=>(i.zero,i.size,i.bytes))=some (some (.slice none 0 0),1,24):=by kernel_rfl
theorem Dz:(Tryz.prog.info? 90).map (fun i=>(i.zero,i.size,i.bytes))=some (some (.agg #[.bool false,.slice none 0 0]),2,32):=by kernel_rfl
noncomputable def mJ (args:Array Value):Sem Next:=do pure (.value (←Builtin.append_ #[53,53] 53 args))
theorem fq (cs:Array Bool)(args:Array Value):builtin .append #[53,53] 53 cs args=mJ args:=rfl
noncomputable def appW (args:Array Value):Sem Next:=do pure (.value (←Builtin.append_ #[54,54] 54 args))
theorem gM (cs:Array Bool)(args:Array Value):builtin .append #[54,54] 54 cs args=appW args:=rfl
structure eY (base:Nat)(W:World)(v:Value)(l:List (List Gly)):Prop where
 own:∃(L:List PV) (S:Nat→Prop),ag 26 1 aJ base W v L∧L.length=l.length∧(∀b,S b→base≤b∧ ∃cur fz,W.heap[b]? =some (.cells cur 35 fz))∧
  ∀(i:Nat) s r,L[i]? =some s→l[i]? =some r→FsS S 2 aR W (pv s) r
theorem eY.nil (base:Nat)(W:World):eY base W (.slice none 0 0) []:=⟨⟨[],fun _=>False,ag.nil _ _,rfl,fun _ h=>h.elim,fun i s r h=>by simp at h⟩⟩
theorem eY.sam {base:Nat}{W W':World}{v:Value}{l:List (List Gly)}(h:eY base W v l)(h1:aF 26 base W W')(h2:aF 35 base W W'):eY base W' v l:=by
 obtain⟨L,S,hL,hl,hS,hE⟩:=h.own;have hk:Kp S W W':=fun b hb=>by
  obtain⟨q1,cur,fz,q2⟩:=hS b hb;rw[h2 b cur fz q1 q2,q2]
 exact⟨⟨L,S,hL.sam h1,hl,fun b hb=>by
  obtain⟨q1,cur,fz,q2⟩:=hS b hb;exact⟨q1,cur,fz,h2 b cur fz q1 q2⟩,fun i s r a b=>(hE i s r a b).keep hk⟩⟩
theorem eY.len {base:Nat}{W:World}{v:Value}{l:List (List Gly)}(h:eY base W v l):∃a cap,v=.slice a l.length cap:=by
 obtain⟨L,S,hL,hl,-,-⟩:=h.own;obtain⟨a,cap,e⟩:=(ag.sl aX hL).len;exact⟨a,cap,hl▸e⟩
theorem iX {α:Type}{e n:Nat}{f:α→List Value}{base:Nat}{W:World}{x:Value}{l:List α}(hf:∀x,(f x).length=n)(h:ag e n f base W x l):FsS (fun b=>base≤b∧ ∃cur fz,W.heap[b]? =some (.cells cur e fz)) n f W x l:=by
 refine⟨ag.sl hf h,fun a k c e1 hk=>?_⟩;subst e1;rcases h.2 with⟨hn,-⟩| ⟨g,cap,cur,hx,hb,hgg,-⟩
 ·injection hn with e1 e2 e3
  cases e1
 ·injection hx with e1 e2 e3
  injection e1 with e1
  subst e1;exact⟨⟨hb,cur,_,hgg⟩,fun _ i _=>by simp[World.frozen?,hgg]⟩
theorem eY.grs {base:Nat}{W:World}{v:Value}{l:List (List Gly)}(h:eY base W v l):
  GrS (fun b=>base≤b∧ ∃cur e fz,W.heap[b]? =some (.cells cur e fz)∧(e=26∨e=35)) W v l:=by
 obtain⟨L,S,hL,hl,hS,hE⟩:=h.own;refine⟨L,hl,(iX aX hL).mono fun b hb=>?_,fun i s r a b=>(hE i s r a b).mono fun x hx=>?_⟩
 ·obtain⟨q1,cur,fz,q2⟩:=hb
  exact⟨q1,cur,_,fz,q2,.inl rfl⟩
 ·obtain⟨q1,cur,fz,q2⟩:=hS x hx
  exact⟨q1,cur,_,fz,q2,.inr rfl⟩
theorem eY.push {base:Nat}{W:World}{v:Value}{l:List (List Gly)}(h:eY base W v l)(hb:base≤W.heap.size)(hl:l.length≤500000)(s:PV)(r:List Gly)(hs:FsS (fun b=>base≤b∧ ∃cur fz,W.heap[b]? =some (.cells cur 35 fz)) 2 aR W (pv s) r):
  ∃a' c' w',(mJ #[v,.slice (some ⟨W.heap.size,0,none⟩) 1 1]).run Tryz.prog (W.alloc (.cells #[pv s] 26))=.ok (.value (.slice a' (l.length+1) c')) w'∧eY base w' (.slice a' (l.length+1) c') (l++ [r])∧Below base W w'∧
   ∀e,e≠26→aF e base W w':=by
 obtain⟨L,S,hL,hLl,hS,hE⟩:=h.own;obtain⟨i0,hi,hz0,hz1,hz2⟩:=Ql mg;obtain⟨a',c',w',hr,ho,hg,hty⟩:=Fg (P:=Tryz.prog) (t:=53) aX jQ (by decide) Tryz.underlying53 hi hz0 hz1 hz2 rfl (by decide) hL hb (by omega) s;have b1:=ae W (.cells (aJ s).toArray 26);have sam:∀e,e≠26→aF e base W w':=fun e he=>(aF.below b1).trans (aF.grown hg hty he)
 have sg:=sam 35 (by decide);have kpw:∀(T:Nat→Prop),(∀b,T b→base≤b∧ ∃cur fz,W.heap[b]? =some (.cells cur 35 fz))→Kp T W w'∧ ∀b,T b→base≤b∧ ∃cur fz,w'.heap[b]? =some (.cells cur 35 fz):=fun T hT=>
  ⟨fun b hb=>by
   obtain⟨q1,cur,fz,q2⟩:=hT b hb;rw[sg b cur fz q1 q2,q2],fun b hb=>by
   obtain⟨q1,cur,fz,q2⟩:=hT b hb;exact⟨q1,cur,fz,sg b cur fz q1 q2⟩⟩
 obtain⟨k1,t1⟩:=kpw S hS;obtain⟨k2,t2⟩:=kpw _ (fun b hb=>hb);rw[hLl]at hr ho;refine⟨a',c',w',?_,⟨⟨L++ [s],fun b=>S b∨(base≤b∧ ∃cur fz,W.heap[b]? =some (.cells cur 35 fz)),ho,by simp[hLl],fun b hb=>?_,fun i x y hx hy=>?_⟩⟩,?_,sam⟩
 ·unfold mJ
  simp only[QD,QG,Qm];rw[show(#[pv s]:Array Value)=(aJ s).toArray from rfl,hr];rfl
 ·rcases hb with hb | hb
  ·exact t1 b hb
  ·exact t2 b hb
 ·by_cases hil:i<l.length
  ·rw[P7 (by omega)]at hx hy
   exact((hE i x y hx hy).keep k1).mono fun b hb=> .inl hb
  ·have:i=l.length:=by
    have:=(Pw.1 hy).1;simp at this;omega
   subst this;rw[P5 (by omega),hLl,Rs]at hx;rw[P5 (by omega),Rs]at hy;simp at hx hy;subst hx hy;exact(hs.keep k2).mono fun b hb=> .inr hb
 ·exact(hL.keep b1).below (b1.mono hb) (PY hb b1.size) hg
structure fV (base:Nat)(W:World)(v:Value)(l:List bT):Prop where
 own:∃(L:List (Bool×PV)) (S:Nat→Prop),ag 90 2 cz base W v L∧L.length=l.length∧(∀b,S b→base≤b∧ ∃cur e fz,W.heap[b]? =some (.cells cur e fz)∧(e=26∨e=35))∧
  ∀(i:Nat) s r,L[i]? =some s→l[i]? =some r→s.1=r.1∧GrS S W (pv s.2) r.2
theorem fV.nil (base:Nat)(W:World):fV base W (.slice none 0 0) []:=⟨⟨[],fun _=>False,ag.nil _ _,rfl,fun _ h=>h.elim,fun i s r h=>by simp at h⟩⟩
theorem fV.len {base:Nat}{W:World}{v:Value}{l:List bT}(h:fV base W v l):∃a cap,v=.slice a l.length cap:=by
 obtain⟨L,S,hL,hl,-,-⟩:=h.own;obtain⟨a,cap,e⟩:=(ag.sl dB hL).len;exact⟨a,cap,hl▸e⟩
theorem Dv {base:Nat}{W W':World}{S:Nat→Prop}(hS:∀b,S b→base≤b∧ ∃cur e fz,W.heap[b]? =some (.cells cur e fz)∧(e=26∨e=35))(h1:aF 26 base W W')(h2:aF 35 base W W'):
  Kp S W W'∧ ∀b,S b→base≤b∧ ∃cur e fz,W'.heap[b]? =some (.cells cur e fz)∧(e=26∨e=35):=by
 have key:∀b,S b→W'.heap[b]? =W.heap[b]? :=fun b hb=>by
  obtain⟨q1,cur,e,fz,q2,q3⟩:=hS b hb;rcases q3 with rfl | rfl
  ·rw[h1 b cur fz q1 q2,q2]
  ·rw[h2 b cur fz q1 q2,q2]
 refine⟨key,fun b hb=>?_⟩;obtain⟨q1,cur,e,fz,q2,q3⟩:=hS b hb;exact⟨q1,cur,e,fz,by rw[key b hb,q2],q3⟩
theorem fV.held {base:Nat}{W W':World}{v:Value}{l:List bT}(h:fV base W v l)(ho:∀L,ag 90 2 cz base W v L→ag 90 2 cz base W' v L)(h1:aF 26 base W W')(h2:aF 35 base W W'):fV base W' v l:=by
 obtain⟨L,S,hL,hl,hS,hE⟩:=h.own;obtain⟨k1,t1⟩:=Dv hS h1 h2;exact⟨⟨L,S,ho L hL,hl,t1,fun i s r a b=>⟨(hE i s r a b).1,(hE i s r a b).2.keep k1⟩⟩⟩
theorem fV.sam {base:Nat}{W W':World}{v:Value}{l:List bT}(h:fV base W v l)(h0:aF 90 base W W')(h1:aF 26 base W W')(h2:aF 35 base W W'):fV base W' v l:=h.held (fun L hL=>hL.sam h0) h1 h2
theorem fV.keep {base:Nat}{W W':World}{v:Value}{l:List bT}(h:fV base W v l)(hb:Below W.heap.size W W'):fV base W' v l:=h.sam (aF.below hb) (aF.below hb) (aF.below hb)
theorem fV.trs {base:Nat}{W:World}{v:Value}{l:List bT}(h:fV base W v l):TrS (fun b=>base≤b∧b<W.heap.size) W v l:=by
 obtain⟨L,S,hL,hl,hS,hE⟩:=h.own;refine⟨L,hl,(iX dB hL).mono fun b hb=>?_,fun i s r a b=>⟨(hE i s r a b).1,(hE i s r a b).2.mono fun x hx=>?_⟩⟩
 ·obtain⟨q1,cur,fz,q2⟩:=hb
  exact⟨q1,(Py.1 q2).1⟩
 ·obtain⟨q1,cur,e,fz,q2,-⟩:=hS x hx
  exact⟨q1,(Py.1 q2).1⟩
theorem fV.push {base:Nat}{W:World}{v:Value}{l:List bT}(h:fV base W v l)(hb:base≤W.heap.size)(hl:l.length≤500000)(b:Bool)(s:PV)(r:List (List Gly))
  (hs:GrS (fun b=>base≤b∧ ∃cur e fz,W.heap[b]? =some (.cells cur e fz)∧(e=26∨e=35)) W (pv s) r):
  ∃a' c' w',(appW #[v,.slice (some ⟨W.heap.size,0,none⟩) 1 1]).run Tryz.prog (W.alloc (.cells #[.bool b,pv s] 90))=.ok (.value (.slice a' (l.length+1) c')) w'∧fV base w' (.slice a' (l.length+1) c') (l++ [(b,r)])∧Below base W w'∧
   ∀e,e≠90→aF e base W w':=by
 obtain⟨L,S,hL,hLl,hS,hE⟩:=h.own;obtain⟨i0,hi,hz0,hz1,hz2⟩:=Ql Dz;obtain⟨a',c',w',hr,ho,hg,hty⟩:=Fg (P:=Tryz.prog) (t:=54) dB nS (by decide) Tryz.underlying54 hi hz0 hz1 hz2 rfl (by decide) hL hb (by omega) (b,s);have b1:=ae W (.cells (cz (b,s)).toArray 90);have sam:∀e,e≠90→aF e base W w':=fun e he=>(aF.below b1).trans (aF.grown hg hty he)
 obtain⟨k1,t1⟩:=Dv hS (sam _ (by decide)) (sam _ (by decide));obtain⟨k2,t2⟩:=Dv (S:=fun b=>base≤b∧ ∃cur e fz,W.heap[b]? =some (.cells cur e fz)∧(e=26∨e=35)) (fun b hb=>hb) (sam _ (by decide)) (sam _ (by decide));rw[hLl]at hr ho;refine⟨a',c',w',?_,⟨⟨L++ [(b,s)],fun b=>S b∨(base≤b∧ ∃cur e fz,W.heap[b]? =some (.cells cur e fz)∧(e=26∨e=35)),ho,by simp[hLl],fun b hb=>?_,fun i x y hx hy=>?_⟩⟩,?_,sam⟩
 ·unfold appW
  simp only[QD,QG,Qm];rw[show(#[.bool b,pv s]:Array Value)=(cz (b,s)).toArray from rfl,hr];rfl
 ·rcases hb with hb | hb
  ·exact t1 b hb
  ·exact t2 b hb
 ·by_cases hil:i<l.length
  ·rw[P7 (by omega)]at hx hy
   exact⟨(hE i x y hx hy).1,((hE i x y hx hy).2.keep k1).mono fun b hb=> .inl hb⟩
  ·have:i=l.length:=by
    have:=(Pw.1 hy).1;simp at this;omega
   subst this;rw[P5 (by omega),hLl,Rs]at hx;rw[P5 (by omega),Rs]at hy;simp at hx hy;subst hx hy;exact⟨rfl,(hs.keep k2).mono fun b hb=> .inr hb⟩
 ·exact(hL.keep b1).below (b1.mono hb) (PY hb b1.size) hg
end
section
attribute [local go_sem ↓ high] iT gW fq gM
theorem Blk.sam {W W':World}{g e base:Nat}{L:List Value}(h:Blk W g e L)(hb:base≤g)(hs:aF e base W W'):Blk W' g e L:=hs g _ _ hb h
theorem Blk.other {W:World}{g e g':Nat}{L:List Value}(h:Blk W g e L)(hne:g≠g')(j:Nat)(v:Value):Blk (W.setCell ⟨g',j,none⟩ v) g e L:=by
 show(W.setCell ⟨g',j,none⟩ v).heap[g]? =_;rw[PN _ _ _ _ (fun e2=>hne e2)];exact h
section
variable {w W W':World}{cols C:List UInt8}{rv v:Value}{gb ga al:Bool}{rows:List bT}
end
section
variable {wo W W':World}{x:Bool}{v:Value}{cells:List (List Gly)}
end
def sd (l:List UInt8):List UInt8:=(l.filter side).take 20
end
section
attribute [local go_sem ↓ high] iT gW fq gM
end
section
open Go.RowKit
noncomputable def mnS (args:Array Value):Sem Next:=do pure (.value (←Builtin.min_ #[3,3] 3 args))
theorem mG (cs:Array Bool)(args:Array Value):builtin .min #[3,3] 3 cs args=mnS args:=rfl
theorem yM (x y z:Int)(hz:(if y<x then y else x)=z)(w:World):(mnS #[.int .i64 x,.int .i64 y]).run Tryz.prog w=.ok (.value (.int .i64 z)) w:=by
 unfold mnS;simp only[QD,QG,run_min_int2,Qm,hz]
def zNd:List Value:=[.int .i64 0,.int .i64 0,.int .i64 0,.slice none 0 0,.slice none 0 0,.slice none 0 0,.string ⟨#[]⟩,.slice none 0 0,.bool false,.bool false]
section
variable {w W W':World}{x y y':NV}
end
def iH (W:World)(g:Nat)(x:NV):World:=
 ((((((((((W.setCell ⟨g,0,none⟩ (.int .i64 x.kind)).setCell ⟨g,1,none⟩ (.int .i64 x.line)).setCell ⟨g,2,none⟩ (.int .i64 x.n)).setCell ⟨g,3,none⟩ (pv x.text)).setCell ⟨g,4,none⟩ (pv x.kids)).setCell ⟨g,5,none⟩ (pv x.rows)).setCell ⟨g,6,none⟩ (.string ⟨x.cols.toArray⟩)).setCell ⟨g,7,none⟩ (pv x.trows)).setCell ⟨g,8,none⟩ (.bool x.box)).setCell ⟨g,9,none⟩ (.bool x.all))
theorem Cx (W:World)(g:Nat)(x:NV){k:Nat}(h:k≠g):(iH W g x).heap[k]? =W.heap[k]? :=by
 unfold iH;simp only[PN _ (⟨g,_,none⟩:Addr) _ k h]
theorem Cw (W:World)(g:Nat)(x:NV):(iH W g x).heap.size=W.heap.size:=by simp[iH,World.setCell]
theorem FZ {W:World}{g:Nat}{e:TypeId}{a0 a1 a2 a3 a4 a5 a6 a7 a8 a9:Value}(h:Blk W g e [a0,a1,a2,a3,a4,a5,a6,a7,a8,a9])(x:NV):Blk (iH W g x) g e (af x):=
 (((((((((h.set 0 _).set 1 _).set 2 _).set 3 _).set 4 _).set 5 _).set 6 _).set 7 _).set 8 _).set 9 _
theorem Af {D:Nat}{a W:World}(h:Below D a W){g:Nat}(hg:D≤g)(x:NV):Below D a (iH W g x):=
 (((((((((h.setCell hg _).setCell hg _).setCell hg _).setCell hg _).setCell hg _).setCell hg _).setCell hg _).setCell hg _).setCell hg _).setCell hg _
end
section
attribute [local go_sem ↓ high] iy mG
theorem gH (W:World)(a:Addr)(v:Value):(W.setCell a v).heap.size=W.heap.size:=by simp[World.setCell]
end
section
open Go.RowKit
theorem kY:(Tryz.prog.info? 58).map (fun i=>(i.zero,i.size,i.bytes))=some (some (.agg zNd.toArray),10,144):=by kernel_rfl
noncomputable def zD (args:Array Value):Sem Next:=do pure (.value (←Builtin.append_ #[36,36] 36 args))
theorem fA (cs:Array Bool)(args:Array Value):builtin .append #[36,36] 36 cs args=zD args:=rfl
theorem NsS.atR {S:Nat→Prop}{w:World}{a:Option Addr}{k cap:Nat}{l:List Nd}(h:NsS S w (.slice a k cap) l){j:Nat}{y:Nd}(hy:l[j]? =some y):
  ∃g off x,a=some ⟨g,off,none⟩∧S g∧(∀(i:Nat) c,(af x)[i]? =some c→w.cell? ⟨g,off+j*10+i,none⟩=some c)∧df S w x y.hd∧NsS S w (pv x.kids) y.kids:=by
 cases h with
 | mk _ _ L hl hs hh hk=>
  obtain⟨x,hx⟩:∃x,L[j]? =some x:=⟨L[j]'(by have:=(Pw.1 hy).1;omega),Pz _⟩;obtain⟨g,off,e,hg,hc⟩:=hs.at hx;exact⟨g,off,x,e,hg,fun i c hi=>by rw[Nat.add_assoc];exact hc i c hi,hh j x y hx hy,hk j x y hx hy⟩
structure dN (SI:Nat→Prop)(base:Nat)(W:World)(v:Value)(l:List Nd):Prop where
 lt:∀b,SI b→b<base
 sz:base≤W.heap.size
 own:∃(L:List NV) (S:Nat→Prop),ag 58 10 af base W v L∧L.length=l.length∧(∀b,S b→SI b∨(base≤b∧b<W.heap.size∧v.ownBlock≠some b))∧
  ∀(i:Nat) x y,L[i]? =some x→l[i]? =some y→df S W x y.hd∧NsS S W (pv x.kids) y.kids
section
variable {SI:Nat→Prop}{base:Nat}{W W':World}{v:Value}{l:List Nd}
theorem dN.nil (h1:∀b,SI b→b<base)(h2:base≤W.heap.size):dN SI base W (.slice none 0 0) []:=
 ⟨h1,h2,⟨[],fun _=>False,ag.nil _ _,rfl,fun _ h=>h.elim,fun i x y h=>by simp at h⟩⟩
theorem dN.len (h:dN SI base W v l):∃a cap,v=.slice a l.length cap:=by
 obtain⟨L,S,hL,hl,-,-⟩:=h.own;obtain⟨a,cap,e⟩:=(ag.sl ay hL).len;exact⟨a,cap,hl▸e⟩
theorem dN.keep (h:dN SI base W v l)(hb:Below W.heap.size W W'):dN SI base W' v l:=by
 obtain⟨L,S,hL,hl,hS,hE⟩:=h.own;have hk:Kp S W W':=fun b hb'=>hb.block b (by
  rcases hS b hb' with q | q
  ·exact PH (h.lt b q) h.sz
  ·exact q.2.1)
 refine⟨h.lt,PY h.sz hb.size,⟨L,S,hL.keep hb,hl,fun b hb'=>?_,fun i x y a c=>⟨(hE i x y a c).1.keep hk,(hE i x y a c).2.keep hk⟩⟩⟩;rcases hS b hb' with q | q
 ·exact .inl q
 ·exact .inr ⟨q.1,PH q.2.1 hb.size,q.2.2⟩
theorem dN.nss (h:dN SI base W v l):NsS (fun b=>SI b∨(base≤b∧b<W.heap.size)) W v l:=by
 obtain⟨L,S,hL,hl,hS,hE⟩:=h.own;have hm:∀b,S b→SI b∨(base≤b∧b<W.heap.size):=fun b hb=>(hS b hb).imp id fun q=>⟨q.1,q.2.1⟩
 refine .mk _ _ L hl ((iX ay hL).mono fun b hb=> .inr ⟨hb.1,?_⟩) (fun i x y a c=>(hE i x y a c).1.mono hm) (fun i x y a c=>(hE i x y a c).2.mono hm);obtain⟨-,cur,fz,hc⟩:=hb;exact(Py.1 hc).1
end
end
section
theorem NK {α:Type}{n:Nat}{f:α→List Value}{w:World}{s:PV}{l:List α}(h:Fs n f w (pv s) l):s.2.1=l.length:=by
 obtain⟨a,c,e⟩:=h.len;rw[oQ e]
theorem full_of {S:Nat→Prop}{w:World}{x:NV}{h:Hd}(hh:df S w x h)(c:Nat):Fe x.kind x.text.2.1 c x.rows.2.1 x.trows.2.1=bY h (decide (0<c)):=by
 have e1:=NK hh.text.1;obtain⟨a2,c2,e2⟩:=hh.rows.len;obtain⟨a3,c3,e3⟩:=hh.trows.len;rw[e1,oQ e2,oQ e3,hh.kind];simp only;unfold Fe bY;have p:∀{α:Type} (l:List α),decide (0<l.length)=decide (l≠ []):=fun l=>by
  cases l<;>simp
 rw[p,p,p]
theorem J4 {α:Type}(l:List α):decide (0<l.length)=ow l:=by cases l<;>simp[ow]
structure TS (wo:World)(x:NV)(gy:Nat)(y:NV)(W:World):Prop where
 bel:Below wo.heap.size wo W
 bx:Blk W wo.heap.size 58 (af x)
 by':Blk W gy 58 (af y)
 lt:wo.heap.size<gy
theorem DU {h:Hd}(hk:h.kind=4)(b:Bool):bY h b=true:=by unfold bY;rw[hk];rfl
end
section
structure TR (SI:Nat→Prop)(base:Nat)(wo:World)(x:NV)(gy:Nat)(y:NV)(hy:Hd)(W:World):Prop where
 ts:TS wo x gy y W
 hd:df (fun b=>SI b∨(wo.heap.size<b∧b<gy)) W y hy
 lt:∀b,SI b→b<base
 le:base≤wo.heap.size
section
variable {SI:Nat→Prop}{base gy:Nat}{wo W W':World}{x y:NV}{hy:Hd}{v:Value}{l:List Nd}
end
end
def btl (t:Bt):Nat:=nlL t.kids+nlL t.opn+t.text.length
theorem NN (y x:Nd):nlN (kH y x)=nlN y+nlN x:=by
 cases y
 simp only[kH,nlN,Nd.hd,Nd.kids,gJ,nlL];omega
theorem zz (t:Bt)(x:Nd):btl (jh t x)=btl t+nlN x:=by
 rcases dG t.opn with h | ⟨l,y,h⟩
 ·rw[jb x h]
  simp only[btl,gJ,nlL];omega
 ·rw[ja x h]
  unfold btl;simp only;rw[h,gJ,gJ];simp only[nlL,NN];omega
theorem sF (t:Bt):btl (jg t)=btl t:=by
 rcases dG t.opn with h | ⟨l,x,h⟩
 ·rw[oV h]
 ·rw[lW h,zz]
  unfold btl;simp only;rw[h,gJ];simp only[nlL];omega
theorem L9 (t:Bt):nlN (lG t)=3+t.text.length:=by simp[lG,nlN,hdl,nlL,bS,lens,cZ]
theorem fD (t:Bt):btl (bM t)≤btl t+3:=by
 unfold bM
 split
 ·unfold btl mI
  simp only[PQ];omega
 ·have h:=zz t (lG t)
  rw[L9]at h;have e:btl (mI (jh t (lG t)))+(jh t (lG t)).text.length=btl (jh t (lG t)):=by
   unfold btl mI;simp only[PQ];omega
  have e2:(jh t (lG t)).text=t.text:=(qy t _).2.1;rw[e2]at e;omega
theorem qz (a b:List Gly):(jn a b).length≤a.length+b.length+1:=by
 unfold jn
 split
 ·omega
 ·split
  ·omega
  ·simp;omega
theorem Ky (t:Bt)(l:List Gly)(i:Int):btl (iA t l i)≤btl t+l.length+1:=by
 have:=qz t.text l;unfold btl iA;simp only;omega
theorem KA (t:Bt)(x:Nd):btl (rE t x)≤btl t+3+nlN x:=by
 have:=fD t;unfold rE btl at*;simp only[gJ,nlL]at*;omega
theorem pX (t:Bt)(x:Nd):btl (qI t x)≤btl t+3+nlN x:=by
 have:=fD t;unfold qI;rw[zz];omega
theorem vI (K:List Int):∀(n:Nat) (t:Bt),btl (lY K n t)=btl t
 | 0,t=>rfl
 | n+1,t=>by
  unfold lY
  split
  ·rfl
  ·split
   ·rw[vI K n,sF]
   ·rfl
theorem xH (k:Int):∀(n:Nat) (t:Bt),btl (qU k n t)=btl t
 | 0,t=>rfl
 | n+1,t=>by
  unfold qU
  split
  ·rfl
  ·split
   ·exact sF t
   ·rw[xH k n,sF]
theorem jW (t:Bt)(K:List Int):btl (aK t K)≤btl t+3:=by unfold aK;rw[vI];exact fD t
theorem Ih (t:Bt)(k:Int):btl (dm t k).1≤btl t+3:=by
 unfold dm
 split
 ·rw[xH];exact fD t
 ·exact fD t
theorem ES:∀l:List Nd,nlL (nL l)=nlL l
 | []=>rfl
 | y::r=>by
  have:=ES r
  cases y
  simp only[nL,nlL,nlN,Nd.hd,Nd.kids,gJ];omega
theorem MU (t:Bt):nlL (jY t)≤btl t:=by
 unfold jY btl;rw[gJ,ES];omega
section
open Go.RowKit
attribute [local go_sem ↓ high] fA
theorem kt1 {k m:Int}(h1:k=1∨k=2)(h:stands k m=true):aN k m=k:=by unfold aN;rw[PO];rw[h];simp
theorem kt3 {k m:Int}(h1:k=1∨k=2)(h:stands k m=false):aN k m=3:=by unfold aN;rw[PZ ⟨h1,h⟩]
theorem kt0 {k m:Int}(h1:¬k=1)(h2:¬k=2):aN k m=k:=by unfold aN;rw[PO];omega
end
section
end
section
theorem xJ (w:World)(a b:Obj):Below w.heap.size w ((w.alloc a).alloc b):=((PG _ w).alloc (Px _) _).alloc (by simp) _
theorem vK (w:World)(a:Obj)(L:List Value)(e:TypeId):Blk ((w.alloc a).alloc (.cells L.toArray e)) (w.heap.size+1) e L:=by
 have:=PK (w.alloc a) (.cells L.toArray e);have e1:(w.alloc a).heap.size=w.heap.size+1:=by simp
 rw[e1]at this;exact this
noncomputable def Oq (args:Array Value):Sem Next:=do pure (.value (←Builtin.append_ #[26,3] 26 args))
theorem zx (cs:Array Bool)(args:Array Value):builtin .append #[26,3] 26 cs args=Oq args:=rfl
theorem uY (a:Option Addr)(l c:Nat)(W:World):(qC (.slice a l c) (.int .i64 0)).run Tryz.prog W=.ok (.slice a 0 c) W:=by
 obtain⟨i0,hi,hz0,hz1,hz2⟩:=Ql uR;unfold qC;simp[Instr.slice,Instr.sliceBounds,Instr.sliceBound,asIntOf,QB Tryz.underlying26,sizeOf,typeInfo,hi];intro _
 cases a<;>rfl
theorem KV (W:World)(n:Nat)(h0:0<n)(hn:n≤1000000):∃G C,n≤G∧G≤maxLen∧C.size=G*2∧(Oq #[.slice none 0 0,.int .i64 (n:Int)]).run Tryz.prog W=.ok (.value (.slice (some ⟨W.heap.size,0,none⟩) n G)) (W.drew.alloc (.cells C 35)):=by
 obtain⟨i0,hi,hz0,hz1,hz2⟩:=Ql uR;have h:=Lib.run_append_grow_zeros (P:=Tryz.prog) W 26 3 26 35 i0 _ .i64 .i64 Tryz.underlying26 Tryz.underlying3 hi hz0 none 0 0 [] (run_firstCells_none _ _ _ _ _) n h0 (by rw[hz1];decide) (by omega) (by omega) (by rw[hz2];omega) (growslice_fits (by omega) (by rw[hz2];omega));have hg:=grownCap_ge W (0+n) 0 35;have hm:=grownCap_le_maxLen W (0+n) 0 35 (by unfold maxLen;omega);simp only[Ra]at h hg hm;have e:(Value.agg #[Value.int .i32 0,Value.int .u8 0]).cells= #[.int .i32 0,.int .u8 0]:=rfl;rw[e]at h;obtain⟨C,hC⟩:∃C,([]:List Value).toArray++Builtin.zeroCells #[Value.int .i32 0,.int .u8 0] n++Builtin.zeroCells #[Value.int .i32 0,.int .u8 0] (grownCap W n 0 35-n)=C:=⟨_,rfl⟩;rw[hC]at h;refine⟨grownCap W n 0 35,C,hg,hm,?_,?_⟩
 ·rw[←hC]
  simp[Builtin.zeroCells];omega
 ·unfold Oq
  simp only[QD,QG,Qm,h]
attribute [local go_sem ↓ high] gI zx
theorem J5 (n:Nat)(hn:n≤1000000)(w:World):
  Calls Tryz.prog 193 #[.slice none 0 0,.int .i64 (n:Int)] w fun e w'=> ∃u,e=.returned u∧aW w.heap.size w' u []∧Below w.heap.size w w':=by
 by_cases h0:n=0
 ·subst h0
  go_enter Tryz.func193,Tryz.ntmps193
  go_wp2_with fail
  go_ret;exact⟨_,rfl,ag.nil _ _,PG _ _⟩
 ·have hp:(0:Int)<(n:Int):=by omega
  have hn0:(n:Int)≤1000000:=by omega
  obtain⟨G,C,hG,hGm,hC,k1⟩:=KV w n (by omega) hn;have f1:∀W:World,(qC (.slice none 0 0) (.int .i64 0)).run Tryz.prog W=.ok (.slice none 0 0) W:=fun W=>uY none 0 0 W
  have f2:∀W:World,(qC (.slice (some ⟨w.heap.size,0,none⟩) n G) (.int .i64 0)).run Tryz.prog W=.ok (.slice (some ⟨w.heap.size,0,none⟩) 0 G) W:=fun W=>uY _ n G W
  have HO:Hid (aW w.heap.size (w.drew.alloc (.cells C 35)) (.slice (some ⟨w.heap.size,0,none⟩) 0 G) []):=zH (World.ownsRow_made w.drew C G (Px _) hGm hC);have HB:=zH ((PG w.heap.size w).drew.alloc (Px _) (.cells C 35));clear h0 hG hGm hC;go_enter Tryz.func193,Tryz.ntmps193
  go_wp2_with fail
  go_ret;exact⟨_,rfl,HO.out,HB.out⟩
attribute [local go_sem ↓ high] fB
theorem BD (a b c:List Gly)(v1 v2 v3:Value)(g:Nat)(w:World)(c0:w.cell? ⟨g,0,none⟩=some v1)(c1:w.cell? ⟨g,1,none⟩=some v2)(c2:w.cell? ⟨g,2,none⟩=some v3)(h1:Gs w v1 a)(h2:Gs w v2 b)(h3:Gs w v3 c)(hl:a.length+b.length+c.length≤400000):
  Calls Tryz.prog 155 #[.slice (some ⟨g,0,none⟩) 3 3] w fun e w'=> ∃u,e=.returned u∧aW w.heap.size w' u (a++b++c)∧Below w.heap.size w w':=by
 have H1:=zH h1;have H2:=zH h2;have H3:=zH h3;obtain⟨a1,k1,rfl⟩:=h1.len;obtain⟨a2,k2,rfl⟩:=h2.len;obtain⟨a3,k3,rfl⟩:=h3.len;have hg:=PX w _ c0;simp only at hg;have HG:=zH (J5 (a.length+b.length+c.length) (by omega));have ha0:(0:Int)≤(a.length:Int):=by omega
 have ha1:(a.length:Int)≤400000:=by omega
 have hb0:(0:Int)≤(b.length:Int):=by omega
 have hb1:(b.length:Int)≤400000:=by omega
 have hc0:(0:Int)≤(c.length:Int):=by omega
 have hc1:(c.length:Int)≤400000:=by omega
 clear h1 h2 h3;go_enter Tryz.func155,Tryz.ntmps155
 go_wp2_with fail
 go_loopw [3,11] (fun s i wr=>wr=w∧((i=.int .i64 0∧s=.int .i64 0)∨(i=.int .i64 1∧s=.int .i64 (a.length:Int))∨(i=.int .i64 2∧s=.int .i64 ((a.length:Int)+(b.length:Int)))∨(i=.int .i64 3∧s=.int .i64 ((a.length:Int)+(b.length:Int)+(c.length:Int))))) (fun _ i _=>4-(intOf i).toNat)
 case atStart=>exact⟨rfl,.inl ⟨rfl,rfl⟩⟩
 case round=>
  obtain⟨rfl,hcase⟩:=hrel;rcases hcase with⟨rfl,rfl⟩| ⟨rfl,rfl⟩| ⟨rfl,rfl⟩| ⟨rfl,rfl⟩
  ·go_wp2_with fail
   go_roundw
   case rel=>exact⟨by first | trivial | rfl,.inr (.inl ⟨by first | trivial | rfl,by first | trivial | rfl⟩)⟩
   case measure=>simp[intOf]
  ·go_wp2_with fail
   go_roundw
   case rel=>exact⟨by first | trivial | rfl,.inr (.inr (.inl ⟨by first | trivial | rfl,by first | trivial | rfl⟩))⟩
   case measure=>simp[intOf]
  ·go_wp2_with fail
   go_roundw
   case rel=>exact⟨by first | trivial | rfl,.inr (.inr (.inr ⟨by first | trivial | rfl,by first | trivial | rfl⟩))⟩
   case measure=>simp[intOf]
  ·go_wp2_with fail
   refine(HG.out _).mono ?_;rintro e w1 ⟨u,rfl,o1,b1⟩;have z1:=b1.size;have q0:=(b1.cell (p:=⟨g,0,none⟩) hg).trans c0;have q1:=(b1.cell (p:=⟨g,1,none⟩) hg).trans c1;have q2:=(b1.cell (p:=⟨g,2,none⟩) hg).trans c2;obtain⟨x1,w2,j1,o2,g2,-⟩:=eX o1 (Fs.below H1.out b1) z1 (by simp;omega);rw[Qt]at o2;have b2:=o1.below b1 z1 g2;obtain⟨x2,w3,j2,o3,g3,-⟩:=eX o2 (Fs.below H2.out b2) b2.size (by omega);have b3:=o2.below b2 b2.size g3;obtain⟨x3,w4,j3,o4,g4,-⟩:=eX o3 (Fs.below H3.out b3) b3.size (by rw[PL];omega);have O4:=zH o4;have B4:=zH (o3.below b3 b3.size g4);have r0:=(b2.cell (p:=⟨g,0,none⟩) hg).trans c0;have r1:=(b2.cell (p:=⟨g,1,none⟩) hg).trans c1;have r2:=(b2.cell (p:=⟨g,2,none⟩) hg).trans c2;have s0:=(b3.cell (p:=⟨g,0,none⟩) hg).trans c0;have s1:=(b3.cell (p:=⟨g,1,none⟩) hg).trans c1;have s2:=(b3.cell (p:=⟨g,2,none⟩) hg).trans c2;clear o1 b1 o2 g2 b2 o3 g3 o4 g4 b3 HG;go_wp2_with fail
   go_loopw [6,27] (fun s i wr=>(i=.int .i64 0∧s=u∧wr=w1)∨(i=.int .i64 1∧s=x1∧wr=w2)∨(i=.int .i64 2∧s=x2∧wr=w3)∨(i=.int .i64 3∧s=x3∧wr=w4)) (fun _ i _=>4-(intOf i).toNat)
   case atStart=>exact .inl ⟨rfl,rfl,rfl⟩
   case round=>
    rcases hrel with⟨rfl,rfl,rfl⟩| ⟨rfl,rfl,rfl⟩| ⟨rfl,rfl,rfl⟩| ⟨rfl,rfl,rfl⟩
    ·go_wp2_with fail
     go_roundw
     case rel=>exact .inr (.inl ⟨by first | trivial | rfl,by first | trivial | rfl,by first | trivial | rfl⟩)
     case measure=>simp[intOf]
    ·go_wp2_with fail
     go_roundw
     case rel=>exact .inr (.inr (.inl ⟨by first | trivial | rfl,by first | trivial | rfl,by first | trivial | rfl⟩))
     case measure=>simp[intOf]
    ·go_wp2_with fail
     go_roundw
     case rel=>exact .inr (.inr (.inr ⟨by first | trivial | rfl,by first | trivial | rfl,by first | trivial | rfl⟩))
     case measure=>simp[intOf]
    ·go_wp2_with fail
     go_ret;exact⟨_,rfl,O4.out,B4.out⟩
theorem yX (a:List Gly):jn [] a=a:=rfl
theorem kU (a:List Gly):jn a []=a:=by
 unfold jn
 split
 ·rename_i h;rw[h]
 ·rfl
theorem NY (a b:List Gly):(jn a b).length=a.length+b.length+(if a=[]∨b=[] then 0 else 1):=by
 unfold jn
 by_cases ha:a=[]
 ·simp[ha]
 ·by_cases hb:b=[]
  ·simp[ha,hb]
  ·simp[ha,hb];omega
theorem JQ (a b c:List Gly):jn (jn a b) c=jn a (jn b c):=by
 by_cases ha:a=[]
 ·rw[ha,yX,yX]
 ·by_cases hb:b=[]
  ·rw[hb,yX,kU]
  ·by_cases hc:c=[]
   ·rw[hc,kU,kU]
   ·unfold jn
    rw[PO ha,PO hb,PO (by simp),PO hc,PO hb,PO ha,PO hc,PO (by simp)];simp
theorem QTU {P:Prop}(h:P:=by
 simp only[PQ];go_enter Tryz.func127,Tryz.ntmps127
 go_wp2_with fail
 refine HC.out.mono ?_;rintro e w1 ⟨x,rfl,o1,b1⟩;have O1:=zH o1;have B1:=zH b1;clear o1 b1 HC;go_wp2_with fail
 go_ret;exact⟨_,rfl,O1.out,B1.out⟩):P:=h
theorem qf (a b:List Gly)(v u:Value)(w:World)(hv:Gs w v a)(hu:Gs w u b)(hl:a.length+b.length≤100000):
  Calls Tryz.prog 127 #[v,u] w fun e w'=> ∃x,e=.returned x∧aW w.heap.size w' x (jn a b)∧Below w.heap.size w w':=by
 obtain⟨aa,ca,rfl⟩:=hv.len;obtain⟨ab,cb,rfl⟩:=hu.len
 by_cases ha:a=[]
 ·have e:jn a b=b:=by rw[ha];rfl
  rw[e];have HC:=zH (fU b _ w hu (by omega));subst ha;clear hv hu e;exact QTU
 ·have hal:0<a.length:=Qp.2 ha
  have ha0:¬(a.length:Int)=0:=by omega
  by_cases hb:b=[]
  ·have e:jn a b=a:=by rw[hb];exact kU a
   rw[e];have HC:=zH (fU a _ w hv (by omega));subst hb;clear hv hu e ha hal;exact QTU
  ·have hbl:0<b.length:=Qp.2 hb
   have hb0:¬(b.length:Int)=0:=by omega
   have e:jn a b=a++ [(32,0)]++b:=by unfold jn;rw[PO ha,PO hb]
   rw[e];have bl:=ae w (.cells #[.int .i32 32,.int .u8 0] 35);have g2:Gs (w.alloc (.cells #[.int .i32 32,.int .u8 0] 35)) (.slice (some ⟨w.heap.size,0,none⟩) 1 1) [(32,0)]:=dM ah w 35 [(32,0)];have bl2:=ae (w.alloc (.cells #[.int .i32 32,.int .u8 0] 35)) (.cells #[.slice aa a.length ca,.slice (some ⟨w.heap.size,0,none⟩) 1 1,.slice ab b.length cb] 26);have hbk:Blk ((w.alloc (.cells #[.int .i32 32,.int .u8 0] 35)).alloc (.cells #[.slice aa a.length ca,.slice (some ⟨w.heap.size,0,none⟩) 1 1,.slice ab b.length cb] 26)) (w.heap.size+1) 26 [.slice aa a.length ca,.slice (some ⟨w.heap.size,0,none⟩) 1 1,.slice ab b.length cb]:=vK w _ [.slice aa a.length ca,.slice (some ⟨w.heap.size,0,none⟩) 1 1,.slice ab b.length cb] _;have hb2:=xJ w (.cells #[.int .i32 32,.int .u8 0] 35) (.cells #[.slice aa a.length ca,.slice (some ⟨w.heap.size,0,none⟩) 1 1,.slice ab b.length cb] 26);have HC:=zH (BD a [(32,0)] b _ _ _ (w.heap.size+1) _ (hbk.cell 0) (hbk.cell 1) (hbk.cell 2) (Fs.below hv hb2) (Fs.below g2 bl2) (Fs.below hu hb2) (by simp;omega));have HB:=zH hb2;clear hv hu e ha hal hb hbl bl g2 bl2 hbk hb2;go_enter Tryz.func127,Tryz.ntmps127
   go_wp2_with fail
   refine HC.out.mono ?_;rintro e w1 ⟨x,rfl,o1,b1⟩;have O1:=zH (ag.mono (base':=w.heap.size) o1 HB.out.size);have B1:=zH (HB.out.trans (b1.mono HB.out.size));clear o1 b1 HC;go_wp2_with fail
   go_ret;exact⟨_,rfl,O1.out,B1.out⟩
end
section
def MK (l:List Gly):Bool:=match l.getLast? with
 | none=>false
 | some g=>g.1==32
def due (l:List Gly):Bool:=MK l&& !(sqz l).isEmpty
theorem nu (l:List Gly)(g:Gly):MK (l++ [g])=(g.1==32):=by simp[MK]
theorem wJ {g:Gly}(h:g.1=32):∀l:List Gly,trm (l++ [g])=trm l
 | []=>by simp[trm,h]
 | x::l=>by
  rw[Qe,ic,wJ h l,ic]
theorem p9 {g:Gly}(h:g.1≠32):∀l:List Gly,trm (l++ [g])=l++ [g]
 | []=>by simp[trm,h]
 | x::l=>by
  rw[Qe,ic,p9 h l,PO (fun k=>by simp at k)]
theorem qb {g:Gly}(h:g.1=32)(l:List Gly):sqz (l++ [g])=sqz l:=by unfold sqz;rw[wJ h]
theorem zY:∀(n:Nat) (l:List Gly),l.length=n→sqA false l=sqz l++(if due l then [(32,0)] else [])
 | 0,l,h=>by
  rw[Qj h];rfl
 | n+1,l,h=>by
  rcases Ro l with rfl | ⟨Q,b,rfl⟩
  ·rfl
  rw[List.concat_eq_append]at h⊢;have ih:=zY n Q (by simpa using h);unfold due;rw[nu]
  by_cases hb:b.1=32
  ·rw[qb hb,mV,jO _ hb]
   have e1:(b.1==32)=true:=by simpa using hb
   rw[e1,Bool.true_and];have e0:sqA false []=[]:=rfl;rw[e0]
   by_cases hd:due Q=true
   ·rw[PZ hd]at ih
    have hne:(!(sqz Q).isEmpty)=true:=by unfold due at hd;rw[Q7]at hd;exact hd.2
    rw[ih,hne];simp[oo]
   ·rw[PO hd,Qc]at ih
    rw[ih]
    by_cases hq:sqz Q=[]
    ·rw[hq];rfl
    ·have hne:(!(sqz Q).isEmpty)=true:=by simpa using hq
     rw[hne];have hend:MK Q=false:=by
      unfold due at hd;rw[hne,Bool.and_true]at hd
      simpa using hd
     have hl:oo false (sqz Q)=true:=by
      rcases Ro Q with rfl | ⟨R,c,rfl⟩
      ·exact absurd rfl hq
      ·rw[List.concat_eq_append]at hend ih⊢
       rw[nu]at hend;have hc:c.1≠32:=by simpa using hend
       rw[←ih,mV,iP _ hc];have e0:sqA true []=[]:=rfl;rw[e0];simp[oo,hc]
     rw[hl]
  ·have e1:(b.1==32)=false:=by simpa using hb
   rw[e1,Bool.false_and];unfold sqz;rw[p9 hb];simp
theorem LC (l:List Gly):sqA false l=sqz l++(if due l then [(32,0)] else []):=zY _ l rfl
theorem FR {g:Gly}(h:g.1≠32)(l:List Gly):sqz (l++ [g])=sqz l++(if due l then [(32,0)] else [])++ [g]:=by
 rw[←LC];unfold sqz;rw[p9 h,mV,iP _ h];rfl
theorem Hy {g:Gly}(h:g.1=32)(l:List Gly):due (l++ [g])= !(sqz l).isEmpty:=by
 unfold due;rw[nu,qb h,show(g.1==32)=true by simpa using h,Bool.true_and]
theorem Hw {g:Gly}(h:g.1≠32)(l:List Gly):due (l++ [g])=false:=by
 unfold due;rw[nu,show(g.1==32)=false by simpa using h,Bool.false_and]
theorem take_snoc' {α:Type}{l:List α}{j:Nat}{x:α}(h:l[j]? =some x):l.take (j+1)=l.take j++ [x]:=by
 rw[Qw,h];rfl
theorem ag.blt {α:Type}{e n:Nat}{f:α→List Value}{base:Nat}{W:World}{x:Value}{l:List α}(h:ag e n f base W x l){g:Nat}(hg:x.ownBlock=some g):g<W.heap.size:=by
 obtain⟨-,cur,hc⟩:=h.ty hg;exact(Py.1 hc).1
theorem DN {base:Nat}{W:World}{x:Value}{l:List Gly}(h:aW base W x l)(hb:base≤W.heap.size)(hl:l.length≤500000)(r s:Int):
  ∃a' c' w',(appG #[x,.slice (some ⟨W.heap.size,0,none⟩) 1 1]).run Tryz.prog (W.alloc (.cells #[.int .i32 r,.int .u8 s] 35))=.ok (.value (.slice a' (l.length+1) c')) w'∧aW base w' (.slice a' (l.length+1) c') (l++ [(r,s)])∧Below base W w'∧Exc (fun b=>x.ownBlock=some b) W w':=by
 have b1:=ae W (.cells #[.int .i32 r,.int .u8 s] 35);have hu:Gs (W.alloc (.cells #[.int .i32 r,.int .u8 s] 35)) (.slice (some ⟨W.heap.size,0,none⟩) 1 1) [(r,s)]:=dM ah W 35 [(r,s)];obtain⟨x',w',hr,ho,hg,-⟩:=eX (h.keep b1) hu (PY hb b1.size) (by simp;omega);obtain⟨a',c',e⟩:=(ag.sl ah ho).len;have hbel:=(h.keep b1).below (b1.mono hb) (PY hb b1.size) hg;have e2:(l++ [(r,s)]).length=l.length+1:=by simp
 rw[e2]at e;subst e;refine⟨a',c',w',hr,ho,hbel,⟨hbel.os,hbel.tape,hbel.output,hbel.size,fun k hk hx=>?_⟩⟩;exact(hg.block k (PH hk b1.size) (fun e=>hx e.symm)).trans (b1.block k hk)
attribute [local go_sem ↓ high] fB
theorem QTV {P:Prop}(h:P:=by
 go_wp2_with fail
 go_roundw
 case rel=>exact⟨j+1,by omega,by go_num,by rw[HTS.out,HD.out],by rw[HTS.out,HN.out];exact H2,B2⟩
 case measure=>(simp[intOf];try omega)):P:=h
theorem oU (l:List Gly)(v:Value)(w:World)(hv:Gs w v l)(hl:l.length≤90000):
  Calls Tryz.prog 202 #[v] w fun e w'=> ∃u,e=.returned u∧aW w.heap.size w' u (sqz l)∧Below w.heap.size w w':=by
 have HV:=zH hv;obtain⟨va,vc,rfl⟩:=hv.len;clear hv;go_enter Tryz.func202,Tryz.ntmps202
 go_wp2_with fail
 go_step3
 go_wp2_with fail
 go_step3
 go_wp2_with fail
 go_loopw [3,4,9] (fun s q i wr=> ∃j:Nat,j≤l.length∧i=.int .i64 j∧q=.bool (due (l.take j))∧Hid (aW w.heap.size wr s (sqz (l.take j)))∧Hid (Below w.heap.size w wr)) (fun _ _ i _=>l.length-(intOf i).toNat)
 case atStart=>exact⟨0,by omega,rfl,rfl,zH (ag.nil _ _),zH (PG _ _)⟩
 case round=>
  obtain⟨j,hj,rfl,rfl,HO,BW⟩:=hrel;have hsl:=ED (l.take j);rw[PW]at hsl;obtain⟨sa,sc,hs⟩:=(ag.sl ah HO.out).len;subst hs
  by_cases hlt:j<l.length
  ·obtain⟨z,hz⟩:∃z,l[j]? =some z:=⟨l[j],Pz hlt⟩
   have HTS:=zH (take_snoc' hz);obtain⟨g,off,rfl,c0,c1,-⟩:=Gs.at (Fs.below HV.out BW.out) hz;have hi0:(j:Int)<(l.length:Int):=by omega
   have hi1:(0:Int)≤(j:Int):=by omega
   obtain⟨z0,z1⟩:=z;simp only at c0 c1;have bl:=ae wr (.cells #[.int .i32 z0,.int .u8 z1] 35);have BL:=zH (BW.out.trans (bl.mono BW.out.size));have HOL:=zH (HO.out.keep bl);clear hz
   by_cases h32:z0=32
   ·have HN:=zH (qb (g:=(z0,z1)) h32 (l.take j))
    have HD:=zH (Hy (g:=(z0,z1)) h32 (l.take j));subst h32;obtain⟨O,hO⟩:∃O,sqz (l.take j)=O:=⟨_,rfl⟩;rw[hO]at HN HD HOL⊢
    by_cases hne:O=[]
    ·subst hne
     have HD2:Hid (due (l.take j++ [(32,z1)])=false):=zH (by rw[HD.out];rfl);clear hO hsl HO bl HD;go_wp2_with fail
     go_roundw
     case rel=>exact⟨j+1,by omega,by go_num,by rw[HTS.out,HD2.out],by rw[HTS.out,HN.out];exact HOL,BL⟩
     case measure=>(simp[intOf];try omega)
    ·have HD2:Hid (due (l.take j++ [(32,z1)])=true):=zH (by rw[HD.out];simpa using hne)
     have p0:0<O.length:=Qp.2 hne;obtain⟨n,hn⟩:∃n,O.length=n:=⟨_,rfl⟩;rw[hn]at p0⊢;have p1:(0:Int)<(n:Int):=by omega
     have HHN:=zH hn;clear hO hsl hn HO bl HD hne;go_wp2_with fail
     go_roundw
     case rel=>exact⟨j+1,by omega,by go_num,by rw[HTS.out,HD2.out],by rw[HTS.out,HN.out];exact HHN.out▸HOL,BL⟩
     case measure=>(simp[intOf];try omega)
   ·have HN:=zH (FR (g:=(z0,z1)) h32 (l.take j))
    have HD:=zH (Hw (g:=(z0,z1)) h32 (l.take j));have e32:(z0==32)=false:=by simpa using h32
    have hX:Blk (wr.alloc (.cells #[.int .i32 z0,.int .u8 z1] 35)) wr.heap.size 35 [.int .i32 z0,.int .u8 z1]:=PK wr _;have hown:(Value.slice sa (sqz (l.take j)).length sc).ownBlock≠some wr.heap.size:=fun e=>by have:=HO.out.blt e;omega
    by_cases hdu:due (l.take j)=true
    ·rw[PZ hdu]at HN
     obtain⟨a1,n1,w1,hr1,ho1,hb1,he1⟩:=DN HOL.out BL.out.size (by omega) 32 0;have hX1:=he1.blk hX hown;have x0:w1.cell? ⟨wr.heap.size,0,none⟩=some (.int .i32 z0):=hX1.cell 0;have x1:w1.cell? ⟨wr.heap.size,1,none⟩=some (.int .u8 z1):=hX1.cell 1;have B1:=BL.out.trans hb1;obtain⟨a2,n2,w2,hr2,ho2,hb2,-⟩:=DN ho1 B1.size (by simp;omega) z0 z1;have B2:=zH (B1.trans hb2);rw[PL]at hr2 ho2;simp only[PI,PQ,Ra]at hr2 ho2;have H2:=zH ho2;rw[hdu];obtain⟨O,hO⟩:∃O,sqz (l.take j)=O:=⟨_,rfl⟩;rw[hO]at HN H2 hr1 hr2 hsl⊢;obtain⟨n,hn⟩:∃n,O.length=n:=⟨_,rfl⟩;rw[hn]at hr1 hr2 H2⊢;rw[PS]at hr1;clear hO hsl hn HO bl h32 hdu hX hX1 hown ho1 hb1 he1 B1 ho2 hb2 HOL;exact QTV
    ·have hdf:due (l.take j)=false:=by simpa using hdu
     rw[hdf]at HN;simp only[Qf,Q8,Qc]at HN;obtain⟨a2,n2,w2,hr2,ho2,hb2,-⟩:=DN HOL.out BL.out.size (by omega) z0 z1;have B2:=zH (BL.out.trans hb2);have H2:=zH ho2;rw[hdf];obtain⟨O,hO⟩:∃O,sqz (l.take j)=O:=⟨_,rfl⟩;rw[hO]at HN H2 hr2 hsl⊢;obtain⟨n,hn⟩:∃n,O.length=n:=⟨_,rfl⟩;rw[hn]at hr2 H2⊢;rw[PS]at hr2;clear hO hsl hn HO bl h32 hdu hdf hX hown ho2 hb2 HOL;exact QTV
  ·obtain rfl:j=l.length:=by omega
   have hlt':¬(l.length:Int)<(l.length:Int):=by omega
   rw[Qa]at HO⊢;go_wp2_with fail
   go_ret;exact⟨_,rfl,HO.out,BW.out⟩
end
def pst (m k:Int):Bool:=if k=1 then m==0 else if k=2 then m==1 else true
theorem Al (m k:Int)(w:World):Calls Tryz.prog 170 #[.int .i64 m,.int .i64 k] w fun e w'=>e=.returned (.bool (pst m k))∧w=w':=by
 unfold pst
 by_cases h1:k=1
 ·subst h1
  rw[PZ rfl];go_enter Tryz.func170,Tryz.ntmps170
  go_wp2_with fail
  go_ret;exact⟨rfl,rfl⟩
 ·rw[PO h1]
  have n1:(k==1)=false:=by simpa using h1
  by_cases h2:k=2
  ·subst h2
   rw[PZ rfl];go_enter Tryz.func170,Tryz.ntmps170
   go_wp2_with fail
   go_ret;exact⟨rfl,rfl⟩
  ·rw[PO h2]
   have n2:(k==2)=false:=by simpa using h2
   clear h1 h2;go_enter Tryz.func170,Tryz.ntmps170
   go_wp2_with fail
   go_ret;exact⟨rfl,rfl⟩
theorem iV {a b:Bool}(h:a=b):Ending.returned (.bool a)=.returned (.bool b):=by rw[h]
theorem uA (x:NV)(w:World):
  Calls Tryz.prog 171 #[.agg (af x).toArray] w fun e w'=>e=.returned (.bool (!Fe x.kind x.text.2.1 x.kids.2.1 x.rows.2.1 x.trows.2.1))∧Below w.heap.size w w':=by
 have B1:=zH (ae w (.cells (af x).toArray 58));obtain⟨k,xl,xn,⟨t1,t2,t3⟩,⟨k1,k2,k3⟩,⟨r1,r2,r3⟩,xc,⟨q1,q2,q3⟩,xb,xa⟩:=x;simp only[af,pv]at B1⊢;unfold Fe
 by_cases h1:k=1
 ·subst h1
  have HF:Hid ((((t2:Nat):Int)==0)= !decide (0<t2)):=zH (by cases t2<;>simp<;>omega);go_enter Tryz.func171,Tryz.ntmps171
  go_wp2_with fail
  go_ret;exact⟨iV (by first | (simp;done)| (have:=HF.out;simpa using this)),B1.out⟩
 ·have n1:(k==1)=false:=by simpa using h1
  by_cases h2:k=2
  ·subst h2
   have HF:Hid ((((t2:Nat):Int)==0)= !decide (0<t2)):=zH (by cases t2<;>simp<;>omega);clear h1;go_enter Tryz.func171,Tryz.ntmps171
   go_wp2_with fail
   go_ret;exact⟨iV (by first | (simp;done)| (have:=HF.out;simpa using this)),B1.out⟩
  ·have n2:(k==2)=false:=by simpa using h2
   by_cases h3:k=3
   ·subst h3
    have HF:Hid ((((t2:Nat):Int)==0)= !decide (0<t2)):=zH (by cases t2<;>simp<;>omega);clear h1 h2;go_enter Tryz.func171,Tryz.ntmps171
    go_wp2_with fail
    go_ret;exact⟨iV (by first | (simp;done)| (have:=HF.out;simpa using this)),B1.out⟩
   ·have n3:(k==3)=false:=by simpa using h3
    by_cases h4:k=4
    ·subst h4
     clear h1 h2 h3;go_enter Tryz.func171,Tryz.ntmps171
     go_wp2_with fail
     go_ret;exact⟨iV (by simp),B1.out⟩
    ·have n4:(k==4)=false:=by simpa using h4
     by_cases h5:k=5
     ·subst h5
      have HF:Hid ((((k2:Nat):Int)==0)= !decide (0<k2)):=zH (by cases k2<;>simp<;>omega);clear h1 h2 h3 h4;go_enter Tryz.func171,Tryz.ntmps171
      go_wp2_with fail
      go_ret;exact⟨iV (by first | (simp;done)| (have:=HF.out;simpa using this)),B1.out⟩
     ·have n5:(k==5)=false:=by simpa using h5
      by_cases h6:k=6
      ·subst h6
       have HF:Hid ((((r2:Nat):Int)==0)= !decide (0<r2)):=zH (by cases r2<;>simp<;>omega);clear h1 h2 h3 h4 h5;go_enter Tryz.func171,Tryz.ntmps171
       go_wp2_with fail
       go_ret;exact⟨iV (by first | (simp;done)| (have:=HF.out;simpa using this)),B1.out⟩
      ·have n6:(k==6)=false:=by simpa using h6
       by_cases h7:k=7
       ·subst h7
        have HF:Hid ((((q2:Nat):Int)==0)= !decide (0<q2)):=zH (by cases q2<;>simp<;>omega);clear h1 h2 h3 h4 h5 h6;go_enter Tryz.func171,Tryz.ntmps171
        go_wp2_with fail
        go_ret;exact⟨iV (by first | (simp;done)| (have:=HF.out;simpa using this)),B1.out⟩
       ·have n7:(k==7)=false:=by simpa using h7
        have HR:Hid ((!(if 1≤k∧k≤3 then decide (0<t2) else if k=5 then decide (0<k2) else if k=6 then decide (0<r2) else k==4 || (k==7&&decide (0<q2))))=true):=zH (by rw[PO (by omega),PO h5,PO h6,n4,n7];rfl);rw[HR.out];clear h1 h2 h3 h4 h5 h6 h7;go_enter Tryz.func171,Tryz.ntmps171
        go_wp2_with fail
        go_ret;exact⟨rfl,B1.out⟩
abbrev aj:PV:=(none,0,0)
def kG (x:NV):NV:=
 ⟨x.kind,x.line,if x.kind=4∨x.kind=5 then x.n else 0,if 1≤x.kind∧x.kind≤4 then x.text else aj,if mf x.kind then x.kids else aj,if x.kind=6 then x.rows else aj,if x.kind=7 then x.cols else [],if x.kind=7 then x.trows else aj,if x.kind=7 then x.box else false,if x.kind=7 then x.all else false⟩
def lL (h:Hd):Hd:=
 ⟨h.kind,h.line,if h.kind=4∨h.kind=5 then h.n else 0,if 1≤h.kind∧h.kind≤4 then h.text else [],if h.kind=6 then h.rows else [],if h.kind=7 then h.grid else bS⟩
theorem df.own {S:Nat→Prop}{w:World}{x:NV}{h:Hd}(k:df S w x h):df S w (kG x) (lL h):=by
 have e:=k.kind;unfold kG lL;rw[←e];have c1:(if x.kind=7 then x.cols else [])=(if x.kind=7 then h.grid else bS).cols:=by split;exact k.cols;rfl
 have c2:(if x.kind=7 then x.box else false)=(if x.kind=7 then h.grid else bS).box:=by split;exact k.box;rfl
 have c3:(if x.kind=7 then x.all else false)=(if x.kind=7 then h.grid else bS).all:=by split;exact k.all;rfl
 refine⟨rfl,k.line,?_,?_,?_,c1,?_,c2,c3⟩
 ·simp only;split;exact k.n;rfl
 ·simp only;split;exact k.text;exact FsS.nil _ _ _ _
 ·simp only;split;exact k.rows;exact GrS.nil _ _
 ·simp only;split;exact k.trows;exact TrS.nil _ _
theorem Jo (x:NV)(w:World):
  Calls Tryz.prog 204 #[.agg (af x).toArray] w fun e w'=>e=.returned (.agg (af (kG x)).toArray)∧Below w.heap.size w w':=by
 obtain⟨k,xl,xn,⟨t1,t2,t3⟩,⟨k1,k2,k3⟩,⟨r1,r2,r3⟩,xc,⟨q1,q2,q3⟩,xb,xa⟩:=x
 by_cases h1:k=1
 ·subst h1
  have HE:Hid (kG ⟨1,xl,xn,(t1,t2,t3),(k1,k2,k3),(r1,r2,r3),xc,(q1,q2,q3),xb,xa⟩=⟨1,xl,0,(t1,t2,t3),(k1,k2,k3),aj,[],aj,false,false⟩):=zH (rfl);rw[HE.out];simp only[af,pv,aj];clear HE;go_enter Tryz.func204,Tryz.ntmps204
  go_wp2_with fail
  refine Qi (v:= .agg #[.int .i64 1,.int .i64 xl,.int .i64 0,.slice t1 t2 t3,.slice k1 k2 k3,.slice none 0 0,.string ⟨#[]⟩,.slice none 0 0,.bool false,.bool false]) (by simp[results,Tryz.results204,go_sem]) rfl ?_;exact⟨rfl,((((PG _ w).alloc (Px _) _).alloc (by simp) _).alloc (by simp;omega) _)⟩
 ·have n1:(k==1)=false:=by simpa using h1
  by_cases h2:k=2
  ·subst h2
   have HE:Hid (kG ⟨2,xl,xn,(t1,t2,t3),(k1,k2,k3),(r1,r2,r3),xc,(q1,q2,q3),xb,xa⟩=⟨2,xl,0,(t1,t2,t3),(k1,k2,k3),aj,[],aj,false,false⟩):=zH (rfl);rw[HE.out];simp only[af,pv,aj];clear HE h1;go_enter Tryz.func204,Tryz.ntmps204
   go_wp2_with fail
   refine Qi (v:= .agg #[.int .i64 2,.int .i64 xl,.int .i64 0,.slice t1 t2 t3,.slice k1 k2 k3,.slice none 0 0,.string ⟨#[]⟩,.slice none 0 0,.bool false,.bool false]) (by simp[results,Tryz.results204,go_sem]) rfl ?_;exact⟨rfl,((((PG _ w).alloc (Px _) _).alloc (by simp) _).alloc (by simp;omega) _)⟩
  ·have n2:(k==2)=false:=by simpa using h2
   by_cases h3:k=3
   ·subst h3
    have HE:Hid (kG ⟨3,xl,xn,(t1,t2,t3),(k1,k2,k3),(r1,r2,r3),xc,(q1,q2,q3),xb,xa⟩=⟨3,xl,0,(t1,t2,t3),aj,aj,[],aj,false,false⟩):=zH (rfl);rw[HE.out];simp only[af,pv,aj];clear HE h1 h2;go_enter Tryz.func204,Tryz.ntmps204
    go_wp2_with fail
    refine Qi (v:= .agg #[.int .i64 3,.int .i64 xl,.int .i64 0,.slice t1 t2 t3,.slice none 0 0,.slice none 0 0,.string ⟨#[]⟩,.slice none 0 0,.bool false,.bool false]) (by simp[results,Tryz.results204,go_sem]) rfl ?_;exact⟨rfl,((((PG _ w).alloc (Px _) _).alloc (by simp) _).alloc (by simp;omega) _)⟩
   ·have n3:(k==3)=false:=by simpa using h3
    by_cases h4:k=4
    ·subst h4
     have HE:Hid (kG ⟨4,xl,xn,(t1,t2,t3),(k1,k2,k3),(r1,r2,r3),xc,(q1,q2,q3),xb,xa⟩=⟨4,xl,xn,(t1,t2,t3),(k1,k2,k3),aj,[],aj,false,false⟩):=zH (rfl);rw[HE.out];simp only[af,pv,aj];clear HE h1 h2 h3;go_enter Tryz.func204,Tryz.ntmps204
     go_wp2_with fail
     go_region
     go_wp2_with fail
     refine Qi (v:= .agg #[.int .i64 4,.int .i64 xl,.int .i64 xn,.slice t1 t2 t3,.slice k1 k2 k3,.slice none 0 0,.string ⟨#[]⟩,.slice none 0 0,.bool false,.bool false]) (by simp[results,Tryz.results204,go_sem]) rfl ?_;exact⟨rfl,((((PG _ w).alloc (Px _) _).alloc (by simp) _).alloc (by simp;omega) _).drew⟩
    ·have n4:(k==4)=false:=by simpa using h4
     by_cases h5:k=5
     ·subst h5
      have HE:Hid (kG ⟨5,xl,xn,(t1,t2,t3),(k1,k2,k3),(r1,r2,r3),xc,(q1,q2,q3),xb,xa⟩=⟨5,xl,xn,aj,(k1,k2,k3),aj,[],aj,false,false⟩):=zH (rfl);rw[HE.out];simp only[af,pv,aj];clear HE h1 h2 h3 h4;go_enter Tryz.func204,Tryz.ntmps204
      go_wp2_with fail
      go_region
      go_wp2_with fail
      refine Qi (v:= .agg #[.int .i64 5,.int .i64 xl,.int .i64 xn,.slice none 0 0,.slice k1 k2 k3,.slice none 0 0,.string ⟨#[]⟩,.slice none 0 0,.bool false,.bool false]) (by simp[results,Tryz.results204,go_sem]) rfl ?_;exact⟨rfl,((((PG _ w).alloc (Px _) _).alloc (by simp) _).alloc (by simp;omega) _).drew⟩
     ·have n5:(k==5)=false:=by simpa using h5
      by_cases h6:k=6
      ·subst h6
       have HE:Hid (kG ⟨6,xl,xn,(t1,t2,t3),(k1,k2,k3),(r1,r2,r3),xc,(q1,q2,q3),xb,xa⟩=⟨6,xl,0,aj,aj,(r1,r2,r3),[],aj,false,false⟩):=zH (rfl);rw[HE.out];simp only[af,pv,aj];clear HE h1 h2 h3 h4 h5;go_enter Tryz.func204,Tryz.ntmps204
       go_wp2_with fail
       refine Qi (v:= .agg #[.int .i64 6,.int .i64 xl,.int .i64 0,.slice none 0 0,.slice none 0 0,.slice r1 r2 r3,.string ⟨#[]⟩,.slice none 0 0,.bool false,.bool false]) (by simp[results,Tryz.results204,go_sem]) rfl ?_;exact⟨rfl,((((PG _ w).alloc (Px _) _).alloc (by simp) _).alloc (by simp;omega) _)⟩
      ·have n6:(k==6)=false:=by simpa using h6
       by_cases h7:k=7
       ·subst h7
        have HE:Hid (kG ⟨7,xl,xn,(t1,t2,t3),(k1,k2,k3),(r1,r2,r3),xc,(q1,q2,q3),xb,xa⟩=⟨7,xl,0,aj,aj,aj,xc,(q1,q2,q3),xb,xa⟩):=zH (rfl);rw[HE.out];simp only[af,pv,aj];clear HE h1 h2 h3 h4 h5 h6;go_enter Tryz.func204,Tryz.ntmps204
        go_wp2_with fail
        refine Qi (v:= .agg #[.int .i64 7,.int .i64 xl,.int .i64 0,.slice none 0 0,.slice none 0 0,.slice none 0 0,.string ⟨xc.toArray⟩,.slice q1 q2 q3,.bool xb,.bool xa]) (by simp[results,Tryz.results204,go_sem]) rfl ?_;exact⟨rfl,((((PG _ w).alloc (Px _) _).alloc (by simp) _).alloc (by simp;omega) _)⟩
       ·have n7:(k==7)=false:=by simpa using h7
        have hm:mf k=false:=by unfold mf;rw[n1,n2,n4,n5];rfl
        have HE:Hid (kG ⟨k,xl,xn,(t1,t2,t3),(k1,k2,k3),(r1,r2,r3),xc,(q1,q2,q3),xb,xa⟩=⟨k,xl,0,aj,aj,aj,[],aj,false,false⟩):=zH (by unfold kG;simp only[hm];rw[PO (by omega),PO (by omega),PO h6,PO h7,PO h7,PO h7,PO h7];rfl);rw[HE.out];simp only[af,pv,aj];clear HE h1 h2 h3 h4 h5 h6 h7 hm;go_enter Tryz.func204,Tryz.ntmps204
        go_wp2_with fail
        refine Qi (v:= .agg #[.int .i64 k,.int .i64 xl,.int .i64 0,.slice none 0 0,.slice none 0 0,.slice none 0 0,.string ⟨#[]⟩,.slice none 0 0,.bool false,.bool false]) (by simp[results,Tryz.results204,go_sem]) rfl ?_;exact⟨rfl,((((PG _ w).alloc (Px _) _).alloc (by simp) _).alloc (by simp;omega) _)⟩
section
theorem qh (L:List PV):aA aJ L=L.map pv:=by
 induction L with
 | nil=>rfl
 | cons x L ih=>rw[eO,ih];rfl
theorem ag.slot {e base:Nat}{W:World}{g n c:Nat}{L:List PV}(h:ag e 1 aJ base W (.slice (some ⟨g,0,none⟩) n c) L){j:Nat}{s:PV}(hs:L[j]? =some s):
  W.cell? ⟨g,j,none⟩=some (pv s)∧W.frozen? ⟨g,j,none⟩=false:=by
 obtain⟨a,c',e2⟩:=(ag.sl aX h).len;injection e2 with e3 e4 e5
 have hjl:=(Pw.1 hs).1;have h':W.ownsRow base e 1 (.slice (some ⟨g,0,none⟩) n c) L.length (aA aJ L):=h;rw[e4]at h';refine⟨?_,h'.frozenAt j⟩;rw[h'.cellAt j (by omega),qh,QL,hs];rfl
theorem ag.put {e base:Nat}{W:World}{g n c:Nat}{L:List PV}(h:ag e 1 aJ base W (.slice (some ⟨g,0,none⟩) n c) L)(j:Nat)(s:PV):
  ag e 1 aJ base (W.setCell ⟨g,j,none⟩ (pv s)) (.slice (some ⟨g,0,none⟩) n c) (L.set j s):=by
 obtain⟨a,c',e2⟩:=(ag.sl aX h).len;injection e2 with e3 e4 e5
 have h':W.ownsRow base e 1 (.slice (some ⟨g,0,none⟩) n c) L.length (aA aJ L):=h;rw[e4]at h';have k:=(h'.stored j (pv s)).1;rw[qh,←List.map_set,←qh]at k;unfold ag;rw[Ru,e4];exact k
theorem ag.addr {α:Type}{e n:Nat}{f:α→List Value}{base:Nat}{W:World}{a:Option Addr}{k c:Nat}{l:List α}(h:ag e n f base W (.slice a k c) l)(hl:0<l.length):∃g,a=some ⟨g,0,none⟩∧base≤g∧ ∃cur,W.heap[g]? =some (.cells cur e (0,0)):=by
 rcases h.2 with⟨h',h0⟩| ⟨g,cap,cur,hx,hb,hgg,-⟩
 ·omega
 ·injection hx with e1 e2 e3
  subst e1;exact⟨g,rfl,hb,cur,hgg⟩
structure nK (SI:Nat→Prop)(F:List Gly→List Gly)(base:Nat)(W:World)(v:Value)(l:List (List Gly))(j:Nat):Prop where
 lt:∀b,SI b→b<base
 sz:base≤W.heap.size
 own:∃(L:List PV) (S:Nat→Prop),ag 26 1 aJ base W v L∧L.length=l.length∧(∀b,S b→base≤b∧ ∃cur fz,W.heap[b]? =some (.cells cur 35 fz))∧
  (∀(i:Nat) s r,i<j→L[i]? =some s→l[i]? =some r→FsS S 2 aR W (pv s) (F r))∧(∀(i:Nat) s r,j≤i→L[i]? =some s→l[i]? =some r→FsS SI 2 aR W (pv s) r)
section
variable {SI:Nat→Prop}{F:List Gly→List Gly}{base:Nat}{W W':World}{v:Value}{l:List (List Gly)}{j:Nat}
theorem nK.len (h:nK SI F base W v l j):∃a cap,v=.slice a l.length cap:=by
 obtain⟨L,S,hL,hl,-⟩:=h.own;obtain⟨a,cap,e⟩:=(ag.sl aX hL).len;exact⟨a,cap,hl▸e⟩
theorem nK.at {a:Option Addr}{n c:Nat}(h:nK SI F base W (.slice a n c) l j){r:List Gly}(hr:l[j]? =some r):
  ∃g s,a=some ⟨g,0,none⟩∧W.cell? ⟨g,j,none⟩=some (pv s)∧W.frozen? ⟨g,j,none⟩=false∧FsS SI 2 aR W (pv s) r:=by
 obtain⟨L,S,hL,hl,hS,h1,h2⟩:=h.own;have hj:=(Pw.1 hr).1;obtain⟨s,hs⟩:∃s,L[j]? =some s:=⟨L[j]'(by omega),Pz _⟩;obtain⟨g,rfl,-,-⟩:=hL.addr (by omega);obtain⟨k1,k2⟩:=hL.slot hs;exact⟨g,s,rfl,k1,k2,h2 j s r (Px _) hs hr⟩
theorem nK.step {g n c:Nat}(h:nK SI F base W (.slice (some ⟨g,0,none⟩) n c) l j)(hb:Below W.heap.size W W'){r:List Gly}(hr:l[j]? =some r){s:PV}(hs:aW W.heap.size W' (pv s) (F r)):
  nK SI F base (W'.setCell ⟨g,j,none⟩ (pv s)) (.slice (some ⟨g,0,none⟩) n c) l (j+1)∧Exc (fun b=>b=g) W (W'.setCell ⟨g,j,none⟩ (pv s)):=by
 obtain⟨L,S,hL,hl,hS,h1,h2⟩:=h.own;have hj:=(Pw.1 hr).1;obtain⟨s0,hs0⟩:∃s,L[j]? =some s:=⟨L[j]'(by omega),Pz _⟩;obtain⟨g',e1,hg,cur0,hcur⟩:=hL.addr (by omega);injection e1 with e1
 injection e1 with e1
 subst e1;have hne:∀b cur fz,W.heap[b]? =some (.cells cur 35 fz)→b≠g:=fun b cur fz hb' e=>by
  rw[e,hcur]at hb';injection hb' with hb'
  injection hb' with _ h3
  exact absurd h3 (by decide)
 have hglt:g<W.heap.size:=(Py.1 hcur).1;have kS:Kp S W (W'.setCell ⟨g,j,none⟩ (pv s)):=fun b hb'=>by
  obtain⟨q1,cur,fz,q2⟩:=hS b hb';rw[PN _ _ _ _ (hne b cur fz q2)];exact hb.block b (Py.1 q2).1
 have kI:Kp SI W (W'.setCell ⟨g,j,none⟩ (pv s)):=fun b hb'=>by
  have:=h.lt b hb';rw[PN _ _ _ _ (show b≠g by omega)];exact hb.block b (PH this h.sz)
 have fS:=iX ah hs;have hne2:∀b,(W.heap.size≤b∧ ∃cur fz,W'.heap[b]? =some (.cells cur 35 fz))→b≠g:=fun b hb'=>by omega
 have kN:Kp (fun b=>W.heap.size≤b∧ ∃cur fz,W'.heap[b]? =some (.cells cur 35 fz)) W' (W'.setCell ⟨g,j,none⟩ (pv s)):=fun b hb'=>by
  rw[PN _ _ _ _ (hne2 b hb')]
 refine⟨⟨h.lt,by rw[gH];exact PY h.sz hb.size,⟨L.set j s,fun b=>S b∨(W.heap.size≤b∧ ∃cur fz,W'.heap[b]? =some (.cells cur 35 fz)),(hL.keep hb).put j s,by rw[Ru];exact hl,?_,?_,?_⟩⟩,?_⟩
 ·rintro b (hb' | hb')
  ·obtain⟨q1,cur,fz,q2⟩:=hS b hb'
   exact⟨q1,cur,fz,(kS b hb').trans q2⟩
  ·obtain⟨q1,cur,fz,q2⟩:=hb'
   exact⟨PY h.sz q1,cur,fz,(kN b ⟨q1,cur,fz,q2⟩).trans q2⟩
 ·intro i s' r' hi hs' hr'
  by_cases hij:i=j
  ·subst hij
   rw[RQ (by omega)]at hs';obtain rfl:=PT hs';rw[hr]at hr';obtain rfl:=PT hr';exact(fS.keep kN).mono (fun b q=> .inr q)
  ·rw[QY (fun e=>hij e.symm)]at hs'
   exact((h1 i s' r' (by omega) hs' hr').keep kS).mono (fun b q=> .inl q)
 ·intro i s' r' hi hs' hr'
  rw[QY (by omega)]at hs';exact(h2 i s' r' (by omega) hs' hr').keep kI
 ·exact(Exc.of hb).set _ _ (fun _=>rfl)
theorem nK.done (h:nK SI F base W v l l.length):eY base W v (l.map F):=by
 obtain⟨L,S,hL,hl,hS,h1,h2⟩:=h.own;refine⟨⟨L,S,hL,by rw[Qy];exact hl,hS,fun i s r hs hr=>?_⟩⟩;rw[QL]at hr
 cases hx:l[i]? with
 | none=>rw[hx]at hr;cases hr
 | some x=>
  rw[hx]at hr;obtain rfl:=PT hr;exact h1 i s x (Pw.1 hx).1 hs hx
end
attribute [local go_sem ↓ high] fq
theorem K8 {base:Nat}{W:World}{x u:Value}{l m:List PV}(h:ag 26 1 aJ base W x l)(hu:Fs 1 aJ W u m)(hb:base≤W.heap.size)(hd:l.length+m.length≤1000000):
  ∃x' w',(mJ #[x,u]).run Tryz.prog W=.ok (.value x') w'∧ag 26 1 aJ base w' x' (l++m)∧W.grownBy w' x.ownBlock:=by
 obtain⟨i0,hi,hz0,hz1,hz2⟩:=Ql mg;obtain⟨x',w',hr,ho,hg,-⟩:=lM (P:=Tryz.prog) (t:=53) aX jQ (by decide) Tryz.underlying53 hi hz0 hz1 hz2 rfl (by decide) h hu hb hd;refine⟨x',w',?_,ho,hg⟩;unfold mJ;simp only[QD,QG,Qm,hr]
theorem vF (L:List PV)(v:Value)(w:World)(hv:Fs 1 aJ w v L)(hl:L.length≤200000):
  Calls Tryz.prog 203 #[v] w fun e w'=> ∃u,e=.returned u∧ag 26 1 aJ w.heap.size w' u L∧Below w.heap.size w w':=by
 have HV:=zH hv;obtain⟨a,cap,rfl,-,hr⟩:=hv
 cases a with
 | none=>
  obtain rfl:L=[]:=by
   cases L with
   | nil=>rfl
   | cons x l=>obtain⟨g,off,h0,_⟩:=hr 0 x rfl;cases h0
  clear hr;have hnil:(binOp .eql 53 (.slice none 0 cap) (.slice none 0 0)).run Tryz.prog w=.ok (.bool true) w:=QZ w 53 26 none 0 cap 0 0 Tryz.underlying53;simp only[PQ];go_enter Tryz.func203,Tryz.ntmps203
  go_wp2_with fail
  go_ret;exact⟨_,rfl,ag.nil _ _,PG _ _⟩
 | some a=>
  clear hr;have b1:=ae w (.cells #[] 26);have o1:ag 26 1 aJ w.heap.size (w.alloc (.cells #[] 26)) (.slice (some ⟨w.heap.size,0,none⟩) 0 0) []:=mq aX w (Px _) [] (by simp);obtain⟨x',w',k1,o2,g2⟩:=K8 o1 (Fs.below HV.out b1) (by simp) (by simp;omega);have b2:=zH (o1.below b1 (by simp) g2);have O2:=zH o2;have hnil:(binOp .eql 53 (.slice (some a) L.length cap) (.slice none 0 0)).run Tryz.prog w=.ok (.bool false) w:=QZ w 53 26 (some a) L.length cap 0 0 Tryz.underlying53;clear o1 o2 g2 b1;go_enter Tryz.func203,Tryz.ntmps203
  go_wp2_with fail
  go_ret;exact⟨_,rfl,O2.out,b2.out⟩
theorem QTS {P:Prop}(h:P:=by
 go_wp2_with fail
 refine HC.out.mono ?_;rintro e w1 ⟨u,rfl,ho,b1⟩;have HRI:=zH (HST.out w1 u b1 ho);have B1:=zH b1;obtain⟨ua,uc,rfl⟩:=HRI.out.len;clear HC HST ho b1;go_wp2_with fail
 go_loopw [4,5,10] (fun _ _ i wr=> ∃j:Nat,j≤l.length∧i=.int .i64 j∧Hid (nK S id w.heap.size wr (.slice ua l.length uc) l j)∧Hid (Below w.heap.size w wr)) (fun _ _ i _=>l.length-(intOf i).toNat)
 case atStart=>exact⟨0,by omega,rfl,HRI,B1⟩
 case round=>
  obtain⟨j,hj,rfl,HR,BW⟩:=hrel;clear HRI B1
  by_cases hlt:j<l.length
  ·obtain⟨r,hr⟩:∃r,l[j]? =some r:=⟨l[j],Pz hlt⟩
   have lr:=pE hr;obtain⟨g,⟨s1,s2,s3⟩,rfl,c0,f0,hs⟩:=HR.out.at hr;simp only[pv]at c0 hs;have HG:=zH (fU r _ wr hs.1 (by omega));have hi0:(j:Int)<(l.length:Int):=by omega
   have hi1:(0:Int)≤(j:Int):=by omega
   have HRR:=zH hr;have hgl:=PX wr _ c0;have HSZ:=zH hgl;clear hr hs hgl;go_wp2_with fail
   refine HG.out.mono ?_;rintro e w2 ⟨u,rfl,ho,b2⟩;obtain⟨u1,u3,e2⟩:=(ag.sl ah ho).len;obtain⟨k1,k2⟩:=HR.out.step b2 HRR.out (s:=(u1,r.length,u3)) (by unfold pv;rw[←e2];exact ho);simp only[pv]at k1 k2;subst e2;have c2:w2.cell? ⟨g,j,none⟩=some (.slice s1 s2 s3):=(b2.cell (p:=⟨g,j,none⟩) HSZ.out).trans c0;have f2:w2.frozen? ⟨g,j,none⟩=false:=(b2.frozen (p:=⟨g,j,none⟩) HSZ.out).trans f0;have K1:=zH k1;have hgb:w.heap.size≤g:=by
    obtain⟨L',S',hL',hl',-⟩:=HR.out.own;obtain⟨g',e1,hg,-⟩:=hL'.addr (by omega);injection e1 with e1
    injection e1 with e1
    omega
   have K2:=zH (BW.out.trans (k2.below BW.out.size (fun b hb e=>by omega)));clear k1 k2 ho b2 HG c0 f0;go_wp2_with fail
   go_roundw
   case rel=>exact⟨j+1,by omega,by go_num,K1,K2⟩
   case measure=>(simp[intOf];try omega)
  ·obtain rfl:j=l.length:=by omega
   have hlt':¬(l.length:Int)<(l.length:Int):=by omega
   have HD:=zH HR.out.done;rw[List.map_id]at HD;clear HR;go_wp2_with fail
   go_ret;exact⟨_,rfl,HD.out,BW.out⟩):P:=h
theorem Au (S:Nat→Prop)(l:List (List Gly))(v:Value)(w:World)(hv:GrS S w v l)(hl:l.length+lens l≤90000)(hS:∀b,S b→b<w.heap.size):
  Calls Tryz.prog 205 #[v] w fun e w'=> ∃u,e=.returned u∧eY w.heap.size w' u l∧Below w.heap.size w w':=by
 obtain⟨L,hLl,hLv,hLr⟩:=hv;have HC:=zH (vF L v w hLv.1 (by omega));have HST:=zH (fun w1 u (b1:Below w.heap.size w w1) (ho:ag 26 1 aJ w.heap.size w1 u L)=>(⟨hS,b1.size,⟨L,fun _=>False,ho,hLl,fun _ h=>h.elim,fun i s r h=>by omega,fun i s r _ a c=>(hLr i s r a c).keep (Kp.below b1 hS)⟩⟩:nK S id w.heap.size w1 u l 0));obtain⟨va,vc,rfl⟩:=hLv.1.len;rw[hLl]at HC⊢;clear hLv hLr hS hLl;go_enter Tryz.func205,Tryz.ntmps205
 exact QTS
end
section
attribute [local go_sem ↓ high] gM fA
theorem KX {base:Nat}{W:World}{x u:Value}{l m:List (Bool×PV)}(h:ag 90 2 cz base W x l)(hu:Fs 2 cz W u m)(hb:base≤W.heap.size)(hd:l.length+m.length≤1000000):
  ∃x' w',(appW #[x,u]).run Tryz.prog W=.ok (.value x') w'∧ag 90 2 cz base w' x' (l++m)∧W.grownBy w' x.ownBlock:=by
 obtain⟨i0,hi,hz0,hz1,hz2⟩:=Ql Dz;obtain⟨x',w',hr,ho,hg,-⟩:=lM (P:=Tryz.prog) (t:=54) dB nS (by decide) Tryz.underlying54 hi hz0 hz1 hz2 rfl (by decide) h hu hb hd;refine⟨x',w',?_,ho,hg⟩;unfold appW;simp only[QD,QG,Qm,hr]
theorem Ec (L:List (Bool×PV))(v:Value)(w:World)(hv:Fs 2 cz w v L)(hl:L.length≤200000):
  Calls Tryz.prog 168 #[v] w fun e w'=> ∃u,e=.returned u∧ag 90 2 cz w.heap.size w' u L∧Below w.heap.size w w':=by
 have HV:=zH hv;obtain⟨a,cap,rfl,-,hr⟩:=hv
 cases a with
 | none=>
  obtain rfl:L=[]:=by
   cases L with
   | nil=>rfl
   | cons x l=>obtain⟨g,off,h0,_⟩:=hr 0 x rfl;cases h0
  clear hr;have hnil:(binOp .eql 54 (.slice none 0 cap) (.slice none 0 0)).run Tryz.prog w=.ok (.bool true) w:=QZ w 54 90 none 0 cap 0 0 Tryz.underlying54;simp only[PQ];go_enter Tryz.func168,Tryz.ntmps168
  go_wp2_with fail
  go_ret;exact⟨_,rfl,ag.nil _ _,PG _ _⟩
 | some a=>
  clear hr;have b1:=ae w (.cells #[] 90);have o1:ag 90 2 cz w.heap.size (w.alloc (.cells #[] 90)) (.slice (some ⟨w.heap.size,0,none⟩) 0 0) []:=mq dB w (Px _) [] (by simp);obtain⟨x',w',k1,o2,g2⟩:=KX o1 (Fs.below HV.out b1) (by simp) (by simp;omega);have b2:=zH (o1.below b1 (by simp) g2);have O2:=zH o2;have hnil:(binOp .eql 54 (.slice (some a) L.length cap) (.slice none 0 0)).run Tryz.prog w=.ok (.bool false) w:=QZ w 54 90 (some a) L.length cap 0 0 Tryz.underlying54;clear o1 o2 g2 b1;go_enter Tryz.func168,Tryz.ntmps168
  go_wp2_with fail
  go_ret;exact⟨_,rfl,O2.out,b2.out⟩
attribute [local go_sem ↓ high] fA
theorem La {base:Nat}{W:World}{x u:Value}{l m:List NV}(h:ag 58 10 af base W x l)(hu:Fs 10 af W u m)(hb:base≤W.heap.size)(hd:l.length+m.length≤1000000):
  ∃x' w',(zD #[x,u]).run Tryz.prog W=.ok (.value x') w'∧ag 58 10 af base w' x' (l++m)∧W.grownBy w' x.ownBlock:=by
 obtain⟨i0,hi,hz0,hz1,hz2⟩:=Ql kY;obtain⟨x',w',hr,ho,hg,-⟩:=lM (P:=Tryz.prog) (t:=36) ay jS (by decide) Tryz.underlying36 hi hz0 hz1 hz2 rfl (by decide) h hu hb hd;refine⟨x',w',?_,ho,hg⟩;unfold zD;simp only[QD,QG,Qm,hr]
theorem vG (L:List NV)(v:Value)(w:World)(hv:Fs 10 af w v L)(hl:L.length≤200000):
  Calls Tryz.prog 61 #[v] w fun e w'=> ∃u,e=.returned u∧ag 58 10 af w.heap.size w' u L∧Below w.heap.size w w':=by
 have HV:=zH hv;obtain⟨a,cap,rfl,-,hr⟩:=hv
 cases a with
 | none=>
  obtain rfl:L=[]:=by
   cases L with
   | nil=>rfl
   | cons x l=>obtain⟨g,off,h0,_⟩:=hr 0 x rfl;cases h0
  clear hr;have hnil:(binOp .eql 36 (.slice none 0 cap) (.slice none 0 0)).run Tryz.prog w=.ok (.bool true) w:=QZ w 36 58 none 0 cap 0 0 Tryz.underlying36;simp only[PQ];go_enter Tryz.func61,Tryz.ntmps61
  go_wp2_with fail
  go_ret;exact⟨_,rfl,ag.nil _ _,PG _ _⟩
 | some a=>
  clear hr;have b1:=ae w (.cells #[] 58);have o1:ag 58 10 af w.heap.size (w.alloc (.cells #[] 58)) (.slice (some ⟨w.heap.size,0,none⟩) 0 0) []:=mq ay w (Px _) [] (by simp);obtain⟨x',w',k1,o2,g2⟩:=La o1 (Fs.below HV.out b1) (by simp) (by simp;omega);have b2:=zH (o1.below b1 (by simp) g2);have O2:=zH o2;have hnil:(binOp .eql 36 (.slice (some a) L.length cap) (.slice none 0 0)).run Tryz.prog w=.ok (.bool false) w:=QZ w 36 58 (some a) L.length cap 0 0 Tryz.underlying36;clear o1 o2 g2 b1;go_enter Tryz.func61,Tryz.ntmps61
  go_wp2_with fail
  go_ret;exact⟨_,rfl,O2.out,b2.out⟩
theorem vM (S:Nat→Prop)(l:List (List Gly))(v:Value)(w:World)(hv:GrS S w v l)(hl:l.length+lens l≤90000)(hS:∀b,S b→b<w.heap.size):
  Calls Tryz.prog 167 #[v] w fun e w'=> ∃u,e=.returned u∧eY w.heap.size w' u l∧Below w.heap.size w w':=by
 obtain⟨L,hLl,hLv,hLr⟩:=hv;have HC:=zH (vF L v w hLv.1 (by omega));have HST:=zH (fun w1 u (b1:Below w.heap.size w w1) (ho:ag 26 1 aJ w.heap.size w1 u L)=>(⟨hS,b1.size,⟨L,fun _=>False,ho,hLl,fun _ h=>h.elim,fun i s r h=>by omega,fun i s r _ a c=>(hLr i s r a c).keep (Kp.below b1 hS)⟩⟩:nK S id w.heap.size w1 u l 0));obtain⟨va,vc,rfl⟩:=hLv.1.len;rw[hLl]at HC⊢;clear hLv hLr hS hLl;go_enter Tryz.func167,Tryz.ntmps167
 exact QTS
end
section
def jl {α:Type}(z:α)(n:Nat)(l:List α):List α:=l.take n++List.replicate (n-l.length) z
theorem l6 {α:Type}(z:α)(n:Nat)(l:List α):(jl z n l).length=n:=by unfold jl;simp;omega
theorem oh:∀(n:Nat) (l:List (List Gly)),gK n l=(jl [] n l).map sqz
 | 0,l=>by simp[gK,jl]
 | n+1,[]=>by
  have ih:=oh n [];unfold gK;rw[ih];simp[jl,List.replicate_succ,EC]
 | n+1,c::l=>by
  have ih:=oh n l;unfold gK;rw[ih];simp[jl]
theorem LW {α β:Type}(z:α)(z':β)(n:Nat){l:List α}{m:List β}(h:l.length=m.length){i:Nat}{x:α}{y:β}(hx:(jl z n l)[i]? =some x)(hy:(jl z' n m)[i]? =some y):(l[i]? =some x∧m[i]? =some y)∨(x=z∧y=z'):=by
 unfold jl at hx hy
 by_cases hi:i<(l.take n).length
 ·rw[P7 hi]at hx
  have hi':i<(m.take n).length:=by rw[PW]at hi⊢;omega
  rw[P7 hi']at hy;rw[PW]at hi;rw[RN (by omega)]at hx hy;exact .inl ⟨hx,hy⟩
 ·rw[P5 (by omega)]at hx
  have hi':¬i<(m.take n).length:=by rw[PW]at hi⊢;omega
  rw[P5 (by omega)]at hy;rw[List.getElem?_replicate]at hx hy
  split at hx<;>split at hy<;>simp at hx hy
  exact .inr ⟨hx.symm,hy.symm⟩
theorem eY.mono {base base':Nat}{W:World}{v:Value}{l:List (List Gly)}(h:eY base W v l)(hb:base'≤base):eY base' W v l:=by
 obtain⟨L,S,hL,hl,hS,hE⟩:=h.own;exact⟨⟨L,S,hL.mono hb,hl,fun b q=>⟨PY hb (hS b q).1,(hS b q).2⟩,hE⟩⟩
theorem mX (L:List PV):(aA aJ L).length=L.length:=by rw[bQ aX];omega
noncomputable def JH (a b:Value):Sem Value:=Instr.makeSlice 53 a b
theorem Dm (a b:Value):Instr.makeSlice 53 a b=JH a b:=rfl
noncomputable def Fz (args:Array Value):Sem Next:=do pure (.value (←Builtin.copy_ #[53,53] 3 args))
theorem wm (cs:Array Bool)(args:Array Value):builtin .copy #[53,53] 3 cs args=Fz args:=rfl
theorem GN (W:World)(n:Nat)(hn:n≤100000):(JH (.int .i64 (n:Int)) (.int .i64 (n:Int))).run Tryz.prog W=.ok (.slice (some ⟨W.heap.size,0,none⟩) n n) (W.alloc (.cells (aA aJ (List.replicate n aj)).toArray 26)):=by
 obtain⟨i0,hi,hz0,hz1,hz2⟩:=Ql mg;have:=run_makeSlice (P:=Tryz.prog) W 53 26 i0 _ Tryz.underlying53 hi hz0 .i64 .i64 (n:Int) (n:Int) (by omega) (Int.le_refl _) (by rw[hz1];simp;omega) (by rw[hz2];omega) (by omega);unfold JH;rw[this];simp only[Rf,hz1];have e:(Value.slice none 0 0).cells= #[.slice none 0 0]:=rfl;rw[e];have e2:madeCells #[Value.slice none 0 0] (n*1)=(aA aJ (List.replicate n aj)).toArray:=by
  apply Array.ext';rw[toList_madeCells_one,qh,List.map_replicate,RB];rfl
 rw[e2]
theorem Ia {base g:Nat}{W:World}{n:Nat}{L:List PV}{v:Value}(hd:ag 26 1 aJ base W (.slice (some ⟨g,0,none⟩) n n) (List.replicate n aj))(hb:Blk W g 26 (aA aJ (List.replicate n aj)))(hs:Fs 1 aJ W v L)(hm:n≤maxLen)(hbg:base≤g):
  ∃W',(Fz #[.slice (some ⟨g,0,none⟩) n n,v]).run Tryz.prog W=.ok (.value (.int .i64 ((min L.length n:Nat):Int))) W'∧ag 26 1 aJ base W' (.slice (some ⟨g,0,none⟩) n n) (jl aj n L)∧Exc (fun b=>b=g) W W':=by
 obtain⟨i0,hi,hz0,hz1,hz2⟩:=Ql mg;obtain⟨a,c,rfl,hc,hr⟩:=hs
 cases a with
 | none=>
  obtain rfl:L=[]:=by
   cases L with
   | nil=>rfl
   | cons x l=>obtain⟨g,off,h0,_⟩:=hr 0 x rfl;cases h0
  refine⟨W,?_,by simpa[jl] using hd,Exc.refl _ _⟩;unfold Fz;simp[Builtin.copy_,QB Tryz.underlying53,Builtin.lenOf,Builtin.firstCells,sizeOf,typeInfo,hi,hz1,Result.andThen,goInt,storeCells]
 | some a=>
  have hcells:∀j v,(aA aJ (L.take n))[j]? =some v→W.cell? (a.add j)=some v:=by
   intro j v hj;obtain⟨q,i,y,rfl,hq,hi⟩:=jU aX _ j v hj;have hq':L[q]? =some y:=by
    have:=(Pw.1 hq).1;rw[PW]at this
    rwa [RN (by omega)]at hq
   obtain⟨g,off,hg,h0⟩:=hr q y hq';obtain rfl:=PT hg;rw[QV];exact h0 i v hi
  have hlen:(aA aJ (L.take n)).length=Nat.min L.length n*1:=by rw[mX,PW];show min n L.length=min L.length n*1;omega
  have hl:=run_loadCells_list (P:=Tryz.prog) W a (aA aJ (L.take n)) hcells;have hfit:(aA aJ (L.take n)).length≤(aA aJ (List.replicate n aj)).length:=by rw[mX,mX,PW,List.length_replicate];omega
  have hst:=run_storeCells_at (P:=Tryz.prog) g 0 26 (aA aJ (L.take n)) 0 (aA aJ (List.replicate n aj)).toArray W hb (by simpa using hfit) (fun v hv=>by
   simp only[aA,List.mem_flatten,Rm]at hv;obtain⟨ys,⟨y,_,rfl⟩,hy⟩:=hv;exact jQ y v hy)
  simp only[Qr,Ra]at hst;have hcell:∀A:Array Value,Blk W g 26 (aA aJ (List.replicate n aj))→(W.setRow g A).heap[g]? =some (.cells A 26 (0,0)):=fun A h=>setRow_heap _ _ _ _ _ _ h
  obtain⟨A,hA⟩:∃A,A=((aA aJ (List.replicate n aj)).take 0++aA aJ (L.take n)++(aA aJ (List.replicate n aj)).drop (aA aJ (L.take n)).length).toArray:=⟨_,rfl⟩;have hEq:(aA aJ (List.replicate n aj)).take 0++aA aJ (L.take n)++(aA aJ (List.replicate n aj)).drop (aA aJ (L.take n)).length=aA aJ (jl aj n L):=by
   have e3:(aA aJ (L.take n)).length=min n L.length:=by rw[mX,PW]
   have e4:(aA aJ (List.replicate n aj)).drop (min n L.length)=aA aJ (List.replicate (n-L.length) aj):=by
    rw[qh,qh,List.map_replicate,List.map_replicate,List.drop_replicate,show n-min n L.length=n-L.length by omega]
   rw[List.take_zero,Qt,e3,e4];unfold jl;rw[dA]
  have hrow:Blk (W.setRow g A) g 26 (aA aJ (jl aj n L)):=by
   have h1:=hcell A hb;rw[hA,hEq]at h1;rw[hA,hEq];exact h1
  refine⟨W.setRow g A,?_,?_,?_⟩
  ·unfold Fz
   rw[hA];simp[Builtin.copy_,QB Tryz.underlying53,Builtin.lenOf,Builtin.firstCells,sizeOf,typeInfo,hi,hz1,←hlen,hl,hst,Result.andThen,goInt]
  ·have:=Blk.fown (base:=base) (l:=jl aj n L) aX hrow hbg (by rw[l6];exact hm)
   rw[l6]at this;exact this
  ·exact⟨rfl,rfl,rfl,by simp[World.setRow],fun k hk hx=>setRow_other W g k A (fun e=>hx (by omega))⟩
attribute [local go_sem ↓ high] Dm wm
def Pd (b:Bool)(m:List (List Gly))(w:World)(e:Ending)(w':World):Prop:= ∃s:PV,e=.returned (.agg (cz (b,s)).toArray)∧eY w.heap.size w' (pv s) m∧Below w.heap.size w w'
theorem yC (S:Nat→Prop)(x:Bool×PV)(r:bT)(n:Nat)(w:World)(hx:x.1=r.1)(hv:GrS S w (pv x.2) r.2)(hS:∀b,S b→b<w.heap.size)(h1:1≤n)(hn:n≤1000)(hl:r.2.length+lens r.2≤90000):
  Calls Tryz.prog 166 #[.agg (cz x).toArray,.int .i64 (n:Int)] w (Pd r.1 (iZ n r).2 w):=by
 obtain⟨x1,⟨x2,x3,x4⟩⟩:=x;obtain⟨b,l⟩:=r;simp only at hx hv hl;subst hx;obtain⟨L,hLl,hLv,hLr⟩:=hv;have b2:=Oo w (.cells (cz (x1,(x2,x3,x4))).toArray 90) (.cells ([.bool false,.slice none 0 0]:List Value).toArray 90)
 cases x1
 ·have hmr:(iZ n (false,l)).2=(jl [] n l).map sqz:=by rw[←oh];rfl
  rw[hmr];clear hmr;obtain⟨W1,hW1⟩:∃W,W=(w.alloc (.cells (cz (false,(x2,x3,x4))).toArray 90)).alloc (.cells ([.bool false,.slice none 0 0]:List Value).toArray 90):=⟨_,rfl⟩;rw[←hW1]at b2;have hz1:W1.heap.size=w.heap.size+2:=by rw[hW1,PS,PS]
  have hX:Blk W1 w.heap.size 90 (cz (false,(x2,x3,x4))):=by rw[hW1];exact(Qk _ _ (by simp)).trans (PK w _)
  have hR:Blk W1 (w.heap.size+1) 90 [.bool false,.slice none 0 0]:=by
   have:=PK (w.alloc (.cells (cz (false,(x2,x3,x4))).toArray 90)) (.cells ([.bool false,.slice none 0 0]:List Value).toArray 90);rw[PS,←hW1]at this;exact this
  have hmk:=GN W1 n (by omega);obtain⟨W2,hW2⟩:∃W,W=W1.alloc (.cells (aA aJ (List.replicate n aj)).toArray 26):=⟨_,rfl⟩;rw[←hW2]at hmk;have b3:Below W1.heap.size W1 W2:=by rw[hW2];exact ae _ _
  have hB2:Blk W2 W1.heap.size 26 (aA aJ (List.replicate n aj)):=by rw[hW2];exact PK W1 _
  have hO2:ag 26 1 aJ W1.heap.size W2 (.slice (some ⟨W1.heap.size,0,none⟩) n n) (List.replicate n aj):=by
   have:=mq (e:=26) aX W1 (Px _) (List.replicate n aj) (by rw[List.length_replicate];unfold maxLen;omega);rw[List.length_replicate,←hW2]at this;exact this
  have hs2:Fs 1 aJ W2 (pv (x2,x3,x4)) L:=Fs.below (Fs.below hLv.1 b2) b3;obtain⟨W3,hcp,hO3,hE3⟩:=Ia hO2 hB2 hs2 (by unfold maxLen;omega) (Px _);have hX2:=hX.below b3;have x4':W2.cell? ⟨w.heap.size,1,none⟩=some (.slice x2 x3 x4):=hX2.cell 1;have hR3:=zH (hE3.blk (hR.below b3) (by omega));have hB3:Below w.heap.size w W3:=(b2.trans (b3.mono (by omega))).trans (hE3.below (by have:=b3.size;omega) (fun b hb e=>by omega));have HR0:Hid (nK S sqz W1.heap.size W3 (.slice (some ⟨W1.heap.size,0,none⟩) n n) (jl [] n l) 0):=zH ⟨fun b hb=>by have:=hS b hb;omega,by have:=b3.size;have:=hE3.size;omega,⟨jl aj n L,fun _=>False,hO3,by rw[l6,l6],fun _ h=>h.elim,fun i s r h=>by omega,fun i s r _ hs hr=>by
   rcases LW aj [] n hLl hs hr with⟨q1,q2⟩| ⟨rfl,rfl⟩
   ·exact(hLr i s r q1 q2).keep (Kp.below hB3 hS)
   ·exact FsS.nil _ _ _ _⟩⟩
  have hlens:∀(j:Nat) r,(jl [] n l)[j]? =some r→r.length≤90000:=fun j r hr=>by
   unfold jl at hr;have hm:=Qq hr;rcases QR.1 hm with q | q
   ·obtain⟨i,hi⟩:=QP.1 (Rb q)
    have:=pE hi;omega
   ·rw[(List.mem_replicate.1 q).2]
    simp
  have HLE:=zH hlens;have HB3:=zH hB3;have HZ1:=zH hz1;have hpl:(jl ([]:List Gly) n l).length=n:=l6 _ _ _;have HPL:=zH hpl;obtain⟨M,hM⟩:∃M,jl ([]:List Gly) n l=M:=⟨_,rfl⟩;rw[hM]at HR0 HLE HPL⊢;obtain⟨G,hG⟩:∃G,W1.heap.size=G:=⟨_,rfl⟩;rw[hG]at HR0 hmk hcp HZ1;simp only[cz,pv]at hW1 hcp⊢;subst hW1;clear b2 b3 hX hR hB2 hO2 hO3 hE3 hX2 hB3 hs2 hLv hLr hS hW2 hlens hpl hz1 hM hG hLl hl;go_enter Tryz.func166,Tryz.ntmps166
  go_wp2_with fail
  go_loopw [6,7,19] (fun _ _ i wr=> ∃j:Nat,j≤n∧i=.int .i64 j∧Hid (nK S sqz G wr (.slice (some ⟨G,0,none⟩) n n) M j)∧Hid (Below w.heap.size w wr)∧Hid (Blk wr (w.heap.size+1) 90 [.bool false,.slice none 0 0])) (fun _ _ i _=>n-(intOf i).toNat)
  case atStart=>exact⟨0,by omega,rfl,HR0,HB3,hR3⟩
  case round=>
   obtain⟨j,hj,rfl,HR,BW,HRB⟩:=hrel;clear HR0 HB3 hR3
   by_cases hlt:j<n
   ·obtain⟨r,hr⟩:∃r,M[j]? =some r:=⟨M[j]'(by rw[HPL.out];exact hlt),Pz _⟩
    obtain⟨g,⟨s1,s2,s3⟩,hgg,c0,f0,hs⟩:=HR.out.at hr;injection hgg with hgg
    injection hgg with hgg
    subst hgg;simp only[pv]at c0 hs;have HG:=zH (oU r _ wr hs.1 (HLE.out j r hr));have hi0:(j:Int)<(n:Int):=by omega
    have hi1:(0:Int)≤(j:Int):=by omega
    have HRR:=zH hr;have HSZ:=zH (PX wr _ c0);clear hr hs;go_wp2_with fail
    refine HG.out.mono ?_;rintro e w2 ⟨u,rfl,ho,b2⟩;obtain⟨u1,u3,e2⟩:=(ag.sl ah ho).len;obtain⟨k1,k2⟩:=HR.out.step b2 HRR.out (s:=(u1,(sqz r).length,u3)) (by unfold pv;rw[←e2];exact ho);simp only[pv]at k1 k2;subst e2;have c2:w2.cell? ⟨G,j,none⟩=some (.slice s1 s2 s3):=(b2.cell (p:=⟨G,j,none⟩) HSZ.out).trans c0;have f2:w2.frozen? ⟨G,j,none⟩=false:=(b2.frozen (p:=⟨G,j,none⟩) HSZ.out).trans f0;have K1:=zH k1;have K2:=zH (BW.out.trans (k2.below BW.out.size (fun b hb e=>by have:=HZ1.out;omega)));have K3:=zH (k2.blk HRB.out (by have:=HZ1.out;omega));obtain⟨q,hq⟩:∃q,(sqz r).length=q:=⟨_,rfl⟩;rw[hq]at K1 K2 K3⊢;clear k1 k2 ho b2 HG c0 f0 hq;go_wp2_with fail
    go_roundw
    case rel=>exact⟨j+1,by omega,by go_num,K1,K2,K3⟩
    case measure=>(simp[intOf];try omega)
   ·obtain rfl:j=n:=by omega
    have hlt':¬(j:Int)<(j:Int):=by omega
    have hd:=HR.out;have hj2:Hid (nK S sqz G wr (.slice (some ⟨G,0,none⟩) j j) M M.length):=zH (by rw[HPL.out];exact hd);have HD:=zH hj2.out.done;have x0:=HRB.out.cell 0;have x1:=HRB.out.cell 1;have y0:wr.frozen? ⟨w.heap.size+1,0,none⟩=false:=HRB.out.frozen (by simp);have y1:wr.frozen? ⟨w.heap.size+1,1,none⟩=false:=HRB.out.frozen (by simp);simp only[PD,PE]at x0 x1;have HBL:=zH ((HRB.out.set 0 (.bool false)).set 1 (.slice (some ⟨G,0,none⟩) j j));clear hd hj2 HR;go_wp2_with fail
    have B7:=HBL.out;have k0:=B7.cell 0;have k1:=B7.cell 1;simp at k0 k1;refine Qi (v:= .agg #[.bool false,.slice (some ⟨G,0,none⟩) j j]) (by simp[results,Tryz.results166,go_sem,k0,k1]) rfl ?_;refine⟨(some ⟨G,0,none⟩,j,j),rfl,?_,?_⟩
    ·have h1:=HRB.out
     have h2:=h1.set 0 (.bool false);exact((HD.out.mono (by have:=HZ1.out;omega)).sam (aF.set h1 (by decide) 0 _) (aF.set h1 (by decide) 0 _)).sam (aF.set h2 (by decide) 1 _) (aF.set h2 (by decide) 1 _)
    ·exact(BW.out.setCell (by show w.heap.size≤w.heap.size+1;omega) _).setCell (by show w.heap.size≤w.heap.size+1;omega) _
 ·have hmr:(iZ n (true,l)).2=[]:=rfl
  rw[hmr];clear hmr;have B2:=zH b2;simp only[cz,pv]at B2⊢;clear hLv hLr hS hLl b2;go_enter Tryz.func166,Tryz.ntmps166
  go_wp2_with fail
  refine Qi (v:= .agg #[.bool true,.slice none 0 0]) (by simp[results,Tryz.results166,go_sem]) rfl ?_;refine⟨aj,rfl,eY.nil _ _,?_⟩;exact((PG _ w).alloc (Px _) _).alloc (by simp) _
end
end Go.Proofs.YtebabjnngdjceaaGreatDoor
