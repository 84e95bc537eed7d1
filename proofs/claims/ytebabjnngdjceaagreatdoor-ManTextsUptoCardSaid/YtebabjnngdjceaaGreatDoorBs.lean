/- Cut; known() is true. known() is true. Trim, in the program and in the document's answer. The document's own answer for documents: a row squeezed; is it? The document's own answer for documents: side, in, stands, full. The document's own answer for documents: full. Texts, byte by byte; the document' -/
import Derived.Test.YtebabjnngdjceaaGreatDoorDa
import Derived.Deep.RegionWith
import Derived.Deep.LoopGhost
import Derived.Test.YtebabjnngdjceaaGreatDoorZ0
import Derived.Test.YtebabjnngdjceaaGreatDoorH2
import Derived.Lib.AppendZerosOnto
import Derived.Laws.OwnMore
set_option linter.unusedVariables false
set_option linter.unusedSimpArgs false
set_option maxRecDepth 100000
set_option maxHeartbeats 8000000
namespace Go.Proofs.YtebabjnngdjceaaGreatDoor
open Go.RowKit
section
open Go.RowKit
attribute [local go_sem ↓ high] fG lL
end
section
attribute [local go_sem ↓ high] fG lL
def kl:List Gly:=[(97,0),(19968,0),(98,0)]
end
section
attribute [local go_sem ↓ high] fG
def bF:List Gly→Nat
 | []=>0
 | g::l=>if bF l=0∧g.1=32 then 0 else bF l+1
theorem lJ: ∀l:List Gly,bF l≤l.length
 | []=>OW _
 | g::l=>by
  unfold bF
  split
  ·omega
  ·have:=lJ l;simp only[Pe];omega
theorem rU: ∀(l:List Gly) (j:Nat) (g:Gly),bF l≤j→l[j]? =some g→g.1=32
 | [],j,g,_,h=>by simp at h
 | x::l,0,g,hj,h=>by
  simp at h;subst h;unfold bF at hj
  split at hj
  ·rename_i hx;exact hx.2
  ·omega
 | x::l,j+1,g,hj,h=>by
  refine rU l j g ?_ (by simpa using h);unfold bF at hj
  split at hj
  ·rename_i hx;omega
  ·omega
theorem rV: ∀(l:List Gly) (g:Gly),0<bF l→l[bF l-1]? =some g→g.1≠32
 | [],g,h,_=>by simp[bF]at h
 | x::l,g,h,hg=>by
  by_cases hx:bF l=0∧x.1=32
  ·have:bF (x::l)=0:=by unfold bF;rw[Pk hx]
   omega
  ·have e:bF (x::l)=bF l+1:=by conv=>lhs;unfold bF;rw[Pd hx]
   rw[e]at hg
   by_cases h0:bF l=0
   ·rw[h0]at hg
    simp at hg;subst hg;exact fun h32=>hx ⟨h0,h32⟩
   ·have e2:bF l+1-1=bF l-1+1:=by omega
    rw[e2]at hg;exact rV l g (by omega) (by simpa using hg)
theorem nX {l:List Gly} {n:Nat} (hn:n≤l.length) (h1: ∀j g,n≤j→l[j]? =some g→g.1=32) (h2: ∀g,0<n→l[n-1]? =some g→g.1≠32):n=bF l:=by
 have hl:=lJ l
 by_cases h:n<bF l
 ·exfalso
  have hlt:bF l-1<l.length:=by omega
  have hg:l[bF l-1]? =some l[bF l-1]:=OU hlt;exact rV l _ (by omega) hg (h1 _ _ (by omega) hg)
 ·by_cases h':bF l<n
  ·exfalso
   have hlt:n-1<l.length:=by omega
   have hg:l[n-1]? =some l[n-1]:=OU hlt;exact h2 _ (by omega) hg (rU l _ _ (by omega) hg)
  ·omega
def jA (l:List Gly):List Gly:=l.take (bF l)
theorem pQ (l:List Gly):(jA l).length=bF l:=by
 unfold jA;rw[Pg];have:=lJ l;omega
theorem QTJ {P:Prop}(h:P:=by
 have f1':=f1;simp only[Int.natCast_add,Int.natCast_one,Int.natCast_zero,Int.cast_ofNat_Int]at f1';clear s1 f1;go_wp2_with fail
 refine HC.out.mono ?_;rintro e w1 ⟨u,rfl,o1,b1⟩;have O1:Hid (aI wr.heap.size w1 u (jA l)):=zH (by unfold jA;rw[←HN.out];exact o1);clear o1 HC;go_wp2_with fail
 go_ret;exact⟨_,rfl,O1.out,b1⟩):P:=h
theorem rR (l:List Gly) (v:Value) (w:World) (hv:Gs w v l) (hl:l.length≤100000):
  Calls Tryz.prog 91 #[v] w fun e w'=> ∃u,e= .returned u∧aI w.heap.size w' u (jA l)∧Below w.heap.size w w':=by
 have HV:=zH hv;obtain⟨a,cap,rfl⟩:=hv.len;clear hv;go_enter Tryz.func91,Tryz.ntmps91
 go_wp2_with fail
 go_loopw [3] (fun s wr=> ∃n:Nat,n≤l.length∧s= .int .i64 n∧Hid (∀j g,n≤j→l[j]? =some g→g.1=32)∧wr=w) (fun s _=>(intOf s).toNat)
 case atStart=>exact⟨l.length,OW _,rfl,zH (fun j g hj hg=>by rw[Ra hj]at hg;cases hg),rfl⟩
 case round=>
  obtain⟨n,hn,rfl,HB,rfl⟩:=hrel
  by_cases h0:0<n
  ·obtain⟨m,rfl⟩: ∃m,n=m+1:=⟨n-1,by omega⟩
   obtain⟨z,hz⟩: ∃z,l[m]? =some z:=⟨l[m]'(by omega),OU _⟩;obtain⟨g,off,rfl,c0,c1,-⟩:=Gs.at HV.out hz;have hi0:(m:Int)<(l.length:Int):=by omega
   have hi1:(0:Int)≤(m:Int):=by omega
   have HZ:=zH hz;clear hz c1
   by_cases h32:z.1=32
   ·have HN:Hid (∀j g,m≤j→l[j]? =some g→g.1=32):=zH (fun j g hj hg=>by
     by_cases e:j=m
     ·subst e
      rw[HZ.out]at hg;rw[←Ph hg];exact h32
     ·exact HB.out j g (by omega) hg)
    go_wp2_with fail
    go_roundw
    case rel=>exact⟨m,by omega,by go_num,HN,by first | trivial | rfl⟩
    case measure=>(simp[intOf];try omega)
   ·have HN:Hid (m+1=bF l):=zH (nX hn HB.out (fun g _ hg=>by
     rw[show m+1-1=m from rfl,HZ.out]at hg;rw[←Ph hg];exact h32))
    obtain⟨u1,f1,s1,-⟩:=kQ HV.out (m+1) hn;have HC:=zH (fq (l.take (m+1)) u1 wr s1 (by rw[Pg];omega));exact QTJ
  ·obtain rfl:n=0:=by omega
   have HN:Hid (0=bF l):=zH (nX hn HB.out (fun g h _=>absurd h (by omega)));obtain⟨u1,f1,s1,-⟩:=kQ HV.out 0 hn;have HC:=zH (fq (l.take 0) u1 wr s1 (by rw[Pg];omega));exact QTJ
end
section
open Go.RowKit
theorem vP: ∀l:List Gly,jA l=trm l
 | []=>rfl
 | g::l=>by
  have ih:=vP l;have hn:bF l=0↔trm l=[]:=by
   rw[←ih];unfold jA
   constructor
   ·intro h;rw[h];rfl
   ·intro h
    have:=lJ l;have h2:(l.take (bF l)).length=0:=by rw[h];rfl
    rw[Pg]at h2;omega
  unfold jA;rw[fE]
  by_cases hc:bF l=0∧g.1=32
  ·have e:bF (g::l)=0:=by unfold bF;rw[Pk hc]
   rw[e,Pk ⟨hn.1 hc.1,hc.2⟩];rfl
  ·have e:bF (g::l)=bF l+1:=by conv=>lhs;unfold bF;rw[Pd hc]
   rw[e,Pd (fun h=>hc ⟨hn.2 h.1,h.2⟩)];show g::l.take (bF l)=g::trm l;rw[←ih];rfl
def nM (b:Bool) (l:List Gly):Bool:=match l.getLast? with
 | none=>b
 | some g=>g.1 != 32
theorem qH (b:Bool) (g:Gly) (l:List Gly):nM b (g::l)=nM (g.1 != 32) l:=by
 unfold nM
 cases l with
 | nil=>rfl
 | cons x l=>
  rw[List.getLast?_cons_cons]
  cases h:(x::l).getLast? with
  | none=>simp at h
  | some y=>rfl
theorem mD: ∀(b:Bool) (P Q:List Gly),sqA b (P++Q)=sqA b P++sqA (nM b (sqA b P)) Q
 | b,[],Q=>rfl
 | b,g::P,Q=>by
  rw[PR]
  by_cases hg:g.1=32
  ·rw[jC b hg,jC b hg]
   cases b
   ·simpa using mD false P Q
   ·rw[Pk rfl,Pk rfl,mD false P Q,qH]
    rfl
  ·rw[iD b hg,iD b hg,mD true P Q,qH]
   have e:(g.1 != 32)=true:=by simpa using hg
   rw[e];rfl
theorem Oa {base:Nat} {W:World} {x:Value} {l:List Gly} (h:aI base W x l) (hb:base≤W.heap.size) (hl:l.length≤500000) (r s:Int):
  ∃a' c' w',(appG #[x,.slice (some ⟨W.heap.size,0,none⟩) 1 1]).run Tryz.prog (W.alloc (.cells #[.int .i32 r,.int .u8 s] 35))= .ok (.value (.slice a' (l.length+1) c')) w'∧aI base w' (.slice a' (l.length+1) c') (l++ [(r,s)])∧Below base W w':=by
 have b1:=af W (.cells #[.int .i32 r,.int .u8 s] 35);have hu:Gs (W.alloc (.cells #[.int .i32 r,.int .u8 s] 35)) (.slice (some ⟨W.heap.size,0,none⟩) 1 1) [(r,s)]:=bR ah W 35 [(r,s)];obtain⟨x',w',hr,ho,hg,-⟩:=cB (h.keep b1) hu (Pp hb b1.size) (by simp;omega);obtain⟨a',c',e⟩:=(ag.sl ah ho).len;have hbel:=(h.keep b1).below (b1.mono hb) (Pp hb b1.size) hg;have e2:(l++ [(r,s)]).length=l.length+1:=by simp
 rw[e2]at e;subst e;exact⟨a',c',w',hr,ho,hbel⟩
attribute [local go_sem ↓ high] cO
end
section
def gJ (x:Int):List Value:=[.int .i64 x]
theorem FZ (x:Int):(gJ x).length=1:=rfl
end
section
def Ef (k:Int) (tl cl rl ql:Nat):Bool:=
 if 1≤k∧k≤3 then decide (0<tl) else if k=5 then decide (0<cl) else if k=6 then decide (0<rl) else k==4 || (k==7&&decide (0<ql))
end
section
end
section
open Go.RowKit
def dw (e:TypeId) (base:Nat) (W W':World):Prop:= ∀g cur fz,base≤g→W.heap[g]? =some (.cells cur e fz)→W'.heap[g]? =some (.cells cur e fz)
theorem dw.trans {e:TypeId} {base:Nat} {a b c:World} (h:dw e base a b) (k:dw e base b c):dw e base a c:=fun g cur fz hb hg=>k g cur fz hb (h g cur fz hb hg)
theorem dw.below {e:TypeId} {base:Nat} {W W':World} (h:Below W.heap.size W W'):dw e base W W':=fun g _ _ _ hg=>(h.block g (O5.1 hg).1).trans hg
theorem dw.grown {e e':TypeId} {base:Nat} {W W':World} {row:Option Nat} (h:W.grownBy W' row) (hr: ∀g,row=some g→ ∃cur fz,W.heap[g]? =some (.cells cur e' fz)) (he:e≠e'):dw e base W W':=by
 intro g cur fz _ hg;rw[h.block g (O5.1 hg).1 (fun e2=>by
  obtain⟨cur',fz',h2⟩:=hr g e2.symm;rw[hg]at h2;injection h2 with h2
  injection h2 with _ h3
  exact he h3)]
 exact hg
theorem dw.set {e e':TypeId} {base g:Nat} {W:World} {L:List Value} (hb:Blk W g e' L) (he:e≠e') (j:Nat) (v:Value):dw e base W (W.setCell ⟨g,j,none⟩ v):=by
 intro g2 cur fz _ hg;have hne:g2≠g:=fun e2=>by
  rw[e2]at hg;have h1:W.heap[g]? =some (.cells L.toArray e' (0,0)):=hb;rw[h1]at hg;injection hg with hg
  injection hg with _ h3
  exact he h3.symm
 rw[O8 _ _ _ _ (fun e2=>hne e2)];exact hg
theorem ag.sam {α:Type} {e n:Nat} {f:α→List Value} {base:Nat} {W W':World} {x:Value} {l:List α} (h:ag e n f base W x l) (hs:dw e base W W'):ag e n f base W' x l:=by
 refine⟨h.1,?_⟩;rcases h.2 with hn | ⟨g,cap,cur,hx,hb,hgg,rest⟩
 ·exact .inl hn
 ·exact .inr ⟨g,cap,cur,hx,hb,hs g cur _ hb hgg,rest⟩
theorem Oe {α:Type} {P:Program} {W:World} {base t e n bytes:Nat} {f:α→List Value} {i0:TypeInfo} {z:Value} (hf: ∀x,(f x).length=n) (h1: ∀x,∀u∈f x,u.oneCell'=true) (hn:0<n)
  (ht:P.underlying t=some (.slice e)) (hi:P.info? e=some i0) (hz0:i0.zero=some z) (hz1:i0.size=n) (hz2:i0.bytes=bytes) (hzs:z.cells.size=n) (hbt:bytes≤1000)
  {x:Value} {l:List α} (h:ag e n f base W x l) (hb:base≤W.heap.size) (hl:l.length≤500000) (y:α):
  ∃a' c' w',(Builtin.append_ #[t,t] t #[x,.slice (some ⟨W.heap.size,0,none⟩) 1 1]).run P (W.alloc (.cells (f y).toArray e))= .ok (.slice a' (l.length+1) c') w'∧ag e n f base w' (.slice a' (l.length+1) c') (l++ [y])∧
   (W.alloc (.cells (f y).toArray e)).grownBy w' x.ownBlock∧(∀g,x.ownBlock=some g→ ∃cur fz,(W.alloc (.cells (f y).toArray e)).heap[g]? =some (.cells cur e fz)):=by
 have b1:=af W (.cells (f y).toArray e);have hu:Fs n f (W.alloc (.cells (f y).toArray e)) (.slice (some ⟨W.heap.size,0,none⟩) 1 1) [y]:=by
  have:=bR hf W e [y];rw[dS]at this;exact this
 obtain⟨x',w',hr,ho,hg,-⟩:=lX hf h1 hn ht hi hz0 hz1 hz2 hzs hbt (h.keep b1) hu (Pp hb b1.size) (by simp;omega);obtain⟨a',c',e'⟩:=(ag.sl hf ho).len;have e2:(l++ [y]).length=l.length+1:=by simp
 rw[e2]at e';subst e';refine⟨a',c',w',hr,ho,hg,fun g hg'=>?_⟩;obtain⟨-,cur,hc⟩:=(h.keep b1).ty hg';exact⟨cur,_,hc⟩
theorem yx:(Tryz.prog.info? 26).map (fun i=>(i.zero,i.size,i.bytes))=some (some (.slice none 0 0),1,24):=by kernel_rfl
theorem IV:(Tryz.prog.info? 90).map (fun i=>(i.zero,i.size,i.bytes))=some (some (.agg #[.bool false,.slice none 0 0]),2,32):=by kernel_rfl
noncomputable def Dn (args:Array Value):Sem Next:=do pure (.value (←Builtin.append_ #[53,53] 53 args))
theorem iy (cs:Array Bool) (args:Array Value):builtin .append #[53,53] 53 cs args=Dn args:=rfl
noncomputable def appW (args:Array Value):Sem Next:=do pure (.value (←Builtin.append_ #[54,54] 54 args))
theorem iw (cs:Array Bool) (args:Array Value):builtin .append #[54,54] 54 cs args=appW args:=rfl
structure lI (base:Nat) (W:World) (v:Value) (l:List (List Gly)):Prop where
 own: ∃(L:List PV) (S:Nat→Prop),ag 26 1 aS base W v L∧L.length=l.length∧(∀b,S b→base≤b∧ ∃cur fz,W.heap[b]? =some (.cells cur 35 fz))∧
  ∀(i:Nat) s r,L[i]? =some s→l[i]? =some r→FsS S 2 aX W (pv s) r
theorem lI.nil (base:Nat) (W:World):lI base W (.slice none 0 0) []:=⟨⟨[],fun _=>False,ag.nil _ _,rfl,fun _ h=>h.elim,fun i s r h=>by simp at h⟩⟩
theorem lI.sam {base:Nat} {W W':World} {v:Value} {l:List (List Gly)} (h:lI base W v l) (h1:dw 26 base W W') (h2:dw 35 base W W'):lI base W' v l:=by
 obtain⟨L,S,hL,hl,hS,hE⟩:=h.own;have hk:Kp S W W':=fun b hb=>by
  obtain⟨q1,cur,fz,q2⟩:=hS b hb;rw[h2 b cur fz q1 q2,q2]
 exact⟨⟨L,S,hL.sam h1,hl,fun b hb=>by
  obtain⟨q1,cur,fz,q2⟩:=hS b hb;exact⟨q1,cur,fz,h2 b cur fz q1 q2⟩,fun i s r a b=>(hE i s r a b).keep hk⟩⟩
theorem lI.len {base:Nat} {W:World} {v:Value} {l:List (List Gly)} (h:lI base W v l): ∃a cap,v= .slice a l.length cap:=by
 obtain⟨L,S,hL,hl,-,-⟩:=h.own;obtain⟨a,cap,e⟩:=(ag.sl bO hL).len;exact⟨a,cap,hl▸e⟩
theorem lT {α:Type} {e n:Nat} {f:α→List Value} {base:Nat} {W:World} {x:Value} {l:List α} (hf: ∀x,(f x).length=n) (h:ag e n f base W x l):FsS (fun b=>base≤b∧ ∃cur fz,W.heap[b]? =some (.cells cur e fz)) n f W x l:=by
 refine⟨ag.sl hf h,fun a k c e1 hk=>?_⟩;subst e1;rcases h.2 with⟨hn,-⟩| ⟨g,cap,cur,hx,hb,hgg,-⟩
 ·injection hn with e1 e2 e3
  cases e1
 ·injection hx with e1 e2 e3
  injection e1 with e1
  subst e1;exact⟨⟨hb,cur,_,hgg⟩,fun _ i _=>by simp[World.frozen?,hgg]⟩
theorem lI.grs {base:Nat} {W:World} {v:Value} {l:List (List Gly)} (h:lI base W v l):
  GrS (fun b=>base≤b∧ ∃cur e fz,W.heap[b]? =some (.cells cur e fz)∧(e=26∨e=35)) W v l:=by
 obtain⟨L,S,hL,hl,hS,hE⟩:=h.own;refine⟨L,hl,(lT bO hL).mono fun b hb=>?_,fun i s r a b=>(hE i s r a b).mono fun x hx=>?_⟩
 ·obtain⟨q1,cur,fz,q2⟩:=hb
  exact⟨q1,cur,_,fz,q2,.inl rfl⟩
 ·obtain⟨q1,cur,fz,q2⟩:=hS x hx
  exact⟨q1,cur,_,fz,q2,.inr rfl⟩
structure iW (base:Nat) (W:World) (v:Value) (l:List dm):Prop where
 own: ∃(L:List (Bool×PV)) (S:Nat→Prop),ag 90 2 bY base W v L∧L.length=l.length∧(∀b,S b→base≤b∧ ∃cur e fz,W.heap[b]? =some (.cells cur e fz)∧(e=26∨e=35))∧
  ∀(i:Nat) s r,L[i]? =some s→l[i]? =some r→s.1=r.1∧GrS S W (pv s.2) r.2
theorem iW.nil (base:Nat) (W:World):iW base W (.slice none 0 0) []:=⟨⟨[],fun _=>False,ag.nil _ _,rfl,fun _ h=>h.elim,fun i s r h=>by simp at h⟩⟩
theorem iW.len {base:Nat} {W:World} {v:Value} {l:List dm} (h:iW base W v l): ∃a cap,v= .slice a l.length cap:=by
 obtain⟨L,S,hL,hl,-,-⟩:=h.own;obtain⟨a,cap,e⟩:=(ag.sl dI hL).len;exact⟨a,cap,hl▸e⟩
theorem Cw {base:Nat} {W W':World} {S:Nat→Prop} (hS: ∀b,S b→base≤b∧ ∃cur e fz,W.heap[b]? =some (.cells cur e fz)∧(e=26∨e=35)) (h1:dw 26 base W W') (h2:dw 35 base W W'):
  Kp S W W'∧ ∀b,S b→base≤b∧ ∃cur e fz,W'.heap[b]? =some (.cells cur e fz)∧(e=26∨e=35):=by
 have key: ∀b,S b→W'.heap[b]? =W.heap[b]? :=fun b hb=>by
  obtain⟨q1,cur,e,fz,q2,q3⟩:=hS b hb;rcases q3 with rfl | rfl
  ·rw[h1 b cur fz q1 q2,q2]
  ·rw[h2 b cur fz q1 q2,q2]
 refine⟨key,fun b hb=>?_⟩;obtain⟨q1,cur,e,fz,q2,q3⟩:=hS b hb;exact⟨q1,cur,e,fz,by rw[key b hb,q2],q3⟩
theorem iW.held {base:Nat} {W W':World} {v:Value} {l:List dm} (h:iW base W v l) (ho: ∀L,ag 90 2 bY base W v L→ag 90 2 bY base W' v L) (h1:dw 26 base W W') (h2:dw 35 base W W'):iW base W' v l:=by
 obtain⟨L,S,hL,hl,hS,hE⟩:=h.own;obtain⟨k1,t1⟩:=Cw hS h1 h2;exact⟨⟨L,S,ho L hL,hl,t1,fun i s r a b=>⟨(hE i s r a b).1,(hE i s r a b).2.keep k1⟩⟩⟩
theorem iW.sam {base:Nat} {W W':World} {v:Value} {l:List dm} (h:iW base W v l) (h0:dw 90 base W W') (h1:dw 26 base W W') (h2:dw 35 base W W'):iW base W' v l:=h.held (fun L hL=>hL.sam h0) h1 h2
theorem iW.keep {base:Nat} {W W':World} {v:Value} {l:List dm} (h:iW base W v l) (hb:Below W.heap.size W W'):iW base W' v l:=h.sam (dw.below hb) (dw.below hb) (dw.below hb)
theorem iW.trs {base:Nat} {W:World} {v:Value} {l:List dm} (h:iW base W v l):TrS (fun b=>base≤b∧b<W.heap.size) W v l:=by
 obtain⟨L,S,hL,hl,hS,hE⟩:=h.own;refine⟨L,hl,(lT dI hL).mono fun b hb=>?_,fun i s r a b=>⟨(hE i s r a b).1,(hE i s r a b).2.mono fun x hx=>?_⟩⟩
 ·obtain⟨q1,cur,fz,q2⟩:=hb
  exact⟨q1,(O5.1 q2).1⟩
 ·obtain⟨q1,cur,e,fz,q2,-⟩:=hS x hx
  exact⟨q1,(O5.1 q2).1⟩
theorem iW.push {base:Nat} {W:World} {v:Value} {l:List dm} (h:iW base W v l) (hb:base≤W.heap.size) (hl:l.length≤500000) (b:Bool) (s:PV) (r:List (List Gly))
  (hs:GrS (fun b=>base≤b∧ ∃cur e fz,W.heap[b]? =some (.cells cur e fz)∧(e=26∨e=35)) W (pv s) r):
  ∃a' c' w',(appW #[v,.slice (some ⟨W.heap.size,0,none⟩) 1 1]).run Tryz.prog (W.alloc (.cells #[.bool b,pv s] 90))= .ok (.value (.slice a' (l.length+1) c')) w'∧iW base w' (.slice a' (l.length+1) c') (l++ [(b,r)])∧Below base W w'∧
   ∀e,e≠90→dw e base W w':=by
 obtain⟨L,S,hL,hLl,hS,hE⟩:=h.own;obtain⟨i0,hi,hz0,hz1,hz2⟩:=PU IV;obtain⟨a',c',w',hr,ho,hg,hty⟩:=Oe (P:=Tryz.prog) (t:=54) dI rW (by decide) Tryz.underlying54 hi hz0 hz1 hz2 rfl (by decide) hL hb (by omega) (b,s);have b1:=af W (.cells (bY (b,s)).toArray 90);have sam: ∀e,e≠90→dw e base W w':=fun e he=>(dw.below b1).trans (dw.grown hg hty he)
 obtain⟨k1,t1⟩:=Cw hS (sam _ (by decide)) (sam _ (by decide));obtain⟨k2,t2⟩:=Cw (S:=fun b=>base≤b∧ ∃cur e fz,W.heap[b]? =some (.cells cur e fz)∧(e=26∨e=35)) (fun b hb=>hb) (sam _ (by decide)) (sam _ (by decide));rw[hLl]at hr ho;refine⟨a',c',w',?_,⟨⟨L++ [(b,s)],fun b=>S b∨(base≤b∧ ∃cur e fz,W.heap[b]? =some (.cells cur e fz)∧(e=26∨e=35)),ho,by simp[hLl],fun b hb=>?_,fun i x y hx hy=>?_⟩⟩,?_,sam⟩
 ·unfold appW
  simp only[Qh,Qm,PT];rw[show(#[.bool b,pv s]:Array Value)=(bY (b,s)).toArray from rfl,hr];rfl
 ·rcases hb with hb | hb
  ·exact t1 b hb
  ·exact t2 b hb
 ·by_cases hil:i<l.length
  ·rw[PE (by omega)]at hx hy
   exact⟨(hE i x y hx hy).1,((hE i x y hx hy).2.keep k1).mono fun b hb=> .inl hb⟩
  ·have:i=l.length:=by
    have:=(OV.1 hy).1;simp at this;omega
   subst this;rw[Ps (by omega),hLl,QW]at hx;rw[Ps (by omega),QW]at hy;simp at hx hy;subst hx hy;exact⟨rfl,(hs.keep k2).mono fun b hb=> .inr hb⟩
 ·exact(hL.keep b1).below (b1.mono hb) (Pp hb b1.size) hg
end
section
attribute [local go_sem ↓ high] iH gu iy iw
theorem Blk.sam {W W':World} {g e base:Nat} {L:List Value} (h:Blk W g e L) (hb:base≤g) (hs:dw e base W W'):Blk W' g e L:=hs g _ _ hb h
theorem Blk.other {W:World} {g e g':Nat} {L:List Value} (h:Blk W g e L) (hne:g≠g') (j:Nat) (v:Value):Blk (W.setCell ⟨g',j,none⟩ v) g e L:=by
 show(W.setCell ⟨g',j,none⟩ v).heap[g]? =_;rw[O8 _ _ _ _ (fun e2=>hne e2)];exact h
section
variable {w W W':World} {cols C:List UInt8} {rv v:Value} {gb ga al:Bool} {rows:List dm}
end
section
variable {wo W W':World} {x:Bool} {v:Value} {cells:List (List Gly)}
end
def sd (l:List UInt8):List UInt8:=(l.filter side).take 20
end
section
attribute [local go_sem ↓ high] iH gu iy iw
end
section
open Go.RowKit
noncomputable def mnS (args:Array Value):Sem Next:=do pure (.value (←Builtin.min_ #[3,3] 3 args))
theorem l7 (cs:Array Bool) (args:Array Value):builtin .min #[3,3] 3 cs args=mnS args:=rfl
theorem xW (x y z:Int) (hz:(if y<x then y else x)=z) (w:World):(mnS #[.int .i64 x,.int .i64 y]).run Tryz.prog w= .ok (.value (.int .i64 z)) w:=by
 unfold mnS;simp only[Qh,Qm,run_min_int2,PT,hz]
def zNd:List Value:=[.int .i64 0,.int .i64 0,.int .i64 0,.slice none 0 0,.slice none 0 0,.slice none 0 0,.string ⟨#[]⟩,.slice none 0 0,.bool false,.bool false]
section
variable {w W W':World} {x y y':NV}
end
def gW (W:World) (g:Nat) (x:NV):World:=
 ((((((((((W.setCell ⟨g,0,none⟩ (.int .i64 x.kind)).setCell ⟨g,1,none⟩ (.int .i64 x.line)).setCell ⟨g,2,none⟩ (.int .i64 x.n)).setCell ⟨g,3,none⟩ (pv x.text)).setCell ⟨g,4,none⟩ (pv x.kids)).setCell ⟨g,5,none⟩ (pv x.rows)).setCell ⟨g,6,none⟩ (.string ⟨x.cols.toArray⟩)).setCell ⟨g,7,none⟩ (pv x.trows)).setCell ⟨g,8,none⟩ (.bool x.box)).setCell ⟨g,9,none⟩ (.bool x.all))
theorem BG (W:World) (g:Nat) (x:NV) {k:Nat} (h:k≠g):(gW W g x).heap[k]? =W.heap[k]? :=by
 unfold gW;simp only[O8 _ (⟨g,_,none⟩:Addr) _ k h]
theorem BF (W:World) (g:Nat) (x:NV):(gW W g x).heap.size=W.heap.size:=by simp[gW,World.setCell]
theorem EH {W:World} {g:Nat} {e:TypeId} {a0 a1 a2 a3 a4 a5 a6 a7 a8 a9:Value} (h:Blk W g e [a0,a1,a2,a3,a4,a5,a6,a7,a8,a9]) (x:NV):Blk (gW W g x) g e (ae x):=
 (((((((((h.set 0 _).set 1 _).set 2 _).set 3 _).set 4 _).set 5 _).set 6 _).set 7 _).set 8 _).set 9 _
theorem zo {D:Nat} {a W:World} (h:Below D a W) {g:Nat} (hg:D≤g) (x:NV):Below D a (gW W g x):=
 (((((((((h.setCell hg _).setCell hg _).setCell hg _).setCell hg _).setCell hg _).setCell hg _).setCell hg _).setCell hg _).setCell hg _).setCell hg _
end
section
attribute [local go_sem ↓ high] gN l7
theorem fF (W:World) (a:Addr) (v:Value):(W.setCell a v).heap.size=W.heap.size:=by simp[World.setCell]
end
section
open Go.RowKit
theorem kJ:(Tryz.prog.info? 58).map (fun i=>(i.zero,i.size,i.bytes))=some (some (.agg zNd.toArray),10,144):=by kernel_rfl
noncomputable def yP (args:Array Value):Sem Next:=do pure (.value (←Builtin.append_ #[36,36] 36 args))
theorem eH (cs:Array Bool) (args:Array Value):builtin .append #[36,36] 36 cs args=yP args:=rfl
theorem NsS.atR {S:Nat→Prop} {w:World} {a:Option Addr} {k cap:Nat} {l:List Nd} (h:NsS S w (.slice a k cap) l) {j:Nat} {y:Nd} (hy:l[j]? =some y):
  ∃g off x,a=some ⟨g,off,none⟩∧S g∧(∀(i:Nat) c,(ae x)[i]? =some c→w.cell? ⟨g,off+j*10+i,none⟩=some c)∧bV S w x y.hd∧NsS S w (pv x.kids) y.kids:=by
 cases h with
 | mk _ _ L hl hs hh hk=>
  obtain⟨x,hx⟩: ∃x,L[j]? =some x:=⟨L[j]'(by have:=(OV.1 hy).1;omega),OU _⟩;obtain⟨g,off,e,hg,hc⟩:=hs.at hx;exact⟨g,off,x,e,hg,fun i c hi=>by rw[Nat.add_assoc];exact hc i c hi,hh j x y hx hy,hk j x y hx hy⟩
structure dL (SI:Nat→Prop) (base:Nat) (W:World) (v:Value) (l:List Nd):Prop where
 lt: ∀b,SI b→b<base
 sz:base≤W.heap.size
 own: ∃(L:List NV) (S:Nat→Prop),ag 58 10 ae base W v L∧L.length=l.length∧(∀b,S b→SI b∨(base≤b∧b<W.heap.size∧v.ownBlock≠some b))∧
  ∀(i:Nat) x y,L[i]? =some x→l[i]? =some y→bV S W x y.hd∧NsS S W (pv x.kids) y.kids
section
variable {SI:Nat→Prop} {base:Nat} {W W':World} {v:Value} {l:List Nd}
theorem dL.nil (h1: ∀b,SI b→b<base) (h2:base≤W.heap.size):dL SI base W (.slice none 0 0) []:=
 ⟨h1,h2,⟨[],fun _=>False,ag.nil _ _,rfl,fun _ h=>h.elim,fun i x y h=>by simp at h⟩⟩
theorem dL.len (h:dL SI base W v l): ∃a cap,v= .slice a l.length cap:=by
 obtain⟨L,S,hL,hl,-,-⟩:=h.own;obtain⟨a,cap,e⟩:=(ag.sl ay hL).len;exact⟨a,cap,hl▸e⟩
theorem dL.keep (h:dL SI base W v l) (hb:Below W.heap.size W W'):dL SI base W' v l:=by
 obtain⟨L,S,hL,hl,hS,hE⟩:=h.own;have hk:Kp S W W':=fun b hb'=>hb.block b (by
  rcases hS b hb' with q | q
  ·exact O0 (h.lt b q) h.sz
  ·exact q.2.1)
 refine⟨h.lt,Pp h.sz hb.size,⟨L,S,hL.keep hb,hl,fun b hb'=>?_,fun i x y a c=>⟨(hE i x y a c).1.keep hk,(hE i x y a c).2.keep hk⟩⟩⟩;rcases hS b hb' with q | q
 ·exact .inl q
 ·exact .inr ⟨q.1,O0 q.2.1 hb.size,q.2.2⟩
theorem dL.nss (h:dL SI base W v l):NsS (fun b=>SI b∨(base≤b∧b<W.heap.size)) W v l:=by
 obtain⟨L,S,hL,hl,hS,hE⟩:=h.own;have hm: ∀b,S b→SI b∨(base≤b∧b<W.heap.size):=fun b hb=>(hS b hb).imp id fun q=>⟨q.1,q.2.1⟩
 refine .mk _ _ L hl ((lT ay hL).mono fun b hb=> .inr ⟨hb.1,?_⟩) (fun i x y a c=>(hE i x y a c).1.mono hm) (fun i x y a c=>(hE i x y a c).2.mono hm);obtain⟨-,cur,fz,hc⟩:=hb;exact(O5.1 hc).1
end
end
section
theorem MN {α:Type} {n:Nat} {f:α→List Value} {w:World} {s:PV} {l:List α} (h:Fs n f w (pv s) l):s.2.1=l.length:=by
 obtain⟨a,c,e⟩:=h.len;rw[oD e]
theorem full_of {S:Nat→Prop} {w:World} {x:NV} {h:Hd} (hh:bV S w x h) (c:Nat):Ef x.kind x.text.2.1 c x.rows.2.1 x.trows.2.1=aV h (decide (0<c)):=by
 have e1:=MN hh.text.1;obtain⟨a2,c2,e2⟩:=hh.rows.len;obtain⟨a3,c3,e3⟩:=hh.trows.len;rw[e1,oD e2,oD e3,hh.kind];simp only;unfold Ef aV;have p: ∀{α:Type} (l:List α),decide (0<l.length)=decide (l≠ []):=fun l=>by
  cases l<;>simp
 rw[p,p,p]
theorem I5 {α:Type} (l:List α):decide (0<l.length)=jJ l:=by cases l<;>simp[jJ]
structure TS (wo:World) (x:NV) (gy:Nat) (y:NV) (W:World):Prop where
 bel:Below wo.heap.size wo W
 bx:Blk W wo.heap.size 58 (ae x)
 by':Blk W gy 58 (ae y)
 lt:wo.heap.size<gy
theorem CK {h:Hd} (hk:h.kind=4) (b:Bool):aV h b=true:=by unfold aV;rw[hk];rfl
end
section
structure TR (SI:Nat→Prop) (base:Nat) (wo:World) (x:NV) (gy:Nat) (y:NV) (hy:Hd) (W:World):Prop where
 ts:TS wo x gy y W
 hd:bV (fun b=>SI b∨(wo.heap.size<b∧b<gy)) W y hy
 lt: ∀b,SI b→b<base
 le:base≤wo.heap.size
section
variable {SI:Nat→Prop} {base gy:Nat} {wo W W':World} {x y:NV} {hy:Hd} {v:Value} {l:List Nd}
end
end
def btl (t:Bt):Nat:=nlL t.kids+nlL t.opn+t.text.length
theorem MS (y x:Nd):nlN (kE y x)=nlN y+nlN x:=by
 cases y
 simp only[kE,nlN,Nd.hd,Nd.kids,eG,nlL];omega
theorem yO (t:Bt) (x:Nd):btl (jS t x)=btl t+nlN x:=by
 rcases dF t.opn with h | ⟨l,y,h⟩
 ·rw[fJ x h]
  simp only[btl,eG,nlL];omega
 ·rw[gI x h]
  unfold btl;simp only;rw[h,eG,eG];simp only[nlL,MS];omega
theorem rD (t:Bt):btl (jR t)=btl t:=by
 rcases dF t.opn with h | ⟨l,x,h⟩
 ·rw[oG h]
 ·rw[jD h,yO]
  unfold btl;simp only;rw[h,eG];simp only[nlL];omega
theorem KM (t:Bt):nlN (fH t)=3+t.text.length:=by simp[fH,nlN,hdl,nlL,aW,lens,bX]
theorem eP (t:Bt):btl (bH t)≤btl t+3:=by
 unfold bH
 split
 ·unfold btl l8
  simp only[Pm];omega
 ·have h:=yO t (fH t)
  rw[KM]at h;have e:btl (l8 (jS t (fH t)))+(jS t (fH t)).text.length=btl (jS t (fH t)):=by
   unfold btl l8;simp only[Pm];omega
  have e2:(jS t (fH t)).text=t.text:=(qb t _).2.1;rw[e2]at e;omega
theorem qc (a b:List Gly):(jn a b).length≤a.length+b.length+1:=by
 unfold jn
 split
 ·omega
 ·split
  ·omega
  ·simp;omega
theorem Jz (t:Bt) (l:List Gly) (i:Int):btl (gP t l i)≤btl t+l.length+1:=by
 have:=qc t.text l;unfold btl gP;simp only;omega
theorem JA (t:Bt) (x:Nd):btl (pK t x)≤btl t+3+nlN x:=by
 have:=eP t;unfold pK btl at*;simp only[eG,nlL]at*;omega
theorem Es (t:Bt) (x:Nd):btl (vH t x)≤btl t+3+nlN x:=by
 have:=eP t;unfold vH;rw[yO];omega
theorem uL (K:List Int): ∀(n:Nat) (t:Bt),btl (iM K n t)=btl t
 | 0,t=>rfl
 | n+1,t=>by
  unfold iM
  split
  ·rfl
  ·split
   ·rw[uL K n,rD]
   ·rfl
theorem wO (k:Int): ∀(n:Nat) (t:Bt),btl (vZ k n t)=btl t
 | 0,t=>rfl
 | n+1,t=>by
  unfold vZ
  split
  ·rfl
  ·split
   ·exact rD t
   ·rw[wO k n,rD]
theorem jO (t:Bt) (K:List Int):btl (aP t K)≤btl t+3:=by unfold aP;rw[uL];exact eP t
theorem Gu (t:Bt) (k:Int):btl (dB t k).1≤btl t+3:=by
 unfold dB
 split
 ·rw[wO];exact eP t
 ·exact eP t
theorem DU: ∀l:List Nd,nlL (lu l)=nlL l
 | []=>rfl
 | y::r=>by
  have:=DU r
  cases y
  simp only[lu,nlL,nlN,Nd.hd,Nd.kids,eG];omega
theorem Ep (t:Bt):nlL (lh t)≤btl t:=by
 unfold lh btl;rw[eG,DU];omega
section
open Go.RowKit
attribute [local go_sem ↓ high] eH
theorem kt1 {k m:Int} (h1:k=1∨k=2) (h:stands k m=true):aB k m=k:=by unfold aB;rw[Pd];rw[h];simp
theorem kt3 {k m:Int} (h1:k=1∨k=2) (h:stands k m=false):aB k m=3:=by unfold aB;rw[Pk ⟨h1,h⟩]
theorem kt0 {k m:Int} (h1: ¬k=1) (h2: ¬k=2):aB k m=k:=by unfold aB;rw[Pd];omega
end
section
end
section
theorem gF (w:World) (a b:Obj):Below w.heap.size w ((w.alloc a).alloc b):=((OX _ w).alloc (OW _) _).alloc (by simp) _
theorem nR (w:World) (a:Obj) (L:List Value) (e:TypeId):Blk ((w.alloc a).alloc (.cells L.toArray e)) (w.heap.size+1) e L:=by
 have:=O9 (w.alloc a) (.cells L.toArray e);have e1:(w.alloc a).heap.size=w.heap.size+1:=by simp
 rw[e1]at this;exact this
noncomputable def Ny (args:Array Value):Sem Next:=do pure (.value (←Builtin.append_ #[26,3] 26 args))
theorem yK (cs:Array Bool) (args:Array Value):builtin .append #[26,3] 26 cs args=Ny args:=rfl
theorem uz (a:Option Addr) (l c:Nat) (W:World):(qf (.slice a l c) (.int .i64 0)).run Tryz.prog W= .ok (.slice a 0 c) W:=by
 obtain⟨i0,hi,hz0,hz1,hz2⟩:=PU qK;unfold qf;simp[Instr.slice,Instr.sliceBounds,Instr.sliceBound,asIntOf,PZ Tryz.underlying26,sizeOf,typeInfo,hi];intro _
 cases a<;>rfl
theorem JN (W:World) (n:Nat) (h0:0<n) (hn:n≤1000000): ∃G C,n≤G∧G≤maxLen∧C.size=G*2∧(Ny #[.slice none 0 0,.int .i64 (n:Int)]).run Tryz.prog W= .ok (.value (.slice (some ⟨W.heap.size,0,none⟩) n G)) (W.drew.alloc (.cells C 35)):=by
 obtain⟨i0,hi,hz0,hz1,hz2⟩:=PU qK;have h:=Lib.run_append_grow_zeros (P:=Tryz.prog) W 26 3 26 35 i0 _ .i64 .i64 Tryz.underlying26 Tryz.underlying3 hi hz0 none 0 0 [] (run_firstCells_none _ _ _ _ _) n h0 (by rw[hz1];decide) (by omega) (by omega) (by rw[hz2];omega) (growslice_fits (by omega) (by rw[hz2];omega));have hg:=grownCap_ge W (0+n) 0 35;have hm:=grownCap_le_maxLen W (0+n) 0 35 (by unfold maxLen;omega);simp only[Qu]at h hg hm;have e:(Value.agg #[Value.int .i32 0,Value.int .u8 0]).cells= #[.int .i32 0,.int .u8 0]:=rfl;rw[e]at h;obtain⟨C,hC⟩: ∃C,([]:List Value).toArray++Builtin.zeroCells #[Value.int .i32 0,.int .u8 0] n++Builtin.zeroCells #[Value.int .i32 0,.int .u8 0] (grownCap W n 0 35-n)=C:=⟨_,rfl⟩;rw[hC]at h;refine⟨grownCap W n 0 35,C,hg,hm,?_,?_⟩
 ·rw[←hC]
  simp[Builtin.zeroCells];omega
 ·unfold Ny
  simp only[Qh,Qm,PT,h]
attribute [local go_sem ↓ high] fG yK
theorem I6 (n:Nat) (hn:n≤1000000) (w:World):
  Calls Tryz.prog 193 #[.slice none 0 0,.int .i64 (n:Int)] w fun e w'=> ∃u,e= .returned u∧aI w.heap.size w' u []∧Below w.heap.size w w':=by
 by_cases h0:n=0
 ·subst h0
  go_enter Tryz.func193,Tryz.ntmps193
  go_wp2_with fail
  go_ret;exact⟨_,rfl,ag.nil _ _,OX _ _⟩
 ·have hp:(0:Int)<(n:Int):=by omega
  have hn0:(n:Int)≤1000000:=by omega
  obtain⟨G,C,hG,hGm,hC,k1⟩:=JN w n (by omega) hn;have f1: ∀W:World,(qf (.slice none 0 0) (.int .i64 0)).run Tryz.prog W= .ok (.slice none 0 0) W:=fun W=>uz none 0 0 W
  have f2: ∀W:World,(qf (.slice (some ⟨w.heap.size,0,none⟩) n G) (.int .i64 0)).run Tryz.prog W= .ok (.slice (some ⟨w.heap.size,0,none⟩) 0 G) W:=fun W=>uz _ n G W
  have HO:Hid (aI w.heap.size (w.drew.alloc (.cells C 35)) (.slice (some ⟨w.heap.size,0,none⟩) 0 G) []):=zH (World.ownsRow_made w.drew C G (OW _) hGm hC);have HB:=zH ((OX w.heap.size w).drew.alloc (OW _) (.cells C 35));clear h0 hG hGm hC;go_enter Tryz.func193,Tryz.ntmps193
  go_wp2_with fail
  go_ret;exact⟨_,rfl,HO.out,HB.out⟩
attribute [local go_sem ↓ high] cO
theorem AL (a b c:List Gly) (v1 v2 v3:Value) (g:Nat) (w:World) (c0:w.cell? ⟨g,0,none⟩=some v1) (c1:w.cell? ⟨g,1,none⟩=some v2) (c2:w.cell? ⟨g,2,none⟩=some v3) (h1:Gs w v1 a) (h2:Gs w v2 b) (h3:Gs w v3 c) (hl:a.length+b.length+c.length≤400000):
  Calls Tryz.prog 155 #[.slice (some ⟨g,0,none⟩) 3 3] w fun e w'=> ∃u,e= .returned u∧aI w.heap.size w' u (a++b++c)∧Below w.heap.size w w':=by
 have H1:=zH h1;have H2:=zH h2;have H3:=zH h3;obtain⟨a1,k1,rfl⟩:=h1.len;obtain⟨a2,k2,rfl⟩:=h2.len;obtain⟨a3,k3,rfl⟩:=h3.len;have hg:=Po w _ c0;simp only at hg;have HG:=zH (I6 (a.length+b.length+c.length) (by omega));have ha0:(0:Int)≤(a.length:Int):=by omega
 have ha1:(a.length:Int)≤400000:=by omega
 have hb0:(0:Int)≤(b.length:Int):=by omega
 have hb1:(b.length:Int)≤400000:=by omega
 have hc0:(0:Int)≤(c.length:Int):=by omega
 have hc1:(c.length:Int)≤400000:=by omega
 clear h1 h2 h3;go_enter Tryz.func155,Tryz.ntmps155
 go_wp2_with fail
 go_loopw [3,11] (fun s i wr=>wr=w∧((i= .int .i64 0∧s= .int .i64 0)∨(i= .int .i64 1∧s= .int .i64 (a.length:Int))∨(i= .int .i64 2∧s= .int .i64 ((a.length:Int)+(b.length:Int)))∨(i= .int .i64 3∧s= .int .i64 ((a.length:Int)+(b.length:Int)+(c.length:Int))))) (fun _ i _=>4-(intOf i).toNat)
 case atStart=>exact⟨rfl,.inl ⟨rfl,rfl⟩⟩
 case round=>
  obtain⟨rfl,hcase⟩:=hrel;rcases hcase with⟨rfl,rfl⟩| ⟨rfl,rfl⟩| ⟨rfl,rfl⟩| ⟨rfl,rfl⟩
  ·go_wp2_with fail
   go_roundw
   case rel=>exact⟨by first | trivial | rfl,.inr (.inl ⟨by first | trivial | rfl,by first | trivial | rfl⟩)⟩
   case measure=>simp[intOf]
  ·go_wp2_with fail
   go_roundw
   case rel=>exact⟨by first | trivial | rfl,.inr (.inr (.inl ⟨by first | trivial | rfl,by first | trivial | rfl⟩))⟩
   case measure=>simp[intOf]
  ·go_wp2_with fail
   go_roundw
   case rel=>exact⟨by first | trivial | rfl,.inr (.inr (.inr ⟨by first | trivial | rfl,by first | trivial | rfl⟩))⟩
   case measure=>simp[intOf]
  ·go_wp2_with fail
   refine(HG.out _).mono ?_;rintro e w1 ⟨u,rfl,o1,b1⟩;have z1:=b1.size;have q0:=(b1.cell (p:=⟨g,0,none⟩) hg).trans c0;have q1:=(b1.cell (p:=⟨g,1,none⟩) hg).trans c1;have q2:=(b1.cell (p:=⟨g,2,none⟩) hg).trans c2;obtain⟨x1,w2,j1,o2,g2,-⟩:=cB o1 (Fs.below H1.out b1) z1 (by simp;omega);rw[Qa]at o2;have b2:=o1.below b1 z1 g2;obtain⟨x2,w3,j2,o3,g3,-⟩:=cB o2 (Fs.below H2.out b2) b2.size (by omega);have b3:=o2.below b2 b2.size g3;obtain⟨x3,w4,j3,o4,g4,-⟩:=cB o3 (Fs.below H3.out b3) b3.size (by rw[Pb];omega);have O4:=zH o4;have B4:=zH (o3.below b3 b3.size g4);have r0:=(b2.cell (p:=⟨g,0,none⟩) hg).trans c0;have r1:=(b2.cell (p:=⟨g,1,none⟩) hg).trans c1;have r2:=(b2.cell (p:=⟨g,2,none⟩) hg).trans c2;have s0:=(b3.cell (p:=⟨g,0,none⟩) hg).trans c0;have s1:=(b3.cell (p:=⟨g,1,none⟩) hg).trans c1;have s2:=(b3.cell (p:=⟨g,2,none⟩) hg).trans c2;clear o1 b1 o2 g2 b2 o3 g3 o4 g4 b3 HG;go_wp2_with fail
   go_loopw [6,27] (fun s i wr=>(i= .int .i64 0∧s=u∧wr=w1)∨(i= .int .i64 1∧s=x1∧wr=w2)∨(i= .int .i64 2∧s=x2∧wr=w3)∨(i= .int .i64 3∧s=x3∧wr=w4)) (fun _ i _=>4-(intOf i).toNat)
   case atStart=>exact .inl ⟨rfl,rfl,rfl⟩
   case round=>
    rcases hrel with⟨rfl,rfl,rfl⟩| ⟨rfl,rfl,rfl⟩| ⟨rfl,rfl,rfl⟩| ⟨rfl,rfl,rfl⟩
    ·go_wp2_with fail
     go_roundw
     case rel=>exact .inr (.inl ⟨by first | trivial | rfl,by first | trivial | rfl,by first | trivial | rfl⟩)
     case measure=>simp[intOf]
    ·go_wp2_with fail
     go_roundw
     case rel=>exact .inr (.inr (.inl ⟨by first | trivial | rfl,by first | trivial | rfl,by first | trivial | rfl⟩))
     case measure=>simp[intOf]
    ·go_wp2_with fail
     go_roundw
     case rel=>exact .inr (.inr (.inr ⟨by first | trivial | rfl,by first | trivial | rfl,by first | trivial | rfl⟩))
     case measure=>simp[intOf]
    ·go_wp2_with fail
     go_ret;exact⟨_,rfl,O4.out,B4.out⟩
theorem Nc (a:List Gly):jn [] a=a:=rfl
theorem DY (a:List Gly):jn a []=a:=by
 unfold jn
 split
 ·rename_i h;rw[h]
 ·rfl
theorem Nf (a b:List Gly):(jn a b).length=a.length+b.length+(if a=[]∨b=[] then 0 else 1):=by
 unfold jn
 by_cases ha:a=[]
 ·simp[ha]
 ·by_cases hb:b=[]
  ·simp[ha,hb]
  ·simp[ha,hb];omega
theorem QTK {P:Prop}(h:P:=by
 go_wp2_with fail
 refine HC.out.mono ?_;rintro e w1 ⟨x,rfl,o1,b1⟩;have O1:=zH o1;have B1:=zH b1;clear o1 b1 HC;go_wp2_with fail
 go_ret;exact⟨_,rfl,O1.out,B1.out⟩):P:=h
theorem vT (a b:List Gly) (v u:Value) (w:World) (hv:Gs w v a) (hu:Gs w u b) (hl:a.length+b.length≤100000):
  Calls Tryz.prog 127 #[v,u] w fun e w'=> ∃x,e= .returned x∧aI w.heap.size w' x (jn a b)∧Below w.heap.size w w':=by
 obtain⟨aa,ca,rfl⟩:=hv.len;obtain⟨ab,cb,rfl⟩:=hu.len
 by_cases ha:a=[]
 ·have e:jn a b=b:=by rw[ha];rfl
  rw[e];have HC:=zH (fq b _ w hu (by omega));subst ha;clear hv hu e;simp only[Pm];go_enter Tryz.func127,Tryz.ntmps127
  exact QTK
 ·have hal:0<a.length:=PS.2 ha
  have ha0: ¬(a.length:Int)=0:=by omega
  by_cases hb:b=[]
  ·have e:jn a b=a:=by rw[hb];exact DY a
   rw[e];have HC:=zH (fq a _ w hv (by omega));subst hb;clear hv hu e ha hal;simp only[Pm];go_enter Tryz.func127,Tryz.ntmps127
   exact QTK
  ·have hbl:0<b.length:=PS.2 hb
   have hb0: ¬(b.length:Int)=0:=by omega
   have e:jn a b=a++ [(32,0)]++b:=by unfold jn;rw[Pd ha,Pd hb]
   rw[e];have bl:=af w (.cells #[.int .i32 32,.int .u8 0] 35);have g2:Gs (w.alloc (.cells #[.int .i32 32,.int .u8 0] 35)) (.slice (some ⟨w.heap.size,0,none⟩) 1 1) [(32,0)]:=bR ah w 35 [(32,0)];have bl2:=af (w.alloc (.cells #[.int .i32 32,.int .u8 0] 35)) (.cells #[.slice aa a.length ca,.slice (some ⟨w.heap.size,0,none⟩) 1 1,.slice ab b.length cb] 26);have hbk:Blk ((w.alloc (.cells #[.int .i32 32,.int .u8 0] 35)).alloc (.cells #[.slice aa a.length ca,.slice (some ⟨w.heap.size,0,none⟩) 1 1,.slice ab b.length cb] 26)) (w.heap.size+1) 26 [.slice aa a.length ca,.slice (some ⟨w.heap.size,0,none⟩) 1 1,.slice ab b.length cb]:=nR w _ [.slice aa a.length ca,.slice (some ⟨w.heap.size,0,none⟩) 1 1,.slice ab b.length cb] _;have hb2:=gF w (.cells #[.int .i32 32,.int .u8 0] 35) (.cells #[.slice aa a.length ca,.slice (some ⟨w.heap.size,0,none⟩) 1 1,.slice ab b.length cb] 26);have HC:=zH (AL a [(32,0)] b _ _ _ (w.heap.size+1) _ (hbk.cell 0) (hbk.cell 1) (hbk.cell 2) (Fs.below hv hb2) (Fs.below g2 bl2) (Fs.below hu hb2) (by simp;omega));have HB:=zH hb2;clear hv hu e ha hal hb hbl bl g2 bl2 hbk hb2;go_enter Tryz.func127,Tryz.ntmps127
   go_wp2_with fail
   refine HC.out.mono ?_;rintro e w1 ⟨x,rfl,o1,b1⟩;have O1:=zH (ag.mono (base':=w.heap.size) o1 HB.out.size);have B1:=zH (HB.out.trans (b1.mono HB.out.size));clear o1 b1 HC;go_wp2_with fail
   go_ret;exact⟨_,rfl,O1.out,B1.out⟩
end
section
def LB (l:List Gly):Bool:=match l.getLast? with
 | none=>false
 | some g=>g.1==32
def due (l:List Gly):Bool:=LB l&& !(sqz l).isEmpty
theorem mQ (l:List Gly) (g:Gly):LB (l++ [g])=(g.1==32):=by simp[LB]
theorem vR {g:Gly} (h:g.1=32): ∀l:List Gly,trm (l++ [g])=trm l
 | []=>by simp[trm,h]
 | x::l=>by
  rw[PR,fE,vR h l,fE]
theorem pO {g:Gly} (h:g.1≠32): ∀l:List Gly,trm (l++ [g])=l++ [g]
 | []=>by simp[trm,h]
 | x::l=>by
  rw[PR,fE,pO h l,Pd (fun k=>by simp at k)]
theorem pU {g:Gly} (h:g.1=32) (l:List Gly):sqz (l++ [g])=sqz l:=by unfold sqz;rw[vR h]
theorem zg: ∀(n:Nat) (l:List Gly),l.length=n→sqA false l=sqz l++(if due l then [(32,0)] else [])
 | 0,l,h=>by
  rw[PH h];rfl
 | n+1,l,h=>by
  rcases QQ l with rfl | ⟨Q,b,rfl⟩
  ·rfl
  rw[List.concat_eq_append]at h ⊢;have ih:=zg n Q (by simpa using h);unfold due;rw[mQ]
  by_cases hb:b.1=32
  ·rw[pU hb,mD,jC _ hb]
   have e1:(b.1==32)=true:=by simpa using hb
   rw[e1,Bool.true_and];have e0:sqA false []=[]:=rfl;rw[e0]
   by_cases hd:due Q=true
   ·rw[Pk hd]at ih
    have hne:(!(sqz Q).isEmpty)=true:=by unfold due at hd;rw[PI]at hd;exact hd.2
    rw[ih,hne];simp[nM]
   ·rw[Pd hd,Pn]at ih
    rw[ih]
    by_cases hq:sqz Q=[]
    ·rw[hq];rfl
    ·have hne:(!(sqz Q).isEmpty)=true:=by simpa using hq
     rw[hne];have hend:LB Q=false:=by
      unfold due at hd;rw[hne,Bool.and_true]at hd
      simpa using hd
     have hl:nM false (sqz Q)=true:=by
      rcases QQ Q with rfl | ⟨R,c,rfl⟩
      ·exact absurd rfl hq
      ·rw[List.concat_eq_append]at hend ih ⊢
       rw[mQ]at hend;have hc:c.1≠32:=by simpa using hend
       rw[←ih,mD,iD _ hc];have e0:sqA true []=[]:=rfl;rw[e0];simp[nM,hc]
     rw[hl]
  ·have e1:(b.1==32)=false:=by simpa using hb
   rw[e1,Bool.false_and];unfold sqz;rw[pO hb];simp
theorem Kr (l:List Gly):sqA false l=sqz l++(if due l then [(32,0)] else []):=zg _ l rfl
theorem EE {g:Gly} (h:g.1≠32) (l:List Gly):sqz (l++ [g])=sqz l++(if due l then [(32,0)] else [])++ [g]:=by
 rw[←Kr];unfold sqz;rw[pO h,mD,iD _ h];rfl
theorem Gj {g:Gly} (h:g.1=32) (l:List Gly):due (l++ [g])= !(sqz l).isEmpty:=by
 unfold due;rw[mQ,pU h,show(g.1==32)=true by simpa using h,Bool.true_and]
theorem Gi {g:Gly} (h:g.1≠32) (l:List Gly):due (l++ [g])=false:=by
 unfold due;rw[mQ,show(g.1==32)=false by simpa using h,Bool.false_and]
theorem take_snoc' {α:Type} {l:List α} {j:Nat} {x:α} (h:l[j]? =some x):l.take (j+1)=l.take j++ [x]:=by
 rw[PD,h];rfl
theorem ag.blt {α:Type} {e n:Nat} {f:α→List Value} {base:Nat} {W:World} {x:Value} {l:List α} (h:ag e n f base W x l) {g:Nat} (hg:x.ownBlock=some g):g<W.heap.size:=by
 obtain⟨-,cur,hc⟩:=h.ty hg;exact(O5.1 hc).1
theorem CF {base:Nat} {W:World} {x:Value} {l:List Gly} (h:aI base W x l) (hb:base≤W.heap.size) (hl:l.length≤500000) (r s:Int):
  ∃a' c' w',(appG #[x,.slice (some ⟨W.heap.size,0,none⟩) 1 1]).run Tryz.prog (W.alloc (.cells #[.int .i32 r,.int .u8 s] 35))= .ok (.value (.slice a' (l.length+1) c')) w'∧aI base w' (.slice a' (l.length+1) c') (l++ [(r,s)])∧Below base W w'∧Exc (fun b=>x.ownBlock=some b) W w':=by
 have b1:=af W (.cells #[.int .i32 r,.int .u8 s] 35);have hu:Gs (W.alloc (.cells #[.int .i32 r,.int .u8 s] 35)) (.slice (some ⟨W.heap.size,0,none⟩) 1 1) [(r,s)]:=bR ah W 35 [(r,s)];obtain⟨x',w',hr,ho,hg,-⟩:=cB (h.keep b1) hu (Pp hb b1.size) (by simp;omega);obtain⟨a',c',e⟩:=(ag.sl ah ho).len;have hbel:=(h.keep b1).below (b1.mono hb) (Pp hb b1.size) hg;have e2:(l++ [(r,s)]).length=l.length+1:=by simp
 rw[e2]at e;subst e;refine⟨a',c',w',hr,ho,hbel,⟨hbel.os,hbel.tape,hbel.output,hbel.size,fun k hk hx=>?_⟩⟩;exact(hg.block k (O0 hk b1.size) (fun e=>hx e.symm)).trans (b1.block k hk)
attribute [local go_sem ↓ high] cO
theorem QTQ {P:Prop}(h:P:=by
 go_wp2_with fail
 go_roundw
 case rel=>exact⟨j+1,by omega,by go_num,by rw[HTS.out,HD.out],by rw[HTS.out,HN.out];exact H2,B2⟩
 case measure=>(simp[intOf];try omega)):P:=h
theorem oF (l:List Gly) (v:Value) (w:World) (hv:Gs w v l) (hl:l.length≤90000):
  Calls Tryz.prog 202 #[v] w fun e w'=> ∃u,e= .returned u∧aI w.heap.size w' u (sqz l)∧Below w.heap.size w w':=by
 have HV:=zH hv;obtain⟨va,vc,rfl⟩:=hv.len;clear hv;go_enter Tryz.func202,Tryz.ntmps202
 go_wp2_with fail
 go_step3
 go_wp2_with fail
 go_step3
 go_wp2_with fail
 go_loopw [3,4,9] (fun s q i wr=> ∃j:Nat,j≤l.length∧i= .int .i64 j∧q= .bool (due (l.take j))∧Hid (aI w.heap.size wr s (sqz (l.take j)))∧Hid (Below w.heap.size w wr)) (fun _ _ i _=>l.length-(intOf i).toNat)
 case atStart=>exact⟨0,by omega,rfl,rfl,zH (ag.nil _ _),zH (OX _ _)⟩
 case round=>
  obtain⟨j,hj,rfl,rfl,HO,BW⟩:=hrel;have hsl:=xy (l.take j);rw[Pg]at hsl;obtain⟨sa,sc,hs⟩:=(ag.sl ah HO.out).len;subst hs
  by_cases hlt:j<l.length
  ·obtain⟨z,hz⟩: ∃z,l[j]? =some z:=⟨l[j],OU hlt⟩
   have HTS:=zH (take_snoc' hz);obtain⟨g,off,rfl,c0,c1,-⟩:=Gs.at (Fs.below HV.out BW.out) hz;have hi0:(j:Int)<(l.length:Int):=by omega
   have hi1:(0:Int)≤(j:Int):=by omega
   obtain⟨z0,z1⟩:=z;simp only at c0 c1;have bl:=af wr (.cells #[.int .i32 z0,.int .u8 z1] 35);have BL:=zH (BW.out.trans (bl.mono BW.out.size));have HOL:=zH (HO.out.keep bl);clear hz
   by_cases h32:z0=32
   ·have HN:=zH (pU (g:=(z0,z1)) h32 (l.take j))
    have HD:=zH (Gj (g:=(z0,z1)) h32 (l.take j));subst h32;obtain⟨O,hO⟩: ∃O,sqz (l.take j)=O:=⟨_,rfl⟩;rw[hO]at HN HD HOL ⊢
    by_cases hne:O=[]
    ·subst hne
     have HD2:Hid (due (l.take j++ [(32,z1)])=false):=zH (by rw[HD.out];rfl);clear hO hsl HO bl HD;go_wp2_with fail
     go_roundw
     case rel=>exact⟨j+1,by omega,by go_num,by rw[HTS.out,HD2.out],by rw[HTS.out,HN.out];exact HOL,BL⟩
     case measure=>(simp[intOf];try omega)
    ·have HD2:Hid (due (l.take j++ [(32,z1)])=true):=zH (by rw[HD.out];simpa using hne)
     have p0:0<O.length:=PS.2 hne;obtain⟨n,hn⟩: ∃n,O.length=n:=⟨_,rfl⟩;rw[hn]at p0 ⊢;have p1:(0:Int)<(n:Int):=by omega
     have HHN:=zH hn;clear hO hsl hn HO bl HD hne;go_wp2_with fail
     go_roundw
     case rel=>exact⟨j+1,by omega,by go_num,by rw[HTS.out,HD2.out],by rw[HTS.out,HN.out];exact HHN.out▸HOL,BL⟩
     case measure=>(simp[intOf];try omega)
   ·have HN:=zH (EE (g:=(z0,z1)) h32 (l.take j))
    have HD:=zH (Gi (g:=(z0,z1)) h32 (l.take j));have e32:(z0==32)=false:=by simpa using h32
    have hX:Blk (wr.alloc (.cells #[.int .i32 z0,.int .u8 z1] 35)) wr.heap.size 35 [.int .i32 z0,.int .u8 z1]:=O9 wr _;have hown:(Value.slice sa (sqz (l.take j)).length sc).ownBlock≠some wr.heap.size:=fun e=>by have:=HO.out.blt e;omega
    by_cases hdu:due (l.take j)=true
    ·rw[Pk hdu]at HN
     obtain⟨a1,n1,w1,hr1,ho1,hb1,he1⟩:=CF HOL.out BL.out.size (by omega) 32 0;have hX1:=he1.blk hX hown;have x0:w1.cell? ⟨wr.heap.size,0,none⟩=some (.int .i32 z0):=hX1.cell 0;have x1:w1.cell? ⟨wr.heap.size,1,none⟩=some (.int .u8 z1):=hX1.cell 1;have B1:=BL.out.trans hb1;obtain⟨a2,n2,w2,hr2,ho2,hb2,-⟩:=CF ho1 B1.size (by simp;omega) z0 z1;have B2:=zH (B1.trans hb2);rw[Pb]at hr2 ho2;simp only[Pe,Pm,Qu]at hr2 ho2;have H2:=zH ho2;rw[hdu];obtain⟨O,hO⟩: ∃O,sqz (l.take j)=O:=⟨_,rfl⟩;rw[hO]at HN H2 hr1 hr2 hsl ⊢;obtain⟨n,hn⟩: ∃n,O.length=n:=⟨_,rfl⟩;rw[hn]at hr1 hr2 H2 ⊢;rw[Pf]at hr1;clear hO hsl hn HO bl h32 hdu hX hX1 hown ho1 hb1 he1 B1 ho2 hb2 HOL;exact QTQ
    ·have hdf:due (l.take j)=false:=by simpa using hdu
     rw[hdf]at HN;simp only[PO,QO,Pn]at HN;obtain⟨a2,n2,w2,hr2,ho2,hb2,-⟩:=CF HOL.out BL.out.size (by omega) z0 z1;have B2:=zH (BL.out.trans hb2);have H2:=zH ho2;rw[hdf];obtain⟨O,hO⟩: ∃O,sqz (l.take j)=O:=⟨_,rfl⟩;rw[hO]at HN H2 hr2 hsl ⊢;obtain⟨n,hn⟩: ∃n,O.length=n:=⟨_,rfl⟩;rw[hn]at hr2 H2 ⊢;rw[Pf]at hr2;clear hO hsl hn HO bl h32 hdu hdf hX hown ho2 hb2 HOL;exact QTQ
  ·obtain rfl:j=l.length:=by omega
   have hlt': ¬(l.length:Int)<(l.length:Int):=by omega
   rw[PG]at HO ⊢;go_wp2_with fail
   go_ret;exact⟨_,rfl,HO.out,BW.out⟩
end
def pst (m k:Int):Bool:=if k=1 then m==0 else if k=2 then m==1 else true
theorem zD (m k:Int) (w:World):Calls Tryz.prog 170 #[.int .i64 m,.int .i64 k] w fun e w'=>e= .returned (.bool (pst m k))∧w=w':=by
 unfold pst
 by_cases h1:k=1
 ·subst h1
  rw[Pk rfl];go_enter Tryz.func170,Tryz.ntmps170
  go_wp2_with fail
  go_ret;exact⟨rfl,rfl⟩
 ·rw[Pd h1]
  have n1:(k==1)=false:=by simpa using h1
  by_cases h2:k=2
  ·subst h2
   rw[Pk rfl];go_enter Tryz.func170,Tryz.ntmps170
   go_wp2_with fail
   go_ret;exact⟨rfl,rfl⟩
  ·rw[Pd h2]
   have n2:(k==2)=false:=by simpa using h2
   clear h1 h2;go_enter Tryz.func170,Tryz.ntmps170
   go_wp2_with fail
   go_ret;exact⟨rfl,rfl⟩
theorem iL {a b:Bool} (h:a=b):Ending.returned (.bool a)= .returned (.bool b):=by rw[h]
theorem tL (x:NV) (w:World):
  Calls Tryz.prog 171 #[.agg (ae x).toArray] w fun e w'=>e= .returned (.bool (!Ef x.kind x.text.2.1 x.kids.2.1 x.rows.2.1 x.trows.2.1))∧Below w.heap.size w w':=by
 have B1:=zH (af w (.cells (ae x).toArray 58));obtain⟨k,xl,xn,⟨t1,t2,t3⟩,⟨k1,k2,k3⟩,⟨r1,r2,r3⟩,xc,⟨q1,q2,q3⟩,xb,xa⟩:=x;simp only[ae,pv]at B1 ⊢;unfold Ef
 by_cases h1:k=1
 ·subst h1
  have HF:Hid ((((t2:Nat):Int)==0)= !decide (0<t2)):=zH (by cases t2<;>simp<;>omega);go_enter Tryz.func171,Tryz.ntmps171
  go_wp2_with fail
  go_ret;exact⟨iL (by first | (simp;done)| (have:=HF.out;simpa using this)),B1.out⟩
 ·have n1:(k==1)=false:=by simpa using h1
  by_cases h2:k=2
  ·subst h2
   have HF:Hid ((((t2:Nat):Int)==0)= !decide (0<t2)):=zH (by cases t2<;>simp<;>omega);clear h1;go_enter Tryz.func171,Tryz.ntmps171
   go_wp2_with fail
   go_ret;exact⟨iL (by first | (simp;done)| (have:=HF.out;simpa using this)),B1.out⟩
  ·have n2:(k==2)=false:=by simpa using h2
   by_cases h3:k=3
   ·subst h3
    have HF:Hid ((((t2:Nat):Int)==0)= !decide (0<t2)):=zH (by cases t2<;>simp<;>omega);clear h1 h2;go_enter Tryz.func171,Tryz.ntmps171
    go_wp2_with fail
    go_ret;exact⟨iL (by first | (simp;done)| (have:=HF.out;simpa using this)),B1.out⟩
   ·have n3:(k==3)=false:=by simpa using h3
    by_cases h4:k=4
    ·subst h4
     clear h1 h2 h3;go_enter Tryz.func171,Tryz.ntmps171
     go_wp2_with fail
     go_ret;exact⟨iL (by simp),B1.out⟩
    ·have n4:(k==4)=false:=by simpa using h4
     by_cases h5:k=5
     ·subst h5
      have HF:Hid ((((k2:Nat):Int)==0)= !decide (0<k2)):=zH (by cases k2<;>simp<;>omega);clear h1 h2 h3 h4;go_enter Tryz.func171,Tryz.ntmps171
      go_wp2_with fail
      go_ret;exact⟨iL (by first | (simp;done)| (have:=HF.out;simpa using this)),B1.out⟩
     ·have n5:(k==5)=false:=by simpa using h5
      by_cases h6:k=6
      ·subst h6
       have HF:Hid ((((r2:Nat):Int)==0)= !decide (0<r2)):=zH (by cases r2<;>simp<;>omega);clear h1 h2 h3 h4 h5;go_enter Tryz.func171,Tryz.ntmps171
       go_wp2_with fail
       go_ret;exact⟨iL (by first | (simp;done)| (have:=HF.out;simpa using this)),B1.out⟩
      ·have n6:(k==6)=false:=by simpa using h6
       by_cases h7:k=7
       ·subst h7
        have HF:Hid ((((q2:Nat):Int)==0)= !decide (0<q2)):=zH (by cases q2<;>simp<;>omega);clear h1 h2 h3 h4 h5 h6;go_enter Tryz.func171,Tryz.ntmps171
        go_wp2_with fail
        go_ret;exact⟨iL (by first | (simp;done)| (have:=HF.out;simpa using this)),B1.out⟩
       ·have n7:(k==7)=false:=by simpa using h7
        have HR:Hid ((!(if 1≤k∧k≤3 then decide (0<t2) else if k=5 then decide (0<k2) else if k=6 then decide (0<r2) else k==4 || (k==7&&decide (0<q2))))=true):=zH (by rw[Pd (by omega),Pd h5,Pd h6,n4,n7];rfl);rw[HR.out];clear h1 h2 h3 h4 h5 h6 h7;go_enter Tryz.func171,Tryz.ntmps171
        go_wp2_with fail
        go_ret;exact⟨rfl,B1.out⟩
abbrev aj:PV:=(none,0,0)
def jZ (x:NV):NV:=
 ⟨x.kind,x.line,if x.kind=4∨x.kind=5 then x.n else 0,if 1≤x.kind∧x.kind≤4 then x.text else aj,if fI x.kind then x.kids else aj,if x.kind=6 then x.rows else aj,if x.kind=7 then x.cols else [],if x.kind=7 then x.trows else aj,if x.kind=7 then x.box else false,if x.kind=7 then x.all else false⟩
def lF (h:Hd):Hd:=
 ⟨h.kind,h.line,if h.kind=4∨h.kind=5 then h.n else 0,if 1≤h.kind∧h.kind≤4 then h.text else [],if h.kind=6 then h.rows else [],if h.kind=7 then h.grid else aW⟩
theorem bV.own {S:Nat→Prop} {w:World} {x:NV} {h:Hd} (k:bV S w x h):bV S w (jZ x) (lF h):=by
 have e:=k.kind;unfold jZ lF;rw[←e];have c1:(if x.kind=7 then x.cols else [])=(if x.kind=7 then h.grid else aW).cols:=by split;exact k.cols;rfl
 have c2:(if x.kind=7 then x.box else false)=(if x.kind=7 then h.grid else aW).box:=by split;exact k.box;rfl
 have c3:(if x.kind=7 then x.all else false)=(if x.kind=7 then h.grid else aW).all:=by split;exact k.all;rfl
 refine⟨rfl,k.line,?_,?_,?_,c1,?_,c2,c3⟩
 ·simp only;split;exact k.n;rfl
 ·simp only;split;exact k.text;exact FsS.nil _ _ _ _
 ·simp only;split;exact k.rows;exact GrS.nil _ _
 ·simp only;split;exact k.trows;exact TrS.nil _ _
theorem Ij (x:NV) (w:World):
  Calls Tryz.prog 204 #[.agg (ae x).toArray] w fun e w'=>e= .returned (.agg (ae (jZ x)).toArray)∧Below w.heap.size w w':=by
 obtain⟨k,xl,xn,⟨t1,t2,t3⟩,⟨k1,k2,k3⟩,⟨r1,r2,r3⟩,xc,⟨q1,q2,q3⟩,xb,xa⟩:=x
 by_cases h1:k=1
 ·subst h1
  have HE:Hid (jZ ⟨1,xl,xn,(t1,t2,t3),(k1,k2,k3),(r1,r2,r3),xc,(q1,q2,q3),xb,xa⟩=⟨1,xl,0,(t1,t2,t3),(k1,k2,k3),aj,[],aj,false,false⟩):=zH (rfl);rw[HE.out];simp only[ae,pv,aj];clear HE;go_enter Tryz.func204,Tryz.ntmps204
  go_wp2_with fail
  refine Pq (v:= .agg #[.int .i64 1,.int .i64 xl,.int .i64 0,.slice t1 t2 t3,.slice k1 k2 k3,.slice none 0 0,.string ⟨#[]⟩,.slice none 0 0,.bool false,.bool false]) (by simp[results,Tryz.results204,go_sem]) rfl ?_;exact⟨rfl,((((OX _ w).alloc (OW _) _).alloc (by simp) _).alloc (by simp;omega) _)⟩
 ·have n1:(k==1)=false:=by simpa using h1
  by_cases h2:k=2
  ·subst h2
   have HE:Hid (jZ ⟨2,xl,xn,(t1,t2,t3),(k1,k2,k3),(r1,r2,r3),xc,(q1,q2,q3),xb,xa⟩=⟨2,xl,0,(t1,t2,t3),(k1,k2,k3),aj,[],aj,false,false⟩):=zH (rfl);rw[HE.out];simp only[ae,pv,aj];clear HE h1;go_enter Tryz.func204,Tryz.ntmps204
   go_wp2_with fail
   refine Pq (v:= .agg #[.int .i64 2,.int .i64 xl,.int .i64 0,.slice t1 t2 t3,.slice k1 k2 k3,.slice none 0 0,.string ⟨#[]⟩,.slice none 0 0,.bool false,.bool false]) (by simp[results,Tryz.results204,go_sem]) rfl ?_;exact⟨rfl,((((OX _ w).alloc (OW _) _).alloc (by simp) _).alloc (by simp;omega) _)⟩
  ·have n2:(k==2)=false:=by simpa using h2
   by_cases h3:k=3
   ·subst h3
    have HE:Hid (jZ ⟨3,xl,xn,(t1,t2,t3),(k1,k2,k3),(r1,r2,r3),xc,(q1,q2,q3),xb,xa⟩=⟨3,xl,0,(t1,t2,t3),aj,aj,[],aj,false,false⟩):=zH (rfl);rw[HE.out];simp only[ae,pv,aj];clear HE h1 h2;go_enter Tryz.func204,Tryz.ntmps204
    go_wp2_with fail
    refine Pq (v:= .agg #[.int .i64 3,.int .i64 xl,.int .i64 0,.slice t1 t2 t3,.slice none 0 0,.slice none 0 0,.string ⟨#[]⟩,.slice none 0 0,.bool false,.bool false]) (by simp[results,Tryz.results204,go_sem]) rfl ?_;exact⟨rfl,((((OX _ w).alloc (OW _) _).alloc (by simp) _).alloc (by simp;omega) _)⟩
   ·have n3:(k==3)=false:=by simpa using h3
    by_cases h4:k=4
    ·subst h4
     have HE:Hid (jZ ⟨4,xl,xn,(t1,t2,t3),(k1,k2,k3),(r1,r2,r3),xc,(q1,q2,q3),xb,xa⟩=⟨4,xl,xn,(t1,t2,t3),(k1,k2,k3),aj,[],aj,false,false⟩):=zH (rfl);rw[HE.out];simp only[ae,pv,aj];clear HE h1 h2 h3;go_enter Tryz.func204,Tryz.ntmps204
     go_wp2_with fail
     go_region
     go_wp2_with fail
     refine Pq (v:= .agg #[.int .i64 4,.int .i64 xl,.int .i64 xn,.slice t1 t2 t3,.slice k1 k2 k3,.slice none 0 0,.string ⟨#[]⟩,.slice none 0 0,.bool false,.bool false]) (by simp[results,Tryz.results204,go_sem]) rfl ?_;exact⟨rfl,((((OX _ w).alloc (OW _) _).alloc (by simp) _).alloc (by simp;omega) _).drew⟩
    ·have n4:(k==4)=false:=by simpa using h4
     by_cases h5:k=5
     ·subst h5
      have HE:Hid (jZ ⟨5,xl,xn,(t1,t2,t3),(k1,k2,k3),(r1,r2,r3),xc,(q1,q2,q3),xb,xa⟩=⟨5,xl,xn,aj,(k1,k2,k3),aj,[],aj,false,false⟩):=zH (rfl);rw[HE.out];simp only[ae,pv,aj];clear HE h1 h2 h3 h4;go_enter Tryz.func204,Tryz.ntmps204
      go_wp2_with fail
      go_region
      go_wp2_with fail
      refine Pq (v:= .agg #[.int .i64 5,.int .i64 xl,.int .i64 xn,.slice none 0 0,.slice k1 k2 k3,.slice none 0 0,.string ⟨#[]⟩,.slice none 0 0,.bool false,.bool false]) (by simp[results,Tryz.results204,go_sem]) rfl ?_;exact⟨rfl,((((OX _ w).alloc (OW _) _).alloc (by simp) _).alloc (by simp;omega) _).drew⟩
     ·have n5:(k==5)=false:=by simpa using h5
      by_cases h6:k=6
      ·subst h6
       have HE:Hid (jZ ⟨6,xl,xn,(t1,t2,t3),(k1,k2,k3),(r1,r2,r3),xc,(q1,q2,q3),xb,xa⟩=⟨6,xl,0,aj,aj,(r1,r2,r3),[],aj,false,false⟩):=zH (rfl);rw[HE.out];simp only[ae,pv,aj];clear HE h1 h2 h3 h4 h5;go_enter Tryz.func204,Tryz.ntmps204
       go_wp2_with fail
       refine Pq (v:= .agg #[.int .i64 6,.int .i64 xl,.int .i64 0,.slice none 0 0,.slice none 0 0,.slice r1 r2 r3,.string ⟨#[]⟩,.slice none 0 0,.bool false,.bool false]) (by simp[results,Tryz.results204,go_sem]) rfl ?_;exact⟨rfl,((((OX _ w).alloc (OW _) _).alloc (by simp) _).alloc (by simp;omega) _)⟩
      ·have n6:(k==6)=false:=by simpa using h6
       by_cases h7:k=7
       ·subst h7
        have HE:Hid (jZ ⟨7,xl,xn,(t1,t2,t3),(k1,k2,k3),(r1,r2,r3),xc,(q1,q2,q3),xb,xa⟩=⟨7,xl,0,aj,aj,aj,xc,(q1,q2,q3),xb,xa⟩):=zH (rfl);rw[HE.out];simp only[ae,pv,aj];clear HE h1 h2 h3 h4 h5 h6;go_enter Tryz.func204,Tryz.ntmps204
        go_wp2_with fail
        refine Pq (v:= .agg #[.int .i64 7,.int .i64 xl,.int .i64 0,.slice none 0 0,.slice none 0 0,.slice none 0 0,.string ⟨xc.toArray⟩,.slice q1 q2 q3,.bool xb,.bool xa]) (by simp[results,Tryz.results204,go_sem]) rfl ?_;exact⟨rfl,((((OX _ w).alloc (OW _) _).alloc (by simp) _).alloc (by simp;omega) _)⟩
       ·have n7:(k==7)=false:=by simpa using h7
        have hm:fI k=false:=by unfold fI;rw[n1,n2,n4,n5];rfl
        have HE:Hid (jZ ⟨k,xl,xn,(t1,t2,t3),(k1,k2,k3),(r1,r2,r3),xc,(q1,q2,q3),xb,xa⟩=⟨k,xl,0,aj,aj,aj,[],aj,false,false⟩):=zH (by unfold jZ;simp only[hm];rw[Pd (by omega),Pd (by omega),Pd h6,Pd h7,Pd h7,Pd h7,Pd h7];rfl);rw[HE.out];simp only[ae,pv,aj];clear HE h1 h2 h3 h4 h5 h6 h7 hm;go_enter Tryz.func204,Tryz.ntmps204
        go_wp2_with fail
        refine Pq (v:= .agg #[.int .i64 k,.int .i64 xl,.int .i64 0,.slice none 0 0,.slice none 0 0,.slice none 0 0,.string ⟨#[]⟩,.slice none 0 0,.bool false,.bool false]) (by simp[results,Tryz.results204,go_sem]) rfl ?_;exact⟨rfl,((((OX _ w).alloc (OW _) _).alloc (by simp) _).alloc (by simp;omega) _)⟩
section
theorem pW (L:List PV):aA aS L=L.map pv:=by
 induction L with
 | nil=>rfl
 | cons x L ih=>rw[dZ,ih];rfl
theorem ag.slot {e base:Nat} {W:World} {g n c:Nat} {L:List PV} (h:ag e 1 aS base W (.slice (some ⟨g,0,none⟩) n c) L) {j:Nat} {s:PV} (hs:L[j]? =some s):
  W.cell? ⟨g,j,none⟩=some (pv s)∧W.frozen? ⟨g,j,none⟩=false:=by
 obtain⟨a,c',e2⟩:=(ag.sl bO h).len;injection e2 with e3 e4 e5
 have hjl:=(OV.1 hs).1;have h':W.ownsRow base e 1 (.slice (some ⟨g,0,none⟩) n c) L.length (aA aS L):=h;rw[e4]at h';refine⟨?_,h'.frozenAt j⟩;rw[h'.cellAt j (by omega),pW,Qf,hs];rfl
theorem ag.put {e base:Nat} {W:World} {g n c:Nat} {L:List PV} (h:ag e 1 aS base W (.slice (some ⟨g,0,none⟩) n c) L) (j:Nat) (s:PV):
  ag e 1 aS base (W.setCell ⟨g,j,none⟩ (pv s)) (.slice (some ⟨g,0,none⟩) n c) (L.set j s):=by
 obtain⟨a,c',e2⟩:=(ag.sl bO h).len;injection e2 with e3 e4 e5
 have h':W.ownsRow base e 1 (.slice (some ⟨g,0,none⟩) n c) L.length (aA aS L):=h;rw[e4]at h';have k:=(h'.stored j (pv s)).1;rw[pW,←List.map_set,←pW]at k;unfold ag;rw[Q0,e4];exact k
theorem ag.addr {α:Type} {e n:Nat} {f:α→List Value} {base:Nat} {W:World} {a:Option Addr} {k c:Nat} {l:List α} (h:ag e n f base W (.slice a k c) l) (hl:0<l.length): ∃g,a=some ⟨g,0,none⟩∧base≤g∧ ∃cur,W.heap[g]? =some (.cells cur e (0,0)):=by
 rcases h.2 with⟨h',h0⟩| ⟨g,cap,cur,hx,hb,hgg,-⟩
 ·omega
 ·injection hx with e1 e2 e3
  subst e1;exact⟨g,rfl,hb,cur,hgg⟩
structure nz (SI:Nat→Prop) (F:List Gly→List Gly) (base:Nat) (W:World) (v:Value) (l:List (List Gly)) (j:Nat):Prop where
 lt: ∀b,SI b→b<base
 sz:base≤W.heap.size
 own: ∃(L:List PV) (S:Nat→Prop),ag 26 1 aS base W v L∧L.length=l.length∧(∀b,S b→base≤b∧ ∃cur fz,W.heap[b]? =some (.cells cur 35 fz))∧
  (∀(i:Nat) s r,i<j→L[i]? =some s→l[i]? =some r→FsS S 2 aX W (pv s) (F r))∧(∀(i:Nat) s r,j≤i→L[i]? =some s→l[i]? =some r→FsS SI 2 aX W (pv s) r)
section
variable {SI:Nat→Prop} {F:List Gly→List Gly} {base:Nat} {W W':World} {v:Value} {l:List (List Gly)} {j:Nat}
theorem nz.len (h:nz SI F base W v l j): ∃a cap,v= .slice a l.length cap:=by
 obtain⟨L,S,hL,hl,-⟩:=h.own;obtain⟨a,cap,e⟩:=(ag.sl bO hL).len;exact⟨a,cap,hl▸e⟩
theorem nz.at {a:Option Addr} {n c:Nat} (h:nz SI F base W (.slice a n c) l j) {r:List Gly} (hr:l[j]? =some r):
  ∃g s,a=some ⟨g,0,none⟩∧W.cell? ⟨g,j,none⟩=some (pv s)∧W.frozen? ⟨g,j,none⟩=false∧FsS SI 2 aX W (pv s) r:=by
 obtain⟨L,S,hL,hl,hS,h1,h2⟩:=h.own;have hj:=(OV.1 hr).1;obtain⟨s,hs⟩: ∃s,L[j]? =some s:=⟨L[j]'(by omega),OU _⟩;obtain⟨g,rfl,-,-⟩:=hL.addr (by omega);obtain⟨k1,k2⟩:=hL.slot hs;exact⟨g,s,rfl,k1,k2,h2 j s r (OW _) hs hr⟩
theorem nz.step {g n c:Nat} (h:nz SI F base W (.slice (some ⟨g,0,none⟩) n c) l j) (hb:Below W.heap.size W W') {r:List Gly} (hr:l[j]? =some r) {s:PV} (hs:aI W.heap.size W' (pv s) (F r)):
  nz SI F base (W'.setCell ⟨g,j,none⟩ (pv s)) (.slice (some ⟨g,0,none⟩) n c) l (j+1)∧Exc (fun b=>b=g) W (W'.setCell ⟨g,j,none⟩ (pv s)):=by
 obtain⟨L,S,hL,hl,hS,h1,h2⟩:=h.own;have hj:=(OV.1 hr).1;obtain⟨s0,hs0⟩: ∃s,L[j]? =some s:=⟨L[j]'(by omega),OU _⟩;obtain⟨g',e1,hg,cur0,hcur⟩:=hL.addr (by omega);injection e1 with e1
 injection e1 with e1
 subst e1;have hne: ∀b cur fz,W.heap[b]? =some (.cells cur 35 fz)→b≠g:=fun b cur fz hb' e=>by
  rw[e,hcur]at hb';injection hb' with hb'
  injection hb' with _ h3
  exact absurd h3 (by decide)
 have hglt:g<W.heap.size:=(O5.1 hcur).1;have kS:Kp S W (W'.setCell ⟨g,j,none⟩ (pv s)):=fun b hb'=>by
  obtain⟨q1,cur,fz,q2⟩:=hS b hb';rw[O8 _ _ _ _ (hne b cur fz q2)];exact hb.block b (O5.1 q2).1
 have kI:Kp SI W (W'.setCell ⟨g,j,none⟩ (pv s)):=fun b hb'=>by
  have:=h.lt b hb';rw[O8 _ _ _ _ (show b≠g by omega)];exact hb.block b (O0 this h.sz)
 have fS:=lT ah hs;have hne2: ∀b,(W.heap.size≤b∧ ∃cur fz,W'.heap[b]? =some (.cells cur 35 fz))→b≠g:=fun b hb'=>by omega
 have kN:Kp (fun b=>W.heap.size≤b∧ ∃cur fz,W'.heap[b]? =some (.cells cur 35 fz)) W' (W'.setCell ⟨g,j,none⟩ (pv s)):=fun b hb'=>by
  rw[O8 _ _ _ _ (hne2 b hb')]
 refine⟨⟨h.lt,by rw[fF];exact Pp h.sz hb.size,⟨L.set j s,fun b=>S b∨(W.heap.size≤b∧ ∃cur fz,W'.heap[b]? =some (.cells cur 35 fz)),(hL.keep hb).put j s,by rw[Q0];exact hl,?_,?_,?_⟩⟩,?_⟩
 ·rintro b (hb' | hb')
  ·obtain⟨q1,cur,fz,q2⟩:=hS b hb'
   exact⟨q1,cur,fz,(kS b hb').trans q2⟩
  ·obtain⟨q1,cur,fz,q2⟩:=hb'
   exact⟨Pp h.sz q1,cur,fz,(kN b ⟨q1,cur,fz,q2⟩).trans q2⟩
 ·intro i s' r' hi hs' hr'
  by_cases hij:i=j
  ·subst hij
   rw[List.getElem?_set_self (by omega)]at hs';obtain rfl:=Ph hs';rw[hr]at hr';obtain rfl:=Ph hr';exact(fS.keep kN).mono (fun b q=> .inr q)
  ·rw[QH (fun e=>hij e.symm)]at hs'
   exact((h1 i s' r' (by omega) hs' hr').keep kS).mono (fun b q=> .inl q)
 ·intro i s' r' hi hs' hr'
  rw[QH (by omega)]at hs';exact(h2 i s' r' (by omega) hs' hr').keep kI
 ·exact(Exc.of hb).set _ _ (fun _=>rfl)
theorem nz.done (h:nz SI F base W v l l.length):lI base W v (l.map F):=by
 obtain⟨L,S,hL,hl,hS,h1,h2⟩:=h.own;refine⟨⟨L,S,hL,by rw[Qe];exact hl,hS,fun i s r hs hr=>?_⟩⟩;rw[Qf]at hr
 cases hx:l[i]? with
 | none=>rw[hx]at hr;cases hr
 | some x=>
  rw[hx]at hr;obtain rfl:=Ph hr;exact h1 i s x (OV.1 hx).1 hs hx
end
attribute [local go_sem ↓ high] iy
theorem JS {base:Nat} {W:World} {x u:Value} {l m:List PV} (h:ag 26 1 aS base W x l) (hu:Fs 1 aS W u m) (hb:base≤W.heap.size) (hd:l.length+m.length≤1000000):
  ∃x' w',(Dn #[x,u]).run Tryz.prog W= .ok (.value x') w'∧ag 26 1 aS base w' x' (l++m)∧W.grownBy w' x.ownBlock:=by
 obtain⟨i0,hi,hz0,hz1,hz2⟩:=PU yx;obtain⟨x',w',hr,ho,hg,-⟩:=lX (P:=Tryz.prog) (t:=53) bO pV (by decide) Tryz.underlying53 hi hz0 hz1 hz2 rfl (by decide) h hu hb hd;refine⟨x',w',?_,ho,hg⟩;unfold Dn;simp only[Qh,Qm,PT,hr]
theorem uI (L:List PV) (v:Value) (w:World) (hv:Fs 1 aS w v L) (hl:L.length≤200000):
  Calls Tryz.prog 203 #[v] w fun e w'=> ∃u,e= .returned u∧ag 26 1 aS w.heap.size w' u L∧Below w.heap.size w w':=by
 have HV:=zH hv;obtain⟨a,cap,rfl,-,hr⟩:=hv
 cases a with
 | none=>
  obtain rfl:L=[]:=by
   cases L with
   | nil=>rfl
   | cons x l=>obtain⟨g,off,h0,_⟩:=hr 0 x rfl;cases h0
  clear hr;have hnil:(binOp .eql 53 (.slice none 0 cap) (.slice none 0 0)).run Tryz.prog w= .ok (.bool true) w:=Qz w 53 26 none 0 cap 0 0 Tryz.underlying53;simp only[Pm];go_enter Tryz.func203,Tryz.ntmps203
  go_wp2_with fail
  go_ret;exact⟨_,rfl,ag.nil _ _,OX _ _⟩
 | some a=>
  clear hr;have b1:=af w (.cells #[] 26);have o1:ag 26 1 aS w.heap.size (w.alloc (.cells #[] 26)) (.slice (some ⟨w.heap.size,0,none⟩) 0 0) []:=jL bO w (OW _) [] (by simp);obtain⟨x',w',k1,o2,g2⟩:=JS o1 (Fs.below HV.out b1) (by simp) (by simp;omega);have b2:=zH (o1.below b1 (by simp) g2);have O2:=zH o2;have hnil:(binOp .eql 53 (.slice (some a) L.length cap) (.slice none 0 0)).run Tryz.prog w= .ok (.bool false) w:=Qz w 53 26 (some a) L.length cap 0 0 Tryz.underlying53;clear o1 o2 g2 b1;go_enter Tryz.func203,Tryz.ntmps203
  go_wp2_with fail
  go_ret;exact⟨_,rfl,O2.out,b2.out⟩
theorem zN (S:Nat→Prop) (l:List (List Gly)) (v:Value) (w:World) (hv:GrS S w v l) (hl:l.length+lens l≤90000) (hS: ∀b,S b→b<w.heap.size):
  Calls Tryz.prog 205 #[v] w fun e w'=> ∃u,e= .returned u∧lI w.heap.size w' u l∧Below w.heap.size w w':=by
 obtain⟨L,hLl,hLv,hLr⟩:=hv;have HC:=zH (uI L v w hLv.1 (by omega));have HST:=zH (fun w1 u (b1:Below w.heap.size w w1) (ho:ag 26 1 aS w.heap.size w1 u L)=>(⟨hS,b1.size,⟨L,fun _=>False,ho,hLl,fun _ h=>h.elim,fun i s r h=>by omega,fun i s r _ a c=>(hLr i s r a c).keep (Kp.below b1 hS)⟩⟩:nz S id w.heap.size w1 u l 0));obtain⟨va,vc,rfl⟩:=hLv.1.len;rw[hLl]at HC ⊢;clear hLv hLr hS hLl;go_enter Tryz.func205,Tryz.ntmps205
 go_wp2_with fail
 refine HC.out.mono ?_;rintro e w1 ⟨u,rfl,ho,b1⟩;have HRI:=zH (HST.out w1 u b1 ho);have B1:=zH b1;obtain⟨ua,uc,rfl⟩:=HRI.out.len;clear HC HST ho b1;go_wp2_with fail
 go_loopw [4,5,10] (fun _ _ i wr=> ∃j:Nat,j≤l.length∧i= .int .i64 j∧Hid (nz S id w.heap.size wr (.slice ua l.length uc) l j)∧Hid (Below w.heap.size w wr)) (fun _ _ i _=>l.length-(intOf i).toNat)
 case atStart=>exact⟨0,by omega,rfl,HRI,B1⟩
 case round=>
  obtain⟨j,hj,rfl,HR,BW⟩:=hrel;clear HRI B1
  by_cases hlt:j<l.length
  ·obtain⟨r,hr⟩: ∃r,l[j]? =some r:=⟨l[j],OU hlt⟩
   have lr:=kH hr;obtain⟨g,⟨s1,s2,s3⟩,rfl,c0,f0,hs⟩:=HR.out.at hr;simp only[pv]at c0 hs;have HG:=zH (fq r _ wr hs.1 (by omega));have hi0:(j:Int)<(l.length:Int):=by omega
   have hi1:(0:Int)≤(j:Int):=by omega
   have HRR:=zH hr;have hgl:=Po wr _ c0;have HSZ:=zH hgl;clear hr hs hgl;go_wp2_with fail
   refine HG.out.mono ?_;rintro e w2 ⟨u,rfl,ho,b2⟩;obtain⟨u1,u3,e2⟩:=(ag.sl ah ho).len;obtain⟨k1,k2⟩:=HR.out.step b2 HRR.out (s:=(u1,r.length,u3)) (by unfold pv;rw[←e2];exact ho);simp only[pv]at k1 k2;subst e2;have c2:w2.cell? ⟨g,j,none⟩=some (.slice s1 s2 s3):=(b2.cell (p:=⟨g,j,none⟩) HSZ.out).trans c0;have f2:w2.frozen? ⟨g,j,none⟩=false:=(b2.frozen (p:=⟨g,j,none⟩) HSZ.out).trans f0;have K1:=zH k1;have hgb:w.heap.size≤g:=by
    obtain⟨L',S',hL',hl',-⟩:=HR.out.own;obtain⟨g',e1,hg,-⟩:=hL'.addr (by omega);injection e1 with e1
    injection e1 with e1
    omega
   have K2:=zH (BW.out.trans (k2.below BW.out.size (fun b hb e=>by omega)));clear k1 k2 ho b2 HG c0 f0;go_wp2_with fail
   go_roundw
   case rel=>exact⟨j+1,by omega,by go_num,K1,K2⟩
   case measure=>(simp[intOf];try omega)
  ·obtain rfl:j=l.length:=by omega
   have hlt': ¬(l.length:Int)<(l.length:Int):=by omega
   have HD:=zH HR.out.done;rw[List.map_id]at HD;clear HR;go_wp2_with fail
   go_ret;exact⟨_,rfl,HD.out,BW.out⟩
end
section
attribute [local go_sem ↓ high] iw eH
theorem JP {base:Nat} {W:World} {x u:Value} {l m:List (Bool×PV)} (h:ag 90 2 bY base W x l) (hu:Fs 2 bY W u m) (hb:base≤W.heap.size) (hd:l.length+m.length≤1000000):
  ∃x' w',(appW #[x,u]).run Tryz.prog W= .ok (.value x') w'∧ag 90 2 bY base w' x' (l++m)∧W.grownBy w' x.ownBlock:=by
 obtain⟨i0,hi,hz0,hz1,hz2⟩:=PU IV;obtain⟨x',w',hr,ho,hg,-⟩:=lX (P:=Tryz.prog) (t:=54) dI rW (by decide) Tryz.underlying54 hi hz0 hz1 hz2 rfl (by decide) h hu hb hd;refine⟨x',w',?_,ho,hg⟩;unfold appW;simp only[Qh,Qm,PT,hr]
theorem CV (L:List (Bool×PV)) (v:Value) (w:World) (hv:Fs 2 bY w v L) (hl:L.length≤200000):
  Calls Tryz.prog 168 #[v] w fun e w'=> ∃u,e= .returned u∧ag 90 2 bY w.heap.size w' u L∧Below w.heap.size w w':=by
 have HV:=zH hv;obtain⟨a,cap,rfl,-,hr⟩:=hv
 cases a with
 | none=>
  obtain rfl:L=[]:=by
   cases L with
   | nil=>rfl
   | cons x l=>obtain⟨g,off,h0,_⟩:=hr 0 x rfl;cases h0
  clear hr;have hnil:(binOp .eql 54 (.slice none 0 cap) (.slice none 0 0)).run Tryz.prog w= .ok (.bool true) w:=Qz w 54 90 none 0 cap 0 0 Tryz.underlying54;simp only[Pm];go_enter Tryz.func168,Tryz.ntmps168
  go_wp2_with fail
  go_ret;exact⟨_,rfl,ag.nil _ _,OX _ _⟩
 | some a=>
  clear hr;have b1:=af w (.cells #[] 90);have o1:ag 90 2 bY w.heap.size (w.alloc (.cells #[] 90)) (.slice (some ⟨w.heap.size,0,none⟩) 0 0) []:=jL dI w (OW _) [] (by simp);obtain⟨x',w',k1,o2,g2⟩:=JP o1 (Fs.below HV.out b1) (by simp) (by simp;omega);have b2:=zH (o1.below b1 (by simp) g2);have O2:=zH o2;have hnil:(binOp .eql 54 (.slice (some a) L.length cap) (.slice none 0 0)).run Tryz.prog w= .ok (.bool false) w:=Qz w 54 90 (some a) L.length cap 0 0 Tryz.underlying54;clear o1 o2 g2 b1;go_enter Tryz.func168,Tryz.ntmps168
  go_wp2_with fail
  go_ret;exact⟨_,rfl,O2.out,b2.out⟩
attribute [local go_sem ↓ high] eH
theorem JU {base:Nat} {W:World} {x u:Value} {l m:List NV} (h:ag 58 10 ae base W x l) (hu:Fs 10 ae W u m) (hb:base≤W.heap.size) (hd:l.length+m.length≤1000000):
  ∃x' w',(yP #[x,u]).run Tryz.prog W= .ok (.value x') w'∧ag 58 10 ae base w' x' (l++m)∧W.grownBy w' x.ownBlock:=by
 obtain⟨i0,hi,hz0,hz1,hz2⟩:=PU kJ;obtain⟨x',w',hr,ho,hg,-⟩:=lX (P:=Tryz.prog) (t:=36) ay jF (by decide) Tryz.underlying36 hi hz0 hz1 hz2 rfl (by decide) h hu hb hd;refine⟨x',w',?_,ho,hg⟩;unfold yP;simp only[Qh,Qm,PT,hr]
theorem uJ (L:List NV) (v:Value) (w:World) (hv:Fs 10 ae w v L) (hl:L.length≤200000):
  Calls Tryz.prog 61 #[v] w fun e w'=> ∃u,e= .returned u∧ag 58 10 ae w.heap.size w' u L∧Below w.heap.size w w':=by
 have HV:=zH hv;obtain⟨a,cap,rfl,-,hr⟩:=hv
 cases a with
 | none=>
  obtain rfl:L=[]:=by
   cases L with
   | nil=>rfl
   | cons x l=>obtain⟨g,off,h0,_⟩:=hr 0 x rfl;cases h0
  clear hr;have hnil:(binOp .eql 36 (.slice none 0 cap) (.slice none 0 0)).run Tryz.prog w= .ok (.bool true) w:=Qz w 36 58 none 0 cap 0 0 Tryz.underlying36;simp only[Pm];go_enter Tryz.func61,Tryz.ntmps61
  go_wp2_with fail
  go_ret;exact⟨_,rfl,ag.nil _ _,OX _ _⟩
 | some a=>
  clear hr;have b1:=af w (.cells #[] 58);have o1:ag 58 10 ae w.heap.size (w.alloc (.cells #[] 58)) (.slice (some ⟨w.heap.size,0,none⟩) 0 0) []:=jL ay w (OW _) [] (by simp);obtain⟨x',w',k1,o2,g2⟩:=JU o1 (Fs.below HV.out b1) (by simp) (by simp;omega);have b2:=zH (o1.below b1 (by simp) g2);have O2:=zH o2;have hnil:(binOp .eql 36 (.slice (some a) L.length cap) (.slice none 0 0)).run Tryz.prog w= .ok (.bool false) w:=Qz w 36 58 (some a) L.length cap 0 0 Tryz.underlying36;clear o1 o2 g2 b1;go_enter Tryz.func61,Tryz.ntmps61
  go_wp2_with fail
  go_ret;exact⟨_,rfl,O2.out,b2.out⟩
theorem uP (S:Nat→Prop) (l:List (List Gly)) (v:Value) (w:World) (hv:GrS S w v l) (hl:l.length+lens l≤90000) (hS: ∀b,S b→b<w.heap.size):
  Calls Tryz.prog 167 #[v] w fun e w'=> ∃u,e= .returned u∧lI w.heap.size w' u l∧Below w.heap.size w w':=by
 obtain⟨L,hLl,hLv,hLr⟩:=hv;have HC:=zH (uI L v w hLv.1 (by omega));have HST:=zH (fun w1 u (b1:Below w.heap.size w w1) (ho:ag 26 1 aS w.heap.size w1 u L)=>(⟨hS,b1.size,⟨L,fun _=>False,ho,hLl,fun _ h=>h.elim,fun i s r h=>by omega,fun i s r _ a c=>(hLr i s r a c).keep (Kp.below b1 hS)⟩⟩:nz S id w.heap.size w1 u l 0));obtain⟨va,vc,rfl⟩:=hLv.1.len;rw[hLl]at HC ⊢;clear hLv hLr hS hLl;go_enter Tryz.func167,Tryz.ntmps167
 go_wp2_with fail
 refine HC.out.mono ?_;rintro e w1 ⟨u,rfl,ho,b1⟩;have HRI:=zH (HST.out w1 u b1 ho);have B1:=zH b1;obtain⟨ua,uc,rfl⟩:=HRI.out.len;clear HC HST ho b1;go_wp2_with fail
 go_loopw [4,5,10] (fun _ _ i wr=> ∃j:Nat,j≤l.length∧i= .int .i64 j∧Hid (nz S id w.heap.size wr (.slice ua l.length uc) l j)∧Hid (Below w.heap.size w wr)) (fun _ _ i _=>l.length-(intOf i).toNat)
 case atStart=>exact⟨0,by omega,rfl,HRI,B1⟩
 case round=>
  obtain⟨j,hj,rfl,HR,BW⟩:=hrel;clear HRI B1
  by_cases hlt:j<l.length
  ·obtain⟨r,hr⟩: ∃r,l[j]? =some r:=⟨l[j],OU hlt⟩
   have lr:=kH hr;obtain⟨g,⟨s1,s2,s3⟩,rfl,c0,f0,hs⟩:=HR.out.at hr;simp only[pv]at c0 hs;have HG:=zH (fq r _ wr hs.1 (by omega));have hi0:(j:Int)<(l.length:Int):=by omega
   have hi1:(0:Int)≤(j:Int):=by omega
   have HRR:=zH hr;have hgl:=Po wr _ c0;have HSZ:=zH hgl;clear hr hs hgl;go_wp2_with fail
   refine HG.out.mono ?_;rintro e w2 ⟨u,rfl,ho,b2⟩;obtain⟨u1,u3,e2⟩:=(ag.sl ah ho).len;obtain⟨k1,k2⟩:=HR.out.step b2 HRR.out (s:=(u1,r.length,u3)) (by unfold pv;rw[←e2];exact ho);simp only[pv]at k1 k2;subst e2;have c2:w2.cell? ⟨g,j,none⟩=some (.slice s1 s2 s3):=(b2.cell (p:=⟨g,j,none⟩) HSZ.out).trans c0;have f2:w2.frozen? ⟨g,j,none⟩=false:=(b2.frozen (p:=⟨g,j,none⟩) HSZ.out).trans f0;have K1:=zH k1;have hgb:w.heap.size≤g:=by
    obtain⟨L',S',hL',hl',-⟩:=HR.out.own;obtain⟨g',e1,hg,-⟩:=hL'.addr (by omega);injection e1 with e1
    injection e1 with e1
    omega
   have K2:=zH (BW.out.trans (k2.below BW.out.size (fun b hb e=>by omega)));clear k1 k2 ho b2 HG c0 f0;go_wp2_with fail
   go_roundw
   case rel=>exact⟨j+1,by omega,by go_num,K1,K2⟩
   case measure=>(simp[intOf];try omega)
  ·obtain rfl:j=l.length:=by omega
   have hlt': ¬(l.length:Int)<(l.length:Int):=by omega
   have HD:=zH HR.out.done;rw[List.map_id]at HD;clear HR;go_wp2_with fail
   go_ret;exact⟨_,rfl,HD.out,BW.out⟩
end
theorem lW: ∀(n:Nat) (l:List (List Gly)),lens (eQ n l)≤lens l
 | 0,l=>by simp[eQ,lens]
 | n+1,[]=>by have:=lW n [];simp[eQ,lens]at this ⊢;exact this
 | n+1,c::l=>by
  have:=lW n l;have:=xy c;simp only[eQ,lens,PL,QZ]at*;omega
theorem G7 (n:Nat) (r:dm):trl (fT n r)≤n+trl r:=by
 obtain⟨b,l⟩:=r;have:=lW n l;have:=nL n l;unfold trl fT
 cases b
 ·simp only[PO,QO]
  omega
 ·simp[lens]
  omega
theorem rP (n:Nat): ∀l:List dm,bX (l.map (fT n))≤n*l.length+bX l
 | []=>by simp[bX]
 | r::l=>by
  have h1:=rP n l;have h2:=G7 n r;simp only[bX,PL,QZ,Pe,Nat.mul_add,QU]at*;omega
theorem uf (t:Tab):bX (mend t).rows≤21*bX t.rows∧(mend t).cols.length≤20:=by
 have h1:=rP (jc t.cols).length t.rows;have h2:=jy t.rows;have h3:=(Ag t.cols).2.1;have h4:(jc t.cols).length*t.rows.length≤20*bX t.rows:=Nat.mul_le_mul h3 h2;refine⟨?_,h3⟩;show bX (t.rows.map (fT (jc t.cols).length))≤_;omega
theorem Lr (h:Hd) (k:Int):hdl (aQ h k)≤24*hdl h:=by
 have da:hdl h=3+h.text.length+h.grid.cols.length+(h.rows.length+lens h.rows)+bX h.grid.rows:=rfl;have db:hdl (aQ h k)=3+(aQ h k).text.length+(aQ h k).grid.cols.length+((aQ h k).rows.length+lens (aQ h k).rows)+bX (aQ h k).grid.rows:=rfl;have h1:(aQ h k).text.length≤h.text.length:=by
  unfold aQ;simp only
  split
  ·exact xy _
  ·simp
 have h2:(aQ h k).rows.length+lens (aQ h k).rows≤h.rows.length+lens h.rows:=by
  unfold aQ;simp only
  split
  ·exact OW _
  ·simp[lens]
 have h3:(aQ h k).grid.cols.length≤20∧bX (aQ h k).grid.rows≤21*bX h.grid.rows:=by
  unfold aQ;simp only
  split
  ·exact⟨(uf _).2,(uf _).1⟩
  ·simp[aW,bX]
 omega
mutual
theorem Hf: ∀(x:Nd) (w:Int) (d n:Nat),nlL (tdN x w d n).1≤24*nlN x
 | .mk h ks,w,d,n=>by
  rw[xu];have ho:=Lr h (aB h.kind w)
  split
  ·have i1:=nZ ks (aB h.kind w) (d+1) n
   simp only
   split
   ·simp only[nlL,nlN];omega
   ·simp only[nlL,nlN];omega
  ·simp only
   rw[eG];have h1:nlL (if aV (aQ h (aB h.kind w)) false=true then [Nd.mk (aQ h (aB h.kind w)) []] else [])≤hdl (aQ h (aB h.kind w)):=by
    split<;>simp[nlL,nlN]
   by_cases hm:fI h.kind=true
   ·rw[Pk hm]
    have i1:=nZ ks w d n;simp only[nlN];omega
   ·rw[Pd hm]
    simp only[nlL,nlN];omega
theorem nZ: ∀(l:List Nd) (w:Int) (d n:Nat),nlL (tdL l w d n).1≤24*nlL l
 | [],w,d,n=>by rw[qZ];simp[nlL]
 | x::l,w,d,n=>by
  rw[om]
  split
  ·simp[nlL]
  ·simp only
   rw[eG];have h1:=Hf x w d (n-1);have h3:=nZ l w d (tdN x w d (n-1)).2;simp only[nlL];omega
end
theorem EA (l:List Nd):nlL (qx l)≤24*nlL l:=nZ l 0 0 20000
end Go.Proofs.YtebabjnngdjceaaGreatDoor
