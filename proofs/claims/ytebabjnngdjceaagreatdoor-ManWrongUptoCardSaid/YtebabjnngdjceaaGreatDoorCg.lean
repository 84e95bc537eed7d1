/- The program's builder: A -/
import Derived.Test.YtebabjnngdjceaaGreatDoorCd
set_option linter.unusedVariables false
set_option linter.unusedSimpArgs false
set_option maxRecDepth 100000
set_option maxHeartbeats 16000000
namespace Go.Proofs.YtebabjnngdjceaaGreatDoor
open Go.RowKit
theorem KF {m:Bool}{X R S:Nat→Prop}{w:World}{b:Nat}{t:Bt}{x:NV}{y:Nd}(h:BM m X R w b t)(hx:qK S w x y)(hS:∀k,S k→k<w.heap.size∧ ¬X k)(hb:btl t+nlN y≤80000):
  Calls Tryz.prog 94 #[eF b,.agg (af x).toArray] w (xP m X R b (qI t y) w):=by
 obtain⟨W1,hW1⟩:∃W,W=w.alloc (.cells (af x).toArray 58):=⟨_,rfl⟩;have b1:Below w.heap.size w W1:=by rw[hW1];exact ae _ _
 have kx:Blk W1 w.heap.size 58 (af x):=by rw[hW1];exact PK w _
 have hlt:=h.lt;have hB1:=h.keep (Kp.below b1 (fun k q=>hlt k (.inl q))) (Kp.below b1 (fun k q=>hlt k (.inr q))) b1.size;have HE:=zH (jX hB1 (by omega));have hbe:=fD t;have HNX:Hid (∀w2 X1 R1,BM m X1 R1 w2 b (bM t)→Exc X W1 w2→(∀k,X1 k→X k∨W1.heap.size≤k)→(∀k,R1 k→R k∨X k∨W1.heap.size≤k)→
   (∀(i:Nat) u,(af x)[i]? =some u→w2.cell? ⟨w.heap.size,i,none⟩=some u)∧
   Calls Tryz.prog 133 #[.agg (af x).toArray] w2 (fun e w3=> ∃x3:NV,e=.returned (.agg (af x3).toArray)∧
    Calls Tryz.prog 95 #[eF b,.agg (af x3).toArray] w3 fun e w'=>e=.returned (.tuple #[])∧AfC m X R b (qI t y) w w')):=zH (fun w2 X1 R1 hB hE hX hR=>by
  have hxn:¬X w.heap.size:=fun q=>by have:=hlt _ (.inl q);omega
  refine⟨fun i u hu=>?_,?_⟩
  ·rw[aM (hE.block _ kx.lt hxn),kx.cell i];exact hu
  have kS:Kp S w w2:=fun k q=>(hE.block k (PH (hS k q).1 b1.size) (hS k q).2).trans (b1.block k (hS k q).1)
  refine(rC (lu y) y (Px _) (by omega) S x w2 (hx.keep kS) (fun k q=>PH (hS k q).1 (PY b1.size hE.size))).mono ?_;rintro e w3 ⟨x3,rfl,hc,hb3⟩;refine⟨x3,rfl,?_⟩;have hl2:=hB.lt;have hB3:=hB.keep (Kp.below hb3 (fun k q=>hl2 k (.inl q))) (Kp.below hb3 (fun k q=>hl2 k (.inr q))) hb3.size;have hB4:=hB3.more (R':=fun k=>R1 k∨(w2.heap.size≤k∧k<w3.heap.size)) (fun k q=> .inl q) (fun k q=>q.imp id (fun q=>⟨q.2,fun z=>by have:=hl2 k (.inl z);omega⟩));obtain⟨q1,q2⟩:=hc.all;have hsm:=fC (show btl (bM t)≤90000 by omega);refine(vJ hB4 (q1.mono (fun k q=> .inr q)) (q2.mono (fun k q=> .inr q)) (by omega) (fun z hz=>by have:=hsm.2.2.1 z hz;omega) (by omega)).mono ?_;rintro e w4 ⟨h1,h2⟩;refine⟨h1,?_⟩;have hE3:Exc X w w3:=((Exc.of (X:=X) b1).then hE).trans (Exc.of (X:=fun _=>False) hb3) (fun _ _ q=>q.elim);have hs1:=b1.size;have hs2:=hE.size;exact AfC.step hE3 (fun k q=>(hX k q).imp id (fun z=>by omega)) (fun k q=>q.elim (fun q=>(hR k q).imp id (fun z=>z.imp id (fun z=>by omega))) (fun q=> .inr (.inr (by omega)))) h2.c)
 have hblt:b<W1.heap.size:=hB1.lt b (.inl hB1.self);obtain⟨xk,xl,xn,⟨t1,t2,t3⟩,⟨k1,k2,k3⟩,⟨r1,r2,r3⟩,xc,⟨q1,q2,q3⟩,xb,xa⟩:=x;simp only[af,pv]at hW1 HNX⊢;have HW1:=zH hW1;clear h hx hS hb hW1 b1 kx hlt hB1 hbe;go_enter Tryz.func94,Tryz.ntmps94
 go_upto_region 1 with fail
 rw[←HW1.out];clear HW1;go_wp2_with fail
 refine HE.out.mono ?_;rintro e w2 ⟨rfl,X1,R1,hB,hE,hX,hR⟩;obtain⟨hcl,hcall⟩:=HNX.out w2 X1 R1 hB hE hX hR;have x0:=hcl 0 _ rfl;have x1:=hcl 1 _ rfl;have x2:=hcl 2 _ rfl;have x3:=hcl 3 _ rfl;have x4:=hcl 4 _ rfl;have x5:=hcl 5 _ rfl;have x6:=hcl 6 _ rfl;have x7:=hcl 7 _ rfl;have x8:=hcl 8 _ rfl;have x9:=hcl 9 _ rfl;have HC:=zH hcall;clear hcl hcall hB hE hX hR HE HNX;go_wp2_with fail
 refine HC.out.mono ?_;rintro e w3 ⟨x3',rfl,hput⟩;have HP:=zH hput;clear hput HC x0 x1 x2 x3 x4 x5 x6 x7 x8 x9;go_wp2_with fail
 refine HP.out.mono ?_;rintro e w4 ⟨rfl,hA⟩;have HA:=zH hA;clear hA HP;go_wp2_with fail
 go_end0;exact⟨rfl,HA.out⟩
theorem BM.pushO {m:Bool}{X R:Nat→Prop}{V:World}{b:Nat}{t:Bt}(h:BM m X R V b t)(hl:t.opn.length≤400000):
  ∃oa oc,V.cell? ⟨b,5,none⟩=some (.slice oa t.opn.length oc)∧b<V.heap.size∧ ∀(w3 W:World) (base:Nat) (x:NV) (y:Nd) (ad:Addr) (c0:Nat),Below V.heap.size V w3→V.heap.size≤base→lK base w3 x y→Below w3.heap.size w3 W→Fs 10 af W (.slice (some ad) 1 c0) [(⟨0,0,0,aj,aj,aj,[],aj,false,false⟩:NV)]→
   ∃g c w',(Builtin.append_ #[36,36] 36 #[.slice oa t.opn.length oc,.slice (some ad) 1 c0]).run Tryz.prog W=.ok (.slice (some ⟨g,0,none⟩) (t.opn.length+1) c) w'∧
    (∀(i:Nat) u,zNd[i]? =some u→w'.cell? ⟨g,t.opn.length*10+i,none⟩=some u∧w'.frozen? ⟨g,t.opn.length*10+i,none⟩=false)∧g≠b∧
    w'.cell? ⟨b,5,none⟩=some (.slice oa t.opn.length oc)∧w'.frozen? ⟨b,5,none⟩=false∧(∀k,V.heap.size≤k→k<W.heap.size→k≠g∧w'.heap[k]? =W.heap[k]?)∧(∀k,k<V.heap.size→ ¬X k→k≠g∧w'.heap[k]? =V.heap[k]?)∧
    AfC m X R b {t with opn:=t.opn++ [y] } V ((w'.setCells g (t.opn.length*10) (af x)).setCell ⟨b,5,none⟩ (.slice (some ⟨g,0,none⟩) (t.opn.length+1) c)):=by
 obtain⟨kv,ov,pa,LO,lab,h1,h2⟩:=h;obtain⟨oa,oc,eo,hoc⟩:=h1.olen;refine⟨oa,oc,by rw[h1.box.cell 5,←eo];rfl,h1.box.lt,fun w3 W base x y ad c0 hb3 hbase hc hbW hz=>?_⟩;have hVW:Below V.heap.size V W:=hb3.trans (hbW.mono hb3.size);have hoW:RwV R (fun k=>lab k=3) W (.slice oa t.opn.length oc) LO:= .inl ⟨by rw[←eo];exact h1.opn.kp (fun k e=>hVW.block k (h1.ll k (by rw[h1.opb k e];decide))),fun k e=>h1.opb k (by rw[eo];exact e)⟩;obtain⟨g,c,w',hr,ho,hE,hg,hgl⟩:=hoW.app1 (by rw[h1.ol];omega) rfl hz;rw[h1.ol]at hr ho;have hg':lab g=3∨W.heap.size≤g:=hg;have hsV:=hVW.size;have hs3:=hb3.size;have hsW:=hbW.size;have hgb:g≠b:=fun e=>by
  rcases hg' with z | z
  ·rw[e,h1.lb]at z;omega
  ·have:=h1.box.lt;omega
 have hEV:Exc (fun k=>lab k=3) V w':=(Exc.of (X:=fun k=>lab k=3) hVW).trans hE (fun _ _ q=>q);have box':Blk w' b 116 (bP t.nm kv ov pa):=hEV.blk h1.box (by rw[h1.lb];decide);have box2:Blk (w'.setCells g (t.opn.length*10) (af x)) b 116 (bP t.nm kv ov pa):=(aB (fun e=>hgb e.symm) _ _ _).trans box';have box3:=box2.set 5 (.slice (some ⟨g,0,none⟩) (t.opn.length+1) c);obtain⟨F,hF⟩:∃F,(w'.setCells g (t.opn.length*10) (af x)).setCell ⟨b,5,none⟩ (.slice (some ⟨g,0,none⟩) (t.opn.length+1) c)=F:=⟨_,rfl⟩;have eb:(bP t.nm kv ov pa).set 5 (.slice (some ⟨g,0,none⟩) (t.opn.length+1) c)=bP t.nm kv (some ⟨g,0,none⟩,t.opn.length+1,c) pa:=rfl;rw[eb,hF]at box3;have hFh:∀k,k≠b→F.heap[k]? =(w'.setCells g (t.opn.length*10) (af x)).heap[k]? :=fun k hk=>by rw[←hF];exact PN _ ⟨b,5,none⟩ _ k hk
 have hFs:F.heap.size=w'.heap.size:=by rw[←hF,gH,mU]
 have hsE:=hE.size;have kS:∀k,k<V.heap.size→lab k≠3→lab k≠1→F.heap[k]? =V.heap[k]? :=fun k q1 q2 q3=>by
  rw[hFh k (fun e=>q3 (by rw[e];exact h1.lb)),aB (fun e=>by subst e;rcases hg' with z | z<;>omega)];exact hEV.block k q1 q2
 have kR:Kp R V F:=fun k q=>kS k (h1.rl k q) (by rw[h1.sep k q];decide) (by rw[h1.sep k q];decide)
 have kz:∀z,z≠0→z≠3→z≠1→Kp (fun k=>lab k=z) V F:=fun z a0 a1 a2 k q=>kS k (h1.ll k (by rw[show lab k=z from q];exact a0)) (by rw[show lab k=z from q];exact a1) (by rw[show lab k=z from q];exact a2)
 have kC:∀k,V.heap.size≤k→k<w3.heap.size→F.heap[k]? =w3.heap[k]? :=fun k q1 q2=>by
  have hb':=h1.box.lt;rw[hFh k (by omega),aB (fun e=>by subst e;exact hg'.elim (fun z=>by have:=h1.ll k (by omega);omega) (fun z=>by omega))];rw[hE.block k (by omega) (fun z=>by have:=h1.ll k (by omega);omega)];exact hbW.block k q2
 have hkge:∀k,(pv x.kids).ownBlock=some k→base≤k:=fun k e=>hc.kids.own_ge' e
 have hklt:∀k,(pv x.kids).ownBlock=some k→k<w3.heap.size:=fun k e=>by
  obtain⟨L,S,q1,-⟩:=hc.kids.own;exact q1.ltb e
 have hkg:∀k,(pv x.kids).ownBlock=some k→k≠g:=fun k e e2=>by
  have:=hkge k e;have:=hklt k e;subst e2;rcases hg' with z | z
  ·have:=h1.ll k (by omega);omega
  ·omega
 have hlab:∀k,lab k≠0→(pv x.kids).ownBlock≠some k:=fun k q e=>by
  have:=h1.ll k q;have:=hkge k e;omega
 have hlab3:∀k,lab k≠3→lab k≠0→k≠g:=fun k q1 q2 e=>by
  subst e;rcases hg' with z | z
  ·exact q1 z
  ·have:=h1.ll k q2;omega
 have ln:∀k z,z≠0→z≠3→lab k=z→(if k=g then 3 else if(pv x.kids).ownBlock=some k then 6+t.opn.length else lab k)=z:=fun k z a0 a3 q=>by
  rw[PO (hlab3 k (by omega) (by omega)),PO (hlab k (by omega)),q]
 refine⟨g,c,w',hr,fun i u hi=>?_,hgb,by rw[box'.cell 5,←eo];rfl,box'.frozen (by simp[bP]),fun k q1 q2=>⟨fun e=>by subst e;exact hg'.elim (fun z=>by have:=h1.ll k (by omega);omega) (fun z=>by omega),hE.block k q2 (fun z=>by have:=h1.ll k (by omega);omega)⟩,fun k q1 q2=>⟨fun e=>by subst e;exact hg'.elim (fun z=>q2 ((h2 k).2 (by omega))) (fun z=>by omega),hEV.block k q1 (fun z=>q2 ((h2 k).2 (by omega)))⟩,?_⟩
 ·exact ho.slotA ay (j:=t.opn.length) (s:=⟨0,0,0,aj,aj,aj,[],aj,false,false⟩) (by rw[P5 (by rw[h1.ol];omega),h1.ol];simp) (i:=i) (u:=u) hi
 rw[hF];have hEF:Exc (fun k=>lab k=3∨lab k=1) V F:=by
  obtain⟨e1,e2,e3⟩:=Fj _ hEV g (t.opn.length*10) b 5 (af x) (.slice (some ⟨g,0,none⟩) (t.opn.length+1) c);rw[hF]at e1 e2 e3;exact⟨e1,e2,e3,by rw[hFs];omega,fun k q1 q2=>kS k q1 (fun z=>q2 (.inl z)) (fun z=>q2 (.inr z))⟩
 have hmd:∀k,MdC base w3 (pv x.kids) k→V.heap.size≤k∧k<w3.heap.size∧(pv x.kids).ownBlock≠some k:=fun k q=>⟨PY hbase q.1,q.2⟩
 have kM:Kp (MdC base w3 (pv x.kids)) w3 F:=fun k q=>kC k (hmd k q).1 (hmd k q).2.1
 refine⟨fun k=>(if k=g then 3 else if(pv x.kids).ownBlock=some k then 6+t.opn.length else lab k)≠0,fun k=>R k∨MdC base w3 (pv x.kids) k,⟨kv,(some ⟨g,0,none⟩,t.opn.length+1,c),pa,LO++ [x],fun k=>if k=g then 3 else if(pv x.kids).ownBlock=some k then 6+t.opn.length else lab k,⟨fun k q=>?_,fun k q=>?_,fun k q=>?_,ln b 1 (by decide) (by decide) h1.lb,box3,?_,?_,fun k e=>?_,?_,fun i x2 y2 p q=>?_,?_⟩,fun k=>RJ⟩,hEF.mono (fun k _ q=>(h2 k).2 (by omega)),fun k q=>?_,fun k q=>q.imp id (fun q=> .inr (hmd k q).1)⟩
 ·by_cases e:k=g
  ·rw[e,hFs];exact hgl
  ·rw[PO e]at q
   by_cases e2:(pv x.kids).ownBlock=some k
   ·have:=hklt k e2;omega
   ·rw[PO e2]at q
    have:=h1.ll k q;omega
 ·rcases q with q | q
  ·have:=h1.rl k q;omega
  ·have:=(hmd k q).2.1;omega
 ·rcases q with q | q
  ·have q0:=h1.sep k q
   have q1:=h1.rl k q;have e1:k≠g:=fun e=>by
    subst e;rcases hg' with z | z<;>omega
   have e2:(pv x.kids).ownBlock≠some k:=fun e=>by have:=hkge k e;omega
   simp only[PO e1,PO e2,q0]
  ·have q1:=hmd k q
   have e1:k≠g:=fun e=>by
    subst e;rcases hg' with z | z
    ·have:=h1.ll k (by omega);omega
    ·omega
   have e3:lab k=0:=by
    by_cases e3:lab k=0
    ·exact e3
    ·have:=h1.ll k e3;omega
   simp only[PO e1,PO q1.2.2,e3]
 ·exact(h1.kids.keep kR (kz 2 (by decide) (by decide) (by decide))).mono (fun k q=> .inl q) (fun k q=>ln k 2 (by decide) (by decide) q)
 ·have hp:=ho.putA ay (j:=t.opn.length) (by simp[h1.ol]) x
  have e1:(LO++ [(⟨0,0,0,aj,aj,aj,[],aj,false,false⟩:NV)]).set t.opn.length x=LO++ [x]:=by
   rw[Rx _ _ (by rw[h1.ol];omega),h1.ol];simp
  rw[e1]at hp;exact hp.kp (fun k e=>by
   obtain rfl:=PT e;exact hFh _ hgb)
 ·obtain rfl:=PT e
  simp
 ·simp[h1.ol]
 ·by_cases hi:i<t.opn.length
  ·rw[P7 (by rw[h1.ol];exact hi)]at p
   rw[P7 hi]at q;obtain⟨q1,q2⟩:=h1.on i x2 y2 p q;exact⟨(q1.keep kR).mono (fun k q=> .inl q),(q2.keep kR (kz _ (by omega) (by omega) (by omega))).mono (fun k q=> .inl q) (fun k z=>ln k _ (by omega) (by omega) z)⟩
  ·rw[P5 (by rw[h1.ol];omega),h1.ol]at p
   rw[P5 (by omega)]at q;have hi0:i=t.opn.length:=by
    have:=(Pw.1 q).1;simp at this;omega
   obtain⟨rfl,rfl⟩:=EM p q;refine⟨(hc.hd.keep kM).mono (fun k q=> .inr q),?_⟩;have hk:=hc.kids.rwn (O:=fun k=>(pv x.kids).ownBlock=some k) (R:=MdC base w3 (pv x.kids)) (fun k e=>e) (fun k q1 q2 q3=>⟨q1,q2,q3⟩);refine(hk.keep kM (fun k e=>kC k (by have:=hkge k e;omega) (hklt k e))).mono (fun k q=> .inr q) (fun k e=>?_);rw[hi0,PO (hkg k e),PZ e]
 ·have:=lN.keep (t:={t with opn:=t.opn++ [y] }) h1.para kR (fun k q=>q.elim (kz 4 (by decide) (by decide) (by decide) k) (kz 5 (by decide) (by decide) (by decide) k))
  exact lN.relab this (fun k q=> .inl q) (fun k q=>ln k 4 (by decide) (by decide) q) (fun k q=>ln k 5 (by decide) (by decide) q)
 ·by_cases e:k=g
  ·rcases hg' with z | z
   ·exact .inl ((h2 k).2 (by rw[e];omega))
   ·exact .inr (by omega)
  ·simp only at q
   rw[PO e]at q
   by_cases e2:(pv x.kids).ownBlock=some k
   ·have:=hkge k e2;exact .inr (by omega)
   ·rw[PO e2]at q
    exact .inl ((h2 k).2 q)
def zN0:NV:=⟨0,0,0,aj,aj,aj,[],aj,false,false⟩
theorem OC (W:World):Fs 10 af (W.alloc (.cells #[.int .i64 0,.int .i64 0,.int .i64 0,.slice none 0 0,.slice none 0 0,.slice none 0 0,.string ⟨#[]⟩,.slice none 0 0,.bool false,.bool false] 58)) (.slice (some ⟨W.heap.size,0,none⟩) 1 1) [zN0]:=by
 have:=dM ay W 58 [zN0];rw[dU]at this;exact this
def Nq (m:Bool)(X R:Nat→Prop)(V:World)(b:Nat)(t:Bt)(y:Nd)(oa:Option Addr)(tl oc:Nat)(P:Nat→Prop)(w3 W:World)(x:NV)(ad:Addr):Prop:=
 ∃g c w',(Builtin.append_ #[36,36] 36 #[.slice oa tl oc,.slice (some ad) 1 1]).run Tryz.prog W=.ok (.slice (some ⟨g,0,none⟩) (tl+1) c) w'∧
  (∀(i:Nat) u,zNd[i]? =some u→w'.cell? ⟨g,tl*10+i,none⟩=some u∧w'.frozen? ⟨g,tl*10+i,none⟩=false)∧g≠b∧
  w'.cell? ⟨b,5,none⟩=some (.slice oa tl oc)∧w'.frozen? ⟨b,5,none⟩=false∧(∀k,P k→k≠g∧k≠b∧w'.heap[k]? =V.heap[k]?)∧
  AfC m X R b {t with opn:=t.opn++ [y] } V ((w'.setCells g (tl*10) (af x)).setCell ⟨b,5,none⟩ (.slice (some ⟨g,0,none⟩) (tl+1) c))
theorem QUm {P:Prop}(h:P:=by
 refine wpAnyH_ready (rs:=[5]) (by kernel_rfl) (by simp) ?_;refine AllReadyH.cons rfl (fun K hK=>?_) AllReadyH.nil
 try simp only[zG]
 go_simp;go_at_call 133
 refine(HCP.out (w2.alloc (.cells #[.int .i64 0,.int .i64 0,.int .i64 0,.slice none 0 0,.slice none 0 0,.slice none 0 0,.string ⟨#[]⟩,.slice none 0 0,.bool false,.bool false] 58)).drew (ae w2 _).drew).mono ?_;rintro e w3 ⟨x6,rfl,hc6,hb3⟩;have hz1:(w2.alloc (.cells #[.int .i64 0,.int .i64 0,.int .i64 0,.slice none 0 0,.slice none 0 0,.slice none 0 0,.string ⟨#[]⟩,.slice none 0 0,.bool false,.bool false] 58)).drew.heap.size=w2.heap.size+1:=PS _ _;rw[hz1]at hb3 hc6;have HB3:Hid (Below (w2.heap.size+1) (w2.alloc (.cells #[.int .i64 0,.int .i64 0,.int .i64 0,.slice none 0 0,.slice none 0 0,.slice none 0 0,.string ⟨#[]⟩,.slice none 0 0,.bool false,.bool false] 58)).drew w3):=zH hb3;have HC6:Hid (lK (w2.heap.size+1) w3 x6 y):=zH hc6;have hb3':Below w2.heap.size w2 w3:=(ae w2 (.cells #[.int .i64 0,.int .i64 0,.int .i64 0,.slice none 0 0,.slice none 0 0,.slice none 0 0,.string ⟨#[]⟩,.slice none 0 0,.bool false,.bool false] 58)).drew.trans (hb3.mono (by omega));have c5w:w3.cell? ⟨b,5,none⟩=some (.slice oa tl oc):=aC hb3' c5;have HHX:Hid (w3.heap[w.heap.size]? =w2.heap[w.heap.size]?):=zH (hb3'.block _ hwl);clear hc6 hb3 hb3';obtain⟨mk,ml,mn,⟨m1,m2,m3⟩,⟨n1,n2,n3⟩,⟨o1,o2,o3⟩,mc,⟨l1,l2,l3⟩,mb,ma⟩:=x6;simp only[af,pv];go_wp2_with fail
 refine hK.out _ _ ?_ (fun hHeld=>?_)
 ·exact HSX.out _ HHX.out
 clear hK K
 try simp only[zA,Act.put]
 obtain⟨g,c,w',hr,hcell,hgb,e5,f5,hP,hA⟩:=HPB.out w3 _ HC6.out HB3.out;have HA:=zH hA;have hw:=hP _ rfl;have hgw:w.heap.size≠g:=hw.1;have hbw:w.heap.size≠b:=hw.2.1;have HHW:=zH hw.2.2;have hbg:b≠g:=fun e=>hgb e.symm
 simp only[af,pv]at HA;have y0:=(hcell 0 _ rfl).1;have y1:=(hcell 1 _ rfl).1;have y2:=(hcell 2 _ rfl).1;have y3:=(hcell 3 _ rfl).1;have y4:=(hcell 4 _ rfl).1;have y5:=(hcell 5 _ rfl).1;have y6:=(hcell 6 _ rfl).1;have y7:=(hcell 7 _ rfl).1;have y8:=(hcell 8 _ rfl).1;have y9:=(hcell 9 _ rfl).1;have f0':=(hcell 0 _ rfl).2;have f1':=(hcell 1 _ rfl).2;have f2':=(hcell 2 _ rfl).2;have f3':=(hcell 3 _ rfl).2;have f4':=(hcell 4 _ rfl).2;have f5':=(hcell 5 _ rfl).2;have f6':=(hcell 6 _ rfl).2;have f7':=(hcell 7 _ rfl).2;have f8':=(hcell 8 _ rfl).2;have f9':=(hcell 9 _ rfl).2
 try simp only[Qr]at y0 f0'
 clear hA hP hw hcell;refine wpAnyH_ready (rs:=[8]) (by kernel_rfl) (by simp) ?_;refine AllReadyH.cons rfl (fun K hK=>?_) AllReadyH.nil
 try simp only[zG]
 rw[PZ (by kernel_rfl)];refine wp_append_run (.tmp 11) (.tmp 15) 36 36 rfl _ _ rfl rfl hr ?_;refine hK.out _ _ ?_ (fun hHeld=>?_)
 ·exact HSX.out _ HHW.out
 clear hK K
 try simp only[zA,Act.put]
 refine zK (i:=9) (v:= .pointer (some ⟨g,tl*10,none⟩)) rfl ?_;simp only[zA,Act.put];refine zK (i:=11) (v:=eF b) rfl ?_;simp only[zA,Act.put];refine zK (i:=12) (v:= .pointer (some ⟨b,5,none⟩)) rfl ?_;simp only[zA,Act.put];refine wpAnyH_ready (rs:=[10,13]) (by kernel_rfl) (by simp) ?_;refine AllReadyH.cons rfl (fun K hK=>?_) (AllReadyH.cons rfl (fun K hK=>?_) AllReadyH.nil)
 ·try simp only[zG]
  go_simp;refine hK.out _ _ ?_ (fun hHeld=>?_)
  ·exact HSX.out (w'.setCells g (tl*10) [.int .i64 mk,.int .i64 ml,.int .i64 mn,.slice m1 m2 m3,.slice n1 n2 n3,.slice o1 o2 o3,.string ⟨mc.toArray⟩,.slice l1 l2 l3,.bool mb,.bool ma]) ((aB hgw _ _ _).trans HHW.out)
  clear hK K
  try simp only[zA,Act.put]
  refine wpAnyH_ready (rs:=[13]) (by kernel_rfl) (by simp) ?_;refine AllReadyH.cons rfl (fun K hK=>?_) AllReadyH.nil
  try simp only[zG]
  go_simp;refine hK.out _ _ ?_ (fun hHeld=>?_)
  ·exact HSX.out ((w'.setCells g (tl*10) [.int .i64 mk,.int .i64 ml,.int .i64 mn,.slice m1 m2 m3,.slice n1 n2 n3,.slice o1 o2 o3,.string ⟨mc.toArray⟩,.slice l1 l2 l3,.bool mb,.bool ma]).setCell ⟨b,5,none⟩ (.slice (some ⟨g,0,none⟩) (tl+1) c)) ((PN _ ⟨b,5,none⟩ _ _ hbw).trans ((aB hgw _ _ _).trans HHW.out))
  clear hK K
  try simp only[zA,Act.put]
  refine Qd (by kernel_rfl) ?_ _;go_wp2_with fail
  go_end0;exact⟨rfl,HFN.out _ HA.out⟩
 ·try simp only[zG]
  go_simp;refine hK.out _ _ ?_ (fun hHeld=>?_)
  ·exact HSX.out (w'.setCell ⟨b,5,none⟩ (.slice (some ⟨g,0,none⟩) (tl+1) c)) ((PN _ ⟨b,5,none⟩ _ _ hbw).trans HHW.out)
  clear hK K
  try simp only[zA,Act.put]
  refine wpAnyH_ready (rs:=[10]) (by kernel_rfl) (by simp) ?_;refine AllReadyH.cons rfl (fun K hK=>?_) AllReadyH.nil
  try simp only[zG]
  go_simp;refine hK.out _ _ ?_ (fun hHeld=>?_)
  ·exact HSX.out ((w'.setCell ⟨b,5,none⟩ (.slice (some ⟨g,0,none⟩) (tl+1) c)).setCells g (tl*10) [.int .i64 mk,.int .i64 ml,.int .i64 mn,.slice m1 m2 m3,.slice n1 n2 n3,.slice o1 o2 o3,.string ⟨mc.toArray⟩,.slice l1 l2 l3,.bool mb,.bool ma]) ((aB hgw _ _ _).trans ((PN _ ⟨b,5,none⟩ _ _ hbw).trans HHW.out))
  clear hK K
  try simp only[zA,Act.put]
  refine Qd (by kernel_rfl) ?_ _;go_wp2_with fail
  go_end0;refine⟨rfl,HFN.out _ ?_⟩;have q:=HA.out;rw[bZ hgb]at q;exact q):P:=h
theorem QUo {P:Prop}(h:P:=by
 refine wpAnyH_ready (rs:=[7]) (by kernel_rfl) (by simp) ?_;refine AllReadyH.cons rfl (fun K hK=>?_) AllReadyH.nil
 try simp only[zG]
 have HHZ:Hid ((w3.alloc (.cells #[.int .i64 0,.int .i64 0,.int .i64 0,.slice none 0 0,.slice none 0 0,.slice none 0 0,.string ⟨#[]⟩,.slice none 0 0,.bool false,.bool false] 58)).heap[w.heap.size]? =w2.heap[w.heap.size]?):=zH ((Qk w3 _ (PH hwl HB3.out.size)).trans HHX.out);go_simp;refine hK.out _ _ ?_ (fun hHeld=>?_)
 ·exact HSX.out _ HHZ.out
 clear hK K
 try simp only[zA,Act.put]
 obtain⟨g,c,w',hr,hcell,hgb,e5,f5,hP,hA⟩:=HPA.out w3 _ HC6.out HB3.out;have HA:=zH hA;have hw:=hP _ rfl;have hgw:w.heap.size≠g:=hw.1;have hbw:w.heap.size≠b:=hw.2.1;have HHW:=zH hw.2.2;have hbg:b≠g:=fun e=>hgb e.symm
 simp only[af,pv]at HA;have y0:=(hcell 0 _ rfl).1;have y1:=(hcell 1 _ rfl).1;have y2:=(hcell 2 _ rfl).1;have y3:=(hcell 3 _ rfl).1;have y4:=(hcell 4 _ rfl).1;have y5:=(hcell 5 _ rfl).1;have y6:=(hcell 6 _ rfl).1;have y7:=(hcell 7 _ rfl).1;have y8:=(hcell 8 _ rfl).1;have y9:=(hcell 9 _ rfl).1;have f0':=(hcell 0 _ rfl).2;have f1':=(hcell 1 _ rfl).2;have f2':=(hcell 2 _ rfl).2;have f3':=(hcell 3 _ rfl).2;have f4':=(hcell 4 _ rfl).2;have f5':=(hcell 5 _ rfl).2;have f6':=(hcell 6 _ rfl).2;have f7':=(hcell 7 _ rfl).2;have f8':=(hcell 8 _ rfl).2;have f9':=(hcell 9 _ rfl).2
 try simp only[Qr]at y0 f0'
 clear hA hP hw hcell;refine wpAnyH_ready (rs:=[8]) (by kernel_rfl) (by simp) ?_;refine AllReadyH.cons rfl (fun K hK=>?_) AllReadyH.nil
 try simp only[zG]
 rw[PZ (by kernel_rfl)];refine wp_append_run (.tmp 11) (.tmp 15) 36 36 rfl _ _ rfl rfl hr ?_;refine hK.out _ _ ?_ (fun hHeld=>?_)
 ·exact HSX.out _ HHW.out
 clear hK K
 try simp only[zA,Act.put]
 refine zK (i:=9) (v:= .pointer (some ⟨g,tl*10,none⟩)) rfl ?_;simp only[zA,Act.put];refine zK (i:=11) (v:=eF b) rfl ?_;simp only[zA,Act.put];refine zK (i:=12) (v:= .pointer (some ⟨b,5,none⟩)) rfl ?_;simp only[zA,Act.put];refine wpAnyH_ready (rs:=[10,13]) (by kernel_rfl) (by simp) ?_;refine AllReadyH.cons rfl (fun K hK=>?_) (AllReadyH.cons rfl (fun K hK=>?_) AllReadyH.nil)
 ·try simp only[zG]
  go_simp;refine hK.out _ _ ?_ (fun hHeld=>?_)
  ·exact HSX.out (w'.setCells g (tl*10) [.int .i64 mk,.int .i64 ml,.int .i64 mn,.slice m1 m2 m3,.slice n1 n2 n3,.slice o1 o2 o3,.string ⟨mc.toArray⟩,.slice l1 l2 l3,.bool mb,.bool ma]) ((aB hgw _ _ _).trans HHW.out)
  clear hK K
  try simp only[zA,Act.put]
  refine wpAnyH_ready (rs:=[13]) (by kernel_rfl) (by simp) ?_;refine AllReadyH.cons rfl (fun K hK=>?_) AllReadyH.nil
  try simp only[zG]
  go_simp;refine hK.out _ _ ?_ (fun hHeld=>?_)
  ·exact HSX.out ((w'.setCells g (tl*10) [.int .i64 mk,.int .i64 ml,.int .i64 mn,.slice m1 m2 m3,.slice n1 n2 n3,.slice o1 o2 o3,.string ⟨mc.toArray⟩,.slice l1 l2 l3,.bool mb,.bool ma]).setCell ⟨b,5,none⟩ (.slice (some ⟨g,0,none⟩) (tl+1) c)) ((PN _ ⟨b,5,none⟩ _ _ hbw).trans ((aB hgw _ _ _).trans HHW.out))
  clear hK K
  try simp only[zA,Act.put]
  refine Qd (by kernel_rfl) ?_ _;go_wp2_with fail
  go_end0;exact⟨rfl,HFN.out _ HA.out⟩
 ·try simp only[zG]
  go_simp;refine hK.out _ _ ?_ (fun hHeld=>?_)
  ·exact HSX.out (w'.setCell ⟨b,5,none⟩ (.slice (some ⟨g,0,none⟩) (tl+1) c)) ((PN _ ⟨b,5,none⟩ _ _ hbw).trans HHW.out)
  clear hK K
  try simp only[zA,Act.put]
  refine wpAnyH_ready (rs:=[10]) (by kernel_rfl) (by simp) ?_;refine AllReadyH.cons rfl (fun K hK=>?_) AllReadyH.nil
  try simp only[zG]
  go_simp;refine hK.out _ _ ?_ (fun hHeld=>?_)
  ·exact HSX.out ((w'.setCell ⟨b,5,none⟩ (.slice (some ⟨g,0,none⟩) (tl+1) c)).setCells g (tl*10) [.int .i64 mk,.int .i64 ml,.int .i64 mn,.slice m1 m2 m3,.slice n1 n2 n3,.slice o1 o2 o3,.string ⟨mc.toArray⟩,.slice l1 l2 l3,.bool mb,.bool ma]) ((aB hgw _ _ _).trans ((PN _ ⟨b,5,none⟩ _ _ hbw).trans HHW.out))
  clear hK K
  try simp only[zA,Act.put]
  refine Qd (by kernel_rfl) ?_ _;go_wp2_with fail
  go_end0;refine⟨rfl,HFN.out _ ?_⟩;have q:=HA.out;rw[bZ hgb]at q;exact q):P:=h
theorem QUp {P:Prop}(h:P:=by
 have HA:=zH hA;have hw:=hP _ rfl;have hgw:w.heap.size≠g:=hw.1;have hbw:w.heap.size≠b:=hw.2.1;have HHW:=zH hw.2.2;have hbg:b≠g:=fun e=>hgb e.symm
 simp only[af,pv]at HA;have y0:=(hcell 0 _ rfl).1;have y1:=(hcell 1 _ rfl).1;have y2:=(hcell 2 _ rfl).1;have y3:=(hcell 3 _ rfl).1;have y4:=(hcell 4 _ rfl).1;have y5:=(hcell 5 _ rfl).1;have y6:=(hcell 6 _ rfl).1;have y7:=(hcell 7 _ rfl).1;have y8:=(hcell 8 _ rfl).1;have y9:=(hcell 9 _ rfl).1;have f0':=(hcell 0 _ rfl).2;have f1':=(hcell 1 _ rfl).2;have f2':=(hcell 2 _ rfl).2;have f3':=(hcell 3 _ rfl).2;have f4':=(hcell 4 _ rfl).2;have f5':=(hcell 5 _ rfl).2;have f6':=(hcell 6 _ rfl).2;have f7':=(hcell 7 _ rfl).2;have f8':=(hcell 8 _ rfl).2;have f9':=(hcell 9 _ rfl).2
 try simp only[Qr]at y0 f0'
 clear hA hP hw hcell;refine wpAnyH_ready (rs:=[8]) (by kernel_rfl) (by simp) ?_;refine AllReadyH.cons rfl (fun K hK=>?_) AllReadyH.nil
 try simp only[zG]
 rw[PZ (by kernel_rfl)];refine wp_append_run (.tmp 11) (.tmp 15) 36 36 rfl _ _ rfl rfl hr ?_;refine hK.out _ _ ?_ (fun hHeld=>?_)
 ·exact HSX.out _ HHW.out
 clear hK K
 try simp only[zA,Act.put]
 refine zK (i:=9) (v:= .pointer (some ⟨g,tl*10,none⟩)) rfl ?_;simp only[zA,Act.put];refine zK (i:=11) (v:=eF b) rfl ?_;simp only[zA,Act.put];refine zK (i:=12) (v:= .pointer (some ⟨b,5,none⟩)) rfl ?_;simp only[zA,Act.put];refine wpAnyH_ready (rs:=[10,13]) (by kernel_rfl) (by simp) ?_;refine AllReadyH.cons rfl (fun K hK=>?_) (AllReadyH.cons rfl (fun K hK=>?_) AllReadyH.nil)
 ·try simp only[zG]
  go_simp;refine hK.out _ _ ?_ (fun hHeld=>?_)
  ·exact HSX.out (w'.setCells g (tl*10) [.int .i64 mk,.int .i64 ml,.int .i64 mn,.slice m1 m2 m3,.slice n1 n2 n3,.slice o1 o2 o3,.string ⟨mc.toArray⟩,.slice l1 l2 l3,.bool mb,.bool ma]) ((aB hgw _ _ _).trans HHW.out)
  clear hK K
  try simp only[zA,Act.put]
  refine wpAnyH_ready (rs:=[13]) (by kernel_rfl) (by simp) ?_;refine AllReadyH.cons rfl (fun K hK=>?_) AllReadyH.nil
  try simp only[zG]
  go_simp;refine hK.out _ _ ?_ (fun hHeld=>?_)
  ·exact HSX.out ((w'.setCells g (tl*10) [.int .i64 mk,.int .i64 ml,.int .i64 mn,.slice m1 m2 m3,.slice n1 n2 n3,.slice o1 o2 o3,.string ⟨mc.toArray⟩,.slice l1 l2 l3,.bool mb,.bool ma]).setCell ⟨b,5,none⟩ (.slice (some ⟨g,0,none⟩) (tl+1) c)) ((PN _ ⟨b,5,none⟩ _ _ hbw).trans ((aB hgw _ _ _).trans HHW.out))
  clear hK K
  try simp only[zA,Act.put]
  refine Qd (by kernel_rfl) ?_ _;go_wp2_with fail
  go_end0;exact⟨rfl,HFN.out _ HA.out⟩
 ·try simp only[zG]
  go_simp;refine hK.out _ _ ?_ (fun hHeld=>?_)
  ·exact HSX.out (w'.setCell ⟨b,5,none⟩ (.slice (some ⟨g,0,none⟩) (tl+1) c)) ((PN _ ⟨b,5,none⟩ _ _ hbw).trans HHW.out)
  clear hK K
  try simp only[zA,Act.put]
  refine wpAnyH_ready (rs:=[10]) (by kernel_rfl) (by simp) ?_;refine AllReadyH.cons rfl (fun K hK=>?_) AllReadyH.nil
  try simp only[zG]
  go_simp;refine hK.out _ _ ?_ (fun hHeld=>?_)
  ·exact HSX.out ((w'.setCell ⟨b,5,none⟩ (.slice (some ⟨g,0,none⟩) (tl+1) c)).setCells g (tl*10) [.int .i64 mk,.int .i64 ml,.int .i64 mn,.slice m1 m2 m3,.slice n1 n2 n3,.slice o1 o2 o3,.string ⟨mc.toArray⟩,.slice l1 l2 l3,.bool mb,.bool ma]) ((aB hgw _ _ _).trans ((PN _ ⟨b,5,none⟩ _ _ hbw).trans HHW.out))
  clear hK K
  try simp only[zA,Act.put]
  refine Qd (by kernel_rfl) ?_ _;go_wp2_with fail
  go_end0;refine⟨rfl,HFN.out _ ?_⟩;have q:=HA.out;rw[bZ hgb]at q;exact q):P:=h
theorem Ik {m:Bool}{X R S:Nat→Prop}{w:World}{b:Nat}{t:Bt}{x:NV}{y:Nd}(h:BM m X R w b t)(hx:qK S w x y)(hS:∀k,S k→k<w.heap.size∧ ¬X k)(hb:btl t+nlN y≤80000):
  Calls Tryz.prog 123 #[eF b,.agg (af x).toArray] w (xP m X R b (rE t y) w):=by
 obtain⟨W1,hW1⟩:∃W,W=w.alloc (.cells (af x).toArray 58):=⟨_,rfl⟩;have b1:Below w.heap.size w W1:=by rw[hW1];exact ae _ _
 have kx:Blk W1 w.heap.size 58 (af x):=by rw[hW1];exact PK w _
 have hlt:=h.lt;have hB1:=h.keep (Kp.below b1 (fun k q=>hlt k (.inl q))) (Kp.below b1 (fun k q=>hlt k (.inr q))) b1.size;have HE:=zH (jX hB1 (by omega));have hbe:=fD t;have HNX:Hid (∀w2 X1 R1,BM m X1 R1 w2 b (bM t)→Exc X W1 w2→(∀k,X1 k→X k∨W1.heap.size≤k)→(∀k,R1 k→R k∨X k∨W1.heap.size≤k)→
   (∀(i:Nat) u,(af x)[i]? =some u→w2.cell? ⟨w.heap.size,i,none⟩=some u)∧w.heap.size<w2.heap.size∧
   (∀V,Below w2.heap.size w2 V→Calls Tryz.prog 133 #[.agg (af x).toArray] V (FE y V))∧
   ∃oa tl oc,w2.cell? ⟨b,5,none⟩=some (.slice oa tl oc)∧tl≤90000∧b<w2.heap.size∧
    (∀w3 x6,lK w2.heap.size w3 x6 y→Below w2.heap.size w2 w3→Nq m X1 R1 w2 b (bM t) y oa tl oc (fun k=>k=w.heap.size) w3 (w3.alloc (.cells #[.int .i64 0,.int .i64 0,.int .i64 0,.slice none 0 0,.slice none 0 0,.slice none 0 0,.string ⟨#[]⟩,.slice none 0 0,.bool false,.bool false] 58)) x6 ⟨w3.heap.size,0,none⟩)∧
    (∀w3 x6,lK (w2.heap.size+1) w3 x6 y→Below (w2.heap.size+1) (w2.alloc (.cells #[.int .i64 0,.int .i64 0,.int .i64 0,.slice none 0 0,.slice none 0 0,.slice none 0 0,.string ⟨#[]⟩,.slice none 0 0,.bool false,.bool false] 58)).drew w3→Nq m X1 R1 w2 b (bM t) y oa tl oc (fun k=>k=w.heap.size) w3 w3 x6 ⟨w2.heap.size,0,none⟩)):=zH (fun w2 X1 R1 hB hE hX hR=>by
  have hxn:¬X w.heap.size:=fun q=>by have:=hlt _ (.inl q);omega
  have hx1:¬X1 w.heap.size:=fun q=>(hX _ q).elim hxn (fun z=>by have:=kx.lt;omega)
  have hbx:b≠w.heap.size:=fun e=>by have:=hlt b (.inl h.self);omega
  have hs1:=b1.size;have hs2:=hE.size;have hk1:=kx.lt;refine⟨fun i u hu=>?_,by omega,fun V hV=>?_,?_⟩
  ·rw[aM (hE.block _ kx.lt hxn),kx.cell i];exact hu
  ·have kS:Kp S w V:=fun k q=>(hV.block k (by have:=(hS k q).1;omega)).trans ((hE.block k (PH (hS k q).1 b1.size) (hS k q).2).trans (b1.block k (hS k q).1))
   have hsV:=hV.size;exact rC (lu y) y (Px _) (by omega) S x V (hx.keep kS) (fun k q=>by have:=(hS k q).1;omega)
  have hsm:=fC (show btl (bM t)≤90000 by omega);obtain⟨oa,oc,c5,hbl,hP⟩:=hB.pushO (by omega);refine⟨oa,_,oc,c5,hsm.2.1,hbl,fun w3 x6 hc hb3=>?_,fun w3 x6 hc hb3=>?_⟩
  ·obtain⟨g,c,w',p1,p2,p3,p4,p5,p6,p7,p8⟩:=hP w3 _ _ x6 y _ 1 hb3 (Px _) hc (ae w3 (.cells #[.int .i64 0,.int .i64 0,.int .i64 0,.slice none 0 0,.slice none 0 0,.slice none 0 0,.string ⟨#[]⟩,.slice none 0 0,.bool false,.bool false] 58)) (OC w3)
   exact⟨g,c,w',p1,p2,p3,p4,p5,fun k e=>⟨(p7 k (by omega) (by rw[e];exact hx1)).1,by omega,(p7 k (by omega) (by rw[e];exact hx1)).2⟩,p8⟩
  ·have hz1:(w2.alloc (.cells #[.int .i64 0,.int .i64 0,.int .i64 0,.slice none 0 0,.slice none 0 0,.slice none 0 0,.string ⟨#[]⟩,.slice none 0 0,.bool false,.bool false] 58)).drew.heap.size=w2.heap.size+1:=PS _ _
   have hz:=OC w2;have hb3':Below w2.heap.size w2 w3:=(ae w2 (.cells #[.int .i64 0,.int .i64 0,.int .i64 0,.slice none 0 0,.slice none 0 0,.slice none 0 0,.string ⟨#[]⟩,.slice none 0 0,.bool false,.bool false] 58)).drew.trans (hb3.mono (by omega));have hzz:Fs 10 af w3 (.slice (some ⟨w2.heap.size,0,none⟩) 1 1) [zN0]:=Fs.below (w:=(w2.alloc (.cells #[.int .i64 0,.int .i64 0,.int .i64 0,.slice none 0 0,.slice none 0 0,.slice none 0 0,.string ⟨#[]⟩,.slice none 0 0,.bool false,.bool false] 58)).drew) hz (by rw[hz1];exact hb3);obtain⟨g,c,w',p1,p2,p3,p4,p5,p6,p7,p8⟩:=hP w3 w3 _ x6 y _ 1 hb3' (by omega) hc (PG _ _) hzz;exact⟨g,c,w',p1,p2,p3,p4,p5,fun k e=>⟨(p7 k (by omega) (by rw[e];exact hx1)).1,by omega,(p7 k (by omega) (by rw[e];exact hx1)).2⟩,p8⟩)
 have HSZ:Hid (W1.heap.size=w.heap.size+1∧Exc X w W1):=zH ⟨by rw[hW1,PS],Exc.of b1⟩;obtain⟨xk,xl,xn,⟨t1,t2,t3⟩,⟨k1,k2,k3⟩,⟨r1,r2,r3⟩,xc,⟨q1,q2,q3⟩,xb,xa⟩:=x;simp only[af,pv]at hW1 HNX⊢;have HW1:=zH hW1;have hblt:b<W1.heap.size:=hB1.lt b (.inl hB1.self);clear h hx hS hb hW1 b1 kx hlt hB1 hbe;go_enter Tryz.func123,Tryz.ntmps123
 go_upto_region 1 with fail
 rw[←HW1.out];clear HW1;go_wp2_with fail
 refine HE.out.mono ?_;rintro e w2 ⟨rfl,X1,R1,hB,hE,hX,hR⟩;obtain⟨hcl,hwl,hcp,oa,tl,oc,c5,htl,hbl,hPA,hPB⟩:=HNX.out w2 X1 R1 hB hE hX hR;have HFN:Hid (∀F,AfC m X1 R1 b {bM t with opn:=(bM t).opn++ [y] } w2 F→AfC m X R b (rE t y) w F):=zH (fun F hF=>AfC.step (HSZ.out.2.then hE) (fun k q=>(hX k q).imp id (fun z=>by have:=HSZ.out.1;omega)) (fun k q=>(hR k q).imp id (fun z=>z.imp id (fun z=>by have:=HSZ.out.1;omega))) hF);have HCP:=zH hcp;have HPA:=zH hPA;have HPB:=zH hPB;have x0:=hcl 0 _ rfl;have x1:=hcl 1 _ rfl;have x2:=hcl 2 _ rfl;have x3:=hcl 3 _ rfl;have x4:=hcl 4 _ rfl;have x5:=hcl 5 _ rfl;have x6:=hcl 6 _ rfl;have x7:=hcl 7 _ rfl;have x8:=hcl 8 _ rfl;have x9:=hcl 9 _ rfl;have HSX:Hid (∀W:World,W.heap[w.heap.size]? =w2.heap[w.heap.size]? →W.cell? ⟨w.heap.size,0,none⟩=some (.int .i64 xk)∧W.cell? ⟨w.heap.size,1,none⟩=some (.int .i64 xl)∧W.cell? ⟨w.heap.size,2,none⟩=some (.int .i64 xn)∧W.cell? ⟨w.heap.size,3,none⟩=some (.slice t1 t2 t3)∧W.cell? ⟨w.heap.size,4,none⟩=some (.slice k1 k2 k3)∧W.cell? ⟨w.heap.size,5,none⟩=some (.slice r1 r2 r3)∧W.cell? ⟨w.heap.size,6,none⟩=some (.string ⟨xc.toArray⟩)∧W.cell? ⟨w.heap.size,7,none⟩=some (.slice q1 q2 q3)∧W.cell? ⟨w.heap.size,8,none⟩=some (.bool xb)∧W.cell? ⟨w.heap.size,9,none⟩=some (.bool xa)):=zH (fun W e=>⟨(aM e).trans x0,(aM e).trans x1,(aM e).trans x2,(aM e).trans x3,(aM e).trans x4,(aM e).trans x5,(aM e).trans x6,(aM e).trans x7,(aM e).trans x8,(aM e).trans x9⟩);clear hcl hcp hPA hPB hB hE hX hR HE HNX HSZ;have hk0:(0:Int)≤(tl:Int):=by omega
 have hk1:(tl:Int)<(tl:Int)+1:=by omega
 have hk2:(tl:Int)<((tl+1:Nat):Int):=by omega
 have hk3:(tl:Int)≤90000:=by omega
 go_wp2_with fail
 refine wp_region_held_drew (S:=(fun W'=>W'.cell? ⟨w.heap.size,0,none⟩=some (.int .i64 xk)∧W'.cell? ⟨w.heap.size,1,none⟩=some (.int .i64 xl)∧W'.cell? ⟨w.heap.size,2,none⟩=some (.int .i64 xn)∧W'.cell? ⟨w.heap.size,3,none⟩=some (.slice t1 t2 t3)∧W'.cell? ⟨w.heap.size,4,none⟩=some (.slice k1 k2 k3)∧W'.cell? ⟨w.heap.size,5,none⟩=some (.slice r1 r2 r3)∧W'.cell? ⟨w.heap.size,6,none⟩=some (.string ⟨xc.toArray⟩)∧W'.cell? ⟨w.heap.size,7,none⟩=some (.slice q1 q2 q3)∧W'.cell? ⟨w.heap.size,8,none⟩=some (.bool xb)∧W'.cell? ⟨w.heap.size,9,none⟩=some (.bool xa))) (by kernel_rfl) ?_ (fun hHeld=>?_)
 ·exact HSX.out _ rfl
 refine zK (i:=0) (v:=eF b) rfl ?_;simp only[zA,Act.put];refine zK (i:=1) (v:=eF b) rfl ?_;simp only[zA,Act.put];refine zK (i:=2) (v:= .pointer (some ⟨b,5,none⟩)) rfl ?_;simp only[zA,Act.put];refine zK (i:=4) (v:= .agg #[.int .i64 xk,.int .i64 xl,.int .i64 xn,.slice t1 t2 t3,.slice k1 k2 k3,.slice r1 r2 r3,.string ⟨xc.toArray⟩,.slice q1 q2 q3,.bool xb,.bool xa]) rfl ?_;simp only[zA,Act.put];refine wpAnyH_ready (rs:=[3,5,7]) (by kernel_rfl) (by simp) ?_;refine AllReadyH.cons rfl (fun K hK=>?_) (AllReadyH.cons rfl (fun K hK=>?_) (AllReadyH.cons rfl (fun K hK=>?_) AllReadyH.nil))
 ·try simp only[zG]
  go_simp;refine hK.out _ _ ?_ (fun hHeld=>?_)
  ·exact HSX.out _ rfl
  clear hK K
  try simp only[zA,Act.put]
  refine zK (i:=6) (v:= .int .i64 (tl:Int)) rfl ?_;simp only[zA,Act.put];refine wpAnyH_ready (rs:=[5,7]) (by kernel_rfl) (by simp) ?_;refine AllReadyH.cons rfl (fun K hK=>?_) (AllReadyH.cons rfl (fun K hK=>?_) AllReadyH.nil)
  ·try simp only[zG]
   go_simp;go_at_call 133
   refine(HCP.out w2.drew (PG w2.heap.size w2).drew).mono ?_;rintro e w3 ⟨x6,rfl,hc6,hb3⟩;have hb3':Below w2.heap.size w2 w3:=(PG w2.heap.size w2).drew.trans hb3;have HB3:Hid (Below w2.heap.size w2 w3):=zH hb3';have HC6:Hid (lK w2.heap.size w3 x6 y):=zH hc6;have c5w:w3.cell? ⟨b,5,none⟩=some (.slice oa tl oc):=aC hb3' c5;have HHX:Hid (w3.heap[w.heap.size]? =w2.heap[w.heap.size]?):=zH (hb3'.block _ hwl);clear hc6 hb3 hb3';obtain⟨mk,ml,mn,⟨m1,m2,m3⟩,⟨n1,n2,n3⟩,⟨o1,o2,o3⟩,mc,⟨l1,l2,l3⟩,mb,ma⟩:=x6;simp only[af,pv];go_wp2_with fail
   refine hK.out _ _ ?_ (fun hHeld=>?_)
   ·exact HSX.out _ HHX.out
   clear hK K
   try simp only[zA,Act.put]
   exact QUo
  ·try simp only[zG]
   go_simp;refine hK.out _ _ ?_ (fun hHeld=>?_)
   ·exact HSX.out _ (Qk w2 _ hwl)
   clear hK K
   try simp only[zA,Act.put]
   exact QUm
 ·try simp only[zG]
  go_simp;go_at_call 133
  refine(HCP.out w2.drew (PG w2.heap.size w2).drew).mono ?_;rintro e w3 ⟨x6,rfl,hc6,hb3⟩;have hb3':Below w2.heap.size w2 w3:=(PG w2.heap.size w2).drew.trans hb3;have HB3:Hid (Below w2.heap.size w2 w3):=zH hb3';have HC6:Hid (lK w2.heap.size w3 x6 y):=zH hc6;have c5w:w3.cell? ⟨b,5,none⟩=some (.slice oa tl oc):=aC hb3' c5;have HHX:Hid (w3.heap[w.heap.size]? =w2.heap[w.heap.size]?):=zH (hb3'.block _ hwl);clear hc6 hb3 hb3';obtain⟨mk,ml,mn,⟨m1,m2,m3⟩,⟨n1,n2,n3⟩,⟨o1,o2,o3⟩,mc,⟨l1,l2,l3⟩,mb,ma⟩:=x6;simp only[af,pv];go_wp2_with fail
  refine hK.out _ _ ?_ (fun hHeld=>?_)
  ·exact HSX.out _ HHX.out
  clear hK K
  try simp only[zA,Act.put]
  refine wpAnyH_ready (rs:=[3,7]) (by kernel_rfl) (by simp) ?_;refine AllReadyH.cons rfl (fun K hK=>?_) (AllReadyH.cons rfl (fun K hK=>?_) AllReadyH.nil)
  ·try simp only[zG]
   go_simp;refine hK.out _ _ ?_ (fun hHeld=>?_)
   ·exact HSX.out _ HHX.out
   clear hK K
   try simp only[zA,Act.put]
   refine zK (i:=6) (v:= .int .i64 (tl:Int)) rfl ?_;simp only[zA,Act.put];exact QUo
  ·try simp only[zG]
   have HHZ:Hid ((w3.alloc (.cells #[.int .i64 0,.int .i64 0,.int .i64 0,.slice none 0 0,.slice none 0 0,.slice none 0 0,.string ⟨#[]⟩,.slice none 0 0,.bool false,.bool false] 58)).heap[w.heap.size]? =w2.heap[w.heap.size]?):=zH ((Qk w3 _ (PH hwl HB3.out.size)).trans HHX.out);go_simp;refine hK.out _ _ ?_ (fun hHeld=>?_)
   ·exact HSX.out _ HHZ.out
   clear hK K
   try simp only[zA,Act.put]
   refine wpAnyH_ready (rs:=[3]) (by kernel_rfl) (by simp) ?_;refine AllReadyH.cons rfl (fun K hK=>?_) AllReadyH.nil
   try simp only[zG]
   have c5z:(w3.alloc (.cells #[.int .i64 0,.int .i64 0,.int .i64 0,.slice none 0 0,.slice none 0 0,.slice none 0 0,.string ⟨#[]⟩,.slice none 0 0,.bool false,.bool false] 58)).cell? ⟨b,5,none⟩=some (.slice oa tl oc):=aC (ae w3 _) c5w;go_simp;refine hK.out _ _ ?_ (fun hHeld=>?_)
   ·exact HSX.out _ HHZ.out
   clear hK K
   try simp only[zA,Act.put]
   refine zK (i:=6) (v:= .int .i64 (tl:Int)) rfl ?_;simp only[zA,Act.put];obtain⟨g,c,w',hr,hcell,hgb,e5,f5,hP,hA⟩:=HPA.out w3 _ HC6.out HB3.out;exact QUp
 ·try simp only[zG]
  go_simp;refine hK.out _ _ ?_ (fun hHeld=>?_)
  ·exact HSX.out _ (Qk w2 _ hwl)
  clear hK K
  try simp only[zA,Act.put]
  refine wpAnyH_ready (rs:=[3,5]) (by kernel_rfl) (by simp) ?_;refine AllReadyH.cons rfl (fun K hK=>?_) (AllReadyH.cons rfl (fun K hK=>?_) AllReadyH.nil)
  ·try simp only[zG]
   have c5z:(w2.alloc (.cells #[.int .i64 0,.int .i64 0,.int .i64 0,.slice none 0 0,.slice none 0 0,.slice none 0 0,.string ⟨#[]⟩,.slice none 0 0,.bool false,.bool false] 58)).cell? ⟨b,5,none⟩=some (.slice oa tl oc):=aC (ae w2 _) c5;go_simp;refine hK.out _ _ ?_ (fun hHeld=>?_)
   ·exact HSX.out _ (Qk w2 _ hwl)
   clear hK K
   try simp only[zA,Act.put]
   refine zK (i:=6) (v:= .int .i64 (tl:Int)) rfl ?_;simp only[zA,Act.put];exact QUm
  ·try simp only[zG]
   go_simp;go_at_call 133
   refine(HCP.out (w2.alloc (.cells #[.int .i64 0,.int .i64 0,.int .i64 0,.slice none 0 0,.slice none 0 0,.slice none 0 0,.string ⟨#[]⟩,.slice none 0 0,.bool false,.bool false] 58)).drew (ae w2 _).drew).mono ?_;rintro e w3 ⟨x6,rfl,hc6,hb3⟩;have hz1:(w2.alloc (.cells #[.int .i64 0,.int .i64 0,.int .i64 0,.slice none 0 0,.slice none 0 0,.slice none 0 0,.string ⟨#[]⟩,.slice none 0 0,.bool false,.bool false] 58)).drew.heap.size=w2.heap.size+1:=PS _ _;rw[hz1]at hb3 hc6;have HB3:Hid (Below (w2.heap.size+1) (w2.alloc (.cells #[.int .i64 0,.int .i64 0,.int .i64 0,.slice none 0 0,.slice none 0 0,.slice none 0 0,.string ⟨#[]⟩,.slice none 0 0,.bool false,.bool false] 58)).drew w3):=zH hb3;have HC6:Hid (lK (w2.heap.size+1) w3 x6 y):=zH hc6;have hb3':Below w2.heap.size w2 w3:=(ae w2 (.cells #[.int .i64 0,.int .i64 0,.int .i64 0,.slice none 0 0,.slice none 0 0,.slice none 0 0,.string ⟨#[]⟩,.slice none 0 0,.bool false,.bool false] 58)).drew.trans (hb3.mono (by omega));have c5w:w3.cell? ⟨b,5,none⟩=some (.slice oa tl oc):=aC hb3' c5;have HHX:Hid (w3.heap[w.heap.size]? =w2.heap[w.heap.size]?):=zH (hb3'.block _ hwl);clear hc6 hb3 hb3';obtain⟨mk,ml,mn,⟨m1,m2,m3⟩,⟨n1,n2,n3⟩,⟨o1,o2,o3⟩,mc,⟨l1,l2,l3⟩,mb,ma⟩:=x6;simp only[af,pv];go_wp2_with fail
   refine hK.out _ _ ?_ (fun hHeld=>?_)
   ·exact HSX.out _ HHX.out
   clear hK K
   try simp only[zA,Act.put]
   refine wpAnyH_ready (rs:=[3]) (by kernel_rfl) (by simp) ?_;refine AllReadyH.cons rfl (fun K hK=>?_) AllReadyH.nil
   try simp only[zG]
   go_simp;refine hK.out _ _ ?_ (fun hHeld=>?_)
   ·exact HSX.out _ HHX.out
   clear hK K
   try simp only[zA,Act.put]
   refine zK (i:=6) (v:= .int .i64 (tl:Int)) rfl ?_;simp only[zA,Act.put];obtain⟨g,c,w',hr,hcell,hgb,e5,f5,hP,hA⟩:=HPB.out w3 _ HC6.out HB3.out;exact QUp
section
theorem BM.begin {X R:Nat→Prop}{w:World}{b:Nat}{t:Bt}(h:BM true X R w b t)(hh:t.has=false)(i:Int):
  w.frozen? ⟨b,6,none⟩=false∧AfC true X R b {t with has:=true,line:=i} w ((w.setCell ⟨b,6,none⟩ (.pointer (some ⟨w.heap.size,0,none⟩))).alloc (.cells (af (iW i aj)).toArray 58)):=by
 obtain⟨kv,ov,pa,LO,lab,h1,h2⟩:=h;obtain⟨rfl,ht,hl⟩:pa=.pointer none∧t.text=[]∧t.line=0:=by
  rcases h1.para with⟨-,q⟩| ⟨q,-⟩
  ·exact q
  ·rw[hh]at q;cases q
 refine⟨h1.box.frozen (by simp[bP]),?_⟩;obtain⟨W0,hW0⟩:∃W,w.setCell ⟨b,6,none⟩ (.pointer (some ⟨w.heap.size,0,none⟩))=W:=⟨_,rfl⟩;have hz0:W0.heap.size=w.heap.size:=by rw[←hW0];exact gH _ _ _
 have box0:=h1.box.set 6 (.pointer (some ⟨w.heap.size,0,none⟩));have eb:(bP t.nm kv ov (.pointer none)).set 6 (.pointer (some ⟨w.heap.size,0,none⟩))=bP t.nm kv ov (.pointer (some ⟨w.heap.size,0,none⟩)):=rfl;rw[eb,hW0]at box0;rw[hW0];obtain⟨F,hFF⟩:∃F,W0.alloc (.cells (af (iW i aj)).toArray 58)=F:=⟨_,rfl⟩;have hb0:Below W0.heap.size W0 F:=by rw[←hFF];exact ae _ _
 have box':=box0.below hb0;have hkF:Blk F w.heap.size 58 (af (iW i aj)):=by rw[←hFF,←hz0];exact PK W0 _
 have hblt:=h1.box.lt;have hz:=hkF.lt;have hFs:F.heap.size=F.heap.size:=rfl;have hE0:Exc (fun k=>k=b) w W0:=by rw[←hW0];exact(Exc.refl (fun k=>k=b) w).set 6 _ (fun _=>rfl)
 have hEF:Exc (fun k=>k=b) w F:=hE0.trans (Exc.of (X:=fun _=>False) hb0) (fun _ _ q=>q.elim);rw[hFF];have kS:∀k,k<w.heap.size→lab k≠1→F.heap[k]? =w.heap[k]? :=fun k q1 q2=>hEF.block k q1 (fun e=>q2 (by rw[e];exact h1.lb))
 have kR:Kp R w F:=fun k q=>kS k (h1.rl k q) (by rw[h1.sep k q];decide)
 have kz:∀z,z≠0→z≠1→Kp (fun k=>lab k=z) w F:=fun z a0 a1 k q=>kS k (h1.ll k (by rw[show lab k=z from q];exact a0)) (by rw[show lab k=z from q];exact a1)
 have ne:∀k,lab k≠0→k≠w.heap.size:=fun k q e=>by have:=h1.ll k q;omega
 have ln:∀k z,z≠0→lab k=z→(if k=w.heap.size then 4 else lab k)=z:=fun k z a0 q=>by rw[PO (ne k (by omega)),q]
 refine⟨fun k=>(if k=w.heap.size then 4 else lab k)≠0,R,⟨kv,ov,.pointer (some ⟨w.heap.size,0,none⟩),LO,fun k=>if k=w.heap.size then 4 else lab k,⟨fun k q=>?_,fun k q=>PH (h1.rl k q) hEF.size,fun k q=>?_,ln b 1 (by decide) h1.lb,box',?_,h1.opn.kp (fun k e=>kz 3 (by decide) (by decide) k (h1.opb k e)),fun k e=>ln k 3 (by decide) (h1.opb k e),h1.ol,fun j x2 y2 p q=>?_,?_⟩,fun k=>RJ⟩,hEF.mono (fun k _ q=>(h2 k).2 (by rw[q,h1.lb];decide)),fun k q=>?_,fun k q=> .inl q⟩
 ·by_cases e:k=w.heap.size
  ·rw[e];exact hz
  ·simp only[PO e]at q
   exact PH (h1.ll k q) hEF.size
 ·have e:k≠w.heap.size:=fun e=>by have:=h1.rl k q;omega
  simp only[PO e,h1.sep k q]
 ·exact(h1.kids.keep kR (kz 2 (by decide) (by decide))).mono (fun k q=>q) (fun k q=>ln k 2 (by decide) q)
 ·obtain⟨q1,q2⟩:=h1.on j x2 y2 p q
  exact⟨q1.keep kR,(q2.keep kR (kz _ (by omega) (by omega))).mono (fun k q=>q) (fun k z=>ln k _ (by omega) z)⟩
 ·refine .inr ⟨rfl,w.heap.size,aj,rfl,hkF,.inl ⟨rfl,by simp,?_,fun k e=>by cases e⟩⟩
  show ag _ _ _ _ _ _ t.text;rw[ht];exact ag.nil _ _
 ·by_cases e:k=w.heap.size
  ·exact .inr (by omega)
  ·simp only[PO e]at q
   exact .inl ((h2 k).2 q)
theorem BM.txt {X R:Nat→Prop}{w:World}{b:Nat}{t:Bt}(h:BM true X R w b t)(hh:t.has=true):
  ∃g a c,w.cell? ⟨b,6,none⟩=some (.pointer (some ⟨g,0,none⟩))∧w.cell? ⟨g,3,none⟩=some (.slice a t.text.length c)∧ag 35 2 aR 0 w (.slice a t.text.length c) t.text∧
   ∀(W w':World) (a':Option Addr) (c':Nat) (L:List Gly),Below w.heap.size w W→ag 35 2 aR 0 w' (.slice a' L.length c') L→W.grownBy w' (Value.slice a t.text.length c).ownBlock→((Value.slice a' L.length c').ownBlock=(Value.slice a t.text.length c).ownBlock∨(Value.slice a' L.length c').ownBlock=some W.heap.size)→
    w'.cell? ⟨b,6,none⟩=some (.pointer (some ⟨g,0,none⟩))∧w'.cell? ⟨g,3,none⟩=some (.slice a t.text.length c)∧w'.frozen? ⟨g,3,none⟩=false∧g≠b∧AfC true X R b {t with text:=L} w (w'.setCell ⟨g,3,none⟩ (.slice a' L.length c')):=by
 obtain⟨kv,ov,pa,LO,lab,h1,h2⟩:=h;rcases h1.para with⟨q,-⟩| ⟨-,g,tv,rfl,hg,hp⟩
 ·rw[hh]at q;cases q
 obtain⟨hg4,hto,htb⟩:lab g=4∧ag 35 2 aR 0 w (pv tv) t.text∧ ∀k,(pv tv).ownBlock=some k→lab k=5:=by
  rcases hp with⟨-,q⟩| ⟨q,-⟩
  ·exact q
  ·cases q
 obtain⟨a,c,et,-⟩:=ag.sl ah hto;have hg3:=hg.cell 3;rw[et]at hto htb;refine⟨g,a,c,h1.box.cell 6,by rw[hg3,←et];rfl,hto,fun W w' a' c' L hb hF hgr hob=>?_⟩;have hgb:g≠b:=fun e=>by rw[e,h1.lb]at hg4;omega
 have hE:Exc (fun k=>lab k=5) w w':=(Exc.of (X:=fun k=>lab k=5) hb).trans (Y:=fun k=>lab k=5) ⟨hgr.os,hgr.tape,hgr.output,hgr.size,fun k q1 q2=>hgr.block k q1 (fun e=>q2 (htb k e.symm))⟩ (fun _ _ q=>q);have hg':Blk w' g 58 (af (iW t.line tv)):=hE.blk hg (by rw[hg4];decide);have box':Blk w' b 116 (bP t.nm kv ov (.pointer (some ⟨g,0,none⟩))):=hE.blk h1.box (by rw[h1.lb];decide);have hg2:=hg'.set 3 (.slice a' L.length c');have eb:(af (iW t.line tv)).set 3 (.slice a' L.length c')=af (iW t.line (a',L.length,c')):=rfl;rw[eb]at hg2;obtain⟨F,hFF⟩:∃F,w'.setCell ⟨g,3,none⟩ (.slice a' L.length c')=F:=⟨_,rfl⟩;have hgF:Blk F g 58 (af (iW t.line (a',L.length,c'))):=by rw[←hFF];exact hg2
 have hEF:Exc (fun k=>lab k=5∨lab k=4) w F:=by
  rw[←hFF];exact(hE.mono (fun k _ q=> .inl q)).set 3 _ (fun _=> .inr hg4)
 have hFs:F.heap.size=w'.heap.size:=by rw[←hFF,gH]
 have c3:w'.cell? ⟨g,3,none⟩=some (.slice a t.text.length c):=by rw[hg'.cell 3,←et];rfl
 refine⟨box'.cell 6,c3,hg'.frozen (by rw[ay];decide),hgb,?_⟩;rw[hFF];have hlV:∀k,(Value.slice a' L.length c').ownBlock=some k→lab k=5∨w.heap.size≤k:=fun k e=>hob.elim (fun q=> .inl (htb k (q▸e))) (fun q=> .inr (by rw[q]at e;have:=PT e;have:=hb.size;omega))
 have hlV2:∀k,(Value.slice a' L.length c').ownBlock=some k→k<w'.heap.size:=fun k e=>hF.ltb e
 have kS:∀k,k<w.heap.size→lab k≠5→lab k≠4→F.heap[k]? =w.heap[k]? :=fun k q1 q2 q3=>hEF.block k q1 (fun e=>e.elim q2 q3)
 have kR:Kp R w F:=fun k q=>kS k (h1.rl k q) (by rw[h1.sep k q];decide) (by rw[h1.sep k q];decide)
 have kz:∀z,z≠0→z≠5→z≠4→Kp (fun k=>lab k=z) w F:=fun z a0 a1 a2 k q=>kS k (h1.ll k (by rw[show lab k=z from q];exact a0)) (by rw[show lab k=z from q];exact a1) (by rw[show lab k=z from q];exact a2)
 have ln:∀k z,z≠0→z≠5→lab k=z→(if(Value.slice a' L.length c').ownBlock=some k then 5 else lab k)=z:=fun k z a0 a5 q=>by
  rw[PO (fun e=>(hlV k e).elim (fun z=>by omega) (fun z=>by have:=h1.ll k (by omega);omega)),q]
 refine⟨fun k=>(if(Value.slice a' L.length c').ownBlock=some k then 5 else lab k)≠0,R,⟨kv,ov,.pointer (some ⟨g,0,none⟩),LO,fun k=>if(Value.slice a' L.length c').ownBlock=some k then 5 else lab k,⟨fun k q=>?_,fun k q=>PH (h1.rl k q) hEF.size,fun k q=>?_,ln b 1 (by decide) (by decide) h1.lb,?_,?_,h1.opn.kp (fun k e=>kz 3 (by decide) (by decide) (by decide) k (h1.opb k e)),fun k e=>ln k 3 (by decide) (by decide) (h1.opb k e),h1.ol,fun j x2 y2 p q=>?_,?_⟩,fun k=>RJ⟩,hEF.mono (fun k _ q=>(h2 k).2 (by omega)),fun k q=>?_,fun k q=> .inl q⟩
 ·by_cases e:(Value.slice a' L.length c').ownBlock=some k
  ·rw[hFs];exact hlV2 k e
  ·simp only[PO e]at q
   exact PH (h1.ll k q) hEF.size
 ·have e:(Value.slice a' L.length c').ownBlock≠some k:=fun e=>(hlV k e).elim (fun z=>by have:=h1.sep k q;omega) (fun z=>by have:=h1.rl k q;omega)
  simp only[PO e,h1.sep k q]
 ·exact(kz 1 (by decide) (by decide) (by decide) b h1.lb).trans h1.box
 ·exact(h1.kids.keep kR (kz 2 (by decide) (by decide) (by decide))).mono (fun k q=>q) (fun k q=>ln k 2 (by decide) (by decide) q)
 ·obtain⟨q1,q2⟩:=h1.on j x2 y2 p q
  exact⟨q1.keep kR,(q2.keep kR (kz _ (by omega) (by omega) (by omega))).mono (fun k q=>q) (fun k z=>ln k _ (by omega) (by omega) z)⟩
 ·refine .inr ⟨hh,g,(a',L.length,c'),rfl,hgF,.inl ⟨rfl,ln g 4 (by decide) (by decide) hg4,hF.kp (fun k e=>?_),fun k e=>?_⟩⟩
  ·rw[←hFF]
   refine PN _ ⟨g,3,none⟩ _ _ (fun e2=>?_);have e3:k=g:=e2;subst e3;exact(hlV k e).elim (fun z=>by omega) (fun z=>by have:=h1.ll k (by omega);omega)
  ·have e':(Value.slice a' L.length c').ownBlock=some k:=e
   simp only[PZ e']
 ·by_cases e:(Value.slice a' L.length c').ownBlock=some k
  ·exact(hlV k e).imp (fun z=>(h2 k).2 (by omega)) id
  ·simp only[PO e]at q
   exact .inl ((h2 k).2 q)
theorem EY (a l:List Gly):a.take (a.length-1)++jn (a.drop (a.length-1)) l=jn a l:=by
 rcases Ro a with e | ⟨r,z,e⟩
 ·subst e;rfl
 ·have e':a=r++ [z]:=by simpa using e
  subst e';have h1:(r++ [z]).length-1=r.length:=by simp
  rw[h1,List.take_left,List.drop_left];unfold jn
  by_cases hl:l=[]
  ·simp[hl]
  ·simp[hl]
attribute [local go_sem ↓ high] gI lU iy
theorem QUn {P:Prop}(h:P:=by
 obtain⟨X1,R1,hB,hE,hX,hR⟩:=hcut;obtain⟨W1,hW1⟩:∃W,wc=W:=⟨_,rfl⟩;rw[hW1]at hB hE⊢;obtain⟨g,a,c,c6,c3,hto,hT⟩:=hB.txt rfl;simp only at c3 hto hT;have hvl:Gs W1 (.slice va ll vc) l:=(HV.out.keep (fun k q=>hE.block k (HS.out k q).1 (HS.out k q).2)).1;obtain⟨tx,htx⟩:∃q,t.text=q:=⟨_,rfl⟩;rw[htx]at c3 hto hT;have HLT:Hid (tx.length+l.length≤80000):=zH (by rw[←htx,HLN.out];exact HLL.out);have htl:=HLT.out;obtain⟨last,hlast⟩:∃n,tx.length-1=n:=⟨_,rfl⟩;have hlt:last≤tx.length:=by omega
 obtain⟨u2,f2,s2⟩:=xM (ag.sl ah hto) last hlt;obtain⟨u1,f1,s1,e1⟩:=kZ (ag.sl ah hto) last hlt;have e1':=e1 _ _ _ rfl;subst e1';have hcut:=hto.cut ah (k:=last) hlt;have HJ:Hid (∀W,Below W1.heap.size W1 W→Calls Tryz.prog 127 #[u2,.slice va ll vc] W fun e w'=> ∃x,e=.returned x∧aW W.heap.size w' x (jn (tx.drop last) l)∧Below W.heap.size W w'):=zH (fun W hb=>qf (tx.drop last) l u2 _ W (Fs.below s2 hb) (Fs.below hvl hb) (by rw[PU];omega));have HAP:Hid (∀w2 x,aW W1.heap.size w2 x (jn (tx.drop last) l)→Below W1.heap.size W1 w2→ ∃a' c' n' w',(Builtin.append_ #[26,26] 26 #[.slice a last c,x]).run Tryz.prog w2=.ok (.slice a' n' c') w'∧w'.cell? ⟨b,6,none⟩=some (.pointer (some ⟨g,0,none⟩))∧w'.cell? ⟨g,3,none⟩=some (.slice a tx.length c)∧w'.frozen? ⟨g,3,none⟩=false∧g≠b∧AfC true X R b (iA t l i) w (w'.setCell ⟨g,3,none⟩ (.slice a' n' c'))):=zH (fun w2 x ho hb2=>by
  obtain⟨i0,hi,hz0,hz1,hz2⟩:=Ql uR;have hj:=qz (tx.drop last) l;rw[PU]at hj;have htk:(tx.take last).length=last:=by rw[PW];omega
  obtain⟨x',w',hr,ho',hgr,hq⟩:=lM (P:=Tryz.prog) (t:=26) ah qB (by decide) Tryz.underlying26 hi hz0 hz1 hz2 rfl (by decide) (hcut.keep hb2) (ag.sl ah ho) (P6 _) (by rw[htk];omega);rw[←hlast,EY]at ho';have eob:(Value.slice a last c).ownBlock=(Value.slice a tx.length c).ownBlock:=by cases a<;>rfl
  rw[eob]at hgr hq;obtain⟨a',c',e⟩:=(ag.sl ah ho').len;subst e;obtain⟨k1,k2,k3,k4,k5⟩:=hT w2 w' a' c' (jn tx l) hb2 ho' hgr hq;refine⟨a',c',_,w',hr,k1,k2,k3,k4,?_⟩;have ebt:iA t l i={({t with has:=true,line:=if t.has then t.line else i}:Bt)with text:=jn tx l}:=by
   unfold iA;rw[htx]
  rw[ebt];exact AfC.step hE hX hR k5)
 have ml:=rY ((tx.length:Int)-1) 0 (last:Int) (by split<;>omega);have hlast0:(0:Int)≤(last:Int):=by omega
 have htl9:tx.length≤80000:=by omega
 obtain⟨N,hN⟩:∃n,tx.length=n:=⟨_,rfl⟩;rw[hN]at c3 ml HAP hlt htl9 f2 f1;clear hB hE hX hR hto hT hvl htx s2 s1 e1 hcut hW1 HP6 HV HS HB htl HLT hlast HLL;go_wp2_with fail
 refine wp_region_held_drew (S:=(fun W'=>W'.cell? ⟨b,6,none⟩=some (.pointer (some ⟨g,0,none⟩)))) (by kernel_rfl) ?_ (fun hHeld=>?_)
 ·exact c6
 refine zK (i:=0) (v:=eF b) rfl ?_;simp only[zA,Act.put];refine zK (i:=1) (v:=eF b) rfl ?_;simp only[zA,Act.put];refine zK (i:=2) (v:= .pointer (some ⟨b,6,none⟩)) rfl ?_;simp only[zA,Act.put];refine zK (i:=3) (v:= .pointer (some ⟨g,0,none⟩)) rfl ?_;simp only[zA,Act.put];refine zK (i:=4) (v:= .slice a N c) rfl ?_;simp only[zA,Act.put];refine zK (i:=5) (v:= .int .i64 (last:Int)) rfl ?_;simp only[zA,Act.put];refine zK (i:=6) (v:= .slice a last c) rfl ?_;simp only[zA,Act.put];refine zK (i:=7) (v:= .slice a N c) rfl ?_;simp only[zA,Act.put];refine zK (i:=8) (v:= .int .i64 (last:Int)) rfl ?_;simp only[zA,Act.put];refine zK (i:=9) (v:=u2) rfl ?_;simp only[zA,Act.put];refine zK (i:=10) (v:= .slice va ll vc) rfl ?_;simp only[zA,Act.put];refine wpAnyH_ready (rs:=[11]) (by kernel_rfl) (by simp) ?_;refine AllReadyH.cons rfl (fun K hK=>?_) AllReadyH.nil
 try simp only[zG]
 go_simp;go_at_call 127
 refine(HJ.out _ (PG W1.heap.size W1).drew).mono ?_;rintro e w2 ⟨x,rfl,ho,hb2⟩;have hb2':Below W1.heap.size W1 w2:=(PG W1.heap.size W1).drew.trans hb2;obtain⟨a',c',n',w',hr,k1,k2,k3,k4,hA⟩:=HAP.out w2 x ho hb2';have HA:=zH hA;have c6':w2.cell? ⟨b,6,none⟩=some (.pointer (some ⟨g,0,none⟩)):=aC hb2' c6;clear hA ho hb2 hb2';go_wp2_with fail
 refine hK.out _ _ ?_ (fun hHeld=>?_)
 ·exact c6'
 clear hK K
 try simp only[zA,Act.put]
 refine wpAnyH_ready (rs:=[12]) (by kernel_rfl) (by simp) ?_;refine AllReadyH.cons rfl (fun K hK=>?_) AllReadyH.nil
 try simp only[zG]
 rw[PZ (by kernel_rfl)];refine wp_append_run (.tmp 38) (.tmp 43) 26 26 rfl _ _ rfl rfl hr ?_;refine hK.out _ _ ?_ (fun hHeld=>?_)
 ·exact k1
 clear hK K
 try simp only[zA,Act.put]
 refine zK (i:=13) (v:= .pointer (some ⟨g,0,none⟩)) rfl ?_;simp only[zA,Act.put];refine zK (i:=14) (v:= .pointer (some ⟨g,3,none⟩)) rfl ?_;simp only[zA,Act.put];refine wpAnyH_ready (rs:=[15]) (by kernel_rfl) (by simp) ?_;refine AllReadyH.cons rfl (fun K hK=>?_) AllReadyH.nil
 try simp only[zG]
 go_simp;refine hK.out _ _ ?_ (fun hHeld=>?_)
 ·rw[aM (PN w' ⟨g,3,none⟩ _ b (fun e=>k4 e.symm))];exact k1
 clear hK K
 try simp only[zA,Act.put]
 refine Qd (by kernel_rfl) ?_ _;go_wp2_with fail
 go_end0;exact⟨rfl,HA.out⟩):P:=h
theorem Ii {X R S:Nat→Prop}{w:World}{b:Nat}{t:Bt}{v:Value}(h:BM true X R w b t)(l:List Gly)(i:Int)(hv:FsS S 2 aR w v l)(hS:∀k,S k→k<w.heap.size∧ ¬X k)(hb:btl t+l.length≤80000):
  Calls Tryz.prog 92 #[eF b,v,.int .i64 i] w (xP true X R b (iA t l i) w):=by
 obtain⟨va,vc,rfl⟩:=hv.1.len;have hself:=h.self;have hblt:=h.lt b (.inl hself);have hsm:=fC (show btl t≤80000 by omega);have HB:=zH h;have HV:=zH hv;have HS:=zH hS;have HLL:Hid (t.text.length+l.length≤80000):=zH (by unfold btl at hb;omega);obtain⟨ll,hll⟩:∃n,l.length=n:=⟨_,rfl⟩;rw[hll]at HV HLL⊢;have HLN:=zH hll;obtain⟨hs,hhs⟩:∃d,t.has=d:=⟨_,rfl⟩;have HHS:=zH hhs;have HP6:Hid (if hs then(∃g,w.cell? ⟨b,6,none⟩=some (.pointer (some ⟨g,0,none⟩))) else(w.cell? ⟨b,6,none⟩=some (.pointer none)∧w.frozen? ⟨b,6,none⟩=false)):=by
  cases hs with
  | true=>
   obtain⟨g,a,c,q,-⟩:=h.txt hhs;exact zH ⟨g,q⟩
  | false=>exact zH ⟨(h.none6 hhs).1,(h.begin hhs i).1⟩
 clear h hv hS hb hself hsm hll hhs;go_enter Tryz.func92,Tryz.ntmps92
 have hP6:=HP6.out
 cases hs with
 | true=>
  obtain⟨g0,d6⟩:∃g,w.cell? ⟨b,6,none⟩=some (.pointer (some ⟨g,0,none⟩)):=hP6;go_upto_if 14 with fail
  go_cut [] (fun wx=>AfC true X R b {t with has:=true,line:=if t.has then t.line else i} w wx)
  case first=>
   go_wp2_with fail
   go_meet
   have e:({t with has:=true,line:=if t.has then t.line else i}:Bt)=t:=by
    have:=HHS.out
    cases t
    simp only at this;subst this;rfl
   rw[e];exact AfC.refl HB.out
  case rest=>
  exact QUn
 | false=>
  obtain⟨d6,e6⟩:w.cell? ⟨b,6,none⟩=some (.pointer none)∧w.frozen? ⟨b,6,none⟩=false:=hP6;go_upto_if 14 with fail
  go_cut [] (fun wx=>AfC true X R b {t with has:=true,line:=if t.has then t.line else i} w wx)
  case first=>
   go_wp2_with fail
   go_meet
   have e:({t with has:=true,line:=if t.has then t.line else i}:Bt)={t with has:=true,line:=i}:=by
    rw[HHS.out];rfl
   rw[e];exact(HB.out.begin HHS.out i).2
  case rest=>
  exact QUn
end
end Go.Proofs.YtebabjnngdjceaaGreatDoor
