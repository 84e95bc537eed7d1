/- A text is read as a document: Read. Bounds of what rows tell, where there is no table. Bounds enough, where there is no table. The chapter's example is so. -/
import Derived.Test.YtebabjnngdjceaaGreatDoorYp
import Derived.Test.YtebabjnngdjceaaGreatDoorKJ
import Derived.Test.YtebabjnngdjceaaGreatDoorCc
import Derived.Test.YtebabjnngdjceaaGreatDoorCi
import Derived.Test.YtebabjnngdjceaaGreatDoorZ0
import Derived.Test.YtebabjnngdjceaaGreatDoorDa
import Derived.Test.YtebabjnngdjceaaGreatDoorJA
set_option linter.unusedVariables false
set_option linter.unusedSimpArgs false
set_option maxRecDepth 100000
set_option maxHeartbeats 8000000
namespace Go.Proofs.YtebabjnngdjceaaGreatDoor
open Go.RowKit
section
def noT (_:Int):Prop:=False
theorem Hm:Dp U8 I9.tab noT:=fun _ _ _ _ h=>h.elim
def toM (r:Row):bu:=⟨r.1,r.2.1,r.2.2.1,r.2.2.2⟩
structure PBo (okl:Int→Prop) (rs:List bu):Prop where
 step: ∀(i:Nat) (r:bu),rs[i]? =some r→StepB okl (fP I9 (rs.take i)) r
 n:rs.length≤100000
 ml: ∀(i:Nat) (r:bu),rs[i]? =some r→r.mac.length≤100000
 e:StepB okl (fP I9 rs) row0
 e2: ∀g0,(fP I9 rs).g=some g0→(fP I9 rs).d.length+(I9.tab g0.1 g0.2).2.length≤400000
 eb:btl (dE I9 rs).b≤30000
abbrev PB (rs:List bu):Prop:=PBo noT rs
theorem tN {okl:Int→Prop} (hTab:Dp U8 I9.tab okl) {w:World} (hU:U8 w) (hEr:Er w) {l:List Row} {v:Value} (hv:Rws w v l) (hP:PBo okl (l.map toM)):Calls Tryz.prog 10 #[v] w (uS w (dE I9 (l.map toM))):=by
 obtain⟨L,hL,hA⟩:=hv;obtain⟨a,c,rfl⟩:=hL.len;refine Fb Db hU hEr hTab hL (by rw[Qe];exact hA.1) (fun i x r h1 h2=>?_) hP.step hP.n hP.ml hP.e hP.e2 hP.eb;rw[Qf]at h2
 cases hy:l[i]? with
 | none=>rw[hy]at h2;cases h2
 | some y=>
  rw[hy]at h2;obtain rfl:=Ph h2;have:=hA.2 i x y h1 hy;exact⟨this.line,this.mac,this.text,this.args⟩
theorem Fa {w:World} (hU:U8 w) (hEr:Er w) {l:List Row} {v:Value} (hv:Rws w v l) (hP:PB (l.map toM)):Calls Tryz.prog 10 #[v] w (uS w (dE I9 (l.map toM))):=tN Hm hU hEr hv hP
def rF (w:World) (s:Md) (d1:List Dgn) (e:Ending) (w':World):Prop:= ∃(p:PV) (d:Value),e= .returned (.tuple #[uC s.b.nm (pv p),d])∧NsS (fun k=>w.heap.size≤k∧k<w'.heap.size) w' (pv p) (nu s.b)∧Ds w' d (d1++s.d)∧Below w.heap.size w w'
attribute [local go_sem ↓ high] aM in
theorem Cf {okl:Int→Prop} (hTab:Dp U8 I9.tab okl) {w:World} (hU:U8 w) (hEr:Er w) (hMx:Mx w) (t:Txt) (ht:t.length≤40000) (hP:PBo okl ((fA t).1.map toM)) (hd:(fA t).2.length+(dE I9 ((fA t).1.map toM)).d.length≤1000000):
  Calls Tryz.prog 17 #[.string ⟨t.toArray⟩] w (rF w (dE I9 ((fA t).1.map toM)) (fA t).2):=by
 obtain⟨W1,hW1⟩: ∃W,w.alloc (.cells kU.toArray 38)=W:=⟨_,rfl⟩;have b1:Below w.heap.size w W1:=by rw[←hW1];exact af w _
 have kd:Blk W1 w.heap.size 38 kU:=by rw[←hW1];exact O9 w _
 obtain⟨s,hs⟩: ∃s,dE I9 ((fA t).1.map toM)=s:=⟨_,rfl⟩;rw[hs]at hd ⊢;have HRD:=zH (Ie t W1 (hMx.below (OW _) b1) ht);have HPA:Hid (∀V v,Below w.heap.size w V→Rws V v (fA t).1→Calls Tryz.prog 10 #[v] V fun e w'=> ∃p1 p2 p3 d1 d2 d3,e= .returned (.tuple #[.agg #[.string ⟨s.b.nm.a.toArray⟩,.string ⟨s.b.nm.b.toArray⟩,.string ⟨s.b.nm.c.toArray⟩,.string ⟨s.b.nm.d.toArray⟩,.slice p1 p2 p3],.slice d1 d2 d3])∧Hid (NsS (fun k=>V.heap.size≤k∧k<w'.heap.size) w' (.slice p1 p2 p3) (nu s.b)∧Ds w' (.slice d1 d2 d3) s.d∧Below V.heap.size V w')):=zH (fun V v hb hv=>by
  refine(tN hTab (hU.below hb) (hEr.below hb) hv hP).mono ?_;rintro e w' ⟨⟨p1,p2,p3⟩,d,rfl,q1,q2,q3⟩;obtain⟨d1,d3,rfl⟩:=q2.len;rw[hs]at q1 q2 ⊢;exact⟨p1,p2,p3,d1,_,d3,rfl,zH ⟨q1,q2,q3⟩⟩)
 have HK:=zH (And.intro b1 kd);have HD:=zH hd;have HP0:Hid (w.heap.size<W1.heap.size):=zH kd.lt;simp only[kU]at hW1;clear hU hEr hMx ht hP hd hs b1 kd;go_enter Tryz.func17,Tryz.ntmps17
 go_wp2_with fail
 clear hW1;refine HRD.out.mono ?_;rintro e w2 ⟨vr,vd,rfl,h1,h2,h3,h4⟩;obtain⟨bW,kd⟩:=HK.out;have b2:Below w.heap.size w w2:=bW.trans (h3.mono bW.size);have HPC:=zH (HPA.out w2 vr b2 h1.sl);have HDO:=zH h2;have HB2:=zH (And.intro b2 (And.intro (kd.below h3) h4));obtain⟨ra,rc,rfl⟩:=h1.sl.len;obtain⟨da,dc,rfl⟩:=(ag.sl ai h2).len;obtain⟨ln,hln⟩: ∃n,(fA t).1.length=n:=⟨_,rfl⟩;obtain⟨dn,hdn⟩: ∃n,(fA t).2.length=n:=⟨_,rfl⟩;rw[hln]at HPC;rw[hdn]at HDO;rw[hln,hdn];clear h1 h2 h3 h4 bW kd b2 HRD HPA HK hln hdn;go_wp2_with fail
 refine HPC.out.mono ?_;rintro e w3 ⟨p1,p2,p3,d1,d2,d3,rfl,H3⟩;obtain⟨W4,hW4⟩: ∃W,w3.alloc (.cells #[.string ⟨s.b.nm.a.toArray⟩,.string ⟨s.b.nm.b.toArray⟩,.string ⟨s.b.nm.c.toArray⟩,.string ⟨s.b.nm.d.toArray⟩,.slice p1 p2 p3] 38)=W:=⟨_,rfl⟩;have b4:Below w3.heap.size w3 W4:=by rw[←hW4];exact af w3 _
 have k4:Blk W4 w3.heap.size 38 [.string ⟨s.b.nm.a.toArray⟩,.string ⟨s.b.nm.b.toArray⟩,.string ⟨s.b.nm.c.toArray⟩,.string ⟨s.b.nm.d.toArray⟩,.slice p1 p2 p3]:=by rw[←hW4];exact O9 w3 _
 obtain⟨W5,hW5⟩: ∃W,W4.drew=W:=⟨_,rfl⟩;have b5:Below W4.heap.size W4 W5:=by rw[←hW5];exact(OX _ W4).drew
 have K5:Hid (Blk W5 w3.heap.size 38 [.string ⟨s.b.nm.a.toArray⟩,.string ⟨s.b.nm.b.toArray⟩,.string ⟨s.b.nm.c.toArray⟩,.string ⟨s.b.nm.d.toArray⟩,.slice p1 p2 p3]):=zH (k4.below b5);have HAP:Hid (∃x1 x2 x3 w6,(ic #[.slice da dn dc,.slice d1 d2 d3]).run Tryz.prog W5= .ok (.value (.slice x1 x2 x3)) w6∧Hid (Blk w6 w3.heap.size 38 [.string ⟨s.b.nm.a.toArray⟩,.string ⟨s.b.nm.b.toArray⟩,.string ⟨s.b.nm.c.toArray⟩,.string ⟨s.b.nm.d.toArray⟩,.slice p1 p2 p3])∧
   (∃q,w6.cell? ⟨w.heap.size,0,none⟩=some q)∧(∃q,w6.cell? ⟨w.heap.size,1,none⟩=some q)∧(∃q,w6.cell? ⟨w.heap.size,2,none⟩=some q)∧(∃q,w6.cell? ⟨w.heap.size,3,none⟩=some q)∧(∃q,w6.cell? ⟨w.heap.size,4,none⟩=some q)∧(w6.frozen? ⟨w.heap.size,0,none⟩=false∧w6.frozen? ⟨w.heap.size,1,none⟩=false∧w6.frozen? ⟨w.heap.size,2,none⟩=false∧w6.frozen? ⟨w.heap.size,3,none⟩=false∧w6.frozen? ⟨w.heap.size,4,none⟩=false)∧
   ∃W9,((((w6.setCell ⟨w.heap.size,0,none⟩ (.string ⟨s.b.nm.a.toArray⟩)).setCell ⟨w.heap.size,1,none⟩ (.string ⟨s.b.nm.b.toArray⟩)).setCell ⟨w.heap.size,2,none⟩ (.string ⟨s.b.nm.c.toArray⟩)).setCell ⟨w.heap.size,3,none⟩ (.string ⟨s.b.nm.d.toArray⟩)).setCell ⟨w.heap.size,4,none⟩ (.slice p1 p2 p3)=W9∧(∀(i:Nat) u,(qX s.b.nm (.slice p1 p2 p3))[i]? =some u→W9.cell? ⟨w.heap.size,i,none⟩=some u)∧Hid (Blk W9 w3.heap.size 38 [.string ⟨s.b.nm.a.toArray⟩,.string ⟨s.b.nm.b.toArray⟩,.string ⟨s.b.nm.c.toArray⟩,.string ⟨s.b.nm.d.toArray⟩,.slice p1 p2 p3])∧Hid (rF w s (fA t).2 (.returned (.tuple #[uC s.b.nm (.slice p1 p2 p3),.slice x1 x2 x3])) W9)):=zH (by
  obtain⟨n3,e3,b3⟩:=H3.out;obtain⟨bw,kP,hW12⟩:=HB2.out;have hlw:=HP0.out;have hPw2:w.heap.size<w2.heap.size:=kP.lt;have z2:=bw.size;have z3:=b3.size;have z4:=b4.size;have z5:=b5.size;have b45:=b4.trans (b5.mono z4);have b35:=b3.trans (b45.mono z3);have d5:=(HDO.out.keep b35);obtain⟨x',w6,hr,ho,hg,-⟩:=gG d5 (e3.below b45) (by omega) (HD.out);obtain⟨x1,x3,rfl⟩:=(ag.sl ai ho).len;have hE6:Exc (fun k=>(Value.slice da dn dc).ownBlock=some k) W5 w6:=⟨hg.os,hg.tape,hg.output,hg.size,fun k hk hx=>hg.block k hk (fun e=>hx e.symm)⟩;have hlo: ∀k,(Value.slice da dn dc).ownBlock=some k→W1.heap.size≤k∧k<w2.heap.size:=fun k e=>⟨(HDO.out.ty e).1,HDO.out.ltb e⟩
  have k6:=hE6.blk (kP.below b35) (fun e=>by have:=hlo _ e;omega);have kN:=hE6.blk K5.out (fun e=>by have:=hlo _ e;omega);obtain⟨W9,hW9⟩: ∃W9,((((w6.setCell ⟨w.heap.size,0,none⟩ (.string ⟨s.b.nm.a.toArray⟩)).setCell ⟨w.heap.size,1,none⟩ (.string ⟨s.b.nm.b.toArray⟩)).setCell ⟨w.heap.size,2,none⟩ (.string ⟨s.b.nm.c.toArray⟩)).setCell ⟨w.heap.size,3,none⟩ (.string ⟨s.b.nm.d.toArray⟩)).setCell ⟨w.heap.size,4,none⟩ (.slice p1 p2 p3)=W9:=⟨_,rfl⟩;have hE9:Exc (fun k=>k=w.heap.size) w6 W9:=by rw[←hW9];exact((((((Exc.refl (fun k=>k=w.heap.size) w6).set 0 _ (fun _=>rfl)).set 1 _ (fun _=>rfl)).set 2 _ (fun _=>rfl)).set 3 _ (fun _=>rfl)).set 4 _ (fun _=>rfl))
  have k9:Blk W9 w.heap.size 38 (qX s.b.nm (.slice p1 p2 p3)):=by rw[←hW9];exact(((((k6.set 0 (.string ⟨s.b.nm.a.toArray⟩)).set 1 (.string ⟨s.b.nm.b.toArray⟩)).set 2 (.string ⟨s.b.nm.c.toArray⟩)).set 3 (.string ⟨s.b.nm.d.toArray⟩)).set 4 (.slice p1 p2 p3))
  have z6:=hE6.size;have z9:=hE9.size;refine⟨x1,_,x3,w6,hr,zH kN,⟨_,k6.cell 0⟩,⟨_,k6.cell 1⟩,⟨_,k6.cell 2⟩,⟨_,k6.cell 3⟩,⟨_,k6.cell 4⟩,⟨k6.frozen (by simp[kU]),k6.frozen (by simp[kU]),k6.frozen (by simp[kU]),k6.frozen (by simp[kU]),k6.frozen (by simp[kU])⟩,W9,hW9,fun i u hu=>by rw[k9.cell i];exact hu,zH (hE9.blk kN (by omega)),zH ⟨(p1,p2,p3),_,rfl,?_,?_,?_⟩⟩
  ·refine(n3.keep (fun k q=>?_)).mono (fun k q=>⟨by omega,by omega⟩)
   have e1:W5.heap[k]? =w3.heap[k]? :=b45.block k (by omega);have e2:w6.heap[k]? =W5.heap[k]? :=hE6.block k (by omega) (fun e=>by have:=hlo _ e;omega);have e3:W9.heap[k]? =w6.heap[k]? :=hE9.block k (by omega) (by omega);rw[e3,e2,e1]
  ·exact ag.sl ai (ho.kp (fun k e=>hE9.block k (ho.ltb e) (fun q=>by have:=(ho.ty e).1;omega)))
  ·exact((bw.trans (b35.mono z2)).trans (hE6.below (by omega) (fun k hk e=>by have:=hlo _ e;omega))).trans (hE9.below (by omega) (fun k hk e=>by omega)))
 have HW4:=zH hW4;have HW5:=zH hW5;clear HPC HDO HB2 hW4 hW5 b4 k4 b5 H3 HP0 HD;go_upto_region 3 with fail
 rw[HW4.out];clear HW4;obtain⟨x1,x2,x3,w6,hr,K6,⟨q0,c0⟩,⟨q1,c1⟩,⟨q2,c2⟩,⟨q3,c3⟩,⟨q4,c4⟩,⟨f0,f1,f2,f3,f4⟩,W9,hW9,hcc,K9,HFIN⟩:=HAP.out;clear HAP;refine wp_region_held_drew (S:=(fun V=>Blk V w3.heap.size 38 [.string ⟨s.b.nm.a.toArray⟩,.string ⟨s.b.nm.b.toArray⟩,.string ⟨s.b.nm.c.toArray⟩,.string ⟨s.b.nm.d.toArray⟩,.slice p1 p2 p3])) (by kernel_rfl) ?_ (fun hHeld=>?_)
 ·exact(by rw[HW5.out];exact K5.out)
 rw[HW5.out]at hHeld ⊢;refine P9 (i:=0) (v:= .agg #[.string ⟨s.b.nm.a.toArray⟩,.string ⟨s.b.nm.b.toArray⟩,.string ⟨s.b.nm.c.toArray⟩,.string ⟨s.b.nm.d.toArray⟩,.slice p1 p2 p3]) rfl (by kernel_rfl) (by kernel_rfl) (by kernel_rfl) (fun _ _ _ h=>h) (Or.inl ⟨by rfl,fun w' hSw=>by(try dsimp only at hSw);have q0:=hSw.cell 0;have q1:=hSw.cell 1;have q2:=hSw.cell 2;have q3:=hSw.cell 3;have q4:=hSw.cell 4;simp only[OY,OZ]at q0 q1 q2 q3 q4;clear hSw;go_simp⟩) (by assumption) ?_;simp only[zT,zS,zZ,Act.put,yT,yZ,yS];refine zK (i:=1) (v:= .slice da dn dc) rfl ?_;simp only[zT,zS,zZ,Act.put,yT,yZ,yS];refine zK (i:=2) (v:= .slice d1 d2 d3) rfl ?_;simp only[zT,zS,zZ,Act.put,yT,yZ,yS];refine wpAnyH_ready (rs:=[3]) (by kernel_rfl) (by simp) ?_;refine AllReadyH.cons rfl (fun K hK=>?_) AllReadyH.nil
 try simp only[zT,zS,zZ]
 rw[Pk (by kernel_rfl)];refine wp_append_run (.tmp 19) (.tmp 20) 29 29 rfl _ _ rfl rfl (qm hr) ?_;refine hK.out _ _ ?_ (fun hHeld=>?_)
 ·exact K6.out
 clear hK K
 try simp only[zT,zS,zZ,Act.put,yT,yZ,yS]
 refine wpAnyH_ready (rs:=[4]) (by kernel_rfl) (by simp) ?_;refine AllReadyH.cons rfl (fun K hK=>?_) AllReadyH.nil
 try simp only[zT,zS,zZ]
 go_simp;refine hK.out _ _ ?_ (fun hHeld=>?_)
 ·exact K9.out
 clear hK K
 try simp only[zT,zS,zZ,Act.put,yT,yZ,yS]
 have y0:=hcc 0 _ rfl;have y1:=hcc 1 _ rfl;have y2:=hcc 2 _ rfl;have y3:=hcc 3 _ rfl;have y4:=hcc 4 _ rfl;refine zK (i:=5) (v:= .slice x1 x2 x3) rfl ?_;simp only[zT,zS,zZ,Act.put,yT,yZ,yS];refine PK (by kernel_rfl) ?_ _;go_wp2_with fail
 try rw[QA]
 refine Pq (v:= .tuple #[.agg #[.string ⟨s.b.nm.a.toArray⟩,.string ⟨s.b.nm.b.toArray⟩,.string ⟨s.b.nm.c.toArray⟩,.string ⟨s.b.nm.d.toArray⟩,.slice p1 p2 p3],.slice x1 x2 x3]) (by simp[results,Tryz.results17,go_sem,y0,y1,y2,y3,y4]) rfl ?_;exact HFIN.out
theorem Fq {w:World} (hU:U8 w) (hEr:Er w) (hMx:Mx w) (t:Txt) (ht:t.length≤40000) (hP:PB ((fA t).1.map toM)) (hd:(fA t).2.length+(dE I9 ((fA t).1.map toM)).d.length≤1000000):
  Calls Tryz.prog 17 #[.string ⟨t.toArray⟩] w (rF w (dE I9 ((fA t).1.map toM)) (fA t).2):=Cf Hm hU hEr hMx t ht hP hd
end
def rwt (r:bu):Nat:=2*(r.text.length+lnT r.args)+30
def iX (l:List bu):Nat:=(l.map rwt).sum
def vlM (s:Md):Nat:=match s.v with
 | some v=>v.2.length+lens v.2
 | none=>0
structure WtM (s:Md) (W:Nat):Prop where
 g:s.g=none
 b:btl s.b+vlM s≤W
 d:s.d.length≤W
theorem KD (s:Md) (k ln n:Int) (g:List Gly):btl (cz s (bL k ln n g)).b≤btl s.b+g.length+6∧(cz s (bL k ln n g)).d.length≤s.d.length+1∧(cz s (bL k ln n g)).v=s.v∧(cz s (bL k ln n g)).g=s.g:=by
 unfold cz
 split
 ·exact⟨by simp[aK];omega,by simp[aK],rfl,rfl⟩
 ·have:=JA s.b (.mk (bL k ln n g) [])
  rw[CE]at this;exact⟨by simp only;omega,QV _,rfl,rfl⟩
theorem yQ (L:List Txt):(df 0 L).2.length≤lnT L:=by rw[ig];unfold dC;have:=(dR 0 L ([],[])).2;simpa using this
theorem rJ {s:Md} (h:s.v=none):vlM s=0:=by unfold vlM;rw[h]
theorem WtM.of {s:Md} {W:Nat} (hg:s.g=none) (hv:s.v=none) (hb:btl s.b≤W) (hd:s.d.length≤W):WtM s W:=⟨hg,by rw[rJ hv];exact hb,hd⟩
theorem WtM.opn {s:Md} {W:Nat} {k ln n:Int} {g:List Gly} (hg:s.g=none) (hv:s.v=none) (hb:btl s.b+g.length+6≤W) (hd:s.d.length+1≤W):WtM (cz s (bL k ln n g)) W:=by
 obtain⟨o1,o2,o3,o4⟩:=KD s k ln n g;exact WtM.of (o4.trans hg) (o3.trans hv) (by omega) (by omega)
theorem WtM.step {s:Md} {W:Nat} (h:WtM s W) {r:bu} (hl:gT r) (hts:r.mac≠ [84,83]):WtM (lM I9 s r) (W+rwt r):=by
 obtain⟨hg,hb,hd⟩:=h;unfold rwt;unfold lM;rw[hg];dsimp only
 cases hi:I9.inl r with
 | some q=>
  obtain⟨l1,l2⟩:=Ap hl (show fD r=some q from hi);have l3:(s.d++cK r.line q.2).length=s.d.length+q.2.length:=by rw[Pb,uD]
  dsimp only
  split
  ·refine⟨hg,?_,?_⟩
   ·show btl s.b+vlM s≤_;omega
   ·simp only[aK,Pb,Pe,Pm];omega
  ·unfold Aw
   dsimp only
   cases hv:s.v with
   | some v=>
    unfold vlM at hb;rw[hv]at hb;dsimp only at hb ⊢;refine⟨rfl,?_,?_⟩
    ·unfold vlM
     have e1:lens [q.1]=q.1.length:=by simp[lens]
     simp only[Pb,IQ,Pe,Pm,e1];omega
    ·dsimp only;omega
   | none=>
    have hvn:=rJ hv;dsimp only
    cases hw:s.w with
    | some w=>
     dsimp only;exact WtM.opn rfl rfl (by dsimp only;omega) (by dsimp only;omega)
    | none=>
     dsimp only
     split
     ·have:=eP s.b
      exact WtM.of rfl rfl (by dsimp only;omega) (by dsimp only;omega)
     ·have:=Jz s.b q.1 r.line
      exact WtM.of rfl rfl (by dsimp only;omega) (by dsimp only;omega)
 | none=>
  dsimp only
  cases hv:s.v with
  | some v=>
   unfold vlM at hb;rw[hv]at hb;dsimp only at hb ⊢
   split
   ·have:=Es s.b (.mk ⟨6,v.1,0,[],v.2,aW⟩ [])
    rw[xP]at this;exact WtM.of hg rfl (by dsimp only[qW];omega) (by dsimp only[qW];omega)
   ·refine⟨hg,?_,by simp only[aK,Pb,Pe,Pm];omega⟩
    unfold vlM;simp only[aK,hv];omega
  | none=>
   dsimp only;obtain⟨u1,u2,u3,u4,u5,u6⟩:=iC s;have hvn:=rJ hv;have hv1:=u2.trans hv;have hg1:=u3.trans hg;rw[DW I9 r hv1 hg1];have hbu:btl (upM s).b≤W:=by rw[u1];omega
   obtain⟨S,hS⟩: ∃S,upM s=S:=⟨_,rfl⟩;rw[hS]at hbu hv1 hg1 u6 ⊢;clear u1 u2 u3 u4 u5 hS;have ht: ∀k,WtM (aK S k r.line) (W+(2*(r.text.length+lnT r.args)+30)):=fun k=>WtM.of hg1 hv1 (by dsimp only[aK];omega) (by simp only[aK,Pb,Pe,Pm];omega)
   cases hk:jo r.mac with
   | none=>exact ht 4
   | some m=>
    have hw1:=nU r.args;have hw2:=yQ r.args;have hw3:=nU (r.args.take 1);have hw4:=yQ (r.args.take 1);have hw5:=wC r.args;have hkd:kdM S=0:=by unfold kdM;rw[hv1,hg1]
    dsimp only
    cases m with
    | ti=>
     dsimp only[doS,Ki]
     split
     ·exact ht 13
     ·exact WtM.of hg1 hv1 (by show btl S.b≤_;omega) (by dsimp only;omega)
    | he k K=>
     dsimp only[doS,uu];have h1:=jO S.b K
     split
     ·exact WtM.of hg1 hv1 (by dsimp only;omega) (by dsimp only;omega)
     ·refine WtM.opn (s:=(wU I9 {S with b:=aP S.b K} r r.args).1) hg1 hv1 ?_ ?_
      ·show btl (aP S.b K)+(df 0 r.args).1.length+6≤_;omega
      ·show(S.d++cK r.line (df 0 r.args).2).length+1≤_
       rw[Pb,uD];omega
    | pa=>
     have h1:=jO S.b [4];exact WtM.of hg1 hv1 (by dsimp only[doS];omega) (by dsimp only[doS];omega)
    | tg=>
     have h1:=jO S.b [4];obtain⟨kv,kg,kw,kb,kt,kd⟩:=fB {S with b:=aP S.b [4] } r 0;show WtM ({(aT {S with b:=aP S.b [4] } r 0).1 with w:=some ⟨4,r.line,(aT {S with b:=aP S.b [4] } r 0).2⟩ }) _;exact WtM.of (kg.trans hg1) (kv.trans hv1) (by dsimp only;rw[kb];dsimp only;omega) (by dsimp only at kd ⊢;omega)
    | it=>
     have h1:=jO S.b [4];obtain⟨kv,kg,kw,kb,kt,kd⟩:=fB {S with b:=aP S.b [4],d:=S.d++cK r.line (df 0 (r.args.take 1)).2} r 1;simp only[Pb,uD]at kd;show WtM (cz (aT {S with b:=aP S.b [4],d:=S.d++cK r.line (df 0 (r.args.take 1)).2} r 1).1 (bL 4 r.line (aT {S with b:=aP S.b [4],d:=S.d++cK r.line (df 0 (r.args.take 1)).2} r 1).2 (df 0 (r.args.take 1)).1)) _;exact WtM.opn (kg.trans hg1) (kv.trans hv1) (by rw[kb];dsimp only;omega) (by omega)
    | nd=>
     obtain⟨kv,kg,kw,kb,kt,kd⟩:=fB S r 0;dsimp only[doS];exact WtM.opn (kg.trans hg1) (kv.trans hv1) (by rw[kb];simp only[Pm];omega) (by omega)
    | ou=>
     have h1:=Gu S.b 5;dsimp only[doS]
     split
     ·exact WtM.of hg1 hv1 (by dsimp only;omega) (by dsimp only;omega)
     ·exact WtM.of hg1 hv1 (by dsimp only[aK];omega) (by simp only[aK,Pb,Pe,Pm];omega)
    | be k=>
     have h1:=eP S.b;obtain⟨m1,m2,m3⟩:=uh hk;dsimp only[doS,iZ];rcases m1 k rfl with rfl | rfl
     ·rw[Pk rfl]
      refine⟨hg1,?_,by dsimp only;omega⟩;unfold vlM;have e1:lens ([]:List (List Gly))=0:=by simp[lens]
      simp only[e1,Pm];omega
     ·exfalso
      refine hts ?_
      by_cases c:r.mac∈dK.map Prod.fst
      ·simp only[dK,PL,Qx,P6,P8,QN]at c
       rcases c with q | q | q | q | q | q | q | q | q | q | q | q | q | q | q | q
       all_goals first
        | exact q
        | (rw[q]at hk;simp[jo,dK]at hk)
      ·rw[qa c]at hk;cases hk
    | en k=>
     obtain⟨m1,m2,m3⟩:=uh hk;have e:doS I9 S r (.en k)=if kdM S=k then(match S.v with
      | some v=>qW S v
      | none=>match S.g with
       | some g=>AC I9 S g
       | none=>S) else aK S 6 r.line:=rfl
     rw[e,Pd (by rw[hkd];exact fun e=>m3 k rfl e.symm)];exact ht 6
theorem WtM.rows: ∀{l:List bu} {s:Md} {W:Nat},WtM s W→(∀r∈l,gT r)→(∀r∈l,r.mac≠ [84,83])→WtM (l.foldl (lM I9) s) (W+iX l)
 | [],s,W,h,_,_=>by simpa[iX] using h
 | r::l,s,W,h,h1,h2=>by
  have:=WtM.rows (l:=l) (h.step (h1 r Rf) (h2 r Rf)) (fun x hx=>h1 x (Qc _ hx)) (fun x hx=>h2 x (Qc _ hx));simp only[Re,iX,PL,QZ]at this ⊢;rw[←Nat.add_assoc];exact this
theorem Ba:WtM md0 10:=by refine⟨rfl,?_,by decide⟩;decide+kernel
theorem EK (l:List bu) {i:Nat} {r:bu} (h:l[i]? =some r):iX (l.take i)+rwt r≤iX l:=by
 have hi:i<l.length:=(OV.1 h).1;have e:l=l.take i++r::l.drop (i+1):=by
  have h2:l[i]=r:=(OV.1 h).2;rw[←h2,←PX hi,Qv]
 have:iX l=iX (l.take i)+(rwt r+iX (l.drop (i+1))):=by
  conv=>lhs;rw[e]
  simp[iX]
 omega
theorem zq: ∀l:List bu,l.length≤iX l
 | []=>by simp[iX]
 | r::l=>by
  have h1:=zq l;have h2:iX (r::l)=rwt r+iX l:=by simp[iX]
  have h3:30≤rwt r:=by unfold rwt;omega
  rw[h2,Pe];omega
theorem WtM.stepB {okl:Int→Prop} {s:Md} {W:Nat} (h:WtM s W) {r:bu} (hl:gT r) (hW:W+rwt r≤29500):StepB okl s r:=by
 obtain⟨hg,hb,hd⟩:=h;unfold rwt at hW;refine⟨hl,by omega,by omega,?_,by unfold txM;rw[hg];simp,fun v0 hv=>?_,fun g0 hg0=>by rw[hg]at hg0;cases hg0⟩
 ·unfold rwM
  unfold vlM at hb
  cases hv:s.v with
  | none=>simp
  | some v=>rw[hv]at hb;dsimp only at hb ⊢;omega
 ·unfold vlM at hb
  rw[hv]at hb;dsimp only at hb;omega
theorem Ky:gT row0:=⟨by simp[row0],by simp[row0,lnT],by simp[row0]⟩
theorem AV {rs:List bu} (hle: ∀r∈rs,gT r) (hts: ∀r∈rs,r.mac≠ [84,83]):btl (dE I9 rs).b≤iX rs+20:=by
 have hW:=WtM.rows Ba hle hts;have hr:fP I9 rs=rs.foldl (lM I9) md0:=rfl;unfold dE CP;rw[hr];obtain⟨s,hs⟩: ∃s,rs.foldl (lM I9) md0=s:=⟨_,rfl⟩;rw[hs]at hW ⊢;obtain⟨hg,hb,hd⟩:=hW;obtain⟨u1,u2,u3,u4,u5,u6⟩:=iC s;have e1:Gc I9 (upM s)=upM s:=by unfold Gc;rw[u3,hg]
 rw[e1];have ht: ∀q:Md,(Av q).b=q.b:=fun q=>by unfold Av;split<;>rfl
 rw[ht];unfold Jf;rw[u2];unfold vlM at hb
 cases hv:s.v with
 | none=>dsimp only;rw[u1];rw[hv]at hb;dsimp only at hb;omega
 | some v=>
  rw[hv]at hb;dsimp only[qW,aK]at hb ⊢;have:=Es (upM s).b (.mk ⟨6,v.1,0,[],v.2,aW⟩ []);rw[xP,u1]at this;rw[u1];omega
theorem DJ {rs:List bu} (hle: ∀r∈rs,gT r) (hts: ∀r∈rs,r.mac≠ [84,83]) (hml: ∀r∈rs,r.mac.length≤100000) (hw:iX rs≤29000):PB rs:=by
 have hW:=WtM.rows Ba hle hts;have hr:fP I9 rs=rs.foldl (lM I9) md0:=rfl;refine⟨fun i r hi=>?_,by have:=zq rs;omega,fun i r hi=>hml r (P5 hi),?_,fun g0 hg=>?_,?_⟩
 ·have h1:=WtM.rows (l:=rs.take i) Ba (fun x hx=>hle x (Qb hx)) (fun x hx=>hts x (Qb hx))
  have h2:=EK rs hi;exact h1.stepB (hle r (P5 hi)) (by omega)
 ·rw[hr]
  exact hW.stepB Ky (by unfold rwt row0;simp[lnT];omega)
 ·rw[hr,hW.g]at hg
  cases hg
 ·have:=AV hle hts
  omega
def knR:List bu:=[⟨1,[83,72],[[65]],[]⟩,⟨2,[],[],[98]⟩]
def knT:Txt:=[46,83,72,32,65,10,98,10]
theorem oU:(fA knT).1.map toM=knR∧(fA knT).2=[]:=by
 constructor<;>rfl
theorem NZ:(dE I9 knR).d=[(12,0,0)]:=by decide+kernel
theorem Nb:nu (dE I9 knR).b=[.mk ⟨1,1,0,[(65,0)],[],aW⟩ [.mk ⟨3,2,0,[(98,0)],[],aW⟩ []]]:=by kernel_rfl
theorem NY:PB knR:=DJ (by
 intro r hr;simp only[knR,P6,P8,QN]at hr;rcases hr with rfl | rfl
 ·exact⟨by simp,by simp[lnT],by simp⟩
 ·exact⟨by simp,by simp[lnT],by simp⟩) (by
 intro r hr;simp only[knR,P6,P8,QN]at hr;rcases hr with rfl | rfl<;>simp) (by
 intro r hr;simp only[knR,P6,P8,QN]at hr;rcases hr with rfl | rfl<;>simp) (by decide+kernel)
theorem yA {α:Type} {n:Nat} {f:α→List Value} (hf: ∀x,(f x).length=n) (W:World) (t:TypeId) (L:List α):FsS (fun k=>k=W.heap.size) n f (W.alloc (.cells (aA f L).toArray t)) (.slice (some ⟨W.heap.size,0,none⟩) L.length L.length) L:=by
 refine⟨bR hf W t L,fun a k c e _=>?_⟩;injection e with e1
 injection e1 with e1
 subst e1;exact⟨rfl,fun _ i _=>by
  have h:=O9 W (.cells (aA f L).toArray t);simp only[World.frozen?,h];simp⟩
theorem DN {S:Nat→Prop} {w:World} {x:NV} {y:Nd} (h:qo S w x y) (hS: ∀k,S k→k<w.heap.size):NsS (fun k=>S k∨k=w.heap.size) (w.alloc (.cells (ae x).toArray 58)) (.slice (some ⟨w.heap.size,0,none⟩) 1 1) [y]:=by
 have hb:Below w.heap.size w (w.alloc (.cells (ae x).toArray 58)):=af w _;have kp:Kp S w (w.alloc (.cells (ae x).toArray 58)):=fun k q=>hb.block k (hS k q)
 have hf:=yA ay w 58 [x];rw[dS]at hf;refine .mk _ _ [x] rfl (hf.mono (fun k q=> .inr q)) (fun i a b h1 h2=>?_) (fun i a b h1 h2=>?_)
 all_goals
  have hi:i=0:=by
   have:=(OV.1 h1).1;simp at this;omega
  subst hi;obtain rfl:x=a:=by simpa using h1
  obtain rfl:y=b:=by simpa using h2
 ·exact(h.1.keep kp).mono (fun k q=> .inl q)
 ·exact(h.2.keep kp).mono (fun k q=> .inl q)
theorem Lh (V0 V1 V2 V3 V4:World) (h1:V0.alloc (.cells #[.int .i32 65,.int .u8 0] 35)=V1) (h2:V1.alloc (.cells #[.int .i32 98,.int .u8 0] 35)=V2)
  (h3:V2.alloc (.cells #[.int .i64 3,.int .i64 2,.int .i64 0,.slice (some ⟨V1.heap.size,0,none⟩) 1 1,.slice none 0 0,.slice none 0 0,.string ⟨#[]⟩,.slice none 0 0,.bool false,.bool false] 58)=V3)
  (h4:V3.alloc (.cells #[.int .i64 1,.int .i64 1,.int .i64 0,.slice (some ⟨V0.heap.size,0,none⟩) 1 1,.slice (some ⟨V2.heap.size,0,none⟩) 1 1,.slice none 0 0,.string ⟨#[]⟩,.slice none 0 0,.bool false,.bool false] 58)=V4):
  NsS (fun k=>k<V4.heap.size) V4 (.slice (some ⟨V3.heap.size,0,none⟩) 1 1) [.mk ⟨1,1,0,[(65,0)],[],aW⟩ [.mk ⟨3,2,0,[(98,0)],[],aW⟩ []]]∧Below V0.heap.size V0 V4:=by
 have z1:V1.heap.size=V0.heap.size+1:=by rw[←h1];exact Pf _ _
 have z2:V2.heap.size=V1.heap.size+1:=by rw[←h2];exact Pf _ _
 have z3:V3.heap.size=V2.heap.size+1:=by rw[←h3];exact Pf _ _
 have z4:V4.heap.size=V3.heap.size+1:=by rw[←h4];exact Pf _ _
 have b1:Below V0.heap.size V0 V1:=by rw[←h1];exact af V0 _
 have b2:Below V1.heap.size V1 V2:=by rw[←h2];exact af V1 _
 have b3:Below V2.heap.size V2 V3:=by rw[←h3];exact af V2 _
 have b4:Below V3.heap.size V3 V4:=by rw[←h4];exact af V3 _
 have g1:FsS (fun k=>k=V0.heap.size) 2 aX V1 (.slice (some ⟨V0.heap.size,0,none⟩) 1 1) [(65,0)]:=by rw[←h1];exact yA ah V0 35 [(65,0)]
 have g2:FsS (fun k=>k=V1.heap.size) 2 aX V2 (.slice (some ⟨V1.heap.size,0,none⟩) 1 1) [(98,0)]:=by rw[←h2];exact yA ah V1 35 [(98,0)]
 have n1:=DN (x:=dN 3 2 0 (some ⟨V1.heap.size,0,none⟩,1,1)) (rq (k:=3) (ln:=2) (n:=0) (p:=(some ⟨V1.heap.size,0,none⟩,1,1)) g2) (fun k q=>by omega);have e3:V2.alloc (.cells (ae (dN 3 2 0 (some ⟨V1.heap.size,0,none⟩,1,1))).toArray 58)=V3:=h3;rw[e3]at n1;have n2:=DN (w:=V3) (S:=fun k=>k<V3.heap.size) (x:=⟨1,1,0,(some ⟨V0.heap.size,0,none⟩,1,1),(some ⟨V2.heap.size,0,none⟩,1,1),aj,[],aj,false,false⟩) (y:= .mk ⟨1,1,0,[(65,0)],[],aW⟩ [.mk ⟨3,2,0,[(98,0)],[],aW⟩ []])
  ⟨⟨rfl,rfl,rfl,(g1.keep (fun k q=>((b2.trans (b3.mono (by omega))).block k (by omega)))).mono (fun k q=>by omega),GrS.nil _ _,rfl,TrS.nil _ _,rfl,rfl⟩,n1.mono (fun k q=>by omega)⟩ (fun k q=>q)
 have e4:V3.alloc (.cells (ae (⟨1,1,0,(some ⟨V0.heap.size,0,none⟩,1,1),(some ⟨V2.heap.size,0,none⟩,1,1),aj,[],aj,false,false⟩:NV)).toArray 58)=V4:=h4;rw[e4]at n2;exact⟨n2.mono (fun k q=>by omega),((b1.trans (b2.mono (by omega))).trans (b3.mono (by omega))).trans (b4.mono (by omega))⟩
theorem Aj {w:World} (hU:U8 w) (hEr:Er w) (hMx:Mx w):Calls Tryz.prog 8 #[] w fun e w'=>e= .returned (.bool true)∧Below w.heap.size w w':=by
 have hrd:=Fq hU hEr hMx knT (by decide) (by rw[oU.1];exact NY) (by rw[oU.1,oU.2,NZ];decide);rw[oU.1,oU.2]at hrd;have hd:=NZ;have hk:=Nb;obtain⟨s,hs⟩: ∃s,dE I9 knR=s:=⟨_,rfl⟩;rw[hs]at hrd hd hk;have HRD:Hid (Calls Tryz.prog 17 #[.string ⟨#[46,83,72,32,65,10,98,10]⟩] w fun e w2=> ∃p1 p2 p3 d1 d3,e= .returned (.tuple #[.agg #[.string ⟨s.b.nm.a.toArray⟩,.string ⟨s.b.nm.b.toArray⟩,.string ⟨s.b.nm.c.toArray⟩,.string ⟨s.b.nm.d.toArray⟩,.slice p1 p2 p3],.slice d1 1 d3])∧Hid (Below w.heap.size w w2)∧
   ∃W2,w2.alloc (.cells #[.string ⟨s.b.nm.a.toArray⟩,.string ⟨s.b.nm.b.toArray⟩,.string ⟨s.b.nm.c.toArray⟩,.string ⟨s.b.nm.d.toArray⟩,.slice p1 p2 p3] 38)=W2∧Hid (Below w2.heap.size w2 W2)∧ ∃V1,W2.alloc (.cells #[.int .i32 65,.int .u8 0] 35)=V1∧ ∃V2,V1.alloc (.cells #[.int .i32 98,.int .u8 0] 35)=V2∧
    ∃V3,V2.alloc (.cells #[.int .i64 3,.int .i64 2,.int .i64 0,.slice (some ⟨V1.heap.size,0,none⟩) 1 1,.slice none 0 0,.slice none 0 0,.string ⟨#[]⟩,.slice none 0 0,.bool false,.bool false] 58)=V3∧ ∃V4,V3.alloc (.cells #[.int .i64 1,.int .i64 1,.int .i64 0,.slice (some ⟨W2.heap.size,0,none⟩) 1 1,.slice (some ⟨V2.heap.size,0,none⟩) 1 1,.slice none 0 0,.string ⟨#[]⟩,.slice none 0 0,.bool false,.bool false] 58)=V4∧
    Hid (Below w.heap.size w V4)∧V4.cell? ⟨w2.heap.size,4,none⟩=some (.slice p1 p2 p3)∧Hid (Calls Tryz.prog 21 #[.slice p1 p2 p3,.slice (some ⟨V3.heap.size,0,none⟩) 1 1] V4 fun e w'=>e= .returned (.bool true)∧Hid (Below w.heap.size w w')∧
     Hid (Calls Tryz.prog 20 #[.slice d1 1 d3,.slice (some ⟨w'.heap.size,0,none⟩) 1 1] (w'.alloc (.cells #[.int .i64 12,.int .i64 0,.int .i64 0] 46)) fun e w9=>e= .returned (.bool true)∧Below w.heap.size w w9))):=zH (by
  have hrd':Calls Tryz.prog 17 #[.string ⟨#[46,83,72,32,65,10,98,10]⟩] w (rF w s []):=hrd;refine hrd'.mono ?_;rintro e w2 ⟨⟨p1,p2,p3⟩,d,rfl,q1,q2,q3⟩;rw[hd]at q2;rw[hk]at q1;obtain⟨d1,d3,rfl⟩:=q2.len;obtain⟨W2,hW2⟩: ∃W2,w2.alloc (.cells #[.string ⟨s.b.nm.a.toArray⟩,.string ⟨s.b.nm.b.toArray⟩,.string ⟨s.b.nm.c.toArray⟩,.string ⟨s.b.nm.d.toArray⟩,.slice p1 p2 p3] 38)=W2:=⟨_,rfl⟩;have b2:Below w2.heap.size w2 W2:=by rw[←hW2];exact af w2 _
  have kD:Blk W2 w2.heap.size 38 [.string ⟨s.b.nm.a.toArray⟩,.string ⟨s.b.nm.b.toArray⟩,.string ⟨s.b.nm.c.toArray⟩,.string ⟨s.b.nm.d.toArray⟩,.slice p1 p2 p3]:=by rw[←hW2];exact O9 w2 _
  obtain⟨hw,hbv⟩:=Lh W2 _ _ _ _ rfl rfl rfl rfl;refine⟨p1,p2,p3,d1,d3,rfl,zH q3,W2,hW2,zH b2,_,rfl,_,rfl,_,rfl,_,rfl,?_⟩;have hs2:=b2.size;have hq:=q3.size;have b24:=b2.trans (hbv.mono hs2);have bw4:=q3.trans (b24.mono hq);refine⟨zH bw4,(kD.below hbv).cell 4,zH ?_⟩;have hz:=b24.size;have hsm:=EO (fun k=>w.heap.size≤k∧k<w2.heap.size) _ _ _ _ rfl (by decide+kernel) (by decide+kernel) _ _ _ (q1.keep (fun k q=>b24.block k q.2)) hw (fun k q=>by omega) (fun k q=>q);refine hsm.mono ?_;rintro e w' ⟨rfl,b5⟩;have bw5:=bw4.trans (b5.mono bw4.size);refine⟨by rw[qi rfl],zH bw5,zH ?_⟩;have bl:=af w' (.cells #[.int .i64 12,.int .i64 0,.int .i64 0] 46);have hl:=bR ai w' 46 [(12,0,0)];have h9:=BN [(12,0,0)] [(12,0,0)] (.slice d1 1 d3) _ _ (((q2.below b24).below b5).below bl) hl (by decide) (by decide);refine h9.mono ?_;rintro e w9 ⟨rfl,b9⟩;exact⟨by rw[Qg rfl],(bw5.trans (bl.mono bw5.size)).trans (b9.mono (by have:=bw5.size;have:=bl.size;omega))⟩)
 clear hU hEr hMx hrd hd hk hs;go_enter Tryz.func8,Tryz.ntmps8
 go_wp2_with fail
 refine HRD.out.mono ?_;rintro e w2 ⟨p1,p2,p3,d1,d3,rfl,B2,W2,hW2,B3,V1,hV1,V2,hV2,V3,hV3,V4,hV4,B4,c4,HS⟩;have HW2:=zH hW2;clear hW2 HRD;go_upto_region 2 with fail
 rw[HW2.out];clear HW2;go_wp2_with fail
 refine HS.out.mono ?_;rintro e w5 ⟨rfl,B5,HS2⟩;clear HS c4 hV1 hV2 hV3 hV4;go_wp2_with fail
 refine HS2.out.mono ?_;rintro e w6 ⟨rfl,b6⟩;have B6:=zH b6;clear b6;go_wp2_with fail
 go_ret;exact⟨rfl,B6.out⟩
end Go.Proofs.YtebabjnngdjceaaGreatDoor
