/- The program's builder: copied. The program's builder: Add; a node more that is open. The program's builder: Open. -/
import Derived.Test.YtebabjnngdjceaaGreatDoorCc
import Derived.Deep.RegionHeld3
import Derived.Test.YtebabjnngdjceaaGreatDoorZ0
set_option linter.unusedVariables false
set_option linter.unusedSimpArgs false
set_option maxRecDepth 100000
set_option maxHeartbeats 16000000
namespace Go.Proofs.YtebabjnngdjceaaGreatDoor
open Go.RowKit
structure CA (w W:World) (x:NV):Prop where
 bel:Below w.heap.size w W
 bx:Blk W w.heap.size 58 (ae x)
 br:Blk W (w.heap.size+1) 58 zNd
abbrev Rg (lo hi:Nat):Nat→Prop:=fun k=>lo≤k∧k<hi
section
variable {w W W':World} {x x':NV} {g lo hi:Nat}
theorem CA.sz (h:CA w W x):w.heap.size+2≤W.heap.size:=h.br.lt
theorem CA.keep (h:CA w W x) (hb:Below W.heap.size W W'):CA w W' x:=⟨h.bel.trans (hb.mono h.bel.size),h.bx.below hb,h.br.below hb⟩
theorem CA.set (h:CA w W x) (j:Nat) (v:Value) (e:(ae x).set j v=ae x'):CA w (W.setCell ⟨w.heap.size,j,none⟩ v) x':=⟨h.bel.setCell (OW _) _,e▸h.bx.set j v,h.br.other (by omega) j v⟩
theorem CA.exc (h:CA w W x) (hE:Exc (· =g) W W') (hg:w.heap.size+1<g):CA w W' x:=
 ⟨⟨hE.os.trans h.bel.os,hE.tape.trans h.bel.tape,hE.output.trans h.bel.output,Pp h.bel.size hE.size,fun k hk=>(hE.block k (O0 hk h.bel.size) (fun e=>by omega)).trans (h.bel.block k hk)⟩,hE.blk h.bx (fun e=>by omega),hE.blk h.br (fun e=>by omega)⟩
theorem Rg.kb (hb:Below W.heap.size W W') (hh:hi≤W.heap.size):Kp (Rg lo hi) W W':=Kp.below hb (fun k q=>O0 q.2 hh)
theorem Rg.ks (hg:g<lo) (o:Nat) (v:Value):Kp (Rg lo hi) W (W.setCell ⟨g,o,none⟩ v):=fun k q=>O8 W ⟨g,o,none⟩ v k (fun e=>by have:=q.1;have e2:k=g:=e;omega)
theorem Rg.ke (hE:Exc (· =g) W W') (hg:hi≤g) (hh:hi≤W.heap.size):Kp (Rg lo hi) W W':=fun k q=>hE.block k (O0 q.2 hh) (fun e=>by have:=q.2;omega)
end
theorem KI.setC {SI:Nat→Prop} {base:Nat} {v:Value} {j:Nat} {l:List Nd} {g:Nat} (hg:g<base) (hS: ¬SI g): ∀(vs:List Value) (o:Nat) (W:World),KI SI base W v l j→KI SI base (W.setCells g o vs) v l j
 | [],_,_,h=>h
 | u::vs,o,W,h=>KI.setC hg hS vs (o+1) _ (h.set hg hS)
theorem dL.lessF {base base':Nat} {W:World} {v:Value} {l:List Nd} (h:dL (fun _=>False) base W v l) (hb:base'≤base):dL (fun _=>False) base' W v l:=by
 obtain⟨L,S,h1,h2,h3,h4⟩:=h.own;exact⟨fun _ q=>q.elim,Pp hb h.sz,L,S,h1.mono hb,h2,fun k q=>(h3 k q).imp id (fun z=>⟨Pp hb z.1,z.2⟩),h4⟩
theorem dL.own_ge' {base:Nat} {W:World} {v:Value} {l:List Nd} {S:Nat→Prop} (h:dL S base W v l) {k:Nat} (hk:v.ownBlock=some k):base≤k:=by
 obtain⟨L,S,h1,-⟩:=h.own;exact(h1.ty hk).1
abbrev OM (S:Nat→Prop) (m:Nat):Prop:= ∀b,S b→b<m
theorem F5 (h:Hd):h.text.length≤hdl h∧h.rows.length+lens h.rows≤hdl h∧bX h.grid.rows≤hdl h:=by unfold hdl;omega
theorem qP: ∀(n:Nat) (y:Nd),fK y≤n→nlN y≤90000→ ∀(S:Nat→Prop) (x:NV) (w:World),qo S w x y→(∀b,S b→b<w.heap.size)→
  Calls Tryz.prog 133 #[.agg (ae x).toArray] w (Eu y w):=by
 intro n
 induction n with
 | zero=>
  intro y hn;rw[jf]at hn;omega
 | succ n ih=>
  intro y hn hb S x w hx hS;have HIH:=zH ih;clear ih;obtain⟨hH,hK⟩:=hx;rw[BV]at hb;rw[jf]at hn;obtain⟨p1,p2,p3⟩:=F5 y.hd;obtain⟨⟨xk,xl,xn,tx,rws,tab⟩,ks⟩:=y;obtain⟨cols,trs,gb,ga⟩:=tab;simp only[Nd.hd,Nd.kids]at hH hK hb hn p1 p2 p3;obtain⟨xk',xl',xn',⟨t1,t2,t3⟩,⟨k1,k2,k3⟩,⟨r1,r2,r3⟩,xc,⟨q1,q2,q3⟩,xb,xa⟩:=x;obtain⟨e1,e2,e3,hT,hR,e4,hG,e5,e6⟩:=hH;simp only at e1 e2 e3 hT hR e4 hG e5 e6 hK;subst e1 e2 e3 e4 e5 e6;generalize hdl _=hv at hb p1 p2 p3;obtain rfl:t2=tx.length:=by
   obtain⟨a,c,e⟩:=hT.1.len;simp only[pv]at e;injection e
  obtain rfl:r2=rws.length:=by
   obtain⟨a,c,e⟩:=hR.len;simp only[pv]at e;injection e
  obtain rfl:q2=trs.length:=by
   obtain⟨a,c,e⟩:=hG.len;simp only[pv]at e;injection e
  obtain rfl:k2=ks.length:=by
   obtain⟨a,c,e⟩:=hK.len;simp only[pv]at e;injection e
  have hv9:hv≤90000:=by omega
  have hk9:nlL ks≤90000:=by omega
  have htl:=jy trs;have hkl:=xQ ks;obtain⟨W1,hW1⟩: ∃W,W=(w.alloc (.cells (ae (⟨xk',xl',xn',(t1,tx.length,t3),(k1,ks.length,k3),(r1,rws.length,r3),xc,(q1,trs.length,q3),xb,xa⟩:NV)).toArray 58)).alloc (.cells zNd.toArray 58):=⟨_,rfl⟩;have b1:Below w.heap.size w W1:=by rw[hW1];exact Nw w _ _
  have bx1:Blk W1 w.heap.size 58 (ae (⟨xk',xl',xn',(t1,tx.length,t3),(k1,ks.length,k3),(r1,rws.length,r3),xc,(q1,trs.length,q3),xb,xa⟩:NV)):=by rw[hW1];exact(Ql _ _ (by simp)).trans (O9 w _)
  have br1:Blk W1 (w.heap.size+1) 58 zNd:=by
   have:=O9 (w.alloc (.cells (ae (⟨xk',xl',xn',(t1,tx.length,t3),(k1,ks.length,k3),(r1,rws.length,r3),xc,(q1,trs.length,q3),xb,xa⟩:NV)).toArray 58)) (.cells zNd.toArray 58);rw[Pf,←hW1]at this;exact this
  have CA1:Hid (CA w W1 (⟨xk',xl',xn',(t1,tx.length,t3),(k1,ks.length,k3),(r1,rws.length,r3),xc,(q1,trs.length,q3),xb,xa⟩:NV)):=zH ⟨b1,bx1,br1⟩;have KS:Hid (∀W,Below w.heap.size w W→Kp S w W):=zH (fun W h=>Kp.below h hS);have HC1:=zH (fq tx _ W1 (hT.keep (KS.out _ b1)).1 (by omega));have HS:=zH hS;have HR:=zH hR;have HG:=zH hG;have HK:=zH hK;have HW1:=zH hW1;have HN:=zH hn;have HB:=zH hb;have x3:=CA1.out.bx.cell 3;simp only[ae,pv,OY,OZ]at x3;simp only[ae,pv,zNd]at HC1 HW1 ⊢;clear b1 bx1 br1 hS hR hG hK hT hW1 hn hb;go_enter Tryz.func133,Tryz.ntmps133
  go_upto_region 1 with fail
  rw[←HW1.out];clear HW1;go_wp2_with fail
  refine HC1.out.mono ?_;rintro e w2 ⟨u2,rfl,ho2,hb2⟩;obtain⟨a2,c2,rfl⟩:=(ag.sl ah ho2).len;have hca2:=CA1.out.keep hb2;have y3:=hca2.bx.cell 3;have f3:w2.frozen? ⟨w.heap.size,3,none⟩=false:=hca2.bx.frozen (by simp[ae]);simp only[ae,pv,OY,OZ]at y3;obtain⟨W2,hW2⟩: ∃W,w2.setCell ⟨w.heap.size,3,none⟩ (.slice a2 tx.length c2)=W:=⟨_,rfl⟩;have CA2:Hid (CA w W2 (⟨xk',xl',xn',(a2,tx.length,c2),(k1,ks.length,k3),(r1,rws.length,r3),xc,(q1,trs.length,q3),xb,xa⟩:NV)):=zH (by rw[←hW2];exact hca2.set 3 _ rfl);have hz2:W2.heap.size=w2.heap.size:=by rw[←hW2];exact fF _ _ _
  have hw2:=hb2.size;have hsz1:=CA1.out.sz;have HT2:Hid (FsS (Rg (w.heap.size+2) W2.heap.size) 2 aX W2 (.slice a2 tx.length c2) tx):=zH (by
   have h:=(oK ah ho2).mono (T:=Rg (w.heap.size+2) w2.heap.size) (fun k e=>⟨Pp hsz1 (ho2.ty e).1,ho2.ltb e⟩);rw[hz2,←hW2];exact h.keep (Rg.ks (by omega) _ _))
  have HW2:=zH hW2;have HC2:=zH (uP S rws _ W2 (HR.out.keep (KS.out _ CA2.out.bel)) (by omega) (fun b q=>O0 (HS.out b q) CA2.out.bel.size));have x5:=CA2.out.bx.cell 5;simp only[ae,pv,OY,OZ]at x5
  try simp only[pv]at HC2
  clear hca2 ho2 hb2 hz2 hw2 hsz1 HC1 CA1 x3 hW2;go_upto_region 2 with fail
  rw[HW2.out];clear HW2 y3 f3;go_wp2_with fail
  refine HC2.out.mono ?_;rintro e w3 ⟨u3,rfl,ho3,hb3⟩;obtain⟨a3,c3,rfl⟩:=ho3.len;have hca3:=CA2.out.keep hb3;have y5:=hca3.bx.cell 5;have f5:w3.frozen? ⟨w.heap.size,5,none⟩=false:=hca3.bx.frozen (by simp[ae]);simp only[ae,pv,OY,OZ]at y5;obtain⟨W3,hW3⟩: ∃W,w3.setCell ⟨w.heap.size,5,none⟩ (.slice a3 rws.length c3)=W:=⟨_,rfl⟩;have CA3:Hid (CA w W3 (⟨xk',xl',xn',(a2,tx.length,c2),(k1,ks.length,k3),(a3,rws.length,c3),xc,(q1,trs.length,q3),xb,xa⟩:NV)):=zH (by rw[←hW3];exact hca3.set 5 _ rfl);have hz3:W3.heap.size=w3.heap.size:=by rw[←hW3];exact fF _ _ _
  have hw3:=hb3.size;have hsz2:=CA2.out.sz;have HT3:Hid (FsS (Rg (w.heap.size+2) W3.heap.size) 2 aX W3 (.slice a2 tx.length c2) tx):=zH (by
   have h:=(HT2.out.keep (Rg.kb hb3 (OW _))).mono (T:=Rg (w.heap.size+2) w3.heap.size) (fun k q=>⟨q.1,O0 q.2 hw3⟩);rw[hz3,←hW3];exact h.keep (Rg.ks (by omega) _ _))
  have HR3:Hid (GrS (Rg (w.heap.size+2) W3.heap.size) W3 (.slice a3 rws.length c3) rws):=zH (by
   have h:=ho3.grs.mono (T:=Rg (w.heap.size+2) w3.heap.size) (fun k ⟨q1,cur,e,fz,q2,_⟩=>⟨Pp hsz2 q1,(O5.1 q2).1⟩);rw[hz3,←hW3];exact h.keep (Rg.ks (by omega) _ _))
  have HW3:=zH hW3;obtain⟨LT,hLl,hLv,hLr⟩:=HG.out;have kS3:=KS.out _ CA3.out.bel;have HC3:=zH (CV LT _ W3 (hLv.keep kS3).1 (by omega));have HTI:Hid (∀w4 a4 c4,Below W3.heap.size W3 w4→ag 90 2 bY W3.heap.size w4 (.slice a4 trs.length c4) LT→TI S W3.heap.size (w4.setCell ⟨w.heap.size,7,none⟩ (.slice a4 trs.length c4)) (.slice a4 trs.length c4) trs 0):=zH (fun w4 a4 c4 hb4 ho4=>by
   have hsz:=CA3.out.sz;have h:TI S W3.heap.size w4 (.slice a4 trs.length c4) trs 0:=⟨fun b q=>O0 (HS.out b q) CA3.out.bel.size,hb4.size,LT,ho4,hLl,fun i s r h=>by omega,fun i s r _ p q=>⟨(hLr i s r p q).1,((hLr i s r p q).2.keep kS3).keep (Kp.below hb4 (fun b q=>O0 (HS.out b q) CA3.out.bel.size))⟩⟩;exact h.set (by omega) (fun q=>by have:=HS.out _ q;omega))
  have HLL:=zH hLl;have x7:=CA3.out.bx.cell 7;simp only[ae,pv,OY,OZ]at x7
  try simp only[pv]at HC3
  clear hca3 ho3 hb3 hz3 hw3 hsz2 HC2 CA2 HT2 x5 hW3 hLl hLv hLr kS3 HG HR;go_upto_region 3 with fail
  rw[HW3.out];clear HW3 y5 f5;go_wp2_with fail
  refine HC3.out.mono ?_;rintro e w4 ⟨u4,rfl,ho4,hb4⟩;obtain⟨a4,c4,rfl⟩:=(ag.sl dI ho4).len;rw[HLL.out]at ho4 ⊢;have hca4:=CA3.out.keep hb4;have y7:=hca4.bx.cell 7;have f7:w4.frozen? ⟨w.heap.size,7,none⟩=false:=hca4.bx.frozen (by simp[ae]);simp only[ae,pv,OY,OZ]at y7;have HTI0:=zH (HTI.out w4 a4 c4 hb4 ho4);obtain⟨W4,hW4⟩: ∃W,w4.setCell ⟨w.heap.size,7,none⟩ (.slice a4 trs.length c4)=W:=⟨_,rfl⟩;rw[hW4]at HTI0;have CA4:Hid (CA w W4 (⟨xk',xl',xn',(a2,tx.length,c2),(k1,ks.length,k3),(a3,rws.length,c3),xc,(a4,trs.length,c4),xb,xa⟩:NV)):=zH (by rw[←hW4];exact hca4.set 7 _ rfl);have hM:=CA3.out.sz;have HT4:Hid (FsS (Rg (w.heap.size+2) W3.heap.size) 2 aX W4 (.slice a2 tx.length c2) tx):=zH (by rw[←hW4];exact(HT3.out.keep (Rg.kb hb4 (OW _))).keep (Rg.ks (by omega) _ _));have HR4:Hid (GrS (Rg (w.heap.size+2) W3.heap.size) W4 (.slice a3 rws.length c3) rws):=zH (by rw[←hW4];exact(HR3.out.keep (Rg.kb hb4 (OW _))).keep (Rg.ks (by omega) _ _));have HW4:=zH hW4;have HMS:Hid (OM S W3.heap.size):=zH (fun b q=>O0 (HS.out b q) CA3.out.bel.size);obtain⟨M,hMM⟩: ∃M,W3.heap.size=M:=⟨_,rfl⟩;rw[hMM]at HTI0 HT4 HR4 HMS hM;have HM:=zH hM;have z7:=CA4.out.bx.cell 7;simp only[ae,pv,OY,OZ]at z7;clear hca4 ho4 hb4 HC3 CA3 HT3 HR3 x7 hW4 hMM hM HTI HLL;go_upto_region 4 with fail
  rw[HW4.out];clear HW4 y7 f7;go_wp2_with fail
  go_loopw [3,4,25] (fun _ _ i wr=> ∃j:Nat,j≤trs.length∧i= .int .i64 (j:Int)∧Hid (CA w wr (⟨xk',xl',xn',(a2,tx.length,c2),(k1,ks.length,k3),(a3,rws.length,c3),xc,(a4,trs.length,c4),xb,xa⟩:NV))∧Hid (TI S M wr (.slice a4 trs.length c4) trs j)∧Hid (FsS (Rg (w.heap.size+2) M) 2 aX wr (.slice a2 tx.length c2) tx)∧Hid (GrS (Rg (w.heap.size+2) M) wr (.slice a3 rws.length c3) rws)) (fun _ _ i _=>trs.length-(intOf i).toNat)
  case atStart=>exact⟨0,by omega,rfl,CA4,HTI0,HT4,HR4⟩
  case round=>
   obtain⟨j,hj,rfl,HCA,HTI,HTX,HRW⟩:=hrel;clear CA4 HTI0 HT4 HR4 z7
   by_cases hlt:j<trs.length
   ·obtain⟨⟨rb,rl⟩,hr⟩: ∃r,trs[j]? =some r:=⟨trs[j],OU hlt⟩
    have hrl:=nW hr;unfold trl at hrl;simp only at hrl;obtain⟨g,⟨s1,s2,s3⟩,rfl,hg,hgl,d0,d1,f1,hs⟩:=HTI.out.at hr;simp only[pv]at d0 d1 f1 hs;obtain⟨V1,hV1⟩: ∃W,W=wr.alloc (.cells #[.bool rb,.slice s1 s2 s3] 90):=⟨_,rfl⟩;have hbV:Below wr.heap.size wr V1:=by rw[hV1];exact af _ _
    have kV:Blk V1 wr.heap.size 90 [.bool rb,.slice s1 s2 s3]:=by rw[hV1];exact O9 wr _
    have hcaV:=HCA.out.keep hbV;have hsz:=HCA.out.sz;have hws:w.heap.size<wr.heap.size:=by omega
    have hSV: ∀b,S b→b<V1.heap.size:=fun b q=>by have:=HMS.out b q;have:=HTI.out.sz;have:=hbV.size;omega
    have HCR:=zH (uP S rl (.slice s1 s2 s3) V1.drew ((hs.keep (Kp.below hbV (fun b q=>by have:=HMS.out b q;have:=HTI.out.sz;omega))).keep (fun _ _=>rfl)) (by omega) hSV);have z7:=hcaV.bx.cell 7;simp only[ae,pv,OY,OZ]at z7;have v1:=kV.cell 1;simp only[OY,OZ]at v1;have x7:=HCA.out.bx.cell 7;simp only[ae,pv,OY,OZ]at x7;have hwl:w.heap.size<V1.heap.size:=hcaV.bx.lt;have hvl:wr.heap.size<V1.heap.size:=kV.lt;have HST:Hid (∀w6 a6 c6,lI V1.drew.heap.size w6 (.slice a6 rl.length c6) rl→Below V1.drew.heap.size V1.drew w6→w6.cell? ⟨g,j*2+1,none⟩=some (.slice s1 s2 s3)∧w6.frozen? ⟨g,j*2+1,none⟩=false∧CA w (w6.setCell ⟨g,j*2+1,none⟩ (.slice a6 rl.length c6)) (⟨xk',xl',xn',(a2,tx.length,c2),(k1,ks.length,k3),(a3,rws.length,c3),xc,(some ⟨g,0,none⟩,trs.length,c4),xb,xa⟩:NV)∧TI S M (w6.setCell ⟨g,j*2+1,none⟩ (.slice a6 rl.length c6)) (.slice (some ⟨g,0,none⟩) trs.length c4) trs (j+1)∧FsS (Rg (w.heap.size+2) M) 2 aX (w6.setCell ⟨g,j*2+1,none⟩ (.slice a6 rl.length c6)) (.slice a2 tx.length c2) tx∧GrS (Rg (w.heap.size+2) M) (w6.setCell ⟨g,j*2+1,none⟩ (.slice a6 rl.length c6)) (.slice a3 rws.length c3) rws):=zH (fun w6 a6 c6 hc6 hb6'=>by
     have hb6:Below V1.heap.size V1 w6:=(OX V1.heap.size V1).drew.trans hb6';have hbw:Below wr.heap.size wr w6:=hbV.trans (hb6.mono hbV.size);obtain⟨k1,k2⟩:=(HTI.out.keep hbV).step hb6 hr (s:=(a6,rl.length,c6)) (hc6.grs.mono (fun k ⟨q1,cur,e,fz,q2,_⟩=>⟨q1,(O5.1 q2).1⟩));have hE:Exc (· =g) wr (w6.setCell ⟨g,j*2+1,none⟩ (.slice a6 rl.length c6)):=(Exc.of (X:=(· =g)) hbV).trans k2 (fun _ _ q=>q);have hMs:=HTI.out.sz;have hM2:=HM.out;exact⟨aD hbw d1,(hbw.frozen (p:=⟨g,j*2+1,none⟩) hgl).trans f1,HCA.out.exc hE (by omega),k1,HTX.out.keep (Rg.ke hE hg hMs),HRW.out.keep (Rg.ke hE hg hMs)⟩)
    have hi0:(j:Int)<(trs.length:Int):=by omega
    have hi1:(0:Int)≤(j:Int):=by omega
    have HV1:=zH hV1;clear hr hrl hs hbV kV hcaV hsz hSV hV1 HCA HTI HTX HRW hg;go_upto_region 7 with fail
    rw[←HV1.out];clear HV1 d0 d1 f1 x7;refine wp_region_held_drew (S:=(fun W'=>W'.cell? ⟨w.heap.size,7,none⟩=some (.slice (some ⟨g,0,none⟩) trs.length c4)∧W'.cell? ⟨wr.heap.size,1,none⟩=some (.slice s1 s2 s3))) (by kernel_rfl) ?_ (fun hHeld=>?_)
    ·exact⟨z7,v1⟩
    refine zK (i:=0) (v:= .pointer (some ⟨w.heap.size,6,none⟩)) rfl ?_;simp only[zT,zS,zZ,Act.put,yT,yZ,yS];refine zK (i:=1) (v:= .pointer (some ⟨w.heap.size,7,none⟩)) rfl ?_;simp only[zT,zS,zZ,Act.put,yT,yZ,yS];refine zK (i:=2) (v:= .slice (some ⟨g,0,none⟩) trs.length c4) rfl ?_;simp only[zT,zS,zZ,Act.put,yT,yZ,yS];refine zK (i:=3) (v:= .int .i64 (j:Int)) rfl ?_;simp only[zT,zS,zZ,Act.put,yT,yZ,yS];refine zK (i:=4) (v:= .pointer (some ⟨wr.heap.size,1,none⟩)) rfl ?_;simp only[zT,zS,zZ,Act.put,yT,yZ,yS];refine zK (i:=5) (v:= .slice s1 s2 s3) rfl ?_;simp only[zT,zS,zZ,Act.put,yT,yZ,yS];have HSX:Hid (∀W,Below V1.heap.size V1 W→W.cell? ⟨w.heap.size,7,none⟩=some (.slice (some ⟨g,0,none⟩) trs.length c4)∧W.cell? ⟨wr.heap.size,1,none⟩=some (.slice s1 s2 s3)):=zH (fun W hb=>⟨aD hb z7,aD hb v1⟩);refine wpAnyH_ready (rs:=[6]) (by kernel_rfl) (by simp) ?_;refine AllReadyH.cons rfl (fun K hK=>?_) AllReadyH.nil
    try simp only[zT,zS,zZ]
    go_simp;go_at_call 167
    refine HCR.out.mono ?_;rintro e w6 ⟨u6,rfl,ho6,hb6⟩;obtain⟨a6,c6,rfl⟩:=ho6.len;obtain⟨e1,g1,k1,k2,k3,k4⟩:=HST.out w6 a6 c6 ho6 hb6;have K1:=zH k1;have K2:=zH k2;have K3:=zH k3;have K4:=zH k4;have HB6:Hid (Below V1.heap.size V1 w6):=zH ((OX V1.heap.size V1).drew.trans hb6);clear k1 k2 k3 k4 ho6 hb6;go_wp2_with fail
    refine hK.out _ _ ?_ (fun hHeld=>?_)
    ·exact HSX.out _ HB6.out
    clear hK K
    try simp only[zT,zS,zZ,Act.put,yT,yZ,yS]
    refine zK (i:=7) (v:= .pointer (some ⟨g,j*2,none⟩)) rfl ?_;simp only[zT,zS,zZ,Act.put,yT,yZ,yS];refine zK (i:=8) (v:= .pointer (some ⟨g,j*2+1,none⟩)) rfl ?_;simp only[zT,zS,zZ,Act.put,yT,yZ,yS];have HSX9:Hid ((w6.setCell ⟨g,j*2+1,none⟩ (.slice a6 rl.length c6)).cell? ⟨w.heap.size,7,none⟩=some (.slice (some ⟨g,0,none⟩) trs.length c4)∧(w6.setCell ⟨g,j*2+1,none⟩ (.slice a6 rl.length c6)).cell? ⟨wr.heap.size,1,none⟩=some (.slice s1 s2 s3)):=zH ⟨by have h:=K1.out.bx.cell 7;simpa[ae,pv] using h,by rw[aR (O8 w6 ⟨g,_,none⟩ _ wr.heap.size (fun e=>by have e2:wr.heap.size=g:=e;omega))];exact(HSX.out _ HB6.out).2⟩;refine wpAnyH_ready (rs:=[9]) (by kernel_rfl) (by simp) ?_;refine AllReadyH.cons rfl (fun K hK=>?_) AllReadyH.nil
    try simp only[zT,zS,zZ]
    go_simp;refine hK.out _ _ ?_ (fun hHeld=>?_)
    ·exact HSX9.out
    clear hK K
    try simp only[zT,zS,zZ,Act.put,yT,yZ,yS]
    refine PK (by kernel_rfl) ?_ _;go_wp2_with fail
    go_roundw
    case rel=>exact⟨j+1,by omega,by go_num,K1,K2,K3,K4⟩
    case measure=>(simp[intOf];try omega)
   ·obtain rfl:j=trs.length:=by omega
    have hlt': ¬(trs.length:Int)<(trs.length:Int):=by omega
    obtain⟨M2,hM2⟩: ∃M2,wr.heap.size=M2:=⟨_,rfl⟩;have hMM:M≤M2:=by rw[←hM2];exact HTI.out.sz
    have hM0:=HM.out;have HHD:Hid (bV (Rg (w.heap.size+2) M2) wr (⟨xk',xl',xn',(a2,tx.length,c2),(k1,ks.length,k3),(a3,rws.length,c3),xc,(a4,trs.length,c4),xb,xa⟩:NV) (⟨xk',xl',xn',tx,rws,⟨xc,trs,xb,xa⟩⟩:Hd)):=zH ⟨rfl,rfl,rfl,HTX.out.mono (fun k q=>⟨q.1,by have:=q.2;omega⟩),HRW.out.mono (fun k q=>⟨q.1,by have:=q.2;omega⟩),rfl,HTI.out.done.mono (fun k q=>⟨by have:=q.1;omega,by rw[←hM2];exact q.2⟩),rfl,rfl⟩;have kS5:Kp S w wr:=KS.out _ HCA.out.bel;have hK5:=HK.out.keep kS5;obtain⟨LK,hLl,hLv,hLr⟩: ∃LK:List NV,LK.length=ks.length∧FsS S 10 ae wr (.slice k1 ks.length k3) LK∧ ∀(i:Nat) x y,LK[i]? =some x→ks[i]? =some y→bV S wr x y.hd∧NsS S wr (pv x.kids) y.kids:=by
     cases hK5 with
     | mk _ _ L h1 h2 h3 h4=>exact⟨L,h1,h2,fun i x y a b=>⟨h3 i x y a b,h4 i x y a b⟩⟩
    have HC5:=zH (uJ LK _ wr hLv.1 (by omega));have HKI:Hid (∀w6 a5 c5,Below wr.heap.size wr w6→ag 58 10 ae wr.heap.size w6 (.slice a5 ks.length c5) LK→KI S M2 (w6.setCell ⟨w.heap.size,4,none⟩ (.slice a5 ks.length c5)) (.slice a5 ks.length c5) ks 0):=zH (fun w6 a5 c5 hb6 ho6=>by
     have hsz:=HCA.out.sz;have hSl: ∀b,S b→b<wr.heap.size:=fun b q=>O0 (HS.out b q) HCA.out.bel.size
     rw[←hM2];have h:KI S wr.heap.size w6 (.slice a5 ks.length c5) ks 0:=⟨hSl,hb6.size,LK,ho6,hLl,fun i s r h=>by omega,fun i s r _ p q=>⟨(hLr i s r p q).1.keep (Kp.below hb6 hSl),(hLr i s r p q).2.keep (Kp.below hb6 hSl)⟩⟩;exact h.set (by omega) (fun q=>by have:=HS.out _ q;omega))
    have HLL:=zH hLl;have HM2:=zH hM2;have hsM:w.heap.size+2≤M2:=by omega
    have HSM:=zH hsM;have x4:=HCA.out.bx.cell 4;simp only[ae,pv,OY,OZ]at x4
    try simp only[pv]at HC5
    clear hMM hM0 kS5 hK5 hLl hLv hLr hM2 hsM HTI HTX HRW HMS HM HK;go_wp2_with fail
    refine HC5.out.mono ?_;rintro e w6 ⟨u6,rfl,ho6,hb6⟩;obtain⟨a5,c5,rfl⟩:=(ag.sl ay ho6).len;rw[HLL.out]at ho6 ⊢;have hca6:=HCA.out.keep hb6;have y4:=hca6.bx.cell 4;have f4:w6.frozen? ⟨w.heap.size,4,none⟩=false:=hca6.bx.frozen (by simp[ae]);simp only[ae,pv,OY,OZ]at y4;have HKI0:=zH (HKI.out w6 a5 c5 hb6 ho6);obtain⟨W6,hW6⟩: ∃W,w6.setCell ⟨w.heap.size,4,none⟩ (.slice a5 ks.length c5)=W:=⟨_,rfl⟩;rw[hW6]at HKI0;have CA6:Hid (CA w W6 (⟨xk',xl',xn',(a2,tx.length,c2),(a5,ks.length,c5),(a3,rws.length,c3),xc,(a4,trs.length,c4),xb,xa⟩:NV)):=zH (by rw[←hW6];exact hca6.set 4 _ rfl);have HH6:Hid (bV (Rg (w.heap.size+2) M2) W6 (⟨xk',xl',xn',(a2,tx.length,c2),(a5,ks.length,c5),(a3,rws.length,c3),xc,(a4,trs.length,c4),xb,xa⟩:NV) (⟨xk',xl',xn',tx,rws,⟨xc,trs,xb,xa⟩⟩:Hd)):=zH (by
     rw[←hW6];exact((HHD.out.keep (Rg.kb hb6 (Q7 HM2.out.symm))).keep (Rg.ks (by omega) _ _)).wkids (a5,ks.length,c5))
    have HW6:=zH hW6;have z4:=CA6.out.bx.cell 4;simp only[ae,pv,OY,OZ]at z4;clear hca6 ho6 hb6 HC5 HCA HHD x4 hW6 HKI HLL HM2;go_upto_region 10 with fail
    rw[HW6.out];clear HW6 y4 f4;go_wp2_with fail
    go_loopw [5,6,47] (fun _ _ i wr=> ∃j:Nat,j≤ks.length∧i= .int .i64 (j:Int)∧Hid (CA w wr (⟨xk',xl',xn',(a2,tx.length,c2),(a5,ks.length,c5),(a3,rws.length,c3),xc,(a4,trs.length,c4),xb,xa⟩:NV))∧Hid (KI S M2 wr (.slice a5 ks.length c5) ks j)∧Hid (bV (Rg (w.heap.size+2) M2) wr (⟨xk',xl',xn',(a2,tx.length,c2),(a5,ks.length,c5),(a3,rws.length,c3),xc,(a4,trs.length,c4),xb,xa⟩:NV) (⟨xk',xl',xn',tx,rws,⟨xc,trs,xb,xa⟩⟩:Hd))) (fun _ _ i _=>ks.length-(intOf i).toNat)
    case atStart=>exact⟨0,by omega,rfl,CA6,HKI0,HH6⟩
    case round=>
     obtain⟨j,hj,rfl,HCA,HKI,HHD⟩:=hrel;clear CA6 HKI0 HH6 z4
     rename World=>wq
     by_cases hlt:j<ks.length
     ·obtain⟨y,hy⟩: ∃y,ks[j]? =some y:=⟨ks[j],OU hlt⟩
      have h1:=uH hy;have h2:=wu hy;have h3:=HN.out;have h4:=HB.out;obtain⟨g,x,rfl,hg,hgl,hcel,hx,hkx⟩:=HKI.out.at hy;obtain⟨V1,hV1⟩: ∃W,W=wq.alloc (.cells (ae x).toArray 58):=⟨_,rfl⟩;have hbV:Below wq.heap.size wq V1:=by rw[hV1];exact af _ _
      have kV:Blk V1 wq.heap.size 58 (ae x):=by rw[hV1];exact O9 wq _
      have hcaV:=HCA.out.keep hbV;have hsz:=HCA.out.sz;have hSq: ∀b,S b→b<wq.heap.size:=fun b q=>O0 (HS.out b q) HCA.out.bel.size
      have kSV:Kp S wq V1.drew:=fun k q=>hbV.block k (hSq k q)
      have HCR:=zH (HIH.out y (by rw[jf];omega) (by rw[BV];omega) S x V1.drew ⟨hx.keep kSV,hkx.keep kSV⟩ (fun b q=>O0 (hSq b q) hbV.size));have z4:=hcaV.bx.cell 4;simp only[ae,pv,OY,OZ]at z4;have x4:=HCA.out.bx.cell 4;simp only[ae,pv,OY,OZ]at x4;have HST:Hid (∀w6 x6,lD V1.drew.heap.size w6 x6 y→Below V1.drew.heap.size V1.drew w6→(∀(i:Nat) u,(ae x)[i]? =some u→w6.cell? ⟨g,j*10+i,none⟩=some u∧w6.frozen? ⟨g,j*10+i,none⟩=false)∧CA w (w6.setCells g (j*10) (ae x6)) (⟨xk',xl',xn',(a2,tx.length,c2),(some ⟨g,0,none⟩,ks.length,c5),(a3,rws.length,c3),xc,(a4,trs.length,c4),xb,xa⟩:NV)∧KI S M2 (w6.setCells g (j*10) (ae x6)) (.slice (some ⟨g,0,none⟩) ks.length c5) ks (j+1)∧bV (Rg (w.heap.size+2) M2) (w6.setCells g (j*10) (ae x6)) (⟨xk',xl',xn',(a2,tx.length,c2),(some ⟨g,0,none⟩,ks.length,c5),(a3,rws.length,c3),xc,(a4,trs.length,c4),xb,xa⟩:NV) (⟨xk',xl',xn',tx,rws,⟨xc,trs,xb,xa⟩⟩:Hd)∧(w6.setCells g (j*10) (ae x6)).heap[wq.heap.size]? =V1.heap[wq.heap.size]?):=zH (fun w6 x6 hc6 hb6'=>by
       have hb6:Below V1.heap.size V1 w6:=(OX V1.heap.size V1).drew.trans hb6';have hbw:Below wq.heap.size wq w6:=hbV.trans (hb6.mono hbV.size);obtain⟨q1,q2⟩:=hc6.all;obtain⟨k1,k2⟩:=(HKI.out.keep hbV).step hb6 hy q1 q2;have hE:Exc (· =g) wq (w6.setCells g (j*10) (ae x6)):=(Exc.of (X:=(· =g)) hbV).trans k2 (fun _ _ q=>q);have hMs:=HKI.out.sz;have hM2:=HSM.out;exact⟨fun i u hu=>⟨aD hbw (hcel i u hu).1,(hbw.frozen (p:=⟨g,j*10+i,none⟩) hgl).trans (hcel i u hu).2⟩,HCA.out.exc hE (by omega),k1,HHD.out.keep (Rg.ke hE hg hMs),k2.block _ kV.lt (fun e=>by omega)⟩)
      have hi0:(j:Int)<(ks.length:Int):=by omega
      have hi1:(0:Int)≤(j:Int):=by omega
      obtain⟨yk,yl,yn,⟨u1,u2,u3⟩,⟨v1,v2,v3⟩,⟨w1,w2,w3⟩,yc,⟨z1,z2,z3⟩,yb,ya⟩:=x;simp only[ae,pv]at hcel HCR kV hV1;have c0:=(hcel 0 _ rfl).1;have c1:=(hcel 1 _ rfl).1;have c2:=(hcel 2 _ rfl).1;have c3:=(hcel 3 _ rfl).1;have c4:=(hcel 4 _ rfl).1;have c5:=(hcel 5 _ rfl).1;have c6:=(hcel 6 _ rfl).1;have c7:=(hcel 7 _ rfl).1;have c8:=(hcel 8 _ rfl).1;have c9:=(hcel 9 _ rfl).1
      try simp only[PW]at c0
      have s0:=kV.cell 0;have s1:=kV.cell 1;have s2:=kV.cell 2;have s3:=kV.cell 3;have s4:=kV.cell 4;have s5:=kV.cell 5;have s6:=kV.cell 6;have s7:=kV.cell 7;have s8:=kV.cell 8;have s9:=kV.cell 9;simp only[OY,OZ]at s0 s1 s2 s3 s4 s5 s6 s7 s8 s9;have HV1:=zH hV1;have HWQ:Hid (wq.heap.size<V1.heap.size∧g≠wq.heap.size):=zH ⟨kV.lt,by omega⟩;clear hy h1 h2 h3 h4 hx hkx hcel hbV kV hcaV hsz hSq kSV hV1 HCA HKI HHD hg hgl;go_upto_region 13 with fail
      rw[←HV1.out];clear HV1 x4 c0 c1 c2 c3 c4 c5 c6 c7 c8 c9;refine wp_region_held_drew (S:=(fun W'=>W'.cell? ⟨w.heap.size,4,none⟩=some (.slice (some ⟨g,0,none⟩) ks.length c5)∧W'.cell? ⟨wq.heap.size,0,none⟩=some (.int .i64 yk)∧W'.cell? ⟨wq.heap.size,1,none⟩=some (.int .i64 yl)∧W'.cell? ⟨wq.heap.size,2,none⟩=some (.int .i64 yn)∧W'.cell? ⟨wq.heap.size,3,none⟩=some (.slice u1 u2 u3)∧W'.cell? ⟨wq.heap.size,4,none⟩=some (.slice v1 v2 v3)∧W'.cell? ⟨wq.heap.size,5,none⟩=some (.slice w1 w2 w3)∧W'.cell? ⟨wq.heap.size,6,none⟩=some (.string ⟨yc.toArray⟩)∧W'.cell? ⟨wq.heap.size,7,none⟩=some (.slice z1 z2 z3)∧W'.cell? ⟨wq.heap.size,8,none⟩=some (.bool yb)∧W'.cell? ⟨wq.heap.size,9,none⟩=some (.bool ya))) (by kernel_rfl) ?_ (fun hHeld=>?_)
      ·exact⟨z4,s0,s1,s2,s3,s4,s5,s6,s7,s8,s9⟩
      refine zK (i:=0) (v:= .pointer (some ⟨w.heap.size,4,none⟩)) rfl ?_;simp only[zT,zS,zZ,Act.put,yT,yZ,yS];refine zK (i:=1) (v:= .slice (some ⟨g,0,none⟩) ks.length c5) rfl ?_;simp only[zT,zS,zZ,Act.put,yT,yZ,yS];refine zK (i:=2) (v:= .int .i64 (j:Int)) rfl ?_;simp only[zT,zS,zZ,Act.put,yT,yZ,yS];refine zK (i:=3) (v:= .agg #[.int .i64 yk,.int .i64 yl,.int .i64 yn,.slice u1 u2 u3,.slice v1 v2 v3,.slice w1 w2 w3,.string ⟨yc.toArray⟩,.slice z1 z2 z3,.bool yb,.bool ya]) rfl ?_;simp only[zT,zS,zZ,Act.put,yT,yZ,yS];have HSX:Hid (∀W,Below V1.heap.size V1 W→W.cell? ⟨w.heap.size,4,none⟩=some (.slice (some ⟨g,0,none⟩) ks.length c5)∧W.cell? ⟨wq.heap.size,0,none⟩=some (.int .i64 yk)∧W.cell? ⟨wq.heap.size,1,none⟩=some (.int .i64 yl)∧W.cell? ⟨wq.heap.size,2,none⟩=some (.int .i64 yn)∧W.cell? ⟨wq.heap.size,3,none⟩=some (.slice u1 u2 u3)∧W.cell? ⟨wq.heap.size,4,none⟩=some (.slice v1 v2 v3)∧W.cell? ⟨wq.heap.size,5,none⟩=some (.slice w1 w2 w3)∧W.cell? ⟨wq.heap.size,6,none⟩=some (.string ⟨yc.toArray⟩)∧W.cell? ⟨wq.heap.size,7,none⟩=some (.slice z1 z2 z3)∧W.cell? ⟨wq.heap.size,8,none⟩=some (.bool yb)∧W.cell? ⟨wq.heap.size,9,none⟩=some (.bool ya)):=zH (fun W hb=>⟨aD hb z4,aD hb s0,aD hb s1,aD hb s2,aD hb s3,aD hb s4,aD hb s5,aD hb s6,aD hb s7,aD hb s8,aD hb s9⟩);clear s0 s1 s2 s3 s4 s5 s6 s7 s8 s9 z4;refine wpAnyH_ready (rs:=[4]) (by kernel_rfl) (by simp) ?_;refine AllReadyH.cons rfl (fun K hK=>?_) AllReadyH.nil
      try simp only[zT,zS,zZ]
      go_simp;go_at_call 133
      refine HCR.out.mono ?_;rintro e w6 ⟨x6,rfl,hc6,hb6⟩;obtain⟨hcl,k1,k2,k3,hk6⟩:=HST.out w6 x6 hc6 hb6;have HB6:Hid (Below V1.heap.size V1 w6):=zH ((OX V1.heap.size V1).drew.trans hb6);obtain⟨mk,ml,mn,⟨m1,m2,m3⟩,⟨n1,n2,n3⟩,⟨o1,o2,o3⟩,mc,⟨l1,l2,l3⟩,mb,ma⟩:=x6;simp only[ae,pv]at hcl k1 k2 k3 hk6 ⊢;have d0:=(hcl 0 _ rfl).1;have d1:=(hcl 1 _ rfl).1;have d2:=(hcl 2 _ rfl).1;have d3:=(hcl 3 _ rfl).1;have d4:=(hcl 4 _ rfl).1;have d5:=(hcl 5 _ rfl).1;have d6:=(hcl 6 _ rfl).1;have d7:=(hcl 7 _ rfl).1;have d8:=(hcl 8 _ rfl).1;have d9:=(hcl 9 _ rfl).1;have f0:=(hcl 0 _ rfl).2;have f1:=(hcl 1 _ rfl).2;have f2:=(hcl 2 _ rfl).2;have f3:=(hcl 3 _ rfl).2;have f4:=(hcl 4 _ rfl).2;have f5:=(hcl 5 _ rfl).2;have f6:=(hcl 6 _ rfl).2;have f7:=(hcl 7 _ rfl).2;have f8:=(hcl 8 _ rfl).2;have f9:=(hcl 9 _ rfl).2
      try simp only[PW]at d0 f0
      have K1:Hid (CA w (w6.setCells g (j*10) [.int .i64 mk,.int .i64 ml,.int .i64 mn,.slice m1 m2 m3,.slice n1 n2 n3,.slice o1 o2 o3,.string ⟨mc.toArray⟩,.slice l1 l2 l3,.bool mb,.bool ma]) (⟨xk',xl',xn',(a2,tx.length,c2),(some ⟨g,0,none⟩,ks.length,c5),(a3,rws.length,c3),xc,(a4,trs.length,c4),xb,xa⟩:NV)):=zH k1;have K2:=zH k2;have K3:=zH k3;have K6:=zH hk6;clear hcl k1 k2 k3 hk6 hc6 hb6;go_wp2_with fail
      refine hK.out _ _ ?_ (fun hHeld=>?_)
      ·exact HSX.out _ HB6.out
      clear hK K
      try simp only[zT,zS,zZ,Act.put,yT,yZ,yS]
      refine zK (i:=5) (v:= .pointer (some ⟨g,j*10,none⟩)) rfl ?_;simp only[zT,zS,zZ,Act.put,yT,yZ,yS];have HSX9:Hid ((fun W=>W.cell? ⟨w.heap.size,4,none⟩=some (.slice (some ⟨g,0,none⟩) ks.length c5)∧W.cell? ⟨wq.heap.size,0,none⟩=some (.int .i64 yk)∧W.cell? ⟨wq.heap.size,1,none⟩=some (.int .i64 yl)∧W.cell? ⟨wq.heap.size,2,none⟩=some (.int .i64 yn)∧W.cell? ⟨wq.heap.size,3,none⟩=some (.slice u1 u2 u3)∧W.cell? ⟨wq.heap.size,4,none⟩=some (.slice v1 v2 v3)∧W.cell? ⟨wq.heap.size,5,none⟩=some (.slice w1 w2 w3)∧W.cell? ⟨wq.heap.size,6,none⟩=some (.string ⟨yc.toArray⟩)∧W.cell? ⟨wq.heap.size,7,none⟩=some (.slice z1 z2 z3)∧W.cell? ⟨wq.heap.size,8,none⟩=some (.bool yb)∧W.cell? ⟨wq.heap.size,9,none⟩=some (.bool ya)) (w6.setCells g (j*10) [.int .i64 mk,.int .i64 ml,.int .i64 mn,.slice m1 m2 m3,.slice n1 n2 n3,.slice o1 o2 o3,.string ⟨mc.toArray⟩,.slice l1 l2 l3,.bool mb,.bool ma])):=zH (by
       have h:=HSX.out _ HB6.out;have hq: ∀i:Nat,(w6.setCells g (j*10) [.int .i64 mk,.int .i64 ml,.int .i64 mn,.slice m1 m2 m3,.slice n1 n2 n3,.slice o1 o2 o3,.string ⟨mc.toArray⟩,.slice l1 l2 l3,.bool mb,.bool ma]).cell? ⟨wq.heap.size,i,none⟩=w6.cell? ⟨wq.heap.size,i,none⟩:=fun i=>aR (aC (fun e=>HWQ.out.2 e.symm) _ _ _)
       refine⟨by have h:=K1.out.bx.cell 4;simpa[ae,pv] using h,?_⟩;simp only[hq];exact h.2)
      refine wpAnyH_ready (rs:=[6]) (by kernel_rfl) (by simp) ?_;refine AllReadyH.cons rfl (fun K hK=>?_) AllReadyH.nil
      try simp only[zT,zS,zZ]
      go_simp;refine hK.out _ _ ?_ (fun hHeld=>?_)
      ·exact HSX9.out
      clear hK K
      try simp only[zT,zS,zZ,Act.put,yT,yZ,yS]
      refine PK (by kernel_rfl) ?_ _;go_wp2_with fail
      go_roundw
      case rel=>exact⟨j+1,by omega,by go_num,K1,K2,K3⟩
      case measure=>(simp[intOf];try omega)
     ·obtain rfl:j=ks.length:=by omega
      have hlt': ¬(ks.length:Int)<(ks.length:Int):=by omega
      have HFIN:Hid (Eu (Nd.mk (⟨xk',xl',xn',tx,rws,⟨xc,trs,xb,xa⟩⟩:Hd) ks) w (.returned (.agg (ae (⟨xk',xl',xn',(a2,tx.length,c2),(a5,ks.length,c5),(a3,rws.length,c3),xc,(a4,trs.length,c4),xb,xa⟩:NV)).toArray)) (wq.setCells (w.heap.size+1) 0 (ae (⟨xk',xl',xn',(a2,tx.length,c2),(a5,ks.length,c5),(a3,rws.length,c3),xc,(a4,trs.length,c4),xb,xa⟩:NV)))):=zH (by
       have hM2:=HSM.out;have hk:=(HKI.out.setC (g:=w.heap.size+1) (by omega) (fun q=>by have:=HS.out _ q;omega) (ae (⟨xk',xl',xn',(a2,tx.length,c2),(a5,ks.length,c5),(a3,rws.length,c3),xc,(a4,trs.length,c4),xb,xa⟩:NV)) 0 wq).done;refine⟨_,rfl,⟨?_,hk.lessF (by omega)⟩,uO (by omega) _ _ _ HCA.out.bel⟩;refine(HHD.out.keep (fun k q=>aC (fun e=>by have:=q.1;omega) _ _ _)).mono (fun k q=>⟨by have:=q.1;omega,?_,fun e=>?_⟩)
       ·rw[mq]
        have:=HKI.out.sz;have:=q.2;omega
       ·have:=hk.own_ge' e
        have:=q.2;omega)
      simp only[ae,pv]at HFIN;have b0:=HCA.out.bx.cell 0;have b1:=HCA.out.bx.cell 1;have b2:=HCA.out.bx.cell 2;have b3:=HCA.out.bx.cell 3;have b4:=HCA.out.bx.cell 4;have b5:=HCA.out.bx.cell 5;have b6:=HCA.out.bx.cell 6;have b7:=HCA.out.bx.cell 7;have b8:=HCA.out.bx.cell 8;have b9:=HCA.out.bx.cell 9;have d0:=HCA.out.br.cell 0;have d1:=HCA.out.br.cell 1;have d2:=HCA.out.br.cell 2;have d3:=HCA.out.br.cell 3;have d4:=HCA.out.br.cell 4;have d5:=HCA.out.br.cell 5;have d6:=HCA.out.br.cell 6;have d7:=HCA.out.br.cell 7;have d8:=HCA.out.br.cell 8;have d9:=HCA.out.br.cell 9;simp only[ae,pv,zNd,OY,OZ]at b0 d0 b1 d1 b2 d2 b3 d3 b4 d4 b5 d5 b6 d6 b7 d7 b8 d8 b9 d9;have f0:wq.frozen? ⟨w.heap.size+1,0,none⟩=false:=HCA.out.br.frozen (by simp[zNd]);have f1:wq.frozen? ⟨w.heap.size+1,1,none⟩=false:=HCA.out.br.frozen (by simp[zNd]);have f2:wq.frozen? ⟨w.heap.size+1,2,none⟩=false:=HCA.out.br.frozen (by simp[zNd]);have f3:wq.frozen? ⟨w.heap.size+1,3,none⟩=false:=HCA.out.br.frozen (by simp[zNd]);have f4:wq.frozen? ⟨w.heap.size+1,4,none⟩=false:=HCA.out.br.frozen (by simp[zNd]);have f5:wq.frozen? ⟨w.heap.size+1,5,none⟩=false:=HCA.out.br.frozen (by simp[zNd]);have f6:wq.frozen? ⟨w.heap.size+1,6,none⟩=false:=HCA.out.br.frozen (by simp[zNd]);have f7:wq.frozen? ⟨w.heap.size+1,7,none⟩=false:=HCA.out.br.frozen (by simp[zNd]);have f8:wq.frozen? ⟨w.heap.size+1,8,none⟩=false:=HCA.out.br.frozen (by simp[zNd]);have f9:wq.frozen? ⟨w.heap.size+1,9,none⟩=false:=HCA.out.br.frozen (by simp[zNd]);obtain⟨F,hF⟩: ∃F,((((((((((wq.setCell ⟨w.heap.size+1,0,none⟩ (.int .i64 xk')).setCell ⟨w.heap.size+1,1,none⟩ (.int .i64 xl')).setCell ⟨w.heap.size+1,2,none⟩ (.int .i64 xn')).setCell ⟨w.heap.size+1,3,none⟩ (.slice a2 tx.length c2)).setCell ⟨w.heap.size+1,4,none⟩ (.slice a5 ks.length c5)).setCell ⟨w.heap.size+1,5,none⟩ (.slice a3 rws.length c3)).setCell ⟨w.heap.size+1,6,none⟩ (.string ⟨xc.toArray⟩)).setCell ⟨w.heap.size+1,7,none⟩ (.slice a4 trs.length c4)).setCell ⟨w.heap.size+1,8,none⟩ (.bool xb)).setCell ⟨w.heap.size+1,9,none⟩ (.bool xa))=F:=⟨_,rfl⟩;have HF2:Hid (Eu (Nd.mk (⟨xk',xl',xn',tx,rws,⟨xc,trs,xb,xa⟩⟩:Hd) ks) w (.returned (.agg #[.int .i64 xk',.int .i64 xl',.int .i64 xn',.slice a2 tx.length c2,.slice a5 ks.length c5,.slice a3 rws.length c3,.string ⟨xc.toArray⟩,.slice a4 trs.length c4,.bool xb,.bool xa])) F):=zH (by rw[←hF];exact HFIN.out);have kF:Blk F (w.heap.size+1) 58 [.int .i64 xk',.int .i64 xl',.int .i64 xn',.slice a2 tx.length c2,.slice a5 ks.length c5,.slice a3 rws.length c3,.string ⟨xc.toArray⟩,.slice a4 trs.length c4,.bool xb,.bool xa]:=by
       rw[←hF];exact((((((((((HCA.out.br.set 0 (.int .i64 xk')).set 1 (.int .i64 xl')).set 2 (.int .i64 xn')).set 3 (.slice a2 tx.length c2)).set 4 (.slice a5 ks.length c5)).set 5 (.slice a3 rws.length c3)).set 6 (.string ⟨xc.toArray⟩)).set 7 (.slice a4 trs.length c4)).set 8 (.bool xb)).set 9 (.bool xa))
      have HKF:=zH kF;have HFF:=zH hF;have hne:w.heap.size≠w.heap.size+1:=by omega
      clear HCA HKI HHD HFIN kF hF;go_wp2_with fail
      rw[HFF.out];have e0:=HKF.out.cell 0;have e1:=HKF.out.cell 1;have e2:=HKF.out.cell 2;have e3:=HKF.out.cell 3;have e4:=HKF.out.cell 4;have e5:=HKF.out.cell 5;have e6:=HKF.out.cell 6;have e7:=HKF.out.cell 7;have e8:=HKF.out.cell 8;have e9:=HKF.out.cell 9;simp only[OY,OZ]at e0 e1 e2 e3 e4 e5 e6 e7 e8 e9;refine Pq (v:= .agg #[.int .i64 xk',.int .i64 xl',.int .i64 xn',.slice a2 tx.length c2,.slice a5 ks.length c5,.slice a3 rws.length c3,.string ⟨xc.toArray⟩,.slice a4 trs.length c4,.bool xb,.bool xa]) (by simp[results,Tryz.results133,go_sem,e0,e1,e2,e3,e4,e5,e6,e7,e8,e9]) rfl ?_;exact HF2.out
theorem JE {m:Bool} {X R S:Nat→Prop} {w:World} {b:Nat} {t:Bt} {x:NV} {y:Nd} (h:BM m X R w b t) (hx:qo S w x y) (hS: ∀k,S k→k<w.heap.size∧ ¬X k) (hb:btl t+nlN y≤80000):
  Calls Tryz.prog 94 #[dW b,.agg (ae x).toArray] w (wT m X R b (vH t y) w):=by
 obtain⟨W1,hW1⟩: ∃W,W=w.alloc (.cells (ae x).toArray 58):=⟨_,rfl⟩;have b1:Below w.heap.size w W1:=by rw[hW1];exact af _ _
 have kx:Blk W1 w.heap.size 58 (ae x):=by rw[hW1];exact O9 w _
 have hlt:=h.lt;have hB1:=h.keep (Kp.below b1 (fun k q=>hlt k (.inl q))) (Kp.below b1 (fun k q=>hlt k (.inr q))) b1.size;have HE:=zH (jQ hB1 (by omega));have hbe:=eP t;have HNX:Hid (∀w2 X1 R1,BM m X1 R1 w2 b (bH t)→Exc X W1 w2→(∀k,X1 k→X k∨W1.heap.size≤k)→(∀k,R1 k→R k∨X k∨W1.heap.size≤k)→
   (∀(i:Nat) u,(ae x)[i]? =some u→w2.cell? ⟨w.heap.size,i,none⟩=some u)∧
   Calls Tryz.prog 133 #[.agg (ae x).toArray] w2 (fun e w3=> ∃x3:NV,e= .returned (.agg (ae x3).toArray)∧
    Calls Tryz.prog 95 #[dW b,.agg (ae x3).toArray] w3 fun e w'=>e= .returned (.tuple #[])∧AfC m X R b (vH t y) w w')):=zH (fun w2 X1 R1 hB hE hX hR=>by
  have hxn: ¬X w.heap.size:=fun q=>by have:=hlt _ (.inl q);omega
  refine⟨fun i u hu=>?_,?_⟩
  ·rw[aR (hE.block _ kx.lt hxn),kx.cell i];exact hu
  have kS:Kp S w w2:=fun k q=>(hE.block k (O0 (hS k q).1 b1.size) (hS k q).2).trans (b1.block k (hS k q).1)
  refine(qP (fK y) y (OW _) (by omega) S x w2 (hx.keep kS) (fun k q=>O0 (hS k q).1 (Pp b1.size hE.size))).mono ?_;rintro e w3 ⟨x3,rfl,hc,hb3⟩;refine⟨x3,rfl,?_⟩;have hl2:=hB.lt;have hB3:=hB.keep (Kp.below hb3 (fun k q=>hl2 k (.inl q))) (Kp.below hb3 (fun k q=>hl2 k (.inr q))) hb3.size;have hB4:=hB3.more (R':=fun k=>R1 k∨(w2.heap.size≤k∧k<w3.heap.size)) (fun k q=> .inl q) (fun k q=>q.imp id (fun q=>⟨q.2,fun z=>by have:=hl2 k (.inl z);omega⟩));obtain⟨q1,q2⟩:=hc.all;have hsm:=eO (show btl (bH t)≤90000 by omega);refine(uM hB4 (q1.mono (fun k q=> .inr q)) (q2.mono (fun k q=> .inr q)) (by omega) (fun z hz=>by have:=hsm.2.2.1 z hz;omega) (by omega)).mono ?_;rintro e w4 ⟨h1,h2⟩;refine⟨h1,?_⟩;have hE3:Exc X w w3:=((Exc.of (X:=X) b1).then hE).trans (Exc.of (X:=fun _=>False) hb3) (fun _ _ q=>q.elim);have hs1:=b1.size;have hs2:=hE.size;exact AfC.step hE3 (fun k q=>(hX k q).imp id (fun z=>by omega)) (fun k q=>q.elim (fun q=>(hR k q).imp id (fun z=>z.imp id (fun z=>by omega))) (fun q=> .inr (.inr (by omega)))) h2.c)
 have hblt:b<W1.heap.size:=hB1.lt b (.inl hB1.self);obtain⟨xk,xl,xn,⟨t1,t2,t3⟩,⟨k1,k2,k3⟩,⟨r1,r2,r3⟩,xc,⟨q1,q2,q3⟩,xb,xa⟩:=x;simp only[ae,pv]at hW1 HNX ⊢;have HW1:=zH hW1;clear h hx hS hb hW1 b1 kx hlt hB1 hbe;go_enter Tryz.func94,Tryz.ntmps94
 go_upto_region 1 with fail
 rw[←HW1.out];clear HW1;go_wp2_with fail
 refine HE.out.mono ?_;rintro e w2 ⟨rfl,X1,R1,hB,hE,hX,hR⟩;obtain⟨hcl,hcall⟩:=HNX.out w2 X1 R1 hB hE hX hR;have x0:=hcl 0 _ rfl;have x1:=hcl 1 _ rfl;have x2:=hcl 2 _ rfl;have x3:=hcl 3 _ rfl;have x4:=hcl 4 _ rfl;have x5:=hcl 5 _ rfl;have x6:=hcl 6 _ rfl;have x7:=hcl 7 _ rfl;have x8:=hcl 8 _ rfl;have x9:=hcl 9 _ rfl;have HC:=zH hcall;clear hcl hcall hB hE hX hR HE HNX;go_wp2_with fail
 refine HC.out.mono ?_;rintro e w3 ⟨x3',rfl,hput⟩;have HP:=zH hput;clear hput HC x0 x1 x2 x3 x4 x5 x6 x7 x8 x9;go_wp2_with fail
 refine HP.out.mono ?_;rintro e w4 ⟨rfl,hA⟩;have HA:=zH hA;clear hA HP;go_wp2_with fail
 go_end0;exact⟨rfl,HA.out⟩
theorem BM.pushO {m:Bool} {X R:Nat→Prop} {V:World} {b:Nat} {t:Bt} (h:BM m X R V b t) (hl:t.opn.length≤400000):
  ∃oa oc,V.cell? ⟨b,5,none⟩=some (.slice oa t.opn.length oc)∧b<V.heap.size∧ ∀(w3 W:World) (base:Nat) (x:NV) (y:Nd) (ad:Addr) (c0:Nat),Below V.heap.size V w3→V.heap.size≤base→lD base w3 x y→Below w3.heap.size w3 W→Fs 10 ae W (.slice (some ad) 1 c0) [(⟨0,0,0,aj,aj,aj,[],aj,false,false⟩:NV)]→
   ∃g c w',(Builtin.append_ #[36,36] 36 #[.slice oa t.opn.length oc,.slice (some ad) 1 c0]).run Tryz.prog W= .ok (.slice (some ⟨g,0,none⟩) (t.opn.length+1) c) w'∧
    (∀(i:Nat) u,zNd[i]? =some u→w'.cell? ⟨g,t.opn.length*10+i,none⟩=some u∧w'.frozen? ⟨g,t.opn.length*10+i,none⟩=false)∧g≠b∧
    w'.cell? ⟨b,5,none⟩=some (.slice oa t.opn.length oc)∧w'.frozen? ⟨b,5,none⟩=false∧(∀k,V.heap.size≤k→k<W.heap.size→k≠g∧w'.heap[k]? =W.heap[k]?)∧(∀k,k<V.heap.size→ ¬X k→k≠g∧w'.heap[k]? =V.heap[k]?)∧
    AfC m X R b {t with opn:=t.opn++ [y] } V ((w'.setCells g (t.opn.length*10) (ae x)).setCell ⟨b,5,none⟩ (.slice (some ⟨g,0,none⟩) (t.opn.length+1) c)):=by
 obtain⟨kv,ov,pa,LO,lab,h1,h2⟩:=h;obtain⟨oa,oc,eo,hoc⟩:=h1.olen;refine⟨oa,oc,by rw[h1.box.cell 5,←eo];rfl,h1.box.lt,fun w3 W base x y ad c0 hb3 hbase hc hbW hz=>?_⟩;have hVW:Below V.heap.size V W:=hb3.trans (hbW.mono hb3.size);have hoW:RwV R (fun k=>lab k=3) W (.slice oa t.opn.length oc) LO:= .inl ⟨by rw[←eo];exact h1.opn.kp (fun k e=>hVW.block k (h1.ll k (by rw[h1.opb k e];decide))),fun k e=>h1.opb k (by rw[eo];exact e)⟩;obtain⟨g,c,w',hr,ho,hE,hg,hgl⟩:=hoW.app1 (by rw[h1.ol];omega) rfl hz;rw[h1.ol]at hr ho;have hg':lab g=3∨W.heap.size≤g:=hg;have hsV:=hVW.size;have hs3:=hb3.size;have hsW:=hbW.size;have hgb:g≠b:=fun e=>by
  rcases hg' with z | z
  ·rw[e,h1.lb]at z;omega
  ·have:=h1.box.lt;omega
 have hEV:Exc (fun k=>lab k=3) V w':=(Exc.of (X:=fun k=>lab k=3) hVW).trans hE (fun _ _ q=>q);have box':Blk w' b 116 (bM t.nm kv ov pa):=hEV.blk h1.box (by rw[h1.lb];decide);have box2:Blk (w'.setCells g (t.opn.length*10) (ae x)) b 116 (bM t.nm kv ov pa):=(aC (fun e=>hgb e.symm) _ _ _).trans box';have box3:=box2.set 5 (.slice (some ⟨g,0,none⟩) (t.opn.length+1) c);obtain⟨F,hF⟩: ∃F,(w'.setCells g (t.opn.length*10) (ae x)).setCell ⟨b,5,none⟩ (.slice (some ⟨g,0,none⟩) (t.opn.length+1) c)=F:=⟨_,rfl⟩;have eb:(bM t.nm kv ov pa).set 5 (.slice (some ⟨g,0,none⟩) (t.opn.length+1) c)=bM t.nm kv (some ⟨g,0,none⟩,t.opn.length+1,c) pa:=rfl;rw[eb,hF]at box3;have hFh: ∀k,k≠b→F.heap[k]? =(w'.setCells g (t.opn.length*10) (ae x)).heap[k]? :=fun k hk=>by rw[←hF];exact O8 _ ⟨b,5,none⟩ _ k hk
 have hFs:F.heap.size=w'.heap.size:=by rw[←hF,fF,mq]
 have hsE:=hE.size;have kS: ∀k,k<V.heap.size→lab k≠3→lab k≠1→F.heap[k]? =V.heap[k]? :=fun k q1 q2 q3=>by
  rw[hFh k (fun e=>q3 (by rw[e];exact h1.lb)),aC (fun e=>by subst e;rcases hg' with z | z<;>omega)];exact hEV.block k q1 q2
 have kR:Kp R V F:=fun k q=>kS k (h1.rl k q) (by rw[h1.sep k q];decide) (by rw[h1.sep k q];decide)
 have kz: ∀z,z≠0→z≠3→z≠1→Kp (fun k=>lab k=z) V F:=fun z a0 a1 a2 k q=>kS k (h1.ll k (by rw[show lab k=z from q];exact a0)) (by rw[show lab k=z from q];exact a1) (by rw[show lab k=z from q];exact a2)
 have kC: ∀k,V.heap.size≤k→k<w3.heap.size→F.heap[k]? =w3.heap[k]? :=fun k q1 q2=>by
  have hb':=h1.box.lt;rw[hFh k (by omega),aC (fun e=>by subst e;exact hg'.elim (fun z=>by have:=h1.ll k (by omega);omega) (fun z=>by omega))];rw[hE.block k (by omega) (fun z=>by have:=h1.ll k (by omega);omega)];exact hbW.block k q2
 have hkge: ∀k,(pv x.kids).ownBlock=some k→base≤k:=fun k e=>hc.kids.own_ge' e
 have hklt: ∀k,(pv x.kids).ownBlock=some k→k<w3.heap.size:=fun k e=>by
  obtain⟨L,S,q1,-⟩:=hc.kids.own;exact q1.ltb e
 have hkg: ∀k,(pv x.kids).ownBlock=some k→k≠g:=fun k e e2=>by
  have:=hkge k e;have:=hklt k e;subst e2;rcases hg' with z | z
  ·have:=h1.ll k (by omega);omega
  ·omega
 have hlab: ∀k,lab k≠0→(pv x.kids).ownBlock≠some k:=fun k q e=>by
  have:=h1.ll k q;have:=hkge k e;omega
 have hlab3: ∀k,lab k≠3→lab k≠0→k≠g:=fun k q1 q2 e=>by
  subst e;rcases hg' with z | z
  ·exact q1 z
  ·have:=h1.ll k q2;omega
 have ln: ∀k z,z≠0→z≠3→lab k=z→(if k=g then 3 else if(pv x.kids).ownBlock=some k then 6+t.opn.length else lab k)=z:=fun k z a0 a3 q=>by
  rw[Pd (hlab3 k (by omega) (by omega)),Pd (hlab k (by omega)),q]
 refine⟨g,c,w',hr,fun i u hi=>?_,hgb,by rw[box'.cell 5,←eo];rfl,box'.frozen (by simp[bM]),fun k q1 q2=>⟨fun e=>by subst e;exact hg'.elim (fun z=>by have:=h1.ll k (by omega);omega) (fun z=>by omega),hE.block k q2 (fun z=>by have:=h1.ll k (by omega);omega)⟩,fun k q1 q2=>⟨fun e=>by subst e;exact hg'.elim (fun z=>q2 ((h2 k).2 (by omega))) (fun z=>by omega),hEV.block k q1 (fun z=>q2 ((h2 k).2 (by omega)))⟩,?_⟩
 ·exact ho.slotA ay (j:=t.opn.length) (s:=⟨0,0,0,aj,aj,aj,[],aj,false,false⟩) (by rw[Ps (by rw[h1.ol];omega),h1.ol];simp) (i:=i) (u:=u) hi
 rw[hF];have hEF:Exc (fun k=>lab k=3∨lab k=1) V F:=by
  obtain⟨e1,e2,e3⟩:=Eh _ hEV g (t.opn.length*10) b 5 (ae x) (.slice (some ⟨g,0,none⟩) (t.opn.length+1) c);rw[hF]at e1 e2 e3;exact⟨e1,e2,e3,by rw[hFs];omega,fun k q1 q2=>kS k q1 (fun z=>q2 (.inl z)) (fun z=>q2 (.inr z))⟩
 have hmd: ∀k,MdC base w3 (pv x.kids) k→V.heap.size≤k∧k<w3.heap.size∧(pv x.kids).ownBlock≠some k:=fun k q=>⟨Pp hbase q.1,q.2⟩
 have kM:Kp (MdC base w3 (pv x.kids)) w3 F:=fun k q=>kC k (hmd k q).1 (hmd k q).2.1
 refine⟨fun k=>(if k=g then 3 else if(pv x.kids).ownBlock=some k then 6+t.opn.length else lab k)≠0,fun k=>R k∨MdC base w3 (pv x.kids) k,⟨kv,(some ⟨g,0,none⟩,t.opn.length+1,c),pa,LO++ [x],fun k=>if k=g then 3 else if(pv x.kids).ownBlock=some k then 6+t.opn.length else lab k,⟨fun k q=>?_,fun k q=>?_,fun k q=>?_,ln b 1 (by decide) (by decide) h1.lb,box3,?_,?_,fun k e=>?_,?_,fun i x2 y2 p q=>?_,?_⟩,fun k=>Ri⟩,hEF.mono (fun k _ q=>(h2 k).2 (by omega)),fun k q=>?_,fun k q=>q.imp id (fun q=> .inr (hmd k q).1)⟩
 ·by_cases e:k=g
  ·rw[e,hFs];exact hgl
  ·rw[Pd e]at q
   by_cases e2:(pv x.kids).ownBlock=some k
   ·have:=hklt k e2;omega
   ·rw[Pd e2]at q
    have:=h1.ll k q;omega
 ·rcases q with q | q
  ·have:=h1.rl k q;omega
  ·have:=(hmd k q).2.1;omega
 ·rcases q with q | q
  ·have q0:=h1.sep k q
   have q1:=h1.rl k q;have e1:k≠g:=fun e=>by
    subst e;rcases hg' with z | z<;>omega
   have e2:(pv x.kids).ownBlock≠some k:=fun e=>by have:=hkge k e;omega
   simp only[Pd e1,Pd e2,q0]
  ·have q1:=hmd k q
   have e1:k≠g:=fun e=>by
    subst e;rcases hg' with z | z
    ·have:=h1.ll k (by omega);omega
    ·omega
   have e3:lab k=0:=by
    by_cases e3:lab k=0
    ·exact e3
    ·have:=h1.ll k e3;omega
   simp only[Pd e1,Pd q1.2.2,e3]
 ·exact(h1.kids.keep kR (kz 2 (by decide) (by decide) (by decide))).mono (fun k q=> .inl q) (fun k q=>ln k 2 (by decide) (by decide) q)
 ·have hp:=ho.putA ay (j:=t.opn.length) (by simp[h1.ol]) x
  have e1:(LO++ [(⟨0,0,0,aj,aj,aj,[],aj,false,false⟩:NV)]).set t.opn.length x=LO++ [x]:=by
   rw[Q9 _ _ (by rw[h1.ol];omega),h1.ol];simp
  rw[e1]at hp;exact hp.kp (fun k e=>by
   obtain rfl:=Ph e;exact hFh _ hgb)
 ·obtain rfl:=Ph e
  simp
 ·simp[h1.ol]
 ·by_cases hi:i<t.opn.length
  ·rw[PE (by rw[h1.ol];exact hi)]at p
   rw[PE hi]at q;obtain⟨q1,q2⟩:=h1.on i x2 y2 p q;exact⟨(q1.keep kR).mono (fun k q=> .inl q),(q2.keep kR (kz _ (by omega) (by omega) (by omega))).mono (fun k q=> .inl q) (fun k z=>ln k _ (by omega) (by omega) z)⟩
  ·rw[Ps (by rw[h1.ol];omega),h1.ol]at p
   rw[Ps (by omega)]at q;have hi0:i=t.opn.length:=by
    have:=(OV.1 q).1;simp at this;omega
   obtain⟨rfl,rfl⟩:=DL p q;refine⟨(hc.hd.keep kM).mono (fun k q=> .inr q),?_⟩;have hk:=hc.kids.rwn (O:=fun k=>(pv x.kids).ownBlock=some k) (R:=MdC base w3 (pv x.kids)) (fun k e=>e) (fun k q1 q2 q3=>⟨q1,q2,q3⟩);refine(hk.keep kM (fun k e=>kC k (by have:=hkge k e;omega) (hklt k e))).mono (fun k q=> .inr q) (fun k e=>?_);rw[hi0,Pd (hkg k e),Pk e]
 ·have:=lG.keep (t:={t with opn:=t.opn++ [y] }) h1.para kR (fun k q=>q.elim (kz 4 (by decide) (by decide) (by decide) k) (kz 5 (by decide) (by decide) (by decide) k))
  exact lG.relab this (fun k q=> .inl q) (fun k q=>ln k 4 (by decide) (by decide) q) (fun k q=>ln k 5 (by decide) (by decide) q)
 ·by_cases e:k=g
  ·rcases hg' with z | z
   ·exact .inl ((h2 k).2 (by rw[e];omega))
   ·exact .inr (by omega)
  ·simp only at q
   rw[Pd e]at q
   by_cases e2:(pv x.kids).ownBlock=some k
   ·have:=hkge k e2;exact .inr (by omega)
   ·rw[Pd e2]at q
    exact .inl ((h2 k).2 q)
def zN0:NV:=⟨0,0,0,aj,aj,aj,[],aj,false,false⟩
theorem NK (W:World):Fs 10 ae (W.alloc (.cells #[.int .i64 0,.int .i64 0,.int .i64 0,.slice none 0 0,.slice none 0 0,.slice none 0 0,.string ⟨#[]⟩,.slice none 0 0,.bool false,.bool false] 58)) (.slice (some ⟨W.heap.size,0,none⟩) 1 1) [zN0]:=by
 have:=bR ay W 58 [zN0];rw[dS]at this;exact this
def Mr (m:Bool) (X R:Nat→Prop) (V:World) (b:Nat) (t:Bt) (y:Nd) (oa:Option Addr) (tl oc:Nat) (P:Nat→Prop) (w3 W:World) (x:NV) (ad:Addr):Prop:=
 ∃g c w',(Builtin.append_ #[36,36] 36 #[.slice oa tl oc,.slice (some ad) 1 1]).run Tryz.prog W= .ok (.slice (some ⟨g,0,none⟩) (tl+1) c) w'∧
  (∀(i:Nat) u,zNd[i]? =some u→w'.cell? ⟨g,tl*10+i,none⟩=some u∧w'.frozen? ⟨g,tl*10+i,none⟩=false)∧g≠b∧
  w'.cell? ⟨b,5,none⟩=some (.slice oa tl oc)∧w'.frozen? ⟨b,5,none⟩=false∧(∀k,P k→k≠g∧k≠b∧w'.heap[k]? =V.heap[k]?)∧
  AfC m X R b {t with opn:=t.opn++ [y] } V ((w'.setCells g (tl*10) (ae x)).setCell ⟨b,5,none⟩ (.slice (some ⟨g,0,none⟩) (tl+1) c))
theorem QT7 {P:Prop}(h:P:=by
 refine wpAnyH_ready (rs:=[5]) (by kernel_rfl) (by simp) ?_;refine AllReadyH.cons rfl (fun K hK=>?_) AllReadyH.nil
 try simp only[zT,zS,zZ]
 go_simp;go_at_call 133
 refine(HCP.out (w2.alloc (.cells #[.int .i64 0,.int .i64 0,.int .i64 0,.slice none 0 0,.slice none 0 0,.slice none 0 0,.string ⟨#[]⟩,.slice none 0 0,.bool false,.bool false] 58)).drew (af w2 _).drew).mono ?_;rintro e w3 ⟨x6,rfl,hc6,hb3⟩;have hz1:(w2.alloc (.cells #[.int .i64 0,.int .i64 0,.int .i64 0,.slice none 0 0,.slice none 0 0,.slice none 0 0,.string ⟨#[]⟩,.slice none 0 0,.bool false,.bool false] 58)).drew.heap.size=w2.heap.size+1:=Pf _ _;rw[hz1]at hb3 hc6;have HB3:Hid (Below (w2.heap.size+1) (w2.alloc (.cells #[.int .i64 0,.int .i64 0,.int .i64 0,.slice none 0 0,.slice none 0 0,.slice none 0 0,.string ⟨#[]⟩,.slice none 0 0,.bool false,.bool false] 58)).drew w3):=zH hb3;have HC6:Hid (lD (w2.heap.size+1) w3 x6 y):=zH hc6;have hb3':Below w2.heap.size w2 w3:=(af w2 (.cells #[.int .i64 0,.int .i64 0,.int .i64 0,.slice none 0 0,.slice none 0 0,.slice none 0 0,.string ⟨#[]⟩,.slice none 0 0,.bool false,.bool false] 58)).drew.trans (hb3.mono (by omega));have c5w:w3.cell? ⟨b,5,none⟩=some (.slice oa tl oc):=aD hb3' c5;have HHX:Hid (w3.heap[w.heap.size]? =w2.heap[w.heap.size]?):=zH (hb3'.block _ hwl);clear hc6 hb3 hb3';obtain⟨mk,ml,mn,⟨m1,m2,m3⟩,⟨n1,n2,n3⟩,⟨o1,o2,o3⟩,mc,⟨l1,l2,l3⟩,mb,ma⟩:=x6;simp only[ae,pv];go_wp2_with fail
 refine hK.out _ _ ?_ (fun hHeld=>?_)
 ·exact HSX.out _ HHX.out
 clear hK K
 try simp only[zT,zS,zZ,Act.put,yT,yZ,yS]
 obtain⟨g,c,w',hr,hcell,hgb,e5,f5,hP,hA⟩:=HPB.out w3 _ HC6.out HB3.out;have HA:=zH hA;have hw:=hP _ rfl;have hgw:w.heap.size≠g:=hw.1;have hbw:w.heap.size≠b:=hw.2.1;have HHW:=zH hw.2.2;have hbg:b≠g:=fun e=>hgb e.symm
 simp only[ae,pv]at HA;have y0:=(hcell 0 _ rfl).1;have y1:=(hcell 1 _ rfl).1;have y2:=(hcell 2 _ rfl).1;have y3:=(hcell 3 _ rfl).1;have y4:=(hcell 4 _ rfl).1;have y5:=(hcell 5 _ rfl).1;have y6:=(hcell 6 _ rfl).1;have y7:=(hcell 7 _ rfl).1;have y8:=(hcell 8 _ rfl).1;have y9:=(hcell 9 _ rfl).1;have f0':=(hcell 0 _ rfl).2;have f1':=(hcell 1 _ rfl).2;have f2':=(hcell 2 _ rfl).2;have f3':=(hcell 3 _ rfl).2;have f4':=(hcell 4 _ rfl).2;have f5':=(hcell 5 _ rfl).2;have f6':=(hcell 6 _ rfl).2;have f7':=(hcell 7 _ rfl).2;have f8':=(hcell 8 _ rfl).2;have f9':=(hcell 9 _ rfl).2
 try simp only[PW]at y0 f0'
 clear hA hP hw hcell;refine wpAnyH_ready (rs:=[8]) (by kernel_rfl) (by simp) ?_;refine AllReadyH.cons rfl (fun K hK=>?_) AllReadyH.nil
 try simp only[zT,zS,zZ]
 rw[Pk (by kernel_rfl)];refine wp_append_run (.tmp 11) (.tmp 15) 36 36 rfl _ _ rfl rfl hr ?_;refine hK.out _ _ ?_ (fun hHeld=>?_)
 ·exact HSX.out _ HHW.out
 clear hK K
 try simp only[zT,zS,zZ,Act.put,yT,yZ,yS]
 refine zK (i:=9) (v:= .pointer (some ⟨g,tl*10,none⟩)) rfl ?_;simp only[zT,zS,zZ,Act.put,yT,yZ,yS];refine zK (i:=11) (v:=dW b) rfl ?_;simp only[zT,zS,zZ,Act.put,yT,yZ,yS];refine zK (i:=12) (v:= .pointer (some ⟨b,5,none⟩)) rfl ?_;simp only[zT,zS,zZ,Act.put,yT,yZ,yS];refine wpAnyH_ready (rs:=[10,13]) (by kernel_rfl) (by simp) ?_;refine AllReadyH.cons rfl (fun K hK=>?_) (AllReadyH.cons rfl (fun K hK=>?_) AllReadyH.nil)
 ·try simp only[zT,zS,zZ]
  go_simp;refine hK.out _ _ ?_ (fun hHeld=>?_)
  ·exact HSX.out (w'.setCells g (tl*10) [.int .i64 mk,.int .i64 ml,.int .i64 mn,.slice m1 m2 m3,.slice n1 n2 n3,.slice o1 o2 o3,.string ⟨mc.toArray⟩,.slice l1 l2 l3,.bool mb,.bool ma]) ((aC hgw _ _ _).trans HHW.out)
  clear hK K
  try simp only[zT,zS,zZ,Act.put,yT,yZ,yS]
  refine wpAnyH_ready (rs:=[13]) (by kernel_rfl) (by simp) ?_;refine AllReadyH.cons rfl (fun K hK=>?_) AllReadyH.nil
  try simp only[zT,zS,zZ]
  go_simp;refine hK.out _ _ ?_ (fun hHeld=>?_)
  ·exact HSX.out ((w'.setCells g (tl*10) [.int .i64 mk,.int .i64 ml,.int .i64 mn,.slice m1 m2 m3,.slice n1 n2 n3,.slice o1 o2 o3,.string ⟨mc.toArray⟩,.slice l1 l2 l3,.bool mb,.bool ma]).setCell ⟨b,5,none⟩ (.slice (some ⟨g,0,none⟩) (tl+1) c)) ((O8 _ ⟨b,5,none⟩ _ _ hbw).trans ((aC hgw _ _ _).trans HHW.out))
  clear hK K
  try simp only[zT,zS,zZ,Act.put,yT,yZ,yS]
  refine PK (by kernel_rfl) ?_ _;go_wp2_with fail
  go_end0;exact⟨rfl,HFN.out _ HA.out⟩
 ·try simp only[zT,zS,zZ]
  go_simp;refine hK.out _ _ ?_ (fun hHeld=>?_)
  ·exact HSX.out (w'.setCell ⟨b,5,none⟩ (.slice (some ⟨g,0,none⟩) (tl+1) c)) ((O8 _ ⟨b,5,none⟩ _ _ hbw).trans HHW.out)
  clear hK K
  try simp only[zT,zS,zZ,Act.put,yT,yZ,yS]
  refine wpAnyH_ready (rs:=[10]) (by kernel_rfl) (by simp) ?_;refine AllReadyH.cons rfl (fun K hK=>?_) AllReadyH.nil
  try simp only[zT,zS,zZ]
  go_simp;refine hK.out _ _ ?_ (fun hHeld=>?_)
  ·exact HSX.out ((w'.setCell ⟨b,5,none⟩ (.slice (some ⟨g,0,none⟩) (tl+1) c)).setCells g (tl*10) [.int .i64 mk,.int .i64 ml,.int .i64 mn,.slice m1 m2 m3,.slice n1 n2 n3,.slice o1 o2 o3,.string ⟨mc.toArray⟩,.slice l1 l2 l3,.bool mb,.bool ma]) ((aC hgw _ _ _).trans ((O8 _ ⟨b,5,none⟩ _ _ hbw).trans HHW.out))
  clear hK K
  try simp only[zT,zS,zZ,Act.put,yT,yZ,yS]
  refine PK (by kernel_rfl) ?_ _;go_wp2_with fail
  go_end0;refine⟨rfl,HFN.out _ ?_⟩;have q:=HA.out;rw[bT hgb]at q;exact q):P:=h
theorem QT8 {P:Prop}(h:P:=by
 refine wpAnyH_ready (rs:=[7]) (by kernel_rfl) (by simp) ?_;refine AllReadyH.cons rfl (fun K hK=>?_) AllReadyH.nil
 try simp only[zT,zS,zZ]
 have HHZ:Hid ((w3.alloc (.cells #[.int .i64 0,.int .i64 0,.int .i64 0,.slice none 0 0,.slice none 0 0,.slice none 0 0,.string ⟨#[]⟩,.slice none 0 0,.bool false,.bool false] 58)).heap[w.heap.size]? =w2.heap[w.heap.size]?):=zH ((Ql w3 _ (O0 hwl HB3.out.size)).trans HHX.out);go_simp;refine hK.out _ _ ?_ (fun hHeld=>?_)
 ·exact HSX.out _ HHZ.out
 clear hK K
 try simp only[zT,zS,zZ,Act.put,yT,yZ,yS]
 obtain⟨g,c,w',hr,hcell,hgb,e5,f5,hP,hA⟩:=HPA.out w3 _ HC6.out HB3.out;have HA:=zH hA;have hw:=hP _ rfl;have hgw:w.heap.size≠g:=hw.1;have hbw:w.heap.size≠b:=hw.2.1;have HHW:=zH hw.2.2;have hbg:b≠g:=fun e=>hgb e.symm
 simp only[ae,pv]at HA;have y0:=(hcell 0 _ rfl).1;have y1:=(hcell 1 _ rfl).1;have y2:=(hcell 2 _ rfl).1;have y3:=(hcell 3 _ rfl).1;have y4:=(hcell 4 _ rfl).1;have y5:=(hcell 5 _ rfl).1;have y6:=(hcell 6 _ rfl).1;have y7:=(hcell 7 _ rfl).1;have y8:=(hcell 8 _ rfl).1;have y9:=(hcell 9 _ rfl).1;have f0':=(hcell 0 _ rfl).2;have f1':=(hcell 1 _ rfl).2;have f2':=(hcell 2 _ rfl).2;have f3':=(hcell 3 _ rfl).2;have f4':=(hcell 4 _ rfl).2;have f5':=(hcell 5 _ rfl).2;have f6':=(hcell 6 _ rfl).2;have f7':=(hcell 7 _ rfl).2;have f8':=(hcell 8 _ rfl).2;have f9':=(hcell 9 _ rfl).2
 try simp only[PW]at y0 f0'
 clear hA hP hw hcell;refine wpAnyH_ready (rs:=[8]) (by kernel_rfl) (by simp) ?_;refine AllReadyH.cons rfl (fun K hK=>?_) AllReadyH.nil
 try simp only[zT,zS,zZ]
 rw[Pk (by kernel_rfl)];refine wp_append_run (.tmp 11) (.tmp 15) 36 36 rfl _ _ rfl rfl hr ?_;refine hK.out _ _ ?_ (fun hHeld=>?_)
 ·exact HSX.out _ HHW.out
 clear hK K
 try simp only[zT,zS,zZ,Act.put,yT,yZ,yS]
 refine zK (i:=9) (v:= .pointer (some ⟨g,tl*10,none⟩)) rfl ?_;simp only[zT,zS,zZ,Act.put,yT,yZ,yS];refine zK (i:=11) (v:=dW b) rfl ?_;simp only[zT,zS,zZ,Act.put,yT,yZ,yS];refine zK (i:=12) (v:= .pointer (some ⟨b,5,none⟩)) rfl ?_;simp only[zT,zS,zZ,Act.put,yT,yZ,yS];refine wpAnyH_ready (rs:=[10,13]) (by kernel_rfl) (by simp) ?_;refine AllReadyH.cons rfl (fun K hK=>?_) (AllReadyH.cons rfl (fun K hK=>?_) AllReadyH.nil)
 ·try simp only[zT,zS,zZ]
  go_simp;refine hK.out _ _ ?_ (fun hHeld=>?_)
  ·exact HSX.out (w'.setCells g (tl*10) [.int .i64 mk,.int .i64 ml,.int .i64 mn,.slice m1 m2 m3,.slice n1 n2 n3,.slice o1 o2 o3,.string ⟨mc.toArray⟩,.slice l1 l2 l3,.bool mb,.bool ma]) ((aC hgw _ _ _).trans HHW.out)
  clear hK K
  try simp only[zT,zS,zZ,Act.put,yT,yZ,yS]
  refine wpAnyH_ready (rs:=[13]) (by kernel_rfl) (by simp) ?_;refine AllReadyH.cons rfl (fun K hK=>?_) AllReadyH.nil
  try simp only[zT,zS,zZ]
  go_simp;refine hK.out _ _ ?_ (fun hHeld=>?_)
  ·exact HSX.out ((w'.setCells g (tl*10) [.int .i64 mk,.int .i64 ml,.int .i64 mn,.slice m1 m2 m3,.slice n1 n2 n3,.slice o1 o2 o3,.string ⟨mc.toArray⟩,.slice l1 l2 l3,.bool mb,.bool ma]).setCell ⟨b,5,none⟩ (.slice (some ⟨g,0,none⟩) (tl+1) c)) ((O8 _ ⟨b,5,none⟩ _ _ hbw).trans ((aC hgw _ _ _).trans HHW.out))
  clear hK K
  try simp only[zT,zS,zZ,Act.put,yT,yZ,yS]
  refine PK (by kernel_rfl) ?_ _;go_wp2_with fail
  go_end0;exact⟨rfl,HFN.out _ HA.out⟩
 ·try simp only[zT,zS,zZ]
  go_simp;refine hK.out _ _ ?_ (fun hHeld=>?_)
  ·exact HSX.out (w'.setCell ⟨b,5,none⟩ (.slice (some ⟨g,0,none⟩) (tl+1) c)) ((O8 _ ⟨b,5,none⟩ _ _ hbw).trans HHW.out)
  clear hK K
  try simp only[zT,zS,zZ,Act.put,yT,yZ,yS]
  refine wpAnyH_ready (rs:=[10]) (by kernel_rfl) (by simp) ?_;refine AllReadyH.cons rfl (fun K hK=>?_) AllReadyH.nil
  try simp only[zT,zS,zZ]
  go_simp;refine hK.out _ _ ?_ (fun hHeld=>?_)
  ·exact HSX.out ((w'.setCell ⟨b,5,none⟩ (.slice (some ⟨g,0,none⟩) (tl+1) c)).setCells g (tl*10) [.int .i64 mk,.int .i64 ml,.int .i64 mn,.slice m1 m2 m3,.slice n1 n2 n3,.slice o1 o2 o3,.string ⟨mc.toArray⟩,.slice l1 l2 l3,.bool mb,.bool ma]) ((aC hgw _ _ _).trans ((O8 _ ⟨b,5,none⟩ _ _ hbw).trans HHW.out))
  clear hK K
  try simp only[zT,zS,zZ,Act.put,yT,yZ,yS]
  refine PK (by kernel_rfl) ?_ _;go_wp2_with fail
  go_end0;refine⟨rfl,HFN.out _ ?_⟩;have q:=HA.out;rw[bT hgb]at q;exact q):P:=h
theorem QT9 {P:Prop}(h:P:=by
 have HA:=zH hA;have hw:=hP _ rfl;have hgw:w.heap.size≠g:=hw.1;have hbw:w.heap.size≠b:=hw.2.1;have HHW:=zH hw.2.2;have hbg:b≠g:=fun e=>hgb e.symm
 simp only[ae,pv]at HA;have y0:=(hcell 0 _ rfl).1;have y1:=(hcell 1 _ rfl).1;have y2:=(hcell 2 _ rfl).1;have y3:=(hcell 3 _ rfl).1;have y4:=(hcell 4 _ rfl).1;have y5:=(hcell 5 _ rfl).1;have y6:=(hcell 6 _ rfl).1;have y7:=(hcell 7 _ rfl).1;have y8:=(hcell 8 _ rfl).1;have y9:=(hcell 9 _ rfl).1;have f0':=(hcell 0 _ rfl).2;have f1':=(hcell 1 _ rfl).2;have f2':=(hcell 2 _ rfl).2;have f3':=(hcell 3 _ rfl).2;have f4':=(hcell 4 _ rfl).2;have f5':=(hcell 5 _ rfl).2;have f6':=(hcell 6 _ rfl).2;have f7':=(hcell 7 _ rfl).2;have f8':=(hcell 8 _ rfl).2;have f9':=(hcell 9 _ rfl).2
 try simp only[PW]at y0 f0'
 clear hA hP hw hcell;refine wpAnyH_ready (rs:=[8]) (by kernel_rfl) (by simp) ?_;refine AllReadyH.cons rfl (fun K hK=>?_) AllReadyH.nil
 try simp only[zT,zS,zZ]
 rw[Pk (by kernel_rfl)];refine wp_append_run (.tmp 11) (.tmp 15) 36 36 rfl _ _ rfl rfl hr ?_;refine hK.out _ _ ?_ (fun hHeld=>?_)
 ·exact HSX.out _ HHW.out
 clear hK K
 try simp only[zT,zS,zZ,Act.put,yT,yZ,yS]
 refine zK (i:=9) (v:= .pointer (some ⟨g,tl*10,none⟩)) rfl ?_;simp only[zT,zS,zZ,Act.put,yT,yZ,yS];refine zK (i:=11) (v:=dW b) rfl ?_;simp only[zT,zS,zZ,Act.put,yT,yZ,yS];refine zK (i:=12) (v:= .pointer (some ⟨b,5,none⟩)) rfl ?_;simp only[zT,zS,zZ,Act.put,yT,yZ,yS];refine wpAnyH_ready (rs:=[10,13]) (by kernel_rfl) (by simp) ?_;refine AllReadyH.cons rfl (fun K hK=>?_) (AllReadyH.cons rfl (fun K hK=>?_) AllReadyH.nil)
 ·try simp only[zT,zS,zZ]
  go_simp;refine hK.out _ _ ?_ (fun hHeld=>?_)
  ·exact HSX.out (w'.setCells g (tl*10) [.int .i64 mk,.int .i64 ml,.int .i64 mn,.slice m1 m2 m3,.slice n1 n2 n3,.slice o1 o2 o3,.string ⟨mc.toArray⟩,.slice l1 l2 l3,.bool mb,.bool ma]) ((aC hgw _ _ _).trans HHW.out)
  clear hK K
  try simp only[zT,zS,zZ,Act.put,yT,yZ,yS]
  refine wpAnyH_ready (rs:=[13]) (by kernel_rfl) (by simp) ?_;refine AllReadyH.cons rfl (fun K hK=>?_) AllReadyH.nil
  try simp only[zT,zS,zZ]
  go_simp;refine hK.out _ _ ?_ (fun hHeld=>?_)
  ·exact HSX.out ((w'.setCells g (tl*10) [.int .i64 mk,.int .i64 ml,.int .i64 mn,.slice m1 m2 m3,.slice n1 n2 n3,.slice o1 o2 o3,.string ⟨mc.toArray⟩,.slice l1 l2 l3,.bool mb,.bool ma]).setCell ⟨b,5,none⟩ (.slice (some ⟨g,0,none⟩) (tl+1) c)) ((O8 _ ⟨b,5,none⟩ _ _ hbw).trans ((aC hgw _ _ _).trans HHW.out))
  clear hK K
  try simp only[zT,zS,zZ,Act.put,yT,yZ,yS]
  refine PK (by kernel_rfl) ?_ _;go_wp2_with fail
  go_end0;exact⟨rfl,HFN.out _ HA.out⟩
 ·try simp only[zT,zS,zZ]
  go_simp;refine hK.out _ _ ?_ (fun hHeld=>?_)
  ·exact HSX.out (w'.setCell ⟨b,5,none⟩ (.slice (some ⟨g,0,none⟩) (tl+1) c)) ((O8 _ ⟨b,5,none⟩ _ _ hbw).trans HHW.out)
  clear hK K
  try simp only[zT,zS,zZ,Act.put,yT,yZ,yS]
  refine wpAnyH_ready (rs:=[10]) (by kernel_rfl) (by simp) ?_;refine AllReadyH.cons rfl (fun K hK=>?_) AllReadyH.nil
  try simp only[zT,zS,zZ]
  go_simp;refine hK.out _ _ ?_ (fun hHeld=>?_)
  ·exact HSX.out ((w'.setCell ⟨b,5,none⟩ (.slice (some ⟨g,0,none⟩) (tl+1) c)).setCells g (tl*10) [.int .i64 mk,.int .i64 ml,.int .i64 mn,.slice m1 m2 m3,.slice n1 n2 n3,.slice o1 o2 o3,.string ⟨mc.toArray⟩,.slice l1 l2 l3,.bool mb,.bool ma]) ((aC hgw _ _ _).trans ((O8 _ ⟨b,5,none⟩ _ _ hbw).trans HHW.out))
  clear hK K
  try simp only[zT,zS,zZ,Act.put,yT,yZ,yS]
  refine PK (by kernel_rfl) ?_ _;go_wp2_with fail
  go_end0;refine⟨rfl,HFN.out _ ?_⟩;have q:=HA.out;rw[bT hgb]at q;exact q):P:=h
theorem Gx {m:Bool} {X R S:Nat→Prop} {w:World} {b:Nat} {t:Bt} {x:NV} {y:Nd} (h:BM m X R w b t) (hx:qo S w x y) (hS: ∀k,S k→k<w.heap.size∧ ¬X k) (hb:btl t+nlN y≤80000):
  Calls Tryz.prog 123 #[dW b,.agg (ae x).toArray] w (wT m X R b (pK t y) w):=by
 obtain⟨W1,hW1⟩: ∃W,W=w.alloc (.cells (ae x).toArray 58):=⟨_,rfl⟩;have b1:Below w.heap.size w W1:=by rw[hW1];exact af _ _
 have kx:Blk W1 w.heap.size 58 (ae x):=by rw[hW1];exact O9 w _
 have hlt:=h.lt;have hB1:=h.keep (Kp.below b1 (fun k q=>hlt k (.inl q))) (Kp.below b1 (fun k q=>hlt k (.inr q))) b1.size;have HE:=zH (jQ hB1 (by omega));have hbe:=eP t;have HNX:Hid (∀w2 X1 R1,BM m X1 R1 w2 b (bH t)→Exc X W1 w2→(∀k,X1 k→X k∨W1.heap.size≤k)→(∀k,R1 k→R k∨X k∨W1.heap.size≤k)→
   (∀(i:Nat) u,(ae x)[i]? =some u→w2.cell? ⟨w.heap.size,i,none⟩=some u)∧w.heap.size<w2.heap.size∧
   (∀V,Below w2.heap.size w2 V→Calls Tryz.prog 133 #[.agg (ae x).toArray] V (Eu y V))∧
   ∃oa tl oc,w2.cell? ⟨b,5,none⟩=some (.slice oa tl oc)∧tl≤90000∧b<w2.heap.size∧
    (∀w3 x6,lD w2.heap.size w3 x6 y→Below w2.heap.size w2 w3→Mr m X1 R1 w2 b (bH t) y oa tl oc (fun k=>k=w.heap.size) w3 (w3.alloc (.cells #[.int .i64 0,.int .i64 0,.int .i64 0,.slice none 0 0,.slice none 0 0,.slice none 0 0,.string ⟨#[]⟩,.slice none 0 0,.bool false,.bool false] 58)) x6 ⟨w3.heap.size,0,none⟩)∧
    (∀w3 x6,lD (w2.heap.size+1) w3 x6 y→Below (w2.heap.size+1) (w2.alloc (.cells #[.int .i64 0,.int .i64 0,.int .i64 0,.slice none 0 0,.slice none 0 0,.slice none 0 0,.string ⟨#[]⟩,.slice none 0 0,.bool false,.bool false] 58)).drew w3→Mr m X1 R1 w2 b (bH t) y oa tl oc (fun k=>k=w.heap.size) w3 w3 x6 ⟨w2.heap.size,0,none⟩)):=zH (fun w2 X1 R1 hB hE hX hR=>by
  have hxn: ¬X w.heap.size:=fun q=>by have:=hlt _ (.inl q);omega
  have hx1: ¬X1 w.heap.size:=fun q=>(hX _ q).elim hxn (fun z=>by have:=kx.lt;omega)
  have hbx:b≠w.heap.size:=fun e=>by have:=hlt b (.inl h.self);omega
  have hs1:=b1.size;have hs2:=hE.size;have hk1:=kx.lt;refine⟨fun i u hu=>?_,by omega,fun V hV=>?_,?_⟩
  ·rw[aR (hE.block _ kx.lt hxn),kx.cell i];exact hu
  ·have kS:Kp S w V:=fun k q=>(hV.block k (by have:=(hS k q).1;omega)).trans ((hE.block k (O0 (hS k q).1 b1.size) (hS k q).2).trans (b1.block k (hS k q).1))
   have hsV:=hV.size;exact qP (fK y) y (OW _) (by omega) S x V (hx.keep kS) (fun k q=>by have:=(hS k q).1;omega)
  have hsm:=eO (show btl (bH t)≤90000 by omega);obtain⟨oa,oc,c5,hbl,hP⟩:=hB.pushO (by omega);refine⟨oa,_,oc,c5,hsm.2.1,hbl,fun w3 x6 hc hb3=>?_,fun w3 x6 hc hb3=>?_⟩
  ·obtain⟨g,c,w',p1,p2,p3,p4,p5,p6,p7,p8⟩:=hP w3 _ _ x6 y _ 1 hb3 (OW _) hc (af w3 (.cells #[.int .i64 0,.int .i64 0,.int .i64 0,.slice none 0 0,.slice none 0 0,.slice none 0 0,.string ⟨#[]⟩,.slice none 0 0,.bool false,.bool false] 58)) (NK w3)
   exact⟨g,c,w',p1,p2,p3,p4,p5,fun k e=>⟨(p7 k (by omega) (by rw[e];exact hx1)).1,by omega,(p7 k (by omega) (by rw[e];exact hx1)).2⟩,p8⟩
  ·have hz1:(w2.alloc (.cells #[.int .i64 0,.int .i64 0,.int .i64 0,.slice none 0 0,.slice none 0 0,.slice none 0 0,.string ⟨#[]⟩,.slice none 0 0,.bool false,.bool false] 58)).drew.heap.size=w2.heap.size+1:=Pf _ _
   have hz:=NK w2;have hb3':Below w2.heap.size w2 w3:=(af w2 (.cells #[.int .i64 0,.int .i64 0,.int .i64 0,.slice none 0 0,.slice none 0 0,.slice none 0 0,.string ⟨#[]⟩,.slice none 0 0,.bool false,.bool false] 58)).drew.trans (hb3.mono (by omega));have hzz:Fs 10 ae w3 (.slice (some ⟨w2.heap.size,0,none⟩) 1 1) [zN0]:=Fs.below (w:=(w2.alloc (.cells #[.int .i64 0,.int .i64 0,.int .i64 0,.slice none 0 0,.slice none 0 0,.slice none 0 0,.string ⟨#[]⟩,.slice none 0 0,.bool false,.bool false] 58)).drew) hz (by rw[hz1];exact hb3);obtain⟨g,c,w',p1,p2,p3,p4,p5,p6,p7,p8⟩:=hP w3 w3 _ x6 y _ 1 hb3' (by omega) hc (OX _ _) hzz;exact⟨g,c,w',p1,p2,p3,p4,p5,fun k e=>⟨(p7 k (by omega) (by rw[e];exact hx1)).1,by omega,(p7 k (by omega) (by rw[e];exact hx1)).2⟩,p8⟩)
 have HSZ:Hid (W1.heap.size=w.heap.size+1∧Exc X w W1):=zH ⟨by rw[hW1,Pf],Exc.of b1⟩;obtain⟨xk,xl,xn,⟨t1,t2,t3⟩,⟨k1,k2,k3⟩,⟨r1,r2,r3⟩,xc,⟨q1,q2,q3⟩,xb,xa⟩:=x;simp only[ae,pv]at hW1 HNX ⊢;have HW1:=zH hW1;have hblt:b<W1.heap.size:=hB1.lt b (.inl hB1.self);clear h hx hS hb hW1 b1 kx hlt hB1 hbe;go_enter Tryz.func123,Tryz.ntmps123
 go_upto_region 1 with fail
 rw[←HW1.out];clear HW1;go_wp2_with fail
 refine HE.out.mono ?_;rintro e w2 ⟨rfl,X1,R1,hB,hE,hX,hR⟩;obtain⟨hcl,hwl,hcp,oa,tl,oc,c5,htl,hbl,hPA,hPB⟩:=HNX.out w2 X1 R1 hB hE hX hR;have HFN:Hid (∀F,AfC m X1 R1 b {bH t with opn:=(bH t).opn++ [y] } w2 F→AfC m X R b (pK t y) w F):=zH (fun F hF=>AfC.step (HSZ.out.2.then hE) (fun k q=>(hX k q).imp id (fun z=>by have:=HSZ.out.1;omega)) (fun k q=>(hR k q).imp id (fun z=>z.imp id (fun z=>by have:=HSZ.out.1;omega))) hF);have HCP:=zH hcp;have HPA:=zH hPA;have HPB:=zH hPB;have x0:=hcl 0 _ rfl;have x1:=hcl 1 _ rfl;have x2:=hcl 2 _ rfl;have x3:=hcl 3 _ rfl;have x4:=hcl 4 _ rfl;have x5:=hcl 5 _ rfl;have x6:=hcl 6 _ rfl;have x7:=hcl 7 _ rfl;have x8:=hcl 8 _ rfl;have x9:=hcl 9 _ rfl;have HSX:Hid (∀W:World,W.heap[w.heap.size]? =w2.heap[w.heap.size]? →W.cell? ⟨w.heap.size,0,none⟩=some (.int .i64 xk)∧W.cell? ⟨w.heap.size,1,none⟩=some (.int .i64 xl)∧W.cell? ⟨w.heap.size,2,none⟩=some (.int .i64 xn)∧W.cell? ⟨w.heap.size,3,none⟩=some (.slice t1 t2 t3)∧W.cell? ⟨w.heap.size,4,none⟩=some (.slice k1 k2 k3)∧W.cell? ⟨w.heap.size,5,none⟩=some (.slice r1 r2 r3)∧W.cell? ⟨w.heap.size,6,none⟩=some (.string ⟨xc.toArray⟩)∧W.cell? ⟨w.heap.size,7,none⟩=some (.slice q1 q2 q3)∧W.cell? ⟨w.heap.size,8,none⟩=some (.bool xb)∧W.cell? ⟨w.heap.size,9,none⟩=some (.bool xa)):=zH (fun W e=>⟨(aR e).trans x0,(aR e).trans x1,(aR e).trans x2,(aR e).trans x3,(aR e).trans x4,(aR e).trans x5,(aR e).trans x6,(aR e).trans x7,(aR e).trans x8,(aR e).trans x9⟩);clear hcl hcp hPA hPB hB hE hX hR HE HNX HSZ;have hk0:(0:Int)≤(tl:Int):=by omega
 have hk1:(tl:Int)<(tl:Int)+1:=by omega
 have hk2:(tl:Int)<((tl+1:Nat):Int):=by omega
 have hk3:(tl:Int)≤90000:=by omega
 go_wp2_with fail
 refine wp_region_held_drew (S:=(fun W'=>W'.cell? ⟨w.heap.size,0,none⟩=some (.int .i64 xk)∧W'.cell? ⟨w.heap.size,1,none⟩=some (.int .i64 xl)∧W'.cell? ⟨w.heap.size,2,none⟩=some (.int .i64 xn)∧W'.cell? ⟨w.heap.size,3,none⟩=some (.slice t1 t2 t3)∧W'.cell? ⟨w.heap.size,4,none⟩=some (.slice k1 k2 k3)∧W'.cell? ⟨w.heap.size,5,none⟩=some (.slice r1 r2 r3)∧W'.cell? ⟨w.heap.size,6,none⟩=some (.string ⟨xc.toArray⟩)∧W'.cell? ⟨w.heap.size,7,none⟩=some (.slice q1 q2 q3)∧W'.cell? ⟨w.heap.size,8,none⟩=some (.bool xb)∧W'.cell? ⟨w.heap.size,9,none⟩=some (.bool xa))) (by kernel_rfl) ?_ (fun hHeld=>?_)
 ·exact HSX.out _ rfl
 refine zK (i:=0) (v:=dW b) rfl ?_;simp only[zT,zS,zZ,Act.put,yT,yZ,yS];refine zK (i:=1) (v:=dW b) rfl ?_;simp only[zT,zS,zZ,Act.put,yT,yZ,yS];refine zK (i:=2) (v:= .pointer (some ⟨b,5,none⟩)) rfl ?_;simp only[zT,zS,zZ,Act.put,yT,yZ,yS];refine zK (i:=4) (v:= .agg #[.int .i64 xk,.int .i64 xl,.int .i64 xn,.slice t1 t2 t3,.slice k1 k2 k3,.slice r1 r2 r3,.string ⟨xc.toArray⟩,.slice q1 q2 q3,.bool xb,.bool xa]) rfl ?_;simp only[zT,zS,zZ,Act.put,yT,yZ,yS];refine wpAnyH_ready (rs:=[3,5,7]) (by kernel_rfl) (by simp) ?_;refine AllReadyH.cons rfl (fun K hK=>?_) (AllReadyH.cons rfl (fun K hK=>?_) (AllReadyH.cons rfl (fun K hK=>?_) AllReadyH.nil))
 ·try simp only[zT,zS,zZ]
  go_simp;refine hK.out _ _ ?_ (fun hHeld=>?_)
  ·exact HSX.out _ rfl
  clear hK K
  try simp only[zT,zS,zZ,Act.put,yT,yZ,yS]
  refine zK (i:=6) (v:= .int .i64 (tl:Int)) rfl ?_;simp only[zT,zS,zZ,Act.put,yT,yZ,yS];refine wpAnyH_ready (rs:=[5,7]) (by kernel_rfl) (by simp) ?_;refine AllReadyH.cons rfl (fun K hK=>?_) (AllReadyH.cons rfl (fun K hK=>?_) AllReadyH.nil)
  ·try simp only[zT,zS,zZ]
   go_simp;go_at_call 133
   refine(HCP.out w2.drew (OX w2.heap.size w2).drew).mono ?_;rintro e w3 ⟨x6,rfl,hc6,hb3⟩;have hb3':Below w2.heap.size w2 w3:=(OX w2.heap.size w2).drew.trans hb3;have HB3:Hid (Below w2.heap.size w2 w3):=zH hb3';have HC6:Hid (lD w2.heap.size w3 x6 y):=zH hc6;have c5w:w3.cell? ⟨b,5,none⟩=some (.slice oa tl oc):=aD hb3' c5;have HHX:Hid (w3.heap[w.heap.size]? =w2.heap[w.heap.size]?):=zH (hb3'.block _ hwl);clear hc6 hb3 hb3';obtain⟨mk,ml,mn,⟨m1,m2,m3⟩,⟨n1,n2,n3⟩,⟨o1,o2,o3⟩,mc,⟨l1,l2,l3⟩,mb,ma⟩:=x6;simp only[ae,pv];go_wp2_with fail
   refine hK.out _ _ ?_ (fun hHeld=>?_)
   ·exact HSX.out _ HHX.out
   clear hK K
   try simp only[zT,zS,zZ,Act.put,yT,yZ,yS]
   exact QT8
  ·try simp only[zT,zS,zZ]
   go_simp;refine hK.out _ _ ?_ (fun hHeld=>?_)
   ·exact HSX.out _ (Ql w2 _ hwl)
   clear hK K
   try simp only[zT,zS,zZ,Act.put,yT,yZ,yS]
   exact QT7
 ·try simp only[zT,zS,zZ]
  go_simp;go_at_call 133
  refine(HCP.out w2.drew (OX w2.heap.size w2).drew).mono ?_;rintro e w3 ⟨x6,rfl,hc6,hb3⟩;have hb3':Below w2.heap.size w2 w3:=(OX w2.heap.size w2).drew.trans hb3;have HB3:Hid (Below w2.heap.size w2 w3):=zH hb3';have HC6:Hid (lD w2.heap.size w3 x6 y):=zH hc6;have c5w:w3.cell? ⟨b,5,none⟩=some (.slice oa tl oc):=aD hb3' c5;have HHX:Hid (w3.heap[w.heap.size]? =w2.heap[w.heap.size]?):=zH (hb3'.block _ hwl);clear hc6 hb3 hb3';obtain⟨mk,ml,mn,⟨m1,m2,m3⟩,⟨n1,n2,n3⟩,⟨o1,o2,o3⟩,mc,⟨l1,l2,l3⟩,mb,ma⟩:=x6;simp only[ae,pv];go_wp2_with fail
  refine hK.out _ _ ?_ (fun hHeld=>?_)
  ·exact HSX.out _ HHX.out
  clear hK K
  try simp only[zT,zS,zZ,Act.put,yT,yZ,yS]
  refine wpAnyH_ready (rs:=[3,7]) (by kernel_rfl) (by simp) ?_;refine AllReadyH.cons rfl (fun K hK=>?_) (AllReadyH.cons rfl (fun K hK=>?_) AllReadyH.nil)
  ·try simp only[zT,zS,zZ]
   go_simp;refine hK.out _ _ ?_ (fun hHeld=>?_)
   ·exact HSX.out _ HHX.out
   clear hK K
   try simp only[zT,zS,zZ,Act.put,yT,yZ,yS]
   refine zK (i:=6) (v:= .int .i64 (tl:Int)) rfl ?_;simp only[zT,zS,zZ,Act.put,yT,yZ,yS];exact QT8
  ·try simp only[zT,zS,zZ]
   have HHZ:Hid ((w3.alloc (.cells #[.int .i64 0,.int .i64 0,.int .i64 0,.slice none 0 0,.slice none 0 0,.slice none 0 0,.string ⟨#[]⟩,.slice none 0 0,.bool false,.bool false] 58)).heap[w.heap.size]? =w2.heap[w.heap.size]?):=zH ((Ql w3 _ (O0 hwl HB3.out.size)).trans HHX.out);go_simp;refine hK.out _ _ ?_ (fun hHeld=>?_)
   ·exact HSX.out _ HHZ.out
   clear hK K
   try simp only[zT,zS,zZ,Act.put,yT,yZ,yS]
   refine wpAnyH_ready (rs:=[3]) (by kernel_rfl) (by simp) ?_;refine AllReadyH.cons rfl (fun K hK=>?_) AllReadyH.nil
   try simp only[zT,zS,zZ]
   have c5z:(w3.alloc (.cells #[.int .i64 0,.int .i64 0,.int .i64 0,.slice none 0 0,.slice none 0 0,.slice none 0 0,.string ⟨#[]⟩,.slice none 0 0,.bool false,.bool false] 58)).cell? ⟨b,5,none⟩=some (.slice oa tl oc):=aD (af w3 _) c5w;go_simp;refine hK.out _ _ ?_ (fun hHeld=>?_)
   ·exact HSX.out _ HHZ.out
   clear hK K
   try simp only[zT,zS,zZ,Act.put,yT,yZ,yS]
   refine zK (i:=6) (v:= .int .i64 (tl:Int)) rfl ?_;simp only[zT,zS,zZ,Act.put,yT,yZ,yS];obtain⟨g,c,w',hr,hcell,hgb,e5,f5,hP,hA⟩:=HPA.out w3 _ HC6.out HB3.out;exact QT9
 ·try simp only[zT,zS,zZ]
  go_simp;refine hK.out _ _ ?_ (fun hHeld=>?_)
  ·exact HSX.out _ (Ql w2 _ hwl)
  clear hK K
  try simp only[zT,zS,zZ,Act.put,yT,yZ,yS]
  refine wpAnyH_ready (rs:=[3,5]) (by kernel_rfl) (by simp) ?_;refine AllReadyH.cons rfl (fun K hK=>?_) (AllReadyH.cons rfl (fun K hK=>?_) AllReadyH.nil)
  ·try simp only[zT,zS,zZ]
   have c5z:(w2.alloc (.cells #[.int .i64 0,.int .i64 0,.int .i64 0,.slice none 0 0,.slice none 0 0,.slice none 0 0,.string ⟨#[]⟩,.slice none 0 0,.bool false,.bool false] 58)).cell? ⟨b,5,none⟩=some (.slice oa tl oc):=aD (af w2 _) c5;go_simp;refine hK.out _ _ ?_ (fun hHeld=>?_)
   ·exact HSX.out _ (Ql w2 _ hwl)
   clear hK K
   try simp only[zT,zS,zZ,Act.put,yT,yZ,yS]
   refine zK (i:=6) (v:= .int .i64 (tl:Int)) rfl ?_;simp only[zT,zS,zZ,Act.put,yT,yZ,yS];exact QT7
  ·try simp only[zT,zS,zZ]
   go_simp;go_at_call 133
   refine(HCP.out (w2.alloc (.cells #[.int .i64 0,.int .i64 0,.int .i64 0,.slice none 0 0,.slice none 0 0,.slice none 0 0,.string ⟨#[]⟩,.slice none 0 0,.bool false,.bool false] 58)).drew (af w2 _).drew).mono ?_;rintro e w3 ⟨x6,rfl,hc6,hb3⟩;have hz1:(w2.alloc (.cells #[.int .i64 0,.int .i64 0,.int .i64 0,.slice none 0 0,.slice none 0 0,.slice none 0 0,.string ⟨#[]⟩,.slice none 0 0,.bool false,.bool false] 58)).drew.heap.size=w2.heap.size+1:=Pf _ _;rw[hz1]at hb3 hc6;have HB3:Hid (Below (w2.heap.size+1) (w2.alloc (.cells #[.int .i64 0,.int .i64 0,.int .i64 0,.slice none 0 0,.slice none 0 0,.slice none 0 0,.string ⟨#[]⟩,.slice none 0 0,.bool false,.bool false] 58)).drew w3):=zH hb3;have HC6:Hid (lD (w2.heap.size+1) w3 x6 y):=zH hc6;have hb3':Below w2.heap.size w2 w3:=(af w2 (.cells #[.int .i64 0,.int .i64 0,.int .i64 0,.slice none 0 0,.slice none 0 0,.slice none 0 0,.string ⟨#[]⟩,.slice none 0 0,.bool false,.bool false] 58)).drew.trans (hb3.mono (by omega));have c5w:w3.cell? ⟨b,5,none⟩=some (.slice oa tl oc):=aD hb3' c5;have HHX:Hid (w3.heap[w.heap.size]? =w2.heap[w.heap.size]?):=zH (hb3'.block _ hwl);clear hc6 hb3 hb3';obtain⟨mk,ml,mn,⟨m1,m2,m3⟩,⟨n1,n2,n3⟩,⟨o1,o2,o3⟩,mc,⟨l1,l2,l3⟩,mb,ma⟩:=x6;simp only[ae,pv];go_wp2_with fail
   refine hK.out _ _ ?_ (fun hHeld=>?_)
   ·exact HSX.out _ HHX.out
   clear hK K
   try simp only[zT,zS,zZ,Act.put,yT,yZ,yS]
   refine wpAnyH_ready (rs:=[3]) (by kernel_rfl) (by simp) ?_;refine AllReadyH.cons rfl (fun K hK=>?_) AllReadyH.nil
   try simp only[zT,zS,zZ]
   go_simp;refine hK.out _ _ ?_ (fun hHeld=>?_)
   ·exact HSX.out _ HHX.out
   clear hK K
   try simp only[zT,zS,zZ,Act.put,yT,yZ,yS]
   refine zK (i:=6) (v:= .int .i64 (tl:Int)) rfl ?_;simp only[zT,zS,zZ,Act.put,yT,yZ,yS];obtain⟨g,c,w',hr,hcell,hgb,e5,f5,hP,hA⟩:=HPB.out w3 _ HC6.out HB3.out;exact QT9
end Go.Proofs.YtebabjnngdjceaaGreatDoor
