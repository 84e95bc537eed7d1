/- A text is read as a docu -/
import Derived.Test.YtebabjnngdjceaaGreatDoorVi
import Derived.Test.YtebabjnngdjceaaGreatDoorCi
set_option linter.unusedVariables false
set_option linter.unusedSimpArgs false
set_option maxRecDepth 100000
set_option maxHeartbeats 16000000
namespace Go.Proofs.YtebabjnngdjceaaGreatDoor
open Go.RowKit
section
def noT (_:Int):Prop:=False
theorem OE:CG U8 I9.tab noT:=fun _ _ _ _ h=>h.elim
def toM (r:Row):aR:=⟨r.1,r.2.1,r.2.2.1,r.2.2.2⟩
structure PBo (okl:Int→Prop)(rs:List aR):Prop where
 step:∀(i:Nat) (r:aR),rs[i]? =some r→StepB okl (gF I9 (rs.take i)) r
 n:rs.length≤100000
 ml:∀(i:Nat) (r:aR),rs[i]? =some r→r.mac.length≤100000
 e:StepB okl (gF I9 rs) row0
 e2:∀g0,(gF I9 rs).g=some g0→(gF I9 rs).d.length+(I9.tab g0.1 g0.2).2.length≤400000
 eb:btl (dE I9 rs).b≤30000
abbrev PB (rs:List aR):Prop:=PBo noT rs
theorem uP {okl:Int→Prop}(hTab:CG U8 I9.tab okl){w:World}(hU:U8 w)(hEr:Er w){l:List Row}{v:Value}(hv:Rws w v l)(hP:PBo okl (l.map toM)):Calls Tryz.prog 10 #[v] w (ES w (dE I9 (l.map toM))):=by
 obtain⟨L,hL,hA⟩:=hv;obtain⟨a,c,rfl⟩:=hL.len;refine G7 EK hU hEr hTab hL (by rw[RB];exact hA.1) (fun i x r h1 h2=>?_) hP.step hP.n hP.ml hP.e hP.e2 hP.eb;rw[RH]at h2
 cases hy:l[i]? with
 | none=>rw[hy]at h2;cases h2
 | some y=>
  rw[hy]at h2;obtain rfl:=QL h2;have:=hA.2 i x y h1 hy;exact⟨this.line,this.mac,this.text,this.args⟩
def sU (w:World)(s:Md)(d1:List Dgn)(e:Ending)(w':World):Prop:= ∃(p:PV) (d:Value),e=.returned (.tuple #[qf s.b.nm (pv p),d])∧NsS (fun k=>w.heap.size≤k∧k<w'.heap.size) w' (pv p) (qy s.b)∧Ds w' d (d1++s.d)∧zB w w'
attribute [local go_sem ↓ high] bN in
theorem uY {okl:Int→Prop}(hTab:CG U8 I9.tab okl){w:World}(hU:U8 w)(hEr:Er w)(hMx:Mx w)(t:Txt)(ht:t.length≤40000)(hP:PBo okl ((eG t).1.map toM))(hd:(eG t).2.length+(dE I9 ((eG t).1.map toM)).d.length≤1000000):
  Calls Tryz.prog 17 #[.string ⟨t.toArray⟩] w (sU w (dE I9 ((eG t).1.map toM)) (eG t).2):=by
 obtain⟨W1,hW1⟩:∃W,w.alloc (.cells lI.toArray 38)=W:=⟨_,rfl⟩;have b1:zB w W1:=by rw[←hW1];exact ae w _
 have kd:Blk W1 w.heap.size 38 lI:=by rw[←hW1];exact QD w _
 obtain⟨s,hs⟩:∃s,dE I9 ((eG t).1.map toM)=s:=⟨_,rfl⟩;rw[hs]at hd⊢;have HRD:=zH (J3 t W1 (hMx.below (Qv _) b1) ht);have HPA:Hid (∀V v,zB w V→Rws V v (eG t).1→Calls Tryz.prog 10 #[v] V fun e w'=> ∃p1 p2 p3 d1 d2 d3,e=.returned (.tuple #[.agg #[.string ⟨s.b.nm.a.toArray⟩,.string ⟨s.b.nm.b.toArray⟩,.string ⟨s.b.nm.c.toArray⟩,.string ⟨s.b.nm.d.toArray⟩,.slice p1 p2 p3],.slice d1 d2 d3])∧Hid (NsS (fun k=>V.heap.size≤k∧k<w'.heap.size) w' (.slice p1 p2 p3) (qy s.b)∧Ds w' (.slice d1 d2 d3) s.d∧zB V w')):=zH (fun V v hb hv=>by
  refine(uP hTab (hU.below hb) (hEr.below hb) hv hP).mono ?_;rintro e w' ⟨⟨p1,p2,p3⟩,d,rfl,q1,q2,q3⟩;obtain⟨d1,d3,rfl⟩:=q2.len;rw[hs]at q1 q2⊢;exact⟨p1,p2,p3,d1,_,d3,rfl,zH ⟨q1,q2,q3⟩⟩)
 have HK:=zH (And.intro b1 kd);have HD:=zH hd;have HP0:Hid (w.heap.size<W1.heap.size):=zH kd.lt;simp only[lI]at hW1;clear hU hEr hMx ht hP hd hs b1 kd;go_enter Tryz.func17,Tryz.ntmps17
 go_wp2_with fail
 clear hW1;refine HRD.out.mono ?_;rintro e w2 ⟨vr,vd,rfl,h1,h2,h3,h4⟩;obtain⟨bW,kd⟩:=HK.out;have b2:zB w w2:=bW.trans (h3.mono bW.size);have HPC:=zH (HPA.out w2 vr b2 h1.sl);have HDO:=zH h2;have HB2:=zH (And.intro b2 (And.intro (kd.below h3) h4));obtain⟨ra,rc,rfl⟩:=h1.sl.len;obtain⟨da,dc,rfl⟩:=(ag.sl ax h2).len;obtain⟨ln,hln⟩:∃n,(eG t).1.length=n:=⟨_,rfl⟩;obtain⟨dn,hdn⟩:∃n,(eG t).2.length=n:=⟨_,rfl⟩;rw[hln]at HPC;rw[hdn]at HDO;rw[hln,hdn];clear h1 h2 h3 h4 bW kd b2 HRD HPA HK hln hdn;go_wp2_with fail
 refine HPC.out.mono ?_;rintro e w3 ⟨p1,p2,p3,d1,d2,d3,rfl,H3⟩;obtain⟨W4,hW4⟩:∃W,w3.alloc (.cells #[.string ⟨s.b.nm.a.toArray⟩,.string ⟨s.b.nm.b.toArray⟩,.string ⟨s.b.nm.c.toArray⟩,.string ⟨s.b.nm.d.toArray⟩,.slice p1 p2 p3] 38)=W:=⟨_,rfl⟩;have b4:zB w3 W4:=by rw[←hW4];exact ae w3 _
 have k4:Blk W4 w3.heap.size 38 [.string ⟨s.b.nm.a.toArray⟩,.string ⟨s.b.nm.b.toArray⟩,.string ⟨s.b.nm.c.toArray⟩,.string ⟨s.b.nm.d.toArray⟩,.slice p1 p2 p3]:=by rw[←hW4];exact QD w3 _
 obtain⟨W5,hW5⟩:∃W,W4.drew=W:=⟨_,rfl⟩;have b5:zB W4 W5:=by rw[←hW5];exact(QA _ W4).drew
 have K5:Hid (Blk W5 w3.heap.size 38 [.string ⟨s.b.nm.a.toArray⟩,.string ⟨s.b.nm.b.toArray⟩,.string ⟨s.b.nm.c.toArray⟩,.string ⟨s.b.nm.d.toArray⟩,.slice p1 p2 p3]):=zH (k4.below b5);have HAP:Hid (∃x1 x2 x3 w6,(gU #[.slice da dn dc,.slice d1 d2 d3]).run Tryz.prog W5=.ok (.value (.slice x1 x2 x3)) w6∧Hid (Blk w6 w3.heap.size 38 [.string ⟨s.b.nm.a.toArray⟩,.string ⟨s.b.nm.b.toArray⟩,.string ⟨s.b.nm.c.toArray⟩,.string ⟨s.b.nm.d.toArray⟩,.slice p1 p2 p3])∧
   (∃q,w6.cell? ⟨w.heap.size,0,none⟩=some q)∧(∃q,w6.cell? ⟨w.heap.size,1,none⟩=some q)∧(∃q,w6.cell? ⟨w.heap.size,2,none⟩=some q)∧(∃q,w6.cell? ⟨w.heap.size,3,none⟩=some q)∧(∃q,w6.cell? ⟨w.heap.size,4,none⟩=some q)∧(w6.frozen? ⟨w.heap.size,0,none⟩=false∧w6.frozen? ⟨w.heap.size,1,none⟩=false∧w6.frozen? ⟨w.heap.size,2,none⟩=false∧w6.frozen? ⟨w.heap.size,3,none⟩=false∧w6.frozen? ⟨w.heap.size,4,none⟩=false)∧
   ∃W9,((((w6.setCell ⟨w.heap.size,0,none⟩ (.string ⟨s.b.nm.a.toArray⟩)).setCell ⟨w.heap.size,1,none⟩ (.string ⟨s.b.nm.b.toArray⟩)).setCell ⟨w.heap.size,2,none⟩ (.string ⟨s.b.nm.c.toArray⟩)).setCell ⟨w.heap.size,3,none⟩ (.string ⟨s.b.nm.d.toArray⟩)).setCell ⟨w.heap.size,4,none⟩ (.slice p1 p2 p3)=W9∧(∀(i:Nat) u,(oN s.b.nm (.slice p1 p2 p3))[i]? =some u→W9.cell? ⟨w.heap.size,i,none⟩=some u)∧Hid (Blk W9 w3.heap.size 38 [.string ⟨s.b.nm.a.toArray⟩,.string ⟨s.b.nm.b.toArray⟩,.string ⟨s.b.nm.c.toArray⟩,.string ⟨s.b.nm.d.toArray⟩,.slice p1 p2 p3])∧Hid (sU w s (eG t).2 (.returned (.tuple #[qf s.b.nm (.slice p1 p2 p3),.slice x1 x2 x3])) W9)):=zH (by
  obtain⟨n3,e3,b3⟩:=H3.out;obtain⟨bw,kP,hW12⟩:=HB2.out;have hlw:=HP0.out;have hPw2:w.heap.size<w2.heap.size:=kP.lt;have z2:=bw.size;have z3:=b3.size;have z4:=b4.size;have z5:=b5.size;have b45:=b4.trans (b5.mono z4);have b35:=b3.trans (b45.mono z3);have d5:=(HDO.out.keep b35);obtain⟨x',w6,hr,ho,hg,-⟩:=ic d5 (e3.below b45) (by omega) (HD.out);obtain⟨x1,x3,rfl⟩:=(ag.sl ax ho).len;have hE6:Exc (fun k=>(Value.slice da dn dc).ownBlock=some k) W5 w6:=⟨hg.os,hg.tape,hg.output,hg.size,fun k hk hx=>hg.block k hk (fun e=>hx e.symm)⟩;have hlo:∀k,(Value.slice da dn dc).ownBlock=some k→W1.heap.size≤k∧k<w2.heap.size:=fun k e=>⟨(HDO.out.ty e).1,HDO.out.ltb e⟩
  have k6:=hE6.blk (kP.below b35) (fun e=>by have:=hlo _ e;omega);have kN:=hE6.blk K5.out (fun e=>by have:=hlo _ e;omega);obtain⟨W9,hW9⟩:∃W9,((((w6.setCell ⟨w.heap.size,0,none⟩ (.string ⟨s.b.nm.a.toArray⟩)).setCell ⟨w.heap.size,1,none⟩ (.string ⟨s.b.nm.b.toArray⟩)).setCell ⟨w.heap.size,2,none⟩ (.string ⟨s.b.nm.c.toArray⟩)).setCell ⟨w.heap.size,3,none⟩ (.string ⟨s.b.nm.d.toArray⟩)).setCell ⟨w.heap.size,4,none⟩ (.slice p1 p2 p3)=W9:=⟨_,rfl⟩;have hE9:Exc (fun k=>k=w.heap.size) w6 W9:=by rw[←hW9];exact((((((Exc.refl (fun k=>k=w.heap.size) w6).set 0 _ (fun _=>rfl)).set 1 _ (fun _=>rfl)).set 2 _ (fun _=>rfl)).set 3 _ (fun _=>rfl)).set 4 _ (fun _=>rfl))
  have k9:Blk W9 w.heap.size 38 (oN s.b.nm (.slice p1 p2 p3)):=by rw[←hW9];exact(((((k6.set 0 (.string ⟨s.b.nm.a.toArray⟩)).set 1 (.string ⟨s.b.nm.b.toArray⟩)).set 2 (.string ⟨s.b.nm.c.toArray⟩)).set 3 (.string ⟨s.b.nm.d.toArray⟩)).set 4 (.slice p1 p2 p3))
  have z6:=hE6.size;have z9:=hE9.size;refine⟨x1,_,x3,w6,hr,zH kN,⟨_,k6.cell 0⟩,⟨_,k6.cell 1⟩,⟨_,k6.cell 2⟩,⟨_,k6.cell 3⟩,⟨_,k6.cell 4⟩,⟨k6.frozen (by simp[lI]),k6.frozen (by simp[lI]),k6.frozen (by simp[lI]),k6.frozen (by simp[lI]),k6.frozen (by simp[lI])⟩,W9,hW9,fun i u hu=>by rw[k9.cell i];exact hu,zH (hE9.blk kN (by omega)),zH ⟨(p1,p2,p3),_,rfl,?_,?_,?_⟩⟩
  ·refine(n3.keep (fun k q=>?_)).mono (fun k q=>⟨by omega,by omega⟩)
   have e1:W5.heap[k]? =w3.heap[k]? :=b45.block k (by omega);have e2:w6.heap[k]? =W5.heap[k]? :=hE6.block k (by omega) (fun e=>by have:=hlo _ e;omega);have e3:W9.heap[k]? =w6.heap[k]? :=hE9.block k (by omega) (by omega);rw[e3,e2,e1]
  ·exact ag.sl ax (ho.kp (fun k e=>hE9.block k (ho.ltb e) (fun q=>by have:=(ho.ty e).1;omega)))
  ·exact((bw.trans (b35.mono z2)).trans (hE6.below (by omega) (fun k hk e=>by have:=hlo _ e;omega))).trans (hE9.below (by omega) (fun k hk e=>by omega)))
 have HW4:=zH hW4;have HW5:=zH hW5;clear HPC HDO HB2 hW4 hW5 b4 k4 b5 H3 HP0 HD;go_upto_region 3 with fail
 rw[HW4.out];clear HW4;obtain⟨x1,x2,x3,w6,hr,K6,⟨q0,c0⟩,⟨q1,c1⟩,⟨q2,c2⟩,⟨q3,c3⟩,⟨q4,c4⟩,⟨f0,f1,f2,f3,f4⟩,W9,hW9,hcc,K9,HFIN⟩:=HAP.out;clear HAP;refine wp_region_held_drew (S:=(fun V=>Blk V w3.heap.size 38 [.string ⟨s.b.nm.a.toArray⟩,.string ⟨s.b.nm.b.toArray⟩,.string ⟨s.b.nm.c.toArray⟩,.string ⟨s.b.nm.d.toArray⟩,.slice p1 p2 p3])) (by kernel_rfl) ?_ (fun hHeld=>?_)
 ·exact(by rw[HW5.out];exact K5.out)
 rw[HW5.out]at hHeld⊢;refine Rp (i:=0) (v:= .agg #[.string ⟨s.b.nm.a.toArray⟩,.string ⟨s.b.nm.b.toArray⟩,.string ⟨s.b.nm.c.toArray⟩,.string ⟨s.b.nm.d.toArray⟩,.slice p1 p2 p3]) rfl (by kernel_rfl) (by kernel_rfl) (by kernel_rfl) (fun _ _ _ h=>h) (Or.inl ⟨by rfl,fun w' hSw=>by(try dsimp only at hSw);have q0:=hSw.cell 0;have q1:=hSw.cell 1;have q2:=hSw.cell 2;have q3:=hSw.cell 3;have q4:=hSw.cell 4;simp only[Qy,Qz]at q0 q1 q2 q3 q4;clear hSw;go_simp⟩) (by assumption) ?_;simp only[zA,Act.put];refine zK (i:=1) (v:= .slice da dn dc) rfl ?_;simp only[zA,Act.put];refine zK (i:=2) (v:= .slice d1 d2 d3) rfl ?_;simp only[zA,Act.put];refine wpAnyH_ready (rs:=[3]) (by kernel_rfl) (by simp) ?_;refine AllReadyH.cons rfl (fun K hK=>?_) AllReadyH.nil
 try simp only[zG]
 rw[QP (by kernel_rfl)];refine wp_append_run (.tmp 19) (.tmp 20) 29 29 rfl _ _ rfl rfl (nR hr) ?_;refine hK.out _ _ ?_ (fun hHeld=>?_)
 ·exact K6.out
 clear hK K
 try simp only[zA,Act.put]
 refine wpAnyH_ready (rs:=[4]) (by kernel_rfl) (by simp) ?_;refine AllReadyH.cons rfl (fun K hK=>?_) AllReadyH.nil
 try simp only[zG]
 go_simp;refine hK.out _ _ ?_ (fun hHeld=>?_)
 ·exact K9.out
 clear hK K
 try simp only[zA,Act.put]
 have y0:=hcc 0 _ rfl;have y1:=hcc 1 _ rfl;have y2:=hcc 2 _ rfl;have y3:=hcc 3 _ rfl;have y4:=hcc 4 _ rfl;refine zK (i:=5) (v:= .slice x1 x2 x3) rfl ?_;simp only[zA,Act.put];refine Q0 (by kernel_rfl) ?_ _;go_wp2_with fail
 try rw[RG]
 refine Rb (v:= .tuple #[.agg #[.string ⟨s.b.nm.a.toArray⟩,.string ⟨s.b.nm.b.toArray⟩,.string ⟨s.b.nm.c.toArray⟩,.string ⟨s.b.nm.d.toArray⟩,.slice p1 p2 p3],.slice x1 x2 x3]) (by simp[results,Tryz.results17,go_sem,y0,y1,y2,y3,y4]) rfl ?_;exact HFIN.out
theorem Hq {w:World}(hU:U8 w)(hEr:Er w)(hMx:Mx w)(t:Txt)(ht:t.length≤40000)(hP:PB ((eG t).1.map toM))(hd:(eG t).2.length+(dE I9 ((eG t).1.map toM)).d.length≤1000000):
  Calls Tryz.prog 17 #[.string ⟨t.toArray⟩] w (sU w (dE I9 ((eG t).1.map toM)) (eG t).2):=uY OE hU hEr hMx t ht hP hd
end
def rwt (r:aR):Nat:=2*(r.text.length+lnT r.args)+30
def nS (l:List aR):Nat:=(l.map rwt).sum
def vlM (s:Md):Nat:=match s.v with
 | some v=>v.2.length+lens v.2
 | none=>0
structure WtM (s:Md)(W:Nat):Prop where
 g:s.g=none
 b:btl s.b+vlM s≤W
 d:s.d.length≤W
theorem M0 (s:Md)(k ln n:Int)(g:List Gly):btl (dw s (cO k ln n g)).b≤btl s.b+g.length+6∧(dw s (cO k ln n g)).d.length≤s.d.length+1∧(dw s (cO k ln n g)).v=s.v∧(dw s (cO k ln n g)).g=s.g:=by
 unfold dw
 split
 ·exact⟨by simp[aD];omega,by simp[aD],rfl,rfl⟩
 ·have:=LD s.b (.mk (cO k ln n g) [])
  rw[Ej]at this;exact⟨by simp only;omega,SA _,rfl,rfl⟩
theorem Ak (L:List Txt):(dD 0 L).2.length≤lnT L:=by rw[jy];unfold dH;have:=(fB 0 L ([],[])).2;simpa using this
theorem oV {s:Md}(h:s.v=none):vlM s=0:=by unfold vlM;rw[h]
theorem WtM.of {s:Md}{W:Nat}(hg:s.g=none)(hv:s.v=none)(hb:btl s.b≤W)(hd:s.d.length≤W):WtM s W:=⟨hg,by rw[oV hv];exact hb,hd⟩
theorem WtM.opn {s:Md}{W:Nat}{k ln n:Int}{g:List Gly}(hg:s.g=none)(hv:s.v=none)(hb:btl s.b+g.length+6≤W)(hd:s.d.length+1≤W):WtM (dw s (cO k ln n g)) W:=by
 obtain⟨o1,o2,o3,o4⟩:=M0 s k ln n g;exact WtM.of (o4.trans hg) (o3.trans hv) (by omega) (by omega)
theorem WtM.step {s:Md}{W:Nat}(h:WtM s W){r:aR}(hl:fV r)(hts:r.mac≠ [84,83]):WtM (kZ I9 s r) (W+rwt r):=by
 obtain⟨hg,hb,hd⟩:=h;unfold rwt;unfold kZ;rw[hg];dsimp only
 cases hi:I9.inl r with
 | some q=>
  obtain⟨l1,l2⟩:=BR hl (show gP r=some q from hi);have l3:(s.d++bJ r.line q.2).length=s.d.length+q.2.length:=by rw[QE,kG]
  dsimp only
  split
  ·refine⟨hg,?_,?_⟩
   ·show btl s.b+vlM s≤_;omega
   ·simp only[aD,QE,QC,QH];omega
  ·unfold FV
   dsimp only
   cases hv:s.v with
   | some v=>
    unfold vlM at hb;rw[hv]at hb;dsimp only at hb⊢;refine⟨rfl,?_,?_⟩
    ·unfold vlM
     have e1:lens [q.1]=q.1.length:=by simp[lens]
     simp only[QE,fT,QC,QH,e1];omega
    ·dsimp only;omega
   | none=>
    have hvn:=oV hv;dsimp only
    cases hw:s.w with
    | some w=>
     dsimp only;exact WtM.opn rfl rfl (by dsimp only;omega) (by dsimp only;omega)
    | none=>
     dsimp only
     split
     ·have:=eO s.b
      exact WtM.of rfl rfl (by dsimp only;omega) (by dsimp only;omega)
     ·have:=LC s.b q.1 r.line
      exact WtM.of rfl rfl (by dsimp only;omega) (by dsimp only;omega)
 | none=>
  dsimp only
  cases hv:s.v with
  | some v=>
   unfold vlM at hb;rw[hv]at hb;dsimp only at hb⊢
   split
   ·have:=qx s.b (.mk ⟨6,v.1,0,[],v.2,bS⟩ [])
    rw[sG]at this;exact WtM.of hg rfl (by dsimp only[qd];omega) (by dsimp only[qd];omega)
   ·refine⟨hg,?_,by simp only[aD,QE,QC,QH];omega⟩
    unfold vlM;simp only[aD,hv];omega
  | none=>
   dsimp only;obtain⟨u1,u2,u3,u4,u5,u6⟩:=fC s;have hvn:=oV hv;have hv1:=u2.trans hv;have hg1:=u3.trans hg;rw[FI I9 r hv1 hg1];have hbu:btl (upM s).b≤W:=by rw[u1];omega
   obtain⟨S,hS⟩:∃S,upM s=S:=⟨_,rfl⟩;rw[hS]at hbu hv1 hg1 u6⊢;clear u1 u2 u3 u4 u5 hS;have ht:∀k,WtM (aD S k r.line) (W+(2*(r.text.length+lnT r.args)+30)):=fun k=>WtM.of hg1 hv1 (by dsimp only[aD];omega) (by simp only[aD,QE,QC,QH];omega)
   cases hk:jJ r.mac with
   | none=>exact ht 4
   | some m=>
    have hw1:=oU r.args;have hw2:=Ak r.args;have hw3:=oU (r.args.take 1);have hw4:=Ak (r.args.take 1);have hw5:=xP r.args;have hkd:kdM S=0:=by unfold kdM;rw[hv1,hg1]
    dsimp only
    cases m with
    | ti=>
     dsimp only[doS,MF]
     split
     ·exact ht 13
     ·exact WtM.of hg1 hv1 (by show btl S.b≤_;omega) (by dsimp only;omega)
    | he k K=>
     dsimp only[doS,BS];have h1:=kH S.b K
     split
     ·exact WtM.of hg1 hv1 (by dsimp only;omega) (by dsimp only;omega)
     ·refine WtM.opn (s:=(CK I9 {S with b:=aM S.b K} r r.args).1) hg1 hv1 ?_ ?_
      ·show btl (aM S.b K)+(dD 0 r.args).1.length+6≤_;omega
      ·show(S.d++bJ r.line (dD 0 r.args).2).length+1≤_
       rw[QE,kG];omega
    | pa=>
     have h1:=kH S.b [4];exact WtM.of hg1 hv1 (by dsimp only[doS];omega) (by dsimp only[doS];omega)
    | tg=>
     have h1:=kH S.b [4];obtain⟨kv,kg,kw,kb,kt,kd⟩:=gG {S with b:=aM S.b [4] } r 0;show WtM ({(aN {S with b:=aM S.b [4] } r 0).1 with w:=some ⟨4,r.line,(aN {S with b:=aM S.b [4] } r 0).2⟩ }) _;exact WtM.of (kg.trans hg1) (kv.trans hv1) (by dsimp only;rw[kb];dsimp only;omega) (by dsimp only at kd⊢;omega)
    | it=>
     have h1:=kH S.b [4];obtain⟨kv,kg,kw,kb,kt,kd⟩:=gG {S with b:=aM S.b [4],d:=S.d++bJ r.line (dD 0 (r.args.take 1)).2} r 1;simp only[QE,kG]at kd;show WtM (dw (aN {S with b:=aM S.b [4],d:=S.d++bJ r.line (dD 0 (r.args.take 1)).2} r 1).1 (cO 4 r.line (aN {S with b:=aM S.b [4],d:=S.d++bJ r.line (dD 0 (r.args.take 1)).2} r 1).2 (dD 0 (r.args.take 1)).1)) _;exact WtM.opn (kg.trans hg1) (kv.trans hv1) (by rw[kb];dsimp only;omega) (by omega)
    | nd=>
     obtain⟨kv,kg,kw,kb,kt,kd⟩:=gG S r 0;dsimp only[doS];exact WtM.opn (kg.trans hg1) (kv.trans hv1) (by rw[kb];simp only[QH];omega) (by omega)
    | ou=>
     have h1:=I6 S.b 5;dsimp only[doS]
     split
     ·exact WtM.of hg1 hv1 (by dsimp only;omega) (by dsimp only;omega)
     ·exact WtM.of hg1 hv1 (by dsimp only[aD];omega) (by simp only[aD,QE,QC,QH];omega)
    | be k=>
     have h1:=eO S.b;obtain⟨m1,m2,m3⟩:=vv hk;dsimp only[doS,jr];rcases m1 k rfl with rfl | rfl
     ·rw[QP rfl]
      refine⟨hg1,?_,by dsimp only;omega⟩;unfold vlM;have e1:lens ([]:List (List Gly))=0:=by simp[lens]
      simp only[e1,QH];omega
     ·exfalso
      refine hts ?_
      by_cases c:r.mac∈dK.map Prod.fst
      ·simp only[dK,Q5,Ru,Q8,Rn,Sw]at c
       rcases c with q | q | q | q | q | q | q | q | q | q | q | q | q | q | q | q
       all_goals first
        | exact q
        | (rw[q]at hk;simp[jJ,dK]at hk)
      ·rw[qO c]at hk;cases hk
    | en k=>
     obtain⟨m1,m2,m3⟩:=vv hk;have e:doS I9 S r (.en k)=if kdM S=k then(match S.v with
      | some v=>qd S v
      | none=>match S.g with
       | some g=>endG I9 S g
       | none=>S) else aD S 6 r.line:=rfl
     rw[e,QG (by rw[hkd];exact fun e=>m3 k rfl e.symm)];exact ht 6
theorem WtM.rows:∀{l:List aR} {s:Md} {W:Nat},WtM s W→(∀r∈l,fV r)→(∀r∈l,r.mac≠ [84,83])→WtM (l.foldl (kZ I9) s) (W+nS l)
 | [],s,W,h,_,_=>by simpa[nS] using h
 | r::l,s,W,h,h1,h2=>by
  have:=WtM.rows (l:=l) (h.step (h1 r RO) (h2 r RO)) (fun x hx=>h1 x (RJ _ hx)) (fun x hx=>h2 x (RJ _ hx));simp only[Td,nS,Q5,Sb]at this⊢;rw[←Nat.add_assoc];exact this
theorem om:WtM md0 10:=by refine⟨rfl,?_,by decide⟩;decide+kernel
theorem GM (l:List aR){i:Nat}{r:aR}(h:l[i]? =some r):nS (l.take i)+rwt r≤nS l:=by
 have hi:i<l.length:=(Qu.1 h).1;have e:l=l.take i++r::l.drop (i+1):=by
  have h2:l[i]=r:=(Qu.1 h).2;rw[←h2,←Rl hi,Rs]
 have:nS l=nS (l.take i)+(rwt r+nS (l.drop (i+1))):=by
  conv=>lhs;rw[e]
  simp[nS]
 omega
theorem AR:∀l:List aR,l.length≤nS l
 | []=>by simp[nS]
 | r::l=>by
  have h1:=AR l;have h2:nS (r::l)=rwt r+nS l:=by simp[nS]
  have h3:30≤rwt r:=by unfold rwt;omega
  rw[h2,QC];omega
theorem WtM.stepB {okl:Int→Prop}{s:Md}{W:Nat}(h:WtM s W){r:aR}(hl:fV r)(hW:W+rwt r≤29500):StepB okl s r:=by
 obtain⟨hg,hb,hd⟩:=h;unfold rwt at hW;refine⟨hl,by omega,by omega,?_,by unfold txM;rw[hg];simp,fun v0 hv=>?_,fun g0 hg0=>by rw[hg]at hg0;cases hg0⟩
 ·unfold rwM
  unfold vlM at hb
  cases hv:s.v with
  | none=>simp
  | some v=>rw[hv]at hb;dsimp only at hb⊢;omega
 ·unfold vlM at hb
  rw[hv]at hb;dsimp only at hb;omega
theorem Fh:fV row0:=⟨by simp[row0],by simp[row0,lnT],by simp[row0]⟩
theorem LF {rs:List aR}(hle:∀r∈rs,fV r)(hts:∀r∈rs,r.mac≠ [84,83]):btl (dE I9 rs).b≤nS rs+20:=by
 have hW:=WtM.rows om hle hts;have hr:gF I9 rs=rs.foldl (kZ I9) md0:=rfl;unfold dE Ev;rw[hr];obtain⟨s,hs⟩:∃s,rs.foldl (kZ I9) md0=s:=⟨_,rfl⟩;rw[hs]at hW⊢;obtain⟨hg,hb,hd⟩:=hW;obtain⟨u1,u2,u3,u4,u5,u6⟩:=fC s;have e1:r9 I9 (upM s)=upM s:=by unfold r9;rw[u3,hg]
 rw[e1];have ht:∀q:Md,(vK q).b=q.b:=fun q=>by unfold vK;split<;>rfl
 rw[ht];unfold Ca;rw[u2];unfold vlM at hb
 cases hv:s.v with
 | none=>dsimp only;rw[u1];rw[hv]at hb;dsimp only at hb;omega
 | some v=>
  rw[hv]at hb;dsimp only[qd,aD]at hb⊢;have:=qx (upM s).b (.mk ⟨6,v.1,0,[],v.2,bS⟩ []);rw[sG,u1]at this;rw[u1];omega
theorem MX {rs:List aR}(hle:∀r∈rs,fV r)(hts:∀r∈rs,r.mac≠ [84,83])(hml:∀r∈rs,r.mac.length≤100000)(hw:nS rs≤29000):PB rs:=by
 have hW:=WtM.rows om hle hts;have hr:gF I9 rs=rs.foldl (kZ I9) md0:=rfl;refine⟨fun i r hi=>?_,by have:=AR rs;omega,fun i r hi=>hml r (Ro hi),?_,fun g0 hg=>?_,?_⟩
 ·have h1:=WtM.rows (l:=rs.take i) om (fun x hx=>hle x (R7 hx)) (fun x hx=>hts x (R7 hx))
  have h2:=GM rs hi;exact h1.stepB (hle r (Ro hi)) (by omega)
 ·rw[hr]
  exact hW.stepB Fh (by unfold rwt row0;simp[lnT];omega)
 ·rw[hr,hW.g]at hg
  cases hg
 ·have:=LF hle hts
  omega
def knR:List aR:=[⟨1,[83,72],[[65]],[]⟩,⟨2,[],[],[98]⟩]
def knT:Txt:=[46,83,72,32,65,10,98,10]
theorem pY:(eG knT).1.map toM=knR∧(eG knT).2=[]:=by
 constructor<;>rfl
theorem PX:(dE I9 knR).d=[(12,0,0)]:=by decide+kernel
theorem OZ:qy (dE I9 knR).b=[.mk ⟨1,1,0,[(65,0)],[],bS⟩ [.mk ⟨3,2,0,[(98,0)],[],bS⟩ []]]:=by kernel_rfl
theorem PW:PB knR:=MX (by
 intro r hr;simp only[knR,Q8,Rn,Sw]at hr;rcases hr with rfl | rfl
 ·exact⟨by simp,by simp[lnT],by simp⟩
 ·exact⟨by simp,by simp[lnT],by simp⟩) (by
 intro r hr;simp only[knR,Q8,Rn,Sw]at hr;rcases hr with rfl | rfl<;>simp) (by
 intro r hr;simp only[knR,Q8,Rn,Sw]at hr;rcases hr with rfl | rfl<;>simp) (by decide+kernel)
theorem oO:∀(l:List Txt) (ln:Int) (cols:Txt) (d:List Dgn),cols.length≤20→(eH l ln cols d).1.length≤20
 | [],ln,cols,d,h=>h
 | s::r,ln,cols,d,h=>by
  have h2:(if(aU s).1=[] then cols else(aU s).1.take 20).length≤20:=by
   split
   ·exact h
   ·rw[QN];omega
  unfold eH;simp only
  split
  ·exact h2
  ·exact oO r _ _ _ h2
theorem FJ (line:Int)(L:List Txt):dz line L=((dI line L).bx,(dI line L).al,(dI line L).d,L.drop (dI line L).k,line+(dI line L).k)∧(dI line L).k≤L.length∧(dI line L).d.length≤1+2*(dI line L).k∧(dI line L).rows=[]:=by
 cases L with
 | nil=>exact⟨by simp[dz,dI,s00],Qv _,QR _,rfl⟩
 | cons x r=>
  unfold dz dI
  by_cases h:dV x 59
  ·simp only[QP h]
   refine⟨by simp[RS.lk,s00],by simp[RS.lk],?_,rfl⟩;simp only[RS.lk,s00,Rc]
   split<;>simp
  ·simp only[QG h]
   exact⟨by simp[s00],QR _,QR _,rfl⟩
theorem oD (lg:Lgf)(nc n:Nat)(ln:Int)(rs:List bV)(d:List Dgn):fP lg nc n [] ln rs d=(rs,d):=by cases n<;>rfl
def JW (L:List Txt)(line:Int)(s:RS)(x:Txt):RS:=
 let q:=rowP lgF s.cols.length x (L.drop (s.k+1)) (line+s.k)
 {k:=max (s.k+1) (L.length-q.2.2.2.length),cols:=s.cols,rows:=s.rows++ [q.1],bx:=s.bx,al:=s.al,d:=s.d++q.2.1}
theorem wC.eq9 {L:List Txt}{line:Int}{x:Txt}{s s':RS}(h:wC L line x s.next s'):s'=JW L line s x:=by
 have h1:=h.k0;have h2:=h.kl;have h3:=h.rest;have h4:=h.rows;have h5:=h.d;rw[sH]at h3 h4 h5;have h6:=QI List.length h3;rw[QM]at h6;obtain⟨k,cols,rows,bx,al,d⟩:=s';have e1:cols=s.cols:=h.cols;have e2:bx=s.bx:=h.bx;have e3:al=s.al:=h.al;simp only at h1 h2 h3 h4 h5 h6;subst e1 e2 e3 h4 h5;unfold JW;simp only[RS.mk.injEq,and_true,true_and];refine⟨?_,rfl,rfl⟩;show k=max (s.k+1) (L.length-(rowP lgF s.cols.length x (L.drop (s.k+1)) (line+s.k)).2.2.2.length);have e:(rowP lgF s.cols.length x (L.drop (s.k+1)) (line+s.k)).2.2.2.length=L.length-k:=h6.symm;have h1':s.k+1≤k:=h1;rw[e];omega
structure PaK (L:List Txt)(line:Int)(sC:RS)(T:List bV×List Dgn)(s:RS):Prop where
 kl:s.k≤L.length
 dl:s.d.length+2*lnT (L.drop s.k)≤sC.d.length+2*lnT (L.drop sC.k)
 rl:s.rows.length≤s.k
 cols:s.cols=sC.cols
 bx:s.bx=sC.bx
 al:s.al=sC.al
 inv:∃n,(L.drop s.k).length≤n∧fP lgF sC.cols.length n (L.drop s.k) (line+s.k) s.rows s.d=T
theorem PaK.step {L:List Txt}{line:Int}{sC s s':RS}{T:List bV×List Dgn}{x:Txt}(h:PaK L line sC T s)(hx:L[s.k]? =some x)(hE:wC L line x s.next s'):PaK L line sC T s':=by
 have h1:=h.dl;have h2:=hE.dl;have hd:=BO hx;have e1:lnT (L.drop s.next.k)=lnT (L.drop (s.k+1)):=rfl;have e2:s.next.d.length=s.d.length:=rfl;have e3:s.k+1≤s'.k:=hE.k0;rw[e1,e2]at h2;have h3:lnT (L.drop s'.k)≤lnT (L.drop (s.k+1)):=by
  have h:=gH (L.drop (s.k+1)) (s'.k-(s.k+1));rw[TE]at h
  rwa [show s.k+1+(s'.k-(s.k+1))=s'.k by omega]at h
 have h4:=hE.rows;have h5:=hE.d;have h6:=hE.rest;have h7:=hE.ln;rw[sH]at h4 h5 h6 h7;have e4:s.next.rows=s.rows:=rfl;have e5:s.next.d=s.d:=rfl;have e6:s.next.cols=s.cols:=rfl;have e7:L.drop s.next.k=L.drop (s.k+1):=rfl;rw[e4,e6,e7,h.cols]at h4;rw[e5,e6,e7,h.cols]at h5;rw[e6,e7,h.cols]at h6 h7;have h8:=h.rl;obtain⟨n,q1,q2⟩:=h.inv;rw[fE hx]at q1 q2;refine⟨hE.kl,by omega,by rw[h4];simp;omega,hE.cols.trans h.cols,hE.bx.trans h.bx,hE.al.trans h.al,?_⟩
 cases n with
 | zero=>simp at q1
 | succ n=>
  refine⟨n,?_,?_⟩
  ·simp only[QC,QM]at q1⊢
   omega
  ·rw[←q2]
   show _=fP lgF sC.cols.length n _ _ _ _;rw[h4,h5,←h6];rcases h7 with h7 | h7
   ·rw[h7,oD,oD]
   ·rw[h7,show line+(s'.k:Int)-1+1=line+s'.k by omega]
theorem PaK.fin {L:List Txt}{line:Int}{sC s:RS}{T:List bV×List Dgn}(h:PaK L line sC T s)(hk:s.k=L.length):T=(s.rows,s.d):=by
 obtain⟨n,q1,q2⟩:=h.inv;rw[hk,Sz,oD]at q2;exact q2.symm
theorem G6 {L:List Txt}{line:Int}{sC s:RS}(hC:CoE L line (dI line L) (eH (L.drop (dI line L).k) (line+(dI line L).k) [] (dI line L).d) sC)
  (hT:(fP lgF sC.cols.length (L.drop sC.k).length (L.drop sC.k) (line+sC.k) [] sC.d)=(s.rows,s.d)) (h1:s.cols=sC.cols) (h2:s.bx=sC.bx) (h3:s.al=sC.al):
  iF lgF line L=(mend ⟨s.cols,s.rows,s.bx,s.al⟩,s.d):=by
 obtain⟨p1,p2,p3,p4⟩:=FJ line L;unfold iF;rw[p1];simp only;have c1:=hC.cols;have c2:=hC.d;have c3:=hC.rest;have c4:=hC.ln;rw[←c1,←c2,←c3,c4,hT,h1,h2,h3,hC.bx,hC.al]
theorem Bi {L:List Txt}{line:Int}{sC s:RS}(hT:(fP lgF sC.cols.length (L.drop sC.k).length (L.drop sC.k) (line+sC.k) [] sC.d)=(s.rows,s.d)):bM s.rows≤2*lnT L:=by
 have h:=oC (lg:=lgF) (fun s=>(jF s).1) sC.cols.length (L.drop sC.k).length (L.drop sC.k) (line+sC.k) [] sC.d;rw[hT]at h;have h2:=gH L sC.k;have h3:=iL (L.drop sC.k);simp only[bM,Ru,Tw]at h⊢;omega
theorem gB.low9 {base base':Nat}{W:World}{v:Value}{l:List bV}(h:gB base W v l)(hb:base'≤base):gB base' W v l:=by
 obtain⟨L,S,hL,hl,hS,hE⟩:=h.own;exact⟨⟨L,S,ag.mono hL hb,hl,fun b q=>⟨QO hb (hS b q).1,(hS b q).2⟩,hE⟩⟩
structure PaM (w:World)(B C C2 R:Nat)(line:Int)(vl:Value)(s:RS)(W:World):Prop where
 ri:RI w B line vl s W
 b1:Blk W C 183 [.pointer (some ⟨B,0,none⟩)]
 b2:Blk W C2 183 [.pointer (some ⟨B,0,none⟩)]
 res:Blk W R 56 [.string ⟨#[]⟩,.slice none 0 0,.bool false,.bool false]
section
variable {w:World}{B C C2 R:Nat}{line:Int}{vl:Value}{s s':RS}{A A':World}
theorem PaM.go (h:PaM w B C C2 R line vl s A)(hr:RI w B line vl s' A')(hf:FrW A A'):PaM w B C C2 R line vl s' A':=
 ⟨hr,hf.blk h.b1 (by decide) (by decide) (by decide),hf.blk h.b2 (by decide) (by decide) (by decide),hf.blk h.res (by decide) (by decide) (by decide)⟩
theorem PaM.keep (h:PaM w B C C2 R line vl s A)(hb:zB A A'):PaM w B C C2 R line vl s A':=h.go (h.ri.keep hb) (FrR.below hb).w
theorem PaM.fr0 {B':Nat}(h1:w.heap.size≤B'):Fr0 B' (PaM w B C C2 R line vl s):=fun A A' row h hg hr=>
 ⟨RI.fr0 h1 A A' row h.ri hg hr,Blk.fr0 A A' row h.b1 hg hr,Blk.fr0 A A' row h.b2 hg hr,Blk.fr0 A A' row h.res hg hr⟩
end
structure PaF (w:World)(v vd:Value)(rows:List bV)(d:List Dgn)(W:World):Prop where
 bel:zB w W
 rows:gB w.heap.size W v rows
 d:bK w.heap.size W vd d
theorem PaF.fr0 {w:World}{v vd:Value}{rows:List bV}{d:List Dgn}{B':Nat}(hB:w.heap.size≤B'):Fr0 B' (PaF w v vd rows d):=fun A A' row h hg hr=>
 ⟨h.bel.grown hg h.bel.size (fun k e=>QO hB (hr k e).1),h.rows.sam (aH.others hg hr) (aH.others hg hr) (aH.others hg hr),h.d.sam (aH.others hg hr)⟩
theorem PaF.set {w W:World}{v vd:Value}{rows:List bV}{d:List Dgn}{R:Nat}{L:List Value}(h:PaF w v vd rows d W)(hR:w.heap.size≤R)(hb:Blk W R 56 L)(j:Nat)(x:Value):PaF w v vd rows d (W.setCell ⟨R,j,none⟩ x):=
 ⟨h.bel.setCell (p:=⟨R,j,none⟩) hR _,h.rows.sam (aH.set hb (by decide) _ _) (aH.set hb (by decide) _ _) (aH.set hb (by decide) _ _),h.d.sam (aH.set hb (by decide) _ _)⟩
section
attribute [local go_sem] R6
theorem G8 (line:Int)(L:List Txt)(a0:Option Addr)(c0:Nat)(w:World)(h0:0≤line)(h1:line≤100000)(hU:U8 w)(hS:Ss w (.slice a0 L.length c0) L)(hl:lnT L≤40000)(hL:∀s∈L,s.length≤2000):
  CallsIn Fence.wide 9 Tryz.prog 93 #[.int .i64 line,.slice a0 L.length c0] w fun e W'=> ∃(r:PV) (vd:Value),e=.returned (.tuple #[ug (iF lgF line L).1 r,vd])∧PaF w (pv r) vd (iF lgF line L).1.rows (iF lgF line L).2 W':=by
 have hn:L.length≤40000:=by have:=iL L;omega
 obtain⟨PP,hPP⟩:∃PP,iF lgF line L=PP:=⟨_,rfl⟩;rw[hPP];obtain⟨pS1,pS2,pS3,pS4⟩:=FJ line L;obtain⟨U1,hU1⟩:∃U1,w.alloc (.cells #[.string ⟨#[]⟩,.slice none 0 0,.bool false,.bool false] 56)=U1:=⟨_,rfl⟩;obtain⟨U2,hU2⟩:∃U2,U1.alloc (.cells #[.int .i64 line,.slice a0 L.length c0,.int .i64 0,.string ⟨#[]⟩,.slice none 0 0,.bool false,.bool false,.slice none 0 0] 185)=U2:=⟨_,rfl⟩;obtain⟨U3,hU3⟩:∃U3,U2.alloc (.cells #[.pointer (some ⟨w.heap.size+1,0,none⟩)] 183)=U3:=⟨_,rfl⟩;have z1:U1.heap.size=w.heap.size+1:=by rw[←hU1];simp
 have z2:U2.heap.size=w.heap.size+2:=by rw[←hU2];simp[z1]
 have z3:U3.heap.size=w.heap.size+3:=by rw[←hU3];simp[z2]
 have b1:zB w U1:=by rw[←hU1];exact ae w _
 have b2:zB U1 U2:=by rw[←hU2];exact ae U1 _
 have b3:zB U2 U3:=by rw[←hU3];exact ae U2 _
 have k1:Blk U1 w.heap.size 56 [.string ⟨#[]⟩,.slice none 0 0,.bool false,.bool false]:=by rw[←hU1];exact QD w _
 have k2:Blk U2 (w.heap.size+1) 185 [.int .i64 line,.slice a0 L.length c0,.int .i64 0,.string ⟨#[]⟩,.slice none 0 0,.bool false,.bool false,.slice none 0 0]:=by rw[←hU2,←z1];exact QD U1 _
 have k3:Blk U3 (w.heap.size+2) 183 [.pointer (some ⟨w.heap.size+1,0,none⟩)]:=by rw[←hU3,←z2];exact QD U2 _
 obtain⟨B,hB⟩:∃B,w.heap.size+1=B:=⟨_,rfl⟩;have hRI:RI w B line (.slice a0 L.length c0) s00 U3:=by
  refine⟨by omega,b1.trans ((b2.trans (b3.mono (by omega))).mono (by omega)),.slice none 0 0,.slice none 0 0,?_,gB.nil _ _,ag.nil _ _⟩;rw[←hB];exact k2.below b3
 have hM0:PaM w B (w.heap.size+2) (w.heap.size+2) w.heap.size line (.slice a0 L.length c0) s00 U3:=⟨hRI,by rw[←hB];exact k3,by rw[←hB];exact k3,k1.below (b2.trans (b3.mono (by omega)))⟩;have LK:Hid (CallsIn Fence.wide 8 Tryz.prog 128 #[.pointer (some ⟨B,0,none⟩)] U3 fun e V=>e=.returned (.tuple #[])∧PaM w B (w.heap.size+2) (w.heap.size+2) w.heap.size line (.slice a0 L.length c0) (dI line L) V):=zH (QZ.2 ((Dt L U3 hRI hS hU hL hn h0 h1).mono fun e V ⟨q1,q2,q3⟩=>⟨q1,hM0.go q2 q3.w⟩));have CO:Hid (∀V,PaM w B (w.heap.size+2) (w.heap.size+2) w.heap.size line (.slice a0 L.length c0) (dI line L) V→CallsIn Fence.wide 8 Tryz.prog 129 #[.pointer (some ⟨B,0,none⟩)] V fun e V'=>e=.returned (.tuple #[])∧ ∃s,PaM w B (w.heap.size+2) (w.heap.size+2) w.heap.size line (.slice a0 L.length c0) s V'∧CoE L line (dI line L) (eH (L.drop (dI line L).k) (line+(dI line L).k) [] (dI line L).d) s):=zH fun V hV=>QZ.2 ((wM L _ V hV.ri hS hU hL hn h0 h1 pS2 pS3).mono fun e V' ⟨q1,s,q2,q3,q4⟩=>⟨q1,s,hV.go q2 q3.w,q4⟩)
 have L1:Hid (∀V,CallsIn Fence.wide 8 Tryz.prog 130 #[.pointer (some ⟨B,0,none⟩)] V fun e w'=>e=.returned (.func (.func 161) #[] #[.pointer (some ⟨V.heap.size,0,none⟩)])∧V.alloc (.cells #[.pointer (some ⟨B,0,none⟩)] 183)=w'):=zH fun V=>QZ.2 (qP B V)
 have R3:Hid (U3.cell? ⟨w.heap.size+2,0,none⟩=some (.pointer (some ⟨B,0,none⟩))):=zH (hM0.b1.cell 0);refine callsIn_of_wp_marks Tryz.func93 rfl trivial ?_ rfl;simp only[Tryz.ntmps93,Sd,QC,QH,Nat.reduceAdd,Nat.reduceSub,RU,RP,Sg,RX,Rc,QY];clear hM0 hRI k1 k2 k3
 gi_wp2_with fail
 try rw[hB]at hU3
 rw[hU3]
 gi_wp2_with (first
  | (refine⟨trivial,?_⟩;gi_at_call 128;refine LK.out.mono ?_;rintro e V1 ⟨rfl,m1⟩;have M1:=zH m1;have p1:V1.cell? ⟨w.heap.size+2,0,none⟩=some (.pointer (some ⟨B,0,none⟩)):=m1.b1.cell 0;clear m1)
  | (refine⟨trivial,?_⟩;gi_at_call 129;refine(CO.out _ M1.out).mono ?_;rintro e V2 ⟨rfl,sC,m2,hC⟩;have M2:=zH m2;have HC:=zH hC;have p2:V2.cell? ⟨w.heap.size+2,0,none⟩=some (.pointer (some ⟨B,0,none⟩)):=m2.b1.cell 0;clear m2 hC)
  | (refine⟨trivial,?_⟩;gi_at_call 130;refine(L1.out _).mono ?_;rintro e w' ⟨rfl,rfl⟩))
 have HS:=zH hS;have HU:=zH hU;have HLn:=zH hL;have hWz:w.heap.size+2<V2.heap.size:=by have:=(Qx.1 M2.out.b1).1;omega
 obtain⟨T,hT⟩:∃T,fP lgF sC.cols.length (L.drop sC.k).length (L.drop sC.k) (line+sC.k) [] sC.d=T:=⟨_,rfl⟩;have hr0:sC.rows=[]:=HC.out.rows.trans pS4;have hK0:PaK L line sC T sC:=⟨HC.out.kl,Qv _,by rw[hr0];exact QR _,rfl,rfl,rfl,_,Qv _,by rw[hr0];exact hT⟩;have hcl:sC.cols.length≤20:=by
  rw[HC.out.cols];have:=oO (L.drop (dI line L).k) (line+(dI line L).k) [] (dI line L).d (by simp)
  split
  ·simp
  ·exact this
 have HT:=zH hT;have hdC:sC.d.length+2*lnT (L.drop sC.k)≤170000:=by
  have e1:=HC.out.dl;have e2:=HC.out.kl;have e3:=gH L sC.k;omega
 obtain⟨V3,hV3⟩:∃V3,V2.alloc (.cells #[.pointer (some ⟨B,0,none⟩)] 183)=V3:=⟨_,rfl⟩;rw[hV3];have hM0:PaM w B (w.heap.size+2) V2.heap.size w.heap.size line (.slice a0 L.length c0) sC V3:=by
  have h:=M2.out.keep (ae V2 (.cells #[.pointer (some ⟨B,0,none⟩)] 183));rw[hV3]at h;exact⟨h.ri,h.b1,by rw[←hV3];exact QD V2 _,h.res⟩
 have hz3:V3.heap.size=V2.heap.size+1:=by rw[←hV3];simp
 have HROW:Hid (∀(s:RS) x V l m,PaM w B (w.heap.size+2) V2.heap.size w.heap.size line (.slice a0 L.length c0) s.next V→L[s.k]? =some x→PaK L line sC T s→CallsIn (Fence.wide.inRound l) m Tryz.prog 131 #[.pointer (some ⟨B,0,none⟩),.string ⟨x.toArray⟩] V fun e V'=>e=.returned (.tuple #[])∧PaM w B (w.heap.size+2) V2.heap.size w.heap.size line (.slice a0 L.length c0) (JW L line s x) V'∧KeepsOthers V V'∧PaK L line sC T (JW L line s x)):=zH fun s x V l m hV hx hK=>by
  have e1:=hK.dl;have e2:=hK.rl;have e3:=(Qu.1 hx).1;have e4:s.next.cols.length≤20:=by show s.cols.length≤20;rw[hK.cols];exact hcl
  refine CallsIn.inRound l (QZ.2 ((JV L s.next x V hV.ri HS.out HU.out HLn.out hl hn h0 h1 (HLn.out x (Ro hx)) (by show s.k+1≤_;omega) (by show s.d.length≤_;omega) (by show s.rows.length≤_;omega) (by omega)).mono ?_));rintro e V' ⟨s',rfl,r1,f1,hE⟩;have e5:=hE.eq9;subst e5;exact⟨rfl,hV.go r1 f1,f1.ko,hK.step hx hE⟩
 clear LK CO L1 R3 hU1 hU2 hU3 M1 p1 p2 b1 b2 b3 z1 z2 z3 hT hr0 hdC hcl hU hS hL;refine mg rfl (by decide) (gf:=161) (lb:= #[.pointer (some ⟨V2.heap.size,0,none⟩)]) rfl trivial (enters_of Tryz.func161 (by kernel_rfl) rfl)
  (vB 8 V2.heap.size B w line L a0 c0 (JW L line) (fun s V=>PaM w B (w.heap.size+2) V2.heap.size w.heap.size line (.slice a0 L.length c0) s V∧PaK L line sC T s) (fun s x V=>PaM w B (w.heap.size+2) V2.heap.size w.heap.size line (.slice a0 L.length c0) s.next V∧(L[s.k]? =some x∧PaK L line sC T s)) (by omega) HS.out
   (fun s x=>by show s.k<max (s.k+1) _;omega)
   (fun s V h=>⟨h.1.ri,h.2.kl,h.1.b2⟩)
   (fun s A A' h hb=>⟨h.1.keep hb,h.2⟩)
   (fun s A x h hx=>⟨h.1.go h.1.ri.next (h.1.ri.frp 2 _).w,hx,h.2⟩)
   (fun s x A A' h hb=>⟨h.1.keep hb,h.2⟩)
   (fun s x V h=>⟨h.1.ri,h.1.b2⟩) sC)
  (fun _ _=>trivial) (fun _ _ _ _ _ _ _=>trivial) (fun _=>rfl)
  (fun c V=>False)
  (fun s=>(PaM.fr0 (by omega)).and (Fr0.pure _ _))
  (fun s x=>(PaM.fr0 (by omega)).and (Fr0.pure _ _))
  (fun c=>Fr0.pure _ _)
  (Fr0.ex fun s=>((PaM.fr0 (by omega)).and (Fr0.pure _ _)).and (Fr0.pure _ _))
  ⟨hM0,hK0⟩
  (fun x=>{tmps:= #[.int .i64 line,.slice a0 L.length c0,undef,undef,.pointer (some ⟨w.heap.size,0,none⟩),.slice none 0 0,.pointer (some ⟨w.heap.size+2,0,none⟩),.string ⟨x.toArray⟩,.int .i64 line,.slice a0 L.length c0,.agg #[.int .i64 line,.slice a0 L.length c0,.int .i64 0,.string ⟨#[]⟩,.slice none 0 0,.bool false,.bool false,.slice none 0 0],.pointer (some ⟨B,0,none⟩),.pointer (some ⟨B,0,none⟩),.tuple #[],.pointer (some ⟨B,0,none⟩),.tuple #[],.pointer (some ⟨B,0,none⟩),.func (.func 161) #[] #[.pointer (some ⟨V2.heap.size,0,none⟩)],.string ⟨x.toArray⟩,undef,undef,undef,undef,undef,undef,undef,undef,undef,undef,undef,undef],defers:=[] }) ?assign ?body ?done ?stop
 case assign=>
  intro l x V K hK;simp only[zU]
  gi_wp2
  exact hK
 case body=>
  rintro l s x V ⟨hM,hx,hK⟩;have q1:V.cell? ⟨w.heap.size+2,0,none⟩=some (.pointer (some ⟨B,0,none⟩)):=hM.b1.cell 0;have HR1:=zH (fun m=>HROW.out s x V l m hM hx hK);clear hM hK hx hM0 hK0 HROW
  gi_wp2_with (refine⟨trivial,?_⟩;gi_at_call 131;refine(HR1.out _).mono ?_;rintro e V4 ⟨rfl,m1,ko1,kk1⟩;have M4:=zH m1;have KO4:=zH ko1;have KK4:=zH kk1;clear m1 ko1 kk1)
  exact⟨KO4.out.from _,trivial,M4.out,KK4.out⟩
 case done=>
  rintro D V hD ⟨s,⟨hM,hK⟩,hk⟩ hdef;have hT2:T=(s.rows,s.d):=hK.fin hk;have hP:=G6 HC.out (HT.out.trans hT2) hK.cols hK.bx hK.al;have htr:=Bi (L:=L) (HT.out.trans hT2);have hcl2:s.cols.length≤90000:=by
   rw[hK.cols,HC.out.cols];have:=oO (L.drop (dI line L).k) (line+(dI line L).k) [] (dI line L).d (by simp)
   split
   ·simp
   ·omega
  rw[hPP]at hP;have hMd:=hM.keep (QA V.heap.size V).drew;obtain⟨vr,vd,hb,hw,hdo⟩:=hMd.ri.val;obtain⟨ra,rc,rfl⟩:=hw.len;have q0:V.drew.cell? ⟨w.heap.size+2,0,none⟩=some (.pointer (some ⟨B,0,none⟩)):=hMd.b1.cell 0;have q3:V.drew.cell? ⟨B,3,none⟩=some (.string ⟨s.cols.toArray⟩):=hb.cell 3;have q4:V.drew.cell? ⟨B,4,none⟩=some (.slice ra s.rows.length rc):=hb.cell 4;have q5:V.drew.cell? ⟨B,5,none⟩=some (.bool s.bx):=hb.cell 5;have q6:V.drew.cell? ⟨B,6,none⟩=some (.bool s.al):=hb.cell 6;have q7:V.drew.cell? ⟨B,7,none⟩=some vd:=hb.cell 7;obtain⟨m,hm⟩:∃m,mend ⟨s.cols,s.rows,s.bx,s.al⟩=m:=⟨_,rfl⟩;have HMD:Hid (Calls Tryz.prog 132 #[.agg #[.string ⟨s.cols.toArray⟩,.slice ra s.rows.length rc,.bool s.bx,.bool s.al]] V.drew fun e V'=> ∃sa sn sc,e=.returned (.agg #[.string ⟨m.cols.toArray⟩,.slice sa sn sc,.bool m.box,.bool m.all])∧
    V'.cell? ⟨w.heap.size+2,0,none⟩=some (.pointer (some ⟨B,0,none⟩))∧V'.cell? ⟨B,7,none⟩=some vd∧V'.heap[D]? =some (.deferred (some []))∧Hid (Blk V' w.heap.size 56 [.string ⟨#[]⟩,.slice none 0 0,.bool false,.bool false])∧Hid (PaF w (.slice sa sn sc) vd m.rows s.d V')):=zH (by
   have h:=xJ (fun b=>w.heap.size≤b∧b<V.drew.heap.size) ⟨s.cols,s.rows,s.bx,s.al⟩ (ra,s.rows.length,rc) V.drew (HU.out.below hMd.ri.bel) hw.trs hcl2 (by show bM s.rows≤_;omega) (fun x hx=>hx.2);rw[hm]at h;refine h.mono ?_;rintro e V' ⟨⟨sa,sn,sc⟩,rfl,g1,g2⟩;exact⟨sa,sn,sc,rfl,(hMd.b1.below g2).cell 0,(hb.below g2).cell 7,(g2.block D (by have:=(Qx.1 hdef).1;exact this)).trans hdef,zH (hMd.res.below g2),zH ⟨hMd.ri.bel.trans (g2.mono hMd.ri.bel.size),g1.low9 hMd.ri.bel.size,hdo.keep g2⟩⟩)
  rw[hm]at hP;have HPM:=zH hP;clear hM hK hT2 hP htr hcl2 hMd hb hw hdo hm hM0 hK0 HROW hk hdef
  gi_wp2_with fail
  refine jN ?_;refine wpIn_wide.2 ?_;go_region_with (go_at_call 132;refine HMD.out.mono ?_;rintro e V' ⟨sa,sn,sc,rfl,u0,u7,uD,hBR,hPF⟩;have r0:V'.cell? ⟨w.heap.size,0,none⟩=some (.string ⟨#[]⟩):=hBR.out.cell 0;have r1:V'.cell? ⟨w.heap.size,1,none⟩=some (.slice none 0 0):=hBR.out.cell 1;have r2:V'.cell? ⟨w.heap.size,2,none⟩=some (.bool false):=hBR.out.cell 2;have r3:V'.cell? ⟨w.heap.size,3,none⟩=some (.bool false):=hBR.out.cell 3;have z0:V'.frozen? ⟨w.heap.size,0,none⟩=false:=hBR.out.frozen (by simp);have z1:V'.frozen? ⟨w.heap.size,1,none⟩=false:=hBR.out.frozen (by simp);have z2:V'.frozen? ⟨w.heap.size,2,none⟩=false:=hBR.out.frozen (by simp);have z3:V'.frozen? ⟨w.heap.size,3,none⟩=false:=hBR.out.frozen (by simp))
  all_goals
   gi_wp2_with fail
   have hB1:=hBR.out.set 0 (.string ⟨m.cols.toArray⟩);have hB2:=hB1.set 1 (.slice sa sn sc);have hB3:=hB2.set 2 (.bool m.box);have hB4:=hB3.set 3 (.bool m.all);have hP1:=hPF.out.set (Qv _) hBR.out 0 (.string ⟨m.cols.toArray⟩);have hP2:=hP1.set (Qv _) hB1 1 (.slice sa sn sc);have hP3:=hP2.set (Qv _) hB2 2 (.bool m.box);have hP4:=hP3.set (Qv _) hB3 3 (.bool m.all);have hd5:=(KeepsOthers.setCell _ ⟨w.heap.size,3,none⟩ (.bool m.all)).same D _ ((KeepsOthers.setCell _ ⟨w.heap.size,2,none⟩ (.bool m.box)).same D _ ((KeepsOthers.setCell _ ⟨w.heap.size,1,none⟩ (.slice sa sn sc)).same D _ ((KeepsOthers.setCell V' ⟨w.heap.size,0,none⟩ (.string ⟨m.cols.toArray⟩)).same D _ uD rfl) rfl) rfl) rfl;obtain⟨W5,hW5⟩:∃W5,((((V'.setCell ⟨w.heap.size,0,none⟩ (.string ⟨m.cols.toArray⟩)).setCell ⟨w.heap.size,1,none⟩ (.slice sa sn sc)).setCell ⟨w.heap.size,2,none⟩ (.bool m.box)).setCell ⟨w.heap.size,3,none⟩ (.bool m.all))=W5:=⟨_,rfl⟩;rw[hW5]at hB4 hP4 hd5⊢;have k:∀o',Blk (W5.putObj D o') w.heap.size 56 [.string ⟨m.cols.toArray⟩,.slice sa sn sc,.bool m.box,.bool m.all]:=fun o'=>Blk.fr0.put (B:=0) o' hB4 (QR _) hd5 rfl
   have k0:=fun o'=>(k o').cell 0
   have k1:=fun o'=>(k o').cell 1
   have k2:=fun o'=>(k o').cell 2
   have k3:=fun o'=>(k o').cell 3
   simp at k0 k1 k2 k3;refine⟨by simp[Act.put],.inl ⟨_,_,rfl,run_takeDeferred (w:=W5) hd5,?_⟩⟩;refine⟨.tuple #[.agg #[.string ⟨m.cols.toArray⟩,.slice sa sn sc,.bool m.box,.bool m.all],vd],?_,(sa,sn,sc),vd,?_,?_⟩
   ·simp[results,Tryz.results93,Act.put,go_sem,k0,k1,k2,k3]
   ·rw[HPM.out];rfl
   ·rw[HPM.out]
    exact(PaF.fr0 (Qv _)).put _ hP4 (by omega) hd5 rfl
 case stop=>
  rintro D c V hD h hdef;exact h.elim
end
def okT (ln:Int):Prop:=0≤ln+1∧ln+1≤100000
theorem JK:CG U8 I9.tab okT:=by
 intro ln L v V hok hU hS hl hL;obtain⟨a,c,rfl⟩:=hS.len;have hw:IntKind.i64.wrap (ln+1)=ln+1:=by
  have h1:=hok.1;have h2:=hok.2;exact eu (by omega) (by omega)
 rw[hw];refine(QZ.1 (G8 (ln+1) L a c V hok.1 hok.2 hU hS hl hL)).mono ?_;rintro e W' ⟨r,vd,rfl,hF⟩;exact⟨r,vd,rfl,hF.rows.trs,hF.d,hF.bel⟩
theorem xG (lg:Lgf)(nc:Nat):∀(n:Nat) (l:List Txt) (ln:Int) (rs:List bV) (d:List Dgn),(fP lg nc n l ln rs d).1.length≤rs.length+n
 | 0,l,ln,rs,d=>by simp[fP]
 | n+1,[],ln,rs,d=>by simp[fP]
 | n+1,s::r,ln,rs,d=>by
  unfold fP;simp only;have ih:=xG lg nc n (rowP lg nc s r ln).2.2.2 ((rowP lg nc s r ln).2.2.1+1) (rs++ [(rowP lg nc s r ln).1]) (d++(rowP lg nc s r ln).2.1);simp only[QE,Rz]at ih;omega
theorem Kv (line:Int)(l:List Txt):(dz line l).2.2.2.1.length≤l.length:=by
 unfold dz
 cases l with
 | nil=>exact Qv _
 | cons s r=>
  simp only
  split
  ·rw[QC];simp only;omega
  ·exact Qv _
theorem Cn:∀(l:List Txt) (ln:Int) (cols:Txt) (d:List Dgn),(eH l ln cols d).2.2.2.1.length≤l.length
 | [],ln,cols,d=>by simp[eH]
 | s::r,ln,cols,d=>by
  unfold eH;simp only;rw[QC]
  split
  ·simp only;omega
  ·have:=Cn r (ln+1) (if(aU s).1=[] then cols else(aU s).1.take 20) (d++(if(aU s).2 then [] else [(10,ln,0)])++(if 20<(aU s).1.length then [(11,ln,0)] else []))
   omega
theorem Bj (line:Int)(l:List Txt):(iF lgF line l).1.cols.length≤20∧bM (iF lgF line l).1.rows≤21*l.length+lnT l:=by
 have h1:=BK line l;have h2:=vS (dz line l).2.2.2.1 (dz line l).2.2.2.2 [] (dz line l).2.2.1;have k1:=Kv line l;have k2:=Cn (dz line l).2.2.2.1 (dz line l).2.2.2.2 [] (dz line l).2.2.1;unfold iF;simp only;generalize (eH (dz line l).2.2.2.1 (dz line l).2.2.2.2 [] (dz line l).2.2.1)=b at h2 k2;generalize (if b.1=[] then [108] else b.1:Txt)=cols;generalize b.2.2.1++(if b.2.1 then [] else [(7,line,0)])=d;have h4:=oC (lg:=lgF) (fun s=>(jF s).1) cols.length b.2.2.2.1.length b.2.2.2.1 b.2.2.2.2 [] d;have k4:=xG lgF cols.length b.2.2.2.1.length b.2.2.2.1 b.2.2.2.2 [] d;generalize fP lgF cols.length b.2.2.2.1.length b.2.2.2.1 b.2.2.2.2 [] d=q at h4 k4;simp only[bM,Ru,Tw,Sc]at h4;rw[QH,Sc]at k4;have h5:=rA (jd cols).length q.1;have h6:=(ve cols).2.1;have h8:(jd cols).length*q.1.length≤20*q.1.length:=TD _ h6;have h9:bM q.1≤b.2.2.2.1.length+lnT b.2.2.2.1:=h4;refine⟨h6,?_⟩;show bM (q.1.map (gL (jd cols).length))≤_;omega
theorem l9 (ln:Int)(l:List Txt):(I9.tab ln l).1.cols.length≤20∧bM (I9.tab ln l).1.rows≤21*l.length+lnT l∧(I9.tab ln l).2.length≤2+4*lnT l:=by
 obtain⟨h1,h2⟩:=Bj (ln+1) l;exact⟨h1,h2,Dx (lg:=lgF) (fun s=>(jF s).2) (ln+1) l⟩
def jU (r:aR):Nat:=4*(r.text.length+lnT r.args)+40
def fJ (l:List aR):Nat:=(l.map jU).sum
def gpM (s:Md):Nat:=match s.g with
 | some g=>21*g.2.length+lnT g.2+30
 | none=>0
def gdM (s:Md):Nat:=match s.g with
 | some g=>4*lnT g.2+4
 | none=>0
theorem BU {s:Md}(h:s.g=none):gpM s=0:=by unfold gpM;rw[h]
theorem BV {s:Md}(h:s.g=none):gdM s=0:=by unfold gdM;rw[h]
theorem jg {s:Md}{g:Int×List Txt}(h:s.g=some g):gpM s=21*g.2.length+lnT g.2+30:=by unfold gpM;rw[h]
theorem jh {s:Md}{g:Int×List Txt}(h:s.g=some g):gdM s=4*lnT g.2+4:=by unfold gdM;rw[h]
structure WtG (okl:Int→Prop)(s:Md)(W:Nat):Prop where
 b:btl s.b+vlM s+gpM s≤W
 d:s.d.length+gdM s≤W
 ok:∀g0,s.g=some g0→okl g0.1∧s.v=none∧ ∀x∈g0.2,x.length≤2000
theorem WtM.toG {s:Md}{W V:Nat}(h:WtM s W){okl:Int→Prop}(hv:W≤V):WtG okl s V:=by
 obtain⟨hg,hb,hd⟩:=h;exact⟨by rw[BU hg];omega,by rw[BV hg];omega,fun g0 e=>by rw[hg]at e;cases e⟩
theorem Ke (ln:Int)(T:Tab):nlN (.mk ⟨7,ln,0,[],[],T⟩ [])=3+T.cols.length+bM T.rows:=by simp[nlN,nlL,hdl,lens]
theorem Pb (r:aR)(h:r.mac=[84,83]):I9.inl r=none:=by
 show gP r=none;unfold gP;rw[h];simp
theorem WtG.endG {okl:Int→Prop}{s:Md}{W:Nat}(h:WtG okl s W){g:Int×List Txt}(hg:s.g=some g){s':Md}(hb:s'.b=s.b)(hv:s'.v=none)(hd:s'.d.length≤s.d.length+1):WtM (endG I9 s' g) (W+30):=by
 obtain⟨h1,h2,h3⟩:=l9 g.1 g.2;have h4:=qx s'.b (.mk ⟨7,g.1,0,[],[],(I9.tab g.1 g.2).1⟩ []);rw[Ke,hb]at h4;have h5:=h.b;have h6:=h.d;rw[jg hg]at h5;rw[jh hg]at h6;refine WtM.of rfl hv ?_ ?_
 ·show btl (si s'.b _)≤_
  rw[hb];omega
 ·show(s'.d++(I9.tab g.1 g.2).2).length≤_
  rw[QE];omega
theorem WtG.step {okl:Int→Prop}{s:Md}{W:Nat}(h:WtG okl s W){r:aR}(hl:fV r)(hts:r.mac=[84,83]→okl r.line):WtG okl (kZ I9 s r) (W+jU r):=by
 have hr2:rwt r≤jU r:=by unfold rwt jU;omega
 cases hg:s.g with
 | none=>
  have hM:WtM s W:=⟨hg,by have:=h.b;omega,by have:=h.d;omega⟩
  by_cases ht:r.mac=[84,83]
  ·unfold kZ
   rw[hg];simp only[Pb r ht];obtain⟨u1,u2,u3,u4,u5,u6⟩:=fC s
   cases hv:s.v with
   | some v=>
    dsimp only;rw[QG (by rw[ht];decide)];refine⟨?_,?_,fun g0 e=>?_⟩
    ·have h1:=h.b
     have e1:gpM (aD s 13 r.line)=0:=BU hg;have e2:vlM (aD s 13 r.line)=vlM s:=rfl;have e3:(aD s 13 r.line).b=s.b:=rfl;rw[e1,e2,e3];omega
    ·have h1:=h.d
     have e1:gdM (aD s 13 r.line)=0:=BV hg;rw[e1];unfold jU;simp only[aD,QE,QC,QH];omega
    ·have e2:(aD s 13 r.line).g=s.g:=rfl
     rw[e2,hg]at e
     cases e
   | none=>
    dsimp only;have e9:Il I9 (upM s) r={upM s with b:=bP (upM s).b,g:=some (r.line,[]) }:=by
     unfold Il;rw[ht];simp[mTH,mSH,mSS]
    rw[e9];have h1:=eO (upM s).b;have h2:=h.b;have h3:=h.d;rw[u1]at h1;unfold jU;refine⟨?_,?_,fun g0 e=>?_⟩
    ·have e1:gpM {upM s with b:=bP (upM s).b,g:=some (r.line,[]) }=30:=(jg (g:=(r.line,[])) rfl).trans (by simp[lnT])
     have e2:vlM {upM s with b:=bP (upM s).b,g:=some (r.line,[]) }=0:=oV (u2.trans hv);rw[e1,e2];show btl (bP (upM s).b)+0+30≤_;rw[u1];omega
    ·have e1:gdM {upM s with b:=bP (upM s).b,g:=some (r.line,[]) }=4:=(jh (g:=(r.line,[])) rfl).trans (by simp[lnT])
     rw[e1];show(upM s).d.length+4≤_;omega
    ·obtain rfl:=QL e
     exact⟨hts ht,u2.trans hv,fun x hx=>by cases hx⟩
  ·exact(hM.step hl ht).toG (by omega)
 | some g=>
  have h1:=h.b;have h2:=h.d;rw[jg hg]at h1;rw[jh hg]at h2;obtain⟨o1,o2,o3⟩:=h.ok g hg;unfold kZ;rw[hg];dsimp only
  by_cases hm:r.mac=[]
  ·rw[QP hm]
   have e3:lnT (g.2++ [r.text])=lnT g.2+(r.text.length+1):=by rw[FK];simp[lnT]
   unfold jU;refine⟨?_,?_,fun g0 e=>?_⟩
   ·have e1:gpM {s with g:=some (g.1,g.2++ [r.text]) }=21*(g.2++ [r.text]).length+lnT (g.2++ [r.text])+30:=jg (g:=(g.1,g.2++ [r.text])) rfl
    have e2:vlM {s with g:=some (g.1,g.2++ [r.text]) }=vlM s:=rfl;rw[e1,e2,e3,QE,Rz];show btl s.b+_+_≤_;omega
   ·have e1:gdM {s with g:=some (g.1,g.2++ [r.text]) }=4*lnT (g.2++ [r.text])+4:=jh (g:=(g.1,g.2++ [r.text])) rfl
    rw[e1,e3];show s.d.length+_≤_;omega
   ·obtain rfl:=QL e
    refine⟨o1,o2,fun x hx=>?_⟩;rcases SB.1 hx with q | q
    ·exact o3 x q
    ·rw[List.mem_singleton.1 q]
     exact hl.text
  ·rw[QG hm]
   split
   ·exact(h.endG hg rfl o2 (SA _)).toG (by unfold jU;omega)
   ·unfold jU
    refine⟨?_,?_,fun g0 e=>?_⟩
    ·have e1:gpM (aD s 13 r.line)=gpM s:=rfl
     have e2:vlM (aD s 13 r.line)=vlM s:=rfl;have e3:(aD s 13 r.line).b=s.b:=rfl;rw[e1,e2,e3];have:=h.b;omega
    ·have e1:gdM (aD s 13 r.line)=gdM s:=rfl
     rw[e1];simp only[aD,QE,QC,QH];have:=h.d;omega
    ·exact h.ok g0 e
theorem WtG.rows {okl:Int→Prop}:∀{l:List aR} {s:Md} {W:Nat},WtG okl s W→(∀r∈l,fV r)→(∀r∈l,r.mac=[84,83]→okl r.line)→WtG okl (l.foldl (kZ I9) s) (W+fJ l)
 | [],s,W,h,_,_=>by simpa[fJ] using h
 | r::l,s,W,h,h1,h2=>by
  have:=WtG.rows (l:=l) (h.step (h1 r RO) (h2 r RO)) (fun x hx=>h1 x (RJ _ hx)) (fun x hx=>h2 x (RJ _ hx));simp only[Td,fJ,Q5,Sb]at this⊢;rw[←Nat.add_assoc];exact this
theorem Dm (l:List aR){i:Nat}{r:aR}(h:l[i]? =some r):fJ (l.take i)+jU r≤fJ l:=by
 have hi:i<l.length:=(Qu.1 h).1;have e:l=l.take i++r::l.drop (i+1):=by
  have h2:l[i]=r:=(Qu.1 h).2;rw[←h2,←Rl hi,Rs]
 have:fJ l=fJ (l.take i)+(jU r+fJ (l.drop (i+1))):=by
  conv=>lhs;rw[e]
  simp[fJ]
 omega
theorem xC:∀l:List aR,l.length≤fJ l
 | []=>by simp[fJ]
 | r::l=>by
  have h1:=xC l;have h2:fJ (r::l)=jU r+fJ l:=by simp[fJ]
  have h3:40≤jU r:=by unfold jU;omega
  rw[h2,QC];omega
theorem WtG.stepB {okl:Int→Prop}{s:Md}{W:Nat}(h:WtG okl s W){r:aR}(hl:fV r)(hW:W+jU r≤29500):StepB okl s r:=by
 obtain⟨hb,hd,ho⟩:=h;unfold jU at hW;refine⟨hl,by omega,by omega,?_,?_,fun v0 hv=>?_,fun g0 hg0=>?_⟩
 ·unfold rwM
  unfold vlM at hb
  cases hv:s.v with
  | none=>simp
  | some v=>rw[hv]at hb;dsimp only at hb⊢;omega
 ·unfold txM
  cases hg:s.g with
  | none=>simp
  | some g=>rw[jg hg]at hb;dsimp only;omega
 ·unfold vlM at hb
  rw[hv]at hb;dsimp only at hb;omega
 ·obtain⟨o1,o2,o3⟩:=ho g0 hg0
  obtain⟨h1,h2,h3⟩:=l9 g0.1 g0.2;rw[jg hg0]at hb;rw[jh hg0]at hd;exact⟨o1,by omega,o3,by omega,by omega⟩
theorem Cw {okl:Int→Prop}{rs:List aR}(hle:∀r∈rs,fV r)(hts:∀r∈rs,r.mac=[84,83]→okl r.line):btl (dE I9 rs).b≤fJ rs+60:=by
 have hW:=WtG.rows (om.toG (okl:=okl) (Qv _)) hle hts;have hr:gF I9 rs=rs.foldl (kZ I9) md0:=rfl;unfold dE Ev;rw[hr];obtain⟨s,hs⟩:∃s,rs.foldl (kZ I9) md0=s:=⟨_,rfl⟩;rw[hs]at hW⊢;obtain⟨u1,u2,u3,u4,u5,u6⟩:=fC s;have ht:∀q:Md,(vK q).b=q.b:=fun q=>by unfold vK;split<;>rfl
 rw[ht]
 cases hg:s.g with
 | none=>
  have hb:=hW.b;have e1:r9 I9 (upM s)=upM s:=by unfold r9;rw[u3,hg]
  rw[e1];unfold Ca;rw[u2];unfold vlM at hb
  cases hv:s.v with
  | none=>dsimp only;rw[u1];rw[hv]at hb;dsimp only at hb;omega
  | some v=>
   rw[hv]at hb;dsimp only[qd,aD]at hb⊢;have:=qx (upM s).b (.mk ⟨6,v.1,0,[],v.2,bS⟩ []);rw[sG,u1]at this;rw[u1];omega
 | some g=>
  have e1:r9 I9 (upM s)=endG I9 (aD (upM s) 7 g.1) g:=by unfold r9;rw[u3,hg]
  rw[e1];obtain⟨o1,o2,o3⟩:=hW.ok g hg;obtain⟨h1,h2,h3⟩:=l9 g.1 g.2;have hb:=hW.b;rw[jg hg]at hb;have h4:=qx s.b (.mk ⟨7,g.1,0,[],[],(I9.tab g.1 g.2).1⟩ []);rw[Ke]at h4;have e2:(endG I9 (aD (upM s) 7 g.1) g).v=none:=u2.trans o2;unfold Ca;rw[e2];show btl (si (upM s).b _)≤_;rw[u1];omega
theorem Pn {okl:Int→Prop}{rs:List aR}(hle:∀r∈rs,fV r)(hts:∀r∈rs,r.mac=[84,83]→okl r.line):(dE I9 rs).d.length≤fJ rs+20:=by
 have hW:=WtG.rows (om.toG (okl:=okl) (Qv _)) hle hts;have hr:gF I9 rs=rs.foldl (kZ I9) md0:=rfl;unfold dE Ev;rw[hr];obtain⟨s,hs⟩:∃s,rs.foldl (kZ I9) md0=s:=⟨_,rfl⟩;rw[hs]at hW⊢;obtain⟨u1,u2,u3,u4,u5,u6⟩:=fC s;have hd:=hW.d;have ht:∀q:Md,(vK q).d.length≤q.d.length+1:=fun q=>by unfold vK;split<;>simp[aD]
 have hv:∀q:Md,(Ca q).d.length≤q.d.length+1:=fun q=>by unfold Ca;split<;>simp[aD,qd]
 have hg:(r9 I9 (upM s)).d.length≤s.d.length+gdM s+2:=by
  unfold r9;rw[u3]
  cases hg:s.g with
  | none=>dsimp only;omega
  | some g=>
   obtain⟨h1,h2,h3⟩:=l9 g.1 g.2;rw[jh hg];simp only[endG,aD,QE,QC,QH];omega
 have h1:=ht (Ca (r9 I9 (upM s)));have h2:=hv (r9 I9 (upM s));omega
theorem MW {rs:List aR}(hle:∀r∈rs,fV r)(hts:∀r∈rs,r.mac=[84,83]→okT r.line)(hml:∀r∈rs,r.mac.length≤100000)(hw:fJ rs≤29000):PBo okT rs:=by
 have hW:=WtG.rows (om.toG (okl:=okT) (Qv _)) hle hts;have hr:gF I9 rs=rs.foldl (kZ I9) md0:=rfl;refine⟨fun i r hi=>?_,by have:=xC rs;omega,fun i r hi=>hml r (Ro hi),?_,fun g0 hg=>?_,?_⟩
 ·have h1:=WtG.rows (l:=rs.take i) (om.toG (okl:=okT) (Qv _)) (fun x hx=>hle x (R7 hx)) (fun x hx=>hts x (R7 hx))
  have h2:=Dm rs hi;exact h1.stepB (hle r (Ro hi)) (by omega)
 ·rw[hr]
  exact hW.stepB Fh (by unfold jU row0;simp[lnT];omega)
 ·rw[hr]at hg⊢
  obtain⟨h1,h2,h3⟩:=l9 g0.1 g0.2;have hd:=hW.d;rw[jh hg]at hd;omega
 ·have:=Cw hle hts
  omega
theorem zP {α:Type}{n:Nat}{f:α→List Value}(hf:∀x,(f x).length=n)(W:World)(t:TypeId)(L:List α):FsS (fun k=>k=W.heap.size) n f (W.alloc (.cells (aA f L).toArray t)) (.slice (some ⟨W.heap.size,0,none⟩) L.length L.length) L:=by
 refine⟨dS hf W t L,fun a k c e _=>?_⟩;injection e with e1
 injection e1 with e1
 subst e1;exact⟨rfl,fun _ i _=>by
  have h:=QD W (.cells (aA f L).toArray t);simp only[World.frozen?,h];simp⟩
theorem FC {S:Nat→Prop}{w:World}{x:NV}{y:Nd}(h:rq S w x y)(hS:∀k,S k→k<w.heap.size):NsS (fun k=>S k∨k=w.heap.size) (w.alloc (.cells (af x).toArray 58)) (.slice (some ⟨w.heap.size,0,none⟩) 1 1) [y]:=by
 have hb:zB w (w.alloc (.cells (af x).toArray 58)):=ae w _;have kp:Kp S w (w.alloc (.cells (af x).toArray 58)):=fun k q=>hb.block k (hS k q)
 have hf:=zP az w 58 [x];rw[dU]at hf;refine .mk _ _ [x] rfl (hf.mono (fun k q=> .inr q)) (fun i a b h1 h2=>?_) (fun i a b h1 h2=>?_)
 all_goals
  have hi:i=0:=by
   have:=(Qu.1 h1).1;simp at this;omega
  subst hi;obtain rfl:x=a:=by simpa using h1
  obtain rfl:y=b:=by simpa using h2
 ·exact(h.1.keep kp).mono (fun k q=> .inl q)
 ·exact(h.2.keep kp).mono (fun k q=> .inl q)
theorem NA (V0 V1 V2 V3 V4:World)(h1:V0.alloc (.cells #[.int .i32 65,.int .u8 0] 35)=V1)(h2:V1.alloc (.cells #[.int .i32 98,.int .u8 0] 35)=V2)
  (h3:V2.alloc (.cells #[.int .i64 3,.int .i64 2,.int .i64 0,.slice (some ⟨V1.heap.size,0,none⟩) 1 1,.slice none 0 0,.slice none 0 0,.string ⟨#[]⟩,.slice none 0 0,.bool false,.bool false] 58)=V3)
  (h4:V3.alloc (.cells #[.int .i64 1,.int .i64 1,.int .i64 0,.slice (some ⟨V0.heap.size,0,none⟩) 1 1,.slice (some ⟨V2.heap.size,0,none⟩) 1 1,.slice none 0 0,.string ⟨#[]⟩,.slice none 0 0,.bool false,.bool false] 58)=V4):
  NsS (fun k=>k<V4.heap.size) V4 (.slice (some ⟨V3.heap.size,0,none⟩) 1 1) [.mk ⟨1,1,0,[(65,0)],[],bS⟩ [.mk ⟨3,2,0,[(98,0)],[],bS⟩ []]]∧zB V0 V4:=by
 have z1:V1.heap.size=V0.heap.size+1:=by rw[←h1];exact QK _ _
 have z2:V2.heap.size=V1.heap.size+1:=by rw[←h2];exact QK _ _
 have z3:V3.heap.size=V2.heap.size+1:=by rw[←h3];exact QK _ _
 have z4:V4.heap.size=V3.heap.size+1:=by rw[←h4];exact QK _ _
 have b1:zB V0 V1:=by rw[←h1];exact ae V0 _
 have b2:zB V1 V2:=by rw[←h2];exact ae V1 _
 have b3:zB V2 V3:=by rw[←h3];exact ae V2 _
 have b4:zB V3 V4:=by rw[←h4];exact ae V3 _
 have g1:FsS (fun k=>k=V0.heap.size) 2 aQ V1 (.slice (some ⟨V0.heap.size,0,none⟩) 1 1) [(65,0)]:=by rw[←h1];exact zP ah V0 35 [(65,0)]
 have g2:FsS (fun k=>k=V1.heap.size) 2 aQ V2 (.slice (some ⟨V1.heap.size,0,none⟩) 1 1) [(98,0)]:=by rw[←h2];exact zP ah V1 35 [(98,0)]
 have n1:=FC (x:=dW 3 2 0 (some ⟨V1.heap.size,0,none⟩,1,1)) (sI (k:=3) (ln:=2) (n:=0) (p:=(some ⟨V1.heap.size,0,none⟩,1,1)) g2) (fun k q=>by omega);have e3:V2.alloc (.cells (af (dW 3 2 0 (some ⟨V1.heap.size,0,none⟩,1,1))).toArray 58)=V3:=h3;rw[e3]at n1;have n2:=FC (w:=V3) (S:=fun k=>k<V3.heap.size) (x:=⟨1,1,0,(some ⟨V0.heap.size,0,none⟩,1,1),(some ⟨V2.heap.size,0,none⟩,1,1),aj,[],aj,false,false⟩) (y:= .mk ⟨1,1,0,[(65,0)],[],bS⟩ [.mk ⟨3,2,0,[(98,0)],[],bS⟩ []])
  ⟨⟨rfl,rfl,rfl,(g1.keep (fun k q=>((b2.trans (b3.mono (by omega))).block k (by omega)))).mono (fun k q=>by omega),GrS.nil _ _,rfl,TrS.nil _ _,rfl,rfl⟩,n1.mono (fun k q=>by omega)⟩ (fun k q=>q)
 have e4:V3.alloc (.cells (af (⟨1,1,0,(some ⟨V0.heap.size,0,none⟩,1,1),(some ⟨V2.heap.size,0,none⟩,1,1),aj,[],aj,false,false⟩:NV)).toArray 58)=V4:=h4;rw[e4]at n2;exact⟨n2.mono (fun k q=>by omega),((b1.trans (b2.mono (by omega))).trans (b3.mono (by omega))).trans (b4.mono (by omega))⟩
theorem BP {w:World}(hU:U8 w)(hEr:Er w)(hMx:Mx w):Calls Tryz.prog 8 #[] w fun e w'=>e=.returned (.bool true)∧zB w w':=by
 have hrd:=Hq hU hEr hMx knT (by decide) (by rw[pY.1];exact PW) (by rw[pY.1,pY.2,PX];decide);rw[pY.1,pY.2]at hrd;have hd:=PX;have hk:=OZ;obtain⟨s,hs⟩:∃s,dE I9 knR=s:=⟨_,rfl⟩;rw[hs]at hrd hd hk;have HRD:Hid (Calls Tryz.prog 17 #[.string ⟨#[46,83,72,32,65,10,98,10]⟩] w fun e w2=> ∃p1 p2 p3 d1 d3,e=.returned (.tuple #[.agg #[.string ⟨s.b.nm.a.toArray⟩,.string ⟨s.b.nm.b.toArray⟩,.string ⟨s.b.nm.c.toArray⟩,.string ⟨s.b.nm.d.toArray⟩,.slice p1 p2 p3],.slice d1 1 d3])∧Hid (zB w w2)∧
   ∃W2,w2.alloc (.cells #[.string ⟨s.b.nm.a.toArray⟩,.string ⟨s.b.nm.b.toArray⟩,.string ⟨s.b.nm.c.toArray⟩,.string ⟨s.b.nm.d.toArray⟩,.slice p1 p2 p3] 38)=W2∧Hid (zB w2 W2)∧ ∃V1,W2.alloc (.cells #[.int .i32 65,.int .u8 0] 35)=V1∧ ∃V2,V1.alloc (.cells #[.int .i32 98,.int .u8 0] 35)=V2∧
    ∃V3,V2.alloc (.cells #[.int .i64 3,.int .i64 2,.int .i64 0,.slice (some ⟨V1.heap.size,0,none⟩) 1 1,.slice none 0 0,.slice none 0 0,.string ⟨#[]⟩,.slice none 0 0,.bool false,.bool false] 58)=V3∧ ∃V4,V3.alloc (.cells #[.int .i64 1,.int .i64 1,.int .i64 0,.slice (some ⟨W2.heap.size,0,none⟩) 1 1,.slice (some ⟨V2.heap.size,0,none⟩) 1 1,.slice none 0 0,.string ⟨#[]⟩,.slice none 0 0,.bool false,.bool false] 58)=V4∧
    Hid (zB w V4)∧V4.cell? ⟨w2.heap.size,4,none⟩=some (.slice p1 p2 p3)∧Hid (Calls Tryz.prog 21 #[.slice p1 p2 p3,.slice (some ⟨V3.heap.size,0,none⟩) 1 1] V4 fun e w'=>e=.returned (.bool true)∧Hid (zB w w')∧
     Hid (Calls Tryz.prog 20 #[.slice d1 1 d3,.slice (some ⟨w'.heap.size,0,none⟩) 1 1] (w'.alloc (.cells #[.int .i64 12,.int .i64 0,.int .i64 0] 46)) fun e w9=>e=.returned (.bool true)∧zB w w9))):=zH (by
  have hrd':Calls Tryz.prog 17 #[.string ⟨#[46,83,72,32,65,10,98,10]⟩] w (sU w s []):=hrd;refine hrd'.mono ?_;rintro e w2 ⟨⟨p1,p2,p3⟩,d,rfl,q1,q2,q3⟩;rw[hd]at q2;rw[hk]at q1;obtain⟨d1,d3,rfl⟩:=q2.len;obtain⟨W2,hW2⟩:∃W2,w2.alloc (.cells #[.string ⟨s.b.nm.a.toArray⟩,.string ⟨s.b.nm.b.toArray⟩,.string ⟨s.b.nm.c.toArray⟩,.string ⟨s.b.nm.d.toArray⟩,.slice p1 p2 p3] 38)=W2:=⟨_,rfl⟩;have b2:zB w2 W2:=by rw[←hW2];exact ae w2 _
  have kD:Blk W2 w2.heap.size 38 [.string ⟨s.b.nm.a.toArray⟩,.string ⟨s.b.nm.b.toArray⟩,.string ⟨s.b.nm.c.toArray⟩,.string ⟨s.b.nm.d.toArray⟩,.slice p1 p2 p3]:=by rw[←hW2];exact QD w2 _
  obtain⟨hw,hbv⟩:=NA W2 _ _ _ _ rfl rfl rfl rfl;refine⟨p1,p2,p3,d1,d3,rfl,zH q3,W2,hW2,zH b2,_,rfl,_,rfl,_,rfl,_,rfl,?_⟩;have hs2:=b2.size;have hq:=q3.size;have b24:=b2.trans (hbv.mono hs2);have bw4:=q3.trans (b24.mono hq);refine⟨zH bw4,(kD.below hbv).cell 4,zH ?_⟩;have hz:=b24.size;have hsm:=xE (fun k=>w.heap.size≤k∧k<w2.heap.size) _ _ _ _ rfl (by decide+kernel) (by decide+kernel) _ _ _ (q1.keep (fun k q=>b24.block k q.2)) hw (fun k q=>by omega) (fun k q=>q);refine hsm.mono ?_;rintro e w' ⟨rfl,b5⟩;have bw5:=bw4.trans (b5.mono bw4.size);refine⟨by rw[nI rfl],zH bw5,zH ?_⟩;have bl:=ae w' (.cells #[.int .i64 12,.int .i64 0,.int .i64 0] 46);have hl:=dS ax w' 46 [(12,0,0)];have h9:=uw [(12,0,0)] [(12,0,0)] (.slice d1 1 d3) _ _ (((q2.below b24).below b5).below bl) hl (by decide) (by decide);refine h9.mono ?_;rintro e w9 ⟨rfl,b9⟩;exact⟨by rw[Q6 rfl],(bw5.trans (bl.mono bw5.size)).trans (b9.mono (by have:=bw5.size;have:=bl.size;omega))⟩)
 clear hU hEr hMx hrd hd hk hs;go_enter Tryz.func8,Tryz.ntmps8
 go_wp2_with fail
 refine HRD.out.mono ?_;rintro e w2 ⟨p1,p2,p3,d1,d3,rfl,B2,W2,hW2,B3,V1,hV1,V2,hV2,V3,hV3,V4,hV4,B4,c4,HS⟩;have HW2:=zH hW2;clear hW2 HRD;go_upto_region 2 with fail
 rw[HW2.out];clear HW2;go_wp2_with fail
 refine HS.out.mono ?_;rintro e w5 ⟨rfl,B5,HS2⟩;clear HS c4 hV1 hV2 hV3 hV4;go_wp2_with fail
 refine HS2.out.mono ?_;rintro e w6 ⟨rfl,b6⟩;have B6:=zH b6;clear b6;go_wp2_with fail
 go_ret;exact⟨rfl,B6.out⟩
def hAt (H:List Bool)(i:Nat):Bool:=(H[i]?).getD false
noncomputable def CE (args:Array Value):Sem Next:=do pure (.value (←Builtin.append_ #[25,25] 25 args))
theorem wS (cs:Array Bool)(args:Array Value):builtin .append #[25,25] 25 cs args=CE args:=rfl
theorem Jf {W W':World}{args:Array Value}{v:Value}(h:(Builtin.append_ #[25,25] 25 args).run Tryz.prog W=.ok v W'):(CE args).run Tryz.prog W=.ok (.value v) W':=by
 unfold CE;simp[Rx,h]
attribute [irreducible] CE
structure RwA (W3 W:World)(v:Value)(l:List Row):Prop where
 own:∃L,P9 W3.heap.size W v L∧iK (Ss W3) L l
 bel:zB W3 W
theorem RwA.start (W3:World):RwA W3 W3 (.slice none 0 0) []:=⟨⟨[],ag.nil _ _,iK.nil _⟩,QA _ _⟩
theorem RwA.keep {W3 W W':World}{v:Value}{l:List Row}(h:RwA W3 W v l)(hb:zB W W'):RwA W3 W' v l:=by
 obtain⟨⟨L,hL,hA⟩,hl⟩:=h;exact⟨⟨L,hL.keep hb,hA⟩,hl.trans (hb.mono hl.size)⟩
theorem RwA.push {W3 W:World}{v:Value}{l:List Row}(h:RwA W3 W v l)(hd:l.length≤500000)(y:Row)(a:Option Addr×Nat×Nat)(hA:Ss W3 (aV a) y.2.2.1)(C:Array Value)(hC:C=(ai (y.1,y.2.1,a,y.2.2.2)).toArray):
  ∃v' w',(CE #[v,.slice (some ⟨W.heap.size,0,none⟩) 1 1]).run Tryz.prog (W.alloc (.cells C 33))=.ok (.value v') w'∧RwA W3 w' v' (l++ [y]):=by
 have b1:=ae W (.cells C 33);obtain⟨⟨L,hL,hAA⟩,hl⟩:=h.keep b1;obtain⟨i0,hi,hz0,hz1,hz2⟩:=Rj KO;have hu:Fs 4 ai (W.alloc (.cells C 33)) (.slice (some ⟨W.heap.size,0,none⟩) 1 1) [(y.1,y.2.1,a,y.2.2.2)]:=by
  have:=dS gX W 33 [(y.1,y.2.1,a,y.2.2.2)];rw[dU,←hC]at this;exact this
 obtain⟨v',w',hr,ho,hg,-⟩:=mM gX xH (by decide) Tryz.underlying25 hi hz0 hz1 hz2 rfl (by decide) hL hu hl.size (by rw[hAA.1];simp;omega);refine⟨v',w',?_,⟨_,ho,hAA.snoc ⟨rfl,rfl,rfl,hA⟩⟩,?_⟩
 ·exact Jf hr
 ·exact hl.grown hg hl.size (fun j e=>(hL.ty e).1)
theorem RwA.fin {W3 W:World}{v:Value}{l:List Row}(h:RwA W3 W v l):Rws W v l:=by
 obtain⟨⟨L,hL,hA⟩,hl⟩:=h;exact⟨L,ag.sl gX hL,hA.mono fun v a ha=>ha.below hl⟩
theorem RwA.len {W3 W:World}{v:Value}{l:List Row}(h:RwA W3 W v l):∃a cap,v=.slice a l.length cap:=h.fin.len
section
attribute [local go_sem ↓ high] jl aX aW
theorem wrap_add (a b:Int):IntKind.i64.wrap (IntKind.i64.wrap a+b)=IntKind.i64.wrap (a+b):=by
 simp[IntKind.wrap,IntKind.bits,IntKind.signed];omega
theorem JG {l:List (List UInt8)}{p:Nat}{x:List UInt8}(hx:l[p]? =some x):tot (l.take (p+1))=tot (l.take p)+x.length:=by
 rw[Q7,hx];exact Av _ _
theorem GI {l:List (List UInt8)}{p:Nat}{x:List UInt8}(hx:l[p]? =some x):eD (l.take (p+1))=eD (l.take p)++ [32]++qt x:=by
 rw[Q7,hx];show eD (l.take p++ [x])=_;rw[GH];simp
theorem JF (l:List (List UInt8))(p:Nat):tot (l.take p)≤tot l:=by
 have h:tot (l.take p++l.drop p)=tot (l.take p)+tot (l.drop p):=by unfold tot;rw[Si,List.sum_append]
 rw[Rs]at h;omega
end
theorem xD (s:List UInt8)(w:World):Calls Tryz.prog 39 #[.string ⟨s.toArray⟩] w fun e w'=>e=.returned (.bool (ptd s))∧w=w':=by
 have hsz:=ay s
 cases s with
 | nil=>
  have h0:¬(0:Int)<0:=by omega
  go_enter Tryz.func39,Tryz.ntmps39
  go_wp2_with fail
  go_ret;exact⟨rfl,rfl⟩
 | cons c t=>
  have k1:∀W,(Instr.index 9 (.string ⟨(c::t).toArray⟩) (.int .i64 0)).run Tryz.prog W=.ok (.int .u8 (c.toNat:Int)) W:=dX (c::t) 0 c rfl;obtain⟨S,hS⟩:∃S,c::t=S:=⟨_,rfl⟩;have hl:(0:Int)<(S.length:Int):=by rw[←hS];simp
  have hl2:decide ((0:Int)<(S.length:Int))=true:=Q6 hl;have hl3:decide (0<S.length)=true:=Q6 (by omega);have HP:Hid (ptd S=(((c.toNat:Int)==46)|| ((c.toNat:Int)==39))):=zH (by
   rw[←hS];apply bH;simp only[ptd,Bool.or_eq_true,SQ]
   constructor
   ·rintro(rfl | rfl)
    ·exact .inl rfl
    ·exact .inr rfl
   ·rintro(h | h)
    ·exact .inl (Sq.1 (by have:c.toNat=46:=(by omega);exact this))
    ·exact .inr (Sq.1 (by have:c.toNat=39:=(by omega);exact this)))
  rw[hS]at k1 hsz⊢;obtain⟨q1,hq1⟩:∃q,((c.toNat:Int)==46)=q:=⟨_,rfl⟩;obtain⟨q2,hq2⟩:∃q,((c.toNat:Int)==39)=q:=⟨_,rfl⟩;rw[hq1,hq2]at HP;generalize (c.toNat:Int)=x at k1 hq1 hq2;clear hS;rw[HP.out];go_enter Tryz.func39,Tryz.ntmps39
  cases q1
  ·go_wp2_with fail
   go_ret;exact⟨aF (by simp),rfl⟩
  ·go_wp2_with fail
   go_ret;exact⟨aF (by simp),rfl⟩
def rowLen (y:Row):Nat:=2+y.2.1.length+y.2.2.2.length+(3*y.2.2.1.length+tot y.2.2.1)
def aG (l:List Row):Nat:=(l.map rowLen).sum
theorem pE {l:List Row}{p:Nat}{y:Row}(hy:l[p]? =some y):aG (l.take (p+1))=aG (l.take p)+rowLen y:=by
 rw[Q7,hy];simp[aG]
theorem w64 (n:Int):wrap64 n=IntKind.i64.wrap n:=by unfold wrap64;exact(IntKind.wrap_i64 n).symm
theorem Rws.drewN {w:World}{v:Value}{l:List Row}(h:Rws w v l)(m:Nat):Rws (w.drewN m) v l:=h.below (below_drewN (QA _ _) m)
theorem Du (l:List Row)(v:Value)(w:World)(hv:Rws w v l)(hl:l.length≤4000000000000000000)(ha:∀y∈l,y.2.2.1.length≤4000000000000000000):
  Calls Tryz.prog 13 #[v] w fun e w'=>e=.returned (.int .i64 (IntKind.i64.wrap (aG l:Int)))∧ ∃m,w'=w.drewN m:=by
 have HV:=zH hv;have HA:=zH ha;obtain⟨aa,ca,rfl⟩:=hv.len;obtain⟨R,hR⟩:∃R,IntKind.i64.wrap (aG l:Int)=R:=⟨_,rfl⟩;rw[hR];have HR:=zH hR;clear hv ha hR;go_enter Tryz.func13,Tryz.ntmps13
 go_wp2_with fail
 go_loopw [3,4] (fun n i wr=> ∃(p m:Nat) (z:Int),wr=w.drewN m∧n=.int .i64 z∧i=.int .i64 (p:Int)∧p≤l.length∧z=IntKind.i64.wrap (aG (l.take p):Int)) (fun _ i _=>l.length-(intOf i).toNat)
 case atStart=>exact⟨0,0,0,rfl,rfl,rfl,by omega,by simp[aG,IntKind.wrap,IntKind.bits,IntKind.signed]⟩
 case round=>
  obtain⟨p,m,z,hwr,rfl,rfl,hp,hz⟩:=hrel;have HW:=zH hwr;have HZ:=zH hz;clear hwr hz
  by_cases hlt:p<l.length
  ·obtain⟨y,hy⟩:∃y,l[p]? =some y:=⟨l[p],Qw hlt⟩
   have HY:=zH hy;have hlt':(p:Int)<(l.length:Int):=by omega
   have hp0:(0:Int)≤(p:Int):=by omega
   obtain⟨wd,hwd⟩:∃wd,w.drewN m=wd:=⟨_,rfl⟩;have hvd:Rws wd (.slice aa l.length ca) l:=hwd▸HV.out.drewN m;obtain⟨g,off,rfl,c0,c1,⟨a1,n1,p1,c2,s2⟩,c3⟩:=hvd.at hy;have hwr:wr=wd:=HW.out.trans hwd;subst hwr;have HWD:=zH hwd;clear hwd hvd hy HW s2 c2 c0;have hyl:=HA.out y (Ri.2 ⟨p,HY.out⟩);obtain⟨y0,y1,y2,y3⟩:=y;simp only at c1 c3 hyl;have hs1:=ay y1;have hs3:=ay y3;go_wp2_with fail
   go_quiet (fail)
   go_wp2
   go_loopw [3,5] (fun n k wr3=> ∃(q m3:Nat) (z3:Int),wr3=w.drewN m3∧n=.int .i64 z3∧k=.int .i64 (q:Int)∧q≤y2.length∧z3=IntKind.i64.wrap ((aG (l.take p):Int)+(2+(y1.length:Int)+(y3.length:Int)+(3*(q:Int)+(tot (y2.take q):Int))))) (fun _ k _=>y2.length-(intOf k).toNat)
   case atStart=>
    refine⟨0,_,_,by rw[←HWD.out,ky],rfl,rfl,by omega,?_⟩;have hz:=HZ.out;have ht:tot (y2.take 0)=0:=by simp[tot]
    rw[ht,w64,w64,w64,hz,wrap_add _ 2,wrap_add _ (y1.length:Int),wrap_add _ (y3.length:Int)]
    congr 1
    omega
   case round=>
    obtain⟨q,m3,z3,hwr3,rfl,rfl,hq,hz3⟩:=hrel;have HZ3:=zH hz3;have HW3:=zH hwr3;obtain⟨wd3,hwd3⟩:∃wd,w.drewN m3=wd:=⟨_,rfl⟩;have hvd:Rws wd3 (.slice (some ⟨g,off,none⟩) l.length ca) l:=hwd3▸HV.out.drewN m3;obtain⟨g',off',hgo,-,-,⟨a1,n1,p1,c2,s2⟩,-⟩:=hvd.at HY.out;injection hgo with hgo
    injection hgo with hg1 hg2
    subst hg1 hg2;have hwr:wr=wd3:=hwr3.trans hwd3;subst hwr;have HWD3:=zH hwd3;obtain⟨a',c',hsl⟩:=s2.len;injection hsl with e1 e2 e3
    subst e1 e2 e3;simp only at c2 s2;clear hwd3 hvd hz3 hwr3 HWD
    by_cases hql:q<y2.length
    ·obtain⟨x,hx⟩:∃x,y2[q]? =some x:=⟨y2[q],Qw hql⟩
     obtain⟨g2,off2,rfl,d0⟩:=Ss.at s2 hx;have HT:=zH (JG hx);have hql':(q:Int)<(y2.length:Int):=by omega
     have hq0:(0:Int)≤(q:Int):=by omega
     have hxs:=ay x;clear hx s2;go_wp2_with fail
     go_roundw
     case rel=>
      refine⟨q+1,m3,_,HW3.out,rfl,by go_num,by omega,?_⟩;have hz:=HZ3.out;rw[HT.out,w64,w64,hz,wrap_add _ 3,wrap_add _ (x.length:Int)]
      congr 1
      omega
     case measure=>simp[intOf];omega
    ·obtain rfl:q=y2.length:=by omega
     have hql':¬(y2.length:Int)<(y2.length:Int):=by omega
     have HT:=zH (pE HY.out);clear s2;go_wp2_with fail
     go_roundw
     case rel=>
      refine⟨p+1,m3,z3,HW3.out,rfl,by go_num,by omega,?_⟩;have hz:=HZ3.out;rw[QT]at hz;rw[HT.out,hz];unfold rowLen
      first | (congr 1;done)| (congr 1;omega)
     case measure=>simp[intOf];omega
  ·obtain rfl:p=l.length:=by omega
   have hlt':¬(l.length:Int)<(l.length:Int):=by omega
   have hzz:z=R:=by have:=HZ.out;rw[QT]at this;rw[this,HR.out]
   clear HZ HR;go_wp2_with fail
   go_ret;exact⟨rfl,_,HW.out⟩
section
attribute [local go_sem ↓ high] aX aW
theorem QUt {P:Prop}(h:P:=by
 go_wp2_with (first
  | (go_at_call 38;refine(C1.out _).mono ?_;rintro e w1 ⟨rfl,m1,rfl⟩)
  | (go_at_call 39;refine(P1.out _).mono ?_;rintro e w1 ⟨rfl,rfl⟩))
 go_ret;exact⟨rfl,HB.out _⟩):P:=h
theorem AZ (n:Int)(a:Option Addr×Nat×Nat)(l:List (List UInt8))(t:List UInt8)(w:World)(hv:Ss w (aV a) l)(ht:t.length≤4000000000000000000):
  Calls Tryz.prog 16 #[Dq n [] a t] w fun e w'=>e=.returned (.int .i64 (if isT [] l t then 0 else 2))∧zB w w':=by
 obtain⟨a0,a1,a2⟩:=a;obtain⟨aa,ca,hav,-,-⟩:=hv;unfold aV at hav;simp only at hav;injection hav with h1 h2 h3
 subst h1 h2 h3;unfold Dq aV;simp only;have P1:=zH (fun W=>xD t W);have C1:=zH (fun W=>qH t [10,92] W ht (by decide));rw[show t.any (([10,92]:List UInt8).contains ·)=LM t from rfl]at C1;have E1:∀W,(iB (.string ⟨#[]⟩) (.string ⟨#[]⟩)).run Tryz.prog W=.ok (.bool true) W:=cz [] [];have hsz:=ay t
 by_cases hl:l=[]
 ·subst hl
  have hT:isT [] [] t=(!ptd t&& !(t.getLast? ==some 13)&& !LM t):=by unfold isT;simp
  rw[hT];clear hT;obtain⟨p,hp⟩:∃p,ptd t=p:=⟨_,rfl⟩;obtain⟨c,hc⟩:∃c,LM t=c:=⟨_,rfl⟩;rw[hp]at P1⊢;rw[hc]at C1⊢;clear hp hc;have HB:=zH (fun m=>below_drewN (ae w (.cells #[.int .i64 n,.string ⟨#[]⟩,.slice a0 0 a2,.string ⟨t.toArray⟩] 33)) m)
  cases c
  ·cases p
   ·rcases jE t with rfl | ⟨u,x,htx⟩
    ·go_enter Tryz.func16,Tryz.ntmps16
     exact QUt
    ·have hlen:t.length=u.length+1:=by rw[htx];simp
     have hx:t[t.length-1]? =some x:=by
      rw[hlen,htx];simp
     have hlast:(t.getLast? ==some 13)=(x==13):=by rw[htx];simp
     have k1:∀W,(Instr.index 9 (.string ⟨t.toArray⟩) (.int .i64 ((t.length:Int)-1))).run Tryz.prog W=.ok (.int .u8 (x.toNat:Int)) W:=by
      have h:=dX t (t.length-1) x hx;have c:((t.length-1:Nat):Int)=(t.length:Int)-1:=by omega
      rw[c]at h;exact h
     have hw:IntKind.i64.wrap ((t.length:Int)-1)=(t.length:Int)-1:=by
      rw[IntKind.wrap_i64];omega
     have hl1:decide ((0:Int)<(t.length:Int))=true:=Q6 (by omega);have hl2:decide (0<t.length)=true:=Q6 (by omega);rw[hlast];clear hlast hx htx hlen
     by_cases h13:x=13
     ·subst h13
      have k1':∀W,(Instr.index 9 (.string ⟨t.toArray⟩) (.int .i64 ((t.length:Int)-1))).run Tryz.prog W=.ok (.int .u8 13) W:=k1;clear k1;rw[show(if(!false&& !((13:UInt8)==13)&& !false)=true then(0:Int) else 2)=2 from rfl];go_enter Tryz.func16,Tryz.ntmps16
      exact QUt
     ·have hne:((x.toNat:Int)==13)=false:=fZ h13
      have hne2:(x==13)=false:=by simpa using h13
      rw[hne2];clear hne2 h13;go_enter Tryz.func16,Tryz.ntmps16
      exact QUt
   ·rw[show(if(!true&& !(t.getLast? ==some 13)&& !false)=true then(0:Int) else 2)=2 by simp]
    go_enter Tryz.func16,Tryz.ntmps16
    exact QUt
  ·rw[show(if(!p&& !(t.getLast? ==some 13)&& !true)=true then(0:Int) else 2)=2 by simp]
   go_enter Tryz.func16,Tryz.ntmps16
   go_wp2_with (go_at_call 38;refine(C1.out _).mono ?_;rintro e w1 ⟨rfl,m1,rfl⟩)
   go_ret;exact⟨rfl,HB.out _⟩
 ·have hl0:(0:Int)<(l.length:Int):=by
   have:0<l.length:=Rh.2 hl;omega
  have hl1:decide ((0:Int)<(l.length:Int))=true:=Q6 hl0;have hl2:decide (0<l.length)=true:=Q6 (by omega);have hT:isT [] l t=false:=by unfold isT;rw[QQ hl];simp
  rw[hT];go_enter Tryz.func16,Tryz.ntmps16
  go_wp2_with fail
  go_ret;exact⟨rfl,ae w _⟩
theorem A7 (n:Int)(m:List UInt8)(a:Option Addr×Nat×Nat)(l:List (List UInt8))(t:List UInt8)(w:World)(hv:Ss w (aV a) l)(hne:m≠ [])(hm:m.length≤4000000000000000000)(ha:∀x∈l,x.length≤4000000000000000000):
  Calls Tryz.prog 16 #[Dq n m a t] w fun e w'=>e=.returned (.int .i64 (if isM m l t then 0 else 2))∧zB w w':=by
 have HV0:=zH hv;obtain⟨a0,a1,a2⟩:=a;obtain⟨aa,ca,hav,-,-⟩:=hv;unfold aV at hav HV0;simp only at hav HV0;injection hav with h1 h2 h3
 subst h1 h2 h3;unfold Dq aV;simp only;have P1:=zH (fun W=>xD m W);have C1:=zH (fun W=>qH m [32,9,10,13,92,34] W hm (by decide));rw[show m.any (([32,9,10,13,92,34]:List UInt8).contains ·)=LP m from rfl]at C1;have D1:Hid (∀x∈l,∀W,Calls Tryz.prog 38 #[.string ⟨x.toArray⟩,.string ⟨#[10,13,92]⟩] W fun e w'=>e=.returned (.bool (qZ x))∧ ∃m,w'=W.drewN m):=zH (fun x hx W=>qH x [10,13,92] W (ha x hx) (by decide));have E1:∀W,(iB (.string ⟨m.toArray⟩) (.string ⟨#[]⟩)).run Tryz.prog W=.ok (.bool false) W:=fun W=>by
  have h:=cz m [] W;rw[QQ hne]at h;exact h
 have N2:=jb t [];have hM:isM m l t=(decide (t=[])&& !ptd m&& !LP m&&decide (l.length≤200)&& !(l.any qZ)):=by unfold isM;rw[QQ hne];simp
 rw[hM];clear hM hne ha;obtain⟨p,hp⟩:∃p,ptd m=p:=⟨_,rfl⟩;obtain⟨c,hc⟩:∃c,LP m=c:=⟨_,rfl⟩;obtain⟨e1,he1⟩:∃e,decide (t=[])=e:=⟨_,rfl⟩;rw[hp]at P1⊢;rw[hc]at C1⊢;rw[he1]at N2⊢;clear hp hc he1;have hblow:=ae w (.cells #[.int .i64 n,.string ⟨m.toArray⟩,.slice a0 l.length a2,.string ⟨t.toArray⟩] 33);have HV:=zH (HV0.out.below hblow);have HB:=zH (fun k=>below_drewN hblow k);clear hblow HV0
 cases c
 ·cases p
  ·cases e1
   ·rw[show(if(false&& !false&& !false&&decide (l.length≤200)&& !l.any qZ)=true then(0:Int) else 2)=2 from rfl]
    go_enter Tryz.func16,Tryz.ntmps16
    exact QUt
   ·by_cases h200:l.length≤200
    ·obtain⟨R,hR⟩:∃R:Int,(if(true&& !false&& !false&&decide (l.length≤200)&& !l.any qZ)=true then(0:Int) else 2)=R:=⟨_,rfl⟩
     rw[hR];rw[Q6 h200]at hR;have HR:=zH hR;have hz:¬(200:Int)<(l.length:Int):=by omega
     clear hR;go_enter Tryz.func16,Tryz.ntmps16
     go_wp2_with (first
      | (go_at_call 38;refine(C1.out _).mono ?_;rintro e w1 ⟨rfl,m1,rfl⟩)
      | (go_at_call 39;refine(P1.out _).mono ?_;rintro e w1 ⟨rfl,rfl⟩))
     go_loopw [3] (fun i wr=> ∃q k:Nat,wr=(w.alloc (.cells #[.int .i64 n,.string ⟨m.toArray⟩,.slice a0 l.length a2,.string ⟨t.toArray⟩] 33)).drewN k∧i=.int .i64 (q:Int)∧q≤l.length∧(l.take q).any qZ=false) (fun i _=>l.length-(intOf i).toNat)
     case atStart=>exact⟨0,_,rfl,rfl,by omega,by simp⟩
     case round=>
      obtain⟨q,k,rfl,rfl,hq,hno⟩:=hrel;have HN:=zH hno;clear hno
      by_cases hlt:q<l.length
      ·obtain⟨x,hx⟩:∃x,l[q]? =some x:=⟨l[q],Qw hlt⟩
       have HX:=zH hx;obtain⟨g,off,rfl,c0⟩:=Ss.at (KX HV.out k) hx;have D2:=zH (D1.out x (Ri.2 ⟨q,hx⟩));have hlt':(q:Int)<(l.length:Int):=by omega
       have hq0:(0:Int)≤(q:Int):=by omega
       obtain⟨b,hb⟩:∃b,qZ x=b:=⟨_,rfl⟩;rw[hb]at D2;have HBB:=zH hb;clear hx hb;go_wp2_with fail
       refine(D2.out _).mono ?_;rintro e w1 ⟨rfl,m1,rfl⟩;clear D2
       cases b
       ·go_wp2_with fail
        go_roundw
        case rel=>exact⟨q+1,_,by first | rfl | rw[ky],by go_num,by omega,Mj HN.out HX.out HBB.out⟩
        case measure=>simp[intOf];omega
       ·have hh:l.any qZ=true:=Ob HX.out HBB.out
        have hr2:R=2:=by rw[←HR.out,hh];rfl
        subst hr2;clear hh HR;go_wp2_with fail
        go_ret;exact⟨rfl,by first | exact HB.out _ | (rw[ky];exact HB.out _)⟩
      ·obtain rfl:q=l.length:=by omega
       have hlt':¬(l.length:Int)<(l.length:Int):=by omega
       have hall:l.any qZ=false:=by have:=HN.out;rwa [QT]at this
       have hr2:R=0:=by rw[←HR.out,hall];rfl
       subst hr2;clear hall HR HN;go_wp2_with fail
       go_ret;exact⟨rfl,HB.out _⟩
    ·have hz:(200:Int)<(l.length:Int):=by omega
     rw[show(if(true&& !false&& !false&&decide (l.length≤200)&& !l.any qZ)=true then(0:Int) else 2)=2 by rw[QQ h200];simp];go_enter Tryz.func16,Tryz.ntmps16
     exact QUt
  ·rw[show(if(e1&& !true&& !false&&decide (l.length≤200)&& !l.any qZ)=true then(0:Int) else 2)=2 by simp]
   go_enter Tryz.func16,Tryz.ntmps16
   exact QUt
 ·rw[show(if(e1&& !p&& !true&&decide (l.length≤200)&& !l.any qZ)=true then(0:Int) else 2)=2 by simp]
  go_enter Tryz.func16,Tryz.ntmps16
  go_wp2_with (go_at_call 38;refine(C1.out _).mono ?_;rintro e w1 ⟨rfl,m1,rfl⟩)
  go_ret;exact⟨rfl,HB.out _⟩
theorem uH (n:Int)(m:List UInt8)(a:Option Addr×Nat×Nat)(l:List (List UInt8))(t:List UInt8)(w:World)(hv:Ss w (aV a) l)(hm:m.length≤4000000000000000000)(ht:t.length≤4000000000000000000)(ha:∀x∈l,x.length≤4000000000000000000):
  Calls Tryz.prog 16 #[Dq n m a t] w fun e w'=>e=.returned (.int .i64 (if gQ m l t then 0 else 2))∧zB w w':=by
 by_cases hne:m=[]
 ·subst hne
  have h:=AZ n a l t w hv ht;have e:gQ [] l t=isT [] l t:=by unfold gQ isM;simp
  rw[e];exact h
 ·have h:=A7 n m a l t w hv hne hm ha
  have e:gQ m l t=isM m l t:=by unfold gQ isT;rw[QQ hne];simp
  rw[e];exact h
end
section
attribute [local go_sem ↓ high] aX aW jl
def wr1 (y:Row):List UInt8:=if gQ y.2.1 y.2.2.1 y.2.2.2 then(if y.2.1=[] then y.2.2.2++ [10] else 46::(y.2.1++eD y.2.2.1)++ [10]) else []
def wrs (l:List Row):List UInt8:=l.flatMap wr1
theorem Jo {l:List Row}{p:Nat}{y:Row}(hy:l[p]? =some y):wrs (l.take (p+1))=wrs (l.take p)++wr1 y:=by
 rw[Q7,hy];simp[wrs]
theorem Mw (y:Row):(wr1 y).length≤2*rowLen y:=by
 have h:=AQ y.2.2.1;unfold wr1 rowLen
 split
 ·split
  ·simp;omega
  ·simp;omega
 ·simp
theorem yC (l:List Row):(wrs l).length≤2*aG l:=by
 induction l with
 | nil=>simp[wrs]
 | cons y l ih=>
  have:=Mw y;simp only[wrs,aG,Tj,Q5,Sb,QE]at ih⊢;omega
theorem yY (l:List Row)(p:Nat):aG (l.take p)≤aG l:=by
 have h:aG (l.take p++l.drop p)=aG (l.take p)+aG (l.drop p):=by unfold aG;rw[Si,List.sum_append]
 rw[Rs]at h;omega
theorem iR {l:List Row}{y:Row}(h:y∈l):rowLen y≤aG l:=by
 induction l with
 | nil=>simp at h
 | cons z l ih=>
  simp only[aG,Q5,Sb]at ih⊢;rcases Q8.1 h with rfl | h
  ·omega
  ·have:=ih h
   omega
theorem ze (l:List Row)(v:Value)(w:World)(hv:Rws w v l)(hs:aG l≤2000)(hl:l.length≤2000):
  Calls Tryz.prog 18 #[v] w fun e w'=>e=.returned (.string ⟨(wrs l).toArray⟩)∧zB w w':=by
 have HV:=zH hv;obtain⟨aa,ca,rfl⟩:=hv.len;have HL:=zH (yC);clear hv;go_enter Tryz.func18,Tryz.ntmps18
 go_wp2_with fail
 go_loopw [3,4] (fun s i wr=> ∃p:Nat,i=.int .i64 (p:Int)∧p≤l.length∧s=.string ⟨(wrs (l.take p)).toArray⟩∧zB w wr) (fun _ i _=>l.length-(intOf i).toNat)
 case atStart=>exact⟨0,rfl,by omega,rfl,QA _ _⟩
 case round=>
  obtain⟨p,rfl,hp,rfl,hb⟩:=hrel;have BB:=zH hb;clear hb
  by_cases hlt:p<l.length
  ·obtain⟨y,hy⟩:∃y,l[p]? =some y:=⟨l[p],Qw hlt⟩
   have HN:=zH (Jo hy);have hyl:=iR (Ri.2 ⟨p,hy⟩);have hw1:=yC (l.take p);have hw2:=yY l p;obtain⟨s,hse⟩:∃s,wrs (l.take p)=s:=⟨_,rfl⟩;rw[hse]at hw1 HN⊢;obtain⟨g,off,rfl,c0,c1,⟨a1,n1,p1,c2,s2⟩,c3⟩:=(HV.out.below BB.out).at hy;have hlt':(p:Int)<(l.length:Int):=by omega
   have hp0:(0:Int)≤(p:Int):=by omega
   unfold rowLen at hyl;obtain⟨y0,y1,y2,y3⟩:=y;simp only at c0 c1 c2 c3 s2 hyl;have hel:∀x∈y2,x.length≤2000:=fun x hx=>by have:=EY hx;omega
   have hC:=uH y0 y1 (a1,n1,p1) y2 y3 _ s2 (by omega) (by omega) (fun x hx=>by have:=hel x hx;omega);have HC:=zH hC;unfold Dq aV at HC;have HEL:=zH hel;have HS2:=zH s2;clear hC hel hse hy s2;go_wp2_with fail
   refine HC.out.mono ?_;rintro e w1 ⟨rfl,b1⟩;have e1:=(b1.cell (QJ wr _ c1)).trans c1;have e2:=(b1.cell (QJ wr _ c2)).trans c2;have e3:=(b1.cell (QJ wr _ c3)).trans c3;have V1:=zH (HS2.out.below b1);have B1:=zH (BB.out.trans (b1.mono BB.out.size));clear b1 HC HS2 BB c0 c1 c2 c3;obtain⟨q,hq⟩:∃q,gQ y1 y2 y3=q:=⟨_,rfl⟩;rw[hq];have HQ:=zH hq;clear hq
   cases q
   ·have hnil:wr1 (y0,y1,y2,y3)=[]:=by unfold wr1;simp only;rw[HQ.out];rfl
    rw[hnil,QW]at HN;clear hnil;go_wp2_with fail
    go_roundw
    case rel=>exact⟨p+1,by go_num,by omega,by rw[HN.out],B1.out⟩
    case measure=>simp[intOf];omega
   ·by_cases hm:y1=[]
    ·subst hm
     have E1:∀W,(iB (.string ⟨#[]⟩) (.string ⟨#[]⟩)).run Tryz.prog W=.ok (.bool true) W:=cz [] [];have k1:=ig s y3 (by omega);have k2:=ig (s++y3) [10] (by simp;omega);have hnl:wr1 (y0,[],y2,y3)=y3++ [10]:=by unfold wr1;simp only;rw[HQ.out];rfl
     rw[hnl]at HN;obtain⟨s1,hs1⟩:∃t,s++y3=t:=⟨_,rfl⟩;rw[hs1]at k1 k2;have HS1:=zH hs1;clear hs1 hnl;go_wp2_with fail
     go_roundw
     case rel=>exact⟨p+1,by go_num,by omega,by rw[HN.out,←HS1.out];simp,B1.out⟩
     case measure=>simp[intOf];omega
    ·have E1:∀W,(iB (.string ⟨y1.toArray⟩) (.string ⟨#[]⟩)).run Tryz.prog W=.ok (.bool false) W:=fun W=>by
      have h:=cz y1 [] W;rw[QQ hm]at h;exact h
     have hnl:wr1 (y0,y1,y2,y3)=46::(y1++eD y2)++ [10]:=by unfold wr1;simp only;rw[HQ.out,QP rfl,QG hm]
     rw[hnl]at HN;have k1:=ig s [46] (by simp;omega);have k2:=ig (s++ [46]) y1 (by simp;omega);obtain⟨t1,ht1⟩:∃t,s++ [46]=t:=⟨_,rfl⟩;obtain⟨t2,ht2⟩:∃t,s++ [46]++y1=t:=⟨_,rfl⟩;have ht2l:t2.length≤8000:=by rw[←ht2];simp;omega
     rw[ht2]at k2;rw[ht1]at k1 k2;have HT2:=zH ht2;clear ht1 ht2 hnl hm;go_wp2_with fail
     go_loopw [3,5] (fun u k wr3=> ∃q:Nat,k=.int .i64 (q:Int)∧q≤y2.length∧u=.string ⟨(t2++eD (y2.take q)).toArray⟩∧zB w1 wr3) (fun _ k _=>y2.length-(intOf k).toNat)
     case atStart=>exact⟨0,rfl,by omega,by simp[pz],QA _ _⟩
     case round=>
      obtain⟨q,rfl,hq,rfl,hb3⟩:=hrel;have B3:=zH hb3;have d2:=(hb3.cell (QJ w1 _ e2)).trans e2;obtain⟨a',c',hsl⟩:=V1.out.len;injection hsl with f1 f2 f3
      subst f1 f2 f3;have hsq:=AQ (y2.take q);have htk:=JF y2 q;rw[QN]at hsq;clear hb3
      by_cases hql:q<y2.length
      ·obtain⟨x,hx⟩:∃x,y2[q]? =some x:=⟨y2[q],Qw hql⟩
       have hxl:=HEL.out x (Ri.2 ⟨q,hx⟩);obtain⟨g2,off2,rfl,d0⟩:=Ss.at (V1.out.below B3.out) hx;have hql':(q:Int)<(y2.length:Int):=by omega
       have hq0:(0:Int)≤(q:Int):=by omega
       have HSN:=zH (GI hx);have hdl:=(lJ x).2;have RQ:=zH (fun W=>AV x W (by omega));have k3:=ig (t2++eD (y2.take q)) [32] (by simp;omega);have k4:=ig (t2++eD (y2.take q)++ [32]) (qt x) (by simp[qt];omega);obtain⟨u1,hu1⟩:∃t,t2++eD (y2.take q)=t:=⟨_,rfl⟩;rw[hu1]at k3 k4⊢;obtain⟨u2,hu2⟩:∃t,u1++ [32]=t:=⟨_,rfl⟩;rw[hu2]at k3 k4;have HU1:=zH hu1;have HU2:=zH hu2;clear hx hu1 hu2 hsq htk hdl;go_wp2_with (go_at_call 41;refine(RQ.out _).mono ?_;rintro e w' ⟨rfl,rfl⟩)
       go_roundw
       case rel=>exact⟨q+1,by go_num,by omega,by rw[HSN.out,←HU2.out,←HU1.out];simp,B3.out⟩
       case measure=>simp[intOf];omega
      ·obtain rfl:q=y2.length:=by omega
       have hql':¬(y2.length:Int)<(y2.length:Int):=by omega
       rw[QT]at hsq⊢;have k3:=ig (t2++eD y2) [10] (by simp;omega);have B4:=zH (B1.out.trans (B3.out.mono B1.out.size));obtain⟨u1,hu1⟩:∃t,t2++eD y2=t:=⟨_,rfl⟩;rw[hu1]at k3⊢;have HU1:=zH hu1;clear hu1 hsq htk;go_wp2_with fail
       go_roundw
       case rel=>exact⟨p+1,by go_num,by omega,by rw[HN.out,←HU1.out,←HT2.out];simp,B4.out⟩
       case measure=>simp[intOf];omega
  ·obtain rfl:p=l.length:=by omega
   have hlt':¬(l.length:Int)<(l.length:Int):=by omega
   rw[QT];go_wp2_with fail
   go_ret;exact⟨rfl,BB.out⟩
end
def ln1 (y:Row):List UInt8:=if y.2.1=[] then y.2.2.2 else 46::(y.2.1++eD y.2.2.1)
theorem OA {y:Row}(h:gQ y.2.1 y.2.2.1 y.2.2.2=true):wr1 y=ln1 y++ [10]:=by
 unfold wr1 ln1;rw[QP h]
 split<;>rfl
structure Qo (m:List UInt8)(l:List (List UInt8))(t:List UInt8):Prop where
 m:m=[]
 l:l=[]
 pt:ptd t=false
 cr:t.getLast? ≠some 13
 bad:LM t=false
theorem Na {y:Row}(h:gQ y.2.1 y.2.2.1 y.2.2.2=true):Qo y.2.1 y.2.2.1 y.2.2.2∨(Mac y.2.1 y.2.2.1∧y.2.2.2=[]):=by
 by_cases hm:y.2.1=[]
 ·left
  unfold gQ isT isM at h;have e:decide (y.2.1=[])=true:=Q6 hm;rw[e]at h;simp only[Tq,Bool.not_true,Tf,Bool.or_false,RN,Bool.not_eq_true',SN]at h;exact⟨hm,h.1.1.1,h.1.1.2,fun e=>by rw[e]at h;simp at h,h.2⟩
 ·right
  have ht:y.2.2.2=[]:=by
   unfold gQ isT isM at h;have e:decide (y.2.1=[])=false:=QQ hm;rw[e]at h;simp only[Tf,Bool.false_or,Bool.not_false,Tq,RN,Bool.not_eq_true',SN]at h;exact h.1.1.1.1
  rw[ht]at h;exact⟨Mac.of hm h,ht⟩
structure Jn (y:Row):Prop where
 n10:(10:UInt8)∉ln1 y
 n92:(92:UInt8)∉ln1 y
 cr:cr (ln1 y)=ln1 y
 tell:aT 1 (ln1 y)=([(1,y.2)],[])
theorem PU {y:Row}(h:gQ y.2.1 y.2.2.1 y.2.2.2=true):Jn y:=by
 have hw:=Na h;clear h;rcases hw with h | ⟨h,ht⟩
 ·obtain⟨y0,y1,y2,y3⟩:=y
  obtain⟨rfl,rfl,h3,h4,h5⟩:=h;simp only at h3 h4 h5;have e:ln1 (y0,[],[],y3)=y3:=rfl;refine⟨?_,?_,?_,?_⟩
  ·rw[e];exact jC h5 (c:=10) (by decide)
  ·rw[e];exact jC h5 (c:=92) (by decide)
  ·rw[e]
   rcases jE y3 with rfl | ⟨t,c,rfl⟩
   ·rfl
   ·exact tJ t 13 c (fun e=>h4 (by simp[e]))
  ·rw[e]
   unfold aT;rw[QG (by rw[h3];decide)]
 ·obtain⟨y0,y1,y2,y3⟩:=y
  simp only at h ht;subst ht;have e:ln1 (y0,y1,y2,[])=46::(List.replicate 0 32++(y1++eD y2)):=by
   unfold ln1;rw[QG h.ne];rfl
  refine⟨?_,?_,?_,?_⟩
  ·rw[e];exact zC h (.inl rfl) 0 (.inl rfl)
  ·rw[e];exact zC h (.inl rfl) 0 (.inr (.inr rfl))
  ·rw[e];exact Ls (zC h (.inl rfl) 0 (.inr (.inl rfl)))
  ·rw[e];exact h.tell 46 (.inl rfl) 0
theorem ML {l:List UInt8}{r:List UInt8×List (List UInt8)×List UInt8}(h:aT 1 l=([(1,r)],[]))(q:Int):aT q l=([(q,r)],[]):=by
 have h1:(aT q l).1=[(q,r)]:=by
  have:=MJ (q-1) 1 l;rw[h]at this;have e:(1:Int)+(q-1)=q:=by omega
  rw[e]at this;rw[this];simp only[Q5,Ru,sh,e]
 have h2:(aT q l).2=[]:=by
  have h0:(aT 1 l).2=[]:=by rw[h]
  unfold aT zx at h0⊢
  split
  ·rename_i hp
   rw[QP hp]at h0
   split
   ·rfl
   ·rename_i hq
    rw[QG hq]at h0;simp only[List.append_eq_nil_iff]at h0⊢;refine⟨?_,?_⟩
    ·split
     ·rfl
     ·rename_i hz;rw[QG hz]at h0;simp at h0
    ·split
     ·rename_i hz;rw[QP hz]at h0;simp at h0
     ·rfl
  ·rfl
 rw[←h1,←h2]
def okY (y:Row):Bool:=gQ y.2.1 y.2.2.1 y.2.2.2
def oks (l:List Row):List Row:=l.filter okY
def nums:Nat→List Row→List Row
 | _,[]=>[]
 | n,y::l=>(((n:Int)+1),y.2)::nums (n+1) l
theorem pR:∀(n:Nat) (l:List Row),(nums n l).length=l.length
 | _,[]=>rfl
 | n,y::l=>by simp[nums,pR (n+1) l]
theorem xK:∀(n:Nat) (l:List Row) (y:Row),nums n (l++ [y])=nums n l++ [(((n+l.length:Nat):Int)+1,y.2)]
 | n,[],y=>rfl
 | n,x::l,y=>by
  have:=xK (n+1) l y;simp only[QY,nums,this,QC]
  congr 4
  omega
theorem OO {l:List Row}{y:Row}(h:y∈oks l):gQ y.2.1 y.2.2.1 y.2.2.2=true:=by
 have:=(List.mem_filter.1 h).2;exact this
theorem Mv (l:List Row):wrs l=(oks l).flatMap fun y=>ln1 y++ [10]:=by
 induction l with
 | nil=>rfl
 | cons y l ih=>
  unfold wrs oks at ih⊢;rw[Tj,ih]
  by_cases h:gQ y.2.1 y.2.2.1 y.2.2.2=true
  ·rw[Tn (show okY y=true from h),Tj,OA h]
  ·rw[Tp (show¬okY y=true from h)]
   have:wr1 y=[]:=by unfold wr1;rw[QG h]
   rw[this,Rc]
theorem Gg:∀(L:List Row) (n:Nat) (R:List Row),(∀y∈L,Jn y)→St.all ⟨(n:Int),0,[],R,[]⟩ (L.map ln1)=⟨((n+L.length:Nat):Int),0,[],R++nums n L,[]⟩
 | [],n,R,_=>by simp[St.all,nums]
 | y::L,n,R,h=>by
  have hy:=h y (by simp);have e:St.all ⟨(n:Int),0,[],R,[]⟩ ((y::L).map ln1)=St.all (St.step ⟨(n:Int),0,[],R,[]⟩ (cr (ln1 y))) (L.map ln1):=rfl;rw[e,hy.cr,Dc _ rfl hy.n92];simp only[Rc];rw[ML hy.tell ((n:Int)+1)];simp only[QW];have ih:=Gg L (n+1) (R++ [((n:Int)+1,y.2)]) (fun z hz=>h z (by simp[hz]));have e2:(((n+1:Nat)):Int)=(n:Int)+1:=by omega
  rw[e2]at ih;rw[ih];have e3:n+1+L.length=n+(y::L).length:=by simp;omega
  rw[e3];simp[nums]
theorem Fx:∀(L:List Row) (y:Row),(∀z∈L,Jn z)→Jn y→pcs ((L.flatMap fun z=>ln1 z++ [10])++ln1 y)=L.map ln1++ [ln1 y]
 | [],y,_,hy=>by
  simp only[List.flatMap_nil,Rc,Ru];exact Kb _ hy.n10
 | z::L,y,h,hy=>by
  have ih:=Fx L y (fun x hx=>h x (by simp[hx])) hy;have hz:=h z (by simp);rw[Tj];have e:(ln1 z++ [10]++L.flatMap fun z=>ln1 z++ [10])++ln1 y=ln1 z++10::((L.flatMap fun z=>ln1 z++ [10])++ln1 y):=by simp
  rw[e,Fy _ _ hz.n10,ih];simp
theorem JY (l:List Row):eG (wrs l)=(nums 0 (oks l),[]):=by
 have hok:∀y∈oks l,Jn y:=fun y hy=>PU (OO hy)
 rw[Mv];generalize oks l=L at hok;rcases jE L with rfl | ⟨M,y,rfl⟩
 ·rfl
 ·have hM:∀z∈M,Jn z:=fun z hz=>hok z (by simp[hz])
  have hy:=hok y (by simp);have e:((M++ [y]).flatMap fun z=>ln1 z++ [10])=((M.flatMap fun z=>ln1 z++ [10])++ln1 y)++ [10]:=by simp
  rw[e,J4 (by simp)];unfold pF;rw[JE,Fx M y hM hy];have h0:M.map ln1++ [ln1 y]=(M++ [y]).map ln1:=by simp
  rw[h0];have h1:=Gg (M++ [y]) 0 [] hok;have h2:st0=⟨((0:Nat):Int),0,[],[],[]⟩:=rfl;rw[h2,h1,Gu _ rfl];simp
theorem AX (l:List Row):2*l.length≤aG l:=by
 induction l with
 | nil=>simp[aG]
 | cons y l ih=>
  simp only[aG,Q5,Sb,QC]at ih⊢;unfold rowLen at ih⊢;omega
theorem xL:∀(n:Nat) (l:List Row),nums n (nums n l)=nums n l
 | n,[]=>rfl
 | n,y::l=>by simp[nums,xL (n+1) l]
theorem zk:∀(n:Nat) (l:List Row) (x:Row),x∈nums n l→(n:Int)+1≤x.1∧x.1≤(n:Int)+l.length∧ ∃y∈l,x.2=y.2
 | n,[],x,h=>by simp[nums]at h
 | n,y::l,x,h=>by
  simp only[nums,Q8]at h;rw[QC];rcases h with rfl | h
  ·exact⟨by simp only;omega,by simp only;omega,y,by simp,rfl⟩
  ·obtain⟨h1,h2,z,hz,e⟩:=zk (n+1) l x h
   exact⟨by omega,by omega,z,by simp[hz],e⟩
theorem Nb {x y:Row}(h:x.2=y.2):okY x=okY y:=by
 unfold okY;rw[h]
theorem M7 {l:List Row}(h:∀y∈l,okY y=true):oks l=l:=List.filter_eq_self.2 h
theorem GU {l:List Row}(h:∀y∈l,okY y=true):eG (wrs (nums 0 l))=(nums 0 l,[]):=by
 rw[JY,M7,xL];intro x hx;obtain⟨-,-,y,hy,e⟩:=zk 0 l x hx;rw[Nb e];exact h y hy
theorem Dr {x y:Row}(h:x.2=y.2):rowLen x=rowLen y:=by unfold rowLen;rw[h]
theorem gK:∀(n:Nat) (l:List Row),aG (nums n l)=aG l
 | n,[]=>rfl
 | n,y::l=>by
  have ih:=gK (n+1) l;have h1:∀(a:Row) (m:List Row),aG (a::m)=rowLen a+aG m:=fun a m=>by simp[aG]
  rw[nums,h1,h1,ih,Dr (x:=(((n:Int)+1),y.2)) (y:=y) rfl]
theorem zy:∀l:List Txt,lnT l≤3*l.length+tot l
 | []=>by simp[lnT]
 | t::l=>by
  have ih:=zy l;have e:tot (t::l)=t.length+tot l:=by simp[tot]
  rw[aP,e,QC];omega
theorem JU (y:Row):jU (toM y)+8≤24*rowLen y:=by
 have h:=zy y.2.2.1;unfold jU rowLen;show 4*(y.2.2.2.length+lnT y.2.2.1)+40+8≤_;omega
theorem kU:∀l:List Row,fJ (l.map toM)≤24*aG l
 | []=>by simp[fJ]
 | y::l=>by
  have ih:=kU l;have h1:=JU y;have e1:fJ ((y::l).map toM)=jU (toM y)+fJ (l.map toM):=by simp[fJ]
  have e2:aG (y::l)=rowLen y+aG l:=by simp[aG]
  rw[e1,e2];omega
theorem za {y:Row}(h:rowLen y≤2000):fV (toM y)∧(toM y).mac.length≤100000:=by
 have h1:=zy y.2.2.1;unfold rowLen at h;refine⟨⟨?_,?_,fun s hs=>?_⟩,?_⟩
 ·show y.2.2.2.length≤2000;omega
 ·show lnT y.2.2.1≤40000;omega
 ·have:=zz (show s∈y.2.2.1 from hs)
  omega
 ·show y.2.1.length≤100000;omega
theorem PS (l:List Row)(h:aG l≤1000):PBo okT ((nums 0 l).map toM):=by
 have hn:=gK 0 l;have hnum:=AX l;have hm:∀r∈(nums 0 l).map toM,∃x∈nums 0 l,r=toM x:=fun r hr=>by
  obtain⟨x,hx,e⟩:=S9.1 hr;exact⟨x,hx,e.symm⟩
 have hle:∀x∈nums 0 l,rowLen x≤2000:=fun x hx=>by have:=iR hx;omega
 refine MW (fun r hr=>?_) (fun r hr _=>?_) (fun r hr=>?_) (by have:=kU (nums 0 l);omega)
 ·obtain⟨x,hx,rfl⟩:=hm r hr
  exact(za (hle x hx)).1
 ·obtain⟨x,hx,rfl⟩:=hm r hr
  obtain⟨h1,h2,-⟩:=zk 0 l x hx;show okT x.1;unfold okT;omega
 ·obtain⟨x,hx,rfl⟩:=hm r hr
  exact(za (hle x hx)).2
theorem Nl (l:List Row)(h:aG l≤1000):btl (dE I9 ((nums 0 l).map toM)).b≤24100:=by
 have hn:=gK 0 l;have hm:∀r∈(nums 0 l).map toM,∃x∈nums 0 l,r=toM x:=fun r hr=>by
  obtain⟨x,hx,e⟩:=S9.1 hr;exact⟨x,hx,e.symm⟩
 have hle:∀x∈nums 0 l,rowLen x≤2000:=fun x hx=>by have:=iR hx;omega
 have:=Cw (okl:=fun _=>True) (rs:=(nums 0 l).map toM) (fun r hr=>by obtain⟨x,hx,rfl⟩:=hm r hr;exact(za (hle x hx)).1) (fun _ _ _=>trivial);have:=kU (nums 0 l);omega
theorem Ql (l:List Row)(h:aG l≤1000):(dE I9 ((nums 0 l).map toM)).d.length≤24100:=by
 have hn:=gK 0 l;have hm:∀r∈(nums 0 l).map toM,∃x∈nums 0 l,r=toM x:=fun r hr=>by
  obtain⟨x,hx,e⟩:=S9.1 hr;exact⟨x,hx,e.symm⟩
 have hle:∀x∈nums 0 l,rowLen x≤2000:=fun x hx=>by have:=iR hx;omega
 have:=Pn (okl:=fun _=>True) (rs:=(nums 0 l).map toM) (fun r hr=>by obtain⟨x,hx,rfl⟩:=hm r hr;exact(za (hle x hx)).1) (fun _ _ _=>trivial);have:=kU (nums 0 l);omega
section
attribute [local go_sem ↓ high] jl aX aW wS
theorem BJ {w:World}(hU:U8 w)(hEr:Er w)(hMx:Mx w)(l:List Row)(v:Value)(hv:Rws w v l)(hB:aG l≤4000000):
  Calls Tryz.prog 7 #[v] w fun e W'=>e=.returned (.bool true)∧zB w W':=by
 have hnum:=AX l;have har:∀y∈l,y.2.2.1.length≤4000000000000000000:=fun y hy=>by
  have:=iR hy;unfold rowLen at this;omega
 have hL:=Du l v w hv (by omega) har;have hwr:IntKind.i64.wrap (aG l:Int)=(aG l:Int):=IntWalk.i64_in _ (by omega);rw[hwr]at hL;have HK:Hid (∀W,zB w W→Calls Tryz.prog 8 #[] W fun e w'=>e=.returned (.bool true)∧zB w w'):=
  zH (fun W hb=>(BP (hU.below hb) (hEr.below hb) (hMx.below (Qv _) hb)).mono fun e w' ⟨e1,e2⟩=>⟨e1,hb.trans (e2.mono hb.size)⟩)
 have HU:=zH (fun W (h:zB w W)=>hU.below h);have HE:=zH (fun W (h:zB w W)=>hEr.below h);have HM:=zH (fun W (h:zB w W)=>hMx.below (Qv _) h);have HV:=zH hv;have HL:=zH hL;obtain⟨aa,ca,rfl⟩:=hv.len;clear hMx hU hEr hL hv hwr har;obtain⟨N,hN⟩:∃N,aG l=N:=⟨_,rfl⟩;rw[hN]at HL hnum hB;have HNN:=zH hN;clear hN
 by_cases h2:800<N
 ·have hz:(800:Int)<(N:Int):=by omega
  go_enter Tryz.func7,Tryz.ntmps7
  go_wp2_with fail
  refine HL.out.mono ?_;rintro e w1 ⟨rfl,m,rfl⟩;have B1:=zH (below_drewN (QA w.heap.size w) m);have K2:=zH (HK.out _ B1.out);clear HL;go_wp2_with fail
  refine K2.out.mono ?_;rintro e w2 ⟨rfl,b2⟩;have B2:=zH b2;clear b2 K2;go_wp2_with fail
  go_ret;exact⟨rfl,B2.out⟩
 ·have hz:¬(800:Int)<(N:Int):=by omega
  have hln:l.length≤1000:=by omega
  have H0:=zH (fun m=>(RwA.start w).keep (below_drewN (QA w.heap.size w) m));go_enter Tryz.func7,Tryz.ntmps7
  go_wp2_with fail
  refine HL.out.mono ?_;rintro e w1 ⟨rfl,m,rfl⟩;clear HL;go_wp2_with fail
  go_loopw [3,4] (fun u i wr=> ∃j:Nat,j≤l.length∧i=.int .i64 j∧Hid (∀y∈l.take j,okY y=true)∧Hid (RwA w wr u (nums 0 (l.take j)))) (fun _ i _=>l.length-(intOf i).toNat)
  case atStart=>exact⟨0,by omega,rfl,zH (fun y hy=>by simp at hy),zH (by have h:=H0.out m;simpa[nums] using h)⟩
  case round=>
   obtain⟨j,hj,rfl,HOK,HR⟩:=hrel;clear H0;obtain⟨au,pu,hvu⟩:=HR.out.len;have HKL:Hid ((l.take j).length=j):=zH (by rw[QN];omega);rw[pR,HKL.out]at hvu;subst hvu
   by_cases hlt:j<l.length
   ·obtain⟨y,hy⟩:∃y,l[j]? =some y:=⟨l[j],Qw hlt⟩
    have HSN:Hid (l.take (j+1)=l.take j++ [y]):=zH (by rw[Q7,hy];rfl);have hyl:=iR (Ri.2 ⟨j,hy⟩);rw[HNN.out]at hyl;have hlt':(j:Int)<(l.length:Int):=by omega
    have hj0:(0:Int)≤(j:Int):=by omega
    unfold rowLen at hyl;obtain⟨g,off,rfl,c0,c1,⟨a1,n1,p1,c2,s2⟩,c3⟩:=HV.out.at hy;obtain⟨y0,y1,y2,y3⟩:=y;simp only at c0 c1 c2 c3 s2 hyl;have hel:∀x∈y2,x.length≤2000:=fun x hx=>by have:=EY hx;omega
    have HCC:Hid (∀W,zB w W→W.cell? ⟨g,off+j*4,none⟩=some (.int .i64 y0)∧W.cell? ⟨g,off+j*4+1,none⟩=some (.string ⟨y1.toArray⟩)∧W.cell? ⟨g,off+j*4+2,none⟩=some (.slice a1 n1 p1)∧W.cell? ⟨g,off+j*4+3,none⟩=some (.string ⟨y3.toArray⟩)):=zH (fun W h=>
     ⟨(h.cell (QJ w _ c0)).trans c0,(h.cell (QJ w _ c1)).trans c1,(h.cell (QJ w _ c2)).trans c2,(h.cell (QJ w _ c3)).trans c3⟩)
    have hC:=uH y0 y1 (a1,n1,p1) y2 y3 wr (s2.below HR.out.bel) (by omega) (by omega) (fun x hx=>by have:=hel x hx;omega);unfold Dq aV at hC;simp only at hC;obtain⟨q,hq⟩:∃q,gQ y1 y2 y3=q:=⟨_,rfl⟩;have HQ:Hid (okY (y0,y1,y2,y3)=q):=zH hq;rw[hq]at hC;have HC:=zH hC;have HS2:=zH s2;obtain⟨d0,d1,d2,d3⟩:=HCC.out wr HR.out.bel;clear hC c0 c1 c2 c3 s2 hel hy hq
    cases q
    ·simp only[QX,Sa]at HC
     go_wp2_with fail
     refine HC.out.mono ?_;rintro e w1 ⟨rfl,b1⟩;have H1:=zH ((HR.out.keep b1).bel);clear b1 HC HR;go_wp2_with fail
     refine(HK.out _ H1.out).mono ?_;rintro e w2 ⟨rfl,b2⟩;have B2:=zH b2;clear b2;go_wp2_with fail
     go_ret;exact⟨rfl,B2.out⟩
    ·simp only[if_true]at HC
     go_wp2_with fail
     refine HC.out.mono ?_;rintro e w1 ⟨rfl,b1⟩;have H1:=zH (HR.out.keep b1);obtain⟨e0,e1,e2,e3⟩:=HCC.out w1 H1.out.bel;have hw1:IntKind.i64.wrap ((j:Int)+1)=(j:Int)+1:=Jp (by omega) (by omega);obtain⟨W2,hW2⟩:∃W2,w1.alloc (.cells #[.int .i64 ((j:Int)+1),.string ⟨y1.toArray⟩,.slice a1 n1 p1,.string ⟨y3.toArray⟩] 33)=W2:=⟨_,rfl⟩;have HW2:=zH hW2;have kB:Blk W2 w1.heap.size 33 [.int .i64 ((j:Int)+1),.string ⟨y1.toArray⟩,.slice a1 n1 p1,.string ⟨y3.toArray⟩]:=by
      rw[←hW2];exact Af w1 [.int .i64 ((j:Int)+1),.string ⟨y1.toArray⟩,.slice a1 n1 p1,.string ⟨y3.toArray⟩] 33
     have hz2:W2.heap.size=w1.heap.size+1:=by rw[←hW2];simp[QK]
     have b2:zB w1 W2:=by rw[←hW2];exact ae w1 _
     have x0:=kB.cell 0;have x1:=kB.cell 1;have x2:=kB.cell 2;have x3:=kB.cell 3;simp only[Qy,Qz]at x0 x1 x2 x3;have hnl:(nums 0 (l.take j)).length≤500000:=by rw[pR,HKL.out];omega
     obtain⟨v8,W8,k8,h8⟩:=(H1.out.keep b2).push hnl (((j:Int)+1,y1,y2,y3):Row) (a1,n1,p1) HS2.out #[.int .i64 ((j:Int)+1),.string ⟨y1.toArray⟩,.slice a1 n1 p1,.string ⟨y3.toArray⟩] rfl;have H8:Hid (RwA w W8 v8 (nums 0 (l.take (j+1)))):=zH (by rw[HSN.out,xK,Sc,HKL.out];exact h8);have HOK8:Hid (∀y∈l.take (j+1),okY y=true):=zH (fun y hy=>by
      rw[HSN.out]at hy;rcases SB.1 hy with q | q
      ·exact HOK.out y q
      ·rw[List.mem_singleton.1 q];exact HQ.out)
     rw[hz2]at k8;rw[←hW2]at k8 x0 x1 x2 x3;clear b1 HC HR H1 h8 d0 d1 d2 d3 kB hz2 b2 hW2 HW2 hnl;go_wp2_with fail
     go_roundw
     case rel=>exact⟨j+1,by omega,by go_num,HOK8,H8⟩
     case measure=>(simp[intOf];try omega)
   ·obtain rfl:j=l.length:=by omega
    have hlt':¬(l.length:Int)<(l.length:Int):=by omega
    have hle:aG l≤1000:=by rw[HNN.out];omega
    rw[QT]at HOK HR;have hoks:=HOK.out;obtain⟨R,hRR⟩:∃R,nums 0 l=R:=⟨_,rfl⟩;obtain⟨s,hs⟩:∃s,dE I9 ((nums 0 l).map toM)=s:=⟨_,rfl⟩;have hrd:=GU hoks;have hpb:=PS l hle;have hsz:=Nl l hle;have hdl:=Ql l hle;have hrl:aG R≤1000:=by rw[←hRR,gK];exact hle
    have hRl:R.length=l.length:=by rw[←hRR];exact pR 0 l
    rw[hs]at hsz hdl;rw[hRR]at hrd hpb hs HR;have hwl:=yC R;obtain⟨T,hT⟩:∃T,wrs R=T:=⟨_,rfl⟩;have HPC:Hid (Calls Tryz.prog 10 #[.slice au l.length pu] wr fun e w2=> ∃p1 p2 p3 d1 d2 d3,e=.returned (.tuple #[.agg #[.string ⟨s.b.nm.a.toArray⟩,.string ⟨s.b.nm.b.toArray⟩,.string ⟨s.b.nm.c.toArray⟩,.string ⟨s.b.nm.d.toArray⟩,.slice p1 p2 p3],.slice d1 d2 d3])∧
      ∃W2,w2.alloc (.cells #[.string ⟨s.b.nm.a.toArray⟩,.string ⟨s.b.nm.b.toArray⟩,.string ⟨s.b.nm.c.toArray⟩,.string ⟨s.b.nm.d.toArray⟩,.slice p1 p2 p3] 38)=W2∧
      Hid (Calls Tryz.prog 18 #[.slice au l.length pu] W2 fun e w3=>e=.returned (.string ⟨T.toArray⟩)∧
       Hid (Calls Tryz.prog 17 #[.string ⟨T.toArray⟩] w3 fun e w4=> ∃q1 q2 q3 e1 e2 e3,e=.returned (.tuple #[.agg #[.string ⟨s.b.nm.a.toArray⟩,.string ⟨s.b.nm.b.toArray⟩,.string ⟨s.b.nm.c.toArray⟩,.string ⟨s.b.nm.d.toArray⟩,.slice q1 q2 q3],.slice e1 e2 e3])∧
        ∃W4,w4.alloc (.cells #[.string ⟨s.b.nm.a.toArray⟩,.string ⟨s.b.nm.b.toArray⟩,.string ⟨s.b.nm.c.toArray⟩,.string ⟨s.b.nm.d.toArray⟩,.slice q1 q2 q3] 38)=W4∧(W4.cell? ⟨w2.heap.size,0,none⟩=some (.string ⟨s.b.nm.a.toArray⟩)∧W4.cell? ⟨w2.heap.size,1,none⟩=some (.string ⟨s.b.nm.b.toArray⟩)∧W4.cell? ⟨w2.heap.size,2,none⟩=some (.string ⟨s.b.nm.c.toArray⟩)∧W4.cell? ⟨w2.heap.size,3,none⟩=some (.string ⟨s.b.nm.d.toArray⟩)∧W4.cell? ⟨w2.heap.size,4,none⟩=some (.slice p1 p2 p3))∧(W4.cell? ⟨w4.heap.size,0,none⟩=some (.string ⟨s.b.nm.a.toArray⟩)∧W4.cell? ⟨w4.heap.size,1,none⟩=some (.string ⟨s.b.nm.b.toArray⟩)∧W4.cell? ⟨w4.heap.size,2,none⟩=some (.string ⟨s.b.nm.c.toArray⟩)∧W4.cell? ⟨w4.heap.size,3,none⟩=some (.string ⟨s.b.nm.d.toArray⟩)∧W4.cell? ⟨w4.heap.size,4,none⟩=some (.slice q1 q2 q3))∧
        Hid (Calls Tryz.prog 19 #[.agg #[.string ⟨s.b.nm.a.toArray⟩,.string ⟨s.b.nm.b.toArray⟩,.string ⟨s.b.nm.c.toArray⟩,.string ⟨s.b.nm.d.toArray⟩,.slice p1 p2 p3],.agg #[.string ⟨s.b.nm.a.toArray⟩,.string ⟨s.b.nm.b.toArray⟩,.string ⟨s.b.nm.c.toArray⟩,.string ⟨s.b.nm.d.toArray⟩,.slice q1 q2 q3]] W4 fun e w5=>e=.returned (.bool true)∧
         Hid (Calls Tryz.prog 20 #[.slice d1 d2 d3,.slice e1 e2 e3] w5 fun e w6=>e=.returned (.bool true)∧Hid (zB w w6)))))):=zH (by
     have hp:=uP JK (HU.out wr HR.out.bel) (HE.out wr HR.out.bel) HR.out.fin hpb;rw[hs]at hp;refine hp.mono ?_;rintro e w2 ⟨⟨p1,p2,p3⟩,d,rfl,n1,n2,b2⟩;obtain⟨d1,d3,rfl⟩:=n2.len;refine⟨p1,p2,p3,d1,_,d3,rfl,_,rfl,zH ?_⟩;have bl:=ae w2 (.cells #[.string ⟨s.b.nm.a.toArray⟩,.string ⟨s.b.nm.b.toArray⟩,.string ⟨s.b.nm.c.toArray⟩,.string ⟨s.b.nm.d.toArray⟩,.slice p1 p2 p3] 38);have kD:Blk (w2.alloc (.cells #[.string ⟨s.b.nm.a.toArray⟩,.string ⟨s.b.nm.b.toArray⟩,.string ⟨s.b.nm.c.toArray⟩,.string ⟨s.b.nm.d.toArray⟩,.slice p1 p2 p3] 38)) w2.heap.size 38 [.string ⟨s.b.nm.a.toArray⟩,.string ⟨s.b.nm.b.toArray⟩,.string ⟨s.b.nm.c.toArray⟩,.string ⟨s.b.nm.d.toArray⟩,.slice p1 p2 p3]:=QD w2 _;have zr:=HR.out.bel.size;have z2:=b2.size;have bW:=b2.trans (bl.mono z2);have BW:=HR.out.bel.trans (bW.mono zr);obtain⟨W2,hW2⟩:∃W2,w2.alloc (.cells #[.string ⟨s.b.nm.a.toArray⟩,.string ⟨s.b.nm.b.toArray⟩,.string ⟨s.b.nm.c.toArray⟩,.string ⟨s.b.nm.d.toArray⟩,.slice p1 p2 p3] 38)=W2:=⟨_,rfl⟩;rw[hW2]at bl kD bW BW⊢;have zl:=bl.size;refine(ze R _ W2 (HR.out.fin.below bW) (by omega) (by omega)).mono ?_;rintro e w3 ⟨rfl,b3⟩;rw[hT];refine⟨rfl,zH ?_⟩;have z3:=b3.size;have BW3:=BW.trans (b3.mono BW.size);have hr2:=uY JK (HU.out w3 BW3) (HE.out w3 BW3) (HM.out w3 BW3) T (by rw[←hT];omega) (by rw[←hT,hrd];exact hpb) (by
      rw[←hT,hrd];dsimp only;rw[hs];rw[QH];omega)
     rw[←hT,hrd]at hr2;dsimp only at hr2;rw[hs]at hr2;rw[←hT];refine hr2.mono ?_;rintro e w4 ⟨⟨q1,q2,q3⟩,f,rfl,m1,m2,b4⟩;rw[Rc]at m2;obtain⟨e1,e3,rfl⟩:=m2.len;have z4:=b4.size;have bl4:=ae w4 (.cells #[.string ⟨s.b.nm.a.toArray⟩,.string ⟨s.b.nm.b.toArray⟩,.string ⟨s.b.nm.c.toArray⟩,.string ⟨s.b.nm.d.toArray⟩,.slice q1 q2 q3] 38);have kE:Blk (w4.alloc (.cells #[.string ⟨s.b.nm.a.toArray⟩,.string ⟨s.b.nm.b.toArray⟩,.string ⟨s.b.nm.c.toArray⟩,.string ⟨s.b.nm.d.toArray⟩,.slice q1 q2 q3] 38)) w4.heap.size 38 [.string ⟨s.b.nm.a.toArray⟩,.string ⟨s.b.nm.b.toArray⟩,.string ⟨s.b.nm.c.toArray⟩,.string ⟨s.b.nm.d.toArray⟩,.slice q1 q2 q3]:=QD w4 _;refine⟨q1,q2,q3,e1,_,e3,rfl,_,rfl,?_⟩;obtain⟨W4,hW4⟩:∃W4,w4.alloc (.cells #[.string ⟨s.b.nm.a.toArray⟩,.string ⟨s.b.nm.b.toArray⟩,.string ⟨s.b.nm.c.toArray⟩,.string ⟨s.b.nm.d.toArray⟩,.slice q1 q2 q3] 38)=W4:=⟨_,rfl⟩;rw[hW4]at bl4 kE⊢;have b34:=b4.trans (bl4.mono z4);have b24:=b3.trans (b34.mono z3);have BW4:=BW.trans (b24.mono BW.size);have kD4:=kD.below b24;refine⟨⟨kD4.cell 0,kD4.cell 1,kD4.cell 2,kD4.cell 3,kD4.cell 4⟩,⟨kE.cell 0,kE.cell 1,kE.cell 2,kE.cell 3,kE.cell 4⟩,zH ?_⟩;have hnl:nlL (qy s.b)≤1000000000:=by
      have h1:=Gr (jv (bP s.b));have h2:=Gf (bP s.b);have h3:=eO s.b;have h5:qy s.b=tT (jv (bP s.b)):=rfl;rw[←h5]at h1;omega
     have b04:=bl.trans (b24.mono zl);have z34:=b34.size;have z44:=bl4.size;have hsd:=yX (fun k=>wr.heap.size≤k∧k<w2.heap.size) (fun k=>w3.heap.size≤k∧k<w4.heap.size) s.b.nm (qy s.b) (qy s.b) (pv (p1,p2,p3)) (pv (q1,q2,q3)) W4 hnl hnl (n1.keep (fun k q=>b04.block k q.2)) (m1.keep (fun k q=>bl4.block k q.2)) (fun k q=>by omega) (fun k q=>by omega);refine Calls.mono hsd ?_;rintro e w5 ⟨rfl,b5⟩;refine⟨by rw[nI rfl],zH ?_⟩;have BW5:=BW4.trans (b5.mono BW4.size);have h9:=uw s.d s.d (.slice d1 s.d.length d3) (.slice e1 s.d.length e3) w5 ((n2.below b04).below b5) ((m2.below bl4).below b5) (by omega) (by omega);refine h9.mono ?_;rintro e w6 ⟨rfl,b6⟩;exact⟨by rw[Q6 rfl],zH (BW5.trans (b6.mono BW5.size))⟩)
    clear hle hoks hRR hs hrd hpb hsz hdl hrl hRl hwl hT HOK HR;go_wp2_with fail
    refine HPC.out.mono ?_;rintro e w2 ⟨p1,p2,p3,d1,d2,d3,rfl,W2,hW2,HWR⟩;have HW2:=zH hW2;clear hW2 HPC;go_upto_region 13 with fail
    rw[HW2.out];clear HW2;go_wp2_with fail
    refine HWR.out.mono ?_;rintro e w3 ⟨rfl,HRD⟩;clear HWR;go_wp2_with fail
    refine HRD.out.mono ?_;rintro e w4 ⟨q1,q2,q3,e1,e2,e3,rfl,W4,hW4,⟨f0,f1,f2,f3,f4⟩,⟨g0,g1,g2,g3,g4⟩,HSD⟩;have HW4:=zH hW4;clear hW4 HRD;go_upto_region 14 with fail
    rw[HW4.out];clear HW4;go_wp2_with fail
    refine HSD.out.mono ?_;rintro e w5 ⟨rfl,HSM⟩;clear HSD f0 f1 f2 f3 f4 g0 g1 g2 g3 g4;go_wp2_with fail
    refine HSM.out.mono ?_;rintro e w6 ⟨rfl,B6⟩;clear HSM;go_wp2_with fail
    refine(HK.out w6 B6.out).mono ?_;rintro e w9 ⟨rfl,b9⟩;have B9:=zH b9;clear b9;go_wp2_with fail
    go_ret;exact⟨rfl,B9.out⟩
end
end Go.Proofs.YtebabjnngdjceaaGreatDoor
