/- A text is read as a docu -/
import Derived.Test.YtebabjnngdjceaaGreatDoorVi
import Derived.Test.YtebabjnngdjceaaGreatDoorCi
set_option linter.unusedVariables false
set_option linter.unusedSimpArgs false
set_option maxRecDepth 100000
set_option maxHeartbeats 8000000
namespace Go.Proofs.YtebabjnngdjceaaGreatDoor
open Go.RowKit
section
def noT (_:Int):Prop:=False
theorem NF:BZ U8 I9.tab noT:=fun _ _ _ _ h=>h.elim
def toM (r:Row):aI:=⟨r.1,r.2.1,r.2.2.1,r.2.2.2⟩
structure PBo (okl:Int→Prop)(rs:List aI):Prop where
 step:∀(i:Nat) (r:aI),rs[i]? =some r→StepB okl (gp I9 (rs.take i)) r
 n:rs.length≤100000
 ml:∀(i:Nat) (r:aI),rs[i]? =some r→r.mac.length≤100000
 e:StepB okl (gp I9 rs) row0
 e2:∀g0,(gp I9 rs).g=some g0→(gp I9 rs).d.length+(I9.tab g0.1 g0.2).2.length≤400000
 eb:btl (di I9 rs).b≤30000
abbrev PB (rs:List aI):Prop:=PBo noT rs
theorem uB {okl:Int→Prop}(hTab:BZ U8 I9.tab okl){w:World}(hU:U8 w)(hEr:Er w){l:List Row}{v:Value}(hv:Rws w v l)(hP:PBo okl (l.map toM)):Calls Tryz.prog 10 #[v] w (Eu w (di I9 (l.map toM))):=by
 obtain⟨L,hL,hA⟩:=hv;obtain⟨a,c,rfl⟩:=hL.len;refine Gj Ej hU hEr hTab hL (by rw[Qy];exact hA.1) (fun i x r h1 h2=>?_) hP.step hP.n hP.ml hP.e hP.e2 hP.eb;rw[QL]at h2
 cases hy:l[i]? with
 | none=>rw[hy]at h2;cases h2
 | some y=>
  rw[hy]at h2;obtain rfl:=PT h2;have:=hA.2 i x y h1 hy;exact⟨this.line,this.mac,this.text,this.args⟩
def sH (w:World)(s:Md)(d1:List Dgn)(e:Ending)(w':World):Prop:= ∃(p:PV) (d:Value),e=.returned (.tuple #[rP s.b.nm (pv p),d])∧NsS (fun k=>w.heap.size≤k∧k<w'.heap.size) w' (pv p) (wz s.b)∧Ds w' d (d1++s.d)∧Below w.heap.size w w'
attribute [local go_sem ↓ high] bH in
theorem De {okl:Int→Prop}(hTab:BZ U8 I9.tab okl){w:World}(hU:U8 w)(hEr:Er w)(hMx:Mx w)(t:Txt)(ht:t.length≤40000)(hP:PBo okl ((gu t).1.map toM))(hd:(gu t).2.length+(di I9 ((gu t).1.map toM)).d.length≤1000000):
  Calls Tryz.prog 17 #[.string ⟨t.toArray⟩] w (sH w (di I9 ((gu t).1.map toM)) (gu t).2):=by
 obtain⟨W1,hW1⟩:∃W,w.alloc (.cells lh.toArray 38)=W:=⟨_,rfl⟩;have b1:Below w.heap.size w W1:=by rw[←hW1];exact ae w _
 have kd:Blk W1 w.heap.size 38 lh:=by rw[←hW1];exact PK w _
 obtain⟨s,hs⟩:∃s,di I9 ((gu t).1.map toM)=s:=⟨_,rfl⟩;rw[hs]at hd⊢;have HRD:=zH (Jk t W1 (hMx.below (Px _) b1) ht);have HPA:Hid (∀V v,Below w.heap.size w V→Rws V v (gu t).1→Calls Tryz.prog 10 #[v] V fun e w'=> ∃p1 p2 p3 d1 d2 d3,e=.returned (.tuple #[.agg #[.string ⟨s.b.nm.a.toArray⟩,.string ⟨s.b.nm.b.toArray⟩,.string ⟨s.b.nm.c.toArray⟩,.string ⟨s.b.nm.d.toArray⟩,.slice p1 p2 p3],.slice d1 d2 d3])∧Hid (NsS (fun k=>V.heap.size≤k∧k<w'.heap.size) w' (.slice p1 p2 p3) (wz s.b)∧Ds w' (.slice d1 d2 d3) s.d∧Below V.heap.size V w')):=zH (fun V v hb hv=>by
  refine(uB hTab (hU.below hb) (hEr.below hb) hv hP).mono ?_;rintro e w' ⟨⟨p1,p2,p3⟩,d,rfl,q1,q2,q3⟩;obtain⟨d1,d3,rfl⟩:=q2.len;rw[hs]at q1 q2⊢;exact⟨p1,p2,p3,d1,_,d3,rfl,zH ⟨q1,q2,q3⟩⟩)
 have HK:=zH (And.intro b1 kd);have HD:=zH hd;have HP0:Hid (w.heap.size<W1.heap.size):=zH kd.lt;simp only[lh]at hW1;clear hU hEr hMx ht hP hd hs b1 kd;go_enter Tryz.func17,Tryz.ntmps17
 go_wp2_with fail
 clear hW1;refine HRD.out.mono ?_;rintro e w2 ⟨vr,vd,rfl,h1,h2,h3,h4⟩;obtain⟨bW,kd⟩:=HK.out;have b2:Below w.heap.size w w2:=bW.trans (h3.mono bW.size);have HPC:=zH (HPA.out w2 vr b2 h1.sl);have HDO:=zH h2;have HB2:=zH (And.intro b2 (And.intro (kd.below h3) h4));obtain⟨ra,rc,rfl⟩:=h1.sl.len;obtain⟨da,dc,rfl⟩:=(ag.sl ax h2).len;obtain⟨ln,hln⟩:∃n,(gu t).1.length=n:=⟨_,rfl⟩;obtain⟨dn,hdn⟩:∃n,(gu t).2.length=n:=⟨_,rfl⟩;rw[hln]at HPC;rw[hdn]at HDO;rw[hln,hdn];clear h1 h2 h3 h4 bW kd b2 HRD HPA HK hln hdn;go_wp2_with fail
 refine HPC.out.mono ?_;rintro e w3 ⟨p1,p2,p3,d1,d2,d3,rfl,H3⟩;obtain⟨W4,hW4⟩:∃W,w3.alloc (.cells #[.string ⟨s.b.nm.a.toArray⟩,.string ⟨s.b.nm.b.toArray⟩,.string ⟨s.b.nm.c.toArray⟩,.string ⟨s.b.nm.d.toArray⟩,.slice p1 p2 p3] 38)=W:=⟨_,rfl⟩;have b4:Below w3.heap.size w3 W4:=by rw[←hW4];exact ae w3 _
 have k4:Blk W4 w3.heap.size 38 [.string ⟨s.b.nm.a.toArray⟩,.string ⟨s.b.nm.b.toArray⟩,.string ⟨s.b.nm.c.toArray⟩,.string ⟨s.b.nm.d.toArray⟩,.slice p1 p2 p3]:=by rw[←hW4];exact PK w3 _
 obtain⟨W5,hW5⟩:∃W,W4.drew=W:=⟨_,rfl⟩;have b5:Below W4.heap.size W4 W5:=by rw[←hW5];exact(PG _ W4).drew
 have K5:Hid (Blk W5 w3.heap.size 38 [.string ⟨s.b.nm.a.toArray⟩,.string ⟨s.b.nm.b.toArray⟩,.string ⟨s.b.nm.c.toArray⟩,.string ⟨s.b.nm.d.toArray⟩,.slice p1 p2 p3]):=zH (k4.below b5);have HAP:Hid (∃x1 x2 x3 w6,(gQ #[.slice da dn dc,.slice d1 d2 d3]).run Tryz.prog W5=.ok (.value (.slice x1 x2 x3)) w6∧Hid (Blk w6 w3.heap.size 38 [.string ⟨s.b.nm.a.toArray⟩,.string ⟨s.b.nm.b.toArray⟩,.string ⟨s.b.nm.c.toArray⟩,.string ⟨s.b.nm.d.toArray⟩,.slice p1 p2 p3])∧
   (∃q,w6.cell? ⟨w.heap.size,0,none⟩=some q)∧(∃q,w6.cell? ⟨w.heap.size,1,none⟩=some q)∧(∃q,w6.cell? ⟨w.heap.size,2,none⟩=some q)∧(∃q,w6.cell? ⟨w.heap.size,3,none⟩=some q)∧(∃q,w6.cell? ⟨w.heap.size,4,none⟩=some q)∧(w6.frozen? ⟨w.heap.size,0,none⟩=false∧w6.frozen? ⟨w.heap.size,1,none⟩=false∧w6.frozen? ⟨w.heap.size,2,none⟩=false∧w6.frozen? ⟨w.heap.size,3,none⟩=false∧w6.frozen? ⟨w.heap.size,4,none⟩=false)∧
   ∃W9,((((w6.setCell ⟨w.heap.size,0,none⟩ (.string ⟨s.b.nm.a.toArray⟩)).setCell ⟨w.heap.size,1,none⟩ (.string ⟨s.b.nm.b.toArray⟩)).setCell ⟨w.heap.size,2,none⟩ (.string ⟨s.b.nm.c.toArray⟩)).setCell ⟨w.heap.size,3,none⟩ (.string ⟨s.b.nm.d.toArray⟩)).setCell ⟨w.heap.size,4,none⟩ (.slice p1 p2 p3)=W9∧(∀(i:Nat) u,(rQ s.b.nm (.slice p1 p2 p3))[i]? =some u→W9.cell? ⟨w.heap.size,i,none⟩=some u)∧Hid (Blk W9 w3.heap.size 38 [.string ⟨s.b.nm.a.toArray⟩,.string ⟨s.b.nm.b.toArray⟩,.string ⟨s.b.nm.c.toArray⟩,.string ⟨s.b.nm.d.toArray⟩,.slice p1 p2 p3])∧Hid (sH w s (gu t).2 (.returned (.tuple #[rP s.b.nm (.slice p1 p2 p3),.slice x1 x2 x3])) W9)):=zH (by
  obtain⟨n3,e3,b3⟩:=H3.out;obtain⟨bw,kP,hW12⟩:=HB2.out;have hlw:=HP0.out;have hPw2:w.heap.size<w2.heap.size:=kP.lt;have z2:=bw.size;have z3:=b3.size;have z4:=b4.size;have z5:=b5.size;have b45:=b4.trans (b5.mono z4);have b35:=b3.trans (b45.mono z3);have d5:=(HDO.out.keep b35);obtain⟨x',w6,hr,ho,hg,-⟩:=gX d5 (e3.below b45) (by omega) (HD.out);obtain⟨x1,x3,rfl⟩:=(ag.sl ax ho).len;have hE6:Exc (fun k=>(Value.slice da dn dc).ownBlock=some k) W5 w6:=⟨hg.os,hg.tape,hg.output,hg.size,fun k hk hx=>hg.block k hk (fun e=>hx e.symm)⟩;have hlo:∀k,(Value.slice da dn dc).ownBlock=some k→W1.heap.size≤k∧k<w2.heap.size:=fun k e=>⟨(HDO.out.ty e).1,HDO.out.ltb e⟩
  have k6:=hE6.blk (kP.below b35) (fun e=>by have:=hlo _ e;omega);have kN:=hE6.blk K5.out (fun e=>by have:=hlo _ e;omega);obtain⟨W9,hW9⟩:∃W9,((((w6.setCell ⟨w.heap.size,0,none⟩ (.string ⟨s.b.nm.a.toArray⟩)).setCell ⟨w.heap.size,1,none⟩ (.string ⟨s.b.nm.b.toArray⟩)).setCell ⟨w.heap.size,2,none⟩ (.string ⟨s.b.nm.c.toArray⟩)).setCell ⟨w.heap.size,3,none⟩ (.string ⟨s.b.nm.d.toArray⟩)).setCell ⟨w.heap.size,4,none⟩ (.slice p1 p2 p3)=W9:=⟨_,rfl⟩;have hE9:Exc (fun k=>k=w.heap.size) w6 W9:=by rw[←hW9];exact((((((Exc.refl (fun k=>k=w.heap.size) w6).set 0 _ (fun _=>rfl)).set 1 _ (fun _=>rfl)).set 2 _ (fun _=>rfl)).set 3 _ (fun _=>rfl)).set 4 _ (fun _=>rfl))
  have k9:Blk W9 w.heap.size 38 (rQ s.b.nm (.slice p1 p2 p3)):=by rw[←hW9];exact(((((k6.set 0 (.string ⟨s.b.nm.a.toArray⟩)).set 1 (.string ⟨s.b.nm.b.toArray⟩)).set 2 (.string ⟨s.b.nm.c.toArray⟩)).set 3 (.string ⟨s.b.nm.d.toArray⟩)).set 4 (.slice p1 p2 p3))
  have z6:=hE6.size;have z9:=hE9.size;refine⟨x1,_,x3,w6,hr,zH kN,⟨_,k6.cell 0⟩,⟨_,k6.cell 1⟩,⟨_,k6.cell 2⟩,⟨_,k6.cell 3⟩,⟨_,k6.cell 4⟩,⟨k6.frozen (by simp[lh]),k6.frozen (by simp[lh]),k6.frozen (by simp[lh]),k6.frozen (by simp[lh]),k6.frozen (by simp[lh])⟩,W9,hW9,fun i u hu=>by rw[k9.cell i];exact hu,zH (hE9.blk kN (by omega)),zH ⟨(p1,p2,p3),_,rfl,?_,?_,?_⟩⟩
  ·refine(n3.keep (fun k q=>?_)).mono (fun k q=>⟨by omega,by omega⟩)
   have e1:W5.heap[k]? =w3.heap[k]? :=b45.block k (by omega);have e2:w6.heap[k]? =W5.heap[k]? :=hE6.block k (by omega) (fun e=>by have:=hlo _ e;omega);have e3:W9.heap[k]? =w6.heap[k]? :=hE9.block k (by omega) (by omega);rw[e3,e2,e1]
  ·exact ag.sl ax (ho.kp (fun k e=>hE9.block k (ho.ltb e) (fun q=>by have:=(ho.ty e).1;omega)))
  ·exact((bw.trans (b35.mono z2)).trans (hE6.below (by omega) (fun k hk e=>by have:=hlo _ e;omega))).trans (hE9.below (by omega) (fun k hk e=>by omega)))
 have HW4:=zH hW4;have HW5:=zH hW5;clear HPC HDO HB2 hW4 hW5 b4 k4 b5 H3 HP0 HD;go_upto_region 3 with fail
 rw[HW4.out];clear HW4;obtain⟨x1,x2,x3,w6,hr,K6,⟨q0,c0⟩,⟨q1,c1⟩,⟨q2,c2⟩,⟨q3,c3⟩,⟨q4,c4⟩,⟨f0,f1,f2,f3,f4⟩,W9,hW9,hcc,K9,HFIN⟩:=HAP.out;clear HAP;refine wp_region_held_drew (S:=(fun V=>Blk V w3.heap.size 38 [.string ⟨s.b.nm.a.toArray⟩,.string ⟨s.b.nm.b.toArray⟩,.string ⟨s.b.nm.c.toArray⟩,.string ⟨s.b.nm.d.toArray⟩,.slice p1 p2 p3])) (by kernel_rfl) ?_ (fun hHeld=>?_)
 ·exact(by rw[HW5.out];exact K5.out)
 rw[HW5.out]at hHeld⊢;refine Qv (i:=0) (v:= .agg #[.string ⟨s.b.nm.a.toArray⟩,.string ⟨s.b.nm.b.toArray⟩,.string ⟨s.b.nm.c.toArray⟩,.string ⟨s.b.nm.d.toArray⟩,.slice p1 p2 p3]) rfl (by kernel_rfl) (by kernel_rfl) (by kernel_rfl) (fun _ _ _ h=>h) (Or.inl ⟨by rfl,fun w' hSw=>by(try dsimp only at hSw);have q0:=hSw.cell 0;have q1:=hSw.cell 1;have q2:=hSw.cell 2;have q3:=hSw.cell 3;have q4:=hSw.cell 4;simp only[PD,PE]at q0 q1 q2 q3 q4;clear hSw;go_simp⟩) (by assumption) ?_;simp only[zA,Act.put];refine zK (i:=1) (v:= .slice da dn dc) rfl ?_;simp only[zA,Act.put];refine zK (i:=2) (v:= .slice d1 d2 d3) rfl ?_;simp only[zA,Act.put];refine wpAnyH_ready (rs:=[3]) (by kernel_rfl) (by simp) ?_;refine AllReadyH.cons rfl (fun K hK=>?_) AllReadyH.nil
 try simp only[zG]
 rw[PZ (by kernel_rfl)];refine wp_append_run (.tmp 19) (.tmp 20) 29 29 rfl _ _ rfl rfl (nH hr) ?_;refine hK.out _ _ ?_ (fun hHeld=>?_)
 ·exact K6.out
 clear hK K
 try simp only[zA,Act.put]
 refine wpAnyH_ready (rs:=[4]) (by kernel_rfl) (by simp) ?_;refine AllReadyH.cons rfl (fun K hK=>?_) AllReadyH.nil
 try simp only[zG]
 go_simp;refine hK.out _ _ ?_ (fun hHeld=>?_)
 ·exact K9.out
 clear hK K
 try simp only[zA,Act.put]
 have y0:=hcc 0 _ rfl;have y1:=hcc 1 _ rfl;have y2:=hcc 2 _ rfl;have y3:=hcc 3 _ rfl;have y4:=hcc 4 _ rfl;refine zK (i:=5) (v:= .slice x1 x2 x3) rfl ?_;simp only[zA,Act.put];refine Qd (by kernel_rfl) ?_ _;go_wp2_with fail
 try rw[QJ]
 refine Qi (v:= .tuple #[.agg #[.string ⟨s.b.nm.a.toArray⟩,.string ⟨s.b.nm.b.toArray⟩,.string ⟨s.b.nm.c.toArray⟩,.string ⟨s.b.nm.d.toArray⟩,.slice p1 p2 p3],.slice x1 x2 x3]) (by simp[results,Tryz.results17,go_sem,y0,y1,y2,y3,y4]) rfl ?_;exact HFIN.out
theorem Gv {w:World}(hU:U8 w)(hEr:Er w)(hMx:Mx w)(t:Txt)(ht:t.length≤40000)(hP:PB ((gu t).1.map toM))(hd:(gu t).2.length+(di I9 ((gu t).1.map toM)).d.length≤1000000):
  Calls Tryz.prog 17 #[.string ⟨t.toArray⟩] w (sH w (di I9 ((gu t).1.map toM)) (gu t).2):=De NF hU hEr hMx t ht hP hd
end
def rwt (r:aI):Nat:=2*(r.text.length+lnT r.args)+30
def nI (l:List aI):Nat:=(l.map rwt).sum
def vlM (s:Md):Nat:=match s.v with
 | some v=>v.2.length+lens v.2
 | none=>0
structure WtM (s:Md)(W:Nat):Prop where
 g:s.g=none
 b:btl s.b+vlM s≤W
 d:s.d.length≤W
theorem LX (s:Md)(k ln n:Int)(g:List Gly):btl (dh s (cB k ln n g)).b≤btl s.b+g.length+6∧(dh s (cB k ln n g)).d.length≤s.d.length+1∧(dh s (cB k ln n g)).v=s.v∧(dh s (cB k ln n g)).g=s.g:=by
 unfold dh
 split
 ·exact⟨by simp[aD];omega,by simp[aD],rfl,rfl⟩
 ·have:=KA s.b (.mk (cB k ln n g) [])
  rw[DI]at this;exact⟨by simp only;omega,Rl _,rfl,rfl⟩
theorem zJ (L:List Txt):(dE 0 L).2.length≤lnT L:=by rw[jr];unfold dI;have:=(eZ 0 L ([],[])).2;simpa using this
theorem oJ {s:Md}(h:s.v=none):vlM s=0:=by unfold vlM;rw[h]
theorem WtM.of {s:Md}{W:Nat}(hg:s.g=none)(hv:s.v=none)(hb:btl s.b≤W)(hd:s.d.length≤W):WtM s W:=⟨hg,by rw[oJ hv];exact hb,hd⟩
theorem WtM.opn {s:Md}{W:Nat}{k ln n:Int}{g:List Gly}(hg:s.g=none)(hv:s.v=none)(hb:btl s.b+g.length+6≤W)(hd:s.d.length+1≤W):WtM (dh s (cB k ln n g)) W:=by
 obtain⟨o1,o2,o3,o4⟩:=LX s k ln n g;exact WtM.of (o4.trans hg) (o3.trans hv) (by omega) (by omega)
theorem WtM.step {s:Md}{W:Nat}(h:WtM s W){r:aI}(hl:fJ r)(hts:r.mac≠ [84,83]):WtM (iD I9 s r) (W+rwt r):=by
 obtain⟨hg,hb,hd⟩:=h;unfold rwt;unfold iD;rw[hg];dsimp only
 cases hi:I9.inl r with
 | some q=>
  obtain⟨l1,l2⟩:=Bj hl (show fP r=some q from hi);have l3:(s.d++aY r.line q.2).length=s.d.length+q.2.length:=by rw[PL,jV]
  dsimp only
  split
  ·refine⟨hg,?_,?_⟩
   ·show btl s.b+vlM s≤_;omega
   ·simp only[aD,PL,PI,PQ];omega
  ·unfold xq
   dsimp only
   cases hv:s.v with
   | some v=>
    unfold vlM at hb;rw[hv]at hb;dsimp only at hb⊢;refine⟨rfl,?_,?_⟩
    ·unfold vlM
     have e1:lens [q.1]=q.1.length:=by simp[lens]
     simp only[PL,fO,PI,PQ,e1];omega
    ·dsimp only;omega
   | none=>
    have hvn:=oJ hv;dsimp only
    cases hw:s.w with
    | some w=>
     dsimp only;exact WtM.opn rfl rfl (by dsimp only;omega) (by dsimp only;omega)
    | none=>
     dsimp only
     split
     ·have:=fD s.b
      exact WtM.of rfl rfl (by dsimp only;omega) (by dsimp only;omega)
     ·have:=Ky s.b q.1 r.line
      exact WtM.of rfl rfl (by dsimp only;omega) (by dsimp only;omega)
 | none=>
  dsimp only
  cases hv:s.v with
  | some v=>
   unfold vlM at hb;rw[hv]at hb;dsimp only at hb⊢
   split
   ·have:=pX s.b (.mk ⟨6,v.1,0,[],v.2,bS⟩ [])
    rw[rV]at this;exact WtM.of hg rfl (by dsimp only[endV];omega) (by dsimp only[endV];omega)
   ·refine⟨hg,?_,by simp only[aD,PL,PI,PQ];omega⟩
    unfold vlM;simp only[aD,hv];omega
  | none=>
   dsimp only;obtain⟨u1,u2,u3,u4,u5,u6⟩:=fe s;have hvn:=oJ hv;have hv1:=u2.trans hv;have hg1:=u3.trans hg;rw[EU I9 r hv1 hg1];have hbu:btl (upM s).b≤W:=by rw[u1];omega
   obtain⟨S,hS⟩:∃S,upM s=S:=⟨_,rfl⟩;rw[hS]at hbu hv1 hg1 u6⊢;clear u1 u2 u3 u4 u5 hS;have ht:∀k,WtM (aD S k r.line) (W+(2*(r.text.length+lnT r.args)+30)):=fun k=>WtM.of hg1 hv1 (by dsimp only[aD];omega) (by simp only[aD,PL,PI,PQ];omega)
   cases hk:jE r.mac with
   | none=>exact ht 4
   | some m=>
    have hw1:=oI r.args;have hw2:=zJ r.args;have hw3:=oI (r.args.take 1);have hw4:=zJ (r.args.take 1);have hw5:=wZ r.args;have hkd:kdM S=0:=by unfold kdM;rw[hv1,hg1]
    dsimp only
    cases m with
    | ti=>
     dsimp only[doS,Lr]
     split
     ·exact ht 13
     ·exact WtM.of hg1 hv1 (by show btl S.b≤_;omega) (by dsimp only;omega)
    | he k K=>
     dsimp only[doS,uT];have h1:=jW S.b K
     split
     ·exact WtM.of hg1 hv1 (by dsimp only;omega) (by dsimp only;omega)
     ·refine WtM.opn (s:=(xQ I9 {S with b:=aK S.b K} r r.args).1) hg1 hv1 ?_ ?_
      ·show btl (aK S.b K)+(dE 0 r.args).1.length+6≤_;omega
      ·show(S.d++aY r.line (dE 0 r.args).2).length+1≤_
       rw[PL,jV];omega
    | pa=>
     have h1:=jW S.b [4];exact WtM.of hg1 hv1 (by dsimp only[doS];omega) (by dsimp only[doS];omega)
    | tg=>
     have h1:=jW S.b [4];obtain⟨kv,kg,kw,kb,kt,kd⟩:=gD {S with b:=aK S.b [4] } r 0;show WtM ({(aL {S with b:=aK S.b [4] } r 0).1 with w:=some ⟨4,r.line,(aL {S with b:=aK S.b [4] } r 0).2⟩ }) _;exact WtM.of (kg.trans hg1) (kv.trans hv1) (by dsimp only;rw[kb];dsimp only;omega) (by dsimp only at kd⊢;omega)
    | it=>
     have h1:=jW S.b [4];obtain⟨kv,kg,kw,kb,kt,kd⟩:=gD {S with b:=aK S.b [4],d:=S.d++aY r.line (dE 0 (r.args.take 1)).2} r 1;simp only[PL,jV]at kd;show WtM (dh (aL {S with b:=aK S.b [4],d:=S.d++aY r.line (dE 0 (r.args.take 1)).2} r 1).1 (cB 4 r.line (aL {S with b:=aK S.b [4],d:=S.d++aY r.line (dE 0 (r.args.take 1)).2} r 1).2 (dE 0 (r.args.take 1)).1)) _;exact WtM.opn (kg.trans hg1) (kv.trans hv1) (by rw[kb];dsimp only;omega) (by omega)
    | nd=>
     obtain⟨kv,kg,kw,kb,kt,kd⟩:=gD S r 0;dsimp only[doS];exact WtM.opn (kg.trans hg1) (kv.trans hv1) (by rw[kb];simp only[PQ];omega) (by omega)
    | ou=>
     have h1:=Ih S.b 5;dsimp only[doS]
     split
     ·exact WtM.of hg1 hv1 (by dsimp only;omega) (by dsimp only;omega)
     ·exact WtM.of hg1 hv1 (by dsimp only[aD];omega) (by simp only[aD,PL,PI,PQ];omega)
    | be k=>
     have h1:=fD S.b;obtain⟨m1,m2,m3⟩:=uN hk;dsimp only[doS,jm];rcases m1 k rfl with rfl | rfl
     ·rw[PZ rfl]
      refine⟨hg1,?_,by dsimp only;omega⟩;unfold vlM;have e1:lens ([]:List (List Gly))=0:=by simp[lens]
      simp only[e1,PQ];omega
     ·exfalso
      refine hts ?_
      by_cases c:r.mac∈dL.map Prod.fst
      ·simp only[dL,Qo,QH,Qn,Qs,Ri]at c
       rcases c with q | q | q | q | q | q | q | q | q | q | q | q | q | q | q | q
       all_goals first
        | exact q
        | (rw[q]at hk;simp[jE,dL]at hk)
      ·rw[qw c]at hk;cases hk
    | en k=>
     obtain⟨m1,m2,m3⟩:=uN hk;have e:doS I9 S r (.en k)=if kdM S=k then(match S.v with
      | some v=>endV S v
      | none=>match S.g with
       | some g=>endG I9 S g
       | none=>S) else aD S 6 r.line:=rfl
     rw[e,PO (by rw[hkd];exact fun e=>m3 k rfl e.symm)];exact ht 6
theorem WtM.rows:∀{l:List aI} {s:Md} {W:Nat},WtM s W→(∀r∈l,fJ r)→(∀r∈l,r.mac≠ [84,83])→WtM (l.foldl (iD I9) s) (W+nI l)
 | [],s,W,h,_,_=>by simpa[nI] using h
 | r::l,s,W,h,h1,h2=>by
  have:=WtM.rows (l:=l) (h.step (h1 r QQ) (h2 r QQ)) (fun x hx=>h1 x (QM _ hx)) (fun x hx=>h2 x (QM _ hx));simp only[RF,nI,Qo,Rz]at this⊢;rw[←Nat.add_assoc];exact this
theorem nQ:WtM md0 10:=by refine⟨rfl,?_,by decide⟩;decide+kernel
theorem F8 (l:List aI){i:Nat}{r:aI}(h:l[i]? =some r):nI (l.take i)+rwt r≤nI l:=by
 have hi:i<l.length:=(Pw.1 h).1;have e:l=l.take i++r::l.drop (i+1):=by
  have h2:l[i]=r:=(Pw.1 h).2;rw[←h2,←Qu hi,QK]
 have:nI l=nI (l.take i)+(rwt r+nI (l.drop (i+1))):=by
  conv=>lhs;rw[e]
  simp[nI]
 omega
theorem Ag:∀l:List aI,l.length≤nI l
 | []=>by simp[nI]
 | r::l=>by
  have h1:=Ag l;have h2:nI (r::l)=rwt r+nI l:=by simp[nI]
  have h3:30≤rwt r:=by unfold rwt;omega
  rw[h2,PI];omega
theorem WtM.stepB {okl:Int→Prop}{s:Md}{W:Nat}(h:WtM s W){r:aI}(hl:fJ r)(hW:W+rwt r≤29500):StepB okl s r:=by
 obtain⟨hg,hb,hd⟩:=h;unfold rwt at hW;refine⟨hl,by omega,by omega,?_,by unfold txM;rw[hg];simp,fun v0 hv=>?_,fun g0 hg0=>by rw[hg]at hg0;cases hg0⟩
 ·unfold rwM
  unfold vlM at hb
  cases hv:s.v with
  | none=>simp
  | some v=>rw[hv]at hb;dsimp only at hb⊢;omega
 ·unfold vlM at hb
  rw[hv]at hb;dsimp only at hb;omega
theorem EF:fJ row0:=⟨by simp[row0],by simp[row0,lnT],by simp[row0]⟩
theorem KC {rs:List aI}(hle:∀r∈rs,fJ r)(hts:∀r∈rs,r.mac≠ [84,83]):btl (di I9 rs).b≤nI rs+20:=by
 have hW:=WtM.rows nQ hle hts;have hr:gp I9 rs=rs.foldl (iD I9) md0:=rfl;unfold di zh;rw[hr];obtain⟨s,hs⟩:∃s,rs.foldl (iD I9) md0=s:=⟨_,rfl⟩;rw[hs]at hW⊢;obtain⟨hg,hb,hd⟩:=hW;obtain⟨u1,u2,u3,u4,u5,u6⟩:=fe s;have e1:oz I9 (upM s)=upM s:=by unfold oz;rw[u3,hg]
 rw[e1];have ht:∀q:Md,(rO q).b=q.b:=fun q=>by unfold rO;split<;>rfl
 rw[ht];unfold wh;rw[u2];unfold vlM at hb
 cases hv:s.v with
 | none=>dsimp only;rw[u1];rw[hv]at hb;dsimp only at hb;omega
 | some v=>
  rw[hv]at hb;dsimp only[endV,aD]at hb⊢;have:=pX (upM s).b (.mk ⟨6,v.1,0,[],v.2,bS⟩ []);rw[rV,u1]at this;rw[u1];omega
theorem LV {rs:List aI}(hle:∀r∈rs,fJ r)(hts:∀r∈rs,r.mac≠ [84,83])(hml:∀r∈rs,r.mac.length≤100000)(hw:nI rs≤29000):PB rs:=by
 have hW:=WtM.rows nQ hle hts;have hr:gp I9 rs=rs.foldl (iD I9) md0:=rfl;refine⟨fun i r hi=>?_,by have:=Ag rs;omega,fun i r hi=>hml r (Qq hi),?_,fun g0 hg=>?_,?_⟩
 ·have h1:=WtM.rows (l:=rs.take i) nQ (fun x hx=>hle x (Rb hx)) (fun x hx=>hts x (Rb hx))
  have h2:=F8 rs hi;exact h1.stepB (hle r (Qq hi)) (by omega)
 ·rw[hr]
  exact hW.stepB EF (by unfold rwt row0;simp[lnT];omega)
 ·rw[hr,hW.g]at hg
  cases hg
 ·have:=KC hle hts
  omega
def knR:List aI:=[⟨1,[83,72],[[65]],[]⟩,⟨2,[],[],[98]⟩]
def knT:Txt:=[46,83,72,32,65,10,98,10]
theorem pF:(gu knT).1.map toM=knR∧(gu knT).2=[]:=by
 constructor<;>rfl
theorem OU:(di I9 knR).d=[(12,0,0)]:=by decide+kernel
theorem NW:wz (di I9 knR).b=[.mk ⟨1,1,0,[(65,0)],[],bS⟩ [.mk ⟨3,2,0,[(98,0)],[],bS⟩ []]]:=by kernel_rfl
theorem OT:PB knR:=LV (by
 intro r hr;simp only[knR,Qn,Qs,Ri]at hr;rcases hr with rfl | rfl
 ·exact⟨by simp,by simp[lnT],by simp⟩
 ·exact⟨by simp,by simp[lnT],by simp⟩) (by
 intro r hr;simp only[knR,Qn,Qs,Ri]at hr;rcases hr with rfl | rfl<;>simp) (by
 intro r hr;simp only[knR,Qn,Qs,Ri]at hr;rcases hr with rfl | rfl<;>simp) (by decide+kernel)
theorem oF:∀(l:List Txt) (ln:Int) (cols:Txt) (d:List Dgn),cols.length≤20→(dY l ln cols d).1.length≤20
 | [],ln,cols,d,h=>h
 | s::r,ln,cols,d,h=>by
  have h2:(if(aS s).1=[] then cols else(aS s).1.take 20).length≤20:=by
   split
   ·exact h
   ·rw[PW];omega
  unfold dY;simp only
  split
  ·exact h2
  ·exact oF r _ _ _ h2
theorem EW (line:Int)(L:List Txt):dw line L=((dJ line L).bx,(dJ line L).al,(dJ line L).d,L.drop (dJ line L).k,line+(dJ line L).k)∧(dJ line L).k≤L.length∧(dJ line L).d.length≤1+2*(dJ line L).k∧(dJ line L).rows=[]:=by
 cases L with
 | nil=>exact⟨by simp[dw,dJ,s00],Px _,P6 _,rfl⟩
 | cons x r=>
  unfold dw dJ
  by_cases h:dV x 59
  ·simp only[PZ h]
   refine⟨by simp[RS.lk,s00],by simp[RS.lk],?_,rfl⟩;simp only[RS.lk,s00,Qt]
   split<;>simp
  ·simp only[PO h]
   exact⟨by simp[s00],P6 _,P6 _,rfl⟩
theorem nX (lg:Lgf)(nc n:Nat)(ln:Int)(rs:List bT)(d:List Dgn):fE lg nc n [] ln rs d=(rs,d):=by cases n<;>rfl
def Jg (L:List Txt)(line:Int)(s:RS)(x:Txt):RS:=
 let q:=rowP lgF s.cols.length x (L.drop (s.k+1)) (line+s.k)
 {k:=max (s.k+1) (L.length-q.2.2.2.length),cols:=s.cols,rows:=s.rows++ [q.1],bx:=s.bx,al:=s.al,d:=s.d++q.2.1}
theorem vN.eq9 {L:List Txt}{line:Int}{x:Txt}{s s':RS}(h:vN L line x s.next s'):s'=Jg L line s x:=by
 have h1:=h.k0;have h2:=h.kl;have h3:=h.rest;have h4:=h.rows;have h5:=h.d;rw[rW]at h3 h4 h5;have h6:=PR List.length h3;rw[PU]at h6;obtain⟨k,cols,rows,bx,al,d⟩:=s';have e1:cols=s.cols:=h.cols;have e2:bx=s.bx:=h.bx;have e3:al=s.al:=h.al;simp only at h1 h2 h3 h4 h5 h6;subst e1 e2 e3 h4 h5;unfold Jg;simp only[RS.mk.injEq,and_true,true_and];refine⟨?_,rfl,rfl⟩;show k=max (s.k+1) (L.length-(rowP lgF s.cols.length x (L.drop (s.k+1)) (line+s.k)).2.2.2.length);have e:(rowP lgF s.cols.length x (L.drop (s.k+1)) (line+s.k)).2.2.2.length=L.length-k:=h6.symm;have h1':s.k+1≤k:=h1;rw[e];omega
structure PaK (L:List Txt)(line:Int)(sC:RS)(T:List bT×List Dgn)(s:RS):Prop where
 kl:s.k≤L.length
 dl:s.d.length+2*lnT (L.drop s.k)≤sC.d.length+2*lnT (L.drop sC.k)
 rl:s.rows.length≤s.k
 cols:s.cols=sC.cols
 bx:s.bx=sC.bx
 al:s.al=sC.al
 inv:∃n,(L.drop s.k).length≤n∧fE lgF sC.cols.length n (L.drop s.k) (line+s.k) s.rows s.d=T
theorem PaK.step {L:List Txt}{line:Int}{sC s s':RS}{T:List bT×List Dgn}{x:Txt}(h:PaK L line sC T s)(hx:L[s.k]? =some x)(hE:vN L line x s.next s'):PaK L line sC T s':=by
 have h1:=h.dl;have h2:=hE.dl;have hd:=Bf hx;have e1:lnT (L.drop s.next.k)=lnT (L.drop (s.k+1)):=rfl;have e2:s.next.d.length=s.d.length:=rfl;have e3:s.k+1≤s'.k:=hE.k0;rw[e1,e2]at h2;have h3:lnT (L.drop s'.k)≤lnT (L.drop (s.k+1)):=by
  have h:=gF (L.drop (s.k+1)) (s'.k-(s.k+1));rw[Sa]at h
  rwa [show s.k+1+(s'.k-(s.k+1))=s'.k by omega]at h
 have h4:=hE.rows;have h5:=hE.d;have h6:=hE.rest;have h7:=hE.ln;rw[rW]at h4 h5 h6 h7;have e4:s.next.rows=s.rows:=rfl;have e5:s.next.d=s.d:=rfl;have e6:s.next.cols=s.cols:=rfl;have e7:L.drop s.next.k=L.drop (s.k+1):=rfl;rw[e4,e6,e7,h.cols]at h4;rw[e5,e6,e7,h.cols]at h5;rw[e6,e7,h.cols]at h6 h7;have h8:=h.rl;obtain⟨n,q1,q2⟩:=h.inv;rw[fo hx]at q1 q2;refine⟨hE.kl,by omega,by rw[h4];simp;omega,hE.cols.trans h.cols,hE.bx.trans h.bx,hE.al.trans h.al,?_⟩
 cases n with
 | zero=>simp at q1
 | succ n=>
  refine⟨n,?_,?_⟩
  ·simp only[PI,PU]at q1⊢
   omega
  ·rw[←q2]
   show _=fE lgF sC.cols.length n _ _ _ _;rw[h4,h5,←h6];rcases h7 with h7 | h7
   ·rw[h7,nX,nX]
   ·rw[h7,show line+(s'.k:Int)-1+1=line+s'.k by omega]
theorem PaK.fin {L:List Txt}{line:Int}{sC s:RS}{T:List bT×List Dgn}(h:PaK L line sC T s)(hk:s.k=L.length):T=(s.rows,s.d):=by
 obtain⟨n,q1,q2⟩:=h.inv;rw[hk,Rk,nX]at q2;exact q2.symm
theorem Gi {L:List Txt}{line:Int}{sC s:RS}(hC:CoE L line (dJ line L) (dY (L.drop (dJ line L).k) (line+(dJ line L).k) [] (dJ line L).d) sC)
  (hT:(fE lgF sC.cols.length (L.drop sC.k).length (L.drop sC.k) (line+sC.k) [] sC.d)=(s.rows,s.d)) (h1:s.cols=sC.cols) (h2:s.bx=sC.bx) (h3:s.al=sC.al):
  fH lgF line L=(mend ⟨s.cols,s.rows,s.bx,s.al⟩,s.d):=by
 obtain⟨p1,p2,p3,p4⟩:=EW line L;unfold fH;rw[p1];simp only;have c1:=hC.cols;have c2:=hC.d;have c3:=hC.rest;have c4:=hC.ln;rw[←c1,←c2,←c3,c4,hT,h1,h2,h3,hC.bx,hC.al]
theorem Aw {L:List Txt}{line:Int}{sC s:RS}(hT:(fE lgF sC.cols.length (L.drop sC.k).length (L.drop sC.k) (line+sC.k) [] sC.d)=(s.rows,s.d)):cZ s.rows≤2*lnT L:=by
 have h:=nW (lg:=lgF) (fun s=>(jA s).1) sC.cols.length (L.drop sC.k).length (L.drop sC.k) (line+sC.k) [] sC.d;rw[hT]at h;have h2:=gF L sC.k;have h3:=iJ (L.drop sC.k);simp only[cZ,QH,RX]at h⊢;omega
theorem fV.low9 {base base':Nat}{W:World}{v:Value}{l:List bT}(h:fV base W v l)(hb:base'≤base):fV base' W v l:=by
 obtain⟨L,S,hL,hl,hS,hE⟩:=h.own;exact⟨⟨L,S,ag.mono hL hb,hl,fun b q=>⟨PY hb (hS b q).1,(hS b q).2⟩,hE⟩⟩
structure PaM (w:World)(B C C2 R:Nat)(line:Int)(vl:Value)(s:RS)(W:World):Prop where
 ri:RI w B line vl s W
 b1:Blk W C 183 [.pointer (some ⟨B,0,none⟩)]
 b2:Blk W C2 183 [.pointer (some ⟨B,0,none⟩)]
 res:Blk W R 56 [.string ⟨#[]⟩,.slice none 0 0,.bool false,.bool false]
section
variable {w:World}{B C C2 R:Nat}{line:Int}{vl:Value}{s s':RS}{A A':World}
theorem PaM.go (h:PaM w B C C2 R line vl s A)(hr:RI w B line vl s' A')(hf:FrW A A'):PaM w B C C2 R line vl s' A':=
 ⟨hr,hf.blk h.b1 (by decide) (by decide) (by decide),hf.blk h.b2 (by decide) (by decide) (by decide),hf.blk h.res (by decide) (by decide) (by decide)⟩
theorem PaM.keep (h:PaM w B C C2 R line vl s A)(hb:Below A.heap.size A A'):PaM w B C C2 R line vl s A':=h.go (h.ri.keep hb) (FrR.below hb).w
theorem PaM.fr0 {B':Nat}(h1:w.heap.size≤B'):Fr0 B' (PaM w B C C2 R line vl s):=fun A A' row h hg hr=>
 ⟨RI.fr0 h1 A A' row h.ri hg hr,Blk.fr0 A A' row h.b1 hg hr,Blk.fr0 A A' row h.b2 hg hr,Blk.fr0 A A' row h.res hg hr⟩
end
structure PaF (w:World)(v vd:Value)(rows:List bT)(d:List Dgn)(W:World):Prop where
 bel:Below w.heap.size w W
 rows:fV w.heap.size W v rows
 d:bG w.heap.size W vd d
theorem PaF.fr0 {w:World}{v vd:Value}{rows:List bT}{d:List Dgn}{B':Nat}(hB:w.heap.size≤B'):Fr0 B' (PaF w v vd rows d):=fun A A' row h hg hr=>
 ⟨h.bel.grown hg h.bel.size (fun k e=>PY hB (hr k e).1),h.rows.sam (aF.others hg hr) (aF.others hg hr) (aF.others hg hr),h.d.sam (aF.others hg hr)⟩
theorem PaF.set {w W:World}{v vd:Value}{rows:List bT}{d:List Dgn}{R:Nat}{L:List Value}(h:PaF w v vd rows d W)(hR:w.heap.size≤R)(hb:Blk W R 56 L)(j:Nat)(x:Value):PaF w v vd rows d (W.setCell ⟨R,j,none⟩ x):=
 ⟨h.bel.setCell (p:=⟨R,j,none⟩) hR _,h.rows.sam (aF.set hb (by decide) _ _) (aF.set hb (by decide) _ _) (aF.set hb (by decide) _ _),h.d.sam (aF.set hb (by decide) _ _)⟩
section
attribute [local go_sem] QX
theorem Gl (line:Int)(L:List Txt)(a0:Option Addr)(c0:Nat)(w:World)(hU:U8 w)(hS:Ss w (.slice a0 L.length c0) L)(hl:lnT L≤40000)(hL:∀s∈L,s.length≤2000):
  CallsIn Fence.wide 9 Tryz.prog 93 #[.int .i64 (w6 line),.slice a0 L.length c0] w fun e W'=> ∃(r:PV) (vd:Value),e=.returned (.tuple #[tH (fH lgF line L).1 r,vd])∧PaF w (pv r) vd (fH lgF line L).1.rows ((fH lgF line L).2.map wD) W':=by
 have hn:L.length≤40000:=by have:=iJ L;omega
 obtain⟨PP,hPP⟩:∃PP,fH lgF line L=PP:=⟨_,rfl⟩;rw[hPP];obtain⟨pS1,pS2,pS3,pS4⟩:=EW line L;obtain⟨U1,hU1⟩:∃U1,w.alloc (.cells #[.string ⟨#[]⟩,.slice none 0 0,.bool false,.bool false] 56)=U1:=⟨_,rfl⟩;obtain⟨U2,hU2⟩:∃U2,U1.alloc (.cells #[.int .i64 (w6 line),.slice a0 L.length c0,.int .i64 0,.string ⟨#[]⟩,.slice none 0 0,.bool false,.bool false,.slice none 0 0] 185)=U2:=⟨_,rfl⟩;obtain⟨U3,hU3⟩:∃U3,U2.alloc (.cells #[.pointer (some ⟨w.heap.size+1,0,none⟩)] 183)=U3:=⟨_,rfl⟩;have z1:U1.heap.size=w.heap.size+1:=by rw[←hU1];simp
 have z2:U2.heap.size=w.heap.size+2:=by rw[←hU2];simp[z1]
 have z3:U3.heap.size=w.heap.size+3:=by rw[←hU3];simp[z2]
 have b1:Below w.heap.size w U1:=by rw[←hU1];exact ae w _
 have b2:Below U1.heap.size U1 U2:=by rw[←hU2];exact ae U1 _
 have b3:Below U2.heap.size U2 U3:=by rw[←hU3];exact ae U2 _
 have k1:Blk U1 w.heap.size 56 [.string ⟨#[]⟩,.slice none 0 0,.bool false,.bool false]:=by rw[←hU1];exact PK w _
 have k2:Blk U2 (w.heap.size+1) 185 [.int .i64 (w6 line),.slice a0 L.length c0,.int .i64 0,.string ⟨#[]⟩,.slice none 0 0,.bool false,.bool false,.slice none 0 0]:=by rw[←hU2,←z1];exact PK U1 _
 have k3:Blk U3 (w.heap.size+2) 183 [.pointer (some ⟨w.heap.size+1,0,none⟩)]:=by rw[←hU3,←z2];exact PK U2 _
 obtain⟨B,hB⟩:∃B,w.heap.size+1=B:=⟨_,rfl⟩;have hRI:RI w B line (.slice a0 L.length c0) s00 U3:=by
  refine⟨by omega,b1.trans ((b2.trans (b3.mono (by omega))).mono (by omega)),.slice none 0 0,.slice none 0 0,?_,fV.nil _ _,ag.nil _ _⟩;rw[←hB];exact k2.below b3
 have hM0:PaM w B (w.heap.size+2) (w.heap.size+2) w.heap.size line (.slice a0 L.length c0) s00 U3:=⟨hRI,by rw[←hB];exact k3,by rw[←hB];exact k3,k1.below (b2.trans (b3.mono (by omega)))⟩;have LK:Hid (CallsIn Fence.wide 8 Tryz.prog 128 #[.pointer (some ⟨B,0,none⟩)] U3 fun e V=>e=.returned (.tuple #[])∧PaM w B (w.heap.size+2) (w.heap.size+2) w.heap.size line (.slice a0 L.length c0) (dJ line L) V):=zH (Qb.2 ((CG L U3 hRI hS hU hL hn).mono fun e V ⟨q1,q2,q3⟩=>⟨q1,hM0.go q2 q3.w⟩));have CO:Hid (∀V,PaM w B (w.heap.size+2) (w.heap.size+2) w.heap.size line (.slice a0 L.length c0) (dJ line L) V→CallsIn Fence.wide 8 Tryz.prog 129 #[.pointer (some ⟨B,0,none⟩)] V fun e V'=>e=.returned (.tuple #[])∧ ∃s,PaM w B (w.heap.size+2) (w.heap.size+2) w.heap.size line (.slice a0 L.length c0) s V'∧CoE L line (dJ line L) (dY (L.drop (dJ line L).k) (line+(dJ line L).k) [] (dJ line L).d) s):=zH fun V hV=>Qb.2 ((vV L _ V hV.ri hS hU hL hn pS2 pS3).mono fun e V' ⟨q1,s,q2,q3,q4⟩=>⟨q1,s,hV.go q2 q3.w,q4⟩)
 have L1:Hid (∀V,CallsIn Fence.wide 8 Tryz.prog 130 #[.pointer (some ⟨B,0,none⟩)] V fun e w'=>e=.returned (.func (.func 161) #[] #[.pointer (some ⟨V.heap.size,0,none⟩)])∧V.alloc (.cells #[.pointer (some ⟨B,0,none⟩)] 183)=w'):=zH fun V=>Qb.2 (qx B V)
 have R3:Hid (U3.cell? ⟨w.heap.size+2,0,none⟩=some (.pointer (some ⟨B,0,none⟩))):=zH (hM0.b1.cell 0);refine callsIn_of_wp_marks Tryz.func93 rfl trivial ?_ rfl;simp only[Tryz.ntmps93,Q0,PI,PQ,Nat.reduceAdd,Nat.reduceSub,QT,QS,Q5,QU,Qt,Qe];clear hM0 hRI k1 k2 k3
 gi_wp2_with fail
 try rw[hB]at hU3
 rw[hU3]
 gi_wp2_with (first
  | (refine⟨trivial,?_⟩;gi_at_call 128;refine LK.out.mono ?_;rintro e V1 ⟨rfl,m1⟩;have M1:=zH m1;have p1:V1.cell? ⟨w.heap.size+2,0,none⟩=some (.pointer (some ⟨B,0,none⟩)):=m1.b1.cell 0;clear m1)
  | (refine⟨trivial,?_⟩;gi_at_call 129;refine(CO.out _ M1.out).mono ?_;rintro e V2 ⟨rfl,sC,m2,hC⟩;have M2:=zH m2;have HC:=zH hC;have p2:V2.cell? ⟨w.heap.size+2,0,none⟩=some (.pointer (some ⟨B,0,none⟩)):=m2.b1.cell 0;clear m2 hC)
  | (refine⟨trivial,?_⟩;gi_at_call 130;refine(L1.out _).mono ?_;rintro e w' ⟨rfl,rfl⟩))
 have HS:=zH hS;have HU:=zH hU;have HLn:=zH hL;have hWz:w.heap.size+2<V2.heap.size:=by have:=(Py.1 M2.out.b1).1;omega
 obtain⟨T,hT⟩:∃T,fE lgF sC.cols.length (L.drop sC.k).length (L.drop sC.k) (line+sC.k) [] sC.d=T:=⟨_,rfl⟩;have hr0:sC.rows=[]:=HC.out.rows.trans pS4;have hK0:PaK L line sC T sC:=⟨HC.out.kl,Px _,by rw[hr0];exact P6 _,rfl,rfl,rfl,_,Px _,by rw[hr0];exact hT⟩;have hcl:sC.cols.length≤20:=by
  rw[HC.out.cols];have:=oF (L.drop (dJ line L).k) (line+(dJ line L).k) [] (dJ line L).d (by simp)
  split
  ·simp
  ·exact this
 have HT:=zH hT;have hdC:sC.d.length+2*lnT (L.drop sC.k)≤170000:=by
  have e1:=HC.out.dl;have e2:=HC.out.kl;have e3:=gF L sC.k;omega
 obtain⟨V3,hV3⟩:∃V3,V2.alloc (.cells #[.pointer (some ⟨B,0,none⟩)] 183)=V3:=⟨_,rfl⟩;rw[hV3];have hM0:PaM w B (w.heap.size+2) V2.heap.size w.heap.size line (.slice a0 L.length c0) sC V3:=by
  have h:=M2.out.keep (ae V2 (.cells #[.pointer (some ⟨B,0,none⟩)] 183));rw[hV3]at h;exact⟨h.ri,h.b1,by rw[←hV3];exact PK V2 _,h.res⟩
 have hz3:V3.heap.size=V2.heap.size+1:=by rw[←hV3];simp
 have HROW:Hid (∀(s:RS) x V l m,PaM w B (w.heap.size+2) V2.heap.size w.heap.size line (.slice a0 L.length c0) s.next V→L[s.k]? =some x→PaK L line sC T s→CallsIn (Fence.wide.inRound l) m Tryz.prog 131 #[.pointer (some ⟨B,0,none⟩),.string ⟨x.toArray⟩] V fun e V'=>e=.returned (.tuple #[])∧PaM w B (w.heap.size+2) V2.heap.size w.heap.size line (.slice a0 L.length c0) (Jg L line s x) V'∧KeepsOthers V V'∧PaK L line sC T (Jg L line s x)):=zH fun s x V l m hV hx hK=>by
  have e1:=hK.dl;have e2:=hK.rl;have e3:=(Pw.1 hx).1;have e4:s.next.cols.length≤20:=by show s.cols.length≤20;rw[hK.cols];exact hcl
  refine CallsIn.inRound l (Qb.2 ((Jf L s.next x V hV.ri HS.out HU.out HLn.out hl hn (HLn.out x (Qq hx)) (by show s.k+1≤_;omega) (by show s.d.length≤_;omega) (by show s.rows.length≤_;omega) (by omega)).mono ?_));rintro e V' ⟨s',rfl,r1,f1,hE⟩;have e5:=hE.eq9;subst e5;exact⟨rfl,hV.go r1 f1,f1.ko,hK.step hx hE⟩
 clear LK CO L1 R3 hU1 hU2 hU3 M1 p1 p2 b1 b2 b3 z1 z2 z3 hT hr0 hdC hcl hU hS hL;refine lV rfl (by decide) (gf:=161) (lb:= #[.pointer (some ⟨V2.heap.size,0,none⟩)]) rfl trivial (enters_of Tryz.func161 (by kernel_rfl) rfl)
  (uP 8 V2.heap.size B w line L a0 c0 (Jg L line) (fun s V=>PaM w B (w.heap.size+2) V2.heap.size w.heap.size line (.slice a0 L.length c0) s V∧PaK L line sC T s) (fun s x V=>PaM w B (w.heap.size+2) V2.heap.size w.heap.size line (.slice a0 L.length c0) s.next V∧(L[s.k]? =some x∧PaK L line sC T s)) (by omega) HS.out
   (fun s x=>by show s.k<max (s.k+1) _;omega)
   (fun s V h=>⟨h.1.ri,h.2.kl,h.1.b2⟩)
   (fun s A A' h hb=>⟨h.1.keep hb,h.2⟩)
   (fun s A x h hx=>⟨h.1.go h.1.ri.next (h.1.ri.frp 2 _).w,hx,h.2⟩)
   (fun s x A A' h hb=>⟨h.1.keep hb,h.2⟩)
   (fun s x V h=>⟨h.1.ri,h.1.b2⟩) sC)
  (fun _ _=>trivial) (fun _ _ _ _ _ _ _=>trivial) (fun _=>rfl)
  (fun c V=>False)
  (fun s=>(PaM.fr0 (by omega)).and (Fr0.pure _ _))
  (fun s x=>(PaM.fr0 (by omega)).and (Fr0.pure _ _))
  (fun c=>Fr0.pure _ _)
  (Fr0.ex fun s=>((PaM.fr0 (by omega)).and (Fr0.pure _ _)).and (Fr0.pure _ _))
  ⟨hM0,hK0⟩
  (fun x=>{tmps:= #[.int .i64 (w6 line),.slice a0 L.length c0,undef,undef,.pointer (some ⟨w.heap.size,0,none⟩),.slice none 0 0,.pointer (some ⟨w.heap.size+2,0,none⟩),.string ⟨x.toArray⟩,.int .i64 (w6 line),.slice a0 L.length c0,.agg #[.int .i64 (w6 line),.slice a0 L.length c0,.int .i64 0,.string ⟨#[]⟩,.slice none 0 0,.bool false,.bool false,.slice none 0 0],.pointer (some ⟨B,0,none⟩),.pointer (some ⟨B,0,none⟩),.tuple #[],.pointer (some ⟨B,0,none⟩),.tuple #[],.pointer (some ⟨B,0,none⟩),.func (.func 161) #[] #[.pointer (some ⟨V2.heap.size,0,none⟩)],.string ⟨x.toArray⟩,undef,undef,undef,undef,undef,undef,undef,undef,undef,undef,undef,undef],defers:=[] }) ?assign ?body ?done ?stop
 case assign=>
  intro l x V K hK;simp only[zk]
  gi_wp2
  exact hK
 case body=>
  rintro l s x V ⟨hM,hx,hK⟩;have q1:V.cell? ⟨w.heap.size+2,0,none⟩=some (.pointer (some ⟨B,0,none⟩)):=hM.b1.cell 0;have HR1:=zH (fun m=>HROW.out s x V l m hM hx hK);clear hM hK hx hM0 hK0 HROW
  gi_wp2_with (refine⟨trivial,?_⟩;gi_at_call 131;refine(HR1.out _).mono ?_;rintro e V4 ⟨rfl,m1,ko1,kk1⟩;have M4:=zH m1;have KO4:=zH ko1;have KK4:=zH kk1;clear m1 ko1 kk1)
  exact⟨KO4.out.from _,trivial,M4.out,KK4.out⟩
 case done=>
  rintro D V hD ⟨s,⟨hM,hK⟩,hk⟩ hdef;have hT2:T=(s.rows,s.d):=hK.fin hk;have hP:=Gi HC.out (HT.out.trans hT2) hK.cols hK.bx hK.al;have htr:=Aw (L:=L) (HT.out.trans hT2);have hcl2:s.cols.length≤90000:=by
   rw[hK.cols,HC.out.cols];have:=oF (L.drop (dJ line L).k) (line+(dJ line L).k) [] (dJ line L).d (by simp)
   split
   ·simp
   ·omega
  rw[hPP]at hP;have hMd:=hM.keep (PG V.heap.size V).drew;obtain⟨vr,vd,hb,hw,hdo⟩:=hMd.ri.val;obtain⟨ra,rc,rfl⟩:=hw.len;have q0:V.drew.cell? ⟨w.heap.size+2,0,none⟩=some (.pointer (some ⟨B,0,none⟩)):=hMd.b1.cell 0;have q3:V.drew.cell? ⟨B,3,none⟩=some (.string ⟨s.cols.toArray⟩):=hb.cell 3;have q4:V.drew.cell? ⟨B,4,none⟩=some (.slice ra s.rows.length rc):=hb.cell 4;have q5:V.drew.cell? ⟨B,5,none⟩=some (.bool s.bx):=hb.cell 5;have q6:V.drew.cell? ⟨B,6,none⟩=some (.bool s.al):=hb.cell 6;have q7:V.drew.cell? ⟨B,7,none⟩=some vd:=hb.cell 7;obtain⟨m,hm⟩:∃m,mend ⟨s.cols,s.rows,s.bx,s.al⟩=m:=⟨_,rfl⟩;have HMD:Hid (Calls Tryz.prog 132 #[.agg #[.string ⟨s.cols.toArray⟩,.slice ra s.rows.length rc,.bool s.bx,.bool s.al]] V.drew fun e V'=> ∃sa sn sc,e=.returned (.agg #[.string ⟨m.cols.toArray⟩,.slice sa sn sc,.bool m.box,.bool m.all])∧
    V'.cell? ⟨w.heap.size+2,0,none⟩=some (.pointer (some ⟨B,0,none⟩))∧V'.cell? ⟨B,7,none⟩=some vd∧V'.heap[D]? =some (.deferred (some []))∧Hid (Blk V' w.heap.size 56 [.string ⟨#[]⟩,.slice none 0 0,.bool false,.bool false])∧Hid (PaF w (.slice sa sn sc) vd m.rows (s.d.map wD) V')):=zH (by
   have h:=wU (fun b=>w.heap.size≤b∧b<V.drew.heap.size) ⟨s.cols,s.rows,s.bx,s.al⟩ (ra,s.rows.length,rc) V.drew (HU.out.below hMd.ri.bel) hw.trs hcl2 (by show cZ s.rows≤_;omega) (fun x hx=>hx.2);rw[hm]at h;refine h.mono ?_;rintro e V' ⟨⟨sa,sn,sc⟩,rfl,g1,g2⟩;exact⟨sa,sn,sc,rfl,(hMd.b1.below g2).cell 0,(hb.below g2).cell 7,(g2.block D (by have:=(Py.1 hdef).1;exact this)).trans hdef,zH (hMd.res.below g2),zH ⟨hMd.ri.bel.trans (g2.mono hMd.ri.bel.size),g1.low9 hMd.ri.bel.size,hdo.keep g2⟩⟩)
  rw[hm]at hP;have HPM:=zH hP;clear hM hK hT2 hP htr hcl2 hMd hb hw hdo hm hM0 hK0 HROW hk hdef
  gi_wp2_with fail
  refine jI ?_;refine wpIn_wide.2 ?_;go_region_with (go_at_call 132;refine HMD.out.mono ?_;rintro e V' ⟨sa,sn,sc,rfl,u0,u7,uD,hBR,hPF⟩;have r0:V'.cell? ⟨w.heap.size,0,none⟩=some (.string ⟨#[]⟩):=hBR.out.cell 0;have r1:V'.cell? ⟨w.heap.size,1,none⟩=some (.slice none 0 0):=hBR.out.cell 1;have r2:V'.cell? ⟨w.heap.size,2,none⟩=some (.bool false):=hBR.out.cell 2;have r3:V'.cell? ⟨w.heap.size,3,none⟩=some (.bool false):=hBR.out.cell 3;have z0:V'.frozen? ⟨w.heap.size,0,none⟩=false:=hBR.out.frozen (by simp);have z1:V'.frozen? ⟨w.heap.size,1,none⟩=false:=hBR.out.frozen (by simp);have z2:V'.frozen? ⟨w.heap.size,2,none⟩=false:=hBR.out.frozen (by simp);have z3:V'.frozen? ⟨w.heap.size,3,none⟩=false:=hBR.out.frozen (by simp))
  all_goals
   gi_wp2_with fail
   have hB1:=hBR.out.set 0 (.string ⟨m.cols.toArray⟩);have hB2:=hB1.set 1 (.slice sa sn sc);have hB3:=hB2.set 2 (.bool m.box);have hB4:=hB3.set 3 (.bool m.all);have hP1:=hPF.out.set (Px _) hBR.out 0 (.string ⟨m.cols.toArray⟩);have hP2:=hP1.set (Px _) hB1 1 (.slice sa sn sc);have hP3:=hP2.set (Px _) hB2 2 (.bool m.box);have hP4:=hP3.set (Px _) hB3 3 (.bool m.all);have hd5:=(KeepsOthers.setCell _ ⟨w.heap.size,3,none⟩ (.bool m.all)).same D _ ((KeepsOthers.setCell _ ⟨w.heap.size,2,none⟩ (.bool m.box)).same D _ ((KeepsOthers.setCell _ ⟨w.heap.size,1,none⟩ (.slice sa sn sc)).same D _ ((KeepsOthers.setCell V' ⟨w.heap.size,0,none⟩ (.string ⟨m.cols.toArray⟩)).same D _ uD rfl) rfl) rfl) rfl;obtain⟨W5,hW5⟩:∃W5,((((V'.setCell ⟨w.heap.size,0,none⟩ (.string ⟨m.cols.toArray⟩)).setCell ⟨w.heap.size,1,none⟩ (.slice sa sn sc)).setCell ⟨w.heap.size,2,none⟩ (.bool m.box)).setCell ⟨w.heap.size,3,none⟩ (.bool m.all))=W5:=⟨_,rfl⟩;rw[hW5]at hB4 hP4 hd5⊢;have k:∀o',Blk (W5.putObj D o') w.heap.size 56 [.string ⟨m.cols.toArray⟩,.slice sa sn sc,.bool m.box,.bool m.all]:=fun o'=>Blk.fr0.put (B:=0) o' hB4 (P6 _) hd5 rfl
   have k0:=fun o'=>(k o').cell 0
   have k1:=fun o'=>(k o').cell 1
   have k2:=fun o'=>(k o').cell 2
   have k3:=fun o'=>(k o').cell 3
   simp at k0 k1 k2 k3;refine⟨by simp[Act.put],.inl ⟨_,_,rfl,run_takeDeferred (w:=W5) hd5,?_⟩⟩;refine⟨.tuple #[.agg #[.string ⟨m.cols.toArray⟩,.slice sa sn sc,.bool m.box,.bool m.all],vd],?_,(sa,sn,sc),vd,?_,?_⟩
   ·simp[results,Tryz.results93,Act.put,go_sem,k0,k1,k2,k3]
   ·rw[HPM.out];rfl
   ·rw[HPM.out]
    exact(PaF.fr0 (Px _)).put _ hP4 (by omega) hd5 rfl
 case stop=>
  rintro D c V hD h hdef;exact h.elim
end
theorem LA:BZ U8 I9.tab (fun _=>True):=by
 intro ln L v V _ hU hS hl hL;obtain⟨a,c,rfl⟩:=hS.len;refine(Qb.1 (Gl (ln+1) L a c V hU hS hl hL)).mono ?_;rintro e W' ⟨r,vd,rfl,hF⟩;exact⟨r,vd,rfl,hF.rows.trs,hF.d,hF.bel⟩
theorem wR (lg:Lgf)(nc:Nat):∀(n:Nat) (l:List Txt) (ln:Int) (rs:List bT) (d:List Dgn),(fE lg nc n l ln rs d).1.length≤rs.length+n
 | 0,l,ln,rs,d=>by simp[fE]
 | n+1,[],ln,rs,d=>by simp[fE]
 | n+1,s::r,ln,rs,d=>by
  unfold fE;simp only;have ih:=wR lg nc n (rowP lg nc s r ln).2.2.2 ((rowP lg nc s r ln).2.2.1+1) (rs++ [(rowP lg nc s r ln).1]) (d++(rowP lg nc s r ln).2.1);simp only[PL,QF]at ih;omega
theorem JJ (line:Int)(l:List Txt):(dw line l).2.2.2.1.length≤l.length:=by
 unfold dw
 cases l with
 | nil=>exact Px _
 | cons s r=>
  simp only
  split
  ·rw[PI];simp only;omega
  ·exact Px _
theorem BG:∀(l:List Txt) (ln:Int) (cols:Txt) (d:List Dgn),(dY l ln cols d).2.2.2.1.length≤l.length
 | [],ln,cols,d=>by simp[dY]
 | s::r,ln,cols,d=>by
  unfold dY;simp only;rw[PI]
  split
  ·simp only;omega
  ·have:=BG r (ln+1) (if(aS s).1=[] then cols else(aS s).1.take 20) (d++(if(aS s).2 then [] else [(10,ln,0)])++(if 20<(aS s).1.length then [(11,ln,0)] else []))
   omega
theorem Ay (line:Int)(l:List Txt):(fH lgF line l).1.cols.length≤20∧cZ (fH lgF line l).1.rows≤21*l.length+lnT l:=by
 have h1:=Bd line l;have h2:=vB (dw line l).2.2.2.1 (dw line l).2.2.2.2 [] (dw line l).2.2.1;have k1:=JJ line l;have k2:=BG (dw line l).2.2.2.1 (dw line l).2.2.2.2 [] (dw line l).2.2.1;unfold fH;simp only;generalize (dY (dw line l).2.2.2.1 (dw line l).2.2.2.2 [] (dw line l).2.2.1)=b at h2 k2;generalize (if b.1=[] then [108] else b.1:Txt)=cols;generalize b.2.2.1++(if b.2.1 then [] else [(7,line,0)])=d;have h4:=nW (lg:=lgF) (fun s=>(jA s).1) cols.length b.2.2.2.1.length b.2.2.2.1 b.2.2.2.2 [] d;have k4:=wR lgF cols.length b.2.2.2.1.length b.2.2.2.1 b.2.2.2.2 [] d;generalize fE lgF cols.length b.2.2.2.1.length b.2.2.2.1 b.2.2.2.2 [] d=q at h4 k4;simp only[cZ,QH,RX,Ra]at h4;rw[PQ,Ra]at k4;have h5:=qP (lH cols).length q.1;have h6:=(Ba cols).2.1;have h8:(lH cols).length*q.1.length≤20*q.1.length:=R9 _ h6;have h9:cZ q.1≤b.2.2.2.1.length+lnT b.2.2.2.1:=h4;refine⟨h6,?_⟩;show cZ (q.1.map (iZ (lH cols).length))≤_;omega
theorem lT (ln:Int)(l:List Txt):(I9.tab ln l).1.cols.length≤20∧cZ (I9.tab ln l).1.rows≤21*l.length+lnT l∧(I9.tab ln l).2.length≤2+4*lnT l:=by
 obtain⟨h1,h2⟩:=Ay (ln+1) l;refine⟨h1,h2,?_⟩;show((fH lgF (ln+1) l).2.map wD).length≤_;rw[Qy];exact CQ (lg:=lgF) (fun s=>(jA s).2) (ln+1) l
def jk (r:aI):Nat:=4*(r.text.length+lnT r.args)+40
def dX (l:List aI):Nat:=(l.map jk).sum
def gpM (s:Md):Nat:=match s.g with
 | some g=>21*g.2.length+lnT g.2+30
 | none=>0
def gdM (s:Md):Nat:=match s.g with
 | some g=>4*lnT g.2+4
 | none=>0
theorem Bl {s:Md}(h:s.g=none):gpM s=0:=by unfold gpM;rw[h]
theorem Bn {s:Md}(h:s.g=none):gdM s=0:=by unfold gdM;rw[h]
theorem jc {s:Md}{g:Int×List Txt}(h:s.g=some g):gpM s=21*g.2.length+lnT g.2+30:=by unfold gpM;rw[h]
theorem jd {s:Md}{g:Int×List Txt}(h:s.g=some g):gdM s=4*lnT g.2+4:=by unfold gdM;rw[h]
structure WtG (okl:Int→Prop)(s:Md)(W:Nat):Prop where
 b:btl s.b+vlM s+gpM s≤W
 d:s.d.length+gdM s≤W
 ok:∀g0,s.g=some g0→okl g0.1∧s.v=none∧ ∀x∈g0.2,x.length≤2000
theorem WtM.toG {s:Md}{W V:Nat}(h:WtM s W){okl:Int→Prop}(hv:W≤V):WtG okl s V:=by
 obtain⟨hg,hb,hd⟩:=h;exact⟨by rw[Bl hg];omega,by rw[Bn hg];omega,fun g0 e=>by rw[hg]at e;cases e⟩
theorem Js (ln:Int)(T:Tab):nlN (.mk ⟨7,ln,0,[],[],T⟩ [])=3+T.cols.length+cZ T.rows:=by simp[nlN,nlL,hdl,lens]
theorem N9 (r:aI)(h:r.mac=[84,83]):I9.inl r=none:=by
 show fP r=none;unfold fP;rw[h];simp
theorem WtG.endG {okl:Int→Prop}{s:Md}{W:Nat}(h:WtG okl s W){g:Int×List Txt}(hg:s.g=some g){s':Md}(hb:s'.b=s.b)(hv:s'.v=none)(hd:s'.d.length≤s.d.length+1):WtM (endG I9 s' g) (W+30):=by
 obtain⟨h1,h2,h3⟩:=lT g.1 g.2;have h4:=pX s'.b (.mk ⟨7,g.1,0,[],[],(I9.tab g.1 g.2).1⟩ []);rw[Js,hb]at h4;have h5:=h.b;have h6:=h.d;rw[jc hg]at h5;rw[jd hg]at h6;refine WtM.of rfl hv ?_ ?_
 ·show btl (qI s'.b _)≤_
  rw[hb];omega
 ·show(s'.d++(I9.tab g.1 g.2).2).length≤_
  rw[PL];omega
theorem WtG.step {okl:Int→Prop}{s:Md}{W:Nat}(h:WtG okl s W){r:aI}(hl:fJ r)(hts:r.mac=[84,83]→okl r.line):WtG okl (iD I9 s r) (W+jk r):=by
 have hr2:rwt r≤jk r:=by unfold rwt jk;omega
 cases hg:s.g with
 | none=>
  have hM:WtM s W:=⟨hg,by have:=h.b;omega,by have:=h.d;omega⟩
  by_cases ht:r.mac=[84,83]
  ·unfold iD
   rw[hg];simp only[N9 r ht];obtain⟨u1,u2,u3,u4,u5,u6⟩:=fe s
   cases hv:s.v with
   | some v=>
    dsimp only;rw[PO (by rw[ht];decide)];refine⟨?_,?_,fun g0 e=>?_⟩
    ·have h1:=h.b
     have e1:gpM (aD s 13 r.line)=0:=Bl hg;have e2:vlM (aD s 13 r.line)=vlM s:=rfl;have e3:(aD s 13 r.line).b=s.b:=rfl;rw[e1,e2,e3];omega
    ·have h1:=h.d
     have e1:gdM (aD s 13 r.line)=0:=Bn hg;rw[e1];unfold jk;simp only[aD,PL,PI,PQ];omega
    ·have e2:(aD s 13 r.line).g=s.g:=rfl
     rw[e2,hg]at e
     cases e
   | none=>
    dsimp only;have e9:Bc I9 (upM s) r={upM s with b:=bM (upM s).b,g:=some (r.line,[]) }:=by
     unfold Bc;rw[ht];simp[mTH,mSH,mSS]
    rw[e9];have h1:=fD (upM s).b;have h2:=h.b;have h3:=h.d;rw[u1]at h1;unfold jk;refine⟨?_,?_,fun g0 e=>?_⟩
    ·have e1:gpM {upM s with b:=bM (upM s).b,g:=some (r.line,[]) }=30:=(jc (g:=(r.line,[])) rfl).trans (by simp[lnT])
     have e2:vlM {upM s with b:=bM (upM s).b,g:=some (r.line,[]) }=0:=oJ (u2.trans hv);rw[e1,e2];show btl (bM (upM s).b)+0+30≤_;rw[u1];omega
    ·have e1:gdM {upM s with b:=bM (upM s).b,g:=some (r.line,[]) }=4:=(jd (g:=(r.line,[])) rfl).trans (by simp[lnT])
     rw[e1];show(upM s).d.length+4≤_;omega
    ·obtain rfl:=PT e
     exact⟨hts ht,u2.trans hv,fun x hx=>by cases hx⟩
  ·exact(hM.step hl ht).toG (by omega)
 | some g=>
  have h1:=h.b;have h2:=h.d;rw[jc hg]at h1;rw[jd hg]at h2;obtain⟨o1,o2,o3⟩:=h.ok g hg;unfold iD;rw[hg];dsimp only
  by_cases hm:r.mac=[]
  ·rw[PZ hm]
   have e3:lnT (g.2++ [r.text])=lnT g.2+(r.text.length+1):=by rw[EX];simp[lnT]
   unfold jk;refine⟨?_,?_,fun g0 e=>?_⟩
   ·have e1:gpM {s with g:=some (g.1,g.2++ [r.text]) }=21*(g.2++ [r.text]).length+lnT (g.2++ [r.text])+30:=jc (g:=(g.1,g.2++ [r.text])) rfl
    have e2:vlM {s with g:=some (g.1,g.2++ [r.text]) }=vlM s:=rfl;rw[e1,e2,e3,PL,QF];show btl s.b+_+_≤_;omega
   ·have e1:gdM {s with g:=some (g.1,g.2++ [r.text]) }=4*lnT (g.2++ [r.text])+4:=jd (g:=(g.1,g.2++ [r.text])) rfl
    rw[e1,e3];show s.d.length+_≤_;omega
   ·obtain rfl:=PT e
    refine⟨o1,o2,fun x hx=>?_⟩;rcases QR.1 hx with q | q
    ·exact o3 x q
    ·rw[RH.1 q]
     exact hl.text
  ·rw[PO hm]
   split
   ·exact(h.endG hg rfl o2 (Rl _)).toG (by unfold jk;omega)
   ·unfold jk
    refine⟨?_,?_,fun g0 e=>?_⟩
    ·have e1:gpM (aD s 13 r.line)=gpM s:=rfl
     have e2:vlM (aD s 13 r.line)=vlM s:=rfl;have e3:(aD s 13 r.line).b=s.b:=rfl;rw[e1,e2,e3];have:=h.b;omega
    ·have e1:gdM (aD s 13 r.line)=gdM s:=rfl
     rw[e1];simp only[aD,PL,PI,PQ];have:=h.d;omega
    ·exact h.ok g0 e
theorem WtG.rows {okl:Int→Prop}:∀{l:List aI} {s:Md} {W:Nat},WtG okl s W→(∀r∈l,fJ r)→(∀r∈l,r.mac=[84,83]→okl r.line)→WtG okl (l.foldl (iD I9) s) (W+dX l)
 | [],s,W,h,_,_=>by simpa[dX] using h
 | r::l,s,W,h,h1,h2=>by
  have:=WtG.rows (l:=l) (h.step (h1 r QQ) (h2 r QQ)) (fun x hx=>h1 x (QM _ hx)) (fun x hx=>h2 x (QM _ hx));simp only[RF,dX,Qo,Rz]at this⊢;rw[←Nat.add_assoc];exact this
theorem Cz (l:List aI){i:Nat}{r:aI}(h:l[i]? =some r):dX (l.take i)+jk r≤dX l:=by
 have hi:i<l.length:=(Pw.1 h).1;have e:l=l.take i++r::l.drop (i+1):=by
  have h2:l[i]=r:=(Pw.1 h).2;rw[←h2,←Qu hi,QK]
 have:dX l=dX (l.take i)+(jk r+dX (l.drop (i+1))):=by
  conv=>lhs;rw[e]
  simp[dX]
 omega
theorem wQ:∀l:List aI,l.length≤dX l
 | []=>by simp[dX]
 | r::l=>by
  have h1:=wQ l;have h2:dX (r::l)=jk r+dX l:=by simp[dX]
  have h3:40≤jk r:=by unfold jk;omega
  rw[h2,PI];omega
theorem WtG.stepB {okl:Int→Prop}{s:Md}{W:Nat}(h:WtG okl s W){r:aI}(hl:fJ r)(hW:W+jk r≤29500):StepB okl s r:=by
 obtain⟨hb,hd,ho⟩:=h;unfold jk at hW;refine⟨hl,by omega,by omega,?_,?_,fun v0 hv=>?_,fun g0 hg0=>?_⟩
 ·unfold rwM
  unfold vlM at hb
  cases hv:s.v with
  | none=>simp
  | some v=>rw[hv]at hb;dsimp only at hb⊢;omega
 ·unfold txM
  cases hg:s.g with
  | none=>simp
  | some g=>rw[jc hg]at hb;dsimp only;omega
 ·unfold vlM at hb
  rw[hv]at hb;dsimp only at hb;omega
 ·obtain⟨o1,o2,o3⟩:=ho g0 hg0
  obtain⟨h1,h2,h3⟩:=lT g0.1 g0.2;rw[jc hg0]at hb;rw[jd hg0]at hd;exact⟨o1,by omega,o3,by omega,by omega⟩
theorem Kz {okl:Int→Prop}{rs:List aI}(hle:∀r∈rs,fJ r)(hts:∀r∈rs,r.mac=[84,83]→okl r.line):btl (di I9 rs).b≤dX rs+60:=by
 have hW:=WtG.rows (nQ.toG (okl:=okl) (Px _)) hle hts;have hr:gp I9 rs=rs.foldl (iD I9) md0:=rfl;unfold di zh;rw[hr];obtain⟨s,hs⟩:∃s,rs.foldl (iD I9) md0=s:=⟨_,rfl⟩;rw[hs]at hW⊢;obtain⟨u1,u2,u3,u4,u5,u6⟩:=fe s;have ht:∀q:Md,(rO q).b=q.b:=fun q=>by unfold rO;split<;>rfl
 rw[ht]
 cases hg:s.g with
 | none=>
  have hb:=hW.b;have e1:oz I9 (upM s)=upM s:=by unfold oz;rw[u3,hg]
  rw[e1];unfold wh;rw[u2];unfold vlM at hb
  cases hv:s.v with
  | none=>dsimp only;rw[u1];rw[hv]at hb;dsimp only at hb;omega
  | some v=>
   rw[hv]at hb;dsimp only[endV,aD]at hb⊢;have:=pX (upM s).b (.mk ⟨6,v.1,0,[],v.2,bS⟩ []);rw[rV,u1]at this;rw[u1];omega
 | some g=>
  have e1:oz I9 (upM s)=endG I9 (aD (upM s) 7 g.1) g:=by unfold oz;rw[u3,hg]
  rw[e1];obtain⟨o1,o2,o3⟩:=hW.ok g hg;obtain⟨h1,h2,h3⟩:=lT g.1 g.2;have hb:=hW.b;rw[jc hg]at hb;have h4:=pX s.b (.mk ⟨7,g.1,0,[],[],(I9.tab g.1 g.2).1⟩ []);rw[Js]at h4;have e2:(endG I9 (aD (upM s) 7 g.1) g).v=none:=u2.trans o2;unfold wh;rw[e2];show btl (qI (upM s).b _)≤_;rw[u1];omega
theorem Ol {okl:Int→Prop}{rs:List aI}(hle:∀r∈rs,fJ r)(hts:∀r∈rs,r.mac=[84,83]→okl r.line):(di I9 rs).d.length≤dX rs+20:=by
 have hW:=WtG.rows (nQ.toG (okl:=okl) (Px _)) hle hts;have hr:gp I9 rs=rs.foldl (iD I9) md0:=rfl;unfold di zh;rw[hr];obtain⟨s,hs⟩:∃s,rs.foldl (iD I9) md0=s:=⟨_,rfl⟩;rw[hs]at hW⊢;obtain⟨u1,u2,u3,u4,u5,u6⟩:=fe s;have hd:=hW.d;have ht:∀q:Md,(rO q).d.length≤q.d.length+1:=fun q=>by unfold rO;split<;>simp[aD]
 have hv:∀q:Md,(wh q).d.length≤q.d.length+1:=fun q=>by unfold wh;split<;>simp[aD,endV]
 have hg:(oz I9 (upM s)).d.length≤s.d.length+gdM s+2:=by
  unfold oz;rw[u3]
  cases hg:s.g with
  | none=>dsimp only;omega
  | some g=>
   obtain⟨h1,h2,h3⟩:=lT g.1 g.2;rw[jd hg];simp only[endG,aD,PL,PI,PQ];omega
 have h1:=ht (wh (oz I9 (upM s)));have h2:=hv (oz I9 (upM s));omega
theorem LU {okl:Int→Prop}{rs:List aI}(hle:∀r∈rs,fJ r)(hts:∀r∈rs,r.mac=[84,83]→okl r.line)(hml:∀r∈rs,r.mac.length≤100000)(hw:dX rs≤29000):PBo okl rs:=by
 have hW:=WtG.rows (nQ.toG (okl:=okl) (Px _)) hle hts;have hr:gp I9 rs=rs.foldl (iD I9) md0:=rfl;refine⟨fun i r hi=>?_,by have:=wQ rs;omega,fun i r hi=>hml r (Qq hi),?_,fun g0 hg=>?_,?_⟩
 ·have h1:=WtG.rows (l:=rs.take i) (nQ.toG (okl:=okl) (Px _)) (fun x hx=>hle x (Rb hx)) (fun x hx=>hts x (Rb hx))
  have h2:=Cz rs hi;exact h1.stepB (hle r (Qq hi)) (by omega)
 ·rw[hr]
  exact hW.stepB EF (by unfold jk row0;simp[lnT];omega)
 ·rw[hr]at hg⊢
  obtain⟨h1,h2,h3⟩:=lT g0.1 g0.2;have hd:=hW.d;rw[jd hg]at hd;omega
 ·have:=Kz hle hts
  omega
theorem zf {α:Type}{n:Nat}{f:α→List Value}(hf:∀x,(f x).length=n)(W:World)(t:TypeId)(L:List α):FsS (fun k=>k=W.heap.size) n f (W.alloc (.cells (aA f L).toArray t)) (.slice (some ⟨W.heap.size,0,none⟩) L.length L.length) L:=by
 refine⟨dM hf W t L,fun a k c e _=>?_⟩;injection e with e1
 injection e1 with e1
 subst e1;exact⟨rfl,fun _ i _=>by
  have h:=PK W (.cells (aA f L).toArray t);simp only[World.frozen?,h];simp⟩
theorem EO {S:Nat→Prop}{w:World}{x:NV}{y:Nd}(h:qK S w x y)(hS:∀k,S k→k<w.heap.size):NsS (fun k=>S k∨k=w.heap.size) (w.alloc (.cells (af x).toArray 58)) (.slice (some ⟨w.heap.size,0,none⟩) 1 1) [y]:=by
 have hb:Below w.heap.size w (w.alloc (.cells (af x).toArray 58)):=ae w _;have kp:Kp S w (w.alloc (.cells (af x).toArray 58)):=fun k q=>hb.block k (hS k q)
 have hf:=zf ay w 58 [x];rw[dU]at hf;refine .mk _ _ [x] rfl (hf.mono (fun k q=> .inr q)) (fun i a b h1 h2=>?_) (fun i a b h1 h2=>?_)
 all_goals
  have hi:i=0:=by
   have:=(Pw.1 h1).1;simp at this;omega
  subst hi;obtain rfl:x=a:=by simpa using h1
  obtain rfl:y=b:=by simpa using h2
 ·exact(h.1.keep kp).mono (fun k q=> .inl q)
 ·exact(h.2.keep kp).mono (fun k q=> .inl q)
theorem Ms (V0 V1 V2 V3 V4:World)(h1:V0.alloc (.cells #[.int .i32 65,.int .u8 0] 35)=V1)(h2:V1.alloc (.cells #[.int .i32 98,.int .u8 0] 35)=V2)
  (h3:V2.alloc (.cells #[.int .i64 3,.int .i64 2,.int .i64 0,.slice (some ⟨V1.heap.size,0,none⟩) 1 1,.slice none 0 0,.slice none 0 0,.string ⟨#[]⟩,.slice none 0 0,.bool false,.bool false] 58)=V3)
  (h4:V3.alloc (.cells #[.int .i64 1,.int .i64 1,.int .i64 0,.slice (some ⟨V0.heap.size,0,none⟩) 1 1,.slice (some ⟨V2.heap.size,0,none⟩) 1 1,.slice none 0 0,.string ⟨#[]⟩,.slice none 0 0,.bool false,.bool false] 58)=V4):
  NsS (fun k=>k<V4.heap.size) V4 (.slice (some ⟨V3.heap.size,0,none⟩) 1 1) [.mk ⟨1,1,0,[(65,0)],[],bS⟩ [.mk ⟨3,2,0,[(98,0)],[],bS⟩ []]]∧Below V0.heap.size V0 V4:=by
 have z1:V1.heap.size=V0.heap.size+1:=by rw[←h1];exact PS _ _
 have z2:V2.heap.size=V1.heap.size+1:=by rw[←h2];exact PS _ _
 have z3:V3.heap.size=V2.heap.size+1:=by rw[←h3];exact PS _ _
 have z4:V4.heap.size=V3.heap.size+1:=by rw[←h4];exact PS _ _
 have b1:Below V0.heap.size V0 V1:=by rw[←h1];exact ae V0 _
 have b2:Below V1.heap.size V1 V2:=by rw[←h2];exact ae V1 _
 have b3:Below V2.heap.size V2 V3:=by rw[←h3];exact ae V2 _
 have b4:Below V3.heap.size V3 V4:=by rw[←h4];exact ae V3 _
 have g1:FsS (fun k=>k=V0.heap.size) 2 aR V1 (.slice (some ⟨V0.heap.size,0,none⟩) 1 1) [(65,0)]:=by rw[←h1];exact zf ah V0 35 [(65,0)]
 have g2:FsS (fun k=>k=V1.heap.size) 2 aR V2 (.slice (some ⟨V1.heap.size,0,none⟩) 1 1) [(98,0)]:=by rw[←h2];exact zf ah V1 35 [(98,0)]
 have n1:=EO (x:=dW 3 2 0 (some ⟨V1.heap.size,0,none⟩,1,1)) (rX (k:=3) (ln:=2) (n:=0) (p:=(some ⟨V1.heap.size,0,none⟩,1,1)) g2) (fun k q=>by omega);have e3:V2.alloc (.cells (af (dW 3 2 0 (some ⟨V1.heap.size,0,none⟩,1,1))).toArray 58)=V3:=h3;rw[e3]at n1;have n2:=EO (w:=V3) (S:=fun k=>k<V3.heap.size) (x:=⟨1,1,0,(some ⟨V0.heap.size,0,none⟩,1,1),(some ⟨V2.heap.size,0,none⟩,1,1),aj,[],aj,false,false⟩) (y:= .mk ⟨1,1,0,[(65,0)],[],bS⟩ [.mk ⟨3,2,0,[(98,0)],[],bS⟩ []])
  ⟨⟨rfl,rfl,rfl,(g1.keep (fun k q=>((b2.trans (b3.mono (by omega))).block k (by omega)))).mono (fun k q=>by omega),GrS.nil _ _,rfl,TrS.nil _ _,rfl,rfl⟩,n1.mono (fun k q=>by omega)⟩ (fun k q=>q)
 have e4:V3.alloc (.cells (af (⟨1,1,0,(some ⟨V0.heap.size,0,none⟩,1,1),(some ⟨V2.heap.size,0,none⟩,1,1),aj,[],aj,false,false⟩:NV)).toArray 58)=V4:=h4;rw[e4]at n2;exact⟨n2.mono (fun k q=>by omega),((b1.trans (b2.mono (by omega))).trans (b3.mono (by omega))).trans (b4.mono (by omega))⟩
theorem Bg {w:World}(hU:U8 w)(hEr:Er w)(hMx:Mx w):Calls Tryz.prog 8 #[] w fun e w'=>e=.returned (.bool true)∧Below w.heap.size w w':=by
 have hrd:=Gv hU hEr hMx knT (by decide) (by rw[pF.1];exact OT) (by rw[pF.1,pF.2,OU];decide);rw[pF.1,pF.2]at hrd;have hd:=OU;have hk:=NW;obtain⟨s,hs⟩:∃s,di I9 knR=s:=⟨_,rfl⟩;rw[hs]at hrd hd hk;have HRD:Hid (Calls Tryz.prog 17 #[.string ⟨#[46,83,72,32,65,10,98,10]⟩] w fun e w2=> ∃p1 p2 p3 d1 d3,e=.returned (.tuple #[.agg #[.string ⟨s.b.nm.a.toArray⟩,.string ⟨s.b.nm.b.toArray⟩,.string ⟨s.b.nm.c.toArray⟩,.string ⟨s.b.nm.d.toArray⟩,.slice p1 p2 p3],.slice d1 1 d3])∧Hid (Below w.heap.size w w2)∧
   ∃W2,w2.alloc (.cells #[.string ⟨s.b.nm.a.toArray⟩,.string ⟨s.b.nm.b.toArray⟩,.string ⟨s.b.nm.c.toArray⟩,.string ⟨s.b.nm.d.toArray⟩,.slice p1 p2 p3] 38)=W2∧Hid (Below w2.heap.size w2 W2)∧ ∃V1,W2.alloc (.cells #[.int .i32 65,.int .u8 0] 35)=V1∧ ∃V2,V1.alloc (.cells #[.int .i32 98,.int .u8 0] 35)=V2∧
    ∃V3,V2.alloc (.cells #[.int .i64 3,.int .i64 2,.int .i64 0,.slice (some ⟨V1.heap.size,0,none⟩) 1 1,.slice none 0 0,.slice none 0 0,.string ⟨#[]⟩,.slice none 0 0,.bool false,.bool false] 58)=V3∧ ∃V4,V3.alloc (.cells #[.int .i64 1,.int .i64 1,.int .i64 0,.slice (some ⟨W2.heap.size,0,none⟩) 1 1,.slice (some ⟨V2.heap.size,0,none⟩) 1 1,.slice none 0 0,.string ⟨#[]⟩,.slice none 0 0,.bool false,.bool false] 58)=V4∧
    Hid (Below w.heap.size w V4)∧V4.cell? ⟨w2.heap.size,4,none⟩=some (.slice p1 p2 p3)∧Hid (Calls Tryz.prog 21 #[.slice p1 p2 p3,.slice (some ⟨V3.heap.size,0,none⟩) 1 1] V4 fun e w'=>e=.returned (.bool true)∧Hid (Below w.heap.size w w')∧
     Hid (Calls Tryz.prog 20 #[.slice d1 1 d3,.slice (some ⟨w'.heap.size,0,none⟩) 1 1] (w'.alloc (.cells #[.int .i64 12,.int .i64 0,.int .i64 0] 46)) fun e w9=>e=.returned (.bool true)∧Below w.heap.size w w9))):=zH (by
  have hrd':Calls Tryz.prog 17 #[.string ⟨#[46,83,72,32,65,10,98,10]⟩] w (sH w s []):=hrd;refine hrd'.mono ?_;rintro e w2 ⟨⟨p1,p2,p3⟩,d,rfl,q1,q2,q3⟩;rw[hd]at q2;rw[hk]at q1;obtain⟨d1,d3,rfl⟩:=q2.len;obtain⟨W2,hW2⟩:∃W2,w2.alloc (.cells #[.string ⟨s.b.nm.a.toArray⟩,.string ⟨s.b.nm.b.toArray⟩,.string ⟨s.b.nm.c.toArray⟩,.string ⟨s.b.nm.d.toArray⟩,.slice p1 p2 p3] 38)=W2:=⟨_,rfl⟩;have b2:Below w2.heap.size w2 W2:=by rw[←hW2];exact ae w2 _
  have kD:Blk W2 w2.heap.size 38 [.string ⟨s.b.nm.a.toArray⟩,.string ⟨s.b.nm.b.toArray⟩,.string ⟨s.b.nm.c.toArray⟩,.string ⟨s.b.nm.d.toArray⟩,.slice p1 p2 p3]:=by rw[←hW2];exact PK w2 _
  obtain⟨hw,hbv⟩:=Ms W2 _ _ _ _ rfl rfl rfl rfl;refine⟨p1,p2,p3,d1,d3,rfl,zH q3,W2,hW2,zH b2,_,rfl,_,rfl,_,rfl,_,rfl,?_⟩;have hs2:=b2.size;have hq:=q3.size;have b24:=b2.trans (hbv.mono hs2);have bw4:=q3.trans (b24.mono hq);refine⟨zH bw4,(kD.below hbv).cell 4,zH ?_⟩;have hz:=b24.size;have hsm:=F9 (fun k=>w.heap.size≤k∧k<w2.heap.size) _ _ _ _ rfl (by decide+kernel) (by decide+kernel) _ _ _ (q1.keep (fun k q=>b24.block k q.2)) hw (fun k q=>by omega) (fun k q=>q);refine hsm.mono ?_;rintro e w' ⟨rfl,b5⟩;have bw5:=bw4.trans (b5.mono bw4.size);refine⟨by rw[qF rfl],zH bw5,zH ?_⟩;have bl:=ae w' (.cells #[.int .i64 12,.int .i64 0,.int .i64 0] 46);have hl:=dM ax w' 46 [(12,0,0)];have h9:=CB [(12,0,0)] [(12,0,0)] (.slice d1 1 d3) _ _ (((q2.below b24).below b5).below bl) hl (by decide) (by decide);refine h9.mono ?_;rintro e w9 ⟨rfl,b9⟩;exact⟨by rw[Qz rfl],(bw5.trans (bl.mono bw5.size)).trans (b9.mono (by have:=bw5.size;have:=bl.size;omega))⟩)
 clear hU hEr hMx hrd hd hk hs;go_enter Tryz.func8,Tryz.ntmps8
 go_wp2_with fail
 refine HRD.out.mono ?_;rintro e w2 ⟨p1,p2,p3,d1,d3,rfl,B2,W2,hW2,B3,V1,hV1,V2,hV2,V3,hV3,V4,hV4,B4,c4,HS⟩;have HW2:=zH hW2;clear hW2 HRD;go_upto_region 2 with fail
 rw[HW2.out];clear HW2;go_wp2_with fail
 refine HS.out.mono ?_;rintro e w5 ⟨rfl,B5,HS2⟩;clear HS c4 hV1 hV2 hV3 hV4;go_wp2_with fail
 refine HS2.out.mono ?_;rintro e w6 ⟨rfl,b6⟩;have B6:=zH b6;clear b6;go_wp2_with fail
 go_ret;exact⟨rfl,B6.out⟩
end Go.Proofs.YtebabjnngdjceaaGreatDoor
