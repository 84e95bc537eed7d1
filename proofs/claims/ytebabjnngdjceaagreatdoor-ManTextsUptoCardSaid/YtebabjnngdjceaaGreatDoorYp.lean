/- Rows are read as a document: Parse. -/
import Derived.Test.YtebabjnngdjceaaGreatDoorYo
import Derived.Test.YtebabjnngdjceaaGreatDoorZ0
set_option linter.unusedVariables false
set_option linter.unusedSimpArgs false
set_option maxRecDepth 100000
set_option maxHeartbeats 16000000
namespace Go.Proofs.YtebabjnngdjceaaGreatDoor
open Go.RowKit
section
variable {BI:BIT} {TB:World→Prop} {w W0 W:World} {lo B P:Nat} {s:Md} {Y:Nat→Prop}
def uS (w:World) (s:Md) (e:Ending) (w':World):Prop:= ∃(p:PV) (d:Value),e= .returned (.tuple #[uC s.b.nm (pv p),d])∧NsS (fun k=>w.heap.size≤k∧k<w'.heap.size) w' (pv p) (nu s.b)∧Ds w' d s.d∧Below w.heap.size w w'
def row0:bu:=⟨0,[],[],[]⟩
theorem QT5 {P:Prop}(h:P:=by
 obtain⟨F1,F2,rfl,-⟩:=hmk;have HDc:=HDc0 _ _ _ rfl;clear HDc0;go_wp2_with fail
 refine HDc.out.mono ?_;rintro e w8 ⟨rfl,HQ8⟩;clear HDc z0 z1 z2 z3 hrun;go_wp2_with fail
 go_roundw
 case rel=>exact⟨j+1,by omega,by go_num,zH (by rw[HNX.out];exact HQ8.out)⟩
 case measure=>(simp[intOf];try omega)):P:=h
theorem QT6 {P:Prop}(h:P:=by
 obtain rfl:=hmk;have HDc:=HDc0 _ _ _ rfl;clear HDc0;go_wp2_with fail
 refine HDc.out.mono ?_;rintro e w8 ⟨rfl,HQ8⟩;clear HDc z0 z1 z2 z3 hrun;go_wp2_with fail
 go_roundw
 case rel=>exact⟨j+1,by omega,by go_num,zH (by rw[HNX.out];exact HQ8.out)⟩
 case measure=>(simp[intOf];try omega)):P:=h
theorem Fb (I:bI BI TB) (hT:TB w) (hEr:Er w) {okl:Int→Prop} (hTab:Dp TB I9.tab okl) {xs:List RV} {rs:List bu} {va:Option Addr} {vc:Nat} (hv:Fs 4 ak w (.slice va xs.length vc) xs) (hlen:xs.length=rs.length) (hx: ∀(i:Nat) (x:RV) (r:bu),xs[i]? =some x→rs[i]? =some r→iB w x r)
  (hS: ∀(i:Nat) (r:bu),rs[i]? =some r→StepB okl (fP I9 (rs.take i)) r) (hn:rs.length≤100000) (hml: ∀(i:Nat) (r:bu),rs[i]? =some r→r.mac.length≤100000) (hE:StepB okl (fP I9 rs) row0) (hE2: ∀g0,(fP I9 rs).g=some g0→(fP I9 rs).d.length+(I9.tab g0.1 g0.2).2.length≤400000) (hEb:btl (dE I9 rs).b≤30000):
  Calls Tryz.prog 10 #[.slice va xs.length vc] w (uS w (dE I9 rs)):=by
 obtain⟨W1,hW1⟩: ∃W,w.alloc (.cells kU.toArray 38)=W:=⟨_,rfl⟩;have b1:Below w.heap.size w W1:=by rw[←hW1];exact af w _
 have kd:Blk W1 w.heap.size 38 kU:=by rw[←hW1];exact O9 w _
 have HN:=zH (I.new W1);have HK:=zH (show Below w.heap.size w W1∧Blk W1 w.heap.size 38 kU from⟨b1,kd⟩);have HS:=zH hS;have HX:=zH hx;have HV:=zH hv;have HML:=zH hml;obtain⟨n,hnl⟩: ∃n,xs.length=n:=⟨_,rfl⟩;rw[hnl]at HV ⊢;simp only[kU]at hW1;clear hv hx hS b1 kd hml;go_enter Tryz.func10,Tryz.ntmps10
 go_wp2_with fail
 go_step3
 go_wp2_with fail
 clear hW1;refine HN.out.mono ?_;rintro e w2 ⟨b,X,rfl,hBI,b2,hX⟩;have H2:=zH (show BI X (fun _=>False) w2 b bt0∧Below W1.heap.size W1 w2∧ ∀k,X k→W1.heap.size≤k from⟨hBI,b2,hX⟩);obtain⟨W3,hW3⟩: ∃W,w2.alloc (.cells #[ax b,.bool false,.pointer none,.int .i64 0,.int .i64 0,.int .i64 0,.slice none 0 0,.slice none 0 0,.slice none 0 0,.string ⟨#[]⟩,.slice none 0 0,.bool false,.bool false,.slice none 0 0,.slice none 0 0] 79)=W:=⟨_,rfl⟩;obtain⟨B,hB⟩: ∃B,w2.heap.size=B:=⟨_,rfl⟩;have HL0:Hid (∃Y,LpI BI w W3 W3.heap.size B w.heap.size Y W3 md0):=zH (by
  obtain⟨bW,kd⟩:=HK.out;have b3:Below w2.heap.size w2 W3:=by rw[←hW3];exact af w2 _
  have hz3:W3.heap.size=w2.heap.size+1:=by rw[←hW3];exact Pf _ _
  have kB:Blk W3 B 79 (mnC b false (.pointer none) 0 0 eY eY eY):=by rw[←hW3,←hB];exact O9 w2 _
  have s1:=bW.size;have s2:=b2.size;have hXl: ∀k,X k→k<w2.heap.size:=fun k q=>I.lt hBI k (.inl q)
  have b23:=b2.trans (b3.mono s2);have hP:w.heap.size<W1.heap.size:=kd.lt;refine⟨fun k=>X k∨(if k=B then 2 else 0)≠0,⟨⟨bW.trans (b23.mono s1),fun k q=>?_,X,fun _=>False,fun k=>if k=B then 2 else 0,b,.pointer none,eY,eY,eY,?_,fun k=>Ri⟩,fun k q1 q2=>by omega,OW _,kd.below b23,?_⟩⟩
  ·rcases q with q | q
   ·have:=hX k q;omega
   ·have:k=B:=Qj (fun e=>q (Pd e))
    omega
  ·refine⟨⟨.inl rfl,fun q=>absurd rfl q,fun q=>absurd rfl q⟩,fun k q=>?_,fun k q=>Pd (fun e=>(by have:=hXl k q;omega)),fun k q=>q.elim,I.keep hBI (Kp.below b3 hXl) (fun k q=>q.elim) b3.size,Pk rfl,kB,ag.nil _ _,fun k e=>(by cases e),ag.nil _ _,fun k e=>(by cases e),⟨[],rfl,ag.nil _ _,fun i p r q=>(by simp at q)⟩,fun k e=>(by cases e),fun _=>rfl,fun _=>rfl,rfl⟩
   have:k=B:=Qj (fun e=>q (Pd e));omega
  ·rintro(q | q)
   ·have:=hX _ q;omega
   ·have:w.heap.size=B:=Qj (fun e=>q (Pd e))
    omega)
 have HMC:=zH (Cq B W3);have HB:=zH hB;have HW3:=zH hW3;clear hBI b2 hX HN hB HK hW3;go_upto_region 2 with fail
 rw[HW3.out,HB.out];clear HW3;go_wp2_with fail
 refine HMC.out.mono ?_;rintro e w4 ⟨rfl,hMk,b4⟩;have HMk:Hid (Mks W3.heap.size w4 B W3.heap.size):=zH hMk;have HLP:Hid (∃Y,LpI BI w w4 W3.heap.size B w.heap.size Y w4 (fP I9 (rs.take 0))):=zH (by
  obtain⟨Y,h⟩:=HL0.out;have hYl:=h.mm.lt I.k;exact⟨Y,h.mm.keep I.k b4,fun k q1 q2=>⟨rfl,fun e=>by have:=hYl k e;omega⟩,OW _,h.doc.below b4,h.ny⟩)
 obtain⟨M,hM⟩: ∃M,W3.heap.size=M:=⟨_,rfl⟩;rw[hM]at HMk HLP;rw[hM];have hMlt:Hid (M<w4.heap.size):=zH (by
  obtain⟨L,hL,-⟩:=HMk.out;exact hL.lt)
 clear hMk b4 HL0 HMC hM;go_wp2_with fail
 go_step3
 go_wp2_with fail
 go_loopw [17] (fun i wr=> ∃j:Nat,j≤n∧i= .int .i64 (j:Int)∧Hid (∃Y,LpI BI w w4 M B w.heap.size Y wr (fP I9 (rs.take j)))) (fun i _=>n-(intOf i).toNat)
 case atStart=>exact⟨0,Qr _,rfl,HLP⟩
 case round=>
  obtain⟨j,hj,rfl,HL⟩:=hrel
  by_cases hlt:j<n
  ·have hjr:j<rs.length:=by omega
   obtain⟨r,hr⟩: ∃r,rs[j]? =some r:=⟨rs[j],OU hjr⟩;obtain⟨x,hxx⟩: ∃x,xs[j]? =some x:=⟨xs[j],OU (by omega)⟩;have hxr:=HX.out j x r hxx hr;have hsb:=HS.out j r hr;obtain⟨s,hs⟩: ∃s,fP I9 (rs.take j)=s:=⟨_,rfl⟩;have hnx:fP I9 (rs.take (j+1))=lM I9 s r:=by
    rw[←hs,PD,hr];unfold fP;rw[Q6];rfl
   rw[hs]at hsb;obtain⟨Y,hL⟩:=HL.out;rw[hs]at hL;have hok:=hL.mm.ok;rw[Kw s r hok]at hnx;have HNX:=zH hnx;obtain⟨a',c',e9,hc9,hr9⟩:=Fs.below HV.out hL.mm.1;injection e9 with e1 e2 e3
   subst e1 e3;obtain⟨b0,o0,rfl,hcc⟩:=hr9 j x hxx;obtain⟨rl,rm,ra,rt⟩:=r;obtain⟨xl,xm,⟨aa,an,ac⟩,xt⟩:=x;have q1:xl=rl:=hxr.line;have q2:xm=rm:=hxr.mac;have q3:xt=rt:=hxr.text;subst q1 q2 q3;obtain⟨Wb,hWb⟩: ∃W,wr.alloc (.cells (ak (xl,xm,(aa,an,ac),xt)).toArray 33)=W:=⟨_,rfl⟩;have bb:Below wr.heap.size wr Wb:=by rw[←hWb];exact af wr _
   have kx:Blk Wb wr.heap.size 33 (ak (xl,xm,(aa,an,ac),xt)):=by rw[←hWb];exact O9 wr _
   have hLb:=hL.below I.k bb;have hyb: ¬Y wr.heap.size:=fun e=>by have:=hL.mm.lt I.k _ e;omega
   have x0:=hcc 0 _ rfl;have x1:=hcc 1 _ rfl;have x2:=hcc 2 _ rfl;have x3:=hcc 3 _ rfl;have w0:=kx.cell 0;have w1:=kx.cell 1;have w2:=kx.cell 2;have w3:=kx.cell 3;have hML:=HML.out j _ hr;have hsbd:=hsb.d;have HSB:=zH hsb;have HXR:=zH hxr;have HLn:Hid (Calls Tryz.prog 26 #[ax B,.agg (ak (xl,xm,(aa,an,ac),xt)).toArray] Wb fun e w5=>e= .returned (.bool (lw s ⟨xl,xm,ra,xt⟩).2)∧Hid (∃Y',LpI BI w w4 M B w.heap.size Y' w5 (lw s ⟨xl,xm,ra,xt⟩).1∧Blk w5 wr.heap.size 33 (ak (xl,xm,(aa,an,ac),xt))∧ ¬Y' wr.heap.size)):=zH (by
    refine(Fx I hLb.mm hT hxr hsb.le (by have:=hsb.b;simp only at this ⊢;omega) (by omega) hsb.rw hsb.tx).mono ?_;rintro e w5 ⟨rfl,m⟩;obtain⟨Y',hL5,hk5⟩:=hLb.aft I.k m;obtain⟨k5,n5⟩:=hk5 _ _ _ kx hyb;exact⟨rfl,zH ⟨Y',hL5,k5,n5⟩⟩)
   have hlt':(j:Int)<(n:Int):=by omega
   have hj0:(0:Int)≤(j:Int):=by omega
   simp only[ak,bG,OY,OZ,PW,←Nat.add_assoc]at x0 x1 x2 x3 w0 w1 w2 w3 hWb;clear hr9 hcc hc9 e2 hxx hr hnx hs hok bb kx hLb hyb hL HL hxr hsb
   cases hl2:(lw s ⟨xl,xm,ra,xt⟩).2 with
   | true=>
    rw[hl2,Pk rfl]at HNX;rw[hl2]at HLn;simp only[ak,bG]at HLn;clear hl2 HSB HXR;go_wp2_with fail
    refine HLn.out.mono ?_;rintro e w5 ⟨rfl,HQ⟩;clear HLn x0 x1 x2 x3 w0 w1 w2 w3 hWb;go_wp2_with fail
    go_roundw
    case rel=>exact⟨j+1,by omega,by go_num,zH (by rw[HNX.out];obtain⟨Y',h,-⟩:=HQ.out;exact⟨Y',h⟩)⟩
    case measure=>(simp[intOf];try omega)
   | false=>
    rw[hl2,Pd (by simp)]at HNX;rw[hl2,IP hl2]at HLn;clear hl2;have HH:Hid (∀w5 Y',LpI BI w w4 M B w.heap.size Y' w5 s→Calls Tryz.prog 27 #[ax B,.string ⟨xm.toArray⟩] w5 fun e w'=>e= .returned (.bool (qM s xm))∧w5=w'):=zH (fun w5 Y' h=>FE I h.mm xm)
    cases hh:qM s xm with
    | false=>
     have HT13:Hid (∀w5 Y',LpI BI w w4 M B w.heap.size Y' w5 s→Calls Tryz.prog 28 #[ax B,.int .i64 13,.int .i64 xl] w5 fun e w6=>e= .returned (.tuple #[])∧Hid (∃Y'',LpI BI w w4 M B w.heap.size Y'' w6 (aK s 13 xl))):=zH (fun w5 Y' h=>by
      refine(dG I.k h.mm 13 xl (by omega)).mono ?_;rintro e w6 ⟨rfl,m⟩;obtain⟨Y2,h2,-⟩:=h.aft I.k m;exact⟨rfl,zH ⟨Y2,h2⟩⟩)
     rw[Pk hh]at HNX;rw[hh]at HH;simp only[ak,bG]at HLn;clear hh HSB HXR;go_wp2_with fail
     refine HLn.out.mono ?_;rintro e w5 ⟨rfl,HQ⟩;obtain⟨Y',hL5,k5,n5⟩:=HQ.out;have y0:=k5.cell 0;have y1:=k5.cell 1;have HHc:=zH (HH.out w5 Y' hL5);have HTc:=zH (HT13.out w5 Y' hL5);simp only[OY,OZ]at y0 y1;clear HLn x0 x1 x2 x3 w0 w1 w2 w3 hWb HH HT13 HQ hL5 k5 n5;go_wp2_with fail
     refine HHc.out.mono ?_;rintro e w6 ⟨rfl,rfl⟩;clear HHc;go_wp2_with fail
     refine HTc.out.mono ?_;rintro e w7 ⟨rfl,HQ7⟩;clear HTc y0 y1;go_wp2_with fail
     go_roundw
     case rel=>exact⟨j+1,by omega,by go_num,zH (by rw[HNX.out];exact HQ7.out)⟩
     case measure=>(simp[intOf];try omega)
    | true=>
     rw[Pd (by simp[hh])]at HNX;rw[hh]at HH;obtain⟨u1,u2,u3,u4,u5,u6⟩:=iC s;have HU:Hid (∀w5 Y',LpI BI w w4 M B w.heap.size Y' w5 s→Blk w5 wr.heap.size 33 (ak (xl,xm,(aa,an,ac),xt))→ ¬Y' wr.heap.size→Calls Tryz.prog 29 #[ax B] w5 fun e w6=>e= .returned (.tuple #[])∧Hid (∃Y'',LpI BI w w4 M B w.heap.size Y'' w6 (upM s)∧Blk w6 wr.heap.size 33 (ak (xl,xm,(aa,an,ac),xt))∧ ¬Y'' wr.heap.size)):=zH (fun w5 Y' h hk hny=>by
      refine(lV I.k h.mm (by omega)).mono ?_;rintro e w6 ⟨rfl,m⟩;obtain⟨Y2,h2,hk2⟩:=h.aft I.k m;obtain⟨k6,n6⟩:=hk2 _ _ _ hk hny;exact⟨rfl,zH ⟨Y2,h2,k6,n6⟩⟩)
     have HLK:Hid (∀w6 Y',LpI BI w w4 M B w.heap.size Y' w6 (upM s)→(∃m v,jo xm=some m∧lH M w4 B m v∧(Instr.lookup 80 (.map (some M)) (.string ⟨xm.toArray⟩) true).run Tryz.prog w6= .ok (.tuple #[v,.bool true]) w6)∨
  (jo xm=none∧ ∃v,(Instr.lookup 80 (.map (some M)) (.string ⟨xm.toArray⟩) true).run Tryz.prog w6= .ok (.tuple #[v,.bool false]) w6)):=zH (fun w6 Y' h=>Lb HMk.out (h.apt M (OW _) hMlt.out).1 xm (by unfold maxLen;simp only at hML;omega))
     have HHX:=zH hh;clear hh
     cases hk:jo xm with
     | none=>
      have HT4:Hid (∀w5 Y',LpI BI w w4 M B w.heap.size Y' w5 (upM s)→Calls Tryz.prog 28 #[ax B,.int .i64 4,.int .i64 xl] w5 fun e w6=>e= .returned (.tuple #[])∧Hid (∃Y'',LpI BI w w4 M B w.heap.size Y'' w6 (aK (upM s) 4 xl))):=zH (fun w5 Y' h=>by
       refine(dG I.k h.mm 4 xl (by omega)).mono ?_;rintro e w6 ⟨rfl,m⟩;obtain⟨Y2,h2,-⟩:=h.aft I.k m;exact⟨rfl,zH ⟨Y2,h2⟩⟩)
      rw[hk]at HNX HLK;simp only at HNX;simp only[ak,bG]at HLn;clear hk HSB HXR HHX u1 u2 u3 u4 u5 u6;go_wp2_with fail
      refine HLn.out.mono ?_;rintro e w5 ⟨rfl,HQ⟩;obtain⟨Y',hL5,k5,n5⟩:=HQ.out;have y1:=k5.cell 1;have HHc:=zH (HH.out w5 Y' hL5);have HUc:=zH (HU.out w5 Y' hL5 k5 n5);simp only[OY,OZ]at y1;clear HLn x0 x1 x2 x3 w0 w1 w2 w3 hWb HH HQ hL5 k5 n5 HU;go_wp2_with fail
      refine HHc.out.mono ?_;rintro e w6 ⟨rfl,rfl⟩;clear HHc;go_wp2_with fail
      refine HUc.out.mono ?_;rintro e w7 ⟨rfl,HQ7⟩;obtain⟨Y7,hL7,k7,n7⟩:=HQ7.out;have z0:=k7.cell 0;have z1:=k7.cell 1;simp only[ak,OY,OZ]at z0 z1;have HTc:=zH (HT4.out w7 Y7 hL7);rcases HLK.out w7 Y7 hL7 with⟨m,v,hm,-⟩| ⟨-,v,hrun⟩
      ·cases hm
      clear HUc y1 HT4 HLK HQ7 hL7 k7 n7;go_wp2_with fail
      refine HTc.out.mono ?_;rintro e w8 ⟨rfl,HQ8⟩;clear HTc z0 z1 hrun;go_wp2_with fail
      go_roundw
      case rel=>exact⟨j+1,by omega,by go_num,zH (by rw[HNX.out];exact HQ8.out)⟩
      case measure=>(simp[intOf];try omega)
     | some m=>
      have HDO:Hid (∀w6 Y' v,LpI BI w w4 M B w.heap.size Y' w6 (upM s)→lH M w4 B m v→ ∀n first caps,v= .func (.func n) first caps→Hid (Calls Tryz.prog n (first++ #[.agg (ak (xl,xm,(aa,an,ac),xt)).toArray]++caps) w6 fun e w8=>e= .returned (.tuple #[])∧Hid (∃Y'',LpI BI w w4 M B w.heap.size Y'' w8 (doS I9 (upM s) ⟨xl,xm,ra,xt⟩ m)))):=zH (fun w6 Y' v h hm n9 first9 caps9 e9=>by
       obtain⟨p1,p2⟩:=HSB.out.up;have kk:kdM (upM s)=kdM s:=by unfold kdM;rw[u2,u3]
       obtain⟨m1,m2,m3⟩:=uh hk;obtain⟨n',first,caps,e,hd⟩:=KY I h.mm hT hEr hTab HXR.out u4 HSB.out.le p1 p2 (fun v0 hv=>by rw[u1];exact HSB.out.v v0 (u2▸hv)) (fun g0 hg=>by
        obtain⟨a1,a2,a3,a4,a5⟩:=HSB.out.g g0 (u3▸hg);exact⟨a1,a2,a3,by rw[u1];exact a4,by omega⟩) h.apt hm (fun q=>by rw[kk]at q ⊢;exact Lm HHX.out hk q) m1 h.mm.ok m2 m3
       rw[e]at e9;injection e9 with e9 e10 e11
       injection e9 with e9
       subst e9 e10 e11;refine zH (hd.mono ?_);rintro e w8 ⟨rfl,m⟩;obtain⟨Y2,h2,-⟩:=h.aft I.k m;exact⟨rfl,zH ⟨Y2,h2⟩⟩)
      rw[hk]at HNX HLK;simp only at HNX;simp only[ak,bG]at HLn HDO;clear hk HSB HXR HHX u1 u2 u3 u4 u5 u6;go_wp2_with fail
      refine HLn.out.mono ?_;rintro e w5 ⟨rfl,HQ⟩;obtain⟨Y',hL5,k5,n5⟩:=HQ.out;have y1:=k5.cell 1;have HHc:=zH (HH.out w5 Y' hL5);have HUc:=zH (HU.out w5 Y' hL5 k5 n5);simp only[OY,OZ]at y1;clear HLn x0 x1 x2 x3 w0 w1 w2 w3 hWb HH HQ hL5 k5 n5 HU;go_wp2_with fail
      refine HHc.out.mono ?_;rintro e w6 ⟨rfl,rfl⟩;clear HHc;go_wp2_with fail
      refine HUc.out.mono ?_;rintro e w7 ⟨rfl,HQ7⟩;obtain⟨Y7,hL7,k7,n7⟩:=HQ7.out;have z0:=k7.cell 0;have z1:=k7.cell 1;have z2:=k7.cell 2;have z3:=k7.cell 3;simp only[ak,bG,OY,OZ]at z0 z1 z2 z3;rcases HLK.out w7 Y7 hL7 with⟨m9,v,hm,hmk,hrun⟩| ⟨hm,-⟩
      ·obtain rfl:=Ph hm
       have HDc0:=HDO.out w7 Y7 v hL7 hmk;clear HUc y1 HDO HLK HQ7 hL7 k7 n7 hm
       cases m with
       | ti=>
        exact QT6
       | he kk K=>
        obtain⟨F1,F2,F3,F4,rfl,-⟩:=hmk;have HDc:=HDc0 _ _ _ rfl;clear HDc0;go_wp2_with fail
        refine HDc.out.mono ?_;rintro e w8 ⟨rfl,HQ8⟩;clear HDc z0 z1 z2 z3 hrun;go_wp2_with fail
        go_roundw
        case rel=>exact⟨j+1,by omega,by go_num,zH (by rw[HNX.out];exact HQ8.out)⟩
        case measure=>(simp[intOf];try omega)
       | pa=>
        exact QT6
       | tg=>
        exact QT6
       | it=>
        exact QT6
       | nd=>
        exact QT6
       | ou=>
        exact QT6
       | be kk=>
        exact QT5
       | en kk=>
        exact QT5
      ·cases hm
  ·have hjn:j=n:=by omega
   subst hjn;have HEN:=zH hE;have htk:rs.take j=rs:=Pz (by omega);rw[htk]at HL;obtain⟨Y,hL⟩:=HL.out;obtain⟨s,hs⟩: ∃s,fP I9 rs=s:=⟨_,rfl⟩;obtain⟨sf,hsf⟩: ∃s,dE I9 rs=s:=⟨_,rfl⟩;have hfin:CP I9 s=sf:=by rw[←hs];exact hsf
   rw[hs]at hL hE hE2;rw[hsf]at hEb ⊢;have HME:Hid (Calls Tryz.prog 30 #[ax B] wr fun e w7=>e= .returned (.tuple #[])∧Hid (∃b da dc tq,(∀V:World,(∀k,k≠w.heap.size→k<w7.heap.size→V.heap[k]? =w7.heap[k]?)→V.cell? ⟨B,0,none⟩=some (ax b)∧V.cell? ⟨B,14,none⟩=some (.slice da sf.d.length dc))∧(∀V:World,(∀k,k≠w.heap.size→k<w7.heap.size→V.heap[k]? =w7.heap[k]?)→Ds V (.slice da sf.d.length dc) sf.d)∧Blk w7 w.heap.size 38 kU∧Below w.heap.size w w7∧tq=b∧ ∀V,Below w7.heap.size w7 V→Calls Tryz.prog 31 #[ax b] V fun e w8=> ∃p:PV,e= .returned (uC sf.b.nm (pv p))∧NsS (fun k=>V.heap.size≤k∧k<w8.heap.size) w8 (pv p) (nu sf.b)∧Below V.heap.size V w8)):=zH (by
    refine(IC I hL.mm hT hTab hE.d hE.v (fun g0 hg=>by
     obtain⟨a1,a2,a3,a4,a5⟩:=hE.g g0 hg;exact⟨a1,a2,a3,a4,hE2 g0 hg⟩)).mono ?_
    rintro e w7 ⟨rfl,m⟩;rw[hfin]at m;obtain⟨Y2,h2,-⟩:=hL.aft I.k m;obtain⟨g1,g2,X,R,lo,b,wv,rv,tv,dv,g3,g4⟩:=h2.mm;obtain⟨da,dc,rfl⟩:=g3.d_at;refine⟨rfl,zH ⟨b,da,dc,b,fun V hV=>by
     have hBP:B≠w.heap.size:=fun e=>h2.ny ((g4 _).2 (.inr (by rw[←e,g3.lb];decide)))
     have kB:Blk V B 79 _:=(hV B hBP g3.box.lt).trans g3.box;exact⟨kB.cell 0,kB.cell 14⟩,fun V hV=>ag.sl ai (g3.dg.kp (fun k e=>hV k (fun e2=>h2.ny ((g4 _).2 (.inr (by rw[←e2,g3.dgb k e];decide)))) (g3.dg.ltb e))),h2.doc,g1,rfl,fun V hV=>?_⟩⟩
    exact I.doc (I.keep g3.bi (Kp.below hV (fun k q=>I.lt g3.bi k (.inl q))) (Kp.below hV (fun k q=>I.lt g3.bi k (.inr q))) hV.size) (I.tb hT (g1.trans (hV.mono g1.size))) hEb)
   have hnlt: ¬(j:Int)<(j:Int):=by omega
   have HSF:=zH hsf;clear hL HL hE hE2 hEb hs hsf hfin htk HS HX HV HEN hT hEr hTab hn HML hj hlt;go_wp2_with fail
   refine HME.out.mono ?_;rintro e w7 ⟨rfl,HQ⟩;obtain⟨b9,da,dc,-,hcell,hds,hdoc,hbw,-,hcall⟩:=HQ.out;obtain⟨W8,hW8⟩: ∃W,w7.drew=W:=⟨_,rfl⟩;have hb8:Below w7.heap.size w7 W8:=by rw[←hW8];exact(OX _ w7).drew
   have HCe:=zH hcell;have HB8:=zH hb8;have HW8:=zH hW8;obtain⟨mm,hmm⟩: ∃m,sf.d.length=m:=⟨_,rfl⟩;have HDC:Hid (Calls Tryz.prog 31 #[ax b9] W8 fun e w8=> ∃p1 p2 p3,e= .returned (.agg #[.string ⟨sf.b.nm.a.toArray⟩,.string ⟨sf.b.nm.b.toArray⟩,.string ⟨sf.b.nm.c.toArray⟩,.string ⟨sf.b.nm.d.toArray⟩,.slice p1 p2 p3])∧Hid (∀k,k≠w.heap.size→k<w7.heap.size→w8.heap[k]? =w7.heap[k]?)∧
     (∃q,w8.cell? ⟨w.heap.size,0,none⟩=some q)∧(∃q,w8.cell? ⟨w.heap.size,1,none⟩=some q)∧(∃q,w8.cell? ⟨w.heap.size,2,none⟩=some q)∧(∃q,w8.cell? ⟨w.heap.size,3,none⟩=some q)∧(∃q,w8.cell? ⟨w.heap.size,4,none⟩=some q)∧(w8.frozen? ⟨w.heap.size,0,none⟩=false∧w8.frozen? ⟨w.heap.size,1,none⟩=false∧w8.frozen? ⟨w.heap.size,2,none⟩=false∧w8.frozen? ⟨w.heap.size,3,none⟩=false∧w8.frozen? ⟨w.heap.size,4,none⟩=false)∧
     ∃W9,((((w8.setCell ⟨w.heap.size,0,none⟩ (.string ⟨sf.b.nm.a.toArray⟩)).setCell ⟨w.heap.size,1,none⟩ (.string ⟨sf.b.nm.b.toArray⟩)).setCell ⟨w.heap.size,2,none⟩ (.string ⟨sf.b.nm.c.toArray⟩)).setCell ⟨w.heap.size,3,none⟩ (.string ⟨sf.b.nm.d.toArray⟩)).setCell ⟨w.heap.size,4,none⟩ (.slice p1 p2 p3)=W9∧(∀(i:Nat) u,(qX sf.b.nm (.slice p1 p2 p3))[i]? =some u→W9.cell? ⟨w.heap.size,i,none⟩=some u)∧Hid (uS w sf (.returned (.tuple #[uC sf.b.nm (.slice p1 p2 p3),.slice da mm dc])) W9)∧Hid (∀k,k≠w.heap.size→k<w7.heap.size→W9.heap[k]? =w7.heap[k]?)):=zH (by
    refine(hcall W8 hb8).mono ?_;rintro e w8 ⟨p,rfl,q1,q2⟩;have s7:=hb8.size;have hb78:=hb8.trans (q2.mono s7);have k8:=hdoc.below hb78;obtain⟨W9,hW9⟩: ∃W9,((((w8.setCell ⟨w.heap.size,0,none⟩ (.string ⟨sf.b.nm.a.toArray⟩)).setCell ⟨w.heap.size,1,none⟩ (.string ⟨sf.b.nm.b.toArray⟩)).setCell ⟨w.heap.size,2,none⟩ (.string ⟨sf.b.nm.c.toArray⟩)).setCell ⟨w.heap.size,3,none⟩ (.string ⟨sf.b.nm.d.toArray⟩)).setCell ⟨w.heap.size,4,none⟩ (.slice p.1 p.2.1 p.2.2)=W9:=⟨_,rfl⟩;have hE9:Exc (fun k=>k=w.heap.size) w8 W9:=by rw[←hW9];exact((((((Exc.refl (fun k=>k=w.heap.size) w8).set 0 _ (fun _=>rfl)).set 1 _ (fun _=>rfl)).set 2 _ (fun _=>rfl)).set 3 _ (fun _=>rfl)).set 4 _ (fun _=>rfl))
    have k9:Blk W9 w.heap.size 38 (qX sf.b.nm (pv p)):=by rw[←hW9];exact(((((k8.set 0 (.string ⟨sf.b.nm.a.toArray⟩)).set 1 (.string ⟨sf.b.nm.b.toArray⟩)).set 2 (.string ⟨sf.b.nm.c.toArray⟩)).set 3 (.string ⟨sf.b.nm.d.toArray⟩)).set 4 (.slice p.1 p.2.1 p.2.2))
    have hpl:w.heap.size<w7.heap.size:=hdoc.lt;refine⟨p.1,p.2.1,p.2.2,rfl,zH (fun k _ z=>hb78.block k z),⟨_,k8.cell 0⟩,⟨_,k8.cell 1⟩,⟨_,k8.cell 2⟩,⟨_,k8.cell 3⟩,⟨_,k8.cell 4⟩,⟨k8.frozen (by simp[kU]),k8.frozen (by simp[kU]),k8.frozen (by simp[kU]),k8.frozen (by simp[kU]),k8.frozen (by simp[kU])⟩,W9,hW9,fun i u hu=>by rw[k9.cell i];exact hu,zH ?_,zH (fun k z1 z2=>(hE9.block k (by have:=hb78.size;omega) z1).trans (hb78.block k z2))⟩;have s8:=hbw.size;have s9:=hE9.size;have s10:=q2.size;refine⟨p,.slice da mm dc,rfl,?_,?_,?_⟩
    ·exact(q1.keep (fun k z=>hE9.block k z.2 (fun e=>by omega))).mono (fun k z=>⟨by omega,by omega⟩)
    ·have:=hds W9 (fun k z1 z2=>(hE9.block k (by have:=hb78.size;omega) z1).trans (hb78.block k z2))
     rw[hmm]at this;exact this
    ·exact(hbw.trans (hb78.mono s8)).trans (hE9.below (by omega) (fun k hk e=>by omega)))
   rw[hmm]at HCe;clear hcell hds hdoc hbw hcall hW8 hb8 HME HQ hmm;go_wp2_with fail
   refine wp_region_held_drew (S:=(fun V=>V.cell? ⟨B,0,none⟩=some (ax b9)∧V.cell? ⟨B,14,none⟩=some (.slice da mm dc))) (by kernel_rfl) ?_ (fun hHeld=>?_)
   ·exact(HCe.out _ (fun k _ z=>(OX _ w7).drew.block k z))
   rw[HW8.out]at hHeld ⊢;refine zK (i:=0) (v:= .pointer (some ⟨B,0,none⟩)) rfl ?_;simp only[zT,zS,zZ,Act.put,yT,yZ,yS];refine zK (i:=1) (v:= .pointer (some ⟨B,0,none⟩)) rfl ?_;simp only[zT,zS,zZ,Act.put,yT,yZ,yS];refine zK (i:=2) (v:= .pointer (some ⟨B,0,none⟩)) rfl ?_;simp only[zT,zS,zZ,Act.put,yT,yZ,yS];refine P9 (i:=3) (v:=ax b9) rfl (by kernel_rfl) (by kernel_rfl) (by kernel_rfl) (fun _ _ _ h=>h) (Or.inl ⟨by rfl,fun w' hSw=>by(try dsimp only at hSw);obtain⟨q1,q2⟩:=hSw;go_simp⟩) (by assumption) ?_;simp only[zT,zS,zZ,Act.put,yT,yZ,yS];refine zK (i:=5) (v:= .pointer (some ⟨B,0,none⟩)) rfl ?_;simp only[zT,zS,zZ,Act.put,yT,yZ,yS];refine zK (i:=6) (v:= .pointer (some ⟨B,0,none⟩)) rfl ?_;simp only[zT,zS,zZ,Act.put,yT,yZ,yS];refine zK (i:=7) (v:= .pointer (some ⟨B,14,none⟩)) rfl ?_;simp only[zT,zS,zZ,Act.put,yT,yZ,yS];refine P9 (i:=8) (v:= .slice da mm dc) rfl (by kernel_rfl) (by kernel_rfl) (by kernel_rfl) (fun _ _ _ h=>h) (Or.inl ⟨by rfl,fun w' hSw=>by(try dsimp only at hSw);obtain⟨q1,q2⟩:=hSw;go_simp⟩) (by assumption) ?_;simp only[zT,zS,zZ,Act.put,yT,yZ,yS];refine wpAnyH_ready (rs:=[4]) (by kernel_rfl) (by simp) ?_;refine AllReadyH.cons rfl (fun K hK=>?_) AllReadyH.nil
   try simp only[zT,zS,zZ]
   go_simp;go_at_call 31
   refine HDC.out.mono ?_;rintro e w8 ⟨p1,p2,p3,rfl,HB78,⟨q0,c0⟩,⟨q1,c1⟩,⟨q2,c2⟩,⟨q3,c3⟩,⟨q4,c4⟩,⟨f0,f1,f2,f3,f4⟩,W9,hW9,hcc,HFIN,HSZ⟩;go_wp2_with fail
   refine hK.out _ _ ?_ (fun hHeld=>?_)
   ·exact(HCe.out _ HB78.out)
   clear hK K
   try simp only[zT,zS,zZ,Act.put,yT,yZ,yS]
   refine wpAnyH_ready (rs:=[9]) (by kernel_rfl) (by simp) ?_;refine AllReadyH.cons rfl (fun K hK=>?_) AllReadyH.nil
   try simp only[zT,zS,zZ]
   go_simp;refine hK.out _ _ ?_ (fun hHeld=>?_)
   ·exact(HCe.out _ HSZ.out)
   clear hK K
   try simp only[zT,zS,zZ,Act.put,yT,yZ,yS]
   have d0:=hcc 0 _ rfl;have d1:=hcc 1 _ rfl;have d2:=hcc 2 _ rfl;have d3:=hcc 3 _ rfl;have d4:=hcc 4 _ rfl;refine zK (i:=10) (v:= .slice da mm dc) rfl ?_;simp only[zT,zS,zZ,Act.put,yT,yZ,yS];refine PK (by kernel_rfl) ?_ _;go_wp2_with fail
   rw[HSF.out];rw[QA];refine Pq (v:= .tuple #[.agg #[.string ⟨sf.b.nm.a.toArray⟩,.string ⟨sf.b.nm.b.toArray⟩,.string ⟨sf.b.nm.c.toArray⟩,.string ⟨sf.b.nm.d.toArray⟩,.slice p1 p2 p3],.slice da mm dc]) (by simp[results,Tryz.results10,go_sem,d0,d1,d2,d3,d4]) rfl ?_;exact HFIN.out
end
end Go.Proofs.YtebabjnngdjceaaGreatDoor
