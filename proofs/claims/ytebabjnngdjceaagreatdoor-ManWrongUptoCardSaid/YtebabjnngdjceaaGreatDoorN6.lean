/- The walk of ManTexts. Ro -/
import Derived.Test.YtebabjnngdjceaaGreatDoorYt
import Derived.Test.YtebabjnngdjceaaGreatDoorH5
set_option linter.unusedVariables false
set_option linter.unusedSimpArgs false
set_option maxRecDepth 100000
set_option maxHeartbeats 16000000
namespace Go.Proofs.YtebabjnngdjceaaGreatDoor
open Go.RowKit
def hAt (H:List Bool)(i:Nat):Bool:=(H[i]?).getD false
noncomputable def rF (args:Array Value):Sem Next:=do pure (.value (←Builtin.append_ #[25,25] 25 args))
theorem wu (cs:Array Bool)(args:Array Value):builtin .append #[25,25] 25 cs args=rF args:=rfl
theorem xN {W W':World}{args:Array Value}{v:Value}(h:(Builtin.append_ #[25,25] 25 args).run Tryz.prog W=.ok v W'):(rF args).run Tryz.prog W=.ok (.value v) W':=by
 unfold rF;simp[QD,h]
attribute [irreducible] rF
theorem gG.app {A:Value→List (List UInt8)→Prop}{L:List RV}{l:List Row}(h:gG A L l):∀{M:List RV} {m:List Row},gG A M m→gG A (L++M) (l++m):=by
 intro M m k;refine⟨by simp[h.1,k.1],fun j x y h1 h2=>?_⟩
 by_cases hj:j<L.length
 ·rw[P7 hj]at h1
  rw[P7 (by rw[←h.1];exact hj)]at h2;exact h.2 j x y h1 h2
 ·rw[P5 (by omega)]at h1
  rw[P5 (by rw[←h.1];omega),←h.1]at h2;exact k.2 _ x y h1 h2
structure RwA (W3 W:World)(v:Value)(l:List Row):Prop where
 own:∃L,O3 W3.heap.size W v L∧gG (Ss W3) L l
 bel:Below W3.heap.size W3 W
theorem RwA.start (W3:World):RwA W3 W3 (.slice none 0 0) []:=⟨⟨[],ag.nil _ _,gG.nil _⟩,PG _ _⟩
theorem RwA.keep {W3 W W':World}{v:Value}{l:List Row}(h:RwA W3 W v l)(hb:Below W.heap.size W W'):RwA W3 W' v l:=by
 obtain⟨⟨L,hL,hA⟩,hl⟩:=h;exact⟨⟨L,hL.keep hb,hA⟩,hl.trans (hb.mono hl.size)⟩
theorem RwA.app {W3 W:World}{v u:Value}{l m:List Row}(h:RwA W3 W v l)(hu:Rws W3 u m)(hd:l.length+m.length≤1000000):
  ∃v' w',(rF #[v,u]).run Tryz.prog W=.ok (.value v') w'∧RwA W3 w' v' (l++m):=by
 obtain⟨⟨L,hL,hA⟩,hl⟩:=h;obtain⟨M,hM,hB⟩:=hu;obtain⟨i0,hi,hz0,hz1,hz2⟩:=Ql DC;obtain⟨v',w',hr,ho,hg,-⟩:=lM gB qg (by decide) Tryz.underlying25 hi hz0 hz1 hz2 rfl (by decide) hL (hM.below hl) hl.size (by rw[hA.1,hB.1];exact hd);refine⟨v',w',?_,⟨L++M,ho,hA.app hB⟩,?_⟩
 ·exact xN hr
 ·exact hl.grown hg hl.size (fun j e=>(hL.ty e).1)
theorem RwA.push {W3 W:World}{v:Value}{l:List Row}(h:RwA W3 W v l)(hd:l.length≤500000)(y:Row)(a:Option Addr×Nat×Nat)(hA:Ss W3 (bE a) y.2.2.1)(C:Array Value)(hC:C=(ai (y.1,y.2.1,a,y.2.2.2)).toArray):
  ∃v' w',(rF #[v,.slice (some ⟨W.heap.size,0,none⟩) 1 1]).run Tryz.prog (W.alloc (.cells C 33))=.ok (.value v') w'∧RwA W3 w' v' (l++ [y]):=by
 have b1:=ae W (.cells C 33);obtain⟨⟨L,hL,hAA⟩,hl⟩:=h.keep b1;obtain⟨i0,hi,hz0,hz1,hz2⟩:=Ql DC;have hu:Fs 4 ai (W.alloc (.cells C 33)) (.slice (some ⟨W.heap.size,0,none⟩) 1 1) [(y.1,y.2.1,a,y.2.2.2)]:=by
  have:=dM gB W 33 [(y.1,y.2.1,a,y.2.2.2)];rw[dU,←hC]at this;exact this
 obtain⟨v',w',hr,ho,hg,-⟩:=lM gB qg (by decide) Tryz.underlying25 hi hz0 hz1 hz2 rfl (by decide) hL hu hl.size (by rw[hAA.1];simp;omega);refine⟨v',w',?_,⟨_,ho,hAA.snoc ⟨rfl,rfl,rfl,hA⟩⟩,?_⟩
 ·exact xN hr
 ·exact hl.grown hg hl.size (fun j e=>(hL.ty e).1)
theorem RwA.fin {W3 W:World}{v:Value}{l:List Row}(h:RwA W3 W v l):Rws W v l:=by
 obtain⟨⟨L,hL,hA⟩,hl⟩:=h;exact⟨L,ag.sl gB hL,hA.mono fun v a ha=>ha.below hl⟩
theorem RwA.len {W3 W:World}{v:Value}{l:List Row}(h:RwA W3 W v l):∃a cap,v=.slice a l.length cap:=h.fin.len
section
attribute [local go_sem ↓ high] bg bK
theorem wrap_add (a b:Int):IntKind.i64.wrap (IntKind.i64.wrap a+b)=IntKind.i64.wrap (a+b):=by
 simp[IntKind.wrap,IntKind.bits,IntKind.signed];omega
theorem IX {l:List (List UInt8)}{p:Nat}{x:List UInt8}(hx:l[p]? =some x):tot (l.take (p+1))=tot (l.take p)+x.length:=by
 rw[Qw,hx];exact zU _ _
end
def rowLen (y:Row):Nat:=2+y.2.1.length+y.2.2.2.length+(3*y.2.2.1.length+tot y.2.2.1)
def aO (l:List Row):Nat:=(l.map rowLen).sum
theorem oP {l:List Row}{p:Nat}{y:Row}(hy:l[p]? =some y):aO (l.take (p+1))=aO (l.take p)+rowLen y:=by
 rw[Qw,hy];simp[aO]
theorem w64 (n:Int):wrap64 n=IntKind.i64.wrap n:=by unfold wrap64;exact(IntKind.wrap_i64 n).symm
theorem Rws.drewN {w:World}{v:Value}{l:List Row}(h:Rws w v l)(m:Nat):Rws (w.drewN m) v l:=h.below (below_drewN (PG _ _) m)
theorem CJ (l:List Row)(v:Value)(w:World)(hv:Rws w v l)(hl:l.length≤4000000000000000000)(ha:∀y∈l,y.2.2.1.length≤4000000000000000000):
  Calls Tryz.prog 13 #[v] w fun e w'=>e=.returned (.int .i64 (IntKind.i64.wrap (aO l:Int)))∧ ∃m,w'=w.drewN m:=by
 have HV:=zH hv;have HA:=zH ha;obtain⟨aa,ca,rfl⟩:=hv.len;obtain⟨R,hR⟩:∃R,IntKind.i64.wrap (aO l:Int)=R:=⟨_,rfl⟩;rw[hR];have HR:=zH hR;clear hv ha hR;go_enter Tryz.func13,Tryz.ntmps13
 go_wp2_with fail
 go_loopw [3,4] (fun n i wr=> ∃(p m:Nat) (z:Int),wr=w.drewN m∧n=.int .i64 z∧i=.int .i64 (p:Int)∧p≤l.length∧z=IntKind.i64.wrap (aO (l.take p):Int)) (fun _ i _=>l.length-(intOf i).toNat)
 case atStart=>exact⟨0,0,0,rfl,rfl,rfl,by omega,by simp[aO,IntKind.wrap,IntKind.bits,IntKind.signed]⟩
 case round=>
  obtain⟨p,m,z,hwr,rfl,rfl,hp,hz⟩:=hrel;have HW:=zH hwr;have HZ:=zH hz;clear hwr hz
  by_cases hlt:p<l.length
  ·obtain⟨y,hy⟩:∃y,l[p]? =some y:=⟨l[p],Pz hlt⟩
   have HY:=zH hy;have hlt':(p:Int)<(l.length:Int):=by omega
   have hp0:(0:Int)≤(p:Int):=by omega
   obtain⟨wd,hwd⟩:∃wd,w.drewN m=wd:=⟨_,rfl⟩;have hvd:Rws wd (.slice aa l.length ca) l:=hwd▸HV.out.drewN m;obtain⟨g,off,rfl,c0,c1,⟨a1,n1,p1,c2,s2⟩,c3⟩:=hvd.at hy;have hwr:wr=wd:=HW.out.trans hwd;subst hwr;have HWD:=zH hwd;clear hwd hvd hy HW s2 c2 c0;have hyl:=HA.out y (QP.2 ⟨p,HY.out⟩);obtain⟨y0,y1,y2,y3⟩:=y;simp only at c1 c3 hyl;have hs1:=az y1;have hs3:=az y3;go_wp2_with fail
   go_quiet (fail)
   go_wp2
   go_loopw [3,5] (fun n k wr3=> ∃(q m3:Nat) (z3:Int),wr3=w.drewN m3∧n=.int .i64 z3∧k=.int .i64 (q:Int)∧q≤y2.length∧z3=IntKind.i64.wrap ((aO (l.take p):Int)+(2+(y1.length:Int)+(y3.length:Int)+(3*(q:Int)+(tot (y2.take q):Int))))) (fun _ k _=>y2.length-(intOf k).toNat)
   case atStart=>
    refine⟨0,_,_,by rw[←HWD.out,H8],rfl,rfl,by omega,?_⟩;have hz:=HZ.out;have ht:tot (y2.take 0)=0:=by simp[tot]
    rw[ht,w64,w64,w64,hz,wrap_add _ 2,wrap_add _ (y1.length:Int),wrap_add _ (y3.length:Int)]
    congr 1
    omega
   case round=>
    obtain⟨q,m3,z3,hwr3,rfl,rfl,hq,hz3⟩:=hrel;have HZ3:=zH hz3;have HW3:=zH hwr3;obtain⟨wd3,hwd3⟩:∃wd,w.drewN m3=wd:=⟨_,rfl⟩;have hvd:Rws wd3 (.slice (some ⟨g,off,none⟩) l.length ca) l:=hwd3▸HV.out.drewN m3;obtain⟨g',off',hgo,-,-,⟨a1,n1,p1,c2,s2⟩,-⟩:=hvd.at HY.out;injection hgo with hgo
    injection hgo with hg1 hg2
    subst hg1 hg2;have hwr:wr=wd3:=hwr3.trans hwd3;subst hwr;have HWD3:=zH hwd3;obtain⟨a',c',hsl⟩:=s2.len;injection hsl with e1 e2 e3
    subst e1 e2 e3;simp only at c2 s2;clear hwd3 hvd hz3 hwr3 HWD
    by_cases hql:q<y2.length
    ·obtain⟨x,hx⟩:∃x,y2[q]? =some x:=⟨y2[q],Pz hql⟩
     obtain⟨g2,off2,rfl,d0⟩:=Ss.at s2 hx;have HT:=zH (IX hx);have hql':(q:Int)<(y2.length:Int):=by omega
     have hq0:(0:Int)≤(q:Int):=by omega
     have hxs:=az x;clear hx s2;go_wp2_with fail
     go_roundw
     case rel=>
      refine⟨q+1,m3,_,HW3.out,rfl,by go_num,by omega,?_⟩;have hz:=HZ3.out;rw[HT.out,w64,w64,hz,wrap_add _ 3,wrap_add _ (x.length:Int)]
      congr 1
      omega
     case measure=>simp[intOf];omega
    ·obtain rfl:q=y2.length:=by omega
     have hql':¬(y2.length:Int)<(y2.length:Int):=by omega
     have HT:=zH (oP HY.out);clear s2;go_wp2_with fail
     go_roundw
     case rel=>
      refine⟨p+1,m3,z3,HW3.out,rfl,by go_num,by omega,?_⟩;have hz:=HZ3.out;rw[Qa]at hz;rw[HT.out,hz];unfold rowLen
      first | (congr 1;done)| (congr 1;omega)
     case measure=>simp[intOf];omega
  ·obtain rfl:p=l.length:=by omega
   have hlt':¬(l.length:Int)<(l.length:Int):=by omega
   have hzz:z=R:=by have:=HZ.out;rw[Qa]at this;rw[this,HR.out]
   clear HZ HR;go_wp2_with fail
   go_ret;exact⟨rfl,_,HW.out⟩
section
attribute [local go_sem ↓ high] bg bK
theorem xw (x:List UInt8)(W:World):(iE (.string ⟨x.toArray⟩) (.string ⟨x.toArray⟩)).run Tryz.prog W=.ok (.bool true) W:=by
 have:=dC x x W
 simpa using this
end
section
attribute [local go_sem ↓ high] bg bK
theorem wS {l:List Row}{y:Row}(h:y∈l):rowLen y≤aO l:=by
 induction l with
 | nil=>simp at h
 | cons z l ih=>
  simp only[aO,Qo,Rz]at ih⊢;rcases Qn.1 h with rfl | h
  ·omega
  ·have:=ih h
   omega
end
theorem Jd (l:List Row):2*l.length≤aO l:=by
 induction l with
 | nil=>simp[aO]
 | cons y l ih=>
  simp only[aO,Qo,Rz,PI]at ih⊢;unfold rowLen at ih⊢;omega
theorem yO:∀l:List Txt,lnT l≤3*l.length+tot l
 | []=>by simp[lnT]
 | t::l=>by
  have ih:=yO l;have e:tot (t::l)=t.length+tot l:=by simp[tot]
  rw[aQ,e,PI];omega
theorem Jc (y:Row):jk (toM y)+8≤24*rowLen y:=by
 have h:=yO y.2.2.1;unfold jk rowLen;show 4*(y.2.2.2.length+lnT y.2.2.1)+40+8≤_;omega
theorem nV:∀l:List Row,dX (l.map toM)≤24*aO l
 | []=>by simp[dX]
 | y::l=>by
  have ih:=nV l;have h1:=Jc y;have e1:dX ((y::l).map toM)=jk (toM y)+dX (l.map toM):=by simp[dX]
  have e2:aO (y::l)=rowLen y+aO l:=by simp[aO]
  rw[e1,e2];omega
theorem Je {y:Row}(h:rowLen y≤2000):fJ (toM y)∧(toM y).mac.length≤100000:=by
 have h1:=yO y.2.2.1;unfold rowLen at h;refine⟨⟨?_,?_,fun s hs=>?_⟩,?_⟩
 ·show y.2.2.2.length≤2000;omega
 ·show lnT y.2.2.1≤40000;omega
 ·have:=yP (show s∈y.2.2.1 from hs)
  omega
 ·show y.2.1.length≤100000;omega
section
def fF (name:Txt):Row:=(1,[84,72],[name],[])
theorem Nv {name:Txt}{l:List Row}{r:aI}(h:r∈(fF name::l).map toM):r=toM (fF name)∨ ∃x∈l,r=toM x:=by
 rw[Qo,Qn]at h;rcases h with h | h
 ·exact .inl h
 ·obtain⟨x,hx,e⟩:=Rm.1 h
  exact .inr ⟨x,hx,e.symm⟩
theorem IC {name:Txt}{l:List Row}(hl:aO l≤1000)(hn:name.length≤100){r:aI}(h:r∈(fF name::l).map toM):fJ r∧r.mac.length≤100000:=by
 rcases Nv h with rfl | ⟨x,hx,rfl⟩
 ·refine Je (y:=fF name) ?_
  unfold rowLen fF;simp[tot];omega
 ·exact Je (by have:=wS hx;omega)
theorem Nh {name:Txt}{l:List Row}(hl:aO l≤1000)(hn:name.length≤100):dX ((fF name::l).map toM)≤25000:=by
 have h1:=nV (fF name::l);have h2:aO (fF name::l)=rowLen (fF name)+aO l:=by simp[aO]
 have h3:dX ((fF name::l).map toM)=jk (toM (fF name))+dX (l.map toM):=by simp[dX]
 have h4:=nV l;have h5:jk (toM (fF name))=4*(0+lnT [name])+40:=rfl;have h6:lnT [name]=name.length+1:=by simp[lnT]
 omega
theorem OE {name:Txt}{l:List Row}(hl:aO l≤1000)(hn:name.length≤100):PBo (fun _=>True) ((fF name::l).map toM):=
 LU (fun r hr=>(IC hl hn hr).1) (fun _ _ _=>trivial) (fun r hr=>(IC hl hn hr).2) (by have:=Nh hl hn;omega)
theorem Pj {name:Txt}{l:List Row}(hl:aO l≤1000)(hn:name.length≤100):(di I9 ((fF name::l).map toM)).d.length≤26000:=by
 have h1:=Ol (okl:=fun _=>True) (rs:=(fF name::l).map toM) (fun r hr=>(IC hl hn hr).1) (fun _ _ _=>trivial);have h2:=Nh hl hn;omega
theorem Ll (name:Txt)(l:List Row):(di I9 ((fF name::l).map toM)).b.nm=⟨name,[],[],[]⟩∧ ∀q∈(di I9 ((fF name::l).map toM)).d,q.1≠12:=
 FI Pe 1 name (l.map toM) (Nc ⟨1,mTH,[name],[]⟩ (.inl rfl))
attribute [local go_sem ↓ high] bg wu
theorem QUt {P:Prop}(h:P:=by
 go_wp2_with fail
 refine HL.out.mono ?_;rintro e w1 ⟨rfl,m,rfl⟩;have B1:=zH (below_drewN (PG w.heap.size w) m);clear HL;go_wp2_with fail
 refine(HK.out _ B1.out).mono ?_;rintro e w2 ⟨rfl,b2⟩;have B2:=zH b2;clear b2;go_wp2_with fail
 go_ret;exact⟨rfl,B2.out⟩):P:=h
theorem yN {w:World}(hU:U8 w)(hEr:Er w)(hMx:Mx w)(l:List Row)(name:Txt)(v:Value)(hv:Rws w v l)(hB:aO l≤4000000)(hnm:name.length≤4000000):
  Calls Tryz.prog 4 #[v,.string ⟨name.toArray⟩] w fun e W'=>e=.returned (.bool true)∧Below w.heap.size w W':=by
 have hnum:=Jd l;have hsz:=az name;have har:∀y∈l,y.2.2.1.length≤4000000000000000000:=fun y hy=>by
  have:=wS hy;unfold rowLen at this;omega
 have hL:=CJ l v w hv (by omega) har;have hwr:IntKind.i64.wrap (aO l:Int)=(aO l:Int):=IntWalk.i64_in _ (by omega);rw[hwr]at hL;have HK:Hid (∀W,Below w.heap.size w W→Calls Tryz.prog 8 #[] W fun e w'=>e=.returned (.bool true)∧Below w.heap.size w w'):=
  zH (fun W hb=>(Bg (hU.below hb) (hEr.below hb) (hMx.below (Px _) hb)).mono fun e w' ⟨e1,e2⟩=>⟨e1,hb.trans (e2.mono hb.size)⟩)
 have HU:=zH (fun W (h:Below w.heap.size w W)=>hU.below h);have HE:=zH (fun W (h:Below w.heap.size w W)=>hEr.below h);have HV:=zH hv;have HL:=zH hL;obtain⟨aa,ca,rfl⟩:=hv.len;clear hMx hU hEr hL hv hwr har;obtain⟨N,hN⟩:∃N,aO l=N:=⟨_,rfl⟩;rw[hN]at HL hnum hB;have HNN:=zH hN;obtain⟨nl,hnl⟩:∃n,name.length=n:=⟨_,rfl⟩;rw[hnl]at hsz hnm;have HNL:=zH hnl;clear hN hnl
 by_cases h2:800<N∨100<nl
 ·by_cases h3:800<N
  ·have hz:(800:Int)<(N:Int):=by omega
   go_enter Tryz.func4,Tryz.ntmps4
   exact QUt
  ·have hz:¬(800:Int)<(N:Int):=by omega
   have hz1:(100:Int)<(nl:Int):=by omega
   go_enter Tryz.func4,Tryz.ntmps4
   exact QUt
 ·have hz:¬(800:Int)<(N:Int):=by omega
  have hz1:¬(100:Int)<(nl:Int):=by omega
  have hln:l.length≤1000:=by omega
  have hle:aO l≤1000:=by rw[HNN.out];omega
  have hnl2:name.length≤100:=by rw[HNL.out];omega
  have E1:∀W,(iE (.string ⟨name.toArray⟩) (.string ⟨name.toArray⟩)).run Tryz.prog W=.ok (.bool true) W:=xw name;have E2:∀W,(iE (.string ⟨#[]⟩) (.string ⟨#[]⟩)).run Tryz.prog W=.ok (.bool true) W:=xw [];have HA:Hid (∀W,Below w.heap.size w W→ ∃a1 n1 c1 w1 a2 c2 w2,(rF #[.slice none 0 0,.slice (some ⟨W.heap.size+1,0,none⟩) 1 1]).run Tryz.prog ((W.alloc (.cells #[.string ⟨name.toArray⟩] 9)).alloc (.cells #[.int .i64 1,.string ⟨#[84,72]⟩,.slice (some ⟨W.heap.size,0,none⟩) 1 1,.string ⟨#[]⟩] 33))=.ok (.value (.slice a1 n1 c1)) w1∧
    (rF #[.slice a1 n1 c1,.slice aa l.length ca]).run Tryz.prog w1=.ok (.value (.slice a2 (l.length+1) c2)) w2∧Hid (Rws w2 (.slice a2 (l.length+1) c2) (fF name::l))∧Hid (Below w.heap.size w w2)):=zH (fun W hb=>by
   have bs:=ae W (.cells #[.string ⟨name.toArray⟩] 9);have zs:(W.alloc (.cells #[.string ⟨name.toArray⟩] 9)).heap.size=W.heap.size+1:=PS _ _;have hs:Ss (W.alloc (.cells #[.string ⟨name.toArray⟩] 9)) (.slice (some ⟨W.heap.size,0,none⟩) 1 1) [name]:=dM dF W 9 [name];obtain⟨v1,w1,k1,q1⟩:=(RwA.start (W.alloc (.cells #[.string ⟨name.toArray⟩] 9))).push (by simp) (fF name) (some ⟨W.heap.size,0,none⟩,1,1) hs #[.int .i64 1,.string ⟨#[84,72]⟩,.slice (some ⟨W.heap.size,0,none⟩) 1 1,.string ⟨#[]⟩] rfl;rw[zs]at k1;obtain⟨a1,c1,rfl⟩:=q1.len;obtain⟨v2,w2,k2,q2⟩:=q1.app (HV.out.below (hb.trans (bs.mono hb.size))) (by simp;omega);obtain⟨a2,c2,e2⟩:=q2.len;have e3:([]++ [fF name]++l).length=l.length+1:=by simp
   rw[e3]at e2;subst e2;refine⟨a1,_,c1,w1,a2,c2,w2,k1,k2,zH ?_,zH ?_⟩
   ·have:=q2.fin
    simpa using this
   ·exact(hb.trans (bs.mono hb.size)).trans (q2.bel.mono (by have:=hb.size;omega)))
  obtain⟨s,hs⟩:∃s,di I9 ((fF name::l).map toM)=s:=⟨_,rfl⟩;have hfact:=Ll name l;have hdl:=Pj hle hnl2;rw[hs]at hfact hdl;have HPC:Hid (∀W a2 c2,Below w.heap.size w W→Rws W (.slice a2 (l.length+1) c2) (fF name::l)→Calls Tryz.prog 10 #[.slice a2 (l.length+1) c2] W fun e w2=> ∃p1 p2 p3 d1 dn d3,e=.returned (.tuple #[.agg #[.string ⟨name.toArray⟩,.string ⟨#[]⟩,.string ⟨#[]⟩,.string ⟨#[]⟩,.slice p1 p2 p3],.slice d1 dn d3])∧dn=s.d.length∧
    ∃W2,w2.alloc (.cells #[.string ⟨name.toArray⟩,.string ⟨#[]⟩,.string ⟨#[]⟩,.string ⟨#[]⟩,.slice p1 p2 p3] 38)=W2∧Hid (Below w.heap.size w W2)∧W2.cell? ⟨w2.heap.size,0,none⟩=some (.string ⟨name.toArray⟩)∧W2.cell? ⟨w2.heap.size,1,none⟩=some (.string ⟨#[]⟩)∧Hid (Ds W2 (.slice d1 dn d3) s.d)):=zH (fun W a2 c2 hb hr=>by
   have hp:=uB LA (HU.out W hb) (HE.out W hb) hr (OE hle hnl2);rw[hs]at hp;refine hp.mono ?_;rintro e w2 ⟨⟨p1,p2,p3⟩,d,rfl,q1,q2,q3⟩;obtain⟨d1,d3,rfl⟩:=q2.len;unfold rP;rw[hfact.1];have bl:=ae w2 (.cells #[.string ⟨name.toArray⟩,.string ⟨#[]⟩,.string ⟨#[]⟩,.string ⟨#[]⟩,.slice p1 p2 p3] 38);have kD:Blk (w2.alloc (.cells #[.string ⟨name.toArray⟩,.string ⟨#[]⟩,.string ⟨#[]⟩,.string ⟨#[]⟩,.slice p1 p2 p3] 38)) w2.heap.size 38 [.string ⟨name.toArray⟩,.string ⟨#[]⟩,.string ⟨#[]⟩,.string ⟨#[]⟩,.slice p1 p2 p3]:=PK w2 _;exact⟨p1,p2,p3,d1,_,d3,rfl,rfl,_,rfl,zH ((hb.trans (q3.mono hb.size)).trans (bl.mono (by have:=hb.size;have:=q3.size;omega))),kD.cell 0,kD.cell 1,zH (q2.below bl)⟩)
  have HD:Hid (∀q∈s.d,q.1≠12):=zH hfact.2;have hdl2:s.d.length≤26000:=hdl;clear hfact hdl hs hle hnl2 h2;go_enter Tryz.func4,Tryz.ntmps4
  go_wp2_with fail
  refine HL.out.mono ?_;rintro e w1 ⟨rfl,m,rfl⟩;have B1:=zH (below_drewN (PG w.heap.size w) m);clear HL;obtain⟨Wm,hWm⟩:∃W,w.drewN m=W:=⟨_,rfl⟩;rw[hWm]at B1⊢;obtain⟨a1,n1,c1,w1,a2,c2,w2,k1,k2,HR,HB2⟩:=HA.out Wm B1.out;have HPP:=zH (HPC.out w2 a2 c2 HB2.out HR.out);clear HA HPC hWm;go_wp2_with fail
  refine HPP.out.mono ?_;rintro e w3 ⟨p1,p2,p3,d1,dn,d3,rfl,hdn,W2,hW2,HBW,x0,x1,HDS⟩;have HW2:=zH hW2;have HDN:=zH hdn;have hdb:dn≤26000:=by omega
  clear hW2 HPP hdn k1 k2;go_upto_region 7 with fail
  rw[HW2.out];clear HW2;go_wp2_with fail
  go_loopw [8] (fun i wx=> ∃j:Nat,i=.int .i64 (j:Int)∧j≤dn∧wx=W2) (fun i _=>dn-(intOf i).toNat)
  case atStart=>exact⟨0,rfl,by omega,rfl⟩
  case round=>
   obtain⟨j,rfl,hj,hwr⟩:=hrel;obtain rfl:=hwr.symm;have hj0:(0:Int)≤(j:Int):=by omega
   by_cases hjl:j<dn
   ·obtain⟨q,hq⟩:∃q,s.d[j]? =some q:=⟨s.d[j]'(by rw[←HDN.out];exact hjl),Pz _⟩
    obtain⟨g0,off,rfl,c0,-,-⟩:=Fs.d HDS.out hq;have hj1:(j:Int)<(dn:Int):=by omega
    have hne:(q.1==12)=false:=by have:=HD.out q (Qq hq);simpa using this
    obtain⟨qk,hqk⟩:∃k,q.1=k:=⟨_,rfl⟩;rw[hqk]at c0 hne;clear hq hqk;go_wp2_with fail
    go_roundw
    case rel=>exact⟨j+1,by go_num,by omega,by first | trivial | rfl⟩
    case measure=>simp[intOf];omega
   ·obtain rfl:j=dn:=by omega
    have hjn:¬(j:Int)<(j:Int):=by omega
    go_wp2_with fail
    refine(HK.out _ HBW.out).mono ?_;rintro e w9 ⟨rfl,b9⟩;have B9:=zH b9;clear b9;go_wp2_with fail
    go_ret;exact⟨rfl,B9.out⟩
end
end Go.Proofs.YtebabjnngdjceaaGreatDoor
