/- The document's own value of bytes; whether they are just one rune's. The document's own reading of bytes is dec. -/
import Derived.Test.YtebabjnngdjceaaGreatDoorDa
import Derived.Test.YtebabjnngdjceaaGreatDoorM4
import Derived.Deep.RegionWith
import Derived.Test.YtebabjnngdjceaaGreatDoorZ0
set_option linter.unusedVariables false
set_option linter.unusedSimpArgs false
set_option maxRecDepth 100000
set_option maxHeartbeats 4000000
namespace Go.Proofs.YtebabjnngdjceaaGreatDoor
open Go.RowKit
theorem Kc (a:Int) (r:List Int) (hr:r.length=0) (ha:0≤a∧a≤255) (hx: ∀x∈r,0≤x∧x≤255) (v:Value) (w:World) (hv:Sl .u8 w v (a::r)):
  Calls Tryz.prog 78 #[v] w fun e w'=>e= .returned (.int .i64 (eF a r))∧w=w':=by
 obtain⟨aa,cap,rfl,hcap,hc⟩:=hv;have hlen:(a::r).length=1:=by simp[hr]
 rw[hlen]at hcap ⊢;obtain⟨g,off,rfl,c0⟩:=hc 0 a rfl;have HC:=zH hc;have HX:=zH hx;have HRr:=zH hr;have HRl:r.length≤3:=by omega
 have hcz:(0:Int)<(1:Int):=by omega
 obtain⟨ha0,ha1⟩:=ha;clear hc hx hr hlen hcap;simp only[PW]at c0;go_enter Tryz.func78,Tryz.ntmps78
 go_wp2_with fail
 go_loopw [3,4] (fun n i wr=> ∃j:Nat,j≤0∧i= .int .i64 (j+1:Nat)∧n= .int .i64 (eF a (r.take j))∧wr=w) (fun _ i _=>5-(intOf i).toNat)
 case atStart=>exact⟨0,by omega,rfl,rfl,rfl⟩
 case round=>
  obtain⟨j,hj,rfl,rfl,rfl⟩:=hrel;obtain⟨S,hS⟩: ∃S,eF a (r.take j)=S:=⟨_,rfl⟩;have hSb: -100000000≤S∧S≤100000000:=by
   rw[←hS];exact jU (fun x h=>HX.out x (Qb h)) (by omega) (by omega) (by rw[Pg];omega)
  rw[hS]
  by_cases hlt:j<0
  ·exact absurd hlt (by omega)
  ·obtain rfl:j=0:=by omega
   have hS':eF a r=S:=by rw[←hS,Pz (by rw[HRr.out];omega)]
   have HS':=zH hS';clear hS hS';have hi0: ¬((0+1:Nat):Int)<1:=by omega
   go_wp2_with fail
   go_ret;exact⟨il HS'.out.symm,rfl⟩
theorem Kb (a:Int) (r:List Int) (hr:r.length=1) (ha:0≤a∧a≤255) (hx: ∀x∈r,0≤x∧x≤255) (v:Value) (w:World) (hv:Sl .u8 w v (a::r)):
  Calls Tryz.prog 78 #[v] w fun e w'=>e= .returned (.int .i64 (eF (a-192) r))∧w=w':=by
 obtain⟨aa,cap,rfl,hcap,hc⟩:=hv;have hlen:(a::r).length=2:=by simp[hr]
 rw[hlen]at hcap ⊢;obtain⟨g,off,rfl,c0⟩:=hc 0 a rfl;have HC:=zH hc;have HX:=zH hx;have HRr:=zH hr;have HRl:r.length≤3:=by omega
 have hcz:(0:Int)<(2:Int):=by omega
 obtain⟨ha0,ha1⟩:=ha;clear hc hx hr hlen hcap;simp only[PW]at c0;go_enter Tryz.func78,Tryz.ntmps78
 go_wp2_with fail
 go_loopw [3,4] (fun n i wr=> ∃j:Nat,j≤1∧i= .int .i64 (j+1:Nat)∧n= .int .i64 (eF (a-192) (r.take j))∧wr=w) (fun _ i _=>5-(intOf i).toNat)
 case atStart=>exact⟨0,by omega,rfl,rfl,rfl⟩
 case round=>
  obtain⟨j,hj,rfl,rfl,rfl⟩:=hrel;obtain⟨S,hS⟩: ∃S,eF (a-192) (r.take j)=S:=⟨_,rfl⟩;have hSb: -100000000≤S∧S≤100000000:=by
   rw[←hS];exact jU (fun x h=>HX.out x (Qb h)) (by omega) (by omega) (by rw[Pg];omega)
  rw[hS]
  by_cases hlt:j<1
  ·obtain⟨z,hz⟩: ∃z,r[j]? =some z:=⟨r[j]'(by rw[HRr.out];exact hlt),OU _⟩
   obtain⟨g',off',e,c1⟩:=HC.out (j+1) z (by simpa using hz)
   cases e
   have hzb:=HX.out z (P5 hz);have hn:eF (a-192) (r.take (j+1))=S*64+z-128:=by
    rw[PD,hz,←hS];exact mf _ _ _
   have HN:=zH hn;obtain⟨hS1,hS2⟩:=hSb;obtain⟨hz1,hz2⟩:=hzb;clear hn hz hS;have hi0:((j+1:Nat):Int)<2:=by omega
   have hi1:(0:Int)≤((j+1:Nat):Int):=by omega
   go_wp2_with fail
   go_roundw
   case rel=>exact⟨j+1,by omega,by go_num,by rw[HN.out],by first | trivial | rfl⟩
   case measure=>simp[intOf];omega
  ·obtain rfl:j=1:=by omega
   have hS':eF (a-192) r=S:=by rw[←hS,Pz (by rw[HRr.out];omega)]
   have HS':=zH hS';clear hS hS';have hi0: ¬((1+1:Nat):Int)<2:=by omega
   go_wp2_with fail
   go_ret;exact⟨il HS'.out.symm,rfl⟩
theorem Ka (a:Int) (r:List Int) (hr:r.length=2) (ha:0≤a∧a≤255) (hx: ∀x∈r,0≤x∧x≤255) (v:Value) (w:World) (hv:Sl .u8 w v (a::r)):
  Calls Tryz.prog 78 #[v] w fun e w'=>e= .returned (.int .i64 (eF (a-224) r))∧w=w':=by
 obtain⟨aa,cap,rfl,hcap,hc⟩:=hv;have hlen:(a::r).length=3:=by simp[hr]
 rw[hlen]at hcap ⊢;obtain⟨g,off,rfl,c0⟩:=hc 0 a rfl;have HC:=zH hc;have HX:=zH hx;have HRr:=zH hr;have HRl:r.length≤3:=by omega
 have hcz:(0:Int)<(3:Int):=by omega
 obtain⟨ha0,ha1⟩:=ha;clear hc hx hr hlen hcap;simp only[PW]at c0;go_enter Tryz.func78,Tryz.ntmps78
 go_wp2_with fail
 go_loopw [3,4] (fun n i wr=> ∃j:Nat,j≤2∧i= .int .i64 (j+1:Nat)∧n= .int .i64 (eF (a-224) (r.take j))∧wr=w) (fun _ i _=>5-(intOf i).toNat)
 case atStart=>exact⟨0,by omega,rfl,rfl,rfl⟩
 case round=>
  obtain⟨j,hj,rfl,rfl,rfl⟩:=hrel;obtain⟨S,hS⟩: ∃S,eF (a-224) (r.take j)=S:=⟨_,rfl⟩;have hSb: -100000000≤S∧S≤100000000:=by
   rw[←hS];exact jU (fun x h=>HX.out x (Qb h)) (by omega) (by omega) (by rw[Pg];omega)
  rw[hS]
  by_cases hlt:j<2
  ·obtain⟨z,hz⟩: ∃z,r[j]? =some z:=⟨r[j]'(by rw[HRr.out];exact hlt),OU _⟩
   obtain⟨g',off',e,c1⟩:=HC.out (j+1) z (by simpa using hz)
   cases e
   have hzb:=HX.out z (P5 hz);have hn:eF (a-224) (r.take (j+1))=S*64+z-128:=by
    rw[PD,hz,←hS];exact mf _ _ _
   have HN:=zH hn;obtain⟨hS1,hS2⟩:=hSb;obtain⟨hz1,hz2⟩:=hzb;clear hn hz hS;have hi0:((j+1:Nat):Int)<3:=by omega
   have hi1:(0:Int)≤((j+1:Nat):Int):=by omega
   go_wp2_with fail
   go_roundw
   case rel=>exact⟨j+1,by omega,by go_num,by rw[HN.out],by first | trivial | rfl⟩
   case measure=>simp[intOf];omega
  ·obtain rfl:j=2:=by omega
   have hS':eF (a-224) r=S:=by rw[←hS,Pz (by rw[HRr.out];omega)]
   have HS':=zH hS';clear hS hS';have hi0: ¬((2+1:Nat):Int)<3:=by omega
   go_wp2_with fail
   go_ret;exact⟨il HS'.out.symm,rfl⟩
theorem J9 (a:Int) (r:List Int) (hr:r.length=3) (ha:0≤a∧a≤255) (hx: ∀x∈r,0≤x∧x≤255) (v:Value) (w:World) (hv:Sl .u8 w v (a::r)):
  Calls Tryz.prog 78 #[v] w fun e w'=>e= .returned (.int .i64 (eF (a-240) r))∧w=w':=by
 obtain⟨aa,cap,rfl,hcap,hc⟩:=hv;have hlen:(a::r).length=4:=by simp[hr]
 rw[hlen]at hcap ⊢;obtain⟨g,off,rfl,c0⟩:=hc 0 a rfl;have HC:=zH hc;have HX:=zH hx;have HRr:=zH hr;have HRl:r.length≤3:=by omega
 have hcz:(0:Int)<(4:Int):=by omega
 obtain⟨ha0,ha1⟩:=ha;clear hc hx hr hlen hcap;simp only[PW]at c0;go_enter Tryz.func78,Tryz.ntmps78
 go_wp2_with fail
 go_loopw [3,4] (fun n i wr=> ∃j:Nat,j≤3∧i= .int .i64 (j+1:Nat)∧n= .int .i64 (eF (a-240) (r.take j))∧wr=w) (fun _ i _=>5-(intOf i).toNat)
 case atStart=>exact⟨0,by omega,rfl,rfl,rfl⟩
 case round=>
  obtain⟨j,hj,rfl,rfl,rfl⟩:=hrel;obtain⟨S,hS⟩: ∃S,eF (a-240) (r.take j)=S:=⟨_,rfl⟩;have hSb: -100000000≤S∧S≤100000000:=by
   rw[←hS];exact jU (fun x h=>HX.out x (Qb h)) (by omega) (by omega) (by rw[Pg];omega)
  rw[hS]
  by_cases hlt:j<3
  ·obtain⟨z,hz⟩: ∃z,r[j]? =some z:=⟨r[j]'(by rw[HRr.out];exact hlt),OU _⟩
   obtain⟨g',off',e,c1⟩:=HC.out (j+1) z (by simpa using hz)
   cases e
   have hzb:=HX.out z (P5 hz);have hn:eF (a-240) (r.take (j+1))=S*64+z-128:=by
    rw[PD,hz,←hS];exact mf _ _ _
   have HN:=zH hn;obtain⟨hS1,hS2⟩:=hSb;obtain⟨hz1,hz2⟩:=hzb;clear hn hz hS;have hi0:((j+1:Nat):Int)<4:=by omega
   have hi1:(0:Int)≤((j+1:Nat):Int):=by omega
   go_wp2_with fail
   go_roundw
   case rel=>exact⟨j+1,by omega,by go_num,by rw[HN.out],by first | trivial | rfl⟩
   case measure=>simp[intOf];omega
  ·obtain rfl:j=3:=by omega
   have hS':eF (a-240) r=S:=by rw[←hS,Pz (by rw[HRr.out];omega)]
   have HS':=zH hS';clear hS hS';have hi0: ¬((3+1:Nat):Int)<4:=by omega
   go_wp2_with fail
   go_ret;exact⟨il HS'.out.symm,rfl⟩
theorem vN (l:List Int) (h1:1≤l.length) (h4:l.length≤4) (hx: ∀x∈l,0≤x∧x≤255) (v:Value) (w:World) (hv:Sl .u8 w v l):
  Calls Tryz.prog 78 #[v] w fun e w'=>e= .returned (.int .i64 (ji l))∧w=w':=by
 match l,h1,h4 with
 | [a],_,_=>exact Kc a [] rfl (hx a (by simp)) (fun x h=>hx x (Qc _ h)) v w hv
 | [a,b],_,_=>exact Kb a [b] rfl (hx a (by simp)) (fun x h=>hx x (Qc _ h)) v w hv
 | [a,b,c],_,_=>exact Ka a [b,c] rfl (hx a (by simp)) (fun x h=>hx x (Qc _ h)) v w hv
 | [a,b,c,d],_,_=>exact J9 a [b,c,d] rfl (hx a (by simp)) (fun x h=>hx x (Qc _ h)) v w hv
theorem QUd {P:Prop}(h:P:=by
 go_enter Tryz.func77,Tryz.ntmps77
 go_wp2_with (first
  | (go_at_call 78;refine V.mono ?_;rintro e w' ⟨rfl,rfl⟩)
  | (go_at_call 116;refine VV.mono ?_;rintro e w' ⟨rfl,rfl⟩))
 go_ret;exact⟨rfl,OX _ _⟩):P:=h
theorem Ng (l:List UInt8) (h1:1≤l.length) (h4:l.length≤4) (v:Value) (w:World) (hv:By w v l):
  Calls Tryz.prog 77 #[v] w fun e w'=>e= .returned (.bool (isR (ints l)))∧Below w.heap.size w w':=by
 have hx: ∀x∈ints l,0≤x∧x≤255:=by
  intro x hx;simp only[ints,QF]at hx;obtain⟨y,_,rfl⟩:=hx;have:=y.toNat_lt;omega
 have hil:(ints l).length=l.length:=by simp[ints]
 have V:=vN (ints l) (by omega) (by omega) hx v w hv;have hb:=Ke hx (by omega);have HSS:=zH (fun W (h:Below w.heap.size w W)=>ik (By.below hv h));have hR:isR (ints l)=(vld (ji (ints l))&&decide (Lib.encodeRuneZ (ji (ints l))=ints l)):=rfl;obtain⟨n,hn⟩: ∃n,ji (ints l)=n:=⟨_,rfl⟩;rw[hn]at V hb hR;rw[hR];obtain⟨hb1,hb2⟩:=hb;clear hn hR hx hv hil;obtain⟨bv,hbv⟩: ∃b,vld n=b:=⟨_,rfl⟩;have VV:=jY n w;rw[hbv]at VV ⊢
 cases bv with
 | false=>
  simp only[Bool.false_and];have HBV:=zH hbv;clear hbv
  by_cases c1:n<0
  ·exact QUd
  ·by_cases c2:1114111<n
   ·exact QUd
   ·exact QUd
 | true=>
  have hv':=hbv;simp only[vld,PQ]at hv';have c1: ¬n<0:=by omega
  have c2: ¬1114111<n:=by omega
  have hO:=zH (fun W=>zQ n hbv W);simp only[Bool.true_and];clear hbv hv';have hdec:decide (Lib.encodeRuneZ n=ints l)=decide (Lib.encodeRune n=l):=by
   by_cases h:Lib.encodeRune n=l
   ·rw[Qg h,←h,je]
    simp
   ·rw[Px h,Px]
    intro h';exact h (ul (by rw[je,h']))
  rw[hdec];have HSS0:=HSS.out _ (OX _ w).drew;have hwr:IntKind.i32.wrap n=n:=by simp[IntKind.wrap,IntKind.bits,IntKind.signed];omega
  have HWR:=zH hwr;clear hwr;clear hdec;go_enter Tryz.func77,Tryz.ntmps77
  go_wp2_with (first
   | (go_at_call 78;refine V.mono ?_;rintro e w' ⟨rfl,rfl⟩)
   | (go_at_call 116;refine VV.mono ?_;rintro e w' ⟨rfl,rfl⟩))
  go_region_with ((first
   | (go_at_call 117;(try rw[HWR.out]);(with_reducible refine(hO.out _).mono ?_);rintro e w5 ⟨u,rfl,su,b5⟩;have B5:Below w.heap.size w w5:=(OX _ w).drew.trans b5;have hku:=ik (v:=u) (b:=Lib.encodeRune n) (w:=w5) (by unfold By;rw[lC];exact su);have hv5:=HSS.out w5 B5;clear su b5)))
  all_goals
   go_wp2_with fail
   go_ret;exact⟨aF (aY (by simp)),B5⟩
section
noncomputable def MK (x lo hi:Value):Sem Value:=Instr.slice 104 x (some lo) (some hi) none
theorem Bz (x lo hi:Value):Instr.slice 104 x (some lo) (some hi) none=MK x lo hi:=rfl
theorem By.sub {w:World} {v:Value} {b:List UInt8} (h:By w v b) (q k:Nat) (hk:q+k≤b.length):
  ∃v',(∀W:World,(MK v (.int .i64 (q:Int)) (.int .i64 ((q:Int)+(k:Int)))).run Tryz.prog W= .ok v' W)∧By w v' ((b.drop q).take k):=by
 obtain⟨i0,hi,hz0,hz1,hz2⟩:=PU Mk;obtain⟨a,cap,rfl,hc,hr⟩:=h;rw[Qe]at hc ⊢;refine⟨.slice (if cap=q then a else a.map (·.add (q*1))) k (cap-q),fun W=>?_,?_⟩
 ·unfold MK
  have h1:q≤q+k:=by omega
  have h2:q+k≤cap:=by omega
  have e:((q:Int)+(k:Int))=((q+k:Nat):Int):=by omega
  have h3:((q+k:Nat):Int).toNat=q+k:=by omega
  rw[e];simp[Instr.slice,Instr.sliceBounds,Instr.sliceBound,asIntOf,PZ Tryz.underlying104,h1,h2,h3,sizeOf,typeInfo,hi,hz1];have ht:((q:Int)+(k:Int)).toNat-q=k:=by omega
  rw[Pk ⟨by omega,by omega⟩,Pk (by omega),ht]
 ·have hl:(((b.drop q).take k).map fun x=>(x.toNat:Int)).length=k:=by simp;omega
  refine⟨_,_,by rw[hl],by rw[hl];omega,fun j z hj=>?_⟩;have hj1:j<k:=by
   have:=(OV.1 hj).1;omega
  have hj2:(b.map fun x=>(x.toNat:Int))[q+j]? =some z:=by
   simp only[Qf,QX hj1,Qn]at hj ⊢;exact hj
  obtain⟨g,off,rfl,c⟩:=hr (q+j) z hj2;rw[Pd (by omega)];refine⟨g,off+q,?_,?_⟩
  ·simp only[QY,QU,Qi]
   rw[Qo]
  ·rw[show off+q+j=off+(q+j) by omega]
   exact c
attribute [local go_sem ↓ high] yM Bz
theorem QUe {P:Prop}(h:P:=by
 go_wp2_with fail
 go_roundw
 case rel=>
  refine⟨q+1,pre++ [65533],by omega,by go_num,O4.out,?_,b4.out⟩;rw[HDR.out 1,←HP.out,hodd.out,Pw];rfl
 case measure=>simp[intOf];omega):P:=h
theorem zA (b:List UInt8) (hb:b.length≤2000) (v:Value) (w:World) (hv:By w v b):
  Calls Tryz.prog 44 #[v] w fun e w'=> ∃u,e= .returned u∧Sl .i32 w' u (dec b)∧Below w.heap.size w w':=by
 have HV:=zH hv;obtain⟨a,cap,rfl,-,-⟩:=hv;rw[Qe]at HV ⊢;have hdl:=l6 b;go_enter Tryz.func44,Tryz.ntmps44
 go_wp2_with fail
 go_loopw [3,4] (fun s i wr=> ∃(q:Nat) (pre:List Int),q≤b.length∧i= .int .i64 q∧Own w.heap.size 21 .i32 wr s pre∧pre++dec (b.drop q)=dec b∧Below w.heap.size w wr) (fun _ i _=>b.length-(intOf i).toNat)
 case atStart=>exact⟨0,[],by omega,rfl,Own.nil _ _ _ _,rfl,OX _ _⟩
 case round=>
  obtain⟨q,pre,hq,rfl,ho,hpre,hbw⟩:=hrel;obtain⟨wo,hwo⟩: ∃wo:World,wo=wr:=⟨wr,rfl⟩;subst hwo;have HO:=zH ho;have HP:=zH hpre;have HB:=zH hbw;have zb:=hbw.size;have hpl:pre.length≤2000:=by
   have:=Pj List.length hpre;rw[Pb]at this;omega
  clear ho hpre hbw
  by_cases hlt:q<b.length
  ·have hi0:(q:Int)<(b.length:Int):=by omega
   obtain⟨R,hR⟩: ∃R,b.drop q=R:=⟨_,rfl⟩;have hRl:R.length=b.length-q:=by rw[←hR,Pi]
   have hRne:R≠ []:=by intro h;rw[h]at hRl;simp at hRl;omega
   have hdrop: ∀k,b.drop (q+k)=R.drop k:=fun k=>by rw[←hR,List.drop_drop]
   rw[hR]at HP;have HSUB:=zH (fun(k:Nat) (hk:q+k≤b.length)=>By.sub (By.below HV.out HB.out) q k hk);rw[hR]at HSUB;have HRN:=zH hRne;have HDR:=zH hdrop;have HRL:=zH hRl;clear hR hRne hdrop hRl;go_wp2_with fail
   go_loopw [5,6] (fun vn vk wi=> ∃n k:Nat,vn= .int .i64 n∧vk= .int .i64 k∧1≤k∧k≤5∧((n=0∧ ∀k',1≤k'→k'<k→k'≤R.length→isR (ints (R.take k'))=false)∨(1≤n∧n≤4∧q+n≤b.length∧isR (ints (R.take n))=true))∧Below wo.heap.size wo wi) (fun _ vk _=>6-(intOf vk).toNat)
   case atStart=>exact⟨0,1,rfl,rfl,by omega,by omega,.inl ⟨rfl,fun k' h1 h2=>by omega⟩,OX _ _⟩
   case round=>
    obtain⟨n,k,rfl,rfl,hk1,hk5,hcase,hbi⟩:=hrel;have HBI:=zH hbi;have zi:=hbi.size;clear hbi;rcases hcase with⟨rfl,hno⟩| ⟨hn1,hn4,hnl,his⟩
    ·have HNO:=zH hno
     clear hno
     by_cases hgo:k≤4∧q+k≤b.length
     ·have g1:(k:Int)≤4:=by omega
      have g2:(q:Int)+(k:Int)≤(b.length:Int):=by omega
      obtain⟨v',hsub,hv'⟩:=HSUB.out k hgo.2;have hl:(R.take k).length=k:=by rw[Pg,HRL.out];omega
      have hI:=Ng (R.take k) (by omega) (by omega) v' wr (By.below hv' HBI.out);obtain⟨bi,hbi⟩: ∃x,isR (ints (R.take k))=x:=⟨_,rfl⟩;rw[hbi]at hI;have HI:=zH hI;have HBB:=zH hbi;clear hI hbi hv' hl
      cases bi with
      | true=>
       go_wp2_with (go_at_call 77;refine HI.out.mono ?_;rintro e w3 ⟨rfl,b3⟩)
       go_roundw
       case rel=>exact⟨k,k+1,rfl,by go_num,by omega,by omega,.inr ⟨by omega,by omega,by omega,HBB.out⟩,HBI.out.trans (b3.mono zi)⟩
       case measure=>simp[intOf];omega
      | false=>
       go_wp2_with (go_at_call 77;refine HI.out.mono ?_;rintro e w3 ⟨rfl,b3⟩)
       go_roundw
       case rel=>
        refine⟨0,k+1,rfl,by go_num,by omega,by omega,.inl ⟨rfl,fun k' h1 h2 h3=>?_⟩,HBI.out.trans (b3.mono zi)⟩
        by_cases hkk:k'=k
        ·rw[hkk];exact HBB.out
        ·exact HNO.out k' h1 (by omega) h3
       case measure=>simp[intOf];omega
     ·have hodd:=zH (LD HRN.out (fun k' h1 h2 h3=>HNO.out k' h1 (by have:=HRL.out;omega) h3))
      have ba:=af wr (.cells #[.int .i32 65533] 21);have BI:=zH (HB.out.trans (HBI.out.mono zb));have zI:=BI.out.size;have oa:=(HO.out.keep HBI.out).keep ba;obtain⟨s',w4,k4,o4,g4,-⟩:=A7 oa (jm (k:= .i32) wr 21 [65533]) (by simp;omega) (by simp;omega);have b4:=zH (oa.below (BI.out.trans (ba.mono zI)) (by simp;omega) g4);have O4:=zH o4;have k4':(Dm #[u3,.slice (some ⟨wr.heap.size,0,none⟩) 1 1]).run Tryz.prog (wr.alloc (.cells #[.int .i32 65533] 21))= .ok (.value s') w4:=k4;clear oa ba o4 g4 k4
      by_cases hk4:k≤4
      ·have g1:(k:Int)≤4:=by omega
       have g2: ¬(q:Int)+(k:Int)≤(b.length:Int):=by omega
       exact QUe
      ·have g1: ¬(k:Int)≤4:=by omega
       exact QUe
    ·have hl:(R.take n).length=n:=by rw[Pg,HRL.out];omega
     have hil:(ints (R.take n)).length=n:=by simp only[ints,Qe];exact hl
     have hx: ∀x∈ints (R.take n),0≤x∧x≤255:=by
      intro x hx;simp only[ints,QF]at hx;obtain⟨y,_,rfl⟩:=hx;have:=y.toNat_lt;omega
     have hfound:=zH (Gn hn1 (by rw[HRL.out];omega) his);have hvz:=(uk (r:=R) (k:=n) (by rw[HRL.out];omega) his).1;obtain⟨v',hsub,hv'⟩:=HSUB.out n hnl;have hV:=vN (ints (R.take n)) (by omega) (by omega) hx v' wr (By.below hv' HBI.out);obtain⟨z,hz⟩: ∃z,ji (ints (R.take n))=z:=⟨_,rfl⟩;rw[hz]at hV hfound hvz;simp only[vld,PQ]at hvz;have hz0:0≤z:=by omega
     have hz1:z≤1114111:=by omega
     have hVV:=zH hV;have ba:=af wr (.cells #[.int .i32 z] 21);have BI:=zH (HB.out.trans (HBI.out.mono zb));have zI:=BI.out.size;have oa:=(HO.out.keep HBI.out).keep ba;obtain⟨s',w4,k4,o4,g4,-⟩:=A7 oa (jm (k:= .i32) wr 21 [z]) (by simp;omega) (by simp;omega);have b4:=zH (oa.below (BI.out.trans (ba.mono zI)) (by simp;omega) g4);have O4:=zH o4;have k4':(Dm #[u3,.slice (some ⟨wr.heap.size,0,none⟩) 1 1]).run Tryz.prog (wr.alloc (.cells #[.int .i32 z] 21))= .ok (.value s') w4:=k4;have hnz:((n:Int)==0)=false:=by simp;omega
     have hn0: ¬(n:Int)=0:=by omega
     clear oa ba o4 g4 k4 hV hvz hx hil hl hz hv' his
     by_cases hk4:k≤4
     ·have g1:(k:Int)≤4:=by omega
      by_cases hkl:q+k≤b.length
      ·have g2:(q:Int)+(k:Int)≤(b.length:Int):=by omega
       go_wp2_with (go_at_call 78;refine hVV.out.mono ?_;rintro e w' ⟨rfl,rfl⟩)
       go_roundw
       case rel=>
        refine⟨q+n,pre++ [z],by omega,by go_num,O4.out,?_,b4.out⟩;rw[HDR.out n,←HP.out,hfound.out,Pw];rfl
       case measure=>simp[intOf];omega
      ·have g2: ¬(q:Int)+(k:Int)≤(b.length:Int):=by omega
       go_wp2_with (go_at_call 78;refine hVV.out.mono ?_;rintro e w' ⟨rfl,rfl⟩)
       go_roundw
       case rel=>
        refine⟨q+n,pre++ [z],by omega,by go_num,O4.out,?_,b4.out⟩;rw[HDR.out n,←HP.out,hfound.out,Pw];rfl
       case measure=>simp[intOf];omega
     ·have g1: ¬(k:Int)≤4:=by omega
      go_wp2_with (go_at_call 78;refine hVV.out.mono ?_;rintro e w' ⟨rfl,rfl⟩)
      go_roundw
      case rel=>
       refine⟨q+n,pre++ [z],by omega,by go_num,O4.out,?_,b4.out⟩;rw[HDR.out n,←HP.out,hfound.out,Pw];rfl
      case measure=>simp[intOf];omega
  ·obtain rfl:q=b.length:=by omega
   have hpe:pre=dec b:=by
    have:=HP.out;rw[List.drop_length,pE,Pn]at this;exact this
   have HO':=zH (hpe▸HO.out);clear hpe;go_wp2_with fail
   go_ret;exact⟨_,rfl,HO'.out.sl,HB.out⟩
end
end Go.Proofs.YtebabjnngdjceaaGreatDoor
