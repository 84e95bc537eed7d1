/- Words, one by one: strin -/
import Derived.Test.YtebabjnngdjceaaGreatDoorQc
import Derived.Test.YtebabjnngdjceaaGreatDoorV0
set_option linter.unusedVariables false
set_option linter.unusedSimpArgs false
set_option maxRecDepth 100000
set_option maxHeartbeats 4000000
namespace Go.Proofs.YtebabjnngdjceaaGreatDoor
open Go.RowKit
section
attribute [local go_sem] QX
theorem Fb {b:Txt}{i:Nat}{z:UInt8}(hz:b[i]? =some z):((⟨b.toArray⟩:ByteArray).get! i)=z:=by
 show b.toArray[i]! =z;rw[getElem!_def,List.getElem?_toArray,hz]
theorem Fw {b:Txt}{y:UInt8}(hy:b[0]? =some y)(h:y.toNat<128):Lib.decodeGo ⟨b.toArray⟩=(y.toNat,1):=by
 have hp:0<b.length:=(Pw.1 hy).1;show Lib.decodeGoB ⟨b.toArray⟩=_;unfold Lib.decodeGoB;rw[PO (by rw[az];omega),Lib.decode_at];have e:((⟨b.toArray⟩:ByteArray).get! 0)=y:=Fb hy;unfold Lib.decodeN;rw[e,PZ h]
theorem Oj {b:Txt}{y:UInt8}(hy:b[0]? =some y)(h:128≤y.toNat):128≤(Lib.decodeGo ⟨b.toArray⟩).1∧1≤(Lib.decodeGo ⟨b.toArray⟩).2∧(Lib.decodeGo ⟨b.toArray⟩).2≤b.length∧(Lib.decodeGo ⟨b.toArray⟩).1≤1114111∧ ∀i z,i<(Lib.decodeGo ⟨b.toArray⟩).2→b[i]? =some z→rH z=false:=by
 have hp:0<b.length:=(Pw.1 hy).1;have g:∀i z,b[i]? =some z→((⟨b.toArray⟩:ByteArray).get! i)=z:=fun i z hz=>Fb hz
 have hs:∀z:UInt8,128≤z.toNat→rH z=false:=fun z hz=>by
  unfold rH;have h1:z≠32:=fun e=>by rw[e]at hz;revert hz;decide
  have h2:z≠44:=fun e=>by rw[e]at hz;revert hz;decide
  simp[h1,h2]
 have key:∀n b0 b1 b2 b3:Nat,1≤n→128≤b0→b0<256→128≤(Lib.decodeN n b0 b1 b2 b3).1∧1≤(Lib.decodeN n b0 b1 b2 b3).2∧(Lib.decodeN n b0 b1 b2 b3).2≤n∧(Lib.decodeN n b0 b1 b2 b3).2≤4∧
   (2≤(Lib.decodeN n b0 b1 b2 b3).2→128≤b1)∧(3≤(Lib.decodeN n b0 b1 b2 b3).2→128≤b2)∧(4≤(Lib.decodeN n b0 b1 b2 b3).2→128≤b3):=by
  intro n b0 b1 b2 b3 h1 h2 h3;unfold Lib.decodeN;rw[PO (by omega)]
  repeat' split
  all_goals(simp only;omega)
 have h0:Lib.decodeGo ⟨b.toArray⟩=Lib.decodeN (b.length-0) y.toNat ((⟨b.toArray⟩:ByteArray).get! 1).toNat ((⟨b.toArray⟩:ByteArray).get! 2).toNat ((⟨b.toArray⟩:ByteArray).get! 3).toNat:=by
  show Lib.decodeGoB ⟨b.toArray⟩=_;unfold Lib.decodeGoB;rw[PO (by rw[az];omega),Lib.decode_at,az,g 0 y hy]
 have hr:=Lib.decodeN_rune_le (b.length-0) y.toNat ((⟨b.toArray⟩:ByteArray).get! 1).toNat ((⟨b.toArray⟩:ByteArray).get! 2).toNat ((⟨b.toArray⟩:ByteArray).get! 3).toNat (UInt8.toNat_lt y);obtain⟨k1,k2,k3,k4,k5,k6,k7⟩:=key (b.length-0) y.toNat ((⟨b.toArray⟩:ByteArray).get! 1).toNat ((⟨b.toArray⟩:ByteArray).get! 2).toNat ((⟨b.toArray⟩:ByteArray).get! 3).toNat (by omega) h (UInt8.toNat_lt y);rw[←h0]at k1 k2 k3 k4 k5 k6 k7 hr;refine⟨k1,k2,by omega,hr,fun i z hi hz=>hs z ?_⟩;have hc:i=0∨i=1∨i=2∨i=3:=by omega
 rcases hc with rfl | rfl | rfl | rfl
 ·rw[hy]at hz;cases hz;exact h
 ·have:=k5 (by omega);rwa [g 1 z hz]at this
 ·have:=k6 (by omega);rwa [g 2 z hz]at this
 ·have:=k7 (by omega);rwa [g 3 z hz]at this
theorem WAt.skip {b:Txt}{acc:List Txt}:∀(n j:Nat) (x:Txt),WAt b j acc x→j+n≤b.length→(∀i z,i<n→b[j+i]? =some z→rH z=false)→WAt b (j+n) acc (x++(b.drop j).take n)
 | 0,j,x,h,_,_=>by simpa using h
 | n+1,j,x,h,hl,hs=>by
  obtain⟨y,hy⟩:∃y,b[j]? =some y:=⟨b[j]'(by omega),Pz _⟩;have h1:=h.next hy (hs 0 y (by omega) (by simpa using hy));have h2:=WAt.skip n (j+1) (x++ [y]) h1 (by omega) (fun i z hi hz=>hs (i+1) z (by omega) (by rw[←hz];congr 1;omega));have e1:j+1+n=j+(n+1):=by omega
  have e2:x++ [y]++(b.drop (j+1)).take n=x++(b.drop j).take (n+1):=by
   rw[fo hy,List.take_succ_cons];simp
  rw[e1,e2]at h2;exact h2
def Suf (b:Txt)(j:Nat)(x:Txt):Prop:=x.length≤j∧(b.take j).drop (j-x.length)=x
theorem Suf.nil (b:Txt)(j:Nat)(h:j≤b.length):Suf b j []:=⟨P6 _,by simp⟩
theorem Suf.more {b:Txt}{j:Nat}{x:Txt}(h:Suf b j x){n:Nat}(hn:j+n≤b.length):Suf b (j+n) (x++(b.drop j).take n):=by
 obtain⟨h1,h2⟩:=h;have hl:((b.drop j).take n).length=n:=by rw[PW,PU];omega
 refine⟨by rw[PL,hl];omega,?_⟩;rw[PL,hl];have e:j+n-(x.length+n)=j-x.length:=by omega
 have e2:b.take (j+n)=b.take j++(b.drop j).take n:=by
  rw[List.take_add]
 rw[e,e2,List.drop_append_of_le_length (by rw[PW];omega),h2]
def zk (x:Txt):Array Value:= #[.string ⟨x.toArray⟩]
def wst (j:Nat)(x:Txt):Int:=if x=[] then-1 else(j:Int)-x.length
theorem zI (r:Int)(w:World):Calls Tryz.prog 223 #[.int .i32 r] w fun e w'=>e=.returned (.bool (r==32 || r==44))∧w=w':=by
 by_cases h:r=32
 ·subst h
  go_enter Tryz.func223,Tryz.ntmps223
  go_wp2_with fail
  go_ret;exact⟨rfl,rfl⟩
 ·have h1:(r==32)=false:=by simpa using h
  rw[h1];go_enter Tryz.func223,Tryz.ntmps223
  go_wp2_with fail
  go_ret;exact⟨rfl,rfl⟩
theorem wG (b:Txt)(w:World):Calls Tryz.prog 195 #[.string ⟨b.toArray⟩] w fun e w'=>
  e=.returned (.func (.func 240) #[] #[.pointer (some ⟨w.heap.size,0,none⟩),.pointer (some ⟨w.heap.size+1,0,none⟩)])∧
  ((w.alloc (.cells #[.string ⟨b.toArray⟩] 9)).alloc (.cells #[.func (.func 223) #[] #[]] 110))=w':=by
 have hmf:∀(fn:Fn) (first cap:Array Value) (w:World),(Instr.makeFunc fn first cap).run Tryz.prog w=.ok (.func fn first cap) w:=fun _ _ _ _=>rfl
 have F1:Hid (∀W,Calls Tryz.prog 224 #[.string ⟨b.toArray⟩,.func (.func 223) #[] #[]] W fun e w'=>
  e=.returned (.func (.func 240) #[] #[.pointer (some ⟨W.heap.size,0,none⟩),.pointer (some ⟨W.heap.size+1,0,none⟩)])∧
  ((W.alloc (.cells #[.string ⟨b.toArray⟩] 9)).alloc (.cells #[.func (.func 223) #[] #[]] 110))=w'):=zH fun W=>by
  go_enter Tryz.func224,Tryz.ntmps224
  go_wp2_with fail
  go_ret;exact⟨rfl,rfl⟩
 go_enter Tryz.func195,Tryz.ntmps195
 go_wp2_with (go_at_call 224;refine(F1.out _).mono ?_;rintro e w1 ⟨rfl,rfl⟩)
 go_ret;exact⟨rfl,rfl⟩
end
theorem ug {α:Type}{e n base:Nat}{f:α→List Value}{W:World}{x:Value}{l:List α}(h:ag e n f base W x l){b e':Nat}{C:List Value}(hb:Blk W b e' C)(he:e≠e'):x.ownBlock≠some b:=by
 intro hx;obtain⟨-,cur,hc⟩:=h.ty hx;have hb':W.heap[b]? =some (.cells C.toArray e' (0,0)):=hb;rw[hb']at hc;injection hc with hc
 injection hc with _ h2 _
 exact he h2.symm
section
attribute [local go_sem] QX
theorem uZ (m C:Nat)(b:Txt)(J:List Txt→World→Prop)(hb:b.length≤100000)(hJb:∀p A A',J p A→Below A.heap.size A A'→J p A')
  (hJr:∀p W,J p W→Blk W C 9 [.string ⟨b.toArray⟩]∧Blk W (C+1) 110 [.func (.func 223) #[] #[]]∧U8 W):
  Ov Fence.wide m Tryz.prog 240 #[.pointer (some ⟨C,0,none⟩),.pointer (some ⟨C+1,0,none⟩)] zk (fun _ _=>True) (fun p x=>p++ [x]) J (fun p x W=>J p W∧(p++ [x])<+:dz b) (J (dz b)) []:=by
 intro l K Kx W1 hK hY h0 hk0;have hsz:=az b;have HR:=zH hJr;have HB:=zH hJb;have H0:=zH h0;have HK0:=zH hk0;have HK:=zH hK;have HY:=zH hY;have kob:Hid (∀A A',K A→Below A.heap.size A A'→K A'):=zH fun A A' h q=>hK A A' h ⟨q.size,fun k o hk _=>(q.block k (Py.1 hk).1).trans hk⟩
 clear hJr hJb h0 hk0 hK hY;refine callsIn_of_wp Tryz.func240 rfl trivial ?_ rfl;simp only[Tryz.ntmps240,Q0,PI,PQ,Nat.reduceAdd,Nat.reduceSub,QT,QS,Q5,QU,Qt,Qe]
 gi_wp2_with fail
 gi_loopw [4,5] (fun st i wr=> ∃(j:Nat) (acc:List Txt) (x:Txt),st=.int .i64 (wst j x)∧i=.int .i64 (j:Int)∧j≤b.length∧Hid (WAt b j acc x)∧Hid (Suf b j x)∧Hid (J acc wr)∧Hid (K wr)) (fun _ i _=>b.length-(intOf i).toNat)
 case atStart=>exact⟨0,[],[],rfl,rfl,by omega,zH (WAt.start b),zH (Suf.nil b 0 (by omega)),H0,HK0⟩
 case round=>
  obtain⟨j,acc,x,rfl,rfl,hj,HW,HS,HJ,HKW⟩:=hrel;obtain⟨r0,r1,rU⟩:=HR.out _ _ HJ.out;have q0:wr.cell? ⟨C,0,none⟩=some (.string ⟨b.toArray⟩):=r0.cell 0;have q1:wr.cell? ⟨C+1,0,none⟩=some (.func (.func 223) #[] #[]):=r1.cell 0;have hxl:=HW.out.xl
  by_cases hlt:j<b.length
  ·have hlt':(j:Int)<(b.length:Int):=by omega
   obtain⟨y,hy⟩:∃y,b[j]? =some y:=⟨b[j],Pz hlt⟩;have hy0:(b.drop j)[0]? =some y:=by rw[QE];simpa using hy
   have k0:=dR b j (by omega);have D0:=fun W hU=>zL (b.drop j) W hU
   by_cases hs:rH y=true
   ·have hs':y=32∨y=44:=by simpa[rH] using hs
    have hyl:y.toNat<128:=by rcases hs' with rfl | rfl<;>decide
    rw[Fw hy0 hyl]at D0;obtain⟨R,hR⟩:∃R:Int,((y.toNat:Nat):Int)=R:=⟨_,rfl⟩;simp only at D0;rw[hR]at D0;have hRs:(R==32 || R==44)=true:=by rw[←hR];rcases hs' with rfl | rfl<;>decide
    have S0:=fun W=>zI R W
    rw[hRs]at S0;have D1:=zH (fun W hU=>Qb (n:=m-1)|>.2 (D0 W hU));have S1:=zH (fun W=>Qb (n:=m-1)|>.2 (S0 W));obtain⟨dj,hdj⟩:∃dj,b.drop j=dj:=⟨_,rfl⟩;rw[hdj]at k0 D1;clear D0 S0 hR hRs hdj hy0 hyl hs'
    by_cases hx:x=[]
    ·subst hx
     have hst:wst j []= -1:=rfl;rw[hst];have HN:=zH (HW.out.sep0 hy hs);clear hy hs
     gi_wp2_with (first
      | (refine⟨trivial,fun h=>(by cases h),?_⟩;gi_at_call 139;refine(D1.out _ rU).mono ?_;rintro e w1 ⟨rfl,hb1⟩;have HJ1:=zH (HB.out _ _ _ HJ.out hb1);have HK1:=zH (kob.out _ _ HKW.out hb1);obtain⟨t0,t1,tU⟩:=HR.out _ _ HJ1.out;have q0':w1.cell? ⟨C,0,none⟩=some (.string ⟨b.toArray⟩):=t0.cell 0;have q1':w1.cell? ⟨C+1,0,none⟩=some (.func (.func 223) #[] #[]):=t1.cell 0;clear hb1)
      | (refine⟨trivial,fun h=>(by cases h),?_⟩;gi_at_call 223;refine(S1.out _).mono ?_;rintro e w2 ⟨rfl,rfl⟩))
     go_roundw
     case rel=>exact⟨j+1,acc,[],by rw[show wst (j+1) []= -1 from rfl],by go_num,by omega,HN,zH (Suf.nil b _ (by omega)),HJ1,HK1⟩
     case measure=>simp[intOf];omega
    ·obtain⟨s0,hs0⟩:∃s0:Nat,j-x.length=s0:=⟨_,rfl⟩
     have hst:wst j x=(s0:Int):=by unfold wst;rw[PO hx];omega
     rw[hst];have k1:=EA b s0 j (by omega) (by omega);have hsx:(b.drop s0).take (j-s0)=x:=by rw[←List.drop_take,←hs0];exact HS.out.2
     rw[hsx]at k1;have hge:(0:Int)≤(s0:Int):=by omega
     have HN:=zH (HW.out.sep1 hx hy hs);have HP:Hid (acc++ [x]<+:dz b):=zH ⟨_,HN.out.eq.symm⟩;clear hy hs hsx hst
     gi_wp2_with (first
      | (refine⟨trivial,fun h=>(by cases h),?_⟩;gi_at_call 139;refine(D1.out _ rU).mono ?_;rintro e w1 ⟨rfl,hb1⟩;have HJ1:=zH (HB.out _ _ _ HJ.out hb1);have HK1:=zH (kob.out _ _ HKW.out hb1);obtain⟨t0,t1,tU⟩:=HR.out _ _ HJ1.out;have q0':w1.cell? ⟨C,0,none⟩=some (.string ⟨b.toArray⟩):=t0.cell 0;have q1':w1.cell? ⟨C+1,0,none⟩=some (.func (.func 223) #[] #[]):=t1.cell 0;obtain⟨fn,tmps,assign,body,hy,hRd⟩:=HY.out acc x w1 ⟨HJ1.out,HP.out⟩ HK1.out;have hy':(Instr.yield l #[.string ⟨x.toArray⟩]).run Tryz.prog w1=.ok (.round l fn tmps assign body) w1:=hy;have HRR:=zH hRd;clear hb1 hy hRd)
      | (refine⟨trivial,fun h=>(by cases h),?_⟩;gi_at_call 223;refine(S1.out _).mono ?_;rintro e w2 ⟨rfl,rfl⟩))
     refine⟨fun h=>(by cases h),?_⟩;refine HRR.out.mono ?_;rintro e W3 (⟨rfl,hj3,hk3,-⟩| ⟨rfl,hx3⟩)
     ·have HJ3:=zH hj3
      have HK3:=zH hk3;clear hj3 hk3 HRR HY hy'
      gi_wp2_with fail
      go_roundw
      case rel=>exact⟨j+1,acc++ [x],[],by rw[show wst (j+1) []= -1 from rfl],by go_num,by omega,HN,zH (Suf.nil b _ (by omega)),HJ3,HK3⟩
      case measure=>simp[intOf];omega
     ·have HX3:=zH hx3
      clear hx3 HRR HY hy'
      gi_wp2_with fail
      refine Qi (RP rfl _ _ _) rfl ?_;exact⟨⟨_,rfl⟩,.inr HX3.out⟩
   ·have hs0:rH y=false:=by simpa using hs
    obtain⟨R,n,hdec,hR1,hR2,hn1,hn2,hsk⟩:∃(R:Int) (n:Nat),(((Lib.decodeGo ⟨(b.drop j).toArray⟩).1:Int)=R∧(Lib.decodeGo ⟨(b.drop j).toArray⟩).2=n)∧R≠32∧R≠44∧1≤n∧j+n≤b.length∧ ∀i z,i<n→b[j+i]? =some z→rH z=false:=by
     by_cases hyl:y.toNat<128
     ·rw[Fw hy0 hyl]
      have h1:y≠32:=fun e=>by rw[e]at hs0;revert hs0;decide
      have h2:y≠44:=fun e=>by rw[e]at hs0;revert hs0;decide
      refine⟨_,_,⟨rfl,rfl⟩,fun e=>h1 ?_,fun e=>h2 ?_,Px _,by omega,fun i z hi hz=>?_⟩
      ·apply Rt.1;simp only at e;have:(32:UInt8).toNat=32:=rfl;omega
      ·apply Rt.1;simp only at e;have:(44:UInt8).toNat=44:=rfl;omega
      ·obtain rfl:i=0:=by simp only at hi;omega
       rw[Qr,hy]at hz
       cases hz
       exact hs0
     ·obtain⟨h1,h2,h3,-,h5⟩:=Oj hy0 (by omega)
      rw[PU]at h3;refine⟨_,_,⟨rfl,rfl⟩,by omega,by omega,h2,by omega,fun i z hi hz=>h5 i z hi (by rw[QE];exact hz)⟩
    have D1:Hid (∀W,U8 W→CallsIn Fence.wide (m-1) Tryz.prog 139 #[.string ⟨(b.drop j).toArray⟩] W fun e w'=>e=.returned (.tuple #[.int .i32 R,.int .i64 (n:Int)])∧Below W.heap.size W w'):=zH (fun W hU=>Qb.2 (by
     have h:=D0 W hU;rw[hdec.1,hdec.2]at h;exact h))
    have hRs:(R==32 || R==44)=false:=by simp[hR1,hR2]
    have S0:=fun W=>zI R W
    rw[hRs]at S0;have S1:=zH (fun W=>Qb (n:=m-1)|>.2 (S0 W));have HN:=zH (WAt.skip n j x HW.out hn2 hsk);have HF:=zH (HS.out.more hn2);obtain⟨x',hx'⟩:∃x',x++(b.drop j).take n=x':=⟨_,rfl⟩;have hxl':x'.length=x.length+n:=by rw[←hx',PL,PW,PU];omega
    have hx0:x'≠ []:=fun e=>by rw[e]at hxl';simp at hxl';omega
    rw[hx']at HN HF;obtain⟨dj,hdj⟩:∃dj,b.drop j=dj:=⟨_,rfl⟩;rw[hdj]at k0 D1;have hw1:IntKind.i64.wrap ((j:Int)+(n:Int))=(j:Int)+(n:Int):=gU (by omega) (by omega);have hst':wst (j+n) x'=(j:Int)-x.length:=by unfold wst;rw[PO hx0];omega
    have HST:=zH hst';clear D0 S0 hRs hdec hR1 hR2 hsk hx' hdj hy0 hs0 hs hy hst' hx0
    by_cases hx:x=[]
    ·subst hx
     have hst:wst j []= -1:=rfl;rw[hst]
     gi_wp2_with (first
      | (refine⟨trivial,fun h=>(by cases h),?_⟩;gi_at_call 139;refine(D1.out _ rU).mono ?_;rintro e w1 ⟨rfl,hb1⟩;have HJ1:=zH (HB.out _ _ _ HJ.out hb1);have HK1:=zH (kob.out _ _ HKW.out hb1);obtain⟨t0,t1,tU⟩:=HR.out _ _ HJ1.out;have q0':w1.cell? ⟨C,0,none⟩=some (.string ⟨b.toArray⟩):=t0.cell 0;have q1':w1.cell? ⟨C+1,0,none⟩=some (.func (.func 223) #[] #[]):=t1.cell 0;clear hb1)
      | (refine⟨trivial,fun h=>(by cases h),?_⟩;gi_at_call 223;refine(S1.out _).mono ?_;rintro e w2 ⟨rfl,rfl⟩))
     go_roundw
     case rel=>exact⟨j+n,acc,x',by rw[HST.out];simp,by go_num,by omega,HN,HF,HJ1,HK1⟩
     case measure=>simp[intOf];omega
    ·obtain⟨s0,hs0⟩:∃s0:Nat,j-x.length=s0:=⟨_,rfl⟩
     have hst:wst j x=(s0:Int):=by unfold wst;rw[PO hx];omega
     rw[hst];have hge:¬(s0:Int)<0:=by omega
     clear hst hx
     gi_wp2_with (first
      | (refine⟨trivial,fun h=>(by cases h),?_⟩;gi_at_call 139;refine(D1.out _ rU).mono ?_;rintro e w1 ⟨rfl,hb1⟩;have HJ1:=zH (HB.out _ _ _ HJ.out hb1);have HK1:=zH (kob.out _ _ HKW.out hb1);obtain⟨t0,t1,tU⟩:=HR.out _ _ HJ1.out;have q0':w1.cell? ⟨C,0,none⟩=some (.string ⟨b.toArray⟩):=t0.cell 0;have q1':w1.cell? ⟨C+1,0,none⟩=some (.func (.func 223) #[] #[]):=t1.cell 0;clear hb1)
      | (refine⟨trivial,fun h=>(by cases h),?_⟩;gi_at_call 223;refine(S1.out _).mono ?_;rintro e w2 ⟨rfl,rfl⟩))
     go_roundw
     case rel=>exact⟨j+n,acc,x',by rw[HST.out];congr 1;omega,by go_num,by omega,HN,HF,HJ1,HK1⟩
     case measure=>simp[intOf];omega
  ·obtain rfl:j=b.length:=by omega
   by_cases hx:x=[]
   ·subst hx
    have hst:wst b.length []= -1:=rfl;rw[hst];have HF:=zH HW.out.fin0;clear HW
    gi_wp2_with fail
    go_end0;exact⟨⟨_,rfl⟩,.inl ⟨by rw[HF.out];exact HJ.out,HKW.out⟩⟩
   ·obtain⟨s0,hs0⟩:∃s0:Nat,b.length-x.length=s0:=⟨_,rfl⟩
    have hst:wst b.length x=(s0:Int):=by unfold wst;rw[PO hx];omega
    rw[hst];have k1:=dR b s0 (by omega);have hsx:b.drop s0=x:=by
     have h:=HS.out.2;rw[Qa,hs0]at h;exact h
    rw[hsx]at k1;have hge:(0:Int)≤(s0:Int):=by omega
    have HF:=zH (HW.out.fin1 hx);obtain⟨fn,tmps,assign,body,hy,hRd⟩:=HY.out acc x wr ⟨HJ.out,⟨[],by rw[HF.out];simp⟩⟩ HKW.out;have hy':(Instr.yield l #[.string ⟨x.toArray⟩]).run Tryz.prog wr=.ok (.round l fn tmps assign body) wr:=hy;have HRR:=zH hRd;clear hy hRd hsx hst HW
    gi_wp2_with fail
    refine⟨fun h=>(by cases h),?_⟩;refine HRR.out.mono ?_;rintro e W3 (⟨rfl,hj3,hk3,-⟩| ⟨rfl,hx3⟩)
    ·have HJ3:=zH hj3
     have HK3:=zH hk3;clear hj3 hk3 HRR HY hy'
     gi_wp2_with fail
     go_end0;exact⟨⟨_,rfl⟩,.inl ⟨by rw[HF.out];exact HJ3.out,HK3.out⟩⟩
    ·have HX3:=zH hx3
     clear hx3 HRR HY hy'
     gi_wp2_with fail
     go_end0;exact⟨⟨_,rfl⟩,.inr HX3.out⟩
end
end Go.Proofs.YtebabjnngdjceaaGreatDoor
