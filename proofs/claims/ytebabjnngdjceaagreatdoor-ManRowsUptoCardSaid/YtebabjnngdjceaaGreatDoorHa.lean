/- A rune that is named: by -/
import Derived.Test.YtebabjnngdjceaaGreatDoorBm
set_option linter.unusedVariables false
set_option linter.unusedSimpArgs false
set_option maxRecDepth 100000
set_option maxHeartbeats 4000000
namespace Go.Proofs.YtebabjnngdjceaaGreatDoor
open Go.RowKit
theorem OI {k:IntKind}{a b:Int}{x y:Bool}(h:a=b)(h2:x=y):Ending.returned (.tuple #[.int k a,.bool x])=.returned (.tuple #[.int k b,.bool y]):=by rw[h,h2]
theorem FO {c d:Int}(h:mH c=some d):0≤d∧d≤15:=by
 unfold mH at h
 split at h
 ·cases h;omega
 ·split at h
  ·cases h;omega
  ·cases h
theorem IX (c:Int)(h0:0≤c)(h1:c≤2147483647)(w:World):Calls Tryz.prog 231 #[.int .i32 c] w fun e w'=>e=.returned (.tuple #[.int .i32 ((mH c).getD 0),.bool (mH c).isSome])∧w=w':=by
 obtain⟨H,hH⟩:∃H,mH c=H:=⟨_,rfl⟩;rw[hH]
 by_cases a:48≤c∧c≤57
 ·have e:H=some (c-48):=by rw[←hH];unfold mH;rw[QP a]
  obtain⟨a1,a2⟩:=a;subst e;clear hH;simp only[Sj,RZ];go_enter Tryz.func231,Tryz.ntmps231
  go_wp2
  go_ret2
  exact⟨rfl,rfl⟩
 ·by_cases b:65≤c∧c≤70
  ·have e:H=some (c-55):=by rw[←hH];unfold mH;rw[QG a,QP b]
   obtain⟨b1,b2⟩:=b;have a3:¬c≤57:=by omega
   have a1:48≤c:=by omega
   subst e;clear hH a;simp only[Sj,RZ];go_enter Tryz.func231,Tryz.ntmps231
   go_wp2
   go_ret2
   exact⟨OI (by omega) rfl,rfl⟩
  ·have e:H=none:=by rw[←hH];unfold mH;rw[QG a,QG b]
   subst e;clear hH;simp only[RL,RF]
   by_cases a1:48≤c
   ·have a2:¬c≤57:=fun h=>a ⟨a1,h⟩
    clear a
    by_cases b1:65≤c
    ·have b2:¬c≤70:=fun h=>b ⟨b1,h⟩
     clear b;go_enter Tryz.func231,Tryz.ntmps231
     go_wp2
     go_ret2
     exact⟨rfl,rfl⟩
    ·clear b
     go_enter Tryz.func231,Tryz.ntmps231
     go_wp2
     go_ret2
     exact⟨rfl,rfl⟩
   ·have b1:¬65≤c:=by omega
    clear a b;go_enter Tryz.func231,Tryz.ntmps231
    go_wp2
    go_ret2
    exact⟨rfl,rfl⟩
theorem Bl {b:List UInt8}(h:b.length<5):numOf b=none:=by unfold numOf;rw[QP (.inl h)]
theorem DC {b:List UInt8}(h:7<b.length):numOf b=none:=by unfold numOf;rw[QP (.inr (.inl h))]
theorem Bn {b:List UInt8}(h:b.head? ≠some 117):numOf b=none:=by unfold numOf;rw[QP (.inr (.inr h))]
theorem Ha {b:List UInt8}(h1:5≤b.length)(h2:b.length≤7)(h3:b.head?=some 117):numOf b=match zN b.tail 0 with
  | none=>none
  | some n=>if vld n=true∧ctl n=false then some n else none:=by
 have hn:¬(b.length<5∨7<b.length∨b.head? ≠some 117):=by
  rintro(h | h | h)
  ·omega
  ·omega
  ·exact h h3
 unfold numOf;rw[QG hn]
 cases zN b.tail 0<;>rfl
theorem qU {c:Int}(h:128≤c):mH c=none:=by unfold mH;rw[QG (by omega),QG (by omega)]
structure kQ (T:List UInt8)(R:Option Int)(pos:Nat)(acc:Int):Prop where
 le:pos≤T.length
 eq:zN (T.drop pos) acc=R
 lo:0≤acc
 hi:acc<16 ^ pos
theorem kQ.start (T:List UInt8):kQ T (zN T 0) 0 0:=⟨by omega,by simp,by omega,by simp⟩
theorem kQ.done {T:List UInt8}{R:Option Int}{acc:Int}{pos:Nat}(h:kQ T R pos acc)(hp:T.length≤pos):R=some acc:=by
 have h1:=h.eq;rw[Tv hp]at h1;exact h1.symm
theorem kQ.next {T:List UInt8}{R:Option Int}{acc:Int}{pos:Nat}(h:kQ T R pos acc){x:UInt8}(hx:T[pos]? =some x){d:Int}(hd:mH (x.toNat:Int)=some d):kQ T R (pos+1) (acc*16+d):=by
 obtain⟨hp,hx'⟩:=Qu.1 hx;have h1:=h.eq;have hb:=FO hd;have lo:=h.lo;have hi:=h.hi;rw[Rl hp,hx']at h1;unfold zN at h1;rw[hd]at h1;refine⟨hp,h1,by omega,?_⟩;rw[Int.pow_succ];omega
theorem kQ.none {T:List UInt8}{R:Option Int}{acc:Int}{pos:Nat}(h:kQ T R pos acc){x:UInt8}(hx:T[pos]? =some x)(hd:mH (x.toNat:Int)=none):R=Option.none:=by
 obtain⟨hp,hx'⟩:=Qu.1 hx;have h1:=h.eq;rw[Rl hp,hx']at h1;unfold zN at h1;rw[hd]at h1;exact h1.symm
theorem kQ.room {T:List UInt8}{R:Option Int}{acc:Int}{pos:Nat}(h:kQ T R pos acc)(hp:pos≤5):acc<1048576:=by
 have hi:=h.hi;have:(16:Int)^ pos≤16 ^ 5:=by
  have:=Nat.pow_le_pow_right (n:=16) (by omega) hp
  exact_mod_cast this
 have e:(16:Int)^ 5=1048576:=by decide
 omega
theorem dX (b:List UInt8)(i:Nat)(x:UInt8)(h:b[i]? =some x)(w:World):(Instr.index 9 (.string ⟨b.toArray⟩) (.int .i64 (i:Int))).run Tryz.prog w=.ok (.int .u8 (x.toNat:Int)) w:=by
 obtain⟨hi,hx⟩:=Qu.1 h;have hsz:(⟨b.toArray⟩:ByteArray).size=b.length:=by simp[Go.Lib.size_eq]
 rw[run_index_string w 9 _ .i64 (i:Int) Tryz.underlying9,dif_pos ⟨by omega,by rw[hsz];omega⟩];have e:(⟨b.toArray⟩:ByteArray)[((i:Int)).toNat]'(by rw[hsz];omega)=x:=by
  show b.toArray[((i:Int)).toNat]'_=x;simp only[Su,List.getElem_toArray];exact hx
 rw[e]
theorem dQ (b:List UInt8)(i:Nat)(h:i≤b.length)(w:World):(Instr.slice 9 (.string ⟨b.toArray⟩) (some (.int .i64 (i:Int))) none none).run Tryz.prog w=.ok (.string ⟨(b.drop i).toArray⟩) w:=by
 have hsz:(⟨b.toArray⟩:ByteArray).size=b.length:=by simp[Go.Lib.size_eq]
 rw[run_slice_string_from_if w 9 _ .i64 (i:Int) Tryz.underlying9,QP ⟨by omega,by rw[hsz];omega⟩,hsz,ByteArray.extract_mk];simp only[Su];rw[RD (by simp)]
theorem yM (b:List UInt8)(i j:Nat)(hi:i≤j)(h:j≤b.length)(w:World):(Instr.slice 9 (.string ⟨b.toArray⟩) (some (.int .i64 (i:Int))) (some (.int .i64 (j:Int))) none).run Tryz.prog w=.ok (.string ⟨((b.drop i).take (j-i)).toArray⟩) w:=by
 have hsz:(⟨b.toArray⟩:ByteArray).size=b.length:=by simp[Go.Lib.size_eq]
 rw[run_slice_string w 9 _ .i64 .i64 (i:Int) (j:Int) Tryz.underlying9 (by omega) (by omega) (by rw[hsz];omega),ByteArray.extract_mk];simp only[Su]
theorem Nk (T:List UInt8)(pos:Nat)(x:UInt8)(hx:T[pos]? =some x)(w:World):
  ∃(c:Int) (k:Nat),(∀ty,(Instr.next (.pointer (some ⟨w.heap.size,0,none⟩)) true ty).run Tryz.prog (w.iter ⟨T.toArray⟩ pos)=.ok (.tuple #[.bool true,.int .i64 (pos:Int),.int .i32 c]) (w.iter ⟨T.toArray⟩ (pos+k)))∧
   0≤c∧c≤2147483647∧mH c=mH (x.toNat:Int)∧((mH c).isSome=true→k=1):=by
 obtain⟨hp,hx'⟩:=Qu.1 hx;have hsz:(⟨T.toArray⟩:ByteArray).size=T.length:=by simp[Go.Lib.size_eq]
 have hps:pos<(⟨T.toArray⟩:ByteArray).size:=by rw[hsz];exact hp
 have e:(⟨T.toArray⟩:ByteArray)[pos]'hps=x:=by
  show T.toArray[pos]'_=x;simp only[List.getElem_toArray];exact hx'
 by_cases ha:x.toNat<128
 ·refine⟨(x.toNat:Int),1,fun ty=>?_,by omega,by omega,rfl,fun _=>rfl⟩
  have:=run_next_ascii (P:=Tryz.prog) w ⟨T.toArray⟩ pos ty hps (by rw[e];exact ha);rw[e]at this;exact this
 ·have hd:=decode_high ⟨T.toArray⟩ pos hps (by rw[e];omega)
  have hle:=decode_le ⟨T.toArray⟩ pos;refine⟨((Utf8.decode ⟨T.toArray⟩ pos).1:Int),(Utf8.decode ⟨T.toArray⟩ pos).2,fun ty=>run_next_any w _ pos ty hps,by omega,by omega,?_,fun h=>?_⟩
  ·rw[qU (by omega),qU (by omega)]
  ·rw[qU (by omega)]at h
   cases h
theorem zm (b:List UInt8)(w:World)(h1:5≤b.length)(h2:b.length≤7)(h3:b.head?=some 117):
  Calls Tryz.prog 207 #[.string ⟨b.toArray⟩] w fun e w'=>e=.returned (.tuple #[.int .i32 ((numOf b).getD 0),.bool (numOf b).isSome])∧zB w w':=by
 have HN:=zH (Ha h1 h2 h3);obtain⟨N,hN⟩:∃N,numOf b=N:=⟨_,rfl⟩;rw[hN]at HN⊢;clear hN;have hsz:(⟨b.toArray⟩:ByteArray).size=b.length:=by simp[Go.Lib.size_eq]
 have k0:=dX b 0 117 (by cases b with | nil=>cases h3 | cons x r=>simpa using h3);have k1:=dQ b 1 (by omega);have k0':∀w,(Instr.index 9 (.string ⟨b.toArray⟩) (.int .i64 0)).run Tryz.prog w=.ok (.int .u8 117) w:=k0;have k1':∀w,(Instr.slice 9 (.string ⟨b.toArray⟩) (some (.int .i64 1)) none none).run Tryz.prog w=.ok (.string ⟨(b.drop 1).toArray⟩) w:=k1;have hdl:(b.drop 1).length=b.length-1:=by simp
 have HS:=zH (kQ.start (b.drop 1));rw[show b.tail=b.drop 1 by simp]at HN;obtain⟨R,hR⟩:∃R,zN (b.drop 1) 0=R:=⟨_,rfl⟩;rw[hR]at HN HS;obtain⟨T,hT⟩:∃T,b.drop 1=T:=⟨_,rfl⟩;rw[hT]at HS hdl k1';have HNX:=zH (fun pos x hx=>Nk T pos x hx w);have HNE:=zH (fun pos (h:¬pos<(⟨T.toArray⟩:ByteArray).size) ty=>run_next_end (P:=Tryz.prog) w ⟨T.toArray⟩ pos ty h);have hTz:(⟨T.toArray⟩:ByteArray).size=T.length:=by simp[Go.Lib.size_eq]
 have hl1:¬(b.length:Int)<5:=by omega
 have hl2:¬(7:Int)<(b.length:Int):=by omega
 clear h3 k0 k1 hR hT;go_enter Tryz.func207,Tryz.ntmps207
 go_wp2_with fail
 go_loopw [4] (fun n wr=> ∃(pos:Nat) (acc:Int),wr=w.iter ⟨T.toArray⟩ pos∧n=.int .i32 acc∧kQ T R pos acc) (fun _ wr=>T.length-wr.iterPos w.heap.size)
 case atStart=>exact⟨0,0,rfl,rfl,HS.out⟩
 case round=>
  obtain⟨pos,acc,rfl,rfl,hh⟩:=hrel;have HH:=zH hh;have lo:=hh.lo;have ple:=hh.le
  by_cases hp:pos<T.length
  ·have hroom:=hh.room (by omega)
   obtain⟨x,hx⟩:∃x,T[pos]? =some x:=⟨T[pos],Qw hp⟩;obtain⟨c,k,hnx,c0,c1,hc,hk⟩:=HNX.out pos x hx;have HX:=zH hx;have HD:=zH (IX c c0 c1);rw[hc]at HD hk
   cases hd:mH (x.toNat:Int)with
   | none=>
    rw[hd]at HD;have hR:=HH.out.none HX.out hd;have HN':=HN.out;rw[hR]at HN';simp only at HN';subst HN';simp only[RL,RF]at HD⊢;clear hd hc hk hR HH hh hx HN HNX HNE;go_wp2_with (go_at_call 231;refine(HD.out _).mono ?_;rintro e w' ⟨rfl,rfl⟩)
    go_ret2
    exact⟨rfl,(QA _ _).alloc (Qv _) _⟩
   | some d=>
    rw[hd]at HD hk;obtain rfl:=hk rfl;have hb:=FO hd;have HH':=zH (HH.out.next HX.out hd);simp only[Sj,RZ]at HD;clear hd hc hk HH hh hx HNX HNE;go_wp2_with (go_at_call 231;refine(HD.out _).mono ?_;rintro e w' ⟨rfl,rfl⟩)
    go_roundw
    case rel=>exact⟨pos+1,_,rfl,rfl,HH'.out⟩
    case measure=>simp;omega
  ·have hnx:=HNE.out pos (by omega)
   have hR:=HH.out.done (by omega);have HN':=HN.out;rw[hR]at HN';simp only at HN';have V1:=zH (fun W=>Gl acc W);have V2:=zH (fun W=>rP acc W);obtain⟨b1,e1⟩:∃b,vld acc=b:=⟨_,rfl⟩;obtain⟨b2,e2⟩:∃b,ctl acc=b:=⟨_,rfl⟩;rw[e1]at V1;rw[e2]at V2;rw[e1,e2]at HN';clear e1 e2 hR hh HH HN HNX HNE
   cases b1<;>cases b2
   all_goals
    simp at HN';subst HN'
    try simp only[RL,RF,Sj,RZ]
    go_wp2_with (first
     | (go_at_call 232;refine(V1.out _).mono ?_;rintro e w' ⟨rfl,rfl⟩)
     | (go_at_call 102;refine(V2.out _).mono ?_;rintro e w' ⟨rfl,rfl⟩))
    go_ret2
    exact⟨rfl,(QA _ _).alloc (Qv _) _⟩
theorem zn (b:List UInt8)(w:World)(hb:b.length≤maxLen):
  Calls Tryz.prog 207 #[.string ⟨b.toArray⟩] w fun e w'=>e=.returned (.tuple #[.int .i32 ((numOf b).getD 0),.bool (numOf b).isSome])∧zB w w':=by
 have hsz:(⟨b.toArray⟩:ByteArray).size=b.length:=by simp[Go.Lib.size_eq]
 by_cases h1:b.length<5
 ·rw[Bl h1]
  have hl:(b.length:Int)<5:=by omega
  simp only[RL,RF];go_enter Tryz.func207,Tryz.ntmps207
  go_wp2
  go_ret2
  exact⟨rfl,QA _ _⟩
 ·by_cases h2:7<b.length
  ·rw[DC h2]
   have hl:¬(b.length:Int)<5:=by omega
   have hl2:(7:Int)<(b.length:Int):=by omega
   simp only[RL,RF];go_enter Tryz.func207,Tryz.ntmps207
   go_wp2
   go_ret2
   exact⟨rfl,QA _ _⟩
  ·by_cases h3:b.head?=some 117
   ·exact zm b w (by omega) (by omega) h3
   ·rw[Bn h3]
    have hl:¬(b.length:Int)<5:=by omega
    have hl2:¬(7:Int)<(b.length:Int):=by omega
    obtain⟨x,hx⟩:∃x,b[0]? =some x:=⟨b[0],Qw (by omega)⟩;have k0:∀w,(Instr.index 9 (.string ⟨b.toArray⟩) (.int .i64 0)).run Tryz.prog w=.ok (.int .u8 (x.toNat:Int)) w:=dX b 0 x hx;have hne:((x.toNat:Int) != 117)=true:=by
     rw[bne_iff_ne];intro h;apply h3;have hx2:x=117:=Sq.1 (by have:x.toNat=117:=(by omega);exact this)
     cases b with
     | nil=>simp at h1
     | cons y r=>simp at hx⊢;rw[hx,hx2]
    clear h3 hx h1 h2;simp only[RL,RF];go_enter Tryz.func207,Tryz.ntmps207
    go_wp2
    go_ret2
    exact⟨rfl,QA _ _⟩
theorem cZ {b c:List UInt8}(h:¬b=c):(b==c)=false:=by simpa using h
theorem K7 (b:List UInt8)(w:World):
  Calls Tryz.prog 176 #[.string ⟨b.toArray⟩] w fun e w'=>e=.returned (.tuple #[.int .i32 ((zO b).getD 0),.bool (zO b).isSome])∧w=w':=by
 by_cases c:b∈ [[82],[49],[66],[50],[73],[51],[66,73],[52],[80]]
 ·simp only[Q8,Rn,Sw]at c
  rcases c with rfl | rfl | rfl | rfl | rfl | rfl | rfl | rfl | rfl
  all_goals
   go_enter Tryz.func176,Tryz.ntmps176
   go_wp2
   go_ret2
   exact⟨rfl,rfl⟩
 ·simp only[Q8,Rn,Sw,not_or]at c
  obtain⟨c1,c2,c3,c4,c5,c6,c7,c8,c9⟩:=c;have e:zO b=none:=by
   unfold zO;rw[QG (by rintro(h | h);exact c1 h;exact c2 h),QG (by rintro(h | h);exact c3 h;exact c4 h),QG (by rintro(h | h);exact c5 h;exact c6 h),QG (by rintro(h | h);exact c7 h;exact c8 h),QG c9]
  rw[e];have d1:=cZ c1;have d2:=cZ c2;have d3:=cZ c3;have d4:=cZ c4;have d5:=cZ c5;have d6:=cZ c6;have d7:=cZ c7;have d8:=cZ c8;have d9:=cZ c9;clear c1 c2 c3 c4 c5 c6 c7 c8 c9 e;simp only[RL,RF];go_enter Tryz.func176,Tryz.ntmps176
  go_wp2
  go_ret2
  exact⟨rfl,rfl⟩
theorem jw {H:Type}{P:Program}(w:World){ops:Array Oper}{rest:List Oper}{o:Oper}{a:Act}{Q:Exit→Act→World→Prop}
  (hg:o.guard=none) (m x v:Operand) (t:TypeId) (hop:o.op=Op.insert t m x v)
  (k e:TypeId) (K:Maps.Keyed P k) (ht:P.underlying t=some (.map k e)) (R:Value→Option (DataW H×List MemPlace)) (b n:Nat) (D:DataW H)
  (hm:a.eval m=.map (some b)) (hown:w.ownsMap P k R b n D) (hn:n<maxLen) (key val:Value) (kl:Lit) (hx:a.eval x=key) (hv:a.eval v=val) (hkey:keyOf P k key=some kl)
  (d:DataW H) (ps:List MemPlace) (hval:R val=some (d,ps))
  (hK:∀w',w'.ownsMap P k R b (n+1) (D.put kl d)→w.grownBy w' (some b)→wpList P ops Q rest (a.put o.dst undef) w'):
  wpList P ops Q (o::rest) a w:=by
 refine wpList_plain hg fun K' hK'=>?_
 obtain⟨w',hrun,r1,r2⟩:=hown.update K ht hn hkey hval;unfold Oper.wp;simp[execOp,hop,hm,hx,hv,hrun,Result.andThen];exact hK' _ _ (hK w' r1 r2)
def pU (l:List (List UInt8×Int))(D:DataW Unit):DataW Unit:=l.foldl (fun D p=>D.put (.string p.1) (.lit (.int .i32 p.2))) D
def nG:List (List UInt8×Int)→Bool
 | []=>true
 | p::l=>(fM l p.1).isNone&&nG l
theorem wN:nG uS=true:=by decide+kernel
theorem xM:∀(l:List (List UInt8×Int)) (D:DataW Unit) (b:List UInt8),Maps.IsMap D→Maps.has (pU l D) (.string b)=(Maps.has D (.string b)|| (fM l b).isSome)
 | [],D,b,_=>by simp[pU,fM]
 | p::l,D,b,h=>by
  have ih:=xM l (D.put (.string p.1) (.lit (.int .i32 p.2))) b (h.put _ _);have e:pU (p::l) D=pU l (D.put (.string p.1) (.lit (.int .i32 p.2))):=rfl;rw[e,ih]
  by_cases hp:p.1=b
  ·subst hp
   rw[Maps.has_put_same h (by trivial)];simp[fM]
  ·rw[Maps.has_put_other (fun h=>hp (by injection h with h;exact h.symm))]
   simp[fM,hp]
theorem Bp:∀(l:List (List UInt8×Int)) (D:DataW Unit) (b:List UInt8) (z:DataW Unit),Maps.IsMap D→nG l=true→(pU l D).atKey (.string b) z=match fM l b with
  | some r=> .lit (.int .i32 r)
  | none=>D.atKey (.string b) z
 | [],D,b,z,_,_=>by simp[pU,fM]
 | p::l,D,b,z,h,hk=>by
  unfold nG at hk;simp only[RN]at hk;have ih:=Bp l (D.put (.string p.1) (.lit (.int .i32 p.2))) b z (h.put _ _) hk.2;have e:pU (p::l) D=pU l (D.put (.string p.1) (.lit (.int .i32 p.2))):=rfl;rw[e,ih]
  by_cases hp:p.1=b
  ·subst hp
   have h0:fM l p.1=none:=by simpa using hk.1
   rw[h0,Maps.atKey_put_same h (by trivial)];simp[fM]
  ·rw[Maps.atKey_put_other (fun h=>hp (by injection h with h;exact h.symm))]
   simp[fM,hp]
theorem Oy (w:World):(zeroValue 21).run Tryz.prog w=.ok (.int .i32 0) w:=by kernel_rfl
def Nms (W:World)(M:Nat):Prop:=W.ownsMap (H:=Unit) Tryz.prog 9 (plainElem Tryz.prog 21) M 30 (pU uS (.map []))
theorem Nms.keep {W W':World}{M:Nat}(h:Nms W M)(hb:zB W W'):Nms W' M:=by
 have hlt:=h.lt;obtain⟨es,clock,hh,r⟩:=h;exact⟨es,clock,(hb.block M hlt).trans hh,r⟩
def Px (w:World)(e:Ending)(w':World):Prop:= ∃M,e=.returned (.map (some M))∧w.heap.size≤M∧Nms w' M∧zB w w'
structure yA (w W:World)(n:Nat)(D:DataW Unit):Prop where
 own:W.ownsMap (H:=Unit) Tryz.prog 9 (plainElem Tryz.prog 21) w.heap.size n D
 bel:zB w W
theorem yA.next {w W W':World}{n:Nat}{D D':DataW Unit}(h:yA w W n D)(ho:W'.ownsMap (H:=Unit) Tryz.prog 9 (plainElem Tryz.prog 21) w.heap.size (n+1) D')(hg:W.grownBy W' (some w.heap.size)):yA w W' (n+1) D':=
 ⟨ho,h.bel.grown hg h.bel.size (fun j e=>by cases e;exact Qv _)⟩
theorem FE (b:List UInt8)(hb:b.length≤10):keyOf Tryz.prog 9 (.string ⟨b.toArray⟩)=some (.string b):=by
 have:=WideMaps.keyOf_string_mk (P:=Tryz.prog) (k:=9) Tryz.underlying9 (s:=⟨b.toArray⟩) (by simp[Go.Lib.size_eq,maxLen];omega)
 simpa using this
theorem PH {w W:World}{n:Nat}{D:DataW Unit}{ops:Array Oper}{rest:List Oper}{o:Oper}{a:Act}{Q:Exit→Act→World→Prop}(h:yA w W n D)(hg:o.guard=none){b:List UInt8}{r:Int}
  (hop:o.op=Op.insert 159 (.tmp 1) (.const (.string ⟨b.toArray⟩)) (.const (.int .i32 r))) (hb:b.length≤10) (hr:(Lit.int .i32 r).wf=true) (hn:n≤1000) (hm:a.eval (.tmp 1)=.map (some w.heap.size))
  (hK:∀W',yA w W' (n+1) (D.put (.string b) (.lit (.int .i32 r)))→wpList Tryz.prog ops Q rest (a.put o.dst undef) W'):wpList Tryz.prog ops Q (o::rest) a W:=
 jw W hg _ _ _ 159 hop 9 21 (Maps.string_keyed Tryz.underlying9) Tryz.underlying159 _ w.heap.size n D hm h.own (by unfold maxLen;omega) _ _ _ rfl rfl (FE b hb) _ [] (plainElem_int Tryz.underlying21 hr)
  (fun W' ho hg=>hK W' (h.next ho hg))
theorem Hl (w:World):Calls Tryz.prog 174 #[] w (Px w):=by
 have H0:yA w (w.alloc (.map #[] 0)) 0 (.map []):=⟨World.ownsMap_made _ _ _ _,(QA _ _).alloc (Qv _) _⟩;have hmm:= @run_makeMap Tryz.prog;go_enter Tryz.func174,Tryz.ntmps174
 go_wp2_with (refine PH (by assumption) rfl rfl (by decide) (by decide) (by omega) rfl ?_;intro w1 h1)
 go_ret;exact⟨_,rfl,Qv _,h1.own,h1.bel⟩
theorem Nt {W:World}{M:Nat}(h:Nms W M)(b:List UInt8)(hb:b.length≤maxLen):
  (Instr.lookup 159 (.map (some M)) (.string ⟨b.toArray⟩) true).run Tryz.prog W=.ok (.tuple #[.int .i32 ((fM uS b).getD 0),.bool (fM uS b).isSome]) W:=by
 have hkey:=WideMaps.keyOf_string_mk (P:=Tryz.prog) (k:=9) Tryz.underlying9 (s:=⟨b.toArray⟩) (by simpa[Go.Lib.size_eq] using hb);obtain⟨v,ps,hrun,hv⟩:=World.ownsMap.look_ok h (Maps.string_keyed Tryz.underlying9) Tryz.underlying159 (Oy W) (plainElem_int Tryz.underlying21 (by decide)) hkey;obtain⟨c,rfl,hc,-⟩:=plainElem_int_inv Tryz.underlying21 hv;have hc1:=QI Prod.fst hc;rw[hrun];simp only at hc1;rw[Bp _ _ _ _ Maps.isMap_empty wN]at hc1;rw[xM _ _ _ Maps.isMap_empty];have h0:Maps.has (.map []:DataW Unit) (.string (⟨b.toArray⟩:ByteArray).data.toList)=false:=rfl;rw[h0,Bool.false_or];simp only at hc1⊢
 cases hl:fM uS b with
 | none=>
  rw[hl]at hc1;have:c=0:=by
   have h1:(DataW.lit (.int .i32 0):DataW Unit)=.lit (.int .i32 c):=hc1;injection h1 with h1
   injection h1 with _ h1
   exact h1.symm
  subst this;rfl
 | some r=>
  rw[hl]at hc1;have:c=r:=by
   have h1:(DataW.lit (.int .i32 r):DataW Unit)=.lit (.int .i32 c):=hc1;injection h1 with h1
   injection h1 with _ h1
   exact h1.symm
  subst this;rfl
theorem La (b:List UInt8)(M:Nat)(w:World)(hm:Nms w M)(hb:b.length≤maxLen):
  Calls Tryz.prog 175 #[.map (some M),.string ⟨b.toArray⟩] w fun e w'=>e=.returned (.tuple #[.int .i32 ((Bo b).getD 0),.bool (Bo b).isSome])∧zB w w':=by
 have hl:=Nt hm b hb;have HN:=zH (zn b w hb);unfold Bo
 cases he:fM uS b with
 | some r=>
  rw[he]at hl;simp only[Sj,RZ]at hl⊢;clear he HN hm;go_enter Tryz.func175,Tryz.ntmps175
  go_wp2_with fail
  go_ret2
  exact⟨rfl,QA _ _⟩
 | none=>
  rw[he]at hl;simp only[RL,RF]at hl⊢;obtain⟨N,hN⟩:∃N,numOf b=N:=⟨_,rfl⟩;rw[hN]at HN⊢;clear he hm hN;go_enter Tryz.func175,Tryz.ntmps175
  go_wp2_with fail
  refine HN.out.mono ?_;rintro e w1 ⟨rfl,b1⟩;go_wp2_with fail
  go_ret2
  exact⟨rfl,b1⟩
section
def Az (t:Tok):List Value:=[.int .i64 t.1,.int .i32 t.2]
theorem eB (t:Tok):(Az t).length=2:=rfl
theorem Gt (t:Tok):∀u∈Az t,u.oneCell'=true:=by
 intro u hu;simp[Az]at hu;rcases hu with rfl | rfl<;>rfl
def gp (d:Dg):List Value:=[.int .i64 d.1,.int .i64 d.2.1,.int .i64 d.2.2]
theorem ax (d:Dg):(gp d).length=3:=rfl
theorem xV (d:Dg):∀u∈gp d,u.oneCell'=true:=by
 intro u hu;simp[gp]at hu;rcases hu with rfl | rfl | rfl<;>rfl
abbrev Ts (w:World)(v:Value)(l:List Tok):Prop:=Fs 2 Az w v l
abbrev Jk (base:Nat)(W:World)(x:Value)(l:List Tok):Prop:=ag 113 2 Az base W x l
abbrev Ds (w:World)(v:Value)(l:List Dg):Prop:=Fs 3 gp w v l
abbrev bK (base:Nat)(W:World)(x:Value)(l:List Dg):Prop:=ag 46 3 gp base W x l
theorem PY:(Tryz.prog.info? 113).map (fun i=>(i.zero,i.size,i.bytes))=some (some (.agg #[.int .i64 0,.int .i32 0]),2,16):=by kernel_rfl
theorem KP:(Tryz.prog.info? 46).map (fun i=>(i.zero,i.size,i.bytes))=some (some (.agg #[.int .i64 0,.int .i64 0,.int .i64 0]),3,24):=by kernel_rfl
noncomputable def Oa (args:Array Value):Sem Next:=do pure (.value (←Builtin.append_ #[69,69] 69 args))
theorem iM (cs:Array Bool)(args:Array Value):builtin .append #[69,69] 69 cs args=Oa args:=rfl
noncomputable def gU (args:Array Value):Sem Next:=do pure (.value (←Builtin.append_ #[29,29] 29 args))
theorem bN (cs:Array Bool)(args:Array Value):builtin .append #[29,29] 29 cs args=gU args:=rfl
theorem Mc {base:Nat}{W:World}{x u:Value}{l m:List Tok}(h:Jk base W x l)(hu:Ts W u m)(hb:base≤W.heap.size)(hd:l.length+m.length≤1000000):
  ∃x' w',(Oa #[x,u]).run Tryz.prog W=.ok (.value x') w'∧Jk base w' x' (l++m)∧W.grownBy w' x.ownBlock∧(x'.ownBlock=x.ownBlock∨x'.ownBlock=some W.heap.size):=by
 obtain⟨i0,hi,hz0,hz1,hz2⟩:=Rj PY;obtain⟨x',w',hr,r⟩:=mM eB Gt (by decide) Tryz.underlying69 hi hz0 hz1 hz2 rfl (by decide) h hu hb hd;refine⟨x',w',?_,r⟩;unfold Oa;simp only[Rx,RA,Rk,hr]
theorem ic {base:Nat}{W:World}{x u:Value}{l m:List Dg}(h:bK base W x l)(hu:Ds W u m)(hb:base≤W.heap.size)(hd:l.length+m.length≤1000000):
  ∃x' w',(gU #[x,u]).run Tryz.prog W=.ok (.value x') w'∧bK base w' x' (l++m)∧W.grownBy w' x.ownBlock∧(x'.ownBlock=x.ownBlock∨x'.ownBlock=some W.heap.size):=by
 obtain⟨i0,hi,hz0,hz1,hz2⟩:=Rj KP;obtain⟨x',w',hr,r⟩:=mM ax xV (by decide) Tryz.underlying29 hi hz0 hz1 hz2 rfl (by decide) h hu hb hd;refine⟨x',w',?_,r⟩;unfold gU;simp only[Rx,RA,Rk,hr]
structure RdV (w0:World)(B:Nat)(tv:Value)(L:List Int)(W:World)(nx:Int)(T:List Tok)(D:List Dg)(vt vd vm:Value):Prop where
 hB:w0.heap.size=B
 sl:Sl .i32 w0 tv L
 bel:Below B w0 W
 blk:Blk W B 161 [tv,.int .i64 nx,vt,vd,vm]
 tk:Jk (B+1) W vt T
 dg:bK (B+1) W vd D
 mp:vm=.map none∨ ∃M,vm=.map (some M)∧B<M∧Nms W M
def Rd (w0:World)(B:Nat)(tv:Value)(L:List Int)(W:World)(nx:Int)(T:List Tok)(D:List Dg):Prop:= ∃vt vd vm,RdV w0 B tv L W nx T D vt vd vm
section
variable {w0:World}{B:Nat}{tv:Value}{L:List Int}{W:World}{nx:Int}{T:List Tok}{D:List Dg}{vt vd vm:Value}
theorem RdV.lt (h:RdV w0 B tv L W nx T D vt vd vm):B<W.heap.size:=(Qx.1 h.blk).1
theorem RdV.text (h:RdV w0 B tv L W nx T D vt vd vm):Sl .i32 W tv L:=h.sl.below (by unfold zB;rw[h.hB];exact h.bel)
theorem RdV.keep {W':World}(h:RdV w0 B tv L W nx T D vt vd vm)(hb:zB W W'):RdV w0 B tv L W' nx T D vt vd vm:=by
 refine⟨h.hB,h.sl,h.bel.trans (hb.mono (Nat.le_of_lt h.lt)),h.blk.below hb,h.tk.keep hb,h.dg.keep hb,?_⟩;rcases h.mp with h0 | ⟨M,h1,h2,h3⟩
 ·exact .inl h0
 ·exact .inr ⟨M,h1,h2,h3.keep hb⟩
theorem zo {W:World}{M:Nat}(h:Nms W M){a:Addr}(ha:a.block≠M)(u:Value):Nms (W.setCell a u) M:=World.ownsMap.setCell h (fun e=>ha e.symm) u
theorem FD {W:World}{M:Nat}(h:Nms W M){α:Type}{e n:Nat}{f:α→List Value}{base:Nat}{x:Value}{l:List α}(ho:ag e n f base W x l):some M≠x.ownBlock:=by
 intro hx;obtain⟨es,clock,hb,-⟩:=h;obtain⟨-,cur,hc⟩:=ho.ty hx.symm;rw[hb]at hc
 cases hc
theorem RdV.set (h:RdV w0 B tv L W nx T D vt vd vm)(j:Nat)(u:Value){nx':Int}{vt' vd' vm':Value}(hl:[tv,.int .i64 nx,vt,vd,vm].set j u=[tv,.int .i64 nx',vt',vd',vm']){T':List Tok}{D':List Dg}(ht:Jk (B+1) W vt' T')(hd:bK (B+1) W vd' D')(hm:vm'=.map none∨ ∃M,vm'=.map (some M)∧B<M∧Nms W M):
  RdV w0 B tv L (W.setCell ⟨B,j,none⟩ u) nx' T' D' vt' vd' vm':=by
 refine⟨h.hB,h.sl,h.bel.setCell (Qv _) _,hl▸h.blk.set j u,Q9 ht (by simp) u,Q9 hd (by simp) u,?_⟩;rcases hm with h0 | ⟨M,h1,h2,h3⟩
 ·exact .inl h0
 ·exact .inr ⟨M,h1,h2,zo h3 (by simp only;omega) u⟩
theorem RdV.next (h:RdV w0 B tv L W nx T D vt vd vm)(nx':Int):RdV w0 B tv L (W.setCell ⟨B,1,none⟩ (.int .i64 nx')) nx' T D vt vd vm:=
 h.set 1 (.int .i64 nx') rfl h.tk h.dg h.mp
theorem RdV.names (h:RdV w0 B tv L W nx T D vt vd vm){M:Nat}(hM:B<M)(hm:Nms W M):RdV w0 B tv L (W.setCell ⟨B,4,none⟩ (.map (some M))) nx T D vt vd (.map (some M)):=
 h.set 4 (.map (some M)) rfl h.tk h.dg (.inr ⟨M,rfl,hM,hm⟩)
theorem RdV.say (h:RdV w0 B tv L W nx T D vt vd vm)(k r:Int)(hT:T.length≤500000):
  ∃vt' w2,(Oa #[vt,.slice (some ⟨W.heap.size,0,none⟩) 1 1]).run Tryz.prog (W.alloc (.cells #[.int .i64 k,.int .i32 r] 113))=.ok (.value vt') w2∧w2.cell? ⟨B,2,none⟩=some vt∧w2.frozen? ⟨B,2,none⟩=false∧
   RdV w0 B tv L (w2.setCell ⟨B,2,none⟩ vt') nx (T++ [(k,r)]) D vt' vd vm:=by
 have hlt:=h.lt;have b1:=ae W (.cells #[.int .i64 k,.int .i32 r] 113);have h1:=h.keep b1;have hlt1:=h1.lt;obtain⟨vt',w2,hrun,ho,hg,-⟩:=Mc h1.tk (dS eB W 113 [(k,r)]) (by omega) (by simp;omega);have hne:vt.ownBlock≠some B:=fun e=>by have:=(h1.tk.ty e).1;omega
 have blk2:Blk w2 B 161 [tv,.int .i64 nx,vt,vd,vm]:=(hg.block B hlt1 (fun e=>hne e.symm)).trans h1.blk;have hd2:bK (B+1) w2 vd D:=ag.apart h1.dg hg (dN h1.dg h1.tk (by decide));have hbel:Below B w0 w2:=h1.bel.grown hg (by omega) (fun j e=>by have:=(h1.tk.ty e).1;omega);refine⟨vt',w2,hrun,blk2.cell 2,blk2.frozen (by simp),?_⟩;have hm2:vm=.map none∨ ∃M,vm=.map (some M)∧B<M∧Nms w2 M:=by
  rcases h1.mp with h0 | ⟨M,e1,e2,e3⟩
  ·exact .inl h0
  ·exact .inr ⟨M,e1,e2,World.ownsMap.kept e3 hg (FD e3 h1.tk)⟩
 refine⟨h.hB,h.sl,hbel.setCell (Qv _) _,blk2.set 2 vt',Q9 ho (by simp) _,Q9 hd2 (by simp) _,?_⟩;rcases hm2 with h0 | ⟨M,e1,e2,e3⟩
 ·exact .inl h0
 ·exact .inr ⟨M,e1,e2,zo e3 (by simp only;omega) _⟩
theorem RdV.tell (h:RdV w0 B tv L W nx T D vt vd vm)(k r:Int)(hD:D.length≤500000):
  ∃vd' w2,(gU #[vd,.slice (some ⟨W.heap.size,0,none⟩) 1 1]).run Tryz.prog (W.alloc (.cells #[.int .i64 k,.int .i64 0,.int .i64 r] 46))=.ok (.value vd') w2∧w2.cell? ⟨B,3,none⟩=some vd∧w2.frozen? ⟨B,3,none⟩=false∧
   RdV w0 B tv L (w2.setCell ⟨B,3,none⟩ vd') nx T (D++ [(k,0,r)]) vt vd' vm:=by
 have hlt:=h.lt;have b1:=ae W (.cells #[.int .i64 k,.int .i64 0,.int .i64 r] 46);have h1:=h.keep b1;have hlt1:=h1.lt;obtain⟨vd',w2,hrun,ho,hg,-⟩:=ic h1.dg (dS ax W 46 [(k,0,r)]) (by omega) (by simp;omega);have hne:vd.ownBlock≠some B:=fun e=>by have:=(h1.dg.ty e).1;omega
 have blk2:Blk w2 B 161 [tv,.int .i64 nx,vt,vd,vm]:=(hg.block B hlt1 (fun e=>hne e.symm)).trans h1.blk;have ht2:Jk (B+1) w2 vt T:=ag.apart h1.tk hg (dN h1.tk h1.dg (by decide));have hbel:Below B w0 w2:=h1.bel.grown hg (by omega) (fun j e=>by have:=(h1.dg.ty e).1;omega);refine⟨vd',w2,hrun,blk2.cell 3,blk2.frozen (by simp),?_⟩;have hm2:vm=.map none∨ ∃M,vm=.map (some M)∧B<M∧Nms w2 M:=by
  rcases h1.mp with h0 | ⟨M,e1,e2,e3⟩
  ·exact .inl h0
  ·exact .inr ⟨M,e1,e2,World.ownsMap.kept e3 hg (FD e3 h1.dg)⟩
 refine⟨h.hB,h.sl,hbel.setCell (Qv _) _,blk2.set 3 vd',Q9 ht2 (by simp) _,Q9 ho (by simp) _,?_⟩;rcases hm2 with h0 | ⟨M,e1,e2,e3⟩
 ·exact .inl h0
 ·exact .inr ⟨M,e1,e2,zo e3 (by simp only;omega) _⟩
end
def iD (w0:World)(B:Nat)(tv:Value)(L:List Int)(nx:Int)(T:List Tok)(D:List Dg)(v:Value)(e:Ending)(w':World):Prop:=e=.returned v∧Rd w0 B tv L w' nx T D
attribute [local go_sem ↓ high] iM bN
theorem qp {w0:World}{B:Nat}{tv:Value}{L:List Int}{nx:Int}{T:List Tok}{D:List Dg}(c:Int)(w:World)(h:Rd w0 B tv L w nx T D)(hT:T.length≤500000):
  Calls Tryz.prog 104 #[.pointer (some ⟨B,0,none⟩),.int .i32 c] w (iD w0 B tv L nx (T++ [(1,c)]) D (.tuple #[])):=by
 obtain⟨vt,vd,vm,hv⟩:=h;have c2:=hv.blk.cell 2;have c2':w.cell? ⟨B,2,none⟩=some vt:=c2;obtain⟨vt',w2,k2,q2,f2,r2⟩:=hv.say 1 c hT;obtain⟨a1,n1,rfl⟩:=(ag.sl eB hv.tk).len;obtain⟨a2,n2,rfl⟩:=(ag.sl eB r2.tk).len;obtain⟨m,hm⟩:∃m,(T++ [(1,c)]).length=m:=⟨_,rfl⟩;rw[hm]at k2 r2;clear hm;have R2:=zH r2;clear c2 hv r2;go_enter Tryz.func104,Tryz.ntmps104
 go_wp2_with fail
 go_end0;exact⟨rfl,_,_,_,R2.out⟩
theorem gV {w0:World}{B:Nat}{tv:Value}{L:List Int}{nx:Int}{T:List Tok}{D:List Dg}(k:Int)(p:Nat)(w:World)(h:Rd w0 B tv L w nx T D)(hD:D.length≤500000)(hp:p≤500000):
  Calls Tryz.prog 103 #[.pointer (some ⟨B,0,none⟩),.int .i64 k,.int .i64 (p:Int)] w (iD w0 B tv L nx T (D++dgs p [k]) (.tuple #[])):=by
 obtain⟨vt,vd,vm,hv⟩:=h;have c2:=hv.blk.cell 3;have c2':w.cell? ⟨B,3,none⟩=some vd:=c2;obtain⟨vt',w2,k2,q2,f2,r2⟩:=hv.tell k ((p:Int)+1) hD;obtain⟨a1,n1,rfl⟩:=(ag.sl ax hv.dg).len;obtain⟨a2,n2,rfl⟩:=(ag.sl ax r2.dg).len;obtain⟨m,hm⟩:∃m,(D++ [(k,0,(p:Int)+1)]).length=m:=⟨_,rfl⟩;rw[hm]at k2 r2;clear hm;have R2:=zH r2;clear c2 hv r2;go_enter Tryz.func103,Tryz.ntmps103
 go_wp2_with fail
 go_end0;exact⟨rfl,_,_,_,R2.out⟩
end
section
attribute [local go_sem ↓ high] iM bN
theorem fe (w:World)(a b:Obj):zB w ((w.alloc a).alloc b):=((QA _ w).alloc (Qv _) _).alloc (by simp) _
theorem ym (w:World)(L:List Value)(e:TypeId)(b:Obj):Blk ((w.alloc (.cells L.toArray e)).alloc b) w.heap.size e L:=
 Blk.below (W:=w.alloc (.cells L.toArray e)) (QD w _) (ae _ _)
theorem Ch (w:World)(a:Obj)(L:List Value)(e:TypeId):Blk ((w.alloc a).alloc (.cells L.toArray e)) (w.heap.size+1) e L:=by
 have:=QD (w.alloc a) (.cells L.toArray e);have e1:(w.alloc a).heap.size=w.heap.size+1:=by simp
 rw[e1]at this;exact this
theorem eX (w:World)(a:Addr)(v:Value):(w.setCell a v).heap.size=w.heap.size:=by simp[World.setCell]
end
theorem Fs.t {w:World}{a:Option Addr}{k cap:Nat}{l:List Tok}(h:Ts w (.slice a k cap) l){j:Nat}{g:Tok}(hj:l[j]? =some g):
  ∃b off,a=some ⟨b,off,none⟩∧w.cell? ⟨b,off+j*2,none⟩=some (.int .i64 g.1)∧w.cell? ⟨b,off+j*2+1,none⟩=some (.int .i32 g.2):=by
 obtain⟨a',cap',hv,_,hr⟩:=h;injection hv with h1 h2 h3
 subst h1;obtain⟨b,off,rfl,h0⟩:=hr j g hj;exact⟨b,off,rfl,h0 0 _ rfl,h0 1 _ rfl⟩
theorem Fs.d {w:World}{a:Option Addr}{k cap:Nat}{l:List Dg}(h:Ds w (.slice a k cap) l){j:Nat}{g:Dg}(hj:l[j]? =some g):
  ∃b off,a=some ⟨b,off,none⟩∧w.cell? ⟨b,off+j*3,none⟩=some (.int .i64 g.1)∧w.cell? ⟨b,off+j*3+1,none⟩=some (.int .i64 g.2.1)∧w.cell? ⟨b,off+j*3+2,none⟩=some (.int .i64 g.2.2):=by
 obtain⟨a',cap',hv,_,hr⟩:=h;injection hv with h1 h2 h3
 subst h1;obtain⟨b,off,rfl,h0⟩:=hr j g hj;exact⟨b,off,rfl,h0 0 _ rfl,h0 1 _ rfl,h0 2 _ rfl⟩
theorem Qn (k l k' l':Int)(w:World):(Op.equalIn 10000 113 (.agg #[.int .i64 k,.int .i32 l]) (.agg #[.int .i64 k',.int .i32 l'])).run Tryz.prog w=.ok (k==k'&&l==l') w:=by
 rw[run_equalIn_agg w 9999 113 _ _ (by kernel_rfl) (by kernel_rfl)];have h3:((Tryz.prog.fieldsOf 113).toList.map fun f=>(f.name != "_",f.type,f.offset))=[(true,3,0),(true,21,1)]:=by kernel_rfl
 generalize (Tryz.prog.fieldsOf 113).toList=fs at*;rcases fs with _ | ⟨f0,_ | ⟨f1,_ | ⟨f2,fs⟩⟩⟩
 ·simp at h3
 ·simp at h3
 ·simp only[Q5,Ru,TA,Sm,and_true,bne_iff_ne,ne_eq]at h3
  obtain⟨⟨n0,t0,o0⟩,⟨n1,t1,o1⟩⟩:=h3;have e0:∀(a b:Int) (w:World),(Op.equalIn 9999 3 (.int .i64 a) (.int .i64 b)).run Tryz.prog w=.ok (a==b) w:=fun a b w=>run_equalIn_int w 9998 3 .i64 .i64 a b Tryz.underlying3
  have e1:∀(a b:Int) (w:World),(Op.equalIn 9999 21 (.int .i32 a) (.int .i32 b)).run Tryz.prog w=.ok (a==b) w:=fun a b w=>run_equalIn_int w 9998 21 .i32 .i32 a b Tryz.underlying21
  simp[go_sem,Op.eqFields,n0,n1,t0,t1,o0,o1,e0,e1]
  by_cases a1:k=k'<;>by_cases a2:l=l'<;>simp[a1,a2]
 ·simp at h3
theorem Kh (k l k' l':Int)(w:World):(binOp .neq 113 (.agg #[.int .i64 k,.int .i32 l]) (.agg #[.int .i64 k',.int .i32 l'])).run Tryz.prog w=.ok (.bool (!(k==k'&&l==l'))) w:=by
 rw[run_neq_struct,Qn];rfl
theorem OT {x y:Tok}(h:x≠y)(w:World):(binOp .neq 113 (.agg #[.int .i64 x.1,.int .i32 x.2]) (.agg #[.int .i64 y.1,.int .i32 y.2])).run Tryz.prog w=.ok (.bool true) w:=by
 rw[Kh];have:(x.1==y.1&&x.2==y.2)=false:=by
  rw[Tk];intro e;simp only[RN,SQ]at e;exact h (Prod.ext e.1 e.2)
 rw[this];rfl
theorem eqD (k l m k' l' m':Int)(w:World):(Op.equalIn 10000 46 (.agg #[.int .i64 k,.int .i64 l,.int .i64 m]) (.agg #[.int .i64 k',.int .i64 l',.int .i64 m'])).run Tryz.prog w=.ok (k==k'&&l==l'&&m==m') w:=by
 rw[run_equalIn_agg w 9999 46 _ _ (by kernel_rfl) (by kernel_rfl)];have h3:((Tryz.prog.fieldsOf 46).toList.map fun f=>(f.name != "_",f.type,f.offset))=[(true,3,0),(true,3,1),(true,3,2)]:=by kernel_rfl
 generalize (Tryz.prog.fieldsOf 46).toList=fs at*;rcases fs with _ | ⟨f0,_ | ⟨f1,_ | ⟨f2,_ | ⟨f3,fs⟩⟩⟩⟩
 ·simp at h3
 ·simp at h3
 ·simp at h3
 ·simp only[Q5,Ru,TA,Sm,and_true,bne_iff_ne,ne_eq]at h3
  obtain⟨⟨n0,t0,o0⟩,⟨n1,t1,o1⟩,⟨n2,t2,o2⟩⟩:=h3;have e0:∀(a b:Int) (w:World),(Op.equalIn 9999 3 (.int .i64 a) (.int .i64 b)).run Tryz.prog w=.ok (a==b) w:=fun a b w=>run_equalIn_int w 9998 3 .i64 .i64 a b Tryz.underlying3
  simp[go_sem,Op.eqFields,n0,n1,n2,t0,t1,t2,o0,o1,o2,e0]
  by_cases a1:k=k'<;>by_cases a2:l=l'<;>by_cases a3:m=m'<;>simp[a1,a2,a3]
 ·simp at h3
theorem Bu (k l m k' l' m':Int)(w:World):(binOp .neq 46 (.agg #[.int .i64 k,.int .i64 l,.int .i64 m]) (.agg #[.int .i64 k',.int .i64 l',.int .i64 m'])).run Tryz.prog w=.ok (.bool (!(k==k'&&l==l'&&m==m'))) w:=by
 rw[run_neq_struct,eqD];rfl
theorem Hg (k l m:Int)(w:World):(binOp .neq 46 (.agg #[.int .i64 k,.int .i64 l,.int .i64 m]) (.agg #[.int .i64 k,.int .i64 l,.int .i64 m])).run Tryz.prog w=.ok (.bool false) w:=by
 rw[Bu];simp
theorem DK {x y:Dg}(h:x≠y)(w:World):(binOp .neq 46 (.agg #[.int .i64 x.1,.int .i64 x.2.1,.int .i64 x.2.2]) (.agg #[.int .i64 y.1,.int .i64 y.2.1,.int .i64 y.2.2])).run Tryz.prog w=.ok (.bool true) w:=by
 rw[Bu];have:(x.1==y.1&&x.2.1==y.2.1&&x.2.2==y.2.2)=false:=by
  rw[Tk];intro e;simp only[RN,SQ]at e;exact h (Prod.ext e.1.1 (Prod.ext e.1.2 e.2))
 rw[this];rfl
theorem uw (a b:List Dg)(v u:Value)(w:World)(hv:Ds w v a)(hu:Ds w u b)(hl:a.length≤200000)(hl':b.length≤200000):
  Calls Tryz.prog 20 #[v,u] w fun e w'=>e=.returned (.bool (decide (a=b)))∧zB w w':=by
 have HV:=zH hv;have HU:=zH hu;obtain⟨aa,ca,rfl,-,-⟩:=hv;obtain⟨ab,cb,rfl,-,-⟩:=hu
 by_cases hlen:a.length=b.length
 ·have HLen:=zH hlen
  have hne:((a.length:Int) != (b.length:Int))=false:=by simp[hlen]
  clear hlen;go_enter Tryz.func20,Tryz.ntmps20
  go_wp2_with fail
  go_loopw [5] (fun i wr=> ∃j:Nat,j≤a.length∧i=.int .i64 j∧a.take j=b.take j∧zB w wr) (fun i _=>a.length-(intOf i).toNat)
  case atStart=>exact⟨0,by omega,rfl,rfl,QA _ _⟩
  case round=>
   obtain⟨j,hj,rfl,hs,hbw⟩:=hrel;have HS:=zH hs;clear hs
   by_cases hlt:j<a.length
   ·obtain⟨x,hx⟩:∃x,a[j]? =some x:=⟨a[j],Qw hlt⟩
    obtain⟨y,hy⟩:∃y,b[j]? =some y:=⟨b[j]'(by have:=HLen.out;omega),Qw _⟩;obtain⟨g,off,rfl,c0,c1,c2⟩:=Fs.d (Fs.below HV.out hbw) hx;obtain⟨g',off',rfl,c0',c1',c2'⟩:=Fs.d (Fs.below HU.out hbw) hy;have hi0:(j:Int)<(a.length:Int):=by omega
    have hi2:(j:Int)<(b.length:Int):=by have:=HLen.out;omega
    have hi1:(0:Int)≤(j:Int):=by omega
    by_cases hxy:x=y
    ·subst hxy
     have HT:=zH (take_same HS.out hx hy);have hq:=Hg;clear hx hy;go_wp2_with fail
     go_quiet (fail)
     go_wp2
     go_roundw
     case rel=>exact⟨j+1,by omega,by go_num,HT.out,below_drewN hbw _⟩
     case measure=>simp[intOf];omega
    ·have HT:=zH (QQ (uR hx hy hxy))
     have hq:=DK hxy;clear hx hy hxy;go_wp2_with fail
     go_quiet (fail)
     go_wp2
     go_ret;exact⟨aF HT.out.symm,below_drewN hbw _⟩
   ·obtain rfl:j=a.length:=by omega
    have hs:a=b:=by
     have h:=HS.out;rw[QT,HLen.out,QT]at h;exact h
    have HT:=zH (Q6 hs);clear hs;go_wp2_with fail
    go_ret;exact⟨aF HT.out.symm,hbw⟩
 ·have hne:((a.length:Int) != (b.length:Int))=true:=by simp;omega
  have HT:=zH (QQ (show¬a=b from fun h=>hlen (by rw[h])));clear hlen;go_enter Tryz.func20,Tryz.ntmps20
  go_wp2_with fail
  go_ret;exact⟨aF HT.out.symm,QA _ _⟩
abbrev Fce:=Int×Int
def fv (f:Fce):Value:= .agg #[.int .u8 f.1,.int .u8 f.2]
def mJ (f:Fce)(n:Int):Fce:=if n=4 then(f.2,f.1) else if 0≤n∧n≤3 then(n,f.1) else f
def mI (s:List Gly×Fce)(t:Tok):List Gly×Fce:=
 if t.1=1 then(s.1++ [(t.2,s.2.1)],s.2) else if t.1=2 then(s.1++ [(32,0)],s.2) else if t.1=3 then(s.1,mJ s.2 t.2) else s
def jL (f:Fce)(l:List Tok):List Gly×Fce:=l.foldl mI ([],f)
theorem II {f:Fce}{l:List Tok}{j:Nat}{t:Tok}(h:l[j]? =some t):jL f (l.take (j+1))=mI (jL f (l.take j)) t:=by
 unfold jL;rw[Q7,h,SV];rfl
theorem IG (s:List Gly×Fce)(t:Tok):(mI s t).1.length≤s.1.length+1:=by
 unfold mI
 split
 ·simp
 ·split
  ·simp
  ·split<;>simp
theorem xQ:∀(l:List Tok) (s:List Gly×Fce),(l.foldl mI s).1.length≤s.1.length+l.length
 | [],s=>by simp
 | t::l,s=>by
  have:=xQ l (mI s t);have:=IG s t;simp only[Td,QC];omega
theorem vG (f:Fce)(l:List Tok):(jL f l).1.length≤l.length:=by
 have:=xQ l ([],f)
 simpa[jL] using this
theorem Eu (a b:Int):mJ (a,b) 4=(b,a):=by simp[mJ]
theorem qb (a b:Int)(n:Int)(h0:0≤n)(h1:n≤3):mJ (a,b) n=(n,a):=by unfold mJ;rw[QG (by omega),QP ⟨h0,h1⟩]
theorem vI (f:Fce)(n:Int)(h:n<0∨4<n):mJ f n=f:=by unfold mJ;rw[QG (by omega),QG (by omega)]
theorem Gn (n:Int):n=0∨n=1∨n=2∨n=3∨n=4∨n<0∨4<n:=by omega
theorem QTR {P:Prop}(h:P:=by
 obtain⟨rfl,rfl⟩:=Tm hpq;clear hpq;go_enter Tryz.func105,Tryz.ntmps105
 go_wp2_with fail
 exact Rb (v:= .agg #[_,_]) (by simp[results,Tryz.results105,go_sem]) rfl ⟨rfl,fe w _ _⟩):P:=h
theorem Jz (a b n:Int)(w:World):
  Calls Tryz.prog 105 #[.agg #[.int .u8 a,.int .u8 b],.int .i32 n] w fun e w'=>e=.returned (.agg #[.int .u8 (mJ (a,b) n).1,.int .u8 (mJ (a,b) n).2])∧zB w w':=by
 obtain⟨p,q,hpq⟩:∃p q,mJ (a,b) n=(p,q):=⟨_,_,rfl⟩;rw[hpq];rcases Gn n with rfl | rfl | rfl | rfl | rfl | h | h
 ·rw[qb a b 0 (by omega) (by omega)]at hpq
  exact QTR
 ·rw[qb a b 1 (by omega) (by omega)]at hpq
  exact QTR
 ·rw[qb a b 2 (by omega) (by omega)]at hpq
  exact QTR
 ·rw[qb a b 3 (by omega) (by omega)]at hpq
  exact QTR
 ·rw[Eu a b]at hpq
  exact QTR
 ·rw[vI (a,b) n (.inl h)]at hpq
  obtain⟨rfl,rfl⟩:=Tm hpq;have x0:¬n=0:=by omega
  have x1:¬n=1:=by omega
  have x2:¬n=2:=by omega
  have x3:¬n=3:=by omega
  have x4:¬n=4:=by omega
  have x5:¬4<n:=by omega
  clear hpq;go_enter Tryz.func105,Tryz.ntmps105
  go_wp2_with fail
  exact Rb (v:= .agg #[_,_]) (by simp[results,Tryz.results105,go_sem]) rfl ⟨rfl,fe w _ _⟩
 ·rw[vI (a,b) n (.inr h)]at hpq
  obtain⟨rfl,rfl⟩:=Tm hpq;have x0:¬n=0:=by omega
  have x1:¬n=1:=by omega
  have x2:¬n=2:=by omega
  have x3:¬n=3:=by omega
  have x4:¬n=4:=by omega
  have x5:¬n<0:=by omega
  clear hpq;go_enter Tryz.func105,Tryz.ntmps105
  go_wp2_with fail
  exact Rb (v:= .agg #[_,_]) (by simp[results,Tryz.results105,go_sem]) rfl ⟨rfl,fe w _ _⟩
section
attribute [local go_sem ↓ high] fH
structure jM (w:World)(s:Value)(c:List Gly×Fce)(W:World):Prop where
 b0:Blk W w.heap.size 28 [.int .u8 c.2.1,.int .u8 c.2.2]
 b1:Blk W (w.heap.size+1) 28 [.int .u8 0,.int .u8 0]
 s:bu (w.heap.size+2) W s c.1
 bel:zB w W
section
variable {w W:World}{s:Value}{c:List Gly×Fce}
theorem jM.big (h:jM w s c W):w.heap.size+1<W.heap.size:=(Qx.1 h.b1).1
theorem jM.keep {W':World}(h:jM w s c W)(hb:zB W W'):jM w s c W':=
 ⟨h.b0.below hb,h.b1.below hb,h.s.keep hb,h.bel.trans (hb.mono h.bel.size)⟩
theorem jM.app (h:jM w s c W)(r n:Int)(hl:c.1.length≤500000):
  ∃s' W',(appG #[s,.slice (some ⟨W.heap.size,0,none⟩) 1 1]).run Tryz.prog (W.alloc (.cells #[.int .i32 r,.int .u8 n] 35))=.ok (.value s') W'∧jM w s' (c.1++ [(r,n)],c.2) W':=by
 have hl1:=ae W (.cells #[.int .i32 r,.int .u8 n] 35);have hbig:=h.big;have h1:=h.keep hl1;obtain⟨s',W',hrun,ho,hg,-⟩:=fq h1.s (dS ah W 35 [(r,n)]) (by simp;omega) (by simp;omega);have n0:s.ownBlock≠some w.heap.size:=fun e=>by have:=(h1.s.ty e).1;omega
 have n1:s.ownBlock≠some (w.heap.size+1):=fun e=>by have:=(h1.s.ty e).1;omega
 exact⟨s',W',hrun,(hg.block _ (by simp;omega) (fun e=>n0 e.symm)).trans h1.b0,(hg.block _ (by simp;omega) (fun e=>n1 e.symm)).trans h1.b1,ho,h1.bel.grown hg (by simp;omega) (fun j e=>by have:=(h1.s.ty e).1;omega)⟩
theorem jM.turn (h:jM w s c W)(a b:Int):jM w s (c.1,(a,b)) ((W.setCell ⟨w.heap.size,0,none⟩ (.int .u8 a)).setCell ⟨w.heap.size,1,none⟩ (.int .u8 b)):=
 ⟨by have:=(h.b0.set 0 (.int .u8 a)).set 1 (.int .u8 b);simpa using this,
  (QF _ _ _ _ (by simp)).trans ((QF _ _ _ _ (by simp)).trans h.b1),Q9 (Q9 h.s (by simp) _) (by simp) _,(h.bel.setCell (by simp) _).setCell (by simp) _⟩
theorem jM.fin (h:jM w s c W)(a b:Value):bu w.heap.size ((W.setCell ⟨w.heap.size+1,0,none⟩ a).setCell ⟨w.heap.size+1,1,none⟩ b).drew s c.1∧zB w ((W.setCell ⟨w.heap.size+1,0,none⟩ a).setCell ⟨w.heap.size+1,1,none⟩ b).drew∧Blk ((W.setCell ⟨w.heap.size+1,0,none⟩ a).setCell ⟨w.heap.size+1,1,none⟩ b).drew (w.heap.size+1) 28 [a,b]:=by
 have h2:bu (w.heap.size+2) ((W.setCell ⟨w.heap.size+1,0,none⟩ a).setCell ⟨w.heap.size+1,1,none⟩ b) s c.1:=Q9 (Q9 h.s (by simp) _) (by simp) _;refine⟨ag.mono (h2.keep (QA _ _).drew) (by omega),((h.bel.setCell (by simp) _).setCell (by simp) _).drew,?_⟩;have h3:Blk ((W.setCell ⟨w.heap.size+1,0,none⟩ a).setCell ⟨w.heap.size+1,1,none⟩ b) (w.heap.size+1) 28 [a,b]:=by
  have:=(h.b1.set 0 a).set 1 b
  simpa using this
 exact h3.below (QA _ _).drew
theorem jM.start (w:World)(a b:Int):jM w (.slice none 0 0) ([],(a,b)) ((w.alloc (.cells #[.int .u8 a,.int .u8 b] 28)).alloc (.cells #[.int .u8 0,.int .u8 0] 28)):=
 ⟨ym w [.int .u8 a,.int .u8 b] _ _,Ch w _ [.int .u8 0,.int .u8 0] _,ag.nil _ _,fe w _ _⟩
end
def Qb (w:World)(c:List Gly×Fce)(e:Ending)(w':World):Prop:=
 ∃x,e=.returned (.tuple #[x,.agg #[.int .u8 c.2.1,.int .u8 c.2.2]])∧bu w.heap.size w' x c.1∧zB w w'
theorem QTP {P:Prop}(h:P:=by
 simp only at hs';rw[hxl']at hs';subst hs';clear hrun hR2 hxl' HN hxl;go_wp2_with fail
 go_roundw
 case rel=>exact⟨j+1,by omega,by go_num,R2.out⟩
 case measure=>(simp[intOf];try omega)):P:=h
theorem MQ (p q:Int)(l:List Tok)(v:Value)(w:World)(hv:Ts w v l)(hl:l.length≤100000):
  Calls Tryz.prog 67 #[.agg #[.int .u8 p,.int .u8 q],v] w (Qb w (jL (p,q) l)):=by
 have HV:=zH hv;obtain⟨a,cap,rfl⟩:=hv.len;clear hv;go_enter Tryz.func67,Tryz.ntmps67
 go_wp2_with fail
 go_loopw [6,11] (fun s i wr=> ∃j:Nat,j≤l.length∧i=.int .i64 j∧jM w s (jL (p,q) (l.take j)) wr) (fun _ i _=>l.length-(intOf i).toNat)
 case atStart=>exact⟨0,by omega,rfl,jM.start w p q⟩
 case round=>
  obtain⟨j,hj,rfl,hR⟩:=hrel;have HL:Hid ((jL (p,q) (l.take j)).1.length≤100000):=zH (by have:=vG (p,q) (l.take j);simp only[QN]at this;omega);obtain⟨⟨X,A,B⟩,hS⟩:∃S,jL (p,q) (l.take j)=S:=⟨_,rfl⟩;rw[hS]at hR HL;have HR:=zH hR
  by_cases hlt:j<l.length
  ·obtain⟨⟨k,r⟩,hz⟩:∃z,l[j]? =some z:=⟨l[j],Qw hlt⟩
   obtain⟨g,off,rfl,z0,z1⟩:=Fs.t (Fs.below HV.out hR.bel) hz;have HN:=zH (II (f:=(p,q)) hz);rw[hS]at HN;have hi0:(j:Int)<(l.length:Int):=by omega
   have hi1:(0:Int)≤(j:Int):=by omega
   have bl:=ae wr (.cells #[.int .i64 k,.int .i32 r] 113);have hR1:=hR.keep bl;have c0:(wr.alloc (.cells #[.int .i64 k,.int .i32 r] 113)).cell? ⟨w.heap.size,0,none⟩=some (.int .u8 A):=hR1.b0.cell 0;have c1:(wr.alloc (.cells #[.int .i64 k,.int .i32 r] 113)).cell? ⟨w.heap.size,1,none⟩=some (.int .u8 B):=hR1.b0.cell 1;have f0:(wr.alloc (.cells #[.int .i64 k,.int .i32 r] 113)).frozen? ⟨w.heap.size,0,none⟩=false:=hR1.b0.frozen (by simp);have f1:(wr.alloc (.cells #[.int .i64 k,.int .i32 r] 113)).frozen? ⟨w.heap.size,1,none⟩=false:=hR1.b0.frozen (by simp);obtain⟨sa,sc,hs⟩:=(ag.sl ah hR.s).len;change _=Value.slice sa X.length sc at hs;obtain⟨xl,hxl⟩:∃xl,X.length=xl:=⟨_,rfl⟩;rw[hxl]at hs;subst hs;have R1:=zH hR1;clear HR hR hR1 hS bl hz
   by_cases k1:k=1
   ·subst k1
    obtain⟨s',W',hrun,hR2⟩:=R1.out.app r A (by have:=HL.out;simp only at this⊢;omega);have R2:Hid (jM w s' (mI (X,A,B) (1,r)) W'):=zH hR2;rw[←HN.out]at R2;have hrun':(appG #[.slice sa xl sc,.slice (some ⟨wr.heap.size+1,0,none⟩) 1 1]).run Tryz.prog ((wr.alloc (.cells #[.int .i64 1,.int .i32 r] 113)).alloc (.cells #[.int .i32 r,.int .u8 A] 35))=.ok (.value s') W':=by simpa using hrun
    obtain⟨sa',sc',hs'⟩:=(ag.sl ah hR2.s).len;obtain⟨xl',hxl'⟩:∃xl',(X++ [(r,A)]).length=xl':=⟨_,rfl⟩;exact QTP
   ·by_cases k2:k=2
    ·subst k2
     obtain⟨s',W',hrun,hR2⟩:=R1.out.app 32 0 (by have:=HL.out;simp only at this⊢;omega);have R2:Hid (jM w s' (mI (X,A,B) (2,r)) W'):=zH hR2;rw[←HN.out]at R2;have hrun':(appG #[.slice sa xl sc,.slice (some ⟨wr.heap.size+1,0,none⟩) 1 1]).run Tryz.prog ((wr.alloc (.cells #[.int .i64 2,.int .i32 r] 113)).alloc (.cells #[.int .i32 32,.int .u8 0] 35))=.ok (.value s') W':=by simpa using hrun
     obtain⟨sa',sc',hs'⟩:=(ag.sl ah hR2.s).len;obtain⟨xl',hxl'⟩:∃xl',(X++ [((32:Int),(0:Int))]).length=xl':=⟨_,rfl⟩;exact QTP
    ·by_cases k3:k=3
     ·subst k3
      have HT:=zH (Jz A B r (wr.alloc (.cells #[.int .i64 3,.int .i32 r] 113)));obtain⟨⟨A',B'⟩,hF⟩:∃F,mJ (A,B) r=F:=⟨_,rfl⟩;have HG:Hid (jL (p,q) (l.take (j+1))=(X,(A',B'))):=zH (by rw[HN.out];simp[mI,hF]);rw[hF]at HT;clear hF HN hxl k1 k2;go_wp2_with fail
      refine HT.out.mono ?_;rintro e w2 ⟨rfl,b2⟩;have hR2:=R1.out.keep b2;have R3:=zH (hR2.turn A' B');have g0:w2.cell? ⟨w.heap.size,0,none⟩=some (.int .u8 A):=hR2.b0.cell 0;have g1:w2.cell? ⟨w.heap.size,1,none⟩=some (.int .u8 B):=hR2.b0.cell 1;have e0:w2.frozen? ⟨w.heap.size,0,none⟩=false:=hR2.b0.frozen (by simp);have e1:w2.frozen? ⟨w.heap.size,1,none⟩=false:=hR2.b0.frozen (by simp);clear hR2 b2 HT c0 c1 f0 f1;go_wp2_with fail
      go_roundw
      case rel=>exact⟨j+1,by omega,by go_num,by rw[HG.out];exact R3.out⟩
      case measure=>(simp[intOf];try omega)
     ·have R2:Hid (jM w (.slice sa xl sc) (mI (X,A,B) (k,r)) (wr.alloc (.cells #[.int .i64 k,.int .i32 r] 113))):=zH (by simp only[mI,QG k1,QG k2,QG k3];exact R1.out)
      rw[←HN.out]at R2;clear HN hxl;go_wp2_with fail
      go_roundw
      case rel=>exact⟨j+1,by omega,by go_num,R2.out⟩
      case measure=>(simp[intOf];try omega)
  ·obtain rfl:j=l.length:=by omega
   have c0:wr.cell? ⟨w.heap.size,0,none⟩=some (.int .u8 A):=hR.b0.cell 0;have c1:wr.cell? ⟨w.heap.size,1,none⟩=some (.int .u8 B):=hR.b0.cell 1;have d0:wr.cell? ⟨w.heap.size+1,0,none⟩=some (.int .u8 0):=hR.b1.cell 0;have d1:wr.cell? ⟨w.heap.size+1,1,none⟩=some (.int .u8 0):=hR.b1.cell 1;have f0:wr.frozen? ⟨w.heap.size+1,0,none⟩=false:=hR.b1.frozen (by simp);have f1:wr.frozen? ⟨w.heap.size+1,1,none⟩=false:=hR.b1.frozen (by simp);obtain⟨sa,sc,hs⟩:=(ag.sl ah hR.s).len;change _=Value.slice sa X.length sc at hs;obtain⟨xl,hxl⟩:∃xl,X.length=xl:=⟨_,rfl⟩;rw[hxl]at hs;subst hs;rw[QT]at hS;have HS:=zH hS;obtain⟨o1,o2,o3⟩:=hR.fin (.int .u8 A) (.int .u8 B);have HO:=zH o1;have HBl:=zH o2;have HBK:=zH o3;clear o1 o2 o3;clear hR hS hxl;go_wp2_with fail
   go_region
   go_wp2_with fail
   have k0:=HBK.out.cell 0;have k1:=HBK.out.cell 1;simp at k0 k1;exact Rb (v:= .tuple #[.slice sa xl sc,.agg #[.int .u8 A,.int .u8 B]]) (by simp[results,Tryz.results67,go_sem,k0,k1]) rfl (by rw[HS.out];exact⟨_,rfl,HO.out,HBl.out⟩)
end
theorem KN:(Tryz.prog.info? 21).map (fun i=>(i.zero,i.size,i.bytes))=some (some (.int .i32 0),1,4):=by kernel_rfl
theorem Sl.len {k:IntKind}{w:World}{v:Value}{l:List Int}(h:Sl k w v l):∃a cap,v=.slice a l.length cap:=by
 obtain⟨a,cap,rfl,_⟩:=h;exact⟨a,cap,rfl⟩
theorem Sl.at {k:IntKind}{w:World}{a:Option Addr}{m cap:Nat}{l:List Int}(h:Sl k w (.slice a m cap) l){j:Nat}{z:Int}(hj:l[j]? =some z):∃g off,a=some ⟨g,off,none⟩∧w.cell? ⟨g,off+j,none⟩=some (.int k z):=by
 obtain⟨a',cap',hv,_,hr⟩:=h;injection hv with h1 h2 h3
 subst h1;exact hr j z hj
noncomputable def LQ (x lo:Value):Sem Value:=Instr.slice 102 x (some lo) none none
theorem AJ (x lo:Value):Instr.slice 102 x (some lo) none none=LQ x lo:=rfl
noncomputable def Ic (x lo hi:Value):Sem Value:=Instr.slice 102 x (some lo) (some hi) none
theorem Dh (x lo hi:Value):Instr.slice 102 x (some lo) (some hi) none=Ic x lo hi:=rfl
theorem yw {w:World}{v:Value}{l:List Int}(h:Sl .i32 w v l)(q:Nat)(hq:q≤l.length):
  ∃u,(∀W:World,(LQ v (.int .i64 (q:Int))).run Tryz.prog W=.ok u W)∧Sl .i32 w u (l.drop q):=by
 obtain⟨i0,hi,hz0,hz1,hz2⟩:=Rj KN;obtain⟨a,cap,rfl,hc,hr⟩:=h;refine⟨.slice (if cap=q then a else a.map (·.add q)) (l.length-q) (cap-q),fun W=>?_,?_⟩
 ·have h1:q≤cap:=by omega
  unfold LQ;simp[Instr.slice,Instr.sliceBounds,Instr.sliceBound,asIntOf,Rv Tryz.underlying102,h1,hq,sizeOf,typeInfo,hi,hz1]
 ·have hl:(l.drop q).length=l.length-q:=by rw[QM]
  refine⟨_,_,by rw[hl],by rw[hl];omega,fun j x hj=>?_⟩;have hj1:j<l.length-q:=by
   have:=(Qu.1 hj).1;omega
  rw[Ry]at hj;obtain⟨g,off,rfl,h0⟩:=hr (q+j) x hj;rw[QG (by omega)];refine⟨g,off+q,?_,?_⟩
  ·simp only[Sr,Rw]
   rw[RY]
  ·rw[show off+q+j=off+(q+j) by omega]
   exact h0
theorem Kl {w:World}{v:Value}{l:List Int}(h:Sl .i32 w v l)(q k:Nat)(hq:q≤k)(hk:k≤l.length):
  ∃u,(∀W:World,(Ic v (.int .i64 (q:Int)) (.int .i64 (k:Int))).run Tryz.prog W=.ok u W)∧Sl .i32 w u ((l.take k).drop q):=by
 obtain⟨i0,hi,hz0,hz1,hz2⟩:=Rj KN;obtain⟨a,cap,rfl,hc,hr⟩:=h;refine⟨.slice (if cap=q then a else a.map (·.add q)) (k-q) (cap-q),fun W=>?_,?_⟩
 ·have h1:k≤cap:=by omega
  unfold Ic;simp[Instr.slice,Instr.sliceBounds,Instr.sliceBound,asIntOf,Rv Tryz.underlying102,h1,hq,sizeOf,typeInfo,hi,hz1]
 ·have hl:((l.take k).drop q).length=k-q:=by rw[QM,QN];omega
  refine⟨_,_,by rw[hl],by rw[hl];omega,fun j x hj=>?_⟩;have hj1:j<k-q:=by
   have:=(Qu.1 hj).1;omega
  rw[Ry,Ti (by omega)]at hj;obtain⟨g,off,rfl,h0⟩:=hr (q+j) x hj;rw[QG (by omega)];refine⟨g,off+q,?_,?_⟩
  ·simp only[Sr,Rw]
   rw[RY]
  ·rw[show off+q+j=off+(q+j) by omega]
   exact h0
def ixI (p:Nat)(o:Option Nat):Int:=match o with
 | some k=>(k+p:Nat)
 | none=> -1
theorem sO (c:Int)(r:List Int):ix (c::r)=if c=93 then some 0 else(ix r).map (· +1):=rfl
theorem O3 {l:List Int}{j:Nat}(h:l[j]? =some 93):ix (l.drop j)=some 0:=by rw[nK h,sO,QP rfl]
theorem ND {l:List Int}{j:Nat}{z:Int}(h:l[j]? =some z)(hz:z≠93):ix (l.drop j)=(ix (l.drop (j+1))).map (· +1):=by rw[nK h,sO,QG hz]
theorem KJ (p:Nat)(o:Option Nat):ixI p (o.map (· +1))=ixI (p+1) o:=by
 cases o with
 | none=>rfl
 | some k=>simp only[ixI,Sr];omega
theorem vP (l:List Int)(v:Value)(w:World)(hv:Sl .i32 w v l)(hl:l.length≤200000):
  Calls Tryz.prog 206 #[v,.int .i32 93] w fun e w'=>e=.returned (.int .i64 (ixI 0 (ix l)))∧w=w':=by
 have HV:=zH hv;obtain⟨a,cap,rfl⟩:=hv.len;obtain⟨X,hX⟩:∃X,ixI 0 (ix l)=X:=⟨_,rfl⟩;rw[hX];clear hv;go_enter Tryz.func206,Tryz.ntmps206
 go_wp2_with fail
 go_loopw [8] (fun i wr=> ∃j:Nat,j≤l.length∧i=.int .i64 j∧wr=w∧ixI j (ix (l.drop j))=X) (fun i _=>l.length-(intOf i).toNat)
 case atStart=>exact⟨0,by omega,rfl,rfl,by simpa using hX⟩
 case round=>
  obtain⟨j,hj,rfl,rfl,hx⟩:=hrel;have HX:=zH hx;clear hx hX
  by_cases hlt:j<l.length
  ·obtain⟨z,hz⟩:∃z,l[j]? =some z:=⟨l[j],Qw hlt⟩
   obtain⟨g,off,rfl,c0⟩:=HV.out.at hz;have hi0:(j:Int)<(l.length:Int):=by omega
   have hi1:(0:Int)≤(j:Int):=by omega
   by_cases he:z=93
   ·subst he
    have hres:=zH (show(j:Int)=X by
     have:=HX.out;rw[O3 hz]at this
     simpa[ixI] using this)
    clear hz;go_wp2_with fail
    go_ret;exact⟨Fq hres.out,rfl⟩
   ·have hres:=zH (show ixI (j+1) (ix (l.drop (j+1)))=X by
     have:=HX.out;rw[ND hz he,KJ]at this;exact this)
    have he':((93:Int)==z)=false:=by simpa using fun h:(93:Int)=z=>he h.symm
    clear hz he;go_wp2_with fail
    go_roundw
    case rel=>exact⟨j+1,by omega,by go_num,by first | trivial | rfl,hres.out⟩
    case measure=>simp[intOf];omega
  ·obtain rfl:j=l.length:=by omega
   have hres:=zH (show(-1:Int)=X by
    have:=HX.out;rw[Sz]at this
    simpa[ixI,ix] using this)
   go_wp2_with fail
   go_ret;exact⟨Fq hres.out,rfl⟩
section
attribute [local go_sem ↓ high] AJ Dh
section
variable {w0:World}{B:Nat}{tv:Value}{L:List Int}{nx:Int}{T:List Tok}{D:List Dg}
theorem uC (q:Nat)(w:World)(h:Rd w0 B tv L w nx T D)(hq:q≤L.length)(hL:L.length≤100000)(hn:jc (L.drop q)=none):
  Calls Tryz.prog 173 #[.pointer (some ⟨B,0,none⟩),.int .i64 (q:Int)] w (iD w0 B tv L nx T D (.tuple #[.string ⟨#[]⟩,.bool false])):=by
 have HR:=zH h;obtain⟨vt,vd,vm,hv⟩:=h;have c0:w.cell? ⟨B,0,none⟩=some tv:=hv.blk.cell 0;obtain⟨u,ku,su⟩:=yw hv.text q hq;have hdl:(L.drop q).length=L.length-q:=by rw[QM]
 obtain⟨S,hS⟩:∃S,L.drop q=S:=⟨_,rfl⟩;rw[hS]at su hdl hn;obtain⟨at_,ct,rfl⟩:=hv.sl.len;clear hv hS
 cases S with
 | nil=>
  obtain⟨au,cu,rfl⟩:=su.len;clear su hn;simp only[QH]at ku;go_enter Tryz.func173,Tryz.ntmps173
  go_wp2_with fail
  go_ret2
  exact⟨rfl,HR.out⟩
 | cons c r=>
  have HI:=zH (vP (c::r) u w su (by omega));obtain⟨au,cu,rfl⟩:=su.len;obtain⟨g,off,rfl,cc⟩:=su.at (j:=0) (z:=c) rfl;rw[lu]at hn;have cc':w.cell? ⟨g,off,none⟩=some (.int .i32 c):=cc;obtain⟨N,hN⟩:∃N,(c::r).length=N:=⟨_,rfl⟩;rw[hN]at ku hdl;simp only[QC]at hN;clear su cc;rw[show(Value.slice (some (⟨g,off,none⟩:Addr)) (c::r).length cu)=.slice (some ⟨g,off,none⟩) N cu by rw[←hN];rfl]at HI;have hz:((N:Int)==0)=false:=by simp;omega
  have hz1:(0:Int)<(N:Int):=by omega
  have hz9:N≤100000:=by omega
  have HN:=zH hN;clear hdl hN
  by_cases h40:c=40
  ·subst h40
   rw[QP rfl]at hn;have hlen:r.length<2:=by
    by_cases hlen:r.length<2
    ·exact hlen
    ·rw[QG hlen]at hn;cases hn
   have hz2:(N:Int)<3:=by have:=HN.out;omega
   clear hn HI;go_enter Tryz.func173,Tryz.ntmps173
   go_wp2_with fail
   go_ret2
   exact⟨rfl,HR.out⟩
  ·rw[QG h40]at hn
   have e40:(c==40)=false:=by simpa using h40
   by_cases h91:c=91
   ·subst h91
    rw[QP rfl]at hn;have hix:ix (91::r)=none:=by
     rw[sO,QG (by decide)]
     cases hr:ix r with
     | none=>rfl
     | some k=>rw[hr]at hn;cases hn
    rw[hix]at HI;have HI':Hid (Calls Tryz.prog 206 #[.slice (some ⟨g,off,none⟩) N cu,.int .i32 93] w fun e w'=>e=.returned (.int .i64 (-1))∧w=w'):=HI;clear hn HI h40 hix;go_enter Tryz.func173,Tryz.ntmps173
    go_wp2_with fail
    refine HI'.out.mono ?_;rintro e w' ⟨rfl,rfl⟩;clear HI';go_wp2_with fail
    go_ret2
    exact⟨rfl,HR.out⟩
   ·rw[QG h91]at hn
    cases hn
theorem QTQ {P:Prop}(h:P:=by
 rw[e2]at s2;have k3:=kT (s2.below (by unfold zB;rw[HB.out];exact HX.out.bel));clear HI k2 s2 HM HNX e2;go_enter Tryz.func173,Tryz.ntmps173
 go_wp2_with fail
 go_ret2
 exact⟨rfl,_,_,_,HX.out⟩):P:=h
theorem uB (q:Nat)(w:World)(h:Rd w0 B tv L w nx T D)(hq:q≤L.length)(hL:L.length≤100000){n:List Int}{k:Nat}(hn:jc (L.drop q)=some (n,k)):
  Calls Tryz.prog 173 #[.pointer (some ⟨B,0,none⟩),.int .i64 (q:Int)] w (iD w0 B tv L ((q+k:Nat):Int) T D (.tuple #[.string ⟨(enc n).toArray⟩,.bool true])):=by
 obtain⟨vt,vd,vm,hv⟩:=h;have c0:w.cell? ⟨B,0,none⟩=some tv:=hv.blk.cell 0;have c1:w.cell? ⟨B,1,none⟩=some (.int .i64 nx):=hv.blk.cell 1;have f1:w.frozen? ⟨B,1,none⟩=false:=hv.blk.frozen (by simp);obtain⟨u,ku,su0⟩:=yw hv.sl q hq;have su:=su0.below (by unfold zB;rw[hv.hB];exact hv.bel);have hdl:(L.drop q).length=L.length-q:=by rw[QM]
 obtain⟨S,hS⟩:∃S,L.drop q=S:=⟨_,rfl⟩;rw[hS]at su su0 hdl hn;obtain⟨at_,ct,rfl⟩:=hv.sl.len;have HNX:=zH (fun x=>RdV.next hv x);have HM:=zH (fun(a b:Nat) (hab:a≤b) (hb:b≤S.length)=>Kl su0 a b hab hb);have HB:=zH hv.hB;clear hv hS su0
 cases S with
 | nil=>cases hn
 | cons c r=>
  have HI:=zH (vP (c::r) u w su (by omega));obtain⟨au,cu,rfl⟩:=su.len;obtain⟨g,off,rfl,cc⟩:=su.at (j:=0) (z:=c) rfl;rw[lu]at hn;have cc':w.cell? ⟨g,off,none⟩=some (.int .i32 c):=cc;obtain⟨N,hN⟩:∃N,(c::r).length=N:=⟨_,rfl⟩;rw[hN]at ku hdl HM;simp only[QC]at hN;clear su cc;rw[show(Value.slice (some (⟨g,off,none⟩:Addr)) (c::r).length cu)=.slice (some ⟨g,off,none⟩) N cu by rw[←hN];rfl]at HI;have hz:((N:Int)==0)=false:=by simp;omega
  have hz1:(0:Int)<(N:Int):=by omega
  have hz9:N≤100000:=by omega
  have HN:=zH hN;clear hdl hN
  by_cases h40:c=40
  ·subst h40
   rw[QP rfl]at hn;have hlen:2≤r.length:=by
    by_cases hlen:r.length<2
    ·rw[QP hlen]at hn;cases hn
    ·omega
   rw[QG (by omega)]at hn;simp only[Rw,Sm]at hn;obtain⟨rfl,rfl⟩:=hn;have hz2:¬(N:Int)<3:=by have:=HN.out;omega
   have HX:=zH (HNX.out ((q:Int)+3));obtain⟨u2,k2,s2⟩:=HM.out 1 3 (by omega) (by have:=HN.out;omega);have k2':∀W:World,(Ic (.slice (some ⟨g,off,none⟩) N cu) (.int .i64 1) (.int .i64 3)).run Tryz.prog W=.ok u2 W:=k2;have e2:((40::r).take 3).drop 1=r.take 2:=by simp
   exact QTQ
  ·rw[QG h40]at hn
   have e40:(c==40)=false:=by simpa using h40
   by_cases h91:c=91
   ·subst h91
    rw[QP rfl]at hn;obtain⟨j,hj⟩:∃j,ix r=some j:=by
     cases hr:ix r with
     | none=>rw[hr]at hn;cases hn
     | some j=>exact⟨j,rfl⟩
    rw[hj]at hn;simp only[Rw,Sm]at hn;obtain⟨rfl,rfl⟩:=hn;have hjl:=KH r j hj;have hix:ix (91::r)=some (j+1):=by rw[sO,QG (by decide),hj];rfl
    rw[hix]at HI;have HI':Hid (Calls Tryz.prog 206 #[.slice (some ⟨g,off,none⟩) N cu,.int .i32 93] w fun e w'=>e=.returned (.int .i64 ((j:Int)+1))∧w=w'):=HI;have HX:=zH (HNX.out ((q:Int)+((j:Int)+1+1)));rw[show(q:Int)+((j:Int)+1+1)=((q+(j+2):Nat):Int) by omega]at HX;have hE:=zH (show((q+(j+2):Nat):Int)=(q:Int)+((j:Int)+1+1) by omega);obtain⟨u2,k2,s2⟩:=HM.out 1 (j+1) (by omega) (by have:=HN.out;omega);have k2':∀W:World,(Ic (.slice (some ⟨g,off,none⟩) N cu) (.int .i64 1) (.int .i64 ((j:Int)+1))).run Tryz.prog W=.ok u2 W:=k2;have e2:((91::r).take (j+1)).drop 1=r.take j:=by simp
    rw[e2]at s2;have k3:=kT (s2.below (by unfold zB;rw[HB.out];exact HX.out.bel));rw[hE.out]at k3;have hj1:¬(N:Int)<(j:Int)+1:=by have:=HN.out;omega
    have hj2:¬(j:Int)+1<1:=by omega
    have hj3:(j:Int)≤100000:=by omega
    have hj4:(0:Int)≤(j:Int):=by omega
    have hq4:(q:Int)≤100000:=by omega
    clear HI h40 hix HM HNX e2 k2 s2 hj hjl hz1;go_enter Tryz.func173,Tryz.ntmps173
    go_wp2_with fail
    refine HI'.out.mono ?_;rintro e w' ⟨rfl,rfl⟩;clear HI';go_wp2_with fail
    go_ret2
    have:=HX.out;rw[hE.out]at this;exact⟨rfl,vt,vd,vm,by rw[hE.out];exact this⟩
   ·rw[QG h91]at hn
    simp only[Rw,Sm]at hn;obtain⟨rfl,rfl⟩:=hn;have e91:(c==91)=false:=by simpa using h91
    have hz2:¬(N:Int)<1:=by have:=HN.out;omega
    have HX:=zH (HNX.out ((q:Int)+1));obtain⟨u2,k2,s2⟩:=HM.out 0 1 (by omega) (by have:=HN.out;omega);have k2':∀W:World,(Ic (.slice (some ⟨g,off,none⟩) N cu) (.int .i64 0) (.int .i64 1)).run Tryz.prog W=.ok u2 W:=k2;have e2:((c::r).take 1).drop 0=[c]:=by simp
    exact QTQ
end
end
section
variable {w0:World}{B:Nat}{tv:Value}{L:List Int}{nx:Int}{T:List Tok}{D:List Dg}
theorem QTK {P:Prop}(h:P:=by
 go_wp2_with fail
 refine HN'.out.mono ?_;rintro e w1 ⟨rfl,h1⟩;have HW':=zH (HW.out w1 h1);clear HN' HW h1;go_wp2_with fail
 refine HW'.out.mono ?_;rintro e w2 ⟨rfl,h2⟩;have H2:=zH h2;clear HW' h2;go_wp2_with fail
 go_ret;exact⟨rfl,H2.out⟩):P:=h
theorem DL (p:Nat)(w:World)(h:Rd w0 B tv L w nx T D)(hp:p+1≤L.length)(hL:L.length≤20000)(hD:D.length≤20000)(hn:jc (L.drop (p+1))=none):
  Calls Tryz.prog 136 #[.pointer (some ⟨B,0,none⟩),.int .i64 (p:Int)] w (iD w0 B tv L nx T (D++dgs p [1]) (.bool false)):=by
 have HN:=zH (uC (p+1) w h hp (by omega) hn);have HN':Hid (Calls Tryz.prog 173 #[.pointer (some ⟨B,0,none⟩),.int .i64 ((p:Int)+1)] w (iD w0 B tv L nx T D (.tuple #[.string ⟨#[]⟩,.bool false]))):=HN;have HW:=zH (fun W (h:Rd w0 B tv L W nx T D)=>gV 1 p W h (by omega) (by omega));have hp9:(p:Int)≤20000:=by omega
 clear h hn HN;go_enter Tryz.func136,Tryz.ntmps136
 exact QTK
theorem QTL {P:Prop}(h:P:=by
 have HC4:=zH (HC.out x w4 H4.out);rw[hx];simp only[Sj,RZ];clear HC HW H4 hx;go_wp2_with fail
 refine HC4.out.mono ?_;rintro e w5 ⟨rfl,h5⟩;have H5:=zH h5;clear HC4 h5;go_wp2_with fail
 go_ret;exact⟨rfl,by simpa[dgs] using H5.out⟩):P:=h
theorem QTM {P:Prop}(h:P:=by
 have HW4:=zH (HW.out w4 H4.out);rw[hx];simp only[RL,RF];clear HC HW H4 hx;go_wp2_with fail
 refine HW4.out.mono ?_;rintro e w5 ⟨rfl,h5⟩;have H5:=zH h5;clear HW4 h5;go_wp2_with fail
 go_ret;exact⟨rfl,by rw[QW];exact H5.out⟩):P:=h
theorem uU (p:Nat)(w:World)(h:Rd w0 B tv L w nx T D)(hp:p+1≤L.length)(hL:L.length≤20000)(hT:T.length≤20000)(hD:D.length≤20000){n:List Int}{k:Nat}(hn:jc (L.drop (p+1))=some (n,k))
  {t:List Tok} {d:List Int} (hr:(∃x,Bo (enc n)=some x∧t=[(1,x)]∧d=[])∨(Bo (enc n)=none∧t=[]∧d=[2])):
  Calls Tryz.prog 136 #[.pointer (some ⟨B,0,none⟩),.int .i64 (p:Int)] w (iD w0 B tv L ((p+1+k:Nat):Int) (T++t) (D++dgs p d) (.bool true)):=by
 have HN:=zH (uB (p+1) w h hp (by omega) hn);have HN':Hid (Calls Tryz.prog 173 #[.pointer (some ⟨B,0,none⟩),.int .i64 ((p:Int)+1)] w (iD w0 B tv L ((p+1+k:Nat):Int) T D (.tuple #[.string ⟨(enc n).toArray⟩,.bool true]))):=HN;have hnl:=uV hn;rw[QM]at hnl;have hel:=NQ n;obtain⟨b,hb⟩:∃b,enc n=b:=⟨_,rfl⟩;rw[hb]at HN' hr hel;obtain⟨nx',hnx⟩:∃nx',((p+1+k:Nat):Int)=nx':=⟨_,rfl⟩;rw[hnx]at HN'⊢;have HF:=zH (fun M W (h:Nms W M)=>La b M W h (by unfold maxLen;omega));have HS:=zH (fun W=>Hl W);have HW:=zH (fun W (h:Rd w0 B tv L W nx' T D)=>gV 2 p W h (by omega) (by omega));have HC:=zH (fun c W (h:Rd w0 B tv L W nx' T D)=>qp c W h (by omega));have hp9:(p:Int)≤20000:=by omega
 clear h hn HN hb hnx hnl;go_enter Tryz.func136,Tryz.ntmps136
 go_wp2_with fail
 refine HN'.out.mono ?_;rintro e w1 ⟨rfl,vt,vd,vm,hv⟩;clear HN';have c4:w1.cell? ⟨B,4,none⟩=some vm:=hv.blk.cell 4;have HV:=zH hv;have hvm:=hv.mp;clear hv;rcases hvm with rfl | ⟨M,rfl,hBM,hM⟩
 ·have hq:(binOp .eql 159 (.map none) (.map none)).run Tryz.prog w1=.ok (.bool true) w1:=run_eql_map_nil w1 159 9 21 none Tryz.underlying159
  have HS1:=zH (HS.out w1);clear HS;go_wp2_with fail
  refine HS1.out.mono ?_;rintro e w2 ⟨M,rfl,hM,hm,b2⟩;have hv2:=HV.out.keep b2;have hlt:=HV.out.lt;have c42:w2.cell? ⟨B,4,none⟩=some (.map none):=hv2.blk.cell 4;have f42:w2.frozen? ⟨B,4,none⟩=false:=hv2.blk.frozen (by simp);have HV3:=zH (hv2.names (M:=M) (by omega) hm);obtain⟨W3,hW3⟩:∃W3,w2.setCell ⟨B,4,none⟩ (.map (some M))=W3:=⟨_,rfl⟩;rw[hW3]at HV3;have c43:W3.cell? ⟨B,4,none⟩=some (.map (some M)):=HV3.out.blk.cell 4;have hM3:Nms W3 M:=by
   rcases HV3.out.mp with h0 | ⟨M',h0,_,h1⟩
   ·cases h0
   ·cases h0;exact h1
  have HF3:=zH (HF.out M W3 hM3);have HW3:=zH hW3;have HR3:Hid (Rd w0 B tv L W3 nx' T D):=zH ⟨_,_,_,HV3.out⟩;clear HS1 hm b2 hv2 hM hlt HF HV c4 hq hM3 hW3 HV3;go_wp2_with fail
  rw[HW3.out];refine HF3.out.mono ?_;rintro e w4 ⟨rfl,b4⟩;have H4:Hid (Rd w0 B tv L w4 nx' T D):=zH (by
   obtain⟨_,_,_,h⟩:=HR3.out;exact⟨_,_,_,h.keep b4⟩)
  clear HF3 HR3 HW3 c43 c42 f42 b4;rcases hr with⟨x,hx,rfl,rfl⟩| ⟨hx,rfl,rfl⟩
  ·exact QTL
  ·exact QTM
 ·have hq:(binOp .eql 159 (.map (some M)) (.map none)).run Tryz.prog w1=.ok (.bool false) w1:=run_eql_map_nil w1 159 9 21 (some M) Tryz.underlying159
  have HF3:=zH (HF.out M w1 hM);have HR3:Hid (Rd w0 B tv L w1 nx' T D):=zH ⟨_,_,_,HV.out⟩;clear HS HF HV hM hBM;go_wp2_with fail
  refine HF3.out.mono ?_;rintro e w4 ⟨rfl,b4⟩;have H4:Hid (Rd w0 B tv L w4 nx' T D):=zH (by
   obtain⟨_,_,_,h⟩:=HR3.out;exact⟨_,_,_,h.keep b4⟩)
  clear HF3 HR3 c4 hq b4;rcases hr with⟨x,hx,rfl,rfl⟩| ⟨hx,rfl,rfl⟩
  ·exact QTL
  ·exact QTM
end
section
attribute [local go_sem ↓ high] iM bN
section
variable {w0:World}{B:Nat}{tv:Value}{L:List Int}{nx:Int}{T:List Tok}{D:List Dg}
theorem Dv (p:Nat)(w:World)(h:Rd w0 B tv L w nx T D)(hp:p+2≤L.length)(hL:L.length≤20000)(hD:D.length≤20000)(hn:jc (L.drop (p+2))=none):
  Calls Tryz.prog 137 #[.pointer (some ⟨B,0,none⟩),.int .i64 (p:Int)] w (iD w0 B tv L nx T (D++dgs p [1]) (.bool false)):=by
 have HN:=zH (uC (p+2) w h hp (by omega) hn);have HN':Hid (Calls Tryz.prog 173 #[.pointer (some ⟨B,0,none⟩),.int .i64 ((p:Int)+2)] w (iD w0 B tv L nx T D (.tuple #[.string ⟨#[]⟩,.bool false]))):=HN;have HW:=zH (fun W (h:Rd w0 B tv L W nx T D)=>gV 1 p W h (by omega) (by omega));have hp9:(p:Int)≤20000:=by omega
 clear h hn HN;go_enter Tryz.func137,Tryz.ntmps137
 exact QTK
theorem uF (p:Nat)(w:World)(h:Rd w0 B tv L w nx T D)(hp:p+2≤L.length)(hL:L.length≤20000)(hT:T.length≤20000)(hD:D.length≤20000){n:List Int}{k:Nat}(hn:jc (L.drop (p+2))=some (n,k))
  {t:List Tok} {d:List Int} (hr:(∃x,zO (enc n)=some x∧t=[(3,x)]∧d=[])∨(zO (enc n)=none∧t=[]∧d=[2])):
  Calls Tryz.prog 137 #[.pointer (some ⟨B,0,none⟩),.int .i64 (p:Int)] w (iD w0 B tv L ((p+2+k:Nat):Int) (T++t) (D++dgs p d) (.bool true)):=by
 have HN:=zH (uB (p+2) w h hp (by omega) hn);have HN':Hid (Calls Tryz.prog 173 #[.pointer (some ⟨B,0,none⟩),.int .i64 ((p:Int)+2)] w (iD w0 B tv L ((p+2+k:Nat):Int) T D (.tuple #[.string ⟨(enc n).toArray⟩,.bool true]))):=HN;obtain⟨b,hb⟩:∃b,enc n=b:=⟨_,rfl⟩;rw[hb]at HN' hr;obtain⟨nx',hnx⟩:∃nx',((p+2+k:Nat):Int)=nx':=⟨_,rfl⟩;rw[hnx]at HN'⊢;have HF:=zH (fun W=>K7 b W);have HW:=zH (fun W (h:Rd w0 B tv L W nx' T D)=>gV 2 p W h (by omega) (by omega));have hp9:(p:Int)≤20000:=by omega
 clear h hn HN hb hnx;go_enter Tryz.func137,Tryz.ntmps137
 go_wp2_with fail
 refine HN'.out.mono ?_;rintro e w1 ⟨rfl,h1⟩;have H1:=zH h1;have HF1:=zH (HF.out w1);clear HN' HF h1;go_wp2_with fail
 refine HF1.out.mono ?_;rintro e w2 ⟨rfl,rfl⟩;clear HF1;rcases hr with⟨x,hx,rfl,rfl⟩| ⟨hx,rfl,rfl⟩
 ·obtain⟨vt,vd,vm,hv⟩:=H1.out
  have c2:w1.cell? ⟨B,2,none⟩=some vt:=hv.blk.cell 2;obtain⟨vt',w3,k3,q3,f3,r3⟩:=hv.say 3 x (by omega);obtain⟨a1,n1,rfl⟩:=(ag.sl eB hv.tk).len;obtain⟨a2,n2,rfl⟩:=(ag.sl eB r3.tk).len;obtain⟨m,hm⟩:∃m,(T++ [(3,x)]).length=m:=⟨_,rfl⟩;rw[hm]at k3 r3;have R3:=zH r3;rw[hx];simp only[Sj,RZ];clear HW H1 hx hv hm r3;go_wp2_with fail
  go_ret;exact⟨rfl,_,_,_,by simpa[dgs] using R3.out⟩
 ·have HW4:=zH (HW.out w1 H1.out)
  rw[hx];simp only[RL,RF];clear HW H1 hx;go_wp2_with fail
  refine HW4.out.mono ?_;rintro e w5 ⟨rfl,h5⟩;have H5:=zH h5;clear HW4 h5;go_wp2_with fail
  go_ret;exact⟨rfl,by rw[QW];exact H5.out⟩
end
end
section
variable {w0:World}{B:Nat}{tv:Value}{L:List Int}{nx:Int}{T:List Tok}{D:List Dg}
theorem Rd.drewN {W:World}(h:Rd w0 B tv L W nx T D)(q:Nat):Rd w0 B tv L (W.drewN q) nx T D:=by
 obtain⟨vt,vd,vm,hv⟩:=h;exact⟨vt,vd,vm,hv.keep (below_drewN (QA _ W) q)⟩
theorem QTO {P:Prop}(h:P:=by
 go_wp2_with fail
 go_quiet (fail)
 go_wp2_with fail
 refine(HC.out _ (HX.out.drewN _)).mono ?_;rintro e w5 ⟨rfl,h5⟩;have H5:=zH h5;clear h5 HC HX;go_wp2_with fail
 go_ret;exact⟨rfl,H5.out⟩):P:=h
theorem Lf (p:Nat)(d x:Int)(w:World)(h:Rd w0 B tv L w nx T D)(hd:L[p+1]? =some d)(hL:L.length≤20000)(hT:T.length≤20000)(hD:D.length≤20000)
  (hx:(d=92∧x=92)∨(d=101∧x=92)∨(d=45∧x=45)∨(d=96∧x=96)∨(d=46∧x=46)∨(d=39∧x=180)∨(d=32∧x=160)∨(d=126∧x=160)∨(d=48∧x=160)):
  Calls Tryz.prog 101 #[.pointer (some ⟨B,0,none⟩),.int .i64 (p:Int)] w (iD w0 B tv L ((p:Int)+2) (T++ [(1,x)]) D (.bool true)):=by
 have hlt:=(Qu.1 hd).1;have h0:=h;obtain⟨vt,vd,vm,hv⟩:=h;have c0:w.cell? ⟨B,0,none⟩=some tv:=hv.blk.cell 0;have c1:w.cell? ⟨B,1,none⟩=some (.int .i64 nx):=hv.blk.cell 1;have f1:w.frozen? ⟨B,1,none⟩=false:=hv.blk.frozen (by simp);obtain⟨at_,ct,rfl⟩:=hv.sl.len;obtain⟨g,off,rfl,c50⟩:=hv.sl.at hd;have hg:g<w0.heap.size:=QJ _ _ c50;rw[hv.hB]at hg;have c5:w.cell? ⟨g,off+(p+1),none⟩=some (.int .i32 d):=(hv.bel.cell (p:=⟨g,off+(p+1),none⟩) hg).trans c50;have hgB:¬g=B:=by omega
 have hgB':¬B=g:=by omega
 have HX:Hid (Rd w0 B (.slice (some ⟨g,off,none⟩) L.length ct) L (w.setCell ⟨B,1,none⟩ (.int .i64 ((p:Int)+2))) ((p:Int)+2) T D):=zH ⟨vt,vd,vm,hv.next _⟩;have HC:=zH (fun W (h:Rd w0 B (.slice (some ⟨g,off,none⟩) L.length ct) L W ((p:Int)+2) T D)=>qp x W h (by omega));have hz1:¬(L.length:Int)<(p:Int)+2:=by omega
 have hz2:(p:Int)+1<(L.length:Int):=by omega
 have hz3:(p:Int)≤20000:=by omega
 have hz4:(0:Int)≤(p:Int):=by omega
 clear hv c50 hd hg h0;rcases hx with⟨rfl,rfl⟩| ⟨rfl,rfl⟩| ⟨rfl,rfl⟩| ⟨rfl,rfl⟩| ⟨rfl,rfl⟩| ⟨rfl,rfl⟩| ⟨rfl,rfl⟩| ⟨rfl,rfl⟩| ⟨rfl,rfl⟩
 all_goals
  go_enter Tryz.func101,Tryz.ntmps101
  exact QTO
theorem Cc (p:Nat)(d:Int)(w:World)(h:Rd w0 B tv L w nx T D)(hd:L[p+1]? =some d)(hL:L.length≤20000)(hT:T.length≤20000)(hD:D.length≤20000)
  (hx:d=38∨d=37∨d=47∨d=44∨d=58):
  Calls Tryz.prog 101 #[.pointer (some ⟨B,0,none⟩),.int .i64 (p:Int)] w (iD w0 B tv L ((p:Int)+2) T D (.bool true)):=by
 have hlt:=(Qu.1 hd).1;have h0:=h;obtain⟨vt,vd,vm,hv⟩:=h;have c0:w.cell? ⟨B,0,none⟩=some tv:=hv.blk.cell 0;have c1:w.cell? ⟨B,1,none⟩=some (.int .i64 nx):=hv.blk.cell 1;have f1:w.frozen? ⟨B,1,none⟩=false:=hv.blk.frozen (by simp);obtain⟨at_,ct,rfl⟩:=hv.sl.len;obtain⟨g,off,rfl,c50⟩:=hv.sl.at hd;have hg:g<w0.heap.size:=QJ _ _ c50;rw[hv.hB]at hg;have c5:w.cell? ⟨g,off+(p+1),none⟩=some (.int .i32 d):=(hv.bel.cell (p:=⟨g,off+(p+1),none⟩) hg).trans c50;have hgB:¬g=B:=by omega
 have hgB':¬B=g:=by omega
 have HX:Hid (Rd w0 B (.slice (some ⟨g,off,none⟩) L.length ct) L (w.setCell ⟨B,1,none⟩ (.int .i64 ((p:Int)+2))) ((p:Int)+2) T D):=zH ⟨vt,vd,vm,hv.next _⟩;have hz1:¬(L.length:Int)<(p:Int)+2:=by omega
 have hz2:(p:Int)+1<(L.length:Int):=by omega
 have hz3:(p:Int)≤20000:=by omega
 have hz4:(0:Int)≤(p:Int):=by omega
 clear hv c50 hd hg h0;rcases hx with rfl | rfl | rfl | rfl | rfl
 all_goals
  go_enter Tryz.func101,Tryz.ntmps101
  go_wp2_with fail
  go_quiet (fail)
  go_wp2_with fail
  go_ret;exact⟨rfl,HX.out.drewN _⟩
theorem Ce (p:Nat)(d:Int)(w:World)(h:Rd w0 B tv L w nx T D)(hd:L[p+1]? =some d)(hL:L.length≤20000)(hT:T.length≤20000)(hD:D.length≤20000)(hx:d=34):
  Calls Tryz.prog 101 #[.pointer (some ⟨B,0,none⟩),.int .i64 (p:Int)] w (iD w0 B tv L ((p:Int)+2) T D (.bool false)):=by
 have hlt:=(Qu.1 hd).1;have h0:=h;obtain⟨vt,vd,vm,hv⟩:=h;have c0:w.cell? ⟨B,0,none⟩=some tv:=hv.blk.cell 0;have c1:w.cell? ⟨B,1,none⟩=some (.int .i64 nx):=hv.blk.cell 1;have f1:w.frozen? ⟨B,1,none⟩=false:=hv.blk.frozen (by simp);obtain⟨at_,ct,rfl⟩:=hv.sl.len;obtain⟨g,off,rfl,c50⟩:=hv.sl.at hd;have hg:g<w0.heap.size:=QJ _ _ c50;rw[hv.hB]at hg;have c5:w.cell? ⟨g,off+(p+1),none⟩=some (.int .i32 d):=(hv.bel.cell (p:=⟨g,off+(p+1),none⟩) hg).trans c50;have hgB:¬g=B:=by omega
 have hgB':¬B=g:=by omega
 have HX:Hid (Rd w0 B (.slice (some ⟨g,off,none⟩) L.length ct) L (w.setCell ⟨B,1,none⟩ (.int .i64 ((p:Int)+2))) ((p:Int)+2) T D):=zH ⟨vt,vd,vm,hv.next _⟩;have hz1:¬(L.length:Int)<(p:Int)+2:=by omega
 have hz2:(p:Int)+1<(L.length:Int):=by omega
 have hz3:(p:Int)≤20000:=by omega
 have hz4:(0:Int)≤(p:Int):=by omega
 clear hv c50 hd hg h0;subst hx;go_enter Tryz.func101,Tryz.ntmps101
 go_wp2_with fail
 go_quiet (fail)
 go_wp2_with fail
 go_ret;exact⟨rfl,HX.out.drewN _⟩
end
section
variable {w0:World}{B:Nat}{tv:Value}{L:List Int}{nx:Int}{T:List Tok}{D:List Dg}
theorem QTN {P:Prop}(h:P:=by
 go_wp2_with fail
 go_quiet (fail)
 go_wp2_with fail
 refine(HC.out _ (HX.out.drewN _)).mono ?_;rintro e w5 h5;obtain⟨b,rfl⟩:=HE.out _ _ h5;have H5:=zH h5;clear h5 HC HX HE;go_wp2_with fail
 exact H5.out):P:=h
theorem IP (p:Nat)(d:Int)(E:Ending→World→Prop)(w:World)(h:Rd w0 B tv L w nx T D)(hd:L[p+1]? =some d)(hL:L.length≤20000)(hT:T.length≤20000)(hD:D.length≤20000)
  (hx:d=40∨d=91)
  (hE:∀W v,E v W→ ∃b,v=.returned (.bool b))
  (hc:∀W,Rd w0 B tv L W ((p:Int)+2) T D→Calls Tryz.prog 136 #[.pointer (some ⟨B,0,none⟩),.int .i64 (p:Int)] W E):
  Calls Tryz.prog 101 #[.pointer (some ⟨B,0,none⟩),.int .i64 (p:Int)] w (E):=by
 have hlt:=(Qu.1 hd).1;have h0:=h;obtain⟨vt,vd,vm,hv⟩:=h;have c0:w.cell? ⟨B,0,none⟩=some tv:=hv.blk.cell 0;have c1:w.cell? ⟨B,1,none⟩=some (.int .i64 nx):=hv.blk.cell 1;have f1:w.frozen? ⟨B,1,none⟩=false:=hv.blk.frozen (by simp);obtain⟨at_,ct,rfl⟩:=hv.sl.len;obtain⟨g,off,rfl,c50⟩:=hv.sl.at hd;have hg:g<w0.heap.size:=QJ _ _ c50;rw[hv.hB]at hg;have c5:w.cell? ⟨g,off+(p+1),none⟩=some (.int .i32 d):=(hv.bel.cell (p:=⟨g,off+(p+1),none⟩) hg).trans c50;have hgB:¬g=B:=by omega
 have hgB':¬B=g:=by omega
 have HX:Hid (Rd w0 B (.slice (some ⟨g,off,none⟩) L.length ct) L (w.setCell ⟨B,1,none⟩ (.int .i64 ((p:Int)+2))) ((p:Int)+2) T D):=zH ⟨vt,vd,vm,hv.next _⟩;have HC:=zH hc;have HE:=zH hE;clear hc hE;have hz1:¬(L.length:Int)<(p:Int)+2:=by omega
 have hz2:(p:Int)+1<(L.length:Int):=by omega
 have hz3:(p:Int)≤20000:=by omega
 have hz4:(0:Int)≤(p:Int):=by omega
 clear hv c50 hd hg h0;rcases hx with rfl | rfl
 all_goals
  go_enter Tryz.func101,Tryz.ntmps101
  exact QTN
theorem Ld (p:Nat)(d:Int)(E:Ending→World→Prop)(w:World)(h:Rd w0 B tv L w nx T D)(hd:L[p+1]? =some d)(hL:L.length≤20000)(hT:T.length≤20000)(hD:D.length≤20000)
  (hx:d=102)
  (hE:∀W v,E v W→ ∃b,v=.returned (.bool b))
  (hc:∀W,Rd w0 B tv L W ((p:Int)+2) T D→Calls Tryz.prog 137 #[.pointer (some ⟨B,0,none⟩),.int .i64 (p:Int)] W E):
  Calls Tryz.prog 101 #[.pointer (some ⟨B,0,none⟩),.int .i64 (p:Int)] w (E):=by
 have hlt:=(Qu.1 hd).1;have h0:=h;obtain⟨vt,vd,vm,hv⟩:=h;have c0:w.cell? ⟨B,0,none⟩=some tv:=hv.blk.cell 0;have c1:w.cell? ⟨B,1,none⟩=some (.int .i64 nx):=hv.blk.cell 1;have f1:w.frozen? ⟨B,1,none⟩=false:=hv.blk.frozen (by simp);obtain⟨at_,ct,rfl⟩:=hv.sl.len;obtain⟨g,off,rfl,c50⟩:=hv.sl.at hd;have hg:g<w0.heap.size:=QJ _ _ c50;rw[hv.hB]at hg;have c5:w.cell? ⟨g,off+(p+1),none⟩=some (.int .i32 d):=(hv.bel.cell (p:=⟨g,off+(p+1),none⟩) hg).trans c50;have hgB:¬g=B:=by omega
 have hgB':¬B=g:=by omega
 have HX:Hid (Rd w0 B (.slice (some ⟨g,off,none⟩) L.length ct) L (w.setCell ⟨B,1,none⟩ (.int .i64 ((p:Int)+2))) ((p:Int)+2) T D):=zH ⟨vt,vd,vm,hv.next _⟩;have HC:=zH hc;have HE:=zH hE;clear hc hE;have hz1:¬(L.length:Int)<(p:Int)+2:=by omega
 have hz2:(p:Int)+1<(L.length:Int):=by omega
 have hz3:(p:Int)≤20000:=by omega
 have hz4:(0:Int)≤(p:Int):=by omega
 clear hv c50 hd hg h0;rcases hx with rfl
 all_goals
  go_enter Tryz.func101,Tryz.ntmps101
  exact QTN
theorem IM (p:Nat)(d:Int)(w:World)(h:Rd w0 B tv L w nx T D)(hd:L[p+1]? =some d)(hL:L.length≤20000)(hT:T.length≤20000)(hD:D.length≤20000)
  (hx:d≠92∧d≠101∧d≠45∧d≠96∧d≠46∧d≠39∧d≠32∧d≠126∧d≠48∧d≠38∧d≠37∧d≠47∧d≠44∧d≠58∧d≠34∧d≠40∧d≠91∧d≠102):
  Calls Tryz.prog 101 #[.pointer (some ⟨B,0,none⟩),.int .i64 (p:Int)] w (iD w0 B tv L ((p:Int)+2) T (D++dgs p [1]) (.bool true)):=by
 have hlt:=(Qu.1 hd).1;have h0:=h;obtain⟨vt,vd,vm,hv⟩:=h;have c0:w.cell? ⟨B,0,none⟩=some tv:=hv.blk.cell 0;have c1:w.cell? ⟨B,1,none⟩=some (.int .i64 nx):=hv.blk.cell 1;have f1:w.frozen? ⟨B,1,none⟩=false:=hv.blk.frozen (by simp);obtain⟨at_,ct,rfl⟩:=hv.sl.len;obtain⟨g,off,rfl,c50⟩:=hv.sl.at hd;have hg:g<w0.heap.size:=QJ _ _ c50;rw[hv.hB]at hg;have c5:w.cell? ⟨g,off+(p+1),none⟩=some (.int .i32 d):=(hv.bel.cell (p:=⟨g,off+(p+1),none⟩) hg).trans c50;have hgB:¬g=B:=by omega
 have hgB':¬B=g:=by omega
 have HX:Hid (Rd w0 B (.slice (some ⟨g,off,none⟩) L.length ct) L (w.setCell ⟨B,1,none⟩ (.int .i64 ((p:Int)+2))) ((p:Int)+2) T D):=zH ⟨vt,vd,vm,hv.next _⟩;have HC:=zH (fun W (h:Rd w0 B (.slice (some ⟨g,off,none⟩) L.length ct) L W ((p:Int)+2) T D)=>gV 1 p W h (by omega) (by omega));have hz1:¬(L.length:Int)<(p:Int)+2:=by omega
 have hz2:(p:Int)+1<(L.length:Int):=by omega
 have hz3:(p:Int)≤20000:=by omega
 have hz4:(0:Int)≤(p:Int):=by omega
 clear hv c50 hd hg h0;obtain⟨x92,x101,x45,x96,x46,x39,x32,x126,x48,x38,x37,x47,x44,x58,x34,x40,x91,x102⟩:=hx;have y92:(d==92)=false:=by simpa using x92
 have y101:(d==101)=false:=by simpa using x101
 have y45:(d==45)=false:=by simpa using x45
 have y96:(d==96)=false:=by simpa using x96
 have y46:(d==46)=false:=by simpa using x46
 have y39:(d==39)=false:=by simpa using x39
 have y32:(d==32)=false:=by simpa using x32
 have y126:(d==126)=false:=by simpa using x126
 have y48:(d==48)=false:=by simpa using x48
 have y38:(d==38)=false:=by simpa using x38
 have y37:(d==37)=false:=by simpa using x37
 have y47:(d==47)=false:=by simpa using x47
 have y44:(d==44)=false:=by simpa using x44
 have y58:(d==58)=false:=by simpa using x58
 have y34:(d==34)=false:=by simpa using x34
 have y40:(d==40)=false:=by simpa using x40
 have y91:(d==91)=false:=by simpa using x91
 have y102:(d==102)=false:=by simpa using x102
 clear x92 x101 x45 x96 x46 x39 x32 x126 x48 x38 x37 x47 x44 x58 x34 x40 x91 x102;go_enter Tryz.func101,Tryz.ntmps101
 exact QTO
theorem NM (p:Nat)(w:World)(h:Rd w0 B tv L w nx T D)(hd:L.length=p+1)(hL:L.length≤20000)(hD:D.length≤20000):
  Calls Tryz.prog 101 #[.pointer (some ⟨B,0,none⟩),.int .i64 (p:Int)] w (iD w0 B tv L ((p:Int)+2) T (D++dgs p [1]) (.bool false)):=by
 obtain⟨vt,vd,vm,hv⟩:=h;have c0:w.cell? ⟨B,0,none⟩=some tv:=hv.blk.cell 0;have c1:w.cell? ⟨B,1,none⟩=some (.int .i64 nx):=hv.blk.cell 1;have f1:w.frozen? ⟨B,1,none⟩=false:=hv.blk.frozen (by simp);obtain⟨at_,ct,rfl⟩:=hv.sl.len;obtain⟨N,hN⟩:∃N,L.length=N:=⟨_,rfl⟩;rw[hN]at c0 hv hd hL⊢;have HX:Hid (Rd w0 B (.slice at_ N ct) L (w.setCell ⟨B,1,none⟩ (.int .i64 ((p:Int)+2))) ((p:Int)+2) T D):=zH ⟨vt,vd,vm,hv.next _⟩;have HC:=zH (fun W (h:Rd w0 B (.slice at_ N ct) L W ((p:Int)+2) T D)=>gV 1 p W h (by omega) (by omega));have hz1:(N:Int)<(p:Int)+2:=by omega
 have hz3:(p:Int)≤20000:=by omega
 have hz4:(0:Int)≤(p:Int):=by omega
 clear hv hd hN;go_enter Tryz.func101,Tryz.ntmps101
 exact QTO
end
theorem IQ (d:Int)(q:List Int):vN (d::q)=match GA d with
  | some x=>([(1,x)],[],2)
  | none=>
   if d=38∨d=37∨d=47∨d=44∨d=58 then([],[],2)
   else if d=34 then([],[],q.length+2)
   else if d=40∨d=91 then(match jc (d::q)with
    | none=>([],[1],q.length+2)
    | some (n,k)=>match Bo (enc n)with
     | some x=>([(1,x)],[],k+1)
     | none=>([],[2],k+1))
   else if d=102 then(match jc q with
    | none=>([],[1],q.length+2)
    | some (n,k)=>match zO (enc n)with
     | some x=>([(3,x)],[],k+2)
     | none=>([],[2],k+2))
   else([],[1],2):=rfl
theorem Gy {d x:Int}(h:GA d=some x):(d=92∧x=92)∨(d=101∧x=92)∨(d=45∧x=45)∨(d=96∧x=96)∨(d=46∧x=46)∨(d=39∧x=180)∨(d=32∧x=160)∨(d=126∧x=160)∨(d=48∧x=160):=by
 unfold GA at h
 split at h
 ·rename_i hd;cases h;rcases hd with rfl | rfl<;>decide
 ·split at h
  ·rename_i hd;cases h;rcases hd with rfl | rfl | rfl<;>decide
  ·split at h
   ·rename_i hd;cases h;subst hd;decide
   ·split at h
    ·rename_i hd;cases h;rcases hd with rfl | rfl | rfl<;>decide
    ·cases h
theorem Gz {d:Int}(h:GA d=none):d≠92∧d≠101∧d≠45∧d≠96∧d≠46∧d≠39∧d≠32∧d≠126∧d≠48:=by
 refine⟨?_,?_,?_,?_,?_,?_,?_,?_,?_⟩<;>(rintro rfl;exact absurd h (by decide))
section
variable {w0:World}{B:Nat}{tv:Value}{L:List Int}{nx:Int}{T:List Tok}{D:List Dg}
def Pz (w0:World)(B:Nat)(tv:Value)(L:List Int)(p:Nat)(T:List Tok)(D:List Dg)(t:List Tok)(d:List Int)(k:Nat)(e:Ending)(w':World):Prop:=
 ∃(b:Bool) (nx':Int),e=.returned (.bool b)∧Rd w0 B tv L w' nx' (T++t) (D++dgs p d)∧(b=true→nx'=((p+k:Nat):Int))∧(b=false→L.length≤p+k)
theorem qg (D:List Dg)(p:Nat):D++dgs p []=D:=by simp[dgs]
theorem Ew (p:Nat)(w:World)(h:Rd w0 B tv L w nx T D)(hp:p<L.length)(hL:L.length≤20000)(hT:T.length≤20000)(hD:D.length≤20000){t:List Tok}{d:List Int}{k:Nat}(hs:vN (L.drop (p+1))=(t,d,k)):
  Calls Tryz.prog 101 #[.pointer (some ⟨B,0,none⟩),.int .i64 (p:Int)] w (Pz w0 B tv L p T D t d k):=by
 cases hR:L[p+1]? with
 | none=>
  have hlen:L.length=p+1:=by
   have:=List.getElem?_eq_none_iff.1 hR;omega
  rw[Tv (by omega)]at hs
  cases hs
  exact(NM p w h hlen hL hD).mono fun e w' ⟨he,hr⟩=>⟨false,_,he,by rw[QW];exact hr,by simp,fun _=>by omega⟩
 | some c=>
  have hlt:=(Qu.1 hR).1;have hql:(L.drop (p+1+1)).length=L.length-(p+2):=by rw[QM]
  have hdc:=nK hR;rw[hdc,IQ,hql]at hs
  cases hsim:GA c with
  | some x=>
   rw[hsim]at hs
   cases hs
   exact(Lf p c x w h hR hL hT hD (Gy hsim)).mono fun e w' ⟨he,hr⟩=>⟨true,_,he,by rw[qg];exact hr,fun _=>by omega,by simp⟩
  | none=>
   rw[hsim]at hs;simp only at hs;obtain⟨x1,x2,x3,x4,x5,x6,x7,x8,x9⟩:=Gz hsim
   by_cases a1:c=38∨c=37∨c=47∨c=44∨c=58
   ·rw[QP a1]at hs
    cases hs
    exact(Cc p c w h hR hL hT hD a1).mono fun e w' ⟨he,hr⟩=>⟨true,_,he,by rw[qg,QW];exact hr,fun _=>by omega,by simp⟩
   ·rw[QG a1]at hs
    by_cases a2:c=34
    ·rw[QP a2]at hs
     cases hs
     exact(Ce p c w h hR hL hT hD a2).mono fun e w' ⟨he,hr⟩=>⟨false,_,he,by rw[qg,QW];exact hr,by simp,fun _=>by omega⟩
    ·rw[QG a2]at hs
     by_cases a3:c=40∨c=91
     ·rw[QP a3,←hdc]at hs
      refine IP p c _ w h hR hL hT hD a3 (fun W v hv=>by obtain⟨b,nx',he,_⟩:=hv;exact⟨b,he⟩) fun W hW=>?_
      cases hn:jc (L.drop (p+1))with
      | none=>
       rw[hn]at hs
       cases hs
       exact(DL p W hW (by omega) hL hD hn).mono fun e w' ⟨he,hr⟩=>⟨false,_,he,by rw[QW];exact hr,by simp,fun _=>by omega⟩
      | some nk=>
       obtain⟨n,k'⟩:=nk;rw[hn]at hs;simp only at hs
       cases hm:Bo (enc n)with
       | some x=>
        rw[hm]at hs
        cases hs
        exact(uU p W hW (by omega) hL hT hD hn (.inl ⟨x,hm,rfl,rfl⟩)).mono fun e w' ⟨he,hr⟩=>⟨true,_,he,hr,fun _=>by omega,by simp⟩
       | none=>
        rw[hm]at hs
        cases hs
        exact(uU p W hW (by omega) hL hT hD hn (.inr ⟨hm,rfl,rfl⟩)).mono fun e w' ⟨he,hr⟩=>⟨true,_,he,hr,fun _=>by omega,by simp⟩
     ·rw[QG a3]at hs
      by_cases a4:c=102
      ·rw[QP a4]at hs
       refine Ld p c _ w h hR hL hT hD a4 (fun W v hv=>by obtain⟨b,nx',he,_⟩:=hv;exact⟨b,he⟩) fun W hW=>?_
       cases hn:jc (L.drop (p+2))with
       | none=>
        rw[show p+1+1=p+2 by omega,hn]at hs
        cases hs
        exact(Dv p W hW (by omega) hL hD hn).mono fun e w' ⟨he,hr⟩=>⟨false,_,he,by rw[QW];exact hr,by simp,fun _=>by omega⟩
       | some nk=>
        obtain⟨n,k'⟩:=nk;rw[show p+1+1=p+2 by omega,hn]at hs;simp only at hs
        cases hm:zO (enc n)with
        | some x=>
         rw[hm]at hs
         cases hs
         exact(uF p W hW (by omega) hL hT hD hn (.inl ⟨x,hm,rfl,rfl⟩)).mono fun e w' ⟨he,hr⟩=>⟨true,_,he,hr,fun _=>by omega,by simp⟩
        | none=>
         rw[hm]at hs
         cases hs
         exact(uF p W hW (by omega) hL hT hD hn (.inr ⟨hm,rfl,rfl⟩)).mono fun e w' ⟨he,hr⟩=>⟨true,_,he,hr,fun _=>by omega,by simp⟩
      ·rw[QG a4]at hs
       cases hs
       exact(IM p c w h hR hL hT hD ⟨x1,x2,x3,x4,x5,x6,x7,x8,x9,fun e=>a1 (by simp[e]),fun e=>a1 (by simp[e]),fun e=>a1 (by simp[e]),fun e=>a1 (by simp[e]),fun e=>a1 (by simp[e]),a2,fun e=>a3 (.inl e),fun e=>a3 (.inr e),a4⟩).mono fun e w' ⟨he,hr⟩=>⟨true,_,he,by rw[QW];exact hr,fun _=>by omega,by simp⟩
end
section
attribute [local go_sem ↓ high] iM bN
def lT (w1:World)(B:Nat)(tv:Value)(L:List Int)(TT:List Tok)(DD:List Dg)(j:Nat)(W:World):Prop:=
 ∃(p:Nat) (nx:Int) (T:List Tok) (D:List Dg),Rd w1 B tv L W nx T D∧jH L TT DD p T D∧p≤L.length∧((p=j∧nx≤j)∨(j<p∧nx=p))
theorem lT.skip {w1:World}{B:Nat}{tv:Value}{L:List Int}{TT:List Tok}{DD:List Dg}{j p:Nat}{W:World}{nx:Int}{T:List Tok}{D:List Dg}(h:Rd w1 B tv L W nx T D)(hs:jH L TT DD p T D)(hp:p≤L.length)(hj:j<p)(hn:nx=p):lT w1 B tv L TT DD (j+1) W:=
 ⟨p,nx,T,D,h,hs,hp,by omega⟩
def Ai (w:World)(b:List UInt8)(e:Ending)(w':World):Prop:=
 ∃vt vd,e=.returned (.tuple #[vt,vd])∧Jk w.heap.size w' vt (bY 0 (dec b)).1∧bK w.heap.size w' vd (bY 0 (dec b)).2∧zB w w'
theorem QTJ {P:Prop}(h:P:=by
 go_wp2_with fail
 refine HC.out.mono ?_;rintro e w3 ⟨rfl,h3⟩;have HN:Hid (lT w1 B (.slice (some ⟨g,off,none⟩) L.length c1) L TT DD (p+1) w3):=zH ⟨p+1,nx,_,_,h3,HS2.out,by omega,.inl ⟨rfl,by omega⟩⟩;clear HC h3 HS2;go_wp2_with fail
 go_roundw
 case rel=>exact⟨p+1,by omega,by go_num,HN.out⟩
 case measure=>(simp[intOf];try omega)):P:=h
theorem JS (b:List UInt8)(w:World)(hb:b.length≤2000):Calls Tryz.prog 66 #[.string ⟨b.toArray⟩] w (Ai w b):=by
 obtain⟨u0,w0,k0,s0,b0⟩:=Ab w b;have HD:=zH (Ey b u0 w0 s0 (by omega));have hdl:=vQ b;unfold Ai;obtain⟨L,hL⟩:∃L,dec b=L:=⟨_,rfl⟩;rw[hL]at HD hdl⊢;have HS0:=zH (jH.start L);obtain⟨TT,hTT⟩:∃TT,(bY 0 L).1=TT:=⟨_,rfl⟩;obtain⟨DD,hDD⟩:∃DD,(bY 0 L).2=DD:=⟨_,rfl⟩;rw[hTT,hDD]at HS0⊢;have B0:=zH b0;have z0:=b0.size;clear hL hTT hDD s0 b0;go_enter Tryz.func66,Tryz.ntmps66
 go_wp2_with fail
 go_step3
 go_wp2_with fail
 refine HD.out.mono ?_;rintro e w1 ⟨u1,rfl,s1,b1⟩;have B1:=zH (B0.out.trans (b1.mono z0));have S1:=zH s1;obtain⟨a1,c1,rfl⟩:=s1.len;clear b1 HD s1;go_wp2_with fail
 go_step3
 go_wp2_with fail
 obtain⟨B,hB⟩:∃B,w1.heap.size=B:=⟨_,rfl⟩;have HR0:Hid (Rd w1 w1.heap.size (.slice a1 L.length c1) L (w1.alloc (.cells #[.slice a1 L.length c1,.int .i64 0,.slice none 0 0,.slice none 0 0,.map none] 161)) 0 [] []):=
  zH ⟨_,_,_,⟨rfl,S1.out,ae w1 _,QD w1 _,ag.nil _ _,ag.nil _ _,.inl rfl⟩⟩
 have hwB:w.heap.size≤B:=by have:=B1.out.size;omega
 have HB1:=zH B1.out;rw[hB]at HR0⊢;obtain⟨W2,hW2⟩:∃W2,w1.alloc (.cells #[.slice a1 L.length c1,.int .i64 0,.slice none 0 0,.slice none 0 0,.map none] 161)=W2:=⟨_,rfl⟩;rw[hW2]at HR0⊢;have HSB:=zH hB;clear hW2 hB B1 B0;go_loopw [14] (fun i wr=> ∃j:Nat,j≤L.length∧i=.int .i64 j∧lT w1 B (.slice a1 L.length c1) L TT DD j wr) (fun i _=>L.length-(intOf i).toNat)
 case atStart=>exact⟨0,by omega,rfl,0,0,[],[],HR0.out,HS0.out,by omega,.inl ⟨rfl,by omega⟩⟩
 case round=>
  obtain⟨j,hj,rfl,p,nx,T,D,hR,hS,hpL,hcase⟩:=hrel;have HR:=zH hR;have HSo:=zH hS;obtain⟨vt,vd,vm,hv⟩:=hR;have HV:=zH hv;have k0:wr.cell? ⟨B,0,none⟩=some (.slice a1 L.length c1):=hv.blk.cell 0;have k1:wr.cell? ⟨B,1,none⟩=some (.int .i64 nx):=hv.blk.cell 1;have tl:=hS.tl;have dl:=hS.dl;clear hv hS HR0 HS0
  by_cases hlt:j<L.length
  ·obtain⟨c,hc⟩:∃c,L[j]? =some c:=⟨L[j],Qw hlt⟩
   obtain⟨g,off,rfl,c5⟩:=(HV.out.text).at hc;have hi0:(j:Int)<(L.length:Int):=by omega
   have hi1:(0:Int)≤(j:Int):=by omega
   rcases hcase with⟨rfl,hnx⟩| ⟨hjp,hnx⟩
   ·have hnx':¬(p:Int)<nx:=by omega
    have HST:=zH (MO hc);have HNX:=zH (fun t d k (h:dY (L.drop p)=(t,d,k))=>HSo.out.next hlt h)
    by_cases c92:c=92
    ·subst c92
     obtain⟨⟨t,d,k⟩,hs⟩:∃q,vN (L.drop (p+1))=q:=⟨_,rfl⟩;have HE:=zH (Ew p wr HR.out hlt (by omega) (by omega) (by omega) hs);have hbd:=FY (L.drop (p+1));rw[hs]at hbd;obtain⟨-,-,kb1,kb2⟩:=hbd;simp only[QM]at kb1 kb2;have HS2:Hid (jH L TT DD (p+k) (T++t) (D++dgs p d)):=zH (HNX.out t d k (by rw[HST.out,QP rfl,hs]));clear hs HST HNX hc hpL;go_wp2_with fail
     refine HE.out.mono ?_;rintro e w2 ⟨bb,nx',rfl,hr2,ht,hf⟩
     cases bb with
     | true=>
      have HN:Hid (lT w1 B (.slice (some ⟨g,off,none⟩) L.length c1) L TT DD (p+1) w2):=zH ⟨p+k,nx',_,_,hr2,HS2.out,by omega,by have:=ht rfl;omega⟩;clear ht hf hr2 HE HS2 HR HSo HV;go_wp2_with fail
      go_roundw
      case rel=>exact⟨p+1,by omega,by go_num,HN.out⟩
      case measure=>(simp[intOf];try omega)
     | false=>
      obtain⟨rfl,rfl⟩:=HS2.out.done (hf rfl);obtain⟨vt2,vd2,vm2,hv2⟩:=hr2;have k2:w2.cell? ⟨B,2,none⟩=some vt2:=hv2.blk.cell 2;have k3:w2.cell? ⟨B,3,none⟩=some vd2:=hv2.blk.cell 3;have HT:=zH (hv2.tk.mono (base':=w.heap.size) (by omega));have HDg:=zH (hv2.dg.mono (base':=w.heap.size) (by omega));have HB2:=zH (HB1.out.trans (hv2.bel.mono hwB));clear ht hf hv2 HE HS2 HR HSo HV tl dl kb1 kb2;go_wp2_with fail
      go_quiet (fail)
      go_wp2_with fail
      try rw[RG]
      go_ret2
      exact⟨vt2,vd2,rfl,HT.out.keep (below_drewN (QA _ _) _),HDg.out.keep (below_drewN (QA _ _) _),below_drewN HB2.out _⟩
    ·have e92:(c==92)=false:=by simpa using c92
     by_cases cb:c=32∨c=9
     ·have HS2:Hid (jH L TT DD (p+1) (T++ [(2,0)]) D):=zH (by
       have:=HNX.out [(2,0)] [] 1 (by rw[HST.out,QG c92,QP cb]);rw[qg]at this;exact this)
      have k2:wr.cell? ⟨B,2,none⟩=some vt:=HV.out.blk.cell 2;obtain⟨vt',w3,k3,q3,f3,r3⟩:=HV.out.say 2 0 (by omega);obtain⟨a2,n2,rfl⟩:=(ag.sl eB HV.out.tk).len;obtain⟨a3,n3,rfl⟩:=(ag.sl eB r3.tk).len;have HN:Hid (lT w1 B (.slice (some ⟨g,off,none⟩) L.length c1) L TT DD (p+1) (w3.setCell ⟨B,2,none⟩ (.slice a3 (T++ [(2,0)]).length n3))):=zH ⟨p+1,nx,_,_,⟨_,_,_,r3⟩,HS2.out,by omega,.inl ⟨rfl,by omega⟩⟩;obtain⟨m,hm⟩:∃m,(T++ [((2:Int),(0:Int))]).length=m:=⟨_,rfl⟩;rw[hm]at k3 HN;clear hm r3 HST HNX HR HV HSo HS2 hc;rcases cb with rfl | rfl
      all_goals
       go_wp2_with fail
       go_roundw
       case rel=>exact⟨p+1,by omega,by go_num,HN.out⟩
       case measure=>(simp[intOf];try omega)
     ·have e32:(c==32)=false:=by simpa using fun h:c=32=>cb (.inl h)
      have e9:(c==9)=false:=by simpa using fun h:c=9=>cb (.inr h)
      have HCT:=zH (fun W=>rP c W)
      cases hctl:ctl c with
      | true=>
       rw[hctl]at HCT;have HS2:Hid (jH L TT DD (p+1) (T++ [(1,65533)]) (D++dgs p [3])):=zH (HNX.out [(1,65533)] [3] 1 (by rw[HST.out,QG c92,QG cb,QP hctl]));have HW:=zH (gV 3 p wr HR.out (by omega) (by omega));clear HST HNX HR HV HSo hc hctl c92 cb;go_wp2_with fail
       refine(HCT.out _).mono ?_;rintro e w2 ⟨rfl,rfl⟩;clear HCT;go_wp2_with fail
       refine HW.out.mono ?_;rintro e w2 ⟨rfl,h2⟩;have HC:=zH (qp 65533 w2 h2 (by omega));clear HW h2;exact QTJ
      | false=>
       rw[hctl]at HCT;have HS2:Hid (jH L TT DD (p+1) (T++ [(1,c)]) D):=zH (by
        have:=HNX.out [(1,c)] [] 1 (by rw[HST.out,QG c92,QG cb,QG (by rw[hctl];decide)]);rw[qg]at this;exact this)
       have HC:=zH (qp c wr HR.out (by omega));clear HST HNX HR HV HSo hc hctl c92 cb;go_wp2_with fail
       refine(HCT.out _).mono ?_;rintro e w2 ⟨rfl,rfl⟩;clear HCT;exact QTJ
   ·have HN:Hid (lT w1 B (.slice (some ⟨g,off,none⟩) L.length c1) L TT DD (j+1) wr):=zH (lT.skip HR.out HSo.out hpL hjp hnx)
    have hnx':(j:Int)<nx:=by omega
    clear hc HR HSo HV hnx;go_wp2_with fail
    go_roundw
    case rel=>exact⟨j+1,by omega,by go_num,HN.out⟩
    case measure=>(simp[intOf];try omega)
  ·obtain rfl:j=L.length:=by omega
   obtain⟨rfl,rfl⟩:=HSo.out.done (by omega);have k2:wr.cell? ⟨B,2,none⟩=some vt:=HV.out.blk.cell 2;have k3:wr.cell? ⟨B,3,none⟩=some vd:=HV.out.blk.cell 3;have HT:=zH (HV.out.tk.mono (base':=w.heap.size) (by omega));have HDg:=zH (HV.out.dg.mono (base':=w.heap.size) (by omega));have HB2:=zH (HB1.out.trans (HV.out.bel.mono hwB));clear HR HV HSo hcase tl dl;go_wp2_with fail
   go_quiet (fail)
   go_wp2_with fail
   try rw[RG]
   go_ret2
   exact⟨vt,vd,rfl,HT.out.keep (below_drewN (QA _ _) _),HDg.out.keep (below_drewN (QA _ _) _),below_drewN HB2.out _⟩
end
def Og (w:World)(c:List Gly×Fce)(D:List Dg)(e:Ending)(w':World):Prop:=
 ∃x vd,e=.returned (.tuple #[x,.agg #[.int .u8 c.2.1,.int .u8 c.2.2],vd])∧bu w.heap.size w' x c.1∧bK w.heap.size w' vd D∧zB w w'
theorem pW (p q:Int)(b:List UInt8)(w:World)(hb:b.length≤2000):
  Calls Tryz.prog 33 #[.agg #[.int .u8 p,.int .u8 q],.string ⟨b.toArray⟩] w (Og w (jL (p,q) (bY 0 (dec b)).1) (bY 0 (dec b)).2):=by
 have hdl:=vQ b;obtain⟨W2,hW2⟩:∃W2,(w.alloc (.cells #[.int .u8 p,.int .u8 q] 28)).alloc (.cells #[.int .u8 0,.int .u8 0] 28)=W2:=⟨_,rfl⟩;have hR0:=jM.start w p q;rw[hW2]at hR0;have HA:=zH (JS b W2 (by omega));have hlen:=uj (dec b);unfold Ai at HA;obtain⟨TT,hTT⟩:∃TT,(bY 0 (dec b)).1=TT:=⟨_,rfl⟩;obtain⟨DD,hDD⟩:∃DD,(bY 0 (dec b)).2=DD:=⟨_,rfl⟩;rw[hTT,hDD]at HA hlen⊢;have htl:TT.length≤100000:=by omega
 obtain⟨⟨X,A,B⟩,hS⟩:∃S,jL (p,q) TT=S:=⟨_,rfl⟩;have HS:=zH (fun v W (h:Ts W v TT)=>MQ p q TT v W h htl);unfold Qb at HS;rw[hS]at HS⊢;have R0:=zH hR0;clear hdl hlen hTT hDD hS htl hR0;go_enter Tryz.func33,Tryz.ntmps33
 go_wp2_with fail
 refine HA.out.mono ?_;rintro e w1 ⟨vt,vd,rfl,o1,o2,b1⟩;have h1:=R0.out.keep b1;have c0:w1.cell? ⟨w.heap.size,0,none⟩=some (.int .u8 p):=h1.b0.cell 0;have c1:w1.cell? ⟨w.heap.size,1,none⟩=some (.int .u8 q):=h1.b0.cell 1;have hbig:=h1.big;have z2:=R0.out.big;have HS1:=zH (HS.out vt w1 (ag.sl eB o1));have R1:=zH h1;have O2:=zH o2;obtain⟨ta,tc,rfl⟩:=(ag.sl eB o1).len;obtain⟨da,dc,rfl⟩:=(ag.sl ax o2).len;obtain⟨n1,hn1⟩:∃n,TT.length=n:=⟨_,rfl⟩;obtain⟨n2,hn2⟩:∃n,DD.length=n:=⟨_,rfl⟩;rw[hn1]at HS1;rw[hn2]at O2;rw[hn1,hn2];clear h1 o1 o2 b1 HA HS hn1 hn2 R0 hW2;go_wp2_with fail
 refine HS1.out.mono ?_;rintro e w2 ⟨x,rfl,ox,bx⟩;have h2:=R1.out.keep bx;have h3:=h2.turn A B;have g0:w2.cell? ⟨w.heap.size,0,none⟩=some (.int .u8 p):=h2.b0.cell 0;have g1:w2.cell? ⟨w.heap.size,1,none⟩=some (.int .u8 q):=h2.b0.cell 1;have e0:w2.frozen? ⟨w.heap.size,0,none⟩=false:=h2.b0.frozen (by simp);have e1:w2.frozen? ⟨w.heap.size,1,none⟩=false:=h2.b0.frozen (by simp);have hz2:=bx.size;have ox2:bu w1.heap.size ((w2.setCell ⟨w.heap.size,0,none⟩ (.int .u8 A)).setCell ⟨w.heap.size,1,none⟩ (.int .u8 B)) x X:=Q9 (Q9 ox (by simp only;omega) _) (by simp only;omega) _;have od2:bK W2.heap.size ((w2.setCell ⟨w.heap.size,0,none⟩ (.int .u8 A)).setCell ⟨w.heap.size,1,none⟩ (.int .u8 B)) (.slice da n2 dc) DD:=Q9 (Q9 (O2.out.keep bx) (by simp only;omega) _) (by simp only;omega) _;clear c0 c1 HS1 R1 bx O2 ox;obtain⟨sa,sc,hs⟩:=(ag.sl ah ox2).len;obtain⟨xl,hxl⟩:∃xl,X.length=xl:=⟨_,rfl⟩;rw[hxl]at hs;subst hs;have HF:=zH h3;have HX:=zH ox2;have HD:=zH od2;clear h2 h3 ox2 od2 hxl;go_wp2_with fail
 obtain⟨W3,hW3⟩:∃W3,(w2.setCell ⟨w.heap.size,0,none⟩ (.int .u8 A)).setCell ⟨w.heap.size,1,none⟩ (.int .u8 B)=W3:=⟨_,rfl⟩;rw[hW3]at HF HX HD;have k0:W3.cell? ⟨w.heap.size,0,none⟩=some (.int .u8 A):=HF.out.b0.cell 0;have k1:W3.cell? ⟨w.heap.size,1,none⟩=some (.int .u8 B):=HF.out.b0.cell 1;have k2:W3.cell? ⟨w.heap.size+1,0,none⟩=some (.int .u8 0):=HF.out.b1.cell 0;have k3:W3.cell? ⟨w.heap.size+1,1,none⟩=some (.int .u8 0):=HF.out.b1.cell 1;have k4:W3.frozen? ⟨w.heap.size+1,0,none⟩=false:=HF.out.b1.frozen (by simp);have k5:W3.frozen? ⟨w.heap.size+1,1,none⟩=false:=HF.out.b1.frozen (by simp);rw[hW3];obtain⟨-,o4,o5⟩:=HF.out.fin (.int .u8 A) (.int .u8 B);have q0:=o5.cell 0;have q1:=o5.cell 1;have o6:bu w1.heap.size ((W3.setCell ⟨w.heap.size+1,0,none⟩ (.int .u8 A)).setCell ⟨w.heap.size+1,1,none⟩ (.int .u8 B)) (.slice sa xl sc) X:=Q9 (Q9 HX.out (by simp only;omega) _) (by simp only;omega) _;have o7:bK W2.heap.size ((W3.setCell ⟨w.heap.size+1,0,none⟩ (.int .u8 A)).setCell ⟨w.heap.size+1,1,none⟩ (.int .u8 B)) (.slice da n2 dc) DD:=Q9 (Q9 HD.out (by simp only;omega) _) (by simp only;omega) _;have O6:=zH (ag.mono (base':=w.heap.size) (o6.keep (QA _ _).drew) (by omega));have O7:=zH (ag.mono (base':=w.heap.size) (o7.keep (QA _ _).drew) (by omega));have O4:=zH o4;simp at q0 q1;clear o4 o5 o6 o7 HX HD HF hW3;go_region
 go_wp2_with fail
 exact Rb (v:= .tuple #[.slice sa xl sc,.agg #[.int .u8 A,.int .u8 B],.slice da n2 dc]) (by simp[results,Tryz.results33,go_sem,q0,q1]) rfl ⟨_,_,rfl,O6.out,O7.out,O4.out⟩
def lgF:Lgf:=fun b=>((jL (0,0) (bY 0 (dec b)).1).1,(bY 0 (dec b)).2.map (fun d=>(d.1,d.2.2)))
theorem jF (s:Txt):(lgF s).1.length≤s.length∧(lgF s).2.length≤s.length:=by
 have h1:=vG (0,0) (bY 0 (dec s)).1;have h2:=uj (dec s);have h3:=vQ s;refine⟨?_,?_⟩
 ·show(jL (0,0) (bY 0 (dec s)).1).1.length≤_
  omega
 ·show((bY 0 (dec s)).2.map _).length≤_
  rw[RB];omega
def lgS (f:Int):Lgf:=fun b=>((jL (f,f) (bY 0 (dec b)).1).1,(bY 0 (dec b)).2.map (fun d=>(d.1,d.2.2)))
def dD (f:Int):List Txt→List Gly×List (Int×Int)
 | l=>l.foldl (fun q s=>(jn q.1 (lgS f s).1,q.2++(lgS f s).2)) ([],[])
def wF (a b:Int):List Txt→List Gly×List (Int×Int)
 | []=>([],[])
 | s::l=>((lgS a s).1++(wF b a l).1,(lgS a s).2++(wF b a l).2)
def GD (c:UInt8):Int:=if c=66 then 1 else if c=73 then 2 else 0
def gP (r:aR):Option (List Gly×List (Int×Int)):=
 if r.mac=[] then some (lgF r.text)
 else if r.mac=[66]∨r.mac=[73] then some (dD (GD (r.mac.headD 0)) r.args)
 else if r.mac=[66,73]∨r.mac=[66,82]∨r.mac=[73,66]∨r.mac=[73,82]∨r.mac=[82,66]∨r.mac=[82,73] then some (wF (GD (r.mac.headD 0)) (GD (r.mac.getLastD 0)) r.args)
 else none
def I9:qA:=⟨gP,dD 0,fun ln l=>iF lgF (ln+1) l⟩
end Go.Proofs.YtebabjnngdjceaaGreatDoor
