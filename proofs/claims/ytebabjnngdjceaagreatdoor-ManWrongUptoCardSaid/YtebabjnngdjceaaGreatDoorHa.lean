/- A rune that is named: by -/
import Derived.Test.YtebabjnngdjceaaGreatDoorH2
set_option linter.unusedVariables false
set_option linter.unusedSimpArgs false
set_option maxRecDepth 100000
set_option maxHeartbeats 4000000
namespace Go.Proofs.YtebabjnngdjceaaGreatDoor
open Go.RowKit
theorem NJ {k:IntKind}{a b:Int}{x y:Bool}(h:a=b)(h2:x=y):Ending.returned (.tuple #[.int k a,.bool x])=.returned (.tuple #[.int k b,.bool y]):=by rw[h,h2]
theorem E9 {c d:Int}(h:mh c=some d):0≤d∧d≤15:=by
 unfold mh at h
 split at h
 ·cases h;omega
 ·split at h
  ·cases h;omega
  ·cases h
theorem H9 (c:Int)(h0:0≤c)(h1:c≤2147483647)(w:World):Calls Tryz.prog 231 #[.int .i32 c] w fun e w'=>e=.returned (.tuple #[.int .i32 ((mh c).getD 0),.bool (mh c).isSome])∧w=w':=by
 obtain⟨H,hH⟩:∃H,mh c=H:=⟨_,rfl⟩;rw[hH]
 by_cases a:48≤c∧c≤57
 ·have e:H=some (c-48):=by rw[←hH];unfold mh;rw[PZ a]
  obtain⟨a1,a2⟩:=a;subst e;clear hH;simp only[Q6,QW];go_enter Tryz.func231,Tryz.ntmps231
  go_wp2
  go_ret2
  exact⟨rfl,rfl⟩
 ·by_cases b:65≤c∧c≤70
  ·have e:H=some (c-55):=by rw[←hH];unfold mh;rw[PO a,PZ b]
   obtain⟨b1,b2⟩:=b;have a3:¬c≤57:=by omega
   have a1:48≤c:=by omega
   subst e;clear hH a;simp only[Q6,QW];go_enter Tryz.func231,Tryz.ntmps231
   go_wp2
   go_ret2
   exact⟨NJ (by omega) rfl,rfl⟩
  ·have e:H=none:=by rw[←hH];unfold mh;rw[PO a,PO b]
   subst e;clear hH;simp only[QO,QI]
   by_cases a1:48≤c
   ·have a2:¬c≤57:=fun h=>a ⟨a1,h⟩
    clear a
    by_cases b1:65≤c
    ·have b2:¬c≤70:=fun h=>b ⟨b1,h⟩
     clear b;go_enter Tryz.func231,Tryz.ntmps231
     go_wp2
     go_ret2
     exact⟨rfl,rfl⟩
    ·clear b
     go_enter Tryz.func231,Tryz.ntmps231
     go_wp2
     go_ret2
     exact⟨rfl,rfl⟩
   ·have b1:¬65≤c:=by omega
    clear a b;go_enter Tryz.func231,Tryz.ntmps231
    go_wp2
    go_ret2
    exact⟨rfl,rfl⟩
theorem Az {b:List UInt8}(h:b.length<5):numOf b=none:=by unfold numOf;rw[PZ (.inl h)]
theorem CV {b:List UInt8}(h:7<b.length):numOf b=none:=by unfold numOf;rw[PZ (.inr (.inl h))]
theorem AA {b:List UInt8}(h:b.head? ≠some 117):numOf b=none:=by unfold numOf;rw[PZ (.inr (.inr h))]
theorem Gn {b:List UInt8}(h1:5≤b.length)(h2:b.length≤7)(h3:b.head?=some 117):numOf b=match za b.tail 0 with
  | none=>none
  | some n=>if vld n=true∧ctl n=false then some n else none:=by
 have hn:¬(b.length<5∨7<b.length∨b.head? ≠some 117):=by
  rintro(h | h | h)
  ·omega
  ·omega
  ·exact h h3
 unfold numOf;rw[PO hn]
 cases za b.tail 0<;>rfl
theorem qA {c:Int}(h:128≤c):mh c=none:=by unfold mh;rw[PO (by omega),PO (by omega)]
structure jZ (T:List UInt8)(R:Option Int)(pos:Nat)(acc:Int):Prop where
 le:pos≤T.length
 eq:za (T.drop pos) acc=R
 lo:0≤acc
 hi:acc<16 ^ pos
theorem jZ.start (T:List UInt8):jZ T (za T 0) 0 0:=⟨by omega,by simp,by omega,by simp⟩
theorem jZ.done {T:List UInt8}{R:Option Int}{acc:Int}{pos:Nat}(h:jZ T R pos acc)(hp:T.length≤pos):R=some acc:=by
 have h1:=h.eq;rw[RU hp]at h1;exact h1.symm
theorem jZ.next {T:List UInt8}{R:Option Int}{acc:Int}{pos:Nat}(h:jZ T R pos acc){x:UInt8}(hx:T[pos]? =some x){d:Int}(hd:mh (x.toNat:Int)=some d):jZ T R (pos+1) (acc*16+d):=by
 obtain⟨hp,hx'⟩:=Pw.1 hx;have h1:=h.eq;have hb:=E9 hd;have lo:=h.lo;have hi:=h.hi;rw[Qu hp,hx']at h1;unfold za at h1;rw[hd]at h1;refine⟨hp,h1,by omega,?_⟩;rw[Int.pow_succ];omega
theorem jZ.none {T:List UInt8}{R:Option Int}{acc:Int}{pos:Nat}(h:jZ T R pos acc){x:UInt8}(hx:T[pos]? =some x)(hd:mh (x.toNat:Int)=none):R=Option.none:=by
 obtain⟨hp,hx'⟩:=Pw.1 hx;have h1:=h.eq;rw[Qu hp,hx']at h1;unfold za at h1;rw[hd]at h1;exact h1.symm
theorem jZ.room {T:List UInt8}{R:Option Int}{acc:Int}{pos:Nat}(h:jZ T R pos acc)(hp:pos≤5):acc<1048576:=by
 have hi:=h.hi;have:(16:Int)^ pos≤16 ^ 5:=by
  have:=Nat.pow_le_pow_right (n:=16) (by omega) hp
  exact_mod_cast this
 have e:(16:Int)^ 5=1048576:=by decide
 omega
theorem gZ (b:List UInt8)(i:Nat)(x:UInt8)(h:b[i]? =some x)(w:World):(Instr.index 9 (.string ⟨b.toArray⟩) (.int .i64 (i:Int))).run Tryz.prog w=.ok (.int .u8 (x.toNat:Int)) w:=by
 obtain⟨hi,hx⟩:=Pw.1 h;have hsz:(⟨b.toArray⟩:ByteArray).size=b.length:=by simp[Go.Lib.size_eq]
 rw[run_index_string w 9 _ .i64 (i:Int) Tryz.underlying9,dif_pos ⟨by omega,by rw[hsz];omega⟩];have e:(⟨b.toArray⟩:ByteArray)[((i:Int)).toNat]'(by rw[hsz];omega)=x:=by
  show b.toArray[((i:Int)).toNat]'_=x;simp only[Rf,List.getElem_toArray];exact hx
 rw[e]
theorem dR (b:List UInt8)(i:Nat)(h:i≤b.length)(w:World):(Instr.slice 9 (.string ⟨b.toArray⟩) (some (.int .i64 (i:Int))) none none).run Tryz.prog w=.ok (.string ⟨(b.drop i).toArray⟩) w:=by
 have hsz:(⟨b.toArray⟩:ByteArray).size=b.length:=by simp[Go.Lib.size_eq]
 rw[run_slice_string_from_if w 9 _ .i64 (i:Int) Tryz.underlying9,PZ ⟨by omega,by rw[hsz];omega⟩,hsz,ByteArray.extract_mk];simp only[Rf];rw[QN (by simp)]
theorem EA (b:List UInt8)(i j:Nat)(hi:i≤j)(h:j≤b.length)(w:World):(Instr.slice 9 (.string ⟨b.toArray⟩) (some (.int .i64 (i:Int))) (some (.int .i64 (j:Int))) none).run Tryz.prog w=.ok (.string ⟨((b.drop i).take (j-i)).toArray⟩) w:=by
 have hsz:(⟨b.toArray⟩:ByteArray).size=b.length:=by simp[Go.Lib.size_eq]
 rw[run_slice_string w 9 _ .i64 .i64 (i:Int) (j:Int) Tryz.underlying9 (by omega) (by omega) (by rw[hsz];omega),ByteArray.extract_mk];simp only[Rf]
theorem Me (T:List UInt8)(pos:Nat)(x:UInt8)(hx:T[pos]? =some x)(w:World):
  ∃(c:Int) (k:Nat),(∀ty,(Instr.next (.pointer (some ⟨w.heap.size,0,none⟩)) true ty).run Tryz.prog (w.iter ⟨T.toArray⟩ pos)=.ok (.tuple #[.bool true,.int .i64 (pos:Int),.int .i32 c]) (w.iter ⟨T.toArray⟩ (pos+k)))∧
   0≤c∧c≤2147483647∧mh c=mh (x.toNat:Int)∧((mh c).isSome=true→k=1):=by
 obtain⟨hp,hx'⟩:=Pw.1 hx;have hsz:(⟨T.toArray⟩:ByteArray).size=T.length:=by simp[Go.Lib.size_eq]
 have hps:pos<(⟨T.toArray⟩:ByteArray).size:=by rw[hsz];exact hp
 have e:(⟨T.toArray⟩:ByteArray)[pos]'hps=x:=by
  show T.toArray[pos]'_=x;simp only[List.getElem_toArray];exact hx'
 by_cases ha:x.toNat<128
 ·refine⟨(x.toNat:Int),1,fun ty=>?_,by omega,by omega,rfl,fun _=>rfl⟩
  have:=run_next_ascii (P:=Tryz.prog) w ⟨T.toArray⟩ pos ty hps (by rw[e];exact ha);rw[e]at this;exact this
 ·have hd:=decode_high ⟨T.toArray⟩ pos hps (by rw[e];omega)
  have hle:=decode_le ⟨T.toArray⟩ pos;refine⟨((Utf8.decode ⟨T.toArray⟩ pos).1:Int),(Utf8.decode ⟨T.toArray⟩ pos).2,fun ty=>run_next_any w _ pos ty hps,by omega,by omega,?_,fun h=>?_⟩
  ·rw[qA (by omega),qA (by omega)]
  ·rw[qA (by omega)]at h
   cases h
theorem yF (b:List UInt8)(w:World)(h1:5≤b.length)(h2:b.length≤7)(h3:b.head?=some 117):
  Calls Tryz.prog 207 #[.string ⟨b.toArray⟩] w fun e w'=>e=.returned (.tuple #[.int .i32 ((numOf b).getD 0),.bool (numOf b).isSome])∧Below w.heap.size w w':=by
 have HN:=zH (Gn h1 h2 h3);obtain⟨N,hN⟩:∃N,numOf b=N:=⟨_,rfl⟩;rw[hN]at HN⊢;clear hN;have hsz:(⟨b.toArray⟩:ByteArray).size=b.length:=by simp[Go.Lib.size_eq]
 have k0:=gZ b 0 117 (by cases b with | nil=>cases h3 | cons x r=>simpa using h3);have k1:=dR b 1 (by omega);have k0':∀w,(Instr.index 9 (.string ⟨b.toArray⟩) (.int .i64 0)).run Tryz.prog w=.ok (.int .u8 117) w:=k0;have k1':∀w,(Instr.slice 9 (.string ⟨b.toArray⟩) (some (.int .i64 1)) none none).run Tryz.prog w=.ok (.string ⟨(b.drop 1).toArray⟩) w:=k1;have hdl:(b.drop 1).length=b.length-1:=by simp
 have HS:=zH (jZ.start (b.drop 1));rw[show b.tail=b.drop 1 by simp]at HN;obtain⟨R,hR⟩:∃R,za (b.drop 1) 0=R:=⟨_,rfl⟩;rw[hR]at HN HS;obtain⟨T,hT⟩:∃T,b.drop 1=T:=⟨_,rfl⟩;rw[hT]at HS hdl k1';have HNX:=zH (fun pos x hx=>Me T pos x hx w);have HNE:=zH (fun pos (h:¬pos<(⟨T.toArray⟩:ByteArray).size) ty=>run_next_end (P:=Tryz.prog) w ⟨T.toArray⟩ pos ty h);have hTz:(⟨T.toArray⟩:ByteArray).size=T.length:=by simp[Go.Lib.size_eq]
 have hl1:¬(b.length:Int)<5:=by omega
 have hl2:¬(7:Int)<(b.length:Int):=by omega
 clear h3 k0 k1 hR hT;go_enter Tryz.func207,Tryz.ntmps207
 go_wp2_with fail
 go_loopw [4] (fun n wr=> ∃(pos:Nat) (acc:Int),wr=w.iter ⟨T.toArray⟩ pos∧n=.int .i32 acc∧jZ T R pos acc) (fun _ wr=>T.length-wr.iterPos w.heap.size)
 case atStart=>exact⟨0,0,rfl,rfl,HS.out⟩
 case round=>
  obtain⟨pos,acc,rfl,rfl,hh⟩:=hrel;have HH:=zH hh;have lo:=hh.lo;have ple:=hh.le
  by_cases hp:pos<T.length
  ·have hroom:=hh.room (by omega)
   obtain⟨x,hx⟩:∃x,T[pos]? =some x:=⟨T[pos],Pz hp⟩;obtain⟨c,k,hnx,c0,c1,hc,hk⟩:=HNX.out pos x hx;have HX:=zH hx;have HD:=zH (H9 c c0 c1);rw[hc]at HD hk
   cases hd:mh (x.toNat:Int)with
   | none=>
    rw[hd]at HD;have hR:=HH.out.none HX.out hd;have HN':=HN.out;rw[hR]at HN';simp only at HN';subst HN';simp only[QO,QI]at HD⊢;clear hd hc hk hR HH hh hx HN HNX HNE;go_wp2_with (go_at_call 231;refine(HD.out _).mono ?_;rintro e w' ⟨rfl,rfl⟩)
    go_ret2
    exact⟨rfl,(PG _ _).alloc (Px _) _⟩
   | some d=>
    rw[hd]at HD hk;obtain rfl:=hk rfl;have hb:=E9 hd;have HH':=zH (HH.out.next HX.out hd);simp only[Q6,QW]at HD;clear hd hc hk HH hh hx HNX HNE;go_wp2_with (go_at_call 231;refine(HD.out _).mono ?_;rintro e w' ⟨rfl,rfl⟩)
    go_roundw
    case rel=>exact⟨pos+1,_,rfl,rfl,HH'.out⟩
    case measure=>simp;omega
  ·have hnx:=HNE.out pos (by omega)
   have hR:=HH.out.done (by omega);have HN':=HN.out;rw[hR]at HN';simp only at HN';have V1:=zH (fun W=>FK acc W);have V2:=zH (fun W=>ru acc W);obtain⟨b1,e1⟩:∃b,vld acc=b:=⟨_,rfl⟩;obtain⟨b2,e2⟩:∃b,ctl acc=b:=⟨_,rfl⟩;rw[e1]at V1;rw[e2]at V2;rw[e1,e2]at HN';clear e1 e2 hR hh HH HN HNX HNE
   cases b1<;>cases b2
   all_goals
    simp at HN';subst HN'
    try simp only[QO,QI,Q6,QW]
    go_wp2_with (first
     | (go_at_call 232;refine(V1.out _).mono ?_;rintro e w' ⟨rfl,rfl⟩)
     | (go_at_call 102;refine(V2.out _).mono ?_;rintro e w' ⟨rfl,rfl⟩))
    go_ret2
    exact⟨rfl,(PG _ _).alloc (Px _) _⟩
theorem yG (b:List UInt8)(w:World)(hb:b.length≤maxLen):
  Calls Tryz.prog 207 #[.string ⟨b.toArray⟩] w fun e w'=>e=.returned (.tuple #[.int .i32 ((numOf b).getD 0),.bool (numOf b).isSome])∧Below w.heap.size w w':=by
 have hsz:(⟨b.toArray⟩:ByteArray).size=b.length:=by simp[Go.Lib.size_eq]
 by_cases h1:b.length<5
 ·rw[Az h1]
  have hl:(b.length:Int)<5:=by omega
  simp only[QO,QI];go_enter Tryz.func207,Tryz.ntmps207
  go_wp2
  go_ret2
  exact⟨rfl,PG _ _⟩
 ·by_cases h2:7<b.length
  ·rw[CV h2]
   have hl:¬(b.length:Int)<5:=by omega
   have hl2:(7:Int)<(b.length:Int):=by omega
   simp only[QO,QI];go_enter Tryz.func207,Tryz.ntmps207
   go_wp2
   go_ret2
   exact⟨rfl,PG _ _⟩
  ·by_cases h3:b.head?=some 117
   ·exact yF b w (by omega) (by omega) h3
   ·rw[AA h3]
    have hl:¬(b.length:Int)<5:=by omega
    have hl2:¬(7:Int)<(b.length:Int):=by omega
    obtain⟨x,hx⟩:∃x,b[0]? =some x:=⟨b[0],Pz (by omega)⟩;have k0:∀w,(Instr.index 9 (.string ⟨b.toArray⟩) (.int .i64 0)).run Tryz.prog w=.ok (.int .u8 (x.toNat:Int)) w:=gZ b 0 x hx;have hne:((x.toNat:Int) != 117)=true:=by
     rw[bne_iff_ne];intro h;apply h3;have hx2:x=117:=Rt.1 (by have:x.toNat=117:=(by omega);exact this)
     cases b with
     | nil=>simp at h1
     | cons y r=>simp at hx⊢;rw[hx,hx2]
    clear h3 hx h1 h2;simp only[QO,QI];go_enter Tryz.func207,Tryz.ntmps207
    go_wp2
    go_ret2
    exact⟨rfl,PG _ _⟩
theorem cO {b c:List UInt8}(h:¬b=c):(b==c)=false:=by simpa using h
theorem J8 (b:List UInt8)(w:World):
  Calls Tryz.prog 176 #[.string ⟨b.toArray⟩] w fun e w'=>e=.returned (.tuple #[.int .i32 ((ze b).getD 0),.bool (ze b).isSome])∧w=w':=by
 by_cases c:b∈ [[82],[49],[66],[50],[73],[51],[66,73],[52],[80]]
 ·simp only[Qn,Qs,Ri]at c
  rcases c with rfl | rfl | rfl | rfl | rfl | rfl | rfl | rfl | rfl
  all_goals
   go_enter Tryz.func176,Tryz.ntmps176
   go_wp2
   go_ret2
   exact⟨rfl,rfl⟩
 ·simp only[Qn,Qs,Ri,not_or]at c
  obtain⟨c1,c2,c3,c4,c5,c6,c7,c8,c9⟩:=c;have e:ze b=none:=by
   unfold ze;rw[PO (by rintro(h | h);exact c1 h;exact c2 h),PO (by rintro(h | h);exact c3 h;exact c4 h),PO (by rintro(h | h);exact c5 h;exact c6 h),PO (by rintro(h | h);exact c7 h;exact c8 h),PO c9]
  rw[e];have d1:=cO c1;have d2:=cO c2;have d3:=cO c3;have d4:=cO c4;have d5:=cO c5;have d6:=cO c6;have d7:=cO c7;have d8:=cO c8;have d9:=cO c9;clear c1 c2 c3 c4 c5 c6 c7 c8 c9 e;simp only[QO,QI];go_enter Tryz.func176,Tryz.ntmps176
  go_wp2
  go_ret2
  exact⟨rfl,rfl⟩
theorem jq {H:Type}{P:Program}(w:World){ops:Array Oper}{rest:List Oper}{o:Oper}{a:Act}{Q:Exit→Act→World→Prop}
  (hg:o.guard=none) (m x v:Operand) (t:TypeId) (hop:o.op=Op.insert t m x v)
  (k e:TypeId) (K:Maps.Keyed P k) (ht:P.underlying t=some (.map k e)) (R:Value→Option (DataW H×List MemPlace)) (b n:Nat) (D:DataW H)
  (hm:a.eval m=.map (some b)) (hown:w.ownsMap P k R b n D) (hn:n<maxLen) (key val:Value) (kl:Lit) (hx:a.eval x=key) (hv:a.eval v=val) (hkey:keyOf P k key=some kl)
  (d:DataW H) (ps:List MemPlace) (hval:R val=some (d,ps))
  (hK:∀w',w'.ownsMap P k R b (n+1) (D.put kl d)→w.grownBy w' (some b)→wpList P ops Q rest (a.put o.dst undef) w'):
  wpList P ops Q (o::rest) a w:=by
 refine wpList_plain hg fun K' hK'=>?_
 obtain⟨w',hrun,r1,r2⟩:=hown.update K ht hn hkey hval;unfold Oper.wp;simp[execOp,hop,hm,hx,hv,hrun,Result.andThen];exact hK' _ _ (hK w' r1 r2)
def pg (l:List (List UInt8×Int))(D:DataW Unit):DataW Unit:=l.foldl (fun D p=>D.put (.string p.1) (.lit (.int .i32 p.2))) D
def mZ:List (List UInt8×Int)→Bool
 | []=>true
 | p::l=>(fI l p.1).isNone&&mZ l
theorem vW:mZ uF=true:=by decide+kernel
theorem wW:∀(l:List (List UInt8×Int)) (D:DataW Unit) (b:List UInt8),Maps.IsMap D→Maps.has (pg l D) (.string b)=(Maps.has D (.string b)|| (fI l b).isSome)
 | [],D,b,_=>by simp[pg,fI]
 | p::l,D,b,h=>by
  have ih:=wW l (D.put (.string p.1) (.lit (.int .i32 p.2))) b (h.put _ _);have e:pg (p::l) D=pg l (D.put (.string p.1) (.lit (.int .i32 p.2))):=rfl;rw[e,ih]
  by_cases hp:p.1=b
  ·subst hp
   rw[Maps.has_put_same h (by trivial)];simp[fI]
  ·rw[Maps.has_put_other (fun h=>hp (by injection h with h;exact h.symm))]
   simp[fI,hp]
theorem AL:∀(l:List (List UInt8×Int)) (D:DataW Unit) (b:List UInt8) (z:DataW Unit),Maps.IsMap D→mZ l=true→(pg l D).atKey (.string b) z=match fI l b with
  | some r=> .lit (.int .i32 r)
  | none=>D.atKey (.string b) z
 | [],D,b,z,_,_=>by simp[pg,fI]
 | p::l,D,b,z,h,hk=>by
  unfold mZ at hk;simp only[Q7]at hk;have ih:=AL l (D.put (.string p.1) (.lit (.int .i32 p.2))) b z (h.put _ _) hk.2;have e:pg (p::l) D=pg l (D.put (.string p.1) (.lit (.int .i32 p.2))):=rfl;rw[e,ih]
  by_cases hp:p.1=b
  ·subst hp
   have h0:fI l p.1=none:=by simpa using hk.1
   rw[h0,Maps.atKey_put_same h (by trivial)];simp[fI]
  ·rw[Maps.atKey_put_other (fun h=>hp (by injection h with h;exact h.symm))]
   simp[fI,hp]
theorem Nt (w:World):(zeroValue 21).run Tryz.prog w=.ok (.int .i32 0) w:=by kernel_rfl
def Nms (W:World)(M:Nat):Prop:=W.ownsMap (H:=Unit) Tryz.prog 9 (plainElem Tryz.prog 21) M 30 (pg uF (.map []))
theorem Nms.keep {W W':World}{M:Nat}(h:Nms W M)(hb:Below W.heap.size W W'):Nms W' M:=by
 have hlt:=h.lt;obtain⟨es,clock,hh,r⟩:=h;exact⟨es,clock,(hb.block M hlt).trans hh,r⟩
def Oy (w:World)(e:Ending)(w':World):Prop:= ∃M,e=.returned (.map (some M))∧w.heap.size≤M∧Nms w' M∧Below w.heap.size w w'
structure xO (w W:World)(n:Nat)(D:DataW Unit):Prop where
 own:W.ownsMap (H:=Unit) Tryz.prog 9 (plainElem Tryz.prog 21) w.heap.size n D
 bel:Below w.heap.size w W
theorem xO.next {w W W':World}{n:Nat}{D D':DataW Unit}(h:xO w W n D)(ho:W'.ownsMap (H:=Unit) Tryz.prog 9 (plainElem Tryz.prog 21) w.heap.size (n+1) D')(hg:W.grownBy W' (some w.heap.size)):xO w W' (n+1) D':=
 ⟨ho,h.bel.grown hg h.bel.size (fun j e=>by cases e;exact Px _)⟩
theorem ER (b:List UInt8)(hb:b.length≤10):keyOf Tryz.prog 9 (.string ⟨b.toArray⟩)=some (.string b):=by
 have:=WideMaps.keyOf_string_mk (P:=Tryz.prog) (k:=9) Tryz.underlying9 (s:=⟨b.toArray⟩) (by simp[Go.Lib.size_eq,maxLen];omega)
 simpa using this
theorem OG {w W:World}{n:Nat}{D:DataW Unit}{ops:Array Oper}{rest:List Oper}{o:Oper}{a:Act}{Q:Exit→Act→World→Prop}(h:xO w W n D)(hg:o.guard=none){b:List UInt8}{r:Int}
  (hop:o.op=Op.insert 159 (.tmp 1) (.const (.string ⟨b.toArray⟩)) (.const (.int .i32 r))) (hb:b.length≤10) (hr:(Lit.int .i32 r).wf=true) (hn:n≤1000) (hm:a.eval (.tmp 1)=.map (some w.heap.size))
  (hK:∀W',xO w W' (n+1) (D.put (.string b) (.lit (.int .i32 r)))→wpList Tryz.prog ops Q rest (a.put o.dst undef) W'):wpList Tryz.prog ops Q (o::rest) a W:=
 jq W hg _ _ _ 159 hop 9 21 (Maps.string_keyed Tryz.underlying9) Tryz.underlying159 _ w.heap.size n D hm h.own (by unfold maxLen;omega) _ _ _ rfl rfl (ER b hb) _ [] (plainElem_int Tryz.underlying21 hr)
  (fun W' ho hg=>hK W' (h.next ho hg))
theorem Gt (w:World):Calls Tryz.prog 174 #[] w (Oy w):=by
 have H0:xO w (w.alloc (.map #[] 0)) 0 (.map []):=⟨World.ownsMap_made _ _ _ _,(PG _ _).alloc (Px _) _⟩;have hmm:= @run_makeMap Tryz.prog;go_enter Tryz.func174,Tryz.ntmps174
 go_wp2_with (refine OG (by assumption) rfl rfl (by decide) (by decide) (by omega) rfl ?_;intro w1 h1)
 go_ret;exact⟨_,rfl,Px _,h1.own,h1.bel⟩
theorem Mk {W:World}{M:Nat}(h:Nms W M)(b:List UInt8)(hb:b.length≤maxLen):
  (Instr.lookup 159 (.map (some M)) (.string ⟨b.toArray⟩) true).run Tryz.prog W=.ok (.tuple #[.int .i32 ((fI uF b).getD 0),.bool (fI uF b).isSome]) W:=by
 have hkey:=WideMaps.keyOf_string_mk (P:=Tryz.prog) (k:=9) Tryz.underlying9 (s:=⟨b.toArray⟩) (by simpa[Go.Lib.size_eq] using hb);obtain⟨v,ps,hrun,hv⟩:=World.ownsMap.look_ok h (Maps.string_keyed Tryz.underlying9) Tryz.underlying159 (Nt W) (plainElem_int Tryz.underlying21 (by decide)) hkey;obtain⟨c,rfl,hc,-⟩:=plainElem_int_inv Tryz.underlying21 hv;have hc1:=PR Prod.fst hc;rw[hrun];simp only at hc1;rw[AL _ _ _ _ Maps.isMap_empty vW]at hc1;rw[wW _ _ _ Maps.isMap_empty];have h0:Maps.has (.map []:DataW Unit) (.string (⟨b.toArray⟩:ByteArray).data.toList)=false:=rfl;rw[h0,Bool.false_or];simp only at hc1⊢
 cases hl:fI uF b with
 | none=>
  rw[hl]at hc1;have:c=0:=by
   have h1:(DataW.lit (.int .i32 0):DataW Unit)=.lit (.int .i32 c):=hc1;injection h1 with h1
   injection h1 with _ h1
   exact h1.symm
  subst this;rfl
 | some r=>
  rw[hl]at hc1;have:c=r:=by
   have h1:(DataW.lit (.int .i32 r):DataW Unit)=.lit (.int .i32 c):=hc1;injection h1 with h1
   injection h1 with _ h1
   exact h1.symm
  subst this;rfl
theorem Ka (b:List UInt8)(M:Nat)(w:World)(hm:Nms w M)(hb:b.length≤maxLen):
  Calls Tryz.prog 175 #[.map (some M),.string ⟨b.toArray⟩] w fun e w'=>e=.returned (.tuple #[.int .i32 ((AJ b).getD 0),.bool (AJ b).isSome])∧Below w.heap.size w w':=by
 have hl:=Mk hm b hb;have HN:=zH (yG b w hb);unfold AJ
 cases he:fI uF b with
 | some r=>
  rw[he]at hl;simp only[Q6,QW]at hl⊢;clear he HN hm;go_enter Tryz.func175,Tryz.ntmps175
  go_wp2_with fail
  go_ret2
  exact⟨rfl,PG _ _⟩
 | none=>
  rw[he]at hl;simp only[QO,QI]at hl⊢;obtain⟨N,hN⟩:∃N,numOf b=N:=⟨_,rfl⟩;rw[hN]at HN⊢;clear he hm hN;go_enter Tryz.func175,Tryz.ntmps175
  go_wp2_with fail
  refine HN.out.mono ?_;rintro e w1 ⟨rfl,b1⟩;go_wp2_with fail
  go_ret2
  exact⟨rfl,b1⟩
section
def zX (t:Tok):List Value:=[.int .i64 t.1,.int .i32 t.2]
theorem dZ (t:Tok):(zX t).length=2:=rfl
theorem FO (t:Tok):∀u∈zX t,u.oneCell'=true:=by
 intro u hu;simp[zX]at hu;rcases hu with rfl | rfl<;>rfl
def fT (d:Dg):List Value:=[.int .i64 d.1,.int .i64 d.2.1,.int .i64 d.2.2]
theorem ax (d:Dg):(fT d).length=3:=rfl
theorem xy (d:Dg):∀u∈fT d,u.oneCell'=true:=by
 intro u hu;simp[fT]at hu;rcases hu with rfl | rfl | rfl<;>rfl
abbrev Ts (w:World)(v:Value)(l:List Tok):Prop:=Fs 2 zX w v l
abbrev Iy (base:Nat)(W:World)(x:Value)(l:List Tok):Prop:=ag 113 2 zX base W x l
abbrev Ds (w:World)(v:Value)(l:List Dg):Prop:=Fs 3 fT w v l
abbrev bG (base:Nat)(W:World)(x:Value)(l:List Dg):Prop:=ag 46 3 fT base W x l
theorem OV:(Tryz.prog.info? 113).map (fun i=>(i.zero,i.size,i.bytes))=some (some (.agg #[.int .i64 0,.int .i32 0]),2,16):=by kernel_rfl
theorem J2:(Tryz.prog.info? 46).map (fun i=>(i.zero,i.size,i.bytes))=some (some (.agg #[.int .i64 0,.int .i64 0,.int .i64 0]),3,24):=by kernel_rfl
noncomputable def MZ (args:Array Value):Sem Next:=do pure (.value (←Builtin.append_ #[69,69] 69 args))
theorem iL (cs:Array Bool)(args:Array Value):builtin .append #[69,69] 69 cs args=MZ args:=rfl
noncomputable def gQ (args:Array Value):Sem Next:=do pure (.value (←Builtin.append_ #[29,29] 29 args))
theorem bH (cs:Array Bool)(args:Array Value):builtin .append #[29,29] 29 cs args=gQ args:=rfl
theorem KY {base:Nat}{W:World}{x u:Value}{l m:List Tok}(h:Iy base W x l)(hu:Ts W u m)(hb:base≤W.heap.size)(hd:l.length+m.length≤1000000):
  ∃x' w',(MZ #[x,u]).run Tryz.prog W=.ok (.value x') w'∧Iy base w' x' (l++m)∧W.grownBy w' x.ownBlock∧(x'.ownBlock=x.ownBlock∨x'.ownBlock=some W.heap.size):=by
 obtain⟨i0,hi,hz0,hz1,hz2⟩:=Ql OV;obtain⟨x',w',hr,r⟩:=lM dZ FO (by decide) Tryz.underlying69 hi hz0 hz1 hz2 rfl (by decide) h hu hb hd;refine⟨x',w',?_,r⟩;unfold MZ;simp only[QD,QG,Qm,hr]
theorem gX {base:Nat}{W:World}{x u:Value}{l m:List Dg}(h:bG base W x l)(hu:Ds W u m)(hb:base≤W.heap.size)(hd:l.length+m.length≤1000000):
  ∃x' w',(gQ #[x,u]).run Tryz.prog W=.ok (.value x') w'∧bG base w' x' (l++m)∧W.grownBy w' x.ownBlock∧(x'.ownBlock=x.ownBlock∨x'.ownBlock=some W.heap.size):=by
 obtain⟨i0,hi,hz0,hz1,hz2⟩:=Ql J2;obtain⟨x',w',hr,r⟩:=lM ax xy (by decide) Tryz.underlying29 hi hz0 hz1 hz2 rfl (by decide) h hu hb hd;refine⟨x',w',?_,r⟩;unfold gQ;simp only[QD,QG,Qm,hr]
structure RdV (w0:World)(B:Nat)(tv:Value)(L:List Int)(W:World)(nx:Int)(T:List Tok)(D:List Dg)(vt vd vm:Value):Prop where
 hB:w0.heap.size=B
 sl:Sl .i32 w0 tv L
 bel:Below B w0 W
 blk:Blk W B 161 [tv,.int .i64 nx,vt,vd,vm]
 tk:Iy (B+1) W vt T
 dg:bG (B+1) W vd D
 mp:vm=.map none∨ ∃M,vm=.map (some M)∧B<M∧Nms W M
def Rd (w0:World)(B:Nat)(tv:Value)(L:List Int)(W:World)(nx:Int)(T:List Tok)(D:List Dg):Prop:= ∃vt vd vm,RdV w0 B tv L W nx T D vt vd vm
section
variable {w0:World}{B:Nat}{tv:Value}{L:List Int}{W:World}{nx:Int}{T:List Tok}{D:List Dg}{vt vd vm:Value}
theorem RdV.lt (h:RdV w0 B tv L W nx T D vt vd vm):B<W.heap.size:=(Py.1 h.blk).1
theorem RdV.text (h:RdV w0 B tv L W nx T D vt vd vm):Sl .i32 W tv L:=h.sl.below (by rw[h.hB];exact h.bel)
theorem RdV.keep {W':World}(h:RdV w0 B tv L W nx T D vt vd vm)(hb:Below W.heap.size W W'):RdV w0 B tv L W' nx T D vt vd vm:=by
 refine⟨h.hB,h.sl,h.bel.trans (hb.mono (Nat.le_of_lt h.lt)),h.blk.below hb,h.tk.keep hb,h.dg.keep hb,?_⟩;rcases h.mp with h0 | ⟨M,h1,h2,h3⟩
 ·exact .inl h0
 ·exact .inr ⟨M,h1,h2,h3.keep hb⟩
theorem yH {W:World}{M:Nat}(h:Nms W M){a:Addr}(ha:a.block≠M)(u:Value):Nms (W.setCell a u) M:=World.ownsMap.setCell h (fun e=>ha e.symm) u
theorem EP {W:World}{M:Nat}(h:Nms W M){α:Type}{e n:Nat}{f:α→List Value}{base:Nat}{x:Value}{l:List α}(ho:ag e n f base W x l):some M≠x.ownBlock:=by
 intro hx;obtain⟨es,clock,hb,-⟩:=h;obtain⟨-,cur,hc⟩:=ho.ty hx.symm;rw[hb]at hc
 cases hc
theorem RdV.set (h:RdV w0 B tv L W nx T D vt vd vm)(j:Nat)(u:Value){nx':Int}{vt' vd' vm':Value}(hl:[tv,.int .i64 nx,vt,vd,vm].set j u=[tv,.int .i64 nx',vt',vd',vm']){T':List Tok}{D':List Dg}(ht:Iy (B+1) W vt' T')(hd:bG (B+1) W vd' D')(hm:vm'=.map none∨ ∃M,vm'=.map (some M)∧B<M∧Nms W M):
  RdV w0 B tv L (W.setCell ⟨B,j,none⟩ u) nx' T' D' vt' vd' vm':=by
 refine⟨h.hB,h.sl,h.bel.setCell (Px _) _,hl▸h.blk.set j u,Qg ht (by simp) u,Qg hd (by simp) u,?_⟩;rcases hm with h0 | ⟨M,h1,h2,h3⟩
 ·exact .inl h0
 ·exact .inr ⟨M,h1,h2,yH h3 (by simp only;omega) u⟩
theorem RdV.next (h:RdV w0 B tv L W nx T D vt vd vm)(nx':Int):RdV w0 B tv L (W.setCell ⟨B,1,none⟩ (.int .i64 nx')) nx' T D vt vd vm:=
 h.set 1 (.int .i64 nx') rfl h.tk h.dg h.mp
theorem RdV.names (h:RdV w0 B tv L W nx T D vt vd vm){M:Nat}(hM:B<M)(hm:Nms W M):RdV w0 B tv L (W.setCell ⟨B,4,none⟩ (.map (some M))) nx T D vt vd (.map (some M)):=
 h.set 4 (.map (some M)) rfl h.tk h.dg (.inr ⟨M,rfl,hM,hm⟩)
theorem RdV.say (h:RdV w0 B tv L W nx T D vt vd vm)(k r:Int)(hT:T.length≤500000):
  ∃vt' w2,(MZ #[vt,.slice (some ⟨W.heap.size,0,none⟩) 1 1]).run Tryz.prog (W.alloc (.cells #[.int .i64 k,.int .i32 r] 113))=.ok (.value vt') w2∧w2.cell? ⟨B,2,none⟩=some vt∧w2.frozen? ⟨B,2,none⟩=false∧
   RdV w0 B tv L (w2.setCell ⟨B,2,none⟩ vt') nx (T++ [(k,r)]) D vt' vd vm:=by
 have hlt:=h.lt;have b1:=ae W (.cells #[.int .i64 k,.int .i32 r] 113);have h1:=h.keep b1;have hlt1:=h1.lt;obtain⟨vt',w2,hrun,ho,hg,-⟩:=KY h1.tk (dM dZ W 113 [(k,r)]) (by omega) (by simp;omega);have hne:vt.ownBlock≠some B:=fun e=>by have:=(h1.tk.ty e).1;omega
 have blk2:Blk w2 B 161 [tv,.int .i64 nx,vt,vd,vm]:=(hg.block B hlt1 (fun e=>hne e.symm)).trans h1.blk;have hd2:bG (B+1) w2 vd D:=ag.apart h1.dg hg (dO h1.dg h1.tk (by decide));have hbel:Below B w0 w2:=h1.bel.grown hg (by omega) (fun j e=>by have:=(h1.tk.ty e).1;omega);refine⟨vt',w2,hrun,blk2.cell 2,blk2.frozen (by simp),?_⟩;have hm2:vm=.map none∨ ∃M,vm=.map (some M)∧B<M∧Nms w2 M:=by
  rcases h1.mp with h0 | ⟨M,e1,e2,e3⟩
  ·exact .inl h0
  ·exact .inr ⟨M,e1,e2,World.ownsMap.kept e3 hg (EP e3 h1.tk)⟩
 refine⟨h.hB,h.sl,hbel.setCell (Px _) _,blk2.set 2 vt',Qg ho (by simp) _,Qg hd2 (by simp) _,?_⟩;rcases hm2 with h0 | ⟨M,e1,e2,e3⟩
 ·exact .inl h0
 ·exact .inr ⟨M,e1,e2,yH e3 (by simp only;omega) _⟩
theorem RdV.tell (h:RdV w0 B tv L W nx T D vt vd vm)(k r:Int)(hD:D.length≤500000):
  ∃vd' w2,(gQ #[vd,.slice (some ⟨W.heap.size,0,none⟩) 1 1]).run Tryz.prog (W.alloc (.cells #[.int .i64 k,.int .i64 0,.int .i64 r] 46))=.ok (.value vd') w2∧w2.cell? ⟨B,3,none⟩=some vd∧w2.frozen? ⟨B,3,none⟩=false∧
   RdV w0 B tv L (w2.setCell ⟨B,3,none⟩ vd') nx T (D++ [(k,0,r)]) vt vd' vm:=by
 have hlt:=h.lt;have b1:=ae W (.cells #[.int .i64 k,.int .i64 0,.int .i64 r] 46);have h1:=h.keep b1;have hlt1:=h1.lt;obtain⟨vd',w2,hrun,ho,hg,-⟩:=gX h1.dg (dM ax W 46 [(k,0,r)]) (by omega) (by simp;omega);have hne:vd.ownBlock≠some B:=fun e=>by have:=(h1.dg.ty e).1;omega
 have blk2:Blk w2 B 161 [tv,.int .i64 nx,vt,vd,vm]:=(hg.block B hlt1 (fun e=>hne e.symm)).trans h1.blk;have ht2:Iy (B+1) w2 vt T:=ag.apart h1.tk hg (dO h1.tk h1.dg (by decide));have hbel:Below B w0 w2:=h1.bel.grown hg (by omega) (fun j e=>by have:=(h1.dg.ty e).1;omega);refine⟨vd',w2,hrun,blk2.cell 3,blk2.frozen (by simp),?_⟩;have hm2:vm=.map none∨ ∃M,vm=.map (some M)∧B<M∧Nms w2 M:=by
  rcases h1.mp with h0 | ⟨M,e1,e2,e3⟩
  ·exact .inl h0
  ·exact .inr ⟨M,e1,e2,World.ownsMap.kept e3 hg (EP e3 h1.dg)⟩
 refine⟨h.hB,h.sl,hbel.setCell (Px _) _,blk2.set 3 vd',Qg ht2 (by simp) _,Qg ho (by simp) _,?_⟩;rcases hm2 with h0 | ⟨M,e1,e2,e3⟩
 ·exact .inl h0
 ·exact .inr ⟨M,e1,e2,yH e3 (by simp only;omega) _⟩
end
def iB (w0:World)(B:Nat)(tv:Value)(L:List Int)(nx:Int)(T:List Tok)(D:List Dg)(v:Value)(e:Ending)(w':World):Prop:=e=.returned v∧Rd w0 B tv L w' nx T D
attribute [local go_sem ↓ high] iL bH
theorem pW {w0:World}{B:Nat}{tv:Value}{L:List Int}{nx:Int}{T:List Tok}{D:List Dg}(c:Int)(w:World)(h:Rd w0 B tv L w nx T D)(hT:T.length≤500000):
  Calls Tryz.prog 104 #[.pointer (some ⟨B,0,none⟩),.int .i32 c] w (iB w0 B tv L nx (T++ [(1,c)]) D (.tuple #[])):=by
 obtain⟨vt,vd,vm,hv⟩:=h;have c2:=hv.blk.cell 2;have c2':w.cell? ⟨B,2,none⟩=some vt:=c2;obtain⟨vt',w2,k2,q2,f2,r2⟩:=hv.say 1 c hT;obtain⟨a1,n1,rfl⟩:=(ag.sl dZ hv.tk).len;obtain⟨a2,n2,rfl⟩:=(ag.sl dZ r2.tk).len;obtain⟨m,hm⟩:∃m,(T++ [(1,c)]).length=m:=⟨_,rfl⟩;rw[hm]at k2 r2;clear hm;have R2:=zH r2;clear c2 hv r2;go_enter Tryz.func104,Tryz.ntmps104
 go_wp2_with fail
 go_end0;exact⟨rfl,_,_,_,R2.out⟩
theorem gT {w0:World}{B:Nat}{tv:Value}{L:List Int}{nx:Int}{T:List Tok}{D:List Dg}(k:Int)(p:Nat)(w:World)(h:Rd w0 B tv L w nx T D)(hD:D.length≤500000)(hp:p≤500000):
  Calls Tryz.prog 103 #[.pointer (some ⟨B,0,none⟩),.int .i64 k,.int .i64 (p:Int)] w (iB w0 B tv L nx T (D++dgs p [k]) (.tuple #[])):=by
 obtain⟨vt,vd,vm,hv⟩:=h;have c2:=hv.blk.cell 3;have c2':w.cell? ⟨B,3,none⟩=some vd:=c2;obtain⟨vt',w2,k2,q2,f2,r2⟩:=hv.tell k ((p:Int)+1) hD;obtain⟨a1,n1,rfl⟩:=(ag.sl ax hv.dg).len;obtain⟨a2,n2,rfl⟩:=(ag.sl ax r2.dg).len;obtain⟨m,hm⟩:∃m,(D++ [(k,0,(p:Int)+1)]).length=m:=⟨_,rfl⟩;rw[hm]at k2 r2;clear hm;have R2:=zH r2;clear c2 hv r2;go_enter Tryz.func103,Tryz.ntmps103
 go_wp2_with fail
 go_end0;exact⟨rfl,_,_,_,R2.out⟩
end
section
attribute [local go_sem ↓ high] iL bH
theorem eP (w:World)(a b:Obj):Below w.heap.size w ((w.alloc a).alloc b):=((PG _ w).alloc (Px _) _).alloc (by simp) _
theorem xI (w:World)(L:List Value)(e:TypeId)(b:Obj):Blk ((w.alloc (.cells L.toArray e)).alloc b) w.heap.size e L:=
 Blk.below (W:=w.alloc (.cells L.toArray e)) (PK w _) (ae _ _)
theorem Bw (w:World)(a:Obj)(L:List Value)(e:TypeId):Blk ((w.alloc a).alloc (.cells L.toArray e)) (w.heap.size+1) e L:=by
 have:=PK (w.alloc a) (.cells L.toArray e);have e1:(w.alloc a).heap.size=w.heap.size+1:=by simp
 rw[e1]at this;exact this
theorem eG (w:World)(a:Addr)(v:Value):(w.setCell a v).heap.size=w.heap.size:=by simp[World.setCell]
end
theorem Fs.t {w:World}{a:Option Addr}{k cap:Nat}{l:List Tok}(h:Ts w (.slice a k cap) l){j:Nat}{g:Tok}(hj:l[j]? =some g):
  ∃b off,a=some ⟨b,off,none⟩∧w.cell? ⟨b,off+j*2,none⟩=some (.int .i64 g.1)∧w.cell? ⟨b,off+j*2+1,none⟩=some (.int .i32 g.2):=by
 obtain⟨a',cap',hv,_,hr⟩:=h;injection hv with h1 h2 h3
 subst h1;obtain⟨b,off,rfl,h0⟩:=hr j g hj;exact⟨b,off,rfl,h0 0 _ rfl,h0 1 _ rfl⟩
theorem Fs.d {w:World}{a:Option Addr}{k cap:Nat}{l:List Dg}(h:Ds w (.slice a k cap) l){j:Nat}{g:Dg}(hj:l[j]? =some g):
  ∃b off,a=some ⟨b,off,none⟩∧w.cell? ⟨b,off+j*3,none⟩=some (.int .i64 g.1)∧w.cell? ⟨b,off+j*3+1,none⟩=some (.int .i64 g.2.1)∧w.cell? ⟨b,off+j*3+2,none⟩=some (.int .i64 g.2.2):=by
 obtain⟨a',cap',hv,_,hr⟩:=h;injection hv with h1 h2 h3
 subst h1;obtain⟨b,off,rfl,h0⟩:=hr j g hj;exact⟨b,off,rfl,h0 0 _ rfl,h0 1 _ rfl,h0 2 _ rfl⟩
theorem Po (k l k' l':Int)(w:World):(Op.equalIn 10000 113 (.agg #[.int .i64 k,.int .i32 l]) (.agg #[.int .i64 k',.int .i32 l'])).run Tryz.prog w=.ok (k==k'&&l==l') w:=by
 rw[run_equalIn_agg w 9999 113 _ _ (by kernel_rfl) (by kernel_rfl)];have h3:((Tryz.prog.fieldsOf 113).toList.map fun f=>(f.name != "_",f.type,f.offset))=[(true,3,0),(true,21,1)]:=by kernel_rfl
 generalize (Tryz.prog.fieldsOf 113).toList=fs at*;rcases fs with _ | ⟨f0,_ | ⟨f1,_ | ⟨f2,fs⟩⟩⟩
 ·simp at h3
 ·simp at h3
 ·simp only[Qo,QH,R7,Q9,and_true,bne_iff_ne,ne_eq]at h3
  obtain⟨⟨n0,t0,o0⟩,⟨n1,t1,o1⟩⟩:=h3;have e0:∀(a b:Int) (w:World),(Op.equalIn 9999 3 (.int .i64 a) (.int .i64 b)).run Tryz.prog w=.ok (a==b) w:=fun a b w=>run_equalIn_int w 9998 3 .i64 .i64 a b Tryz.underlying3
  have e1:∀(a b:Int) (w:World),(Op.equalIn 9999 21 (.int .i32 a) (.int .i32 b)).run Tryz.prog w=.ok (a==b) w:=fun a b w=>run_equalIn_int w 9998 21 .i32 .i32 a b Tryz.underlying21
  simp[go_sem,Op.eqFields,n0,n1,t0,t1,o0,o1,e0,e1]
  by_cases a1:k=k'<;>by_cases a2:l=l'<;>simp[a1,a2]
 ·simp at h3
theorem Ju (k l k' l':Int)(w:World):(binOp .neq 113 (.agg #[.int .i64 k,.int .i32 l]) (.agg #[.int .i64 k',.int .i32 l'])).run Tryz.prog w=.ok (.bool (!(k==k'&&l==l'))) w:=by
 rw[run_neq_struct,Po];rfl
theorem NP {x y:Tok}(h:x≠y)(w:World):(binOp .neq 113 (.agg #[.int .i64 x.1,.int .i32 x.2]) (.agg #[.int .i64 y.1,.int .i32 y.2])).run Tryz.prog w=.ok (.bool true) w:=by
 rw[Ju];have:(x.1==y.1&&x.2==y.2)=false:=by
  rw[Bool.eq_false_iff];intro e;simp only[Q7,RA]at e;exact h (Prod.ext e.1 e.2)
 rw[this];rfl
theorem eqD (k l m k' l' m':Int)(w:World):(Op.equalIn 10000 46 (.agg #[.int .i64 k,.int .i64 l,.int .i64 m]) (.agg #[.int .i64 k',.int .i64 l',.int .i64 m'])).run Tryz.prog w=.ok (k==k'&&l==l'&&m==m') w:=by
 rw[run_equalIn_agg w 9999 46 _ _ (by kernel_rfl) (by kernel_rfl)];have h3:((Tryz.prog.fieldsOf 46).toList.map fun f=>(f.name != "_",f.type,f.offset))=[(true,3,0),(true,3,1),(true,3,2)]:=by kernel_rfl
 generalize (Tryz.prog.fieldsOf 46).toList=fs at*;rcases fs with _ | ⟨f0,_ | ⟨f1,_ | ⟨f2,_ | ⟨f3,fs⟩⟩⟩⟩
 ·simp at h3
 ·simp at h3
 ·simp at h3
 ·simp only[Qo,QH,R7,Q9,and_true,bne_iff_ne,ne_eq]at h3
  obtain⟨⟨n0,t0,o0⟩,⟨n1,t1,o1⟩,⟨n2,t2,o2⟩⟩:=h3;have e0:∀(a b:Int) (w:World),(Op.equalIn 9999 3 (.int .i64 a) (.int .i64 b)).run Tryz.prog w=.ok (a==b) w:=fun a b w=>run_equalIn_int w 9998 3 .i64 .i64 a b Tryz.underlying3
  simp[go_sem,Op.eqFields,n0,n1,n2,t0,t1,t2,o0,o1,o2,e0]
  by_cases a1:k=k'<;>by_cases a2:l=l'<;>by_cases a3:m=m'<;>simp[a1,a2,a3]
 ·simp at h3
theorem AR (k l m k' l' m':Int)(w:World):(binOp .neq 46 (.agg #[.int .i64 k,.int .i64 l,.int .i64 m]) (.agg #[.int .i64 k',.int .i64 l',.int .i64 m'])).run Tryz.prog w=.ok (.bool (!(k==k'&&l==l'&&m==m'))) w:=by
 rw[run_neq_struct,eqD];rfl
theorem Gr (k l m:Int)(w:World):(binOp .neq 46 (.agg #[.int .i64 k,.int .i64 l,.int .i64 m]) (.agg #[.int .i64 k,.int .i64 l,.int .i64 m])).run Tryz.prog w=.ok (.bool false) w:=by
 rw[AR];simp
theorem C9 {x y:Dg}(h:x≠y)(w:World):(binOp .neq 46 (.agg #[.int .i64 x.1,.int .i64 x.2.1,.int .i64 x.2.2]) (.agg #[.int .i64 y.1,.int .i64 y.2.1,.int .i64 y.2.2])).run Tryz.prog w=.ok (.bool true) w:=by
 rw[AR];have:(x.1==y.1&&x.2.1==y.2.1&&x.2.2==y.2.2)=false:=by
  rw[Bool.eq_false_iff];intro e;simp only[Q7,RA]at e;exact h (Prod.ext e.1.1 (Prod.ext e.1.2 e.2))
 rw[this];rfl
theorem CB (a b:List Dg)(v u:Value)(w:World)(hv:Ds w v a)(hu:Ds w u b)(hl:a.length≤200000)(hl':b.length≤200000):
  Calls Tryz.prog 20 #[v,u] w fun e w'=>e=.returned (.bool (decide (a=b)))∧Below w.heap.size w w':=by
 have HV:=zH hv;have HU:=zH hu;obtain⟨aa,ca,rfl,-,-⟩:=hv;obtain⟨ab,cb,rfl,-,-⟩:=hu
 by_cases hlen:a.length=b.length
 ·have HLen:=zH hlen
  have hne:((a.length:Int) != (b.length:Int))=false:=by simp[hlen]
  clear hlen;go_enter Tryz.func20,Tryz.ntmps20
  go_wp2_with fail
  go_loopw [5] (fun i wr=> ∃j:Nat,j≤a.length∧i=.int .i64 j∧a.take j=b.take j∧Below w.heap.size w wr) (fun i _=>a.length-(intOf i).toNat)
  case atStart=>exact⟨0,by omega,rfl,rfl,PG _ _⟩
  case round=>
   obtain⟨j,hj,rfl,hs,hbw⟩:=hrel;have HS:=zH hs;clear hs
   by_cases hlt:j<a.length
   ·obtain⟨x,hx⟩:∃x,a[j]? =some x:=⟨a[j],Pz hlt⟩
    obtain⟨y,hy⟩:∃y,b[j]? =some y:=⟨b[j]'(by have:=HLen.out;omega),Pz _⟩;obtain⟨g,off,rfl,c0,c1,c2⟩:=Fs.d (Fs.below HV.out hbw) hx;obtain⟨g',off',rfl,c0',c1',c2'⟩:=Fs.d (Fs.below HU.out hbw) hy;have hi0:(j:Int)<(a.length:Int):=by omega
    have hi2:(j:Int)<(b.length:Int):=by have:=HLen.out;omega
    have hi1:(0:Int)≤(j:Int):=by omega
    by_cases hxy:x=y
    ·subst hxy
     have HT:=zH (take_same HS.out hx hy);have hq:=Gr;clear hx hy;go_wp2_with fail
     go_quiet (fail)
     go_wp2
     go_roundw
     case rel=>exact⟨j+1,by omega,by go_num,HT.out,below_drewN hbw _⟩
     case measure=>simp[intOf];omega
    ·have HT:=zH (P8 (uE hx hy hxy))
     have hq:=C9 hxy;clear hx hy hxy;go_wp2_with fail
     go_quiet (fail)
     go_wp2
     go_ret;exact⟨aH HT.out.symm,below_drewN hbw _⟩
   ·obtain rfl:j=a.length:=by omega
    have hs:a=b:=by
     have h:=HS.out;rw[Qa,HLen.out,Qa]at h;exact h
    have HT:=zH (Qz hs);clear hs;go_wp2_with fail
    go_ret;exact⟨aH HT.out.symm,hbw⟩
 ·have hne:((a.length:Int) != (b.length:Int))=true:=by simp;omega
  have HT:=zH (P8 (show¬a=b from fun h=>hlen (by rw[h])));clear hlen;go_enter Tryz.func20,Tryz.ntmps20
  go_wp2_with fail
  go_ret;exact⟨aH HT.out.symm,PG _ _⟩
abbrev Fce:=Int×Int
def fv (f:Fce):Value:= .agg #[.int .u8 f.1,.int .u8 f.2]
def mo (f:Fce)(n:Int):Fce:=if n=4 then(f.2,f.1) else if 0≤n∧n≤3 then(n,f.1) else f
def mi (s:List Gly×Fce)(t:Tok):List Gly×Fce:=
 if t.1=1 then(s.1++ [(t.2,s.2.1)],s.2) else if t.1=2 then(s.1++ [(32,0)],s.2) else if t.1=3 then(s.1,mo s.2 t.2) else s
def jG (f:Fce)(l:List Tok):List Gly×Fce:=l.foldl mi ([],f)
theorem Hg {f:Fce}{l:List Tok}{j:Nat}{t:Tok}(h:l[j]? =some t):jG f (l.take (j+1))=mi (jG f (l.take j)) t:=by
 unfold jG;rw[Qw,h,Rv];rfl
theorem Hf (s:List Gly×Fce)(t:Tok):(mi s t).1.length≤s.1.length+1:=by
 unfold mi
 split
 ·simp
 ·split
  ·simp
  ·split<;>simp
theorem xe:∀(l:List Tok) (s:List Gly×Fce),(l.foldl mi s).1.length≤s.1.length+l.length
 | [],s=>by simp
 | t::l,s=>by
  have:=xe l (mi s t);have:=Hf s t;simp only[RF,PI];omega
theorem uV (f:Fce)(l:List Tok):(jG f l).1.length≤l.length:=by
 have:=xe l ([],f)
 simpa[jG] using this
theorem DW (a b:Int):mo (a,b) 4=(b,a):=by simp[mo]
theorem pJ (a b:Int)(n:Int)(h0:0≤n)(h1:n≤3):mo (a,b) n=(n,a):=by unfold mo;rw[PO (by omega),PZ ⟨h0,h1⟩]
theorem uX (f:Fce)(n:Int)(h:n<0∨4<n):mo f n=f:=by unfold mo;rw[PO (by omega),PO (by omega)]
theorem FL (n:Int):n=0∨n=1∨n=2∨n=3∨n=4∨n<0∨4<n:=by omega
theorem QTR {P:Prop}(h:P:=by
 obtain⟨rfl,rfl⟩:=RO hpq;clear hpq;go_enter Tryz.func105,Tryz.ntmps105
 go_wp2_with fail
 exact Qi (v:= .agg #[_,_]) (by simp[results,Tryz.results105,go_sem]) rfl ⟨rfl,eP w _ _⟩):P:=h
theorem IR (a b n:Int)(w:World):
  Calls Tryz.prog 105 #[.agg #[.int .u8 a,.int .u8 b],.int .i32 n] w fun e w'=>e=.returned (.agg #[.int .u8 (mo (a,b) n).1,.int .u8 (mo (a,b) n).2])∧Below w.heap.size w w':=by
 obtain⟨p,q,hpq⟩:∃p q,mo (a,b) n=(p,q):=⟨_,_,rfl⟩;rw[hpq];rcases FL n with rfl | rfl | rfl | rfl | rfl | h | h
 ·rw[pJ a b 0 (by omega) (by omega)]at hpq
  exact QTR
 ·rw[pJ a b 1 (by omega) (by omega)]at hpq
  exact QTR
 ·rw[pJ a b 2 (by omega) (by omega)]at hpq
  exact QTR
 ·rw[pJ a b 3 (by omega) (by omega)]at hpq
  exact QTR
 ·rw[DW a b]at hpq
  exact QTR
 ·rw[uX (a,b) n (.inl h)]at hpq
  obtain⟨rfl,rfl⟩:=RO hpq;have x0:¬n=0:=by omega
  have x1:¬n=1:=by omega
  have x2:¬n=2:=by omega
  have x3:¬n=3:=by omega
  have x4:¬n=4:=by omega
  have x5:¬4<n:=by omega
  clear hpq;go_enter Tryz.func105,Tryz.ntmps105
  go_wp2_with fail
  exact Qi (v:= .agg #[_,_]) (by simp[results,Tryz.results105,go_sem]) rfl ⟨rfl,eP w _ _⟩
 ·rw[uX (a,b) n (.inr h)]at hpq
  obtain⟨rfl,rfl⟩:=RO hpq;have x0:¬n=0:=by omega
  have x1:¬n=1:=by omega
  have x2:¬n=2:=by omega
  have x3:¬n=3:=by omega
  have x4:¬n=4:=by omega
  have x5:¬n<0:=by omega
  clear hpq;go_enter Tryz.func105,Tryz.ntmps105
  go_wp2_with fail
  exact Qi (v:= .agg #[_,_]) (by simp[results,Tryz.results105,go_sem]) rfl ⟨rfl,eP w _ _⟩
section
attribute [local go_sem ↓ high] fB
structure jH (w:World)(s:Value)(c:List Gly×Fce)(W:World):Prop where
 b0:Blk W w.heap.size 28 [.int .u8 c.2.1,.int .u8 c.2.2]
 b1:Blk W (w.heap.size+1) 28 [.int .u8 0,.int .u8 0]
 s:aW (w.heap.size+2) W s c.1
 bel:Below w.heap.size w W
section
variable {w W:World}{s:Value}{c:List Gly×Fce}
theorem jH.big (h:jH w s c W):w.heap.size+1<W.heap.size:=(Py.1 h.b1).1
theorem jH.keep {W':World}(h:jH w s c W)(hb:Below W.heap.size W W'):jH w s c W':=
 ⟨h.b0.below hb,h.b1.below hb,h.s.keep hb,h.bel.trans (hb.mono h.bel.size)⟩
theorem jH.app (h:jH w s c W)(r n:Int)(hl:c.1.length≤500000):
  ∃s' W',(appG #[s,.slice (some ⟨W.heap.size,0,none⟩) 1 1]).run Tryz.prog (W.alloc (.cells #[.int .i32 r,.int .u8 n] 35))=.ok (.value s') W'∧jH w s' (c.1++ [(r,n)],c.2) W':=by
 have hl1:=ae W (.cells #[.int .i32 r,.int .u8 n] 35);have hbig:=h.big;have h1:=h.keep hl1;obtain⟨s',W',hrun,ho,hg,-⟩:=eX h1.s (dM ah W 35 [(r,n)]) (by simp;omega) (by simp;omega);have n0:s.ownBlock≠some w.heap.size:=fun e=>by have:=(h1.s.ty e).1;omega
 have n1:s.ownBlock≠some (w.heap.size+1):=fun e=>by have:=(h1.s.ty e).1;omega
 exact⟨s',W',hrun,(hg.block _ (by simp;omega) (fun e=>n0 e.symm)).trans h1.b0,(hg.block _ (by simp;omega) (fun e=>n1 e.symm)).trans h1.b1,ho,h1.bel.grown hg (by simp;omega) (fun j e=>by have:=(h1.s.ty e).1;omega)⟩
theorem jH.turn (h:jH w s c W)(a b:Int):jH w s (c.1,(a,b)) ((W.setCell ⟨w.heap.size,0,none⟩ (.int .u8 a)).setCell ⟨w.heap.size,1,none⟩ (.int .u8 b)):=
 ⟨by have:=(h.b0.set 0 (.int .u8 a)).set 1 (.int .u8 b);simpa using this,
  (PN _ _ _ _ (by simp)).trans ((PN _ _ _ _ (by simp)).trans h.b1),Qg (Qg h.s (by simp) _) (by simp) _,(h.bel.setCell (by simp) _).setCell (by simp) _⟩
theorem jH.fin (h:jH w s c W)(a b:Value):aW w.heap.size ((W.setCell ⟨w.heap.size+1,0,none⟩ a).setCell ⟨w.heap.size+1,1,none⟩ b).drew s c.1∧Below w.heap.size w ((W.setCell ⟨w.heap.size+1,0,none⟩ a).setCell ⟨w.heap.size+1,1,none⟩ b).drew∧Blk ((W.setCell ⟨w.heap.size+1,0,none⟩ a).setCell ⟨w.heap.size+1,1,none⟩ b).drew (w.heap.size+1) 28 [a,b]:=by
 have h2:aW (w.heap.size+2) ((W.setCell ⟨w.heap.size+1,0,none⟩ a).setCell ⟨w.heap.size+1,1,none⟩ b) s c.1:=Qg (Qg h.s (by simp) _) (by simp) _;refine⟨ag.mono (h2.keep (PG _ _).drew) (by omega),((h.bel.setCell (by simp) _).setCell (by simp) _).drew,?_⟩;have h3:Blk ((W.setCell ⟨w.heap.size+1,0,none⟩ a).setCell ⟨w.heap.size+1,1,none⟩ b) (w.heap.size+1) 28 [a,b]:=by
  have:=(h.b1.set 0 a).set 1 b
  simpa using this
 exact h3.below (PG _ _).drew
theorem jH.start (w:World)(a b:Int):jH w (.slice none 0 0) ([],(a,b)) ((w.alloc (.cells #[.int .u8 a,.int .u8 b] 28)).alloc (.cells #[.int .u8 0,.int .u8 0] 28)):=
 ⟨xI w [.int .u8 a,.int .u8 b] _ _,Bw w _ [.int .u8 0,.int .u8 0] _,ag.nil _ _,eP w _ _⟩
end
def O8 (w:World)(c:List Gly×Fce)(e:Ending)(w':World):Prop:=
 ∃x,e=.returned (.tuple #[x,.agg #[.int .u8 c.2.1,.int .u8 c.2.2]])∧aW w.heap.size w' x c.1∧Below w.heap.size w w'
theorem QTP {P:Prop}(h:P:=by
 simp only at hs';rw[hxl']at hs';subst hs';clear hrun hR2 hxl' HN hxl;go_wp2_with fail
 go_roundw
 case rel=>exact⟨j+1,by omega,by go_num,R2.out⟩
 case measure=>(simp[intOf];try omega)):P:=h
theorem LG (p q:Int)(l:List Tok)(v:Value)(w:World)(hv:Ts w v l)(hl:l.length≤100000):
  Calls Tryz.prog 67 #[.agg #[.int .u8 p,.int .u8 q],v] w (O8 w (jG (p,q) l)):=by
 have HV:=zH hv;obtain⟨a,cap,rfl⟩:=hv.len;clear hv;go_enter Tryz.func67,Tryz.ntmps67
 go_wp2_with fail
 go_loopw [6,11] (fun s i wr=> ∃j:Nat,j≤l.length∧i=.int .i64 j∧jH w s (jG (p,q) (l.take j)) wr) (fun _ i _=>l.length-(intOf i).toNat)
 case atStart=>exact⟨0,by omega,rfl,jH.start w p q⟩
 case round=>
  obtain⟨j,hj,rfl,hR⟩:=hrel;have HL:Hid ((jG (p,q) (l.take j)).1.length≤100000):=zH (by have:=uV (p,q) (l.take j);simp only[PW]at this;omega);obtain⟨⟨X,A,B⟩,hS⟩:∃S,jG (p,q) (l.take j)=S:=⟨_,rfl⟩;rw[hS]at hR HL;have HR:=zH hR
  by_cases hlt:j<l.length
  ·obtain⟨⟨k,r⟩,hz⟩:∃z,l[j]? =some z:=⟨l[j],Pz hlt⟩
   obtain⟨g,off,rfl,z0,z1⟩:=Fs.t (Fs.below HV.out hR.bel) hz;have HN:=zH (Hg (f:=(p,q)) hz);rw[hS]at HN;have hi0:(j:Int)<(l.length:Int):=by omega
   have hi1:(0:Int)≤(j:Int):=by omega
   have bl:=ae wr (.cells #[.int .i64 k,.int .i32 r] 113);have hR1:=hR.keep bl;have c0:(wr.alloc (.cells #[.int .i64 k,.int .i32 r] 113)).cell? ⟨w.heap.size,0,none⟩=some (.int .u8 A):=hR1.b0.cell 0;have c1:(wr.alloc (.cells #[.int .i64 k,.int .i32 r] 113)).cell? ⟨w.heap.size,1,none⟩=some (.int .u8 B):=hR1.b0.cell 1;have f0:(wr.alloc (.cells #[.int .i64 k,.int .i32 r] 113)).frozen? ⟨w.heap.size,0,none⟩=false:=hR1.b0.frozen (by simp);have f1:(wr.alloc (.cells #[.int .i64 k,.int .i32 r] 113)).frozen? ⟨w.heap.size,1,none⟩=false:=hR1.b0.frozen (by simp);obtain⟨sa,sc,hs⟩:=(ag.sl ah hR.s).len;change _=Value.slice sa X.length sc at hs;obtain⟨xl,hxl⟩:∃xl,X.length=xl:=⟨_,rfl⟩;rw[hxl]at hs;subst hs;have R1:=zH hR1;clear HR hR hR1 hS bl hz
   by_cases k1:k=1
   ·subst k1
    obtain⟨s',W',hrun,hR2⟩:=R1.out.app r A (by have:=HL.out;simp only at this⊢;omega);have R2:Hid (jH w s' (mi (X,A,B) (1,r)) W'):=zH hR2;rw[←HN.out]at R2;have hrun':(appG #[.slice sa xl sc,.slice (some ⟨wr.heap.size+1,0,none⟩) 1 1]).run Tryz.prog ((wr.alloc (.cells #[.int .i64 1,.int .i32 r] 113)).alloc (.cells #[.int .i32 r,.int .u8 A] 35))=.ok (.value s') W':=by simpa using hrun
    obtain⟨sa',sc',hs'⟩:=(ag.sl ah hR2.s).len;obtain⟨xl',hxl'⟩:∃xl',(X++ [(r,A)]).length=xl':=⟨_,rfl⟩;exact QTP
   ·by_cases k2:k=2
    ·subst k2
     obtain⟨s',W',hrun,hR2⟩:=R1.out.app 32 0 (by have:=HL.out;simp only at this⊢;omega);have R2:Hid (jH w s' (mi (X,A,B) (2,r)) W'):=zH hR2;rw[←HN.out]at R2;have hrun':(appG #[.slice sa xl sc,.slice (some ⟨wr.heap.size+1,0,none⟩) 1 1]).run Tryz.prog ((wr.alloc (.cells #[.int .i64 2,.int .i32 r] 113)).alloc (.cells #[.int .i32 32,.int .u8 0] 35))=.ok (.value s') W':=by simpa using hrun
     obtain⟨sa',sc',hs'⟩:=(ag.sl ah hR2.s).len;obtain⟨xl',hxl'⟩:∃xl',(X++ [((32:Int),(0:Int))]).length=xl':=⟨_,rfl⟩;exact QTP
    ·by_cases k3:k=3
     ·subst k3
      have HT:=zH (IR A B r (wr.alloc (.cells #[.int .i64 3,.int .i32 r] 113)));obtain⟨⟨A',B'⟩,hF⟩:∃F,mo (A,B) r=F:=⟨_,rfl⟩;have HG:Hid (jG (p,q) (l.take (j+1))=(X,(A',B'))):=zH (by rw[HN.out];simp[mi,hF]);rw[hF]at HT;clear hF HN hxl k1 k2;go_wp2_with fail
      refine HT.out.mono ?_;rintro e w2 ⟨rfl,b2⟩;have hR2:=R1.out.keep b2;have R3:=zH (hR2.turn A' B');have g0:w2.cell? ⟨w.heap.size,0,none⟩=some (.int .u8 A):=hR2.b0.cell 0;have g1:w2.cell? ⟨w.heap.size,1,none⟩=some (.int .u8 B):=hR2.b0.cell 1;have e0:w2.frozen? ⟨w.heap.size,0,none⟩=false:=hR2.b0.frozen (by simp);have e1:w2.frozen? ⟨w.heap.size,1,none⟩=false:=hR2.b0.frozen (by simp);clear hR2 b2 HT c0 c1 f0 f1;go_wp2_with fail
      go_roundw
      case rel=>exact⟨j+1,by omega,by go_num,by rw[HG.out];exact R3.out⟩
      case measure=>(simp[intOf];try omega)
     ·have R2:Hid (jH w (.slice sa xl sc) (mi (X,A,B) (k,r)) (wr.alloc (.cells #[.int .i64 k,.int .i32 r] 113))):=zH (by simp only[mi,PO k1,PO k2,PO k3];exact R1.out)
      rw[←HN.out]at R2;clear HN hxl;go_wp2_with fail
      go_roundw
      case rel=>exact⟨j+1,by omega,by go_num,R2.out⟩
      case measure=>(simp[intOf];try omega)
  ·obtain rfl:j=l.length:=by omega
   have c0:wr.cell? ⟨w.heap.size,0,none⟩=some (.int .u8 A):=hR.b0.cell 0;have c1:wr.cell? ⟨w.heap.size,1,none⟩=some (.int .u8 B):=hR.b0.cell 1;have d0:wr.cell? ⟨w.heap.size+1,0,none⟩=some (.int .u8 0):=hR.b1.cell 0;have d1:wr.cell? ⟨w.heap.size+1,1,none⟩=some (.int .u8 0):=hR.b1.cell 1;have f0:wr.frozen? ⟨w.heap.size+1,0,none⟩=false:=hR.b1.frozen (by simp);have f1:wr.frozen? ⟨w.heap.size+1,1,none⟩=false:=hR.b1.frozen (by simp);obtain⟨sa,sc,hs⟩:=(ag.sl ah hR.s).len;change _=Value.slice sa X.length sc at hs;obtain⟨xl,hxl⟩:∃xl,X.length=xl:=⟨_,rfl⟩;rw[hxl]at hs;subst hs;rw[Qa]at hS;have HS:=zH hS;obtain⟨o1,o2,o3⟩:=hR.fin (.int .u8 A) (.int .u8 B);have HO:=zH o1;have HBl:=zH o2;have HBK:=zH o3;clear o1 o2 o3;clear hR hS hxl;go_wp2_with fail
   go_region
   go_wp2_with fail
   have k0:=HBK.out.cell 0;have k1:=HBK.out.cell 1;simp at k0 k1;exact Qi (v:= .tuple #[.slice sa xl sc,.agg #[.int .u8 A,.int .u8 B]]) (by simp[results,Tryz.results67,go_sem,k0,k1]) rfl (by rw[HS.out];exact⟨_,rfl,HO.out,HBl.out⟩)
end
theorem JZ:(Tryz.prog.info? 21).map (fun i=>(i.zero,i.size,i.bytes))=some (some (.int .i32 0),1,4):=by kernel_rfl
theorem Sl.len {k:IntKind}{w:World}{v:Value}{l:List Int}(h:Sl k w v l):∃a cap,v=.slice a l.length cap:=by
 obtain⟨a,cap,rfl,_⟩:=h;exact⟨a,cap,rfl⟩
theorem Sl.at {k:IntKind}{w:World}{a:Option Addr}{m cap:Nat}{l:List Int}(h:Sl k w (.slice a m cap) l){j:Nat}{z:Int}(hj:l[j]? =some z):∃g off,a=some ⟨g,off,none⟩∧w.cell? ⟨g,off+j,none⟩=some (.int k z):=by
 obtain⟨a',cap',hv,_,hr⟩:=h;injection hv with h1 h2 h3
 subst h1;exact hr j z hj
noncomputable def KG (x lo:Value):Sem Value:=Instr.slice 102 x (some lo) none none
theorem Ac (x lo:Value):Instr.slice 102 x (some lo) none none=KG x lo:=rfl
noncomputable def GJ (x lo hi:Value):Sem Value:=Instr.slice 102 x (some lo) (some hi) none
theorem Cu (x lo hi:Value):Instr.slice 102 x (some lo) (some hi) none=GJ x lo hi:=rfl
theorem xL {w:World}{v:Value}{l:List Int}(h:Sl .i32 w v l)(q:Nat)(hq:q≤l.length):
  ∃u,(∀W:World,(KG v (.int .i64 (q:Int))).run Tryz.prog W=.ok u W)∧Sl .i32 w u (l.drop q):=by
 obtain⟨i0,hi,hz0,hz1,hz2⟩:=Ql JZ;obtain⟨a,cap,rfl,hc,hr⟩:=h;refine⟨.slice (if cap=q then a else a.map (·.add q)) (l.length-q) (cap-q),fun W=>?_,?_⟩
 ·have h1:q≤cap:=by omega
  unfold KG;simp[Instr.slice,Instr.sliceBounds,Instr.sliceBound,asIntOf,QB Tryz.underlying102,h1,hq,sizeOf,typeInfo,hi,hz1]
 ·have hl:(l.drop q).length=l.length-q:=by rw[PU]
  refine⟨_,_,by rw[hl],by rw[hl];omega,fun j x hj=>?_⟩;have hj1:j<l.length-q:=by
   have:=(Pw.1 hj).1;omega
  rw[QE]at hj;obtain⟨g,off,rfl,h0⟩:=hr (q+j) x hj;rw[PO (by omega)];refine⟨g,off+q,?_,?_⟩
  ·simp only[Re,QC]
   rw[QV]
  ·rw[show off+q+j=off+(q+j) by omega]
   exact h0
theorem JB {w:World}{v:Value}{l:List Int}(h:Sl .i32 w v l)(q k:Nat)(hq:q≤k)(hk:k≤l.length):
  ∃u,(∀W:World,(GJ v (.int .i64 (q:Int)) (.int .i64 (k:Int))).run Tryz.prog W=.ok u W)∧Sl .i32 w u ((l.take k).drop q):=by
 obtain⟨i0,hi,hz0,hz1,hz2⟩:=Ql JZ;obtain⟨a,cap,rfl,hc,hr⟩:=h;refine⟨.slice (if cap=q then a else a.map (·.add q)) (k-q) (cap-q),fun W=>?_,?_⟩
 ·have h1:k≤cap:=by omega
  unfold GJ;simp[Instr.slice,Instr.sliceBounds,Instr.sliceBound,asIntOf,QB Tryz.underlying102,h1,hq,sizeOf,typeInfo,hi,hz1]
 ·have hl:((l.take k).drop q).length=k-q:=by rw[PU,PW];omega
  refine⟨_,_,by rw[hl],by rw[hl];omega,fun j x hj=>?_⟩;have hj1:j<k-q:=by
   have:=(Pw.1 hj).1;omega
  rw[QE,RN (by omega)]at hj;obtain⟨g,off,rfl,h0⟩:=hr (q+j) x hj;rw[PO (by omega)];refine⟨g,off+q,?_,?_⟩
  ·simp only[Re,QC]
   rw[QV]
  ·rw[show off+q+j=off+(q+j) by omega]
   exact h0
def ixI (p:Nat)(o:Option Nat):Int:=match o with
 | some k=>(k+p:Nat)
 | none=> -1
theorem sj (c:Int)(r:List Int):ix (c::r)=if c=93 then some 0 else(ix r).map (· +1):=rfl
theorem NZ {l:List Int}{j:Nat}(h:l[j]? =some 93):ix (l.drop j)=some 0:=by rw[nz h,sj,PZ rfl]
theorem Mv {l:List Int}{j:Nat}{z:Int}(h:l[j]? =some z)(hz:z≠93):ix (l.drop j)=(ix (l.drop (j+1))).map (· +1):=by rw[nz h,sj,PO hz]
theorem JW (p:Nat)(o:Option Nat):ixI p (o.map (· +1))=ixI (p+1) o:=by
 cases o with
 | none=>rfl
 | some k=>simp only[ixI,Re];omega
theorem vo (l:List Int)(v:Value)(w:World)(hv:Sl .i32 w v l)(hl:l.length≤200000):
  Calls Tryz.prog 206 #[v,.int .i32 93] w fun e w'=>e=.returned (.int .i64 (ixI 0 (ix l)))∧w=w':=by
 have HV:=zH hv;obtain⟨a,cap,rfl⟩:=hv.len;obtain⟨X,hX⟩:∃X,ixI 0 (ix l)=X:=⟨_,rfl⟩;rw[hX];clear hv;go_enter Tryz.func206,Tryz.ntmps206
 go_wp2_with fail
 go_loopw [8] (fun i wr=> ∃j:Nat,j≤l.length∧i=.int .i64 j∧wr=w∧ixI j (ix (l.drop j))=X) (fun i _=>l.length-(intOf i).toNat)
 case atStart=>exact⟨0,by omega,rfl,rfl,by simpa using hX⟩
 case round=>
  obtain⟨j,hj,rfl,rfl,hx⟩:=hrel;have HX:=zH hx;clear hx hX
  by_cases hlt:j<l.length
  ·obtain⟨z,hz⟩:∃z,l[j]? =some z:=⟨l[j],Pz hlt⟩
   obtain⟨g,off,rfl,c0⟩:=HV.out.at hz;have hi0:(j:Int)<(l.length:Int):=by omega
   have hi1:(0:Int)≤(j:Int):=by omega
   by_cases he:z=93
   ·subst he
    have hres:=zH (show(j:Int)=X by
     have:=HX.out;rw[NZ hz]at this
     simpa[ixI] using this)
    clear hz;go_wp2_with fail
    go_ret;exact⟨EI hres.out,rfl⟩
   ·have hres:=zH (show ixI (j+1) (ix (l.drop (j+1)))=X by
     have:=HX.out;rw[Mv hz he,JW]at this;exact this)
    have he':((93:Int)==z)=false:=by simpa using fun h:(93:Int)=z=>he h.symm
    clear hz he;go_wp2_with fail
    go_roundw
    case rel=>exact⟨j+1,by omega,by go_num,by first | trivial | rfl,hres.out⟩
    case measure=>simp[intOf];omega
  ·obtain rfl:j=l.length:=by omega
   have hres:=zH (show(-1:Int)=X by
    have:=HX.out;rw[Rk]at this
    simpa[ixI,ix] using this)
   go_wp2_with fail
   go_ret;exact⟨EI hres.out,rfl⟩
section
attribute [local go_sem ↓ high] Ac Cu
section
variable {w0:World}{B:Nat}{tv:Value}{L:List Int}{nx:Int}{T:List Tok}{D:List Dg}
theorem ui (q:Nat)(w:World)(h:Rd w0 B tv L w nx T D)(hq:q≤L.length)(hL:L.length≤100000)(hn:iY (L.drop q)=none):
  Calls Tryz.prog 173 #[.pointer (some ⟨B,0,none⟩),.int .i64 (q:Int)] w (iB w0 B tv L nx T D (.tuple #[.string ⟨#[]⟩,.bool false])):=by
 have HR:=zH h;obtain⟨vt,vd,vm,hv⟩:=h;have c0:w.cell? ⟨B,0,none⟩=some tv:=hv.blk.cell 0;obtain⟨u,ku,su⟩:=xL hv.text q hq;have hdl:(L.drop q).length=L.length-q:=by rw[PU]
 obtain⟨S,hS⟩:∃S,L.drop q=S:=⟨_,rfl⟩;rw[hS]at su hdl hn;obtain⟨at_,ct,rfl⟩:=hv.sl.len;clear hv hS
 cases S with
 | nil=>
  obtain⟨au,cu,rfl⟩:=su.len;clear su hn;simp only[PQ]at ku;go_enter Tryz.func173,Tryz.ntmps173
  go_wp2_with fail
  go_ret2
  exact⟨rfl,HR.out⟩
 | cons c r=>
  have HI:=zH (vo (c::r) u w su (by omega));obtain⟨au,cu,rfl⟩:=su.len;obtain⟨g,off,rfl,cc⟩:=su.at (j:=0) (z:=c) rfl;rw[kK]at hn;have cc':w.cell? ⟨g,off,none⟩=some (.int .i32 c):=cc;obtain⟨N,hN⟩:∃N,(c::r).length=N:=⟨_,rfl⟩;rw[hN]at ku hdl;simp only[PI]at hN;clear su cc;rw[show(Value.slice (some (⟨g,off,none⟩:Addr)) (c::r).length cu)=.slice (some ⟨g,off,none⟩) N cu by rw[←hN];rfl]at HI;have hz:((N:Int)==0)=false:=by simp;omega
  have hz1:(0:Int)<(N:Int):=by omega
  have hz9:N≤100000:=by omega
  have HN:=zH hN;clear hdl hN
  by_cases h40:c=40
  ·subst h40
   rw[PZ rfl]at hn;have hlen:r.length<2:=by
    by_cases hlen:r.length<2
    ·exact hlen
    ·rw[PO hlen]at hn;cases hn
   have hz2:(N:Int)<3:=by have:=HN.out;omega
   clear hn HI;go_enter Tryz.func173,Tryz.ntmps173
   go_wp2_with fail
   go_ret2
   exact⟨rfl,HR.out⟩
  ·rw[PO h40]at hn
   have e40:(c==40)=false:=by simpa using h40
   by_cases h91:c=91
   ·subst h91
    rw[PZ rfl]at hn;have hix:ix (91::r)=none:=by
     rw[sj,PO (by decide)]
     cases hr:ix r with
     | none=>rfl
     | some k=>rw[hr]at hn;cases hn
    rw[hix]at HI;have HI':Hid (Calls Tryz.prog 206 #[.slice (some ⟨g,off,none⟩) N cu,.int .i32 93] w fun e w'=>e=.returned (.int .i64 (-1))∧w=w'):=HI;clear hn HI h40 hix;go_enter Tryz.func173,Tryz.ntmps173
    go_wp2_with fail
    refine HI'.out.mono ?_;rintro e w' ⟨rfl,rfl⟩;clear HI';go_wp2_with fail
    go_ret2
    exact⟨rfl,HR.out⟩
   ·rw[PO h91]at hn
    cases hn
theorem QTQ {P:Prop}(h:P:=by
 rw[e2]at s2;have k3:=ky (s2.below (by rw[HB.out];exact HX.out.bel));clear HI k2 s2 HM HNX e2;go_enter Tryz.func173,Tryz.ntmps173
 go_wp2_with fail
 go_ret2
 exact⟨rfl,_,_,_,HX.out⟩):P:=h
theorem uh (q:Nat)(w:World)(h:Rd w0 B tv L w nx T D)(hq:q≤L.length)(hL:L.length≤100000){n:List Int}{k:Nat}(hn:iY (L.drop q)=some (n,k)):
  Calls Tryz.prog 173 #[.pointer (some ⟨B,0,none⟩),.int .i64 (q:Int)] w (iB w0 B tv L ((q+k:Nat):Int) T D (.tuple #[.string ⟨(enc n).toArray⟩,.bool true])):=by
 obtain⟨vt,vd,vm,hv⟩:=h;have c0:w.cell? ⟨B,0,none⟩=some tv:=hv.blk.cell 0;have c1:w.cell? ⟨B,1,none⟩=some (.int .i64 nx):=hv.blk.cell 1;have f1:w.frozen? ⟨B,1,none⟩=false:=hv.blk.frozen (by simp);obtain⟨u,ku,su0⟩:=xL hv.sl q hq;have su:=su0.below (by rw[hv.hB];exact hv.bel);have hdl:(L.drop q).length=L.length-q:=by rw[PU]
 obtain⟨S,hS⟩:∃S,L.drop q=S:=⟨_,rfl⟩;rw[hS]at su su0 hdl hn;obtain⟨at_,ct,rfl⟩:=hv.sl.len;have HNX:=zH (fun x=>RdV.next hv x);have HM:=zH (fun(a b:Nat) (hab:a≤b) (hb:b≤S.length)=>JB su0 a b hab hb);have HB:=zH hv.hB;clear hv hS su0
 cases S with
 | nil=>cases hn
 | cons c r=>
  have HI:=zH (vo (c::r) u w su (by omega));obtain⟨au,cu,rfl⟩:=su.len;obtain⟨g,off,rfl,cc⟩:=su.at (j:=0) (z:=c) rfl;rw[kK]at hn;have cc':w.cell? ⟨g,off,none⟩=some (.int .i32 c):=cc;obtain⟨N,hN⟩:∃N,(c::r).length=N:=⟨_,rfl⟩;rw[hN]at ku hdl HM;simp only[PI]at hN;clear su cc;rw[show(Value.slice (some (⟨g,off,none⟩:Addr)) (c::r).length cu)=.slice (some ⟨g,off,none⟩) N cu by rw[←hN];rfl]at HI;have hz:((N:Int)==0)=false:=by simp;omega
  have hz1:(0:Int)<(N:Int):=by omega
  have hz9:N≤100000:=by omega
  have HN:=zH hN;clear hdl hN
  by_cases h40:c=40
  ·subst h40
   rw[PZ rfl]at hn;have hlen:2≤r.length:=by
    by_cases hlen:r.length<2
    ·rw[PZ hlen]at hn;cases hn
    ·omega
   rw[PO (by omega)]at hn;simp only[QC,Q9]at hn;obtain⟨rfl,rfl⟩:=hn;have hz2:¬(N:Int)<3:=by have:=HN.out;omega
   have HX:=zH (HNX.out ((q:Int)+3));obtain⟨u2,k2,s2⟩:=HM.out 1 3 (by omega) (by have:=HN.out;omega);have k2':∀W:World,(GJ (.slice (some ⟨g,off,none⟩) N cu) (.int .i64 1) (.int .i64 3)).run Tryz.prog W=.ok u2 W:=k2;have e2:((40::r).take 3).drop 1=r.take 2:=by simp
   exact QTQ
  ·rw[PO h40]at hn
   have e40:(c==40)=false:=by simpa using h40
   by_cases h91:c=91
   ·subst h91
    rw[PZ rfl]at hn;obtain⟨j,hj⟩:∃j,ix r=some j:=by
     cases hr:ix r with
     | none=>rw[hr]at hn;cases hn
     | some j=>exact⟨j,rfl⟩
    rw[hj]at hn;simp only[QC,Q9]at hn;obtain⟨rfl,rfl⟩:=hn;have hjl:=JV r j hj;have hix:ix (91::r)=some (j+1):=by rw[sj,PO (by decide),hj];rfl
    rw[hix]at HI;have HI':Hid (Calls Tryz.prog 206 #[.slice (some ⟨g,off,none⟩) N cu,.int .i32 93] w fun e w'=>e=.returned (.int .i64 ((j:Int)+1))∧w=w'):=HI;have HX:=zH (HNX.out ((q:Int)+((j:Int)+1+1)));rw[show(q:Int)+((j:Int)+1+1)=((q+(j+2):Nat):Int) by omega]at HX;have hE:=zH (show((q+(j+2):Nat):Int)=(q:Int)+((j:Int)+1+1) by omega);obtain⟨u2,k2,s2⟩:=HM.out 1 (j+1) (by omega) (by have:=HN.out;omega);have k2':∀W:World,(GJ (.slice (some ⟨g,off,none⟩) N cu) (.int .i64 1) (.int .i64 ((j:Int)+1))).run Tryz.prog W=.ok u2 W:=k2;have e2:((91::r).take (j+1)).drop 1=r.take j:=by simp
    rw[e2]at s2;have k3:=ky (s2.below (by rw[HB.out];exact HX.out.bel));rw[hE.out]at k3;have hj1:¬(N:Int)<(j:Int)+1:=by have:=HN.out;omega
    have hj2:¬(j:Int)+1<1:=by omega
    have hj3:(j:Int)≤100000:=by omega
    have hj4:(0:Int)≤(j:Int):=by omega
    have hq4:(q:Int)≤100000:=by omega
    clear HI h40 hix HM HNX e2 k2 s2 hj hjl hz1;go_enter Tryz.func173,Tryz.ntmps173
    go_wp2_with fail
    refine HI'.out.mono ?_;rintro e w' ⟨rfl,rfl⟩;clear HI';go_wp2_with fail
    go_ret2
    have:=HX.out;rw[hE.out]at this;exact⟨rfl,vt,vd,vm,by rw[hE.out];exact this⟩
   ·rw[PO h91]at hn
    simp only[QC,Q9]at hn;obtain⟨rfl,rfl⟩:=hn;have e91:(c==91)=false:=by simpa using h91
    have hz2:¬(N:Int)<1:=by have:=HN.out;omega
    have HX:=zH (HNX.out ((q:Int)+1));obtain⟨u2,k2,s2⟩:=HM.out 0 1 (by omega) (by have:=HN.out;omega);have k2':∀W:World,(GJ (.slice (some ⟨g,off,none⟩) N cu) (.int .i64 0) (.int .i64 1)).run Tryz.prog W=.ok u2 W:=k2;have e2:((c::r).take 1).drop 0=[c]:=by simp
    exact QTQ
end
end
section
variable {w0:World}{B:Nat}{tv:Value}{L:List Int}{nx:Int}{T:List Tok}{D:List Dg}
theorem QTK {P:Prop}(h:P:=by
 go_wp2_with fail
 refine HN'.out.mono ?_;rintro e w1 ⟨rfl,h1⟩;have HW':=zH (HW.out w1 h1);clear HN' HW h1;go_wp2_with fail
 refine HW'.out.mono ?_;rintro e w2 ⟨rfl,h2⟩;have H2:=zH h2;clear HW' h2;go_wp2_with fail
 go_ret;exact⟨rfl,H2.out⟩):P:=h
theorem Da (p:Nat)(w:World)(h:Rd w0 B tv L w nx T D)(hp:p+1≤L.length)(hL:L.length≤20000)(hD:D.length≤20000)(hn:iY (L.drop (p+1))=none):
  Calls Tryz.prog 136 #[.pointer (some ⟨B,0,none⟩),.int .i64 (p:Int)] w (iB w0 B tv L nx T (D++dgs p [1]) (.bool false)):=by
 have HN:=zH (ui (p+1) w h hp (by omega) hn);have HN':Hid (Calls Tryz.prog 173 #[.pointer (some ⟨B,0,none⟩),.int .i64 ((p:Int)+1)] w (iB w0 B tv L nx T D (.tuple #[.string ⟨#[]⟩,.bool false]))):=HN;have HW:=zH (fun W (h:Rd w0 B tv L W nx T D)=>gT 1 p W h (by omega) (by omega));have hp9:(p:Int)≤20000:=by omega
 clear h hn HN;go_enter Tryz.func136,Tryz.ntmps136
 exact QTK
theorem QTL {P:Prop}(h:P:=by
 have HC4:=zH (HC.out x w4 H4.out);rw[hx];simp only[Q6,QW];clear HC HW H4 hx;go_wp2_with fail
 refine HC4.out.mono ?_;rintro e w5 ⟨rfl,h5⟩;have H5:=zH h5;clear HC4 h5;go_wp2_with fail
 go_ret;exact⟨rfl,by simpa[dgs] using H5.out⟩):P:=h
theorem QTM {P:Prop}(h:P:=by
 have HW4:=zH (HW.out w4 H4.out);rw[hx];simp only[QO,QI];clear HC HW H4 hx;go_wp2_with fail
 refine HW4.out.mono ?_;rintro e w5 ⟨rfl,h5⟩;have H5:=zH h5;clear HW4 h5;go_wp2_with fail
 go_ret;exact⟨rfl,by rw[Qc];exact H5.out⟩):P:=h
theorem uH (p:Nat)(w:World)(h:Rd w0 B tv L w nx T D)(hp:p+1≤L.length)(hL:L.length≤20000)(hT:T.length≤20000)(hD:D.length≤20000){n:List Int}{k:Nat}(hn:iY (L.drop (p+1))=some (n,k))
  {t:List Tok} {d:List Int} (hr:(∃x,AJ (enc n)=some x∧t=[(1,x)]∧d=[])∨(AJ (enc n)=none∧t=[]∧d=[2])):
  Calls Tryz.prog 136 #[.pointer (some ⟨B,0,none⟩),.int .i64 (p:Int)] w (iB w0 B tv L ((p+1+k:Nat):Int) (T++t) (D++dgs p d) (.bool true)):=by
 have HN:=zH (uh (p+1) w h hp (by omega) hn);have HN':Hid (Calls Tryz.prog 173 #[.pointer (some ⟨B,0,none⟩),.int .i64 ((p:Int)+1)] w (iB w0 B tv L ((p+1+k:Nat):Int) T D (.tuple #[.string ⟨(enc n).toArray⟩,.bool true]))):=HN;have hnl:=uI hn;rw[PU]at hnl;have hel:=ML n;obtain⟨b,hb⟩:∃b,enc n=b:=⟨_,rfl⟩;rw[hb]at HN' hr hel;obtain⟨nx',hnx⟩:∃nx',((p+1+k:Nat):Int)=nx':=⟨_,rfl⟩;rw[hnx]at HN'⊢;have HF:=zH (fun M W (h:Nms W M)=>Ka b M W h (by unfold maxLen;omega));have HS:=zH (fun W=>Gt W);have HW:=zH (fun W (h:Rd w0 B tv L W nx' T D)=>gT 2 p W h (by omega) (by omega));have HC:=zH (fun c W (h:Rd w0 B tv L W nx' T D)=>pW c W h (by omega));have hp9:(p:Int)≤20000:=by omega
 clear h hn HN hb hnx hnl;go_enter Tryz.func136,Tryz.ntmps136
 go_wp2_with fail
 refine HN'.out.mono ?_;rintro e w1 ⟨rfl,vt,vd,vm,hv⟩;clear HN';have c4:w1.cell? ⟨B,4,none⟩=some vm:=hv.blk.cell 4;have HV:=zH hv;have hvm:=hv.mp;clear hv;rcases hvm with rfl | ⟨M,rfl,hBM,hM⟩
 ·have hq:(binOp .eql 159 (.map none) (.map none)).run Tryz.prog w1=.ok (.bool true) w1:=run_eql_map_nil w1 159 9 21 none Tryz.underlying159
  have HS1:=zH (HS.out w1);clear HS;go_wp2_with fail
  refine HS1.out.mono ?_;rintro e w2 ⟨M,rfl,hM,hm,b2⟩;have hv2:=HV.out.keep b2;have hlt:=HV.out.lt;have c42:w2.cell? ⟨B,4,none⟩=some (.map none):=hv2.blk.cell 4;have f42:w2.frozen? ⟨B,4,none⟩=false:=hv2.blk.frozen (by simp);have HV3:=zH (hv2.names (M:=M) (by omega) hm);obtain⟨W3,hW3⟩:∃W3,w2.setCell ⟨B,4,none⟩ (.map (some M))=W3:=⟨_,rfl⟩;rw[hW3]at HV3;have c43:W3.cell? ⟨B,4,none⟩=some (.map (some M)):=HV3.out.blk.cell 4;have hM3:Nms W3 M:=by
   rcases HV3.out.mp with h0 | ⟨M',h0,_,h1⟩
   ·cases h0
   ·cases h0;exact h1
  have HF3:=zH (HF.out M W3 hM3);have HW3:=zH hW3;have HR3:Hid (Rd w0 B tv L W3 nx' T D):=zH ⟨_,_,_,HV3.out⟩;clear HS1 hm b2 hv2 hM hlt HF HV c4 hq hM3 hW3 HV3;go_wp2_with fail
  rw[HW3.out];refine HF3.out.mono ?_;rintro e w4 ⟨rfl,b4⟩;have H4:Hid (Rd w0 B tv L w4 nx' T D):=zH (by
   obtain⟨_,_,_,h⟩:=HR3.out;exact⟨_,_,_,h.keep b4⟩)
  clear HF3 HR3 HW3 c43 c42 f42 b4;rcases hr with⟨x,hx,rfl,rfl⟩| ⟨hx,rfl,rfl⟩
  ·exact QTL
  ·exact QTM
 ·have hq:(binOp .eql 159 (.map (some M)) (.map none)).run Tryz.prog w1=.ok (.bool false) w1:=run_eql_map_nil w1 159 9 21 (some M) Tryz.underlying159
  have HF3:=zH (HF.out M w1 hM);have HR3:Hid (Rd w0 B tv L w1 nx' T D):=zH ⟨_,_,_,HV.out⟩;clear HS HF HV hM hBM;go_wp2_with fail
  refine HF3.out.mono ?_;rintro e w4 ⟨rfl,b4⟩;have H4:Hid (Rd w0 B tv L w4 nx' T D):=zH (by
   obtain⟨_,_,_,h⟩:=HR3.out;exact⟨_,_,_,h.keep b4⟩)
  clear HF3 HR3 c4 hq b4;rcases hr with⟨x,hx,rfl,rfl⟩| ⟨hx,rfl,rfl⟩
  ·exact QTL
  ·exact QTM
end
section
attribute [local go_sem ↓ high] iL bH
section
variable {w0:World}{B:Nat}{tv:Value}{L:List Int}{nx:Int}{T:List Tok}{D:List Dg}
theorem CK (p:Nat)(w:World)(h:Rd w0 B tv L w nx T D)(hp:p+2≤L.length)(hL:L.length≤20000)(hD:D.length≤20000)(hn:iY (L.drop (p+2))=none):
  Calls Tryz.prog 137 #[.pointer (some ⟨B,0,none⟩),.int .i64 (p:Int)] w (iB w0 B tv L nx T (D++dgs p [1]) (.bool false)):=by
 have HN:=zH (ui (p+2) w h hp (by omega) hn);have HN':Hid (Calls Tryz.prog 173 #[.pointer (some ⟨B,0,none⟩),.int .i64 ((p:Int)+2)] w (iB w0 B tv L nx T D (.tuple #[.string ⟨#[]⟩,.bool false]))):=HN;have HW:=zH (fun W (h:Rd w0 B tv L W nx T D)=>gT 1 p W h (by omega) (by omega));have hp9:(p:Int)≤20000:=by omega
 clear h hn HN;go_enter Tryz.func137,Tryz.ntmps137
 exact QTK
theorem uk (p:Nat)(w:World)(h:Rd w0 B tv L w nx T D)(hp:p+2≤L.length)(hL:L.length≤20000)(hT:T.length≤20000)(hD:D.length≤20000){n:List Int}{k:Nat}(hn:iY (L.drop (p+2))=some (n,k))
  {t:List Tok} {d:List Int} (hr:(∃x,ze (enc n)=some x∧t=[(3,x)]∧d=[])∨(ze (enc n)=none∧t=[]∧d=[2])):
  Calls Tryz.prog 137 #[.pointer (some ⟨B,0,none⟩),.int .i64 (p:Int)] w (iB w0 B tv L ((p+2+k:Nat):Int) (T++t) (D++dgs p d) (.bool true)):=by
 have HN:=zH (uh (p+2) w h hp (by omega) hn);have HN':Hid (Calls Tryz.prog 173 #[.pointer (some ⟨B,0,none⟩),.int .i64 ((p:Int)+2)] w (iB w0 B tv L ((p+2+k:Nat):Int) T D (.tuple #[.string ⟨(enc n).toArray⟩,.bool true]))):=HN;obtain⟨b,hb⟩:∃b,enc n=b:=⟨_,rfl⟩;rw[hb]at HN' hr;obtain⟨nx',hnx⟩:∃nx',((p+2+k:Nat):Int)=nx':=⟨_,rfl⟩;rw[hnx]at HN'⊢;have HF:=zH (fun W=>J8 b W);have HW:=zH (fun W (h:Rd w0 B tv L W nx' T D)=>gT 2 p W h (by omega) (by omega));have hp9:(p:Int)≤20000:=by omega
 clear h hn HN hb hnx;go_enter Tryz.func137,Tryz.ntmps137
 go_wp2_with fail
 refine HN'.out.mono ?_;rintro e w1 ⟨rfl,h1⟩;have H1:=zH h1;have HF1:=zH (HF.out w1);clear HN' HF h1;go_wp2_with fail
 refine HF1.out.mono ?_;rintro e w2 ⟨rfl,rfl⟩;clear HF1;rcases hr with⟨x,hx,rfl,rfl⟩| ⟨hx,rfl,rfl⟩
 ·obtain⟨vt,vd,vm,hv⟩:=H1.out
  have c2:w1.cell? ⟨B,2,none⟩=some vt:=hv.blk.cell 2;obtain⟨vt',w3,k3,q3,f3,r3⟩:=hv.say 3 x (by omega);obtain⟨a1,n1,rfl⟩:=(ag.sl dZ hv.tk).len;obtain⟨a2,n2,rfl⟩:=(ag.sl dZ r3.tk).len;obtain⟨m,hm⟩:∃m,(T++ [(3,x)]).length=m:=⟨_,rfl⟩;rw[hm]at k3 r3;have R3:=zH r3;rw[hx];simp only[Q6,QW];clear HW H1 hx hv hm r3;go_wp2_with fail
  go_ret;exact⟨rfl,_,_,_,by simpa[dgs] using R3.out⟩
 ·have HW4:=zH (HW.out w1 H1.out)
  rw[hx];simp only[QO,QI];clear HW H1 hx;go_wp2_with fail
  refine HW4.out.mono ?_;rintro e w5 ⟨rfl,h5⟩;have H5:=zH h5;clear HW4 h5;go_wp2_with fail
  go_ret;exact⟨rfl,by rw[Qc];exact H5.out⟩
end
end
section
variable {w0:World}{B:Nat}{tv:Value}{L:List Int}{nx:Int}{T:List Tok}{D:List Dg}
theorem Rd.drewN {W:World}(h:Rd w0 B tv L W nx T D)(q:Nat):Rd w0 B tv L (W.drewN q) nx T D:=by
 obtain⟨vt,vd,vm,hv⟩:=h;exact⟨vt,vd,vm,hv.keep (below_drewN (PG _ W) q)⟩
theorem QTO {P:Prop}(h:P:=by
 go_wp2_with fail
 go_quiet (fail)
 go_wp2_with fail
 refine(HC.out _ (HX.out.drewN _)).mono ?_;rintro e w5 ⟨rfl,h5⟩;have H5:=zH h5;clear h5 HC HX;go_wp2_with fail
 go_ret;exact⟨rfl,H5.out⟩):P:=h
theorem Kh (p:Nat)(d x:Int)(w:World)(h:Rd w0 B tv L w nx T D)(hd:L[p+1]? =some d)(hL:L.length≤20000)(hT:T.length≤20000)(hD:D.length≤20000)
  (hx:(d=92∧x=92)∨(d=101∧x=92)∨(d=45∧x=45)∨(d=96∧x=96)∨(d=46∧x=46)∨(d=39∧x=180)∨(d=32∧x=160)∨(d=126∧x=160)∨(d=48∧x=160)):
  Calls Tryz.prog 101 #[.pointer (some ⟨B,0,none⟩),.int .i64 (p:Int)] w (iB w0 B tv L ((p:Int)+2) (T++ [(1,x)]) D (.bool true)):=by
 have hlt:=(Pw.1 hd).1;have h0:=h;obtain⟨vt,vd,vm,hv⟩:=h;have c0:w.cell? ⟨B,0,none⟩=some tv:=hv.blk.cell 0;have c1:w.cell? ⟨B,1,none⟩=some (.int .i64 nx):=hv.blk.cell 1;have f1:w.frozen? ⟨B,1,none⟩=false:=hv.blk.frozen (by simp);obtain⟨at_,ct,rfl⟩:=hv.sl.len;obtain⟨g,off,rfl,c50⟩:=hv.sl.at hd;have hg:g<w0.heap.size:=PX _ _ c50;rw[hv.hB]at hg;have c5:w.cell? ⟨g,off+(p+1),none⟩=some (.int .i32 d):=(hv.bel.cell (p:=⟨g,off+(p+1),none⟩) hg).trans c50;have hgB:¬g=B:=by omega
 have hgB':¬B=g:=by omega
 have HX:Hid (Rd w0 B (.slice (some ⟨g,off,none⟩) L.length ct) L (w.setCell ⟨B,1,none⟩ (.int .i64 ((p:Int)+2))) ((p:Int)+2) T D):=zH ⟨vt,vd,vm,hv.next _⟩;have HC:=zH (fun W (h:Rd w0 B (.slice (some ⟨g,off,none⟩) L.length ct) L W ((p:Int)+2) T D)=>pW x W h (by omega));have hz1:¬(L.length:Int)<(p:Int)+2:=by omega
 have hz2:(p:Int)+1<(L.length:Int):=by omega
 have hz3:(p:Int)≤20000:=by omega
 have hz4:(0:Int)≤(p:Int):=by omega
 clear hv c50 hd hg h0;rcases hx with⟨rfl,rfl⟩| ⟨rfl,rfl⟩| ⟨rfl,rfl⟩| ⟨rfl,rfl⟩| ⟨rfl,rfl⟩| ⟨rfl,rfl⟩| ⟨rfl,rfl⟩| ⟨rfl,rfl⟩| ⟨rfl,rfl⟩
 all_goals
  go_enter Tryz.func101,Tryz.ntmps101
  exact QTO
theorem Br (p:Nat)(d:Int)(w:World)(h:Rd w0 B tv L w nx T D)(hd:L[p+1]? =some d)(hL:L.length≤20000)(hT:T.length≤20000)(hD:D.length≤20000)
  (hx:d=38∨d=37∨d=47∨d=44∨d=58):
  Calls Tryz.prog 101 #[.pointer (some ⟨B,0,none⟩),.int .i64 (p:Int)] w (iB w0 B tv L ((p:Int)+2) T D (.bool true)):=by
 have hlt:=(Pw.1 hd).1;have h0:=h;obtain⟨vt,vd,vm,hv⟩:=h;have c0:w.cell? ⟨B,0,none⟩=some tv:=hv.blk.cell 0;have c1:w.cell? ⟨B,1,none⟩=some (.int .i64 nx):=hv.blk.cell 1;have f1:w.frozen? ⟨B,1,none⟩=false:=hv.blk.frozen (by simp);obtain⟨at_,ct,rfl⟩:=hv.sl.len;obtain⟨g,off,rfl,c50⟩:=hv.sl.at hd;have hg:g<w0.heap.size:=PX _ _ c50;rw[hv.hB]at hg;have c5:w.cell? ⟨g,off+(p+1),none⟩=some (.int .i32 d):=(hv.bel.cell (p:=⟨g,off+(p+1),none⟩) hg).trans c50;have hgB:¬g=B:=by omega
 have hgB':¬B=g:=by omega
 have HX:Hid (Rd w0 B (.slice (some ⟨g,off,none⟩) L.length ct) L (w.setCell ⟨B,1,none⟩ (.int .i64 ((p:Int)+2))) ((p:Int)+2) T D):=zH ⟨vt,vd,vm,hv.next _⟩;have hz1:¬(L.length:Int)<(p:Int)+2:=by omega
 have hz2:(p:Int)+1<(L.length:Int):=by omega
 have hz3:(p:Int)≤20000:=by omega
 have hz4:(0:Int)≤(p:Int):=by omega
 clear hv c50 hd hg h0;rcases hx with rfl | rfl | rfl | rfl | rfl
 all_goals
  go_enter Tryz.func101,Tryz.ntmps101
  go_wp2_with fail
  go_quiet (fail)
  go_wp2_with fail
  go_ret;exact⟨rfl,HX.out.drewN _⟩
theorem Bu (p:Nat)(d:Int)(w:World)(h:Rd w0 B tv L w nx T D)(hd:L[p+1]? =some d)(hL:L.length≤20000)(hT:T.length≤20000)(hD:D.length≤20000)(hx:d=34):
  Calls Tryz.prog 101 #[.pointer (some ⟨B,0,none⟩),.int .i64 (p:Int)] w (iB w0 B tv L ((p:Int)+2) T D (.bool false)):=by
 have hlt:=(Pw.1 hd).1;have h0:=h;obtain⟨vt,vd,vm,hv⟩:=h;have c0:w.cell? ⟨B,0,none⟩=some tv:=hv.blk.cell 0;have c1:w.cell? ⟨B,1,none⟩=some (.int .i64 nx):=hv.blk.cell 1;have f1:w.frozen? ⟨B,1,none⟩=false:=hv.blk.frozen (by simp);obtain⟨at_,ct,rfl⟩:=hv.sl.len;obtain⟨g,off,rfl,c50⟩:=hv.sl.at hd;have hg:g<w0.heap.size:=PX _ _ c50;rw[hv.hB]at hg;have c5:w.cell? ⟨g,off+(p+1),none⟩=some (.int .i32 d):=(hv.bel.cell (p:=⟨g,off+(p+1),none⟩) hg).trans c50;have hgB:¬g=B:=by omega
 have hgB':¬B=g:=by omega
 have HX:Hid (Rd w0 B (.slice (some ⟨g,off,none⟩) L.length ct) L (w.setCell ⟨B,1,none⟩ (.int .i64 ((p:Int)+2))) ((p:Int)+2) T D):=zH ⟨vt,vd,vm,hv.next _⟩;have hz1:¬(L.length:Int)<(p:Int)+2:=by omega
 have hz2:(p:Int)+1<(L.length:Int):=by omega
 have hz3:(p:Int)≤20000:=by omega
 have hz4:(0:Int)≤(p:Int):=by omega
 clear hv c50 hd hg h0;subst hx;go_enter Tryz.func101,Tryz.ntmps101
 go_wp2_with fail
 go_quiet (fail)
 go_wp2_with fail
 go_ret;exact⟨rfl,HX.out.drewN _⟩
end
section
variable {w0:World}{B:Nat}{tv:Value}{L:List Int}{nx:Int}{T:List Tok}{D:List Dg}
theorem QTN {P:Prop}(h:P:=by
 go_wp2_with fail
 go_quiet (fail)
 go_wp2_with fail
 refine(HC.out _ (HX.out.drewN _)).mono ?_;rintro e w5 h5;obtain⟨b,rfl⟩:=HE.out _ _ h5;have H5:=zH h5;clear h5 HC HX HE;go_wp2_with fail
 exact H5.out):P:=h
theorem Hr (p:Nat)(d:Int)(E:Ending→World→Prop)(w:World)(h:Rd w0 B tv L w nx T D)(hd:L[p+1]? =some d)(hL:L.length≤20000)(hT:T.length≤20000)(hD:D.length≤20000)
  (hx:d=40∨d=91)
  (hE:∀W v,E v W→ ∃b,v=.returned (.bool b))
  (hc:∀W,Rd w0 B tv L W ((p:Int)+2) T D→Calls Tryz.prog 136 #[.pointer (some ⟨B,0,none⟩),.int .i64 (p:Int)] W E):
  Calls Tryz.prog 101 #[.pointer (some ⟨B,0,none⟩),.int .i64 (p:Int)] w (E):=by
 have hlt:=(Pw.1 hd).1;have h0:=h;obtain⟨vt,vd,vm,hv⟩:=h;have c0:w.cell? ⟨B,0,none⟩=some tv:=hv.blk.cell 0;have c1:w.cell? ⟨B,1,none⟩=some (.int .i64 nx):=hv.blk.cell 1;have f1:w.frozen? ⟨B,1,none⟩=false:=hv.blk.frozen (by simp);obtain⟨at_,ct,rfl⟩:=hv.sl.len;obtain⟨g,off,rfl,c50⟩:=hv.sl.at hd;have hg:g<w0.heap.size:=PX _ _ c50;rw[hv.hB]at hg;have c5:w.cell? ⟨g,off+(p+1),none⟩=some (.int .i32 d):=(hv.bel.cell (p:=⟨g,off+(p+1),none⟩) hg).trans c50;have hgB:¬g=B:=by omega
 have hgB':¬B=g:=by omega
 have HX:Hid (Rd w0 B (.slice (some ⟨g,off,none⟩) L.length ct) L (w.setCell ⟨B,1,none⟩ (.int .i64 ((p:Int)+2))) ((p:Int)+2) T D):=zH ⟨vt,vd,vm,hv.next _⟩;have HC:=zH hc;have HE:=zH hE;clear hc hE;have hz1:¬(L.length:Int)<(p:Int)+2:=by omega
 have hz2:(p:Int)+1<(L.length:Int):=by omega
 have hz3:(p:Int)≤20000:=by omega
 have hz4:(0:Int)≤(p:Int):=by omega
 clear hv c50 hd hg h0;rcases hx with rfl | rfl
 all_goals
  go_enter Tryz.func101,Tryz.ntmps101
  exact QTN
theorem Kg (p:Nat)(d:Int)(E:Ending→World→Prop)(w:World)(h:Rd w0 B tv L w nx T D)(hd:L[p+1]? =some d)(hL:L.length≤20000)(hT:T.length≤20000)(hD:D.length≤20000)
  (hx:d=102)
  (hE:∀W v,E v W→ ∃b,v=.returned (.bool b))
  (hc:∀W,Rd w0 B tv L W ((p:Int)+2) T D→Calls Tryz.prog 137 #[.pointer (some ⟨B,0,none⟩),.int .i64 (p:Int)] W E):
  Calls Tryz.prog 101 #[.pointer (some ⟨B,0,none⟩),.int .i64 (p:Int)] w (E):=by
 have hlt:=(Pw.1 hd).1;have h0:=h;obtain⟨vt,vd,vm,hv⟩:=h;have c0:w.cell? ⟨B,0,none⟩=some tv:=hv.blk.cell 0;have c1:w.cell? ⟨B,1,none⟩=some (.int .i64 nx):=hv.blk.cell 1;have f1:w.frozen? ⟨B,1,none⟩=false:=hv.blk.frozen (by simp);obtain⟨at_,ct,rfl⟩:=hv.sl.len;obtain⟨g,off,rfl,c50⟩:=hv.sl.at hd;have hg:g<w0.heap.size:=PX _ _ c50;rw[hv.hB]at hg;have c5:w.cell? ⟨g,off+(p+1),none⟩=some (.int .i32 d):=(hv.bel.cell (p:=⟨g,off+(p+1),none⟩) hg).trans c50;have hgB:¬g=B:=by omega
 have hgB':¬B=g:=by omega
 have HX:Hid (Rd w0 B (.slice (some ⟨g,off,none⟩) L.length ct) L (w.setCell ⟨B,1,none⟩ (.int .i64 ((p:Int)+2))) ((p:Int)+2) T D):=zH ⟨vt,vd,vm,hv.next _⟩;have HC:=zH hc;have HE:=zH hE;clear hc hE;have hz1:¬(L.length:Int)<(p:Int)+2:=by omega
 have hz2:(p:Int)+1<(L.length:Int):=by omega
 have hz3:(p:Int)≤20000:=by omega
 have hz4:(0:Int)≤(p:Int):=by omega
 clear hv c50 hd hg h0;rcases hx with rfl
 all_goals
  go_enter Tryz.func101,Tryz.ntmps101
  exact QTN
theorem Hq (p:Nat)(d:Int)(w:World)(h:Rd w0 B tv L w nx T D)(hd:L[p+1]? =some d)(hL:L.length≤20000)(hT:T.length≤20000)(hD:D.length≤20000)
  (hx:d≠92∧d≠101∧d≠45∧d≠96∧d≠46∧d≠39∧d≠32∧d≠126∧d≠48∧d≠38∧d≠37∧d≠47∧d≠44∧d≠58∧d≠34∧d≠40∧d≠91∧d≠102):
  Calls Tryz.prog 101 #[.pointer (some ⟨B,0,none⟩),.int .i64 (p:Int)] w (iB w0 B tv L ((p:Int)+2) T (D++dgs p [1]) (.bool true)):=by
 have hlt:=(Pw.1 hd).1;have h0:=h;obtain⟨vt,vd,vm,hv⟩:=h;have c0:w.cell? ⟨B,0,none⟩=some tv:=hv.blk.cell 0;have c1:w.cell? ⟨B,1,none⟩=some (.int .i64 nx):=hv.blk.cell 1;have f1:w.frozen? ⟨B,1,none⟩=false:=hv.blk.frozen (by simp);obtain⟨at_,ct,rfl⟩:=hv.sl.len;obtain⟨g,off,rfl,c50⟩:=hv.sl.at hd;have hg:g<w0.heap.size:=PX _ _ c50;rw[hv.hB]at hg;have c5:w.cell? ⟨g,off+(p+1),none⟩=some (.int .i32 d):=(hv.bel.cell (p:=⟨g,off+(p+1),none⟩) hg).trans c50;have hgB:¬g=B:=by omega
 have hgB':¬B=g:=by omega
 have HX:Hid (Rd w0 B (.slice (some ⟨g,off,none⟩) L.length ct) L (w.setCell ⟨B,1,none⟩ (.int .i64 ((p:Int)+2))) ((p:Int)+2) T D):=zH ⟨vt,vd,vm,hv.next _⟩;have HC:=zH (fun W (h:Rd w0 B (.slice (some ⟨g,off,none⟩) L.length ct) L W ((p:Int)+2) T D)=>gT 1 p W h (by omega) (by omega));have hz1:¬(L.length:Int)<(p:Int)+2:=by omega
 have hz2:(p:Int)+1<(L.length:Int):=by omega
 have hz3:(p:Int)≤20000:=by omega
 have hz4:(0:Int)≤(p:Int):=by omega
 clear hv c50 hd hg h0;obtain⟨x92,x101,x45,x96,x46,x39,x32,x126,x48,x38,x37,x47,x44,x58,x34,x40,x91,x102⟩:=hx;have y92:(d==92)=false:=by simpa using x92
 have y101:(d==101)=false:=by simpa using x101
 have y45:(d==45)=false:=by simpa using x45
 have y96:(d==96)=false:=by simpa using x96
 have y46:(d==46)=false:=by simpa using x46
 have y39:(d==39)=false:=by simpa using x39
 have y32:(d==32)=false:=by simpa using x32
 have y126:(d==126)=false:=by simpa using x126
 have y48:(d==48)=false:=by simpa using x48
 have y38:(d==38)=false:=by simpa using x38
 have y37:(d==37)=false:=by simpa using x37
 have y47:(d==47)=false:=by simpa using x47
 have y44:(d==44)=false:=by simpa using x44
 have y58:(d==58)=false:=by simpa using x58
 have y34:(d==34)=false:=by simpa using x34
 have y40:(d==40)=false:=by simpa using x40
 have y91:(d==91)=false:=by simpa using x91
 have y102:(d==102)=false:=by simpa using x102
 clear x92 x101 x45 x96 x46 x39 x32 x126 x48 x38 x37 x47 x44 x58 x34 x40 x91 x102;go_enter Tryz.func101,Tryz.ntmps101
 exact QTO
theorem MH (p:Nat)(w:World)(h:Rd w0 B tv L w nx T D)(hd:L.length=p+1)(hL:L.length≤20000)(hD:D.length≤20000):
  Calls Tryz.prog 101 #[.pointer (some ⟨B,0,none⟩),.int .i64 (p:Int)] w (iB w0 B tv L ((p:Int)+2) T (D++dgs p [1]) (.bool false)):=by
 obtain⟨vt,vd,vm,hv⟩:=h;have c0:w.cell? ⟨B,0,none⟩=some tv:=hv.blk.cell 0;have c1:w.cell? ⟨B,1,none⟩=some (.int .i64 nx):=hv.blk.cell 1;have f1:w.frozen? ⟨B,1,none⟩=false:=hv.blk.frozen (by simp);obtain⟨at_,ct,rfl⟩:=hv.sl.len;obtain⟨N,hN⟩:∃N,L.length=N:=⟨_,rfl⟩;rw[hN]at c0 hv hd hL⊢;have HX:Hid (Rd w0 B (.slice at_ N ct) L (w.setCell ⟨B,1,none⟩ (.int .i64 ((p:Int)+2))) ((p:Int)+2) T D):=zH ⟨vt,vd,vm,hv.next _⟩;have HC:=zH (fun W (h:Rd w0 B (.slice at_ N ct) L W ((p:Int)+2) T D)=>gT 1 p W h (by omega) (by omega));have hz1:(N:Int)<(p:Int)+2:=by omega
 have hz3:(p:Int)≤20000:=by omega
 have hz4:(0:Int)≤(p:Int):=by omega
 clear hv hd hN;go_enter Tryz.func101,Tryz.ntmps101
 exact QTO
end
theorem Ht (d:Int)(q:List Int):qE (d::q)=match FX d with
  | some x=>([(1,x)],[],2)
  | none=>
   if d=38∨d=37∨d=47∨d=44∨d=58 then([],[],2)
   else if d=34 then([],[],q.length+2)
   else if d=40∨d=91 then(match iY (d::q)with
    | none=>([],[1],q.length+2)
    | some (n,k)=>match AJ (enc n)with
     | some x=>([(1,x)],[],k+1)
     | none=>([],[2],k+1))
   else if d=102 then(match iY q with
    | none=>([],[1],q.length+2)
    | some (n,k)=>match ze (enc n)with
     | some x=>([(3,x)],[],k+2)
     | none=>([],[2],k+2))
   else([],[1],2):=rfl
theorem FV {d x:Int}(h:FX d=some x):(d=92∧x=92)∨(d=101∧x=92)∨(d=45∧x=45)∨(d=96∧x=96)∨(d=46∧x=46)∨(d=39∧x=180)∨(d=32∧x=160)∨(d=126∧x=160)∨(d=48∧x=160):=by
 unfold FX at h
 split at h
 ·rename_i hd;cases h;rcases hd with rfl | rfl<;>decide
 ·split at h
  ·rename_i hd;cases h;rcases hd with rfl | rfl | rfl<;>decide
  ·split at h
   ·rename_i hd;cases h;subst hd;decide
   ·split at h
    ·rename_i hd;cases h;rcases hd with rfl | rfl | rfl<;>decide
    ·cases h
theorem FW {d:Int}(h:FX d=none):d≠92∧d≠101∧d≠45∧d≠96∧d≠46∧d≠39∧d≠32∧d≠126∧d≠48:=by
 refine⟨?_,?_,?_,?_,?_,?_,?_,?_,?_⟩<;>(rintro rfl;exact absurd h (by decide))
section
variable {w0:World}{B:Nat}{tv:Value}{L:List Int}{nx:Int}{T:List Tok}{D:List Dg}
def OA (w0:World)(B:Nat)(tv:Value)(L:List Int)(p:Nat)(T:List Tok)(D:List Dg)(t:List Tok)(d:List Int)(k:Nat)(e:Ending)(w':World):Prop:=
 ∃(b:Bool) (nx':Int),e=.returned (.bool b)∧Rd w0 B tv L w' nx' (T++t) (D++dgs p d)∧(b=true→nx'=((p+k:Nat):Int))∧(b=false→L.length≤p+k)
theorem pM (D:List Dg)(p:Nat):D++dgs p []=D:=by simp[dgs]
theorem DX (p:Nat)(w:World)(h:Rd w0 B tv L w nx T D)(hp:p<L.length)(hL:L.length≤20000)(hT:T.length≤20000)(hD:D.length≤20000){t:List Tok}{d:List Int}{k:Nat}(hs:qE (L.drop (p+1))=(t,d,k)):
  Calls Tryz.prog 101 #[.pointer (some ⟨B,0,none⟩),.int .i64 (p:Int)] w (OA w0 B tv L p T D t d k):=by
 cases hR:L[p+1]? with
 | none=>
  have hlen:L.length=p+1:=by
   have:=List.getElem?_eq_none_iff.1 hR;omega
  rw[RU (by omega)]at hs
  cases hs
  exact(MH p w h hlen hL hD).mono fun e w' ⟨he,hr⟩=>⟨false,_,he,by rw[Qc];exact hr,by simp,fun _=>by omega⟩
 | some c=>
  have hlt:=(Pw.1 hR).1;have hql:(L.drop (p+1+1)).length=L.length-(p+2):=by rw[PU]
  have hdc:=nz hR;rw[hdc,Ht,hql]at hs
  cases hsim:FX c with
  | some x=>
   rw[hsim]at hs
   cases hs
   exact(Kh p c x w h hR hL hT hD (FV hsim)).mono fun e w' ⟨he,hr⟩=>⟨true,_,he,by rw[pM];exact hr,fun _=>by omega,by simp⟩
  | none=>
   rw[hsim]at hs;simp only at hs;obtain⟨x1,x2,x3,x4,x5,x6,x7,x8,x9⟩:=FW hsim
   by_cases a1:c=38∨c=37∨c=47∨c=44∨c=58
   ·rw[PZ a1]at hs
    cases hs
    exact(Br p c w h hR hL hT hD a1).mono fun e w' ⟨he,hr⟩=>⟨true,_,he,by rw[pM,Qc];exact hr,fun _=>by omega,by simp⟩
   ·rw[PO a1]at hs
    by_cases a2:c=34
    ·rw[PZ a2]at hs
     cases hs
     exact(Bu p c w h hR hL hT hD a2).mono fun e w' ⟨he,hr⟩=>⟨false,_,he,by rw[pM,Qc];exact hr,by simp,fun _=>by omega⟩
    ·rw[PO a2]at hs
     by_cases a3:c=40∨c=91
     ·rw[PZ a3,←hdc]at hs
      refine Hr p c _ w h hR hL hT hD a3 (fun W v hv=>by obtain⟨b,nx',he,_⟩:=hv;exact⟨b,he⟩) fun W hW=>?_
      cases hn:iY (L.drop (p+1))with
      | none=>
       rw[hn]at hs
       cases hs
       exact(Da p W hW (by omega) hL hD hn).mono fun e w' ⟨he,hr⟩=>⟨false,_,he,by rw[Qc];exact hr,by simp,fun _=>by omega⟩
      | some nk=>
       obtain⟨n,k'⟩:=nk;rw[hn]at hs;simp only at hs
       cases hm:AJ (enc n)with
       | some x=>
        rw[hm]at hs
        cases hs
        exact(uH p W hW (by omega) hL hT hD hn (.inl ⟨x,hm,rfl,rfl⟩)).mono fun e w' ⟨he,hr⟩=>⟨true,_,he,hr,fun _=>by omega,by simp⟩
       | none=>
        rw[hm]at hs
        cases hs
        exact(uH p W hW (by omega) hL hT hD hn (.inr ⟨hm,rfl,rfl⟩)).mono fun e w' ⟨he,hr⟩=>⟨true,_,he,hr,fun _=>by omega,by simp⟩
     ·rw[PO a3]at hs
      by_cases a4:c=102
      ·rw[PZ a4]at hs
       refine Kg p c _ w h hR hL hT hD a4 (fun W v hv=>by obtain⟨b,nx',he,_⟩:=hv;exact⟨b,he⟩) fun W hW=>?_
       cases hn:iY (L.drop (p+2))with
       | none=>
        rw[show p+1+1=p+2 by omega,hn]at hs
        cases hs
        exact(CK p W hW (by omega) hL hD hn).mono fun e w' ⟨he,hr⟩=>⟨false,_,he,by rw[Qc];exact hr,by simp,fun _=>by omega⟩
       | some nk=>
        obtain⟨n,k'⟩:=nk;rw[show p+1+1=p+2 by omega,hn]at hs;simp only at hs
        cases hm:ze (enc n)with
        | some x=>
         rw[hm]at hs
         cases hs
         exact(uk p W hW (by omega) hL hT hD hn (.inl ⟨x,hm,rfl,rfl⟩)).mono fun e w' ⟨he,hr⟩=>⟨true,_,he,hr,fun _=>by omega,by simp⟩
        | none=>
         rw[hm]at hs
         cases hs
         exact(uk p W hW (by omega) hL hT hD hn (.inr ⟨hm,rfl,rfl⟩)).mono fun e w' ⟨he,hr⟩=>⟨true,_,he,hr,fun _=>by omega,by simp⟩
      ·rw[PO a4]at hs
       cases hs
       exact(Hq p c w h hR hL hT hD ⟨x1,x2,x3,x4,x5,x6,x7,x8,x9,fun e=>a1 (by simp[e]),fun e=>a1 (by simp[e]),fun e=>a1 (by simp[e]),fun e=>a1 (by simp[e]),fun e=>a1 (by simp[e]),a2,fun e=>a3 (.inl e),fun e=>a3 (.inr e),a4⟩).mono fun e w' ⟨he,hr⟩=>⟨true,_,he,by rw[Qc];exact hr,fun _=>by omega,by simp⟩
end
section
attribute [local go_sem ↓ high] iL bH
def lF (w1:World)(B:Nat)(tv:Value)(L:List Int)(TT:List Tok)(DD:List Dg)(j:Nat)(W:World):Prop:=
 ∃(p:Nat) (nx:Int) (T:List Tok) (D:List Dg),Rd w1 B tv L W nx T D∧jC L TT DD p T D∧p≤L.length∧((p=j∧nx≤j)∨(j<p∧nx=p))
theorem lF.skip {w1:World}{B:Nat}{tv:Value}{L:List Int}{TT:List Tok}{DD:List Dg}{j p:Nat}{W:World}{nx:Int}{T:List Tok}{D:List Dg}(h:Rd w1 B tv L W nx T D)(hs:jC L TT DD p T D)(hp:p≤L.length)(hj:j<p)(hn:nx=p):lF w1 B tv L TT DD (j+1) W:=
 ⟨p,nx,T,D,h,hs,hp,by omega⟩
def zF (w:World)(b:List UInt8)(e:Ending)(w':World):Prop:=
 ∃vt vd,e=.returned (.tuple #[vt,vd])∧Iy w.heap.size w' vt (bR 0 (dec b)).1∧bG w.heap.size w' vd (bR 0 (dec b)).2∧Below w.heap.size w w'
theorem QTJ {P:Prop}(h:P:=by
 go_wp2_with fail
 refine HC.out.mono ?_;rintro e w3 ⟨rfl,h3⟩;have HN:Hid (lF w1 B (.slice (some ⟨g,off,none⟩) L.length c1) L TT DD (p+1) w3):=zH ⟨p+1,nx,_,_,h3,HS2.out,by omega,.inl ⟨rfl,by omega⟩⟩;clear HC h3 HS2;go_wp2_with fail
 go_roundw
 case rel=>exact⟨p+1,by omega,by go_num,HN.out⟩
 case measure=>(simp[intOf];try omega)):P:=h
theorem Jb (b:List UInt8)(w:World)(hb:b.length≤2000):Calls Tryz.prog 66 #[.string ⟨b.toArray⟩] w (zF w b):=by
 obtain⟨u0,w0,k0,s0,b0⟩:=zu w b;have HD:=zH (D7 b u0 w0 s0 (by omega));have hdl:=vv b;unfold zF;obtain⟨L,hL⟩:∃L,dec b=L:=⟨_,rfl⟩;rw[hL]at HD hdl⊢;have HS0:=zH (jC.start L);obtain⟨TT,hTT⟩:∃TT,(bR 0 L).1=TT:=⟨_,rfl⟩;obtain⟨DD,hDD⟩:∃DD,(bR 0 L).2=DD:=⟨_,rfl⟩;rw[hTT,hDD]at HS0⊢;have B0:=zH b0;have z0:=b0.size;clear hL hTT hDD s0 b0;go_enter Tryz.func66,Tryz.ntmps66
 go_wp2_with fail
 go_step3
 go_wp2_with fail
 refine HD.out.mono ?_;rintro e w1 ⟨u1,rfl,s1,b1⟩;have B1:=zH (B0.out.trans (b1.mono z0));have S1:=zH s1;obtain⟨a1,c1,rfl⟩:=s1.len;clear b1 HD s1;go_wp2_with fail
 go_step3
 go_wp2_with fail
 obtain⟨B,hB⟩:∃B,w1.heap.size=B:=⟨_,rfl⟩;have HR0:Hid (Rd w1 w1.heap.size (.slice a1 L.length c1) L (w1.alloc (.cells #[.slice a1 L.length c1,.int .i64 0,.slice none 0 0,.slice none 0 0,.map none] 161)) 0 [] []):=
  zH ⟨_,_,_,⟨rfl,S1.out,ae w1 _,PK w1 _,ag.nil _ _,ag.nil _ _,.inl rfl⟩⟩
 have hwB:w.heap.size≤B:=by have:=B1.out.size;omega
 have HB1:=zH B1.out;rw[hB]at HR0⊢;obtain⟨W2,hW2⟩:∃W2,w1.alloc (.cells #[.slice a1 L.length c1,.int .i64 0,.slice none 0 0,.slice none 0 0,.map none] 161)=W2:=⟨_,rfl⟩;rw[hW2]at HR0⊢;have HSB:=zH hB;clear hW2 hB B1 B0;go_loopw [14] (fun i wr=> ∃j:Nat,j≤L.length∧i=.int .i64 j∧lF w1 B (.slice a1 L.length c1) L TT DD j wr) (fun i _=>L.length-(intOf i).toNat)
 case atStart=>exact⟨0,by omega,rfl,0,0,[],[],HR0.out,HS0.out,by omega,.inl ⟨rfl,by omega⟩⟩
 case round=>
  obtain⟨j,hj,rfl,p,nx,T,D,hR,hS,hpL,hcase⟩:=hrel;have HR:=zH hR;have HSo:=zH hS;obtain⟨vt,vd,vm,hv⟩:=hR;have HV:=zH hv;have k0:wr.cell? ⟨B,0,none⟩=some (.slice a1 L.length c1):=hv.blk.cell 0;have k1:wr.cell? ⟨B,1,none⟩=some (.int .i64 nx):=hv.blk.cell 1;have tl:=hS.tl;have dl:=hS.dl;clear hv hS HR0 HS0
  by_cases hlt:j<L.length
  ·obtain⟨c,hc⟩:∃c,L[j]? =some c:=⟨L[j],Pz hlt⟩
   obtain⟨g,off,rfl,c5⟩:=(HV.out.text).at hc;have hi0:(j:Int)<(L.length:Int):=by omega
   have hi1:(0:Int)≤(j:Int):=by omega
   rcases hcase with⟨rfl,hnx⟩| ⟨hjp,hnx⟩
   ·have hnx':¬(p:Int)<nx:=by omega
    have HST:=zH (LB hc);have HNX:=zH (fun t d k (h:dS (L.drop p)=(t,d,k))=>HSo.out.next hlt h)
    by_cases c92:c=92
    ·subst c92
     obtain⟨⟨t,d,k⟩,hs⟩:∃q,qE (L.drop (p+1))=q:=⟨_,rfl⟩;have HE:=zH (DX p wr HR.out hlt (by omega) (by omega) (by omega) hs);have hbd:=Fp (L.drop (p+1));rw[hs]at hbd;obtain⟨-,-,kb1,kb2⟩:=hbd;simp only[PU]at kb1 kb2;have HS2:Hid (jC L TT DD (p+k) (T++t) (D++dgs p d)):=zH (HNX.out t d k (by rw[HST.out,PZ rfl,hs]));clear hs HST HNX hc hpL;go_wp2_with fail
     refine HE.out.mono ?_;rintro e w2 ⟨bb,nx',rfl,hr2,ht,hf⟩
     cases bb with
     | true=>
      have HN:Hid (lF w1 B (.slice (some ⟨g,off,none⟩) L.length c1) L TT DD (p+1) w2):=zH ⟨p+k,nx',_,_,hr2,HS2.out,by omega,by have:=ht rfl;omega⟩;clear ht hf hr2 HE HS2 HR HSo HV;go_wp2_with fail
      go_roundw
      case rel=>exact⟨p+1,by omega,by go_num,HN.out⟩
      case measure=>(simp[intOf];try omega)
     | false=>
      obtain⟨rfl,rfl⟩:=HS2.out.done (hf rfl);obtain⟨vt2,vd2,vm2,hv2⟩:=hr2;have k2:w2.cell? ⟨B,2,none⟩=some vt2:=hv2.blk.cell 2;have k3:w2.cell? ⟨B,3,none⟩=some vd2:=hv2.blk.cell 3;have HT:=zH (hv2.tk.mono (base':=w.heap.size) (by omega));have HDg:=zH (hv2.dg.mono (base':=w.heap.size) (by omega));have HB2:=zH (HB1.out.trans (hv2.bel.mono hwB));clear ht hf hv2 HE HS2 HR HSo HV tl dl kb1 kb2;go_wp2_with fail
      go_quiet (fail)
      go_wp2_with fail
      try rw[QJ]
      go_ret2
      exact⟨vt2,vd2,rfl,HT.out.keep (below_drewN (PG _ _) _),HDg.out.keep (below_drewN (PG _ _) _),below_drewN HB2.out _⟩
    ·have e92:(c==92)=false:=by simpa using c92
     by_cases cb:c=32∨c=9
     ·have HS2:Hid (jC L TT DD (p+1) (T++ [(2,0)]) D):=zH (by
       have:=HNX.out [(2,0)] [] 1 (by rw[HST.out,PO c92,PZ cb]);rw[pM]at this;exact this)
      have k2:wr.cell? ⟨B,2,none⟩=some vt:=HV.out.blk.cell 2;obtain⟨vt',w3,k3,q3,f3,r3⟩:=HV.out.say 2 0 (by omega);obtain⟨a2,n2,rfl⟩:=(ag.sl dZ HV.out.tk).len;obtain⟨a3,n3,rfl⟩:=(ag.sl dZ r3.tk).len;have HN:Hid (lF w1 B (.slice (some ⟨g,off,none⟩) L.length c1) L TT DD (p+1) (w3.setCell ⟨B,2,none⟩ (.slice a3 (T++ [(2,0)]).length n3))):=zH ⟨p+1,nx,_,_,⟨_,_,_,r3⟩,HS2.out,by omega,.inl ⟨rfl,by omega⟩⟩;obtain⟨m,hm⟩:∃m,(T++ [((2:Int),(0:Int))]).length=m:=⟨_,rfl⟩;rw[hm]at k3 HN;clear hm r3 HST HNX HR HV HSo HS2 hc;rcases cb with rfl | rfl
      all_goals
       go_wp2_with fail
       go_roundw
       case rel=>exact⟨p+1,by omega,by go_num,HN.out⟩
       case measure=>(simp[intOf];try omega)
     ·have e32:(c==32)=false:=by simpa using fun h:c=32=>cb (.inl h)
      have e9:(c==9)=false:=by simpa using fun h:c=9=>cb (.inr h)
      have HCT:=zH (fun W=>ru c W)
      cases hctl:ctl c with
      | true=>
       rw[hctl]at HCT;have HS2:Hid (jC L TT DD (p+1) (T++ [(1,65533)]) (D++dgs p [3])):=zH (HNX.out [(1,65533)] [3] 1 (by rw[HST.out,PO c92,PO cb,PZ hctl]));have HW:=zH (gT 3 p wr HR.out (by omega) (by omega));clear HST HNX HR HV HSo hc hctl c92 cb;go_wp2_with fail
       refine(HCT.out _).mono ?_;rintro e w2 ⟨rfl,rfl⟩;clear HCT;go_wp2_with fail
       refine HW.out.mono ?_;rintro e w2 ⟨rfl,h2⟩;have HC:=zH (pW 65533 w2 h2 (by omega));clear HW h2;exact QTJ
      | false=>
       rw[hctl]at HCT;have HS2:Hid (jC L TT DD (p+1) (T++ [(1,c)]) D):=zH (by
        have:=HNX.out [(1,c)] [] 1 (by rw[HST.out,PO c92,PO cb,PO (by rw[hctl];decide)]);rw[pM]at this;exact this)
       have HC:=zH (pW c wr HR.out (by omega));clear HST HNX HR HV HSo hc hctl c92 cb;go_wp2_with fail
       refine(HCT.out _).mono ?_;rintro e w2 ⟨rfl,rfl⟩;clear HCT;exact QTJ
   ·have HN:Hid (lF w1 B (.slice (some ⟨g,off,none⟩) L.length c1) L TT DD (j+1) wr):=zH (lF.skip HR.out HSo.out hpL hjp hnx)
    have hnx':(j:Int)<nx:=by omega
    clear hc HR HSo HV hnx;go_wp2_with fail
    go_roundw
    case rel=>exact⟨j+1,by omega,by go_num,HN.out⟩
    case measure=>(simp[intOf];try omega)
  ·obtain rfl:j=L.length:=by omega
   obtain⟨rfl,rfl⟩:=HSo.out.done (by omega);have k2:wr.cell? ⟨B,2,none⟩=some vt:=HV.out.blk.cell 2;have k3:wr.cell? ⟨B,3,none⟩=some vd:=HV.out.blk.cell 3;have HT:=zH (HV.out.tk.mono (base':=w.heap.size) (by omega));have HDg:=zH (HV.out.dg.mono (base':=w.heap.size) (by omega));have HB2:=zH (HB1.out.trans (HV.out.bel.mono hwB));clear HR HV HSo hcase tl dl;go_wp2_with fail
   go_quiet (fail)
   go_wp2_with fail
   try rw[QJ]
   go_ret2
   exact⟨vt,vd,rfl,HT.out.keep (below_drewN (PG _ _) _),HDg.out.keep (below_drewN (PG _ _) _),below_drewN HB2.out _⟩
end
def Nb (w:World)(c:List Gly×Fce)(D:List Dg)(e:Ending)(w':World):Prop:=
 ∃x vd,e=.returned (.tuple #[x,.agg #[.int .u8 c.2.1,.int .u8 c.2.2],vd])∧aW w.heap.size w' x c.1∧bG w.heap.size w' vd D∧Below w.heap.size w w'
theorem pu (p q:Int)(b:List UInt8)(w:World)(hb:b.length≤2000):
  Calls Tryz.prog 33 #[.agg #[.int .u8 p,.int .u8 q],.string ⟨b.toArray⟩] w (Nb w (jG (p,q) (bR 0 (dec b)).1) (bR 0 (dec b)).2):=by
 have hdl:=vv b;obtain⟨W2,hW2⟩:∃W2,(w.alloc (.cells #[.int .u8 p,.int .u8 q] 28)).alloc (.cells #[.int .u8 0,.int .u8 0] 28)=W2:=⟨_,rfl⟩;have hR0:=jH.start w p q;rw[hW2]at hR0;have HA:=zH (Jb b W2 (by omega));have hlen:=tL (dec b);unfold zF at HA;obtain⟨TT,hTT⟩:∃TT,(bR 0 (dec b)).1=TT:=⟨_,rfl⟩;obtain⟨DD,hDD⟩:∃DD,(bR 0 (dec b)).2=DD:=⟨_,rfl⟩;rw[hTT,hDD]at HA hlen⊢;have htl:TT.length≤100000:=by omega
 obtain⟨⟨X,A,B⟩,hS⟩:∃S,jG (p,q) TT=S:=⟨_,rfl⟩;have HS:=zH (fun v W (h:Ts W v TT)=>LG p q TT v W h htl);unfold O8 at HS;rw[hS]at HS⊢;have R0:=zH hR0;clear hdl hlen hTT hDD hS htl hR0;go_enter Tryz.func33,Tryz.ntmps33
 go_wp2_with fail
 refine HA.out.mono ?_;rintro e w1 ⟨vt,vd,rfl,o1,o2,b1⟩;have h1:=R0.out.keep b1;have c0:w1.cell? ⟨w.heap.size,0,none⟩=some (.int .u8 p):=h1.b0.cell 0;have c1:w1.cell? ⟨w.heap.size,1,none⟩=some (.int .u8 q):=h1.b0.cell 1;have hbig:=h1.big;have z2:=R0.out.big;have HS1:=zH (HS.out vt w1 (ag.sl dZ o1));have R1:=zH h1;have O2:=zH o2;obtain⟨ta,tc,rfl⟩:=(ag.sl dZ o1).len;obtain⟨da,dc,rfl⟩:=(ag.sl ax o2).len;obtain⟨n1,hn1⟩:∃n,TT.length=n:=⟨_,rfl⟩;obtain⟨n2,hn2⟩:∃n,DD.length=n:=⟨_,rfl⟩;rw[hn1]at HS1;rw[hn2]at O2;rw[hn1,hn2];clear h1 o1 o2 b1 HA HS hn1 hn2 R0 hW2;go_wp2_with fail
 refine HS1.out.mono ?_;rintro e w2 ⟨x,rfl,ox,bx⟩;have h2:=R1.out.keep bx;have h3:=h2.turn A B;have g0:w2.cell? ⟨w.heap.size,0,none⟩=some (.int .u8 p):=h2.b0.cell 0;have g1:w2.cell? ⟨w.heap.size,1,none⟩=some (.int .u8 q):=h2.b0.cell 1;have e0:w2.frozen? ⟨w.heap.size,0,none⟩=false:=h2.b0.frozen (by simp);have e1:w2.frozen? ⟨w.heap.size,1,none⟩=false:=h2.b0.frozen (by simp);have hz2:=bx.size;have ox2:aW w1.heap.size ((w2.setCell ⟨w.heap.size,0,none⟩ (.int .u8 A)).setCell ⟨w.heap.size,1,none⟩ (.int .u8 B)) x X:=Qg (Qg ox (by simp only;omega) _) (by simp only;omega) _;have od2:bG W2.heap.size ((w2.setCell ⟨w.heap.size,0,none⟩ (.int .u8 A)).setCell ⟨w.heap.size,1,none⟩ (.int .u8 B)) (.slice da n2 dc) DD:=Qg (Qg (O2.out.keep bx) (by simp only;omega) _) (by simp only;omega) _;clear c0 c1 HS1 R1 bx O2 ox;obtain⟨sa,sc,hs⟩:=(ag.sl ah ox2).len;obtain⟨xl,hxl⟩:∃xl,X.length=xl:=⟨_,rfl⟩;rw[hxl]at hs;subst hs;have HF:=zH h3;have HX:=zH ox2;have HD:=zH od2;clear h2 h3 ox2 od2 hxl;go_wp2_with fail
 obtain⟨W3,hW3⟩:∃W3,(w2.setCell ⟨w.heap.size,0,none⟩ (.int .u8 A)).setCell ⟨w.heap.size,1,none⟩ (.int .u8 B)=W3:=⟨_,rfl⟩;rw[hW3]at HF HX HD;have k0:W3.cell? ⟨w.heap.size,0,none⟩=some (.int .u8 A):=HF.out.b0.cell 0;have k1:W3.cell? ⟨w.heap.size,1,none⟩=some (.int .u8 B):=HF.out.b0.cell 1;have k2:W3.cell? ⟨w.heap.size+1,0,none⟩=some (.int .u8 0):=HF.out.b1.cell 0;have k3:W3.cell? ⟨w.heap.size+1,1,none⟩=some (.int .u8 0):=HF.out.b1.cell 1;have k4:W3.frozen? ⟨w.heap.size+1,0,none⟩=false:=HF.out.b1.frozen (by simp);have k5:W3.frozen? ⟨w.heap.size+1,1,none⟩=false:=HF.out.b1.frozen (by simp);rw[hW3];obtain⟨-,o4,o5⟩:=HF.out.fin (.int .u8 A) (.int .u8 B);have q0:=o5.cell 0;have q1:=o5.cell 1;have o6:aW w1.heap.size ((W3.setCell ⟨w.heap.size+1,0,none⟩ (.int .u8 A)).setCell ⟨w.heap.size+1,1,none⟩ (.int .u8 B)) (.slice sa xl sc) X:=Qg (Qg HX.out (by simp only;omega) _) (by simp only;omega) _;have o7:bG W2.heap.size ((W3.setCell ⟨w.heap.size+1,0,none⟩ (.int .u8 A)).setCell ⟨w.heap.size+1,1,none⟩ (.int .u8 B)) (.slice da n2 dc) DD:=Qg (Qg HD.out (by simp only;omega) _) (by simp only;omega) _;have O6:=zH (ag.mono (base':=w.heap.size) (o6.keep (PG _ _).drew) (by omega));have O7:=zH (ag.mono (base':=w.heap.size) (o7.keep (PG _ _).drew) (by omega));have O4:=zH o4;simp at q0 q1;clear o4 o5 o6 o7 HX HD HF hW3;go_region
 go_wp2_with fail
 exact Qi (v:= .tuple #[.slice sa xl sc,.agg #[.int .u8 A,.int .u8 B],.slice da n2 dc]) (by simp[results,Tryz.results33,go_sem,q0,q1]) rfl ⟨_,_,rfl,O6.out,O7.out,O4.out⟩
def lgF:Lgf:=fun b=>((jG (0,0) (bR 0 (dec b)).1).1,(bR 0 (dec b)).2.map (fun d=>(d.1,d.2.2)))
theorem jA (s:Txt):(lgF s).1.length≤s.length∧(lgF s).2.length≤s.length:=by
 have h1:=uV (0,0) (bR 0 (dec s)).1;have h2:=tL (dec s);have h3:=vv s;refine⟨?_,?_⟩
 ·show(jG (0,0) (bR 0 (dec s)).1).1.length≤_
  omega
 ·show((bR 0 (dec s)).2.map _).length≤_
  rw[Qy];omega
def w6 (n:Int):Int:=IntKind.i64.wrap n
def wD (d:Dgn):Dgn:=(d.1,w6 d.2.1,d.2.2)
theorem IG (a b:Int):IntKind.i64.wrap (w6 a+b)=w6 (a+b):=by
 unfold w6;simp only[IntKind.wrap_i64];omega
def lgS (f:Int):Lgf:=fun b=>((jG (f,f) (bR 0 (dec b)).1).1,(bR 0 (dec b)).2.map (fun d=>(d.1,d.2.2)))
theorem Ke (r:List Int):∀k∈(qE r).2.1,k≤3:=by
 unfold qE
 repeat' split
 all_goals simp
theorem FQ (s:List Int):∀k∈(dS s).2.1,k≤3:=by
 unfold dS
 split
 ·simp
 ·split
  ·exact Ke _
  ·split
   ·simp
   ·split
    ·simp
    ·simp
theorem tO:∀(n p:Nat) (s:List Int),∀d∈(gN n p s).2,d.1≤3
 | 0,p,s,d,h=>by simp[gN]at h
 | n+1,p,s,d,h=>by
  unfold gN at h
  split at h
  ·simp at h
  ·simp only[QR]at h
   rcases h with h | h
   ·unfold dgs at h
    obtain⟨k,hk,rfl⟩:=Rm.1 h;exact FQ s k hk
   ·exact tO n _ _ d h
theorem pz (f:Int)(s:Txt):∀q∈(lgS f s).2,q.1≤3:=fun q hq=>by
 obtain⟨d,hd,rfl⟩:=Rm.1 hq;exact tO _ _ _ d hd
def dE (f:Int):List Txt→List Gly×List (Int×Int)
 | l=>l.foldl (fun q s=>(jn q.1 (lgS f s).1,q.2++(lgS f s).2)) ([],[])
def rG (a b:Int):List Txt→List Gly×List (Int×Int)
 | []=>([],[])
 | s::l=>((lgS a s).1++(rG b a l).1,(lgS a s).2++(rG b a l).2)
def FY (c:UInt8):Int:=if c=66 then 1 else if c=73 then 2 else 0
def fP (r:aI):Option (List Gly×List (Int×Int)):=
 if r.mac=[] then some (lgF r.text)
 else if r.mac=[66]∨r.mac=[73] then some (dE (FY (r.mac.headD 0)) r.args)
 else if r.mac=[66,73]∨r.mac=[66,82]∨r.mac=[73,66]∨r.mac=[73,82]∨r.mac=[82,66]∨r.mac=[82,73] then some (rG (FY (r.mac.headD 0)) (FY (r.mac.getLastD 0)) r.args)
 else none
def I9:mK:=⟨fP,dE 0,fun ln l=>((fH lgF (ln+1) l).1,(fH lgF (ln+1) l).2.map wD)⟩
theorem sM (f:Int):∀(l:List Txt) (q:List Gly×List (Int×Int)),(∀x∈q.2,x.1≤3)→ ∀x∈(l.foldl (fun q s=>(jn q.1 (lgS f s).1,q.2++(lgS f s).2)) q).2,x.1≤3
 | [],q,h=>h
 | s::l,q,h=>sM f l _ (fun x hx=>(QR.1 hx).elim (h x) (pz f s x))
theorem zO:∀(l:List Txt) (a b:Int),∀x∈(rG a b l).2,x.1≤3
 | [],a,b,x,h=>by simp[rG]at h
 | s::l,a,b,x,h=>(QR.1 h).elim (pz a s x) (zO l b a x)
theorem JX (r:aI)(q:List Gly×List (Int×Int))(h:fP r=some q):∀x∈q.2,x.1≤3:=by
 unfold fP at h
 by_cases h1:r.mac=[]
 ·rw[PZ h1]at h
  injection h with h
  subst h;exact pz 0 _
 ·rw[PO h1]at h
  by_cases h2:r.mac=[66]∨r.mac=[73]
  ·rw[PZ h2]at h
   injection h with h
   subst h;exact sM _ _ _ (fun x hx=>by cases hx)
  ·rw[PO h2]at h
   by_cases h3:r.mac=[66,73]∨r.mac=[66,82]∨r.mac=[73,66]∨r.mac=[73,82]∨r.mac=[82,66]∨r.mac=[82,73]
   ·rw[PZ h3]at h
    injection h with h
    subst h;exact zO _ _ _
   ·rw[PO h3]at h
    cases h
def iI (d:List Dgn):Prop:= ∀x∈d,x.1≠12
theorem l8 {a b:List Dgn}(h:iI a)(k:iI b):iI (a++b):=fun x hx=>(QR.1 hx).elim (h x) (k x)
theorem kJ:iI []:=fun x h=>by cases h
theorem qj {k a b:Int}(h:k≠12):iI [(k,a,b)]:=fun x hx=>by rw[RH.1 hx];exact h
theorem AU {c:Prop}[Decidable c]{a b:List Dgn}(h:iI a)(k:iI b):iI (if c then a else b):=by
 split
 ·exact h
 ·exact k
theorem Jv (ln:Int)(s:Txt):iI (aY ln (lgF s).2):=D6 (fun x hx=>by have:=pz 0 s x hx;omega)
theorem Ez:∀(l:List Txt) (ln:Int) (acc:List Gly) (d:List Dgn),iI d→iI (bV lgF l ln acc d).2.1
 | [],_,_,_,h=>h
 | s::r,ln,acc,d,h=>by
  unfold bV
  split
  ·exact h
  ·exact Ez r _ _ _ (l8 h (Jv ln s))
theorem qG {K:List Txt→List Txt→Int→List (List Gly)→List Dgn→qM}(hK:∀ps rest ln cs d,iI d→iI (K ps rest ln cs d).2.1):∀(ps rest:List Txt) (ln:Int) (cs:List (List Gly)) (d:List Dgn),iI d→iI (dD lgF K ps rest ln cs d).2.1
 | [],rest,ln,cs,d,h=>h
 | p::ps,rest,ln,cs,d,h=>by
  unfold dD
  by_cases hp:p=tbW
  ·rw[PZ hp]
   have ht:=Ez rest (ln+1) [] d h;generalize bV lgF rest (ln+1) [] d=q at ht;obtain⟨g,d2,ln2,r2⟩:=q
   cases r2 with
   | nil=>exact l8 ht (qj (by decide))
   | cons s r=>exact hK _ _ _ _ _ ht
  ·rw[PO hp]
   exact qG hK ps rest ln _ _ (l8 h (Jv ln p))
theorem xD:∀(n:Nat) (ps rest:List Txt) (ln:Int) (cs:List (List Gly)) (d:List Dgn),iI d→iI (cK lgF n ps rest ln cs d).2.1
 | 0,ps,rest,ln,cs,d,h=>qG (fun _ _ _ _ _ h=>h) ps rest ln cs d h
 | n+1,ps,rest,ln,cs,d,h=>qG (xD n) ps rest ln cs d h
theorem LH (nc:Nat)(s:Txt)(rest:List Txt)(ln:Int):iI (rowP lgF nc s rest ln).2.1:=by
 unfold rowP
 split
 ·exact kJ
 ·exact l8 (xD _ _ _ _ _ _ kJ) (AU (qj (by decide)) kJ)
theorem Ai (nc:Nat):∀(n:Nat) (l:List Txt) (ln:Int) (rs:List bT) (d:List Dgn),iI d→iI (fE lgF nc n l ln rs d).2
 | 0,l,ln,rs,d,h=>h
 | n+1,[],ln,rs,d,h=>h
 | n+1,s::r,ln,rs,d,h=>Ai nc n _ _ _ _ (l8 h (LH nc s r ln))
theorem BH:∀(l:List Txt) (ln:Int) (cols:Txt) (d:List Dgn),iI d→iI (dY l ln cols d).2.2.1
 | [],ln,cols,d,h=>h
 | s::r,ln,cols,d,h=>by
  have h2:iI (d++(if(aS s).2 then [] else [(10,ln,0)])++(if 20<(aS s).1.length then [(11,ln,0)] else [])):=l8 (l8 h (AU kJ (qj (by decide)))) (AU (qj (by decide)) kJ);unfold dY;simp only
  split
  ·exact h2
  ·exact BH r _ _ _ h2
theorem NG (line:Int)(l:List Txt):iI (fH lgF line l).2:=by
 unfold fH;refine Ai _ _ _ _ _ _ (l8 (BH _ _ _ _ ?_) (AU kJ (qj (by decide))));unfold dw
 cases l with
 | nil=>exact kJ
 | cons s r=>
  simp only
  split
  ·exact AU kJ (qj (by decide))
  ·exact kJ
theorem Pe:I9.ok:=⟨fun r q h x hx=>by have:=JX r q h x hx;omega,fun l x hx=>by have:=sM 0 l ([],[]) (fun x hx=>by cases hx) x hx;omega,fun ln l q hq=>by obtain⟨p,hp,rfl⟩:=Rm.1 hq;exact NG (ln+1) l p hp⟩
end Go.Proofs.YtebabjnngdjceaaGreatDoor
