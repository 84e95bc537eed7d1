/- A rune that is named: by a digit, by its number, by its name; fonts. A rune that is named by its number. Fonts; the map of names, what is found in it; a name's rune. The map of names; what is found in it; Name. Rows of tokens, rows of what is wrong; a reader's own cells, and what each method leaves  -/
import Derived.Test.YtebabjnngdjceaaGreatDoorM4
import Derived.Test.YtebabjnngdjceaaGreatDoorDa
import Derived.Laws.RangeString
import Derived.Laws.RangeAny
import Derived.Test.YtebabjnngdjceaaGreatDoorZ0
import Derived.Lib.Hide
import Derived.Maps.OwnSet
import Derived.Maps.Own
import Derived.Maps.Views
import Derived.Maps.AppendAt
import Derived.StringKeys
import Derived.Test.YtebabjnngdjceaaGreatDoorGx
import Derived.Deep.QuietTactic
import Derived.BigQuiet
import Derived.Test.YtebabjnngdjceaaGreatDoorH2
set_option linter.unusedVariables false
set_option linter.unusedSimpArgs false
set_option maxRecDepth 100000
set_option maxHeartbeats 4000000
namespace Go.Proofs.YtebabjnngdjceaaGreatDoor
open Go.RowKit
theorem ML {k:IntKind} {a b:Int} {x y:Bool} (h:a=b) (h2:x=y):Ending.returned (.tuple #[.int k a,.bool x])= .returned (.tuple #[.int k b,.bool y]):=by rw[h,h2]
theorem Ec {c d:Int} (h:gV c=some d):0≤d∧d≤15:=by
 unfold gV at h
 split at h
 ·cases h;omega
 ·split at h
  ·cases h;omega
  ·cases h
theorem Gm (c:Int) (h0:0≤c) (h1:c≤2147483647) (w:World):Calls Tryz.prog 231 #[.int .i32 c] w fun e w'=>e= .returned (.tuple #[.int .i32 ((gV c).getD 0),.bool (gV c).isSome])∧w=w':=by
 obtain⟨H,hH⟩: ∃H,gV c=H:=⟨_,rfl⟩;rw[hH]
 by_cases a:48≤c∧c≤57
 ·have e:H=some (c-48):=by rw[←hH];unfold gV;rw[Pk a]
  obtain⟨a1,a2⟩:=a;subst e;clear hH;simp only[Qd,Qy];go_enter Tryz.func231,Tryz.ntmps231
  go_wp2
  go_ret2
  exact⟨rfl,rfl⟩
 ·by_cases b:65≤c∧c≤70
  ·have e:H=some (c-55):=by rw[←hH];unfold gV;rw[Pd a,Pk b]
   obtain⟨b1,b2⟩:=b;have a3: ¬c≤57:=by omega
   have a1:48≤c:=by omega
   subst e;clear hH a;simp only[Qd,Qy];go_enter Tryz.func231,Tryz.ntmps231
   go_wp2
   go_ret2
   exact⟨ML (by omega) rfl,rfl⟩
  ·have e:H=none:=by rw[←hH];unfold gV;rw[Pd a,Pd b]
   subst e;clear hH;simp only[PP,Qk]
   by_cases a1:48≤c
   ·have a2: ¬c≤57:=fun h=>a ⟨a1,h⟩
    clear a
    by_cases b1:65≤c
    ·have b2: ¬c≤70:=fun h=>b ⟨b1,h⟩
     clear b;go_enter Tryz.func231,Tryz.ntmps231
     go_wp2
     go_ret2
     exact⟨rfl,rfl⟩
    ·clear b
     go_enter Tryz.func231,Tryz.ntmps231
     go_wp2
     go_ret2
     exact⟨rfl,rfl⟩
   ·have b1: ¬65≤c:=by omega
    clear a b;go_enter Tryz.func231,Tryz.ntmps231
    go_wp2
    go_ret2
    exact⟨rfl,rfl⟩
theorem qB {b:List UInt8} (h:b.length<5):numOf b=none:=by unfold numOf;rw[Pk (.inl h)]
theorem tQ {b:List UInt8} (h:7<b.length):numOf b=none:=by unfold numOf;rw[Pk (.inr (.inl h))]
theorem qC {b:List UInt8} (h:b.head? ≠some 117):numOf b=none:=by unfold numOf;rw[Pk (.inr (.inr h))]
theorem wh {b:List UInt8} (h1:5≤b.length) (h2:b.length≤7) (h3:b.head? =some 117):numOf b=match vB b.tail 0 with
  | none=>none
  | some n=>if vld n=true∧ctl n=false then some n else none:=by
 have hn: ¬(b.length<5∨7<b.length∨b.head? ≠some 117):=by
  rintro(h | h | h)
  ·omega
  ·omega
  ·exact h h3
 unfold numOf;rw[Pd hn]
 cases vB b.tail 0<;>rfl
theorem qd {c:Int} (h:128≤c):gV c=none:=by unfold gV;rw[Pd (by omega),Pd (by omega)]
structure gU (T:List UInt8) (R:Option Int) (pos:Nat) (acc:Int):Prop where
 le:pos≤T.length
 eq:vB (T.drop pos) acc=R
 lo:0≤acc
 hi:acc<16 ^ pos
theorem gU.start (T:List UInt8):gU T (vB T 0) 0 0:=⟨by omega,by simp,by omega,by simp⟩
theorem gU.done {T:List UInt8} {R:Option Int} {acc:Int} {pos:Nat} (h:gU T R pos acc) (hp:T.length≤pos):R=some acc:=by
 have h1:=h.eq;rw[QM hp]at h1;exact h1.symm
theorem gU.next {T:List UInt8} {R:Option Int} {acc:Int} {pos:Nat} (h:gU T R pos acc) {x:UInt8} (hx:T[pos]? =some x) {d:Int} (hd:gV (x.toNat:Int)=some d):gU T R (pos+1) (acc*16+d):=by
 obtain⟨hp,hx'⟩:=OV.1 hx;have h1:=h.eq;have hb:=Ec hd;have lo:=h.lo;have hi:=h.hi;rw[PX hp,hx']at h1;unfold vB at h1;rw[hd]at h1;refine⟨hp,h1,by omega,?_⟩;rw[Int.pow_succ];omega
theorem gU.none {T:List UInt8} {R:Option Int} {acc:Int} {pos:Nat} (h:gU T R pos acc) {x:UInt8} (hx:T[pos]? =some x) (hd:gV (x.toNat:Int)=none):R=Option.none:=by
 obtain⟨hp,hx'⟩:=OV.1 hx;have h1:=h.eq;rw[PX hp,hx']at h1;unfold vB at h1;rw[hd]at h1;exact h1.symm
theorem gU.room {T:List UInt8} {R:Option Int} {acc:Int} {pos:Nat} (h:gU T R pos acc) (hp:pos≤5):acc<1048576:=by
 have hi:=h.hi;have:(16:Int)^ pos≤16 ^ 5:=by
  have:=Nat.pow_le_pow_right (n:=16) (by omega) hp
  exact_mod_cast this
 have e:(16:Int)^ 5=1048576:=by decide
 omega
theorem fe (b:List UInt8) (i:Nat) (x:UInt8) (h:b[i]? =some x) (w:World):(Instr.index 9 (.string ⟨b.toArray⟩) (.int .i64 (i:Int))).run Tryz.prog w= .ok (.int .u8 (x.toNat:Int)) w:=by
 obtain⟨hi,hx⟩:=OV.1 h;have hsz:(⟨b.toArray⟩:ByteArray).size=b.length:=by simp[Go.Lib.size_eq]
 rw[run_index_string w 9 _ .i64 (i:Int) Tryz.underlying9,dif_pos ⟨by omega,by rw[hsz];omega⟩];have e:(⟨b.toArray⟩:ByteArray)[((i:Int)).toNat]'(by rw[hsz];omega)=x:=by
  show b.toArray[((i:Int)).toNat]'_=x;simp only[QS,List.getElem_toArray];exact hx
 rw[e]
theorem eU (b:List UInt8) (i:Nat) (h:i≤b.length) (w:World):(Instr.slice 9 (.string ⟨b.toArray⟩) (some (.int .i64 (i:Int))) none none).run Tryz.prog w= .ok (.string ⟨(b.drop i).toArray⟩) w:=by
 have hsz:(⟨b.toArray⟩:ByteArray).size=b.length:=by simp[Go.Lib.size_eq]
 rw[run_slice_string_from_if w 9 _ .i64 (i:Int) Tryz.underlying9,Pk ⟨by omega,by rw[hsz];omega⟩,hsz,ByteArray.extract_mk];simp only[QS];rw[Pz (by simp)]
theorem Kq (b:List UInt8) (i j:Nat) (hi:i≤j) (h:j≤b.length) (w:World):(Instr.slice 9 (.string ⟨b.toArray⟩) (some (.int .i64 (i:Int))) (some (.int .i64 (j:Int))) none).run Tryz.prog w= .ok (.string ⟨((b.drop i).take (j-i)).toArray⟩) w:=by
 have hsz:(⟨b.toArray⟩:ByteArray).size=b.length:=by simp[Go.Lib.size_eq]
 rw[run_slice_string w 9 _ .i64 .i64 (i:Int) (j:Int) Tryz.underlying9 (by omega) (by omega) (by rw[hsz];omega),ByteArray.extract_mk];simp only[QS]
theorem KP (T:List UInt8) (pos:Nat) (x:UInt8) (hx:T[pos]? =some x) (w:World):
  ∃(c:Int) (k:Nat),(∀ty,(Instr.next (.pointer (some ⟨w.heap.size,0,none⟩)) true ty).run Tryz.prog (w.iter ⟨T.toArray⟩ pos)= .ok (.tuple #[.bool true,.int .i64 (pos:Int),.int .i32 c]) (w.iter ⟨T.toArray⟩ (pos+k)))∧
   0≤c∧c≤2147483647∧gV c=gV (x.toNat:Int)∧((gV c).isSome=true→k=1):=by
 obtain⟨hp,hx'⟩:=OV.1 hx;have hsz:(⟨T.toArray⟩:ByteArray).size=T.length:=by simp[Go.Lib.size_eq]
 have hps:pos<(⟨T.toArray⟩:ByteArray).size:=by rw[hsz];exact hp
 have e:(⟨T.toArray⟩:ByteArray)[pos]'hps=x:=by
  show T.toArray[pos]'_=x;simp only[List.getElem_toArray];exact hx'
 by_cases ha:x.toNat<128
 ·refine⟨(x.toNat:Int),1,fun ty=>?_,by omega,by omega,rfl,fun _=>rfl⟩
  have:=run_next_ascii (P:=Tryz.prog) w ⟨T.toArray⟩ pos ty hps (by rw[e];exact ha);rw[e]at this;exact this
 ·have hd:=decode_high ⟨T.toArray⟩ pos hps (by rw[e];omega)
  have hle:=decode_le ⟨T.toArray⟩ pos;refine⟨((Utf8.decode ⟨T.toArray⟩ pos).1:Int),(Utf8.decode ⟨T.toArray⟩ pos).2,fun ty=>run_next_any w _ pos ty hps,by omega,by omega,?_,fun h=>?_⟩
  ·rw[qd (by omega),qd (by omega)]
  ·rw[qd (by omega)]at h
   cases h
theorem xM (b:List UInt8) (w:World) (h1:5≤b.length) (h2:b.length≤7) (h3:b.head? =some 117):
  Calls Tryz.prog 207 #[.string ⟨b.toArray⟩] w fun e w'=>e= .returned (.tuple #[.int .i32 ((numOf b).getD 0),.bool (numOf b).isSome])∧Below w.heap.size w w':=by
 have HN:=zH (wh h1 h2 h3);obtain⟨N,hN⟩: ∃N,numOf b=N:=⟨_,rfl⟩;rw[hN]at HN ⊢;clear hN;have hsz:(⟨b.toArray⟩:ByteArray).size=b.length:=by simp[Go.Lib.size_eq]
 have k0:=fe b 0 117 (by cases b with | nil=>cases h3 | cons x r=>simpa using h3);have k1:=eU b 1 (by omega);have k0': ∀w,(Instr.index 9 (.string ⟨b.toArray⟩) (.int .i64 0)).run Tryz.prog w= .ok (.int .u8 117) w:=k0;have k1': ∀w,(Instr.slice 9 (.string ⟨b.toArray⟩) (some (.int .i64 1)) none none).run Tryz.prog w= .ok (.string ⟨(b.drop 1).toArray⟩) w:=k1;have hdl:(b.drop 1).length=b.length-1:=by simp
 have HS:=zH (gU.start (b.drop 1));rw[show b.tail=b.drop 1 by simp]at HN;obtain⟨R,hR⟩: ∃R,vB (b.drop 1) 0=R:=⟨_,rfl⟩;rw[hR]at HN HS;obtain⟨T,hT⟩: ∃T,b.drop 1=T:=⟨_,rfl⟩;rw[hT]at HS hdl k1';have HNX:=zH (fun pos x hx=>KP T pos x hx w);have HNE:=zH (fun pos (h: ¬pos<(⟨T.toArray⟩:ByteArray).size) ty=>run_next_end (P:=Tryz.prog) w ⟨T.toArray⟩ pos ty h);have hTz:(⟨T.toArray⟩:ByteArray).size=T.length:=by simp[Go.Lib.size_eq]
 have hl1: ¬(b.length:Int)<5:=by omega
 have hl2: ¬(7:Int)<(b.length:Int):=by omega
 clear h3 k0 k1 hR hT;go_enter Tryz.func207,Tryz.ntmps207
 go_wp2_with fail
 go_loopw [4] (fun n wr=> ∃(pos:Nat) (acc:Int),wr=w.iter ⟨T.toArray⟩ pos∧n= .int .i32 acc∧gU T R pos acc) (fun _ wr=>T.length-wr.iterPos w.heap.size)
 case atStart=>exact⟨0,0,rfl,rfl,HS.out⟩
 case round=>
  obtain⟨pos,acc,rfl,rfl,hh⟩:=hrel;have HH:=zH hh;have lo:=hh.lo;have ple:=hh.le
  by_cases hp:pos<T.length
  ·have hroom:=hh.room (by omega)
   obtain⟨x,hx⟩: ∃x,T[pos]? =some x:=⟨T[pos],OU hp⟩;obtain⟨c,k,hnx,c0,c1,hc,hk⟩:=HNX.out pos x hx;have HX:=zH hx;have HD:=zH (Gm c c0 c1);rw[hc]at HD hk
   cases hd:gV (x.toNat:Int)with
   | none=>
    rw[hd]at HD;have hR:=HH.out.none HX.out hd;have HN':=HN.out;rw[hR]at HN';simp only at HN';subst HN';simp only[PP,Qk]at HD ⊢;clear hd hc hk hR HH hh hx HN HNX HNE;go_wp2_with (go_at_call 231;refine(HD.out _).mono ?_;rintro e w' ⟨rfl,rfl⟩)
    go_ret2
    exact⟨rfl,(OX _ _).alloc (OW _) _⟩
   | some d=>
    rw[hd]at HD hk;obtain rfl:=hk rfl;have hb:=Ec hd;have HH':=zH (HH.out.next HX.out hd);simp only[Qd,Qy]at HD;clear hd hc hk HH hh hx HNX HNE;go_wp2_with (go_at_call 231;refine(HD.out _).mono ?_;rintro e w' ⟨rfl,rfl⟩)
    go_roundw
    case rel=>exact⟨pos+1,_,rfl,rfl,HH'.out⟩
    case measure=>simp;omega
  ·have hnx:=HNE.out pos (by omega)
   have hR:=HH.out.done (by omega);have HN':=HN.out;rw[hR]at HN';simp only at HN';have V1:=zH (fun W=>Ex acc W);have V2:=zH (fun W=>qO acc W);obtain⟨b1,e1⟩: ∃b,vld acc=b:=⟨_,rfl⟩;obtain⟨b2,e2⟩: ∃b,ctl acc=b:=⟨_,rfl⟩;rw[e1]at V1;rw[e2]at V2;rw[e1,e2]at HN';clear e1 e2 hR hh HH HN HNX HNE
   cases b1<;>cases b2
   all_goals
    simp at HN';subst HN'
    try simp only[PP,Qk,Qd,Qy]
    go_wp2_with (first
     | (go_at_call 232;refine(V1.out _).mono ?_;rintro e w' ⟨rfl,rfl⟩)
     | (go_at_call 102;refine(V2.out _).mono ?_;rintro e w' ⟨rfl,rfl⟩))
    go_ret2
    exact⟨rfl,(OX _ _).alloc (OW _) _⟩
theorem xN (b:List UInt8) (w:World) (hb:b.length≤maxLen):
  Calls Tryz.prog 207 #[.string ⟨b.toArray⟩] w fun e w'=>e= .returned (.tuple #[.int .i32 ((numOf b).getD 0),.bool (numOf b).isSome])∧Below w.heap.size w w':=by
 have hsz:(⟨b.toArray⟩:ByteArray).size=b.length:=by simp[Go.Lib.size_eq]
 by_cases h1:b.length<5
 ·rw[qB h1]
  have hl:(b.length:Int)<5:=by omega
  simp only[PP,Qk];go_enter Tryz.func207,Tryz.ntmps207
  go_wp2
  go_ret2
  exact⟨rfl,OX _ _⟩
 ·by_cases h2:7<b.length
  ·rw[tQ h2]
   have hl: ¬(b.length:Int)<5:=by omega
   have hl2:(7:Int)<(b.length:Int):=by omega
   simp only[PP,Qk];go_enter Tryz.func207,Tryz.ntmps207
   go_wp2
   go_ret2
   exact⟨rfl,OX _ _⟩
  ·by_cases h3:b.head? =some 117
   ·exact xM b w (by omega) (by omega) h3
   ·rw[qC h3]
    have hl: ¬(b.length:Int)<5:=by omega
    have hl2: ¬(7:Int)<(b.length:Int):=by omega
    obtain⟨x,hx⟩: ∃x,b[0]? =some x:=⟨b[0],OU (by omega)⟩;have k0: ∀w,(Instr.index 9 (.string ⟨b.toArray⟩) (.int .i64 0)).run Tryz.prog w= .ok (.int .u8 (x.toNat:Int)) w:=fe b 0 x hx;have hne:((x.toNat:Int) != 117)=true:=by
     rw[bne_iff_ne];intro h;apply h3;have hx2:x=117:=Qt.1 (by have:x.toNat=117:=(by omega);exact this)
     cases b with
     | nil=>simp at h1
     | cons y r=>simp at hx ⊢;rw[hx,hx2]
    clear h3 hx h1 h2;simp only[PP,Qk];go_enter Tryz.func207,Tryz.ntmps207
    go_wp2
    go_ret2
    exact⟨rfl,OX _ _⟩
theorem bU {b c:List UInt8} (h: ¬b=c):(b==c)=false:=by simpa using h
theorem Jc (b:List UInt8) (w:World):
  Calls Tryz.prog 176 #[.string ⟨b.toArray⟩] w fun e w'=>e= .returned (.tuple #[.int .i32 ((jK b).getD 0),.bool (jK b).isSome])∧w=w':=by
 by_cases c:b∈ [[82],[49],[66],[50],[73],[51],[66,73],[52],[80]]
 ·simp only[P6,P8,QN]at c
  rcases c with rfl | rfl | rfl | rfl | rfl | rfl | rfl | rfl | rfl
  all_goals
   go_enter Tryz.func176,Tryz.ntmps176
   go_wp2
   go_ret2
   exact⟨rfl,rfl⟩
 ·simp only[P6,P8,QN,not_or]at c
  obtain⟨c1,c2,c3,c4,c5,c6,c7,c8,c9⟩:=c;have e:jK b=none:=by
   unfold jK;rw[Pd (by rintro(h | h);exact c1 h;exact c2 h),Pd (by rintro(h | h);exact c3 h;exact c4 h),Pd (by rintro(h | h);exact c5 h;exact c6 h),Pd (by rintro(h | h);exact c7 h;exact c8 h),Pd c9]
  rw[e];have d1:=bU c1;have d2:=bU c2;have d3:=bU c3;have d4:=bU c4;have d5:=bU c5;have d6:=bU c6;have d7:=bU c7;have d8:=bU c8;have d9:=bU c9;clear c1 c2 c3 c4 c5 c6 c7 c8 c9 e;simp only[PP,Qk];go_enter Tryz.func176,Tryz.ntmps176
  go_wp2
  go_ret2
  exact⟨rfl,rfl⟩
theorem ja {H:Type} {P:Program} (w:World) {ops:Array Oper} {rest:List Oper} {o:Oper} {a:Act} {Q:Exit→Act→World→Prop}
  (hg:o.guard=none) (m x v:Operand) (t:TypeId) (hop:o.op=Op.insert t m x v)
  (k e:TypeId) (K:Maps.Keyed P k) (ht:P.underlying t=some (.map k e)) (R:Value→Option (DataW H×List MemPlace)) (b n:Nat) (D:DataW H)
  (hm:a.eval m= .map (some b)) (hown:w.ownsMap P k R b n D) (hn:n<maxLen) (key val:Value) (kl:Lit) (hx:a.eval x=key) (hv:a.eval v=val) (hkey:keyOf P k key=some kl)
  (d:DataW H) (ps:List MemPlace) (hval:R val=some (d,ps))
  (hK: ∀w',w'.ownsMap P k R b (n+1) (D.put kl d)→w.grownBy w' (some b)→wpList P ops Q rest (a.put o.dst undef) w'):
  wpList P ops Q (o::rest) a w:=by
 refine wpList_plain hg fun K' hK'=>?_
 obtain⟨w',hrun,r1,r2⟩:=hown.update K ht hn hkey hval;unfold Oper.wp;simp[execOp,hop,hm,hx,hv,hrun,Result.andThen];exact hK' _ _ (hK w' r1 r2)
def oM (l:List (List UInt8×Int)) (D:DataW Unit):DataW Unit:=l.foldl (fun D p=>D.put (.string p.1) (.lit (.int .i32 p.2))) D
def mK:List (List UInt8×Int)→Bool
 | []=>true
 | p::l=>(bg l p.1).isNone&&mK l
theorem ve:mK fQ=true:=by decide+kernel
theorem wm: ∀(l:List (List UInt8×Int)) (D:DataW Unit) (b:List UInt8),Maps.IsMap D→Maps.has (oM l D) (.string b)=(Maps.has D (.string b)|| (bg l b).isSome)
 | [],D,b,_=>by simp[oM,bg]
 | p::l,D,b,h=>by
  have ih:=wm l (D.put (.string p.1) (.lit (.int .i32 p.2))) b (h.put _ _);have e:oM (p::l) D=oM l (D.put (.string p.1) (.lit (.int .i32 p.2))):=rfl;rw[e,ih]
  by_cases hp:p.1=b
  ·subst hp
   rw[Maps.has_put_same h (by trivial)];simp[bg]
  ·rw[Maps.has_put_other (fun h=>hp (by injection h with h;exact h.symm))]
   simp[bg,hp]
theorem zR: ∀(l:List (List UInt8×Int)) (D:DataW Unit) (b:List UInt8) (z:DataW Unit),Maps.IsMap D→mK l=true→(oM l D).atKey (.string b) z=match bg l b with
  | some r=> .lit (.int .i32 r)
  | none=>D.atKey (.string b) z
 | [],D,b,z,_,_=>by simp[oM,bg]
 | p::l,D,b,z,h,hk=>by
  unfold mK at hk;simp only[PI]at hk;have ih:=zR l (D.put (.string p.1) (.lit (.int .i32 p.2))) b z (h.put _ _) hk.2;have e:oM (p::l) D=oM l (D.put (.string p.1) (.lit (.int .i32 p.2))):=rfl;rw[e,ih]
  by_cases hp:p.1=b
  ·subst hp
   have h0:bg l p.1=none:=by simpa using hk.1
   rw[h0,Maps.atKey_put_same h (by trivial)];simp[bg]
  ·rw[Maps.atKey_put_other (fun h=>hp (by injection h with h;exact h.symm))]
   simp[bg,hp]
theorem Mv (w:World):(zeroValue 21).run Tryz.prog w= .ok (.int .i32 0) w:=by kernel_rfl
def Nms (W:World) (M:Nat):Prop:=W.ownsMap (H:=Unit) Tryz.prog 9 (plainElem Tryz.prog 21) M 30 (oM fQ (.map []))
theorem Nms.keep {W W':World} {M:Nat} (h:Nms W M) (hb:Below W.heap.size W W'):Nms W' M:=by
 have hlt:=h.lt;obtain⟨es,clock,hh,r⟩:=h;exact⟨es,clock,(hb.block M hlt).trans hh,r⟩
def NB (w:World) (e:Ending) (w':World):Prop:= ∃M,e= .returned (.map (some M))∧w.heap.size≤M∧Nms w' M∧Below w.heap.size w w'
structure wS (w W:World) (n:Nat) (D:DataW Unit):Prop where
 own:W.ownsMap (H:=Unit) Tryz.prog 9 (plainElem Tryz.prog 21) w.heap.size n D
 bel:Below w.heap.size w W
theorem wS.next {w W W':World} {n:Nat} {D D':DataW Unit} (h:wS w W n D) (ho:W'.ownsMap (H:=Unit) Tryz.prog 9 (plainElem Tryz.prog 21) w.heap.size (n+1) D') (hg:W.grownBy W' (some w.heap.size)):wS w W' (n+1) D':=
 ⟨ho,h.bel.grown hg h.bel.size (fun j e=>by cases e;exact OW _)⟩
theorem DT (b:List UInt8) (hb:b.length≤10):keyOf Tryz.prog 9 (.string ⟨b.toArray⟩)=some (.string b):=by
 have:=WideMaps.keyOf_string_mk (P:=Tryz.prog) (k:=9) Tryz.underlying9 (s:=⟨b.toArray⟩) (by simp[Go.Lib.size_eq,maxLen];omega)
 simpa using this
theorem NM {w W:World} {n:Nat} {D:DataW Unit} {ops:Array Oper} {rest:List Oper} {o:Oper} {a:Act} {Q:Exit→Act→World→Prop} (h:wS w W n D) (hg:o.guard=none) {b:List UInt8} {r:Int}
  (hop:o.op=Op.insert 159 (.tmp 1) (.const (.string ⟨b.toArray⟩)) (.const (.int .i32 r))) (hb:b.length≤10) (hr:(Lit.int .i32 r).wf=true) (hn:n≤1000) (hm:a.eval (.tmp 1)= .map (some w.heap.size))
  (hK: ∀W',wS w W' (n+1) (D.put (.string b) (.lit (.int .i32 r)))→wpList Tryz.prog ops Q rest (a.put o.dst undef) W'):wpList Tryz.prog ops Q (o::rest) a W:=
 ja W hg _ _ _ 159 hop 9 21 (Maps.string_keyed Tryz.underlying9) Tryz.underlying159 _ w.heap.size n D hm h.own (by unfold maxLen;omega) _ _ _ rfl rfl (DT b hb) _ [] (plainElem_int Tryz.underlying21 hr)
  (fun W' ho hg=>hK W' (h.next ho hg))
theorem Fh (w:World):Calls Tryz.prog 174 #[] w (NB w):=by
 have H0:wS w (w.alloc (.map #[] 0)) 0 (.map []):=⟨World.ownsMap_made _ _ _ _,(OX _ _).alloc (OW _) _⟩;have hmm:= @run_makeMap Tryz.prog;go_enter Tryz.func174,Tryz.ntmps174
 go_wp2_with (refine NM (by assumption) rfl rfl (by decide) (by decide) (by omega) rfl ?_;intro w1 h1)
 go_ret;exact⟨_,rfl,OW _,h1.own,h1.bel⟩
theorem La {W:World} {M:Nat} (h:Nms W M) (b:List UInt8) (hb:b.length≤maxLen):
  (Instr.lookup 159 (.map (some M)) (.string ⟨b.toArray⟩) true).run Tryz.prog W= .ok (.tuple #[.int .i32 ((bg fQ b).getD 0),.bool (bg fQ b).isSome]) W:=by
 have hkey:=WideMaps.keyOf_string_mk (P:=Tryz.prog) (k:=9) Tryz.underlying9 (s:=⟨b.toArray⟩) (by simpa[Go.Lib.size_eq] using hb);obtain⟨v,ps,hrun,hv⟩:=World.ownsMap.look_ok h (Maps.string_keyed Tryz.underlying9) Tryz.underlying159 (Mv W) (plainElem_int Tryz.underlying21 (by decide)) hkey;obtain⟨c,rfl,hc,-⟩:=plainElem_int_inv Tryz.underlying21 hv;have hc1:=Pj Prod.fst hc;rw[hrun];simp only at hc1;rw[zR _ _ _ _ Maps.isMap_empty ve]at hc1;rw[wm _ _ _ Maps.isMap_empty];have h0:Maps.has (.map []:DataW Unit) (.string (⟨b.toArray⟩:ByteArray).data.toList)=false:=rfl;rw[h0,Bool.false_or];simp only at hc1 ⊢
 cases hl:bg fQ b with
 | none=>
  rw[hl]at hc1;have:c=0:=by
   have h1:(DataW.lit (.int .i32 0):DataW Unit)= .lit (.int .i32 c):=hc1;injection h1 with h1
   injection h1 with _ h1
   exact h1.symm
  subst this;rfl
 | some r=>
  rw[hl]at hc1;have:c=r:=by
   have h1:(DataW.lit (.int .i32 r):DataW Unit)= .lit (.int .i32 c):=hc1;injection h1 with h1
   injection h1 with _ h1
   exact h1.symm
  subst this;rfl
theorem Je (b:List UInt8) (M:Nat) (w:World) (hm:Nms w M) (hb:b.length≤maxLen):
  Calls Tryz.prog 175 #[.map (some M),.string ⟨b.toArray⟩] w fun e w'=>e= .returned (.tuple #[.int .i32 ((lU b).getD 0),.bool (lU b).isSome])∧Below w.heap.size w w':=by
 have hl:=La hm b hb;have HN:=zH (xN b w hb);unfold lU
 cases he:bg fQ b with
 | some r=>
  rw[he]at hl;simp only[Qd,Qy]at hl ⊢;clear he HN hm;go_enter Tryz.func175,Tryz.ntmps175
  go_wp2_with fail
  go_ret2
  exact⟨rfl,OX _ _⟩
 | none=>
  rw[he]at hl;simp only[PP,Qk]at hl ⊢;obtain⟨N,hN⟩: ∃N,numOf b=N:=⟨_,rfl⟩;rw[hN]at HN ⊢;clear he hm hN;go_enter Tryz.func175,Tryz.ntmps175
  go_wp2_with fail
  refine HN.out.mono ?_;rintro e w1 ⟨rfl,b1⟩;go_wp2_with fail
  go_ret2
  exact⟨rfl,b1⟩
section
def zf (t:Tok):List Value:=[.int .i64 t.1,.int .i32 t.2]
theorem az (t:Tok):(zf t).length=2:=rfl
theorem EB (t:Tok): ∀u∈zf t,u.oneCell'=true:=by
 intro u hu;simp[zf]at hu;rcases hu with rfl | rfl<;>rfl
def kT (d:Dg):List Value:=[.int .i64 d.1,.int .i64 d.2.1,.int .i64 d.2.2]
theorem ai (d:Dg):(kT d).length=3:=rfl
theorem wK (d:Dg): ∀u∈kT d,u.oneCell'=true:=by
 intro u hu;simp[kT]at hu;rcases hu with rfl | rfl | rfl<;>rfl
abbrev Ts (w:World) (v:Value) (l:List Tok):Prop:=Fs 2 zf w v l
abbrev eD (base:Nat) (W:World) (x:Value) (l:List Tok):Prop:=ag 113 2 zf base W x l
abbrev Ds (w:World) (v:Value) (l:List Dg):Prop:=Fs 3 kT w v l
abbrev aL (base:Nat) (W:World) (x:Value) (l:List Dg):Prop:=ag 46 3 kT base W x l
theorem N7:(Tryz.prog.info? 113).map (fun i=>(i.zero,i.size,i.bytes))=some (some (.agg #[.int .i64 0,.int .i32 0]),2,16):=by kernel_rfl
theorem IX:(Tryz.prog.info? 46).map (fun i=>(i.zero,i.size,i.bytes))=some (some (.agg #[.int .i64 0,.int .i64 0,.int .i64 0]),3,24):=by kernel_rfl
noncomputable def JQ (args:Array Value):Sem Next:=do pure (.value (←Builtin.append_ #[69,69] 69 args))
theorem bN (cs:Array Bool) (args:Array Value):builtin .append #[69,69] 69 cs args=JQ args:=rfl
noncomputable def ic (args:Array Value):Sem Next:=do pure (.value (←Builtin.append_ #[29,29] 29 args))
theorem aM (cs:Array Bool) (args:Array Value):builtin .append #[29,29] 29 cs args=ic args:=rfl
theorem AY {base:Nat} {W:World} {x u:Value} {l m:List Tok} (h:eD base W x l) (hu:Ts W u m) (hb:base≤W.heap.size) (hd:l.length+m.length≤1000000):
  ∃x' w',(JQ #[x,u]).run Tryz.prog W= .ok (.value x') w'∧eD base w' x' (l++m)∧W.grownBy w' x.ownBlock∧(x'.ownBlock=x.ownBlock∨x'.ownBlock=some W.heap.size):=by
 obtain⟨i0,hi,hz0,hz1,hz2⟩:=PU N7;obtain⟨x',w',hr,r⟩:=lX az EB (by decide) Tryz.underlying69 hi hz0 hz1 hz2 rfl (by decide) h hu hb hd;refine⟨x',w',?_,r⟩;unfold JQ;simp only[Qh,Qm,PT,hr]
theorem gG {base:Nat} {W:World} {x u:Value} {l m:List Dg} (h:aL base W x l) (hu:Ds W u m) (hb:base≤W.heap.size) (hd:l.length+m.length≤1000000):
  ∃x' w',(ic #[x,u]).run Tryz.prog W= .ok (.value x') w'∧aL base w' x' (l++m)∧W.grownBy w' x.ownBlock∧(x'.ownBlock=x.ownBlock∨x'.ownBlock=some W.heap.size):=by
 obtain⟨i0,hi,hz0,hz1,hz2⟩:=PU IX;obtain⟨x',w',hr,r⟩:=lX ai wK (by decide) Tryz.underlying29 hi hz0 hz1 hz2 rfl (by decide) h hu hb hd;refine⟨x',w',?_,r⟩;unfold ic;simp only[Qh,Qm,PT,hr]
structure RdV (w0:World) (B:Nat) (tv:Value) (L:List Int) (W:World) (nx:Int) (T:List Tok) (D:List Dg) (vt vd vm:Value):Prop where
 hB:w0.heap.size=B
 sl:Sl .i32 w0 tv L
 bel:Below B w0 W
 blk:Blk W B 161 [tv,.int .i64 nx,vt,vd,vm]
 tk:eD (B+1) W vt T
 dg:aL (B+1) W vd D
 mp:vm= .map none∨ ∃M,vm= .map (some M)∧B<M∧Nms W M
def Rd (w0:World) (B:Nat) (tv:Value) (L:List Int) (W:World) (nx:Int) (T:List Tok) (D:List Dg):Prop:= ∃vt vd vm,RdV w0 B tv L W nx T D vt vd vm
section
variable {w0:World} {B:Nat} {tv:Value} {L:List Int} {W:World} {nx:Int} {T:List Tok} {D:List Dg} {vt vd vm:Value}
theorem RdV.lt (h:RdV w0 B tv L W nx T D vt vd vm):B<W.heap.size:=(O5.1 h.blk).1
theorem RdV.text (h:RdV w0 B tv L W nx T D vt vd vm):Sl .i32 W tv L:=h.sl.below (by rw[h.hB];exact h.bel)
theorem RdV.keep {W':World} (h:RdV w0 B tv L W nx T D vt vd vm) (hb:Below W.heap.size W W'):RdV w0 B tv L W' nx T D vt vd vm:=by
 refine⟨h.hB,h.sl,h.bel.trans (hb.mono (Nat.le_of_lt h.lt)),h.blk.below hb,h.tk.keep hb,h.dg.keep hb,?_⟩;rcases h.mp with h0 | ⟨M,h1,h2,h3⟩
 ·exact .inl h0
 ·exact .inr ⟨M,h1,h2,h3.keep hb⟩
theorem xO {W:World} {M:Nat} (h:Nms W M) {a:Addr} (ha:a.block≠M) (u:Value):Nms (W.setCell a u) M:=World.ownsMap.setCell h (fun e=>ha e.symm) u
theorem DR {W:World} {M:Nat} (h:Nms W M) {α:Type} {e n:Nat} {f:α→List Value} {base:Nat} {x:Value} {l:List α} (ho:ag e n f base W x l):some M≠x.ownBlock:=by
 intro hx;obtain⟨es,clock,hb,-⟩:=h;obtain⟨-,cur,hc⟩:=ho.ty hx.symm;rw[hb]at hc
 cases hc
theorem RdV.set (h:RdV w0 B tv L W nx T D vt vd vm) (j:Nat) (u:Value) {nx':Int} {vt' vd' vm':Value} (hl:[tv,.int .i64 nx,vt,vd,vm].set j u=[tv,.int .i64 nx',vt',vd',vm']) {T':List Tok} {D':List Dg} (ht:eD (B+1) W vt' T') (hd:aL (B+1) W vd' D') (hm:vm'= .map none∨ ∃M,vm'= .map (some M)∧B<M∧Nms W M):
  RdV w0 B tv L (W.setCell ⟨B,j,none⟩ u) nx' T' D' vt' vd' vm':=by
 refine⟨h.hB,h.sl,h.bel.setCell (OW _) _,hl▸h.blk.set j u,Pt ht (by simp) u,Pt hd (by simp) u,?_⟩;rcases hm with h0 | ⟨M,h1,h2,h3⟩
 ·exact .inl h0
 ·exact .inr ⟨M,h1,h2,xO h3 (by simp only;omega) u⟩
theorem RdV.next (h:RdV w0 B tv L W nx T D vt vd vm) (nx':Int):RdV w0 B tv L (W.setCell ⟨B,1,none⟩ (.int .i64 nx')) nx' T D vt vd vm:=
 h.set 1 (.int .i64 nx') rfl h.tk h.dg h.mp
theorem RdV.names (h:RdV w0 B tv L W nx T D vt vd vm) {M:Nat} (hM:B<M) (hm:Nms W M):RdV w0 B tv L (W.setCell ⟨B,4,none⟩ (.map (some M))) nx T D vt vd (.map (some M)):=
 h.set 4 (.map (some M)) rfl h.tk h.dg (.inr ⟨M,rfl,hM,hm⟩)
theorem RdV.say (h:RdV w0 B tv L W nx T D vt vd vm) (k r:Int) (hT:T.length≤500000):
  ∃vt' w2,(JQ #[vt,.slice (some ⟨W.heap.size,0,none⟩) 1 1]).run Tryz.prog (W.alloc (.cells #[.int .i64 k,.int .i32 r] 113))= .ok (.value vt') w2∧w2.cell? ⟨B,2,none⟩=some vt∧w2.frozen? ⟨B,2,none⟩=false∧
   RdV w0 B tv L (w2.setCell ⟨B,2,none⟩ vt') nx (T++ [(k,r)]) D vt' vd vm:=by
 have hlt:=h.lt;have b1:=af W (.cells #[.int .i64 k,.int .i32 r] 113);have h1:=h.keep b1;have hlt1:=h1.lt;obtain⟨vt',w2,hrun,ho,hg,-⟩:=AY h1.tk (bR az W 113 [(k,r)]) (by omega) (by simp;omega);have hne:vt.ownBlock≠some B:=fun e=>by have:=(h1.tk.ty e).1;omega
 have blk2:Blk w2 B 161 [tv,.int .i64 nx,vt,vd,vm]:=(hg.block B hlt1 (fun e=>hne e.symm)).trans h1.blk;have hd2:aL (B+1) w2 vd D:=ag.apart h1.dg hg (bE h1.dg h1.tk (by decide));have hbel:Below B w0 w2:=h1.bel.grown hg (by omega) (fun j e=>by have:=(h1.tk.ty e).1;omega);refine⟨vt',w2,hrun,blk2.cell 2,blk2.frozen (by simp),?_⟩;have hm2:vm= .map none∨ ∃M,vm= .map (some M)∧B<M∧Nms w2 M:=by
  rcases h1.mp with h0 | ⟨M,e1,e2,e3⟩
  ·exact .inl h0
  ·exact .inr ⟨M,e1,e2,World.ownsMap.kept e3 hg (DR e3 h1.tk)⟩
 refine⟨h.hB,h.sl,hbel.setCell (OW _) _,blk2.set 2 vt',Pt ho (by simp) _,Pt hd2 (by simp) _,?_⟩;rcases hm2 with h0 | ⟨M,e1,e2,e3⟩
 ·exact .inl h0
 ·exact .inr ⟨M,e1,e2,xO e3 (by simp only;omega) _⟩
theorem RdV.tell (h:RdV w0 B tv L W nx T D vt vd vm) (k r:Int) (hD:D.length≤500000):
  ∃vd' w2,(ic #[vd,.slice (some ⟨W.heap.size,0,none⟩) 1 1]).run Tryz.prog (W.alloc (.cells #[.int .i64 k,.int .i64 0,.int .i64 r] 46))= .ok (.value vd') w2∧w2.cell? ⟨B,3,none⟩=some vd∧w2.frozen? ⟨B,3,none⟩=false∧
   RdV w0 B tv L (w2.setCell ⟨B,3,none⟩ vd') nx T (D++ [(k,0,r)]) vt vd' vm:=by
 have hlt:=h.lt;have b1:=af W (.cells #[.int .i64 k,.int .i64 0,.int .i64 r] 46);have h1:=h.keep b1;have hlt1:=h1.lt;obtain⟨vd',w2,hrun,ho,hg,-⟩:=gG h1.dg (bR ai W 46 [(k,0,r)]) (by omega) (by simp;omega);have hne:vd.ownBlock≠some B:=fun e=>by have:=(h1.dg.ty e).1;omega
 have blk2:Blk w2 B 161 [tv,.int .i64 nx,vt,vd,vm]:=(hg.block B hlt1 (fun e=>hne e.symm)).trans h1.blk;have ht2:eD (B+1) w2 vt T:=ag.apart h1.tk hg (bE h1.tk h1.dg (by decide));have hbel:Below B w0 w2:=h1.bel.grown hg (by omega) (fun j e=>by have:=(h1.dg.ty e).1;omega);refine⟨vd',w2,hrun,blk2.cell 3,blk2.frozen (by simp),?_⟩;have hm2:vm= .map none∨ ∃M,vm= .map (some M)∧B<M∧Nms w2 M:=by
  rcases h1.mp with h0 | ⟨M,e1,e2,e3⟩
  ·exact .inl h0
  ·exact .inr ⟨M,e1,e2,World.ownsMap.kept e3 hg (DR e3 h1.dg)⟩
 refine⟨h.hB,h.sl,hbel.setCell (OW _) _,blk2.set 3 vd',Pt ht2 (by simp) _,Pt ho (by simp) _,?_⟩;rcases hm2 with h0 | ⟨M,e1,e2,e3⟩
 ·exact .inl h0
 ·exact .inr ⟨M,e1,e2,xO e3 (by simp only;omega) _⟩
end
def gQ (w0:World) (B:Nat) (tv:Value) (L:List Int) (nx:Int) (T:List Tok) (D:List Dg) (v:Value) (e:Ending) (w':World):Prop:=e= .returned v∧Rd w0 B tv L w' nx T D
attribute [local go_sem ↓ high] bN aM
theorem pI {w0:World} {B:Nat} {tv:Value} {L:List Int} {nx:Int} {T:List Tok} {D:List Dg} (c:Int) (w:World) (h:Rd w0 B tv L w nx T D) (hT:T.length≤500000):
  Calls Tryz.prog 104 #[.pointer (some ⟨B,0,none⟩),.int .i32 c] w (gQ w0 B tv L nx (T++ [(1,c)]) D (.tuple #[])):=by
 obtain⟨vt,vd,vm,hv⟩:=h;have c2:=hv.blk.cell 2;have c2':w.cell? ⟨B,2,none⟩=some vt:=c2;obtain⟨vt',w2,k2,q2,f2,r2⟩:=hv.say 1 c hT;obtain⟨a1,n1,rfl⟩:=(ag.sl az hv.tk).len;obtain⟨a2,n2,rfl⟩:=(ag.sl az r2.tk).len;obtain⟨m,hm⟩: ∃m,(T++ [(1,c)]).length=m:=⟨_,rfl⟩;rw[hm]at k2 r2;clear hm;have R2:=zH r2;clear c2 hv r2;go_enter Tryz.func104,Tryz.ntmps104
 go_wp2_with fail
 go_end0;exact⟨rfl,_,_,_,R2.out⟩
theorem fU {w0:World} {B:Nat} {tv:Value} {L:List Int} {nx:Int} {T:List Tok} {D:List Dg} (k:Int) (p:Nat) (w:World) (h:Rd w0 B tv L w nx T D) (hD:D.length≤500000) (hp:p≤500000):
  Calls Tryz.prog 103 #[.pointer (some ⟨B,0,none⟩),.int .i64 k,.int .i64 (p:Int)] w (gQ w0 B tv L nx T (D++dgs p [k]) (.tuple #[])):=by
 obtain⟨vt,vd,vm,hv⟩:=h;have c2:=hv.blk.cell 3;have c2':w.cell? ⟨B,3,none⟩=some vd:=c2;obtain⟨vt',w2,k2,q2,f2,r2⟩:=hv.tell k ((p:Int)+1) hD;obtain⟨a1,n1,rfl⟩:=(ag.sl ai hv.dg).len;obtain⟨a2,n2,rfl⟩:=(ag.sl ai r2.dg).len;obtain⟨m,hm⟩: ∃m,(D++ [(k,0,(p:Int)+1)]).length=m:=⟨_,rfl⟩;rw[hm]at k2 r2;clear hm;have R2:=zH r2;clear c2 hv r2;go_enter Tryz.func103,Tryz.ntmps103
 go_wp2_with fail
 go_end0;exact⟨rfl,_,_,_,R2.out⟩
end
section
attribute [local go_sem ↓ high] bN aM
theorem aN (w:World) (a b:Obj):Below w.heap.size w ((w.alloc a).alloc b):=((OX _ w).alloc (OW _) _).alloc (by simp) _
theorem jP (w:World) (L:List Value) (e:TypeId) (b:Obj):Blk ((w.alloc (.cells L.toArray e)).alloc b) w.heap.size e L:=
 Blk.below (W:=w.alloc (.cells L.toArray e)) (O9 w _) (af _ _)
theorem lZ (w:World) (a:Obj) (L:List Value) (e:TypeId):Blk ((w.alloc a).alloc (.cells L.toArray e)) (w.heap.size+1) e L:=by
 have:=O9 (w.alloc a) (.cells L.toArray e);have e1:(w.alloc a).heap.size=w.heap.size+1:=by simp
 rw[e1]at this;exact this
theorem aJ {α:Type} {e n:Nat} {f:α→List Value} {base:Nat} {W:World} {x:Value} {l:List α} (h:ag e n f base W x l) {b:Nat} (hb:W.heap.size≤b):x.ownBlock≠some b:=fun e=>by
 have:=(World.ownsRow.lt h b e).2;omega
theorem dz (w:World) (a:Addr) (v:Value):(w.setCell a v).heap.size=w.heap.size:=by simp[World.setCell]
def Om (base:Nat) (w:World) (tv0 dv0:Value) (T:List Tok) (D:List Dg) (e:Ending) (w':World):Prop:=
 ∃tv dv,e= .returned (.agg #[tv,dv])∧eD base w' tv T∧aL base w' dv D∧Below base w w'∧w.heap.size≤w'.heap.size∧ ∀b,b<w.heap.size→tv0.ownBlock≠some b→dv0.ownBlock≠some b→w'.heap[b]? =w.heap[b]?
theorem mG (base:Nat) (tv dv:Value) (k r:Int) (T:List Tok) (D:List Dg) (w:World) (ht:eD base w tv T) (hd:aL base w dv D) (hb:base≤w.heap.size) (hT:T.length≤20000):
  Calls Tryz.prog 46 #[.agg #[tv,dv],.int .i64 k,.int .i32 r] w (Om base w tv dv (T++ [(k,r)]) D):=by
 have h2:eD base ((w.alloc (.cells #[tv,dv] 106)).alloc (.cells #[.slice none 0 0,.slice none 0 0] 106)) tv T:=ht.keep (aN w _ _);have d2:aL base ((w.alloc (.cells #[tv,dv] 106)).alloc (.cells #[.slice none 0 0,.slice none 0 0] 106)) dv D:=hd.keep (aN w _ _);have e1:=jP w [tv,dv] 106 (.cells #[.slice none 0 0,.slice none 0 0] 106);have e2:=lZ w (.cells #[tv,dv] 106) [.slice none 0 0,.slice none 0 0] 106;have hsz:((w.alloc (.cells #[tv,dv] 106)).alloc (.cells #[.slice none 0 0,.slice none 0 0] 106)).heap.size=w.heap.size+1+1:=by simp
 have hb2:=(aN w (.cells #[tv,dv] 106) (.cells #[.slice none 0 0,.slice none 0 0] 106)).mono hb;have ne1:tv.ownBlock≠some w.heap.size:=aJ ht (OW _);have ne2:tv.ownBlock≠some (w.heap.size+1):=aJ ht (by omega);have nd1:dv.ownBlock≠some w.heap.size:=aJ hd (OW _);have nd2:dv.ownBlock≠some (w.heap.size+1):=aJ hd (by omega);obtain⟨W2,hW2⟩: ∃W2,(w.alloc (.cells #[tv,dv] 106)).alloc (.cells #[.slice none 0 0,.slice none 0 0] 106)=W2:=⟨_,rfl⟩;have e1':Blk W2 w.heap.size 106 [tv,dv]:=hW2▸e1;have e2':Blk W2 (w.heap.size+1) 106 [.slice none 0 0,.slice none 0 0]:=hW2▸e2;rw[hW2]at h2 d2 hsz hb2;have hl:=af W2 (.cells #[.int .i64 k,.int .i32 r] 113);have h3:eD base (W2.alloc (.cells #[.int .i64 k,.int .i32 r] 113)) tv T:=h2.keep hl;obtain⟨tv',W4,hrun,ho,hg,hq⟩:=AY h3 (bR az W2 113 [(k,r)]) (by simp;omega) (by simp;omega);have d3:aL base (W2.alloc (.cells #[.int .i64 k,.int .i32 r] 113)) dv D:=d2.keep hl;have d4:aL base W4 dv D:=ag.apart d3 hg (bE d3 h3 (by decide));have b1:Blk W4 w.heap.size 106 [tv,dv]:=(hg.block _ (by simp;omega) (fun e=>ne1 e.symm)).trans (e1'.below hl);have b2:Blk W4 (w.heap.size+1) 106 [.slice none 0 0,.slice none 0 0]:=(hg.block _ (by simp;omega) (fun e=>ne2 e.symm)).trans (e2'.below hl);have hbel:Below base w W4:=(hb2.trans (hl.mono (by omega))).grown hg (by simp;omega) (fun j e=>(h3.ty e).1);have nt1:tv'.ownBlock≠some w.heap.size:=by
  rcases hq with hq | hq
  ·rw[hq];exact ne1
  ·rw[hq];simp;omega
 have nt2:tv'.ownBlock≠some (w.heap.size+1):=by
  rcases hq with hq | hq
  ·rw[hq];exact ne2
  ·rw[hq];simp;omega
 have c0:W4.cell? ⟨w.heap.size,0,none⟩=some tv:=b1.cell 0;have c1:W4.cell? ⟨w.heap.size,1,none⟩=some dv:=b1.cell 1;have f0:W4.frozen? ⟨w.heap.size,0,none⟩=false:=b1.frozen (by simp);have c2:W4.cell? ⟨w.heap.size+1,0,none⟩=some (.slice none 0 0):=b2.cell 0;have c3:W4.cell? ⟨w.heap.size+1,1,none⟩=some (.slice none 0 0):=b2.cell 1;have f2:W4.frozen? ⟨w.heap.size+1,0,none⟩=false:=b2.frozen (by simp);have f3:W4.frozen? ⟨w.heap.size+1,1,none⟩=false:=b2.frozen (by simp);obtain⟨ta,tc,rfl⟩:=(ag.sl az ht).len;obtain⟨da,dc,rfl⟩:=(ag.sl ai hd).len;obtain⟨ta',tc',hx⟩:=(ag.sl az ho).len;rw[hsz,←hW2]at hrun;have HT:Hid (eD base (((W4.setCell ⟨w.heap.size,0,none⟩ tv').setCell ⟨w.heap.size+1,0,none⟩ tv').setCell ⟨w.heap.size+1,1,none⟩ (.slice da D.length dc)) tv' (T++ [(k,r)])):=
  zH (Py (Py (Py ho nt1 _) nt2 _) nt2 _)
 have HD:Hid (aL base (((W4.setCell ⟨w.heap.size,0,none⟩ tv').setCell ⟨w.heap.size+1,0,none⟩ tv').setCell ⟨w.heap.size+1,1,none⟩ (.slice da D.length dc)) (.slice da D.length dc) D):=
  zH (Py (Py (Py d4 nd1 _) nd2 _) nd2 _)
 have HB:Hid (Below base w (((W4.setCell ⟨w.heap.size,0,none⟩ tv').setCell ⟨w.heap.size+1,0,none⟩ tv').setCell ⟨w.heap.size+1,1,none⟩ (.slice da D.length dc))):=
  zH (((hbel.setCell hb _).setCell (by simp only;omega) _).setCell (by simp only;omega) _)
 have hsz4:=hg.size;have HZ:Hid (w.heap.size≤(((W4.setCell ⟨w.heap.size,0,none⟩ tv').setCell ⟨w.heap.size+1,0,none⟩ tv').setCell ⟨w.heap.size+1,1,none⟩ (.slice da D.length dc)).heap.size):=zH (by simp only[dz];simp at hsz4;omega);have HK:Hid (∀b,b<w.heap.size→(Value.slice ta T.length tc).ownBlock≠some b→(Value.slice da D.length dc).ownBlock≠some b→(((W4.setCell ⟨w.heap.size,0,none⟩ tv').setCell ⟨w.heap.size+1,0,none⟩ tv').setCell ⟨w.heap.size+1,1,none⟩ (.slice da D.length dc)).heap[b]? =w.heap[b]?):=zH (fun b hb ht hd=>
  (((((OX (b+1) W4).setCell (by simp only;omega) _).setCell (by simp only;omega) _).setCell (by simp only;omega) _).block b (by omega)).trans ((hg.block b (by simp;omega) (fun e=>ht e.symm)).trans ((hl.block b (by omega)).trans (hW2▸(aN w _ _).block b hb))))
 obtain⟨m,hm⟩: ∃m,(T++ [(k,r)]).length=m:=⟨_,rfl⟩;rw[hm]at hx;subst hx;clear hm hsz4 hq nt1 nt2 nd1 nd2 ne1 ne2 b1 b2 e1 e2 e1' e2' h2 d2 h3 d3 d4 ho hg hbel hb2 hsz hW2 hl ht hd;have hrun':(JQ #[.slice ta T.length tc,.slice (some ⟨w.heap.size+1+1,0,none⟩) 1 1]).run Tryz.prog (((w.alloc (.cells #[.slice ta T.length tc,.slice da D.length dc] 106)).alloc (.cells #[.slice none 0 0,.slice none 0 0] 106)).alloc (.cells #[.int .i64 k,.int .i32 r] 113))= .ok (.value (.slice ta' m tc')) W4:=hrun;clear hrun;go_enter Tryz.func46,Tryz.ntmps46
 go_wp2_with fail
 exact Pq (v:= .agg #[.slice ta' m tc',.slice da D.length dc]) (by simp[results,Tryz.results46,go_sem,c2,c3]) rfl ⟨_,_,rfl,HT.out,HD.out,HB.out,HZ.out,HK.out⟩
theorem iJ (base:Nat) (tv dv:Value) (k:Int) (p:Nat) (T:List Tok) (D:List Dg) (w:World) (ht:eD base w tv T) (hd:aL base w dv D) (hb:base≤w.heap.size) (hD:D.length≤20000) (hp:p≤20000):
  Calls Tryz.prog 48 #[.agg #[tv,dv],.int .i64 k,.int .i64 (p:Int)] w (Om base w tv dv T (D++dgs p [k])):=by
 have h2:eD base ((w.alloc (.cells #[tv,dv] 106)).alloc (.cells #[.slice none 0 0,.slice none 0 0] 106)) tv T:=ht.keep (aN w _ _);have d2:aL base ((w.alloc (.cells #[tv,dv] 106)).alloc (.cells #[.slice none 0 0,.slice none 0 0] 106)) dv D:=hd.keep (aN w _ _);have e1:=jP w [tv,dv] 106 (.cells #[.slice none 0 0,.slice none 0 0] 106);have e2:=lZ w (.cells #[tv,dv] 106) [.slice none 0 0,.slice none 0 0] 106;have hsz:((w.alloc (.cells #[tv,dv] 106)).alloc (.cells #[.slice none 0 0,.slice none 0 0] 106)).heap.size=w.heap.size+1+1:=by simp
 have hb2:=(aN w (.cells #[tv,dv] 106) (.cells #[.slice none 0 0,.slice none 0 0] 106)).mono hb;have ne1:tv.ownBlock≠some w.heap.size:=aJ ht (OW _);have ne2:tv.ownBlock≠some (w.heap.size+1):=aJ ht (by omega);have nd1:dv.ownBlock≠some w.heap.size:=aJ hd (OW _);have nd2:dv.ownBlock≠some (w.heap.size+1):=aJ hd (by omega);obtain⟨W2,hW2⟩: ∃W2,(w.alloc (.cells #[tv,dv] 106)).alloc (.cells #[.slice none 0 0,.slice none 0 0] 106)=W2:=⟨_,rfl⟩;have e1':Blk W2 w.heap.size 106 [tv,dv]:=hW2▸e1;have e2':Blk W2 (w.heap.size+1) 106 [.slice none 0 0,.slice none 0 0]:=hW2▸e2;rw[hW2]at h2 d2 hsz hb2;have hl:=af W2 (.cells #[.int .i64 k,.int .i64 0,.int .i64 ((p:Int)+1)] 46);have h3:eD base (W2.alloc (.cells #[.int .i64 k,.int .i64 0,.int .i64 ((p:Int)+1)] 46)) tv T:=h2.keep hl;have d3:aL base (W2.alloc (.cells #[.int .i64 k,.int .i64 0,.int .i64 ((p:Int)+1)] 46)) dv D:=d2.keep hl;obtain⟨dv',W4,hrun,ho,hg,hq⟩:=gG d3 (bR ai W2 46 [(k,0,(p:Int)+1)]) (by simp;omega) (by simp;omega);have h4:eD base W4 tv T:=ag.apart h3 hg (bE h3 d3 (by decide));have b1:Blk W4 w.heap.size 106 [tv,dv]:=(hg.block _ (by simp;omega) (fun e=>nd1 e.symm)).trans (e1'.below hl);have b2:Blk W4 (w.heap.size+1) 106 [.slice none 0 0,.slice none 0 0]:=(hg.block _ (by simp;omega) (fun e=>nd2 e.symm)).trans (e2'.below hl);have hbel:Below base w W4:=(hb2.trans (hl.mono (by omega))).grown hg (by simp;omega) (fun j e=>(d3.ty e).1);have nt1:dv'.ownBlock≠some w.heap.size:=by
  rcases hq with hq | hq
  ·rw[hq];exact nd1
  ·rw[hq];simp;omega
 have nt2:dv'.ownBlock≠some (w.heap.size+1):=by
  rcases hq with hq | hq
  ·rw[hq];exact nd2
  ·rw[hq];simp;omega
 have c0:W4.cell? ⟨w.heap.size,0,none⟩=some tv:=b1.cell 0;have c1:W4.cell? ⟨w.heap.size,1,none⟩=some dv:=b1.cell 1;have f0:W4.frozen? ⟨w.heap.size,1,none⟩=false:=b1.frozen (by simp);have c2:W4.cell? ⟨w.heap.size+1,0,none⟩=some (.slice none 0 0):=b2.cell 0;have c3:W4.cell? ⟨w.heap.size+1,1,none⟩=some (.slice none 0 0):=b2.cell 1;have f2:W4.frozen? ⟨w.heap.size+1,0,none⟩=false:=b2.frozen (by simp);have f3:W4.frozen? ⟨w.heap.size+1,1,none⟩=false:=b2.frozen (by simp);obtain⟨ta,tc,rfl⟩:=(ag.sl az ht).len;obtain⟨da,dc,rfl⟩:=(ag.sl ai hd).len;obtain⟨ta',tc',hx⟩:=(ag.sl ai ho).len;rw[hsz,←hW2]at hrun;have HT:Hid (aL base (((W4.setCell ⟨w.heap.size,1,none⟩ dv').setCell ⟨w.heap.size+1,0,none⟩ (.slice ta T.length tc)).setCell ⟨w.heap.size+1,1,none⟩ dv') dv' (D++dgs p [k])):=
  zH (Py (Py (Py ho nt1 _) nt2 _) nt2 _)
 have HD:Hid (eD base (((W4.setCell ⟨w.heap.size,1,none⟩ dv').setCell ⟨w.heap.size+1,0,none⟩ (.slice ta T.length tc)).setCell ⟨w.heap.size+1,1,none⟩ dv') (.slice ta T.length tc) T):=
  zH (Py (Py (Py h4 ne1 _) ne2 _) ne2 _)
 have HB:Hid (Below base w (((W4.setCell ⟨w.heap.size,1,none⟩ dv').setCell ⟨w.heap.size+1,0,none⟩ (.slice ta T.length tc)).setCell ⟨w.heap.size+1,1,none⟩ dv')):=
  zH (((hbel.setCell hb _).setCell (by simp only;omega) _).setCell (by simp only;omega) _)
 have hsz4:=hg.size;have HZ:Hid (w.heap.size≤(((W4.setCell ⟨w.heap.size,1,none⟩ dv').setCell ⟨w.heap.size+1,0,none⟩ (.slice ta T.length tc)).setCell ⟨w.heap.size+1,1,none⟩ dv').heap.size):=zH (by simp only[dz];simp at hsz4;omega);have HK:Hid (∀b,b<w.heap.size→(Value.slice ta T.length tc).ownBlock≠some b→(Value.slice da D.length dc).ownBlock≠some b→(((W4.setCell ⟨w.heap.size,1,none⟩ dv').setCell ⟨w.heap.size+1,0,none⟩ (.slice ta T.length tc)).setCell ⟨w.heap.size+1,1,none⟩ dv').heap[b]? =w.heap[b]?):=zH (fun b hb ht hd=>
  (((((OX (b+1) W4).setCell (by simp only;omega) _).setCell (by simp only;omega) _).setCell (by simp only;omega) _).block b (by omega)).trans ((hg.block b (by simp;omega) (fun e=>hd e.symm)).trans ((hl.block b (by omega)).trans (hW2▸(aN w _ _).block b hb))))
 obtain⟨m,hm⟩: ∃m,(D++ [(k,0,(p:Int)+1)]).length=m:=⟨_,rfl⟩;rw[hm]at hx;subst hx;clear hm hsz4 hq nt1 nt2 nd1 nd2 ne1 ne2 b1 b2 e1 e2 e1' e2' h2 d2 h3 d3 h4 ho hg hbel hb2 hsz hW2 hl ht hd;have hrun':(ic #[.slice da D.length dc,.slice (some ⟨w.heap.size+1+1,0,none⟩) 1 1]).run Tryz.prog (((w.alloc (.cells #[.slice ta T.length tc,.slice da D.length dc] 106)).alloc (.cells #[.slice none 0 0,.slice none 0 0] 106)).alloc (.cells #[.int .i64 k,.int .i64 0,.int .i64 ((p:Int)+1)] 46))= .ok (.value (.slice ta' m tc')) W4:=hrun;clear hrun;go_enter Tryz.func48,Tryz.ntmps48
 go_wp2_with fail
 exact Pq (v:= .agg #[.slice ta T.length tc,.slice ta' m tc']) (by simp[results,Tryz.results48,go_sem,c2,c3]) rfl ⟨_,_,rfl,HD.out,HT.out,HB.out,HZ.out,HK.out⟩
end
theorem Fs.t {w:World} {a:Option Addr} {k cap:Nat} {l:List Tok} (h:Ts w (.slice a k cap) l) {j:Nat} {g:Tok} (hj:l[j]? =some g):
  ∃b off,a=some ⟨b,off,none⟩∧w.cell? ⟨b,off+j*2,none⟩=some (.int .i64 g.1)∧w.cell? ⟨b,off+j*2+1,none⟩=some (.int .i32 g.2):=by
 obtain⟨a',cap',hv,_,hr⟩:=h;injection hv with h1 h2 h3
 subst h1;obtain⟨b,off,rfl,h0⟩:=hr j g hj;exact⟨b,off,rfl,h0 0 _ rfl,h0 1 _ rfl⟩
theorem Fs.d {w:World} {a:Option Addr} {k cap:Nat} {l:List Dg} (h:Ds w (.slice a k cap) l) {j:Nat} {g:Dg} (hj:l[j]? =some g):
  ∃b off,a=some ⟨b,off,none⟩∧w.cell? ⟨b,off+j*3,none⟩=some (.int .i64 g.1)∧w.cell? ⟨b,off+j*3+1,none⟩=some (.int .i64 g.2.1)∧w.cell? ⟨b,off+j*3+2,none⟩=some (.int .i64 g.2.2):=by
 obtain⟨a',cap',hv,_,hr⟩:=h;injection hv with h1 h2 h3
 subst h1;obtain⟨b,off,rfl,h0⟩:=hr j g hj;exact⟨b,off,rfl,h0 0 _ rfl,h0 1 _ rfl,h0 2 _ rfl⟩
theorem OH (k l k' l':Int) (w:World):(Op.equalIn 10000 113 (.agg #[.int .i64 k,.int .i32 l]) (.agg #[.int .i64 k',.int .i32 l'])).run Tryz.prog w= .ok (k==k'&&l==l') w:=by
 rw[run_equalIn_agg w 9999 113 _ _ (by kernel_rfl) (by kernel_rfl)];have h3:((Tryz.prog.fieldsOf 113).toList.map fun f=>(f.name != "_",f.type,f.offset))=[(true,3,0),(true,21,1)]:=by kernel_rfl
 generalize (Tryz.prog.fieldsOf 113).toList=fs at*;rcases fs with _ | ⟨f0,_ | ⟨f1,_ | ⟨f2,fs⟩⟩⟩
 ·simp at h3
 ·simp at h3
 ·simp only[PL,Qx,List.cons.injEq,QK,and_true,bne_iff_ne,ne_eq]at h3
  obtain⟨⟨n0,t0,o0⟩,⟨n1,t1,o1⟩⟩:=h3;have e0: ∀(a b:Int) (w:World),(Op.equalIn 9999 3 (.int .i64 a) (.int .i64 b)).run Tryz.prog w= .ok (a==b) w:=fun a b w=>run_equalIn_int w 9998 3 .i64 .i64 a b Tryz.underlying3
  have e1: ∀(a b:Int) (w:World),(Op.equalIn 9999 21 (.int .i32 a) (.int .i32 b)).run Tryz.prog w= .ok (a==b) w:=fun a b w=>run_equalIn_int w 9998 21 .i32 .i32 a b Tryz.underlying21
  simp[go_sem,Op.eqFields,n0,n1,t0,t1,o0,o1,e0,e1]
  by_cases a1:k=k'<;>by_cases a2:l=l'<;>simp[a1,a2]
 ·simp at h3
theorem Iq (k l k' l':Int) (w:World):(binOp .neq 113 (.agg #[.int .i64 k,.int .i32 l]) (.agg #[.int .i64 k',.int .i32 l'])).run Tryz.prog w= .ok (.bool (!(k==k'&&l==l'))) w:=by
 rw[run_neq_struct,OH];rfl
theorem MU {x y:Tok} (h:x≠y) (w:World):(binOp .neq 113 (.agg #[.int .i64 x.1,.int .i32 x.2]) (.agg #[.int .i64 y.1,.int .i32 y.2])).run Tryz.prog w= .ok (.bool true) w:=by
 rw[Iq];have:(x.1==y.1&&x.2==y.2)=false:=by
  rw[Bool.eq_false_iff];intro e;simp only[PI,QB]at e;exact h (Prod.ext e.1 e.2)
 rw[this];rfl
theorem eqD (k l m k' l' m':Int) (w:World):(Op.equalIn 10000 46 (.agg #[.int .i64 k,.int .i64 l,.int .i64 m]) (.agg #[.int .i64 k',.int .i64 l',.int .i64 m'])).run Tryz.prog w= .ok (k==k'&&l==l'&&m==m') w:=by
 rw[run_equalIn_agg w 9999 46 _ _ (by kernel_rfl) (by kernel_rfl)];have h3:((Tryz.prog.fieldsOf 46).toList.map fun f=>(f.name != "_",f.type,f.offset))=[(true,3,0),(true,3,1),(true,3,2)]:=by kernel_rfl
 generalize (Tryz.prog.fieldsOf 46).toList=fs at*;rcases fs with _ | ⟨f0,_ | ⟨f1,_ | ⟨f2,_ | ⟨f3,fs⟩⟩⟩⟩
 ·simp at h3
 ·simp at h3
 ·simp at h3
 ·simp only[PL,Qx,List.cons.injEq,QK,and_true,bne_iff_ne,ne_eq]at h3
  obtain⟨⟨n0,t0,o0⟩,⟨n1,t1,o1⟩,⟨n2,t2,o2⟩⟩:=h3;have e0: ∀(a b:Int) (w:World),(Op.equalIn 9999 3 (.int .i64 a) (.int .i64 b)).run Tryz.prog w= .ok (a==b) w:=fun a b w=>run_equalIn_int w 9998 3 .i64 .i64 a b Tryz.underlying3
  simp[go_sem,Op.eqFields,n0,n1,n2,t0,t1,t2,o0,o1,o2,e0]
  by_cases a1:k=k'<;>by_cases a2:l=l'<;>by_cases a3:m=m'<;>simp[a1,a2,a3]
 ·simp at h3
theorem zW (k l m k' l' m':Int) (w:World):(binOp .neq 46 (.agg #[.int .i64 k,.int .i64 l,.int .i64 m]) (.agg #[.int .i64 k',.int .i64 l',.int .i64 m'])).run Tryz.prog w= .ok (.bool (!(k==k'&&l==l'&&m==m'))) w:=by
 rw[run_neq_struct,eqD];rfl
theorem Fg (k l m:Int) (w:World):(binOp .neq 46 (.agg #[.int .i64 k,.int .i64 l,.int .i64 m]) (.agg #[.int .i64 k,.int .i64 l,.int .i64 m])).run Tryz.prog w= .ok (.bool false) w:=by
 rw[zW];simp
theorem BZ {x y:Dg} (h:x≠y) (w:World):(binOp .neq 46 (.agg #[.int .i64 x.1,.int .i64 x.2.1,.int .i64 x.2.2]) (.agg #[.int .i64 y.1,.int .i64 y.2.1,.int .i64 y.2.2])).run Tryz.prog w= .ok (.bool true) w:=by
 rw[zW];have:(x.1==y.1&&x.2.1==y.2.1&&x.2.2==y.2.2)=false:=by
  rw[Bool.eq_false_iff];intro e;simp only[PI,QB]at e;exact h (Prod.ext e.1.1 (Prod.ext e.1.2 e.2))
 rw[this];rfl
theorem BN (a b:List Dg) (v u:Value) (w:World) (hv:Ds w v a) (hu:Ds w u b) (hl:a.length≤200000) (hl':b.length≤200000):
  Calls Tryz.prog 20 #[v,u] w fun e w'=>e= .returned (.bool (decide (a=b)))∧Below w.heap.size w w':=by
 have HV:=zH hv;have HU:=zH hu;obtain⟨aa,ca,rfl,-,-⟩:=hv;obtain⟨ab,cb,rfl,-,-⟩:=hu
 by_cases hlen:a.length=b.length
 ·have HLen:=zH hlen
  have hne:((a.length:Int) != (b.length:Int))=false:=by simp[hlen]
  clear hlen;go_enter Tryz.func20,Tryz.ntmps20
  go_wp2_with fail
  go_loopw [5] (fun i wr=> ∃j:Nat,j≤a.length∧i= .int .i64 j∧a.take j=b.take j∧Below w.heap.size w wr) (fun i _=>a.length-(intOf i).toNat)
  case atStart=>exact⟨0,by omega,rfl,rfl,OX _ _⟩
  case round=>
   obtain⟨j,hj,rfl,hs,hbw⟩:=hrel;have HS:=zH hs;clear hs
   by_cases hlt:j<a.length
   ·obtain⟨x,hx⟩: ∃x,a[j]? =some x:=⟨a[j],OU hlt⟩
    obtain⟨y,hy⟩: ∃y,b[j]? =some y:=⟨b[j]'(by have:=HLen.out;omega),OU _⟩;obtain⟨g,off,rfl,c0,c1,c2⟩:=Fs.d (Fs.below HV.out hbw) hx;obtain⟨g',off',rfl,c0',c1',c2'⟩:=Fs.d (Fs.below HU.out hbw) hy;have hi0:(j:Int)<(a.length:Int):=by omega
    have hi2:(j:Int)<(b.length:Int):=by have:=HLen.out;omega
    have hi1:(0:Int)≤(j:Int):=by omega
    by_cases hxy:x=y
    ·subst hxy
     have HT:=zH (take_same HS.out hx hy);have hq:=Fg;clear hx hy;go_wp2_with fail
     go_quiet (fail)
     go_wp2
     go_roundw
     case rel=>exact⟨j+1,by omega,by go_num,HT.out,below_drewN hbw _⟩
     case measure=>simp[intOf];omega
    ·have HT:=zH (Px (oL hx hy hxy))
     have hq:=BZ hxy;clear hx hy hxy;go_wp2_with fail
     go_quiet (fail)
     go_wp2
     go_ret;exact⟨aF HT.out.symm,below_drewN hbw _⟩
   ·obtain rfl:j=a.length:=by omega
    have hs:a=b:=by
     have h:=HS.out;rw[PG,HLen.out,PG]at h;exact h
    have HT:=zH (Qg hs);clear hs;go_wp2_with fail
    go_ret;exact⟨aF HT.out.symm,hbw⟩
 ·have hne:((a.length:Int) != (b.length:Int))=true:=by simp;omega
  have HT:=zH (Px (show¬a=b from fun h=>hlen (by rw[h])));clear hlen;go_enter Tryz.func20,Tryz.ntmps20
  go_wp2_with fail
  go_ret;exact⟨aF HT.out.symm,OX _ _⟩
abbrev Fce:=Int×Int
def fv (f:Fce):Value:= .agg #[.int .u8 f.1,.int .u8 f.2]
def iQ (f:Fce) (n:Int):Fce:=if n=4 then(f.2,f.1) else if 0≤n∧n≤3 then(n,f.1) else f
def gX (s:List Gly×Fce) (t:Tok):List Gly×Fce:=
 if t.1=1 then(s.1++ [(t.2,s.2.1)],s.2) else if t.1=2 then(s.1++ [(32,0)],s.2) else if t.1=3 then(s.1,iQ s.2 t.2) else s
def fO (f:Fce) (l:List Tok):List Gly×Fce:=l.foldl gX ([],f)
theorem wE {f:Fce} {l:List Tok} {j:Nat} {t:Tok} (h:l[j]? =some t):fO f (l.take (j+1))=gX (fO f (l.take j)) t:=by
 unfold fO;rw[PD,h,Q6];rfl
theorem F6 (s:List Gly×Fce) (t:Tok):(gX s t).1.length≤s.1.length+1:=by
 unfold gX
 split
 ·simp
 ·split
  ·simp
  ·split<;>simp
theorem wF: ∀(l:List Tok) (s:List Gly×Fce),(l.foldl gX s).1.length≤s.1.length+l.length
 | [],s=>by simp
 | t::l,s=>by
  have:=wF l (gX s t);have:=F6 s t;simp only[Re,Pe];omega
theorem pg (f:Fce) (l:List Tok):(fO f l).1.length≤l.length:=by
 have:=wF l ([],f)
 simpa[fO] using this
theorem uy (a b:Int):iQ (a,b) 4=(b,a):=by simp[iQ]
theorem gL (a b:Int) (n:Int) (h0:0≤n) (h1:n≤3):iQ (a,b) n=(n,a):=by unfold iQ;rw[Pd (by omega),Pk ⟨h0,h1⟩]
theorem kK (f:Fce) (n:Int) (h:n<0∨4<n):iQ f n=f:=by unfold iQ;rw[Pd (by omega),Pd (by omega)]
theorem vO (n:Int):n=0∨n=1∨n=2∨n=3∨n=4∨n<0∨4<n:=by omega
theorem G5 (a b n:Int) (w:World):
  Calls Tryz.prog 105 #[.agg #[.int .u8 a,.int .u8 b],.int .i32 n] w fun e w'=>e= .returned (.agg #[.int .u8 (iQ (a,b) n).1,.int .u8 (iQ (a,b) n).2])∧Below w.heap.size w w':=by
 obtain⟨p,q,hpq⟩: ∃p q,iQ (a,b) n=(p,q):=⟨_,_,rfl⟩;rw[hpq];rcases vO n with rfl | rfl | rfl | rfl | rfl | h | h
 ·rw[gL a b 0 (by omega) (by omega)]at hpq
  obtain⟨rfl,rfl⟩:=QC hpq;clear hpq;go_enter Tryz.func105,Tryz.ntmps105
  go_wp2_with fail
  exact Pq (v:= .agg #[_,_]) (by simp[results,Tryz.results105,go_sem]) rfl ⟨rfl,aN w _ _⟩
 ·rw[gL a b 1 (by omega) (by omega)]at hpq
  obtain⟨rfl,rfl⟩:=QC hpq;clear hpq;go_enter Tryz.func105,Tryz.ntmps105
  go_wp2_with fail
  exact Pq (v:= .agg #[_,_]) (by simp[results,Tryz.results105,go_sem]) rfl ⟨rfl,aN w _ _⟩
 ·rw[gL a b 2 (by omega) (by omega)]at hpq
  obtain⟨rfl,rfl⟩:=QC hpq;clear hpq;go_enter Tryz.func105,Tryz.ntmps105
  go_wp2_with fail
  exact Pq (v:= .agg #[_,_]) (by simp[results,Tryz.results105,go_sem]) rfl ⟨rfl,aN w _ _⟩
 ·rw[gL a b 3 (by omega) (by omega)]at hpq
  obtain⟨rfl,rfl⟩:=QC hpq;clear hpq;go_enter Tryz.func105,Tryz.ntmps105
  go_wp2_with fail
  exact Pq (v:= .agg #[_,_]) (by simp[results,Tryz.results105,go_sem]) rfl ⟨rfl,aN w _ _⟩
 ·rw[uy a b]at hpq
  obtain⟨rfl,rfl⟩:=QC hpq;clear hpq;go_enter Tryz.func105,Tryz.ntmps105
  go_wp2_with fail
  exact Pq (v:= .agg #[_,_]) (by simp[results,Tryz.results105,go_sem]) rfl ⟨rfl,aN w _ _⟩
 ·rw[kK (a,b) n (.inl h)]at hpq
  obtain⟨rfl,rfl⟩:=QC hpq;have x0: ¬n=0:=by omega
  have x1: ¬n=1:=by omega
  have x2: ¬n=2:=by omega
  have x3: ¬n=3:=by omega
  have x4: ¬n=4:=by omega
  have x5: ¬4<n:=by omega
  clear hpq;go_enter Tryz.func105,Tryz.ntmps105
  go_wp2_with fail
  exact Pq (v:= .agg #[_,_]) (by simp[results,Tryz.results105,go_sem]) rfl ⟨rfl,aN w _ _⟩
 ·rw[kK (a,b) n (.inr h)]at hpq
  obtain⟨rfl,rfl⟩:=QC hpq;have x0: ¬n=0:=by omega
  have x1: ¬n=1:=by omega
  have x2: ¬n=2:=by omega
  have x3: ¬n=3:=by omega
  have x4: ¬n=4:=by omega
  have x5: ¬n<0:=by omega
  clear hpq;go_enter Tryz.func105,Tryz.ntmps105
  go_wp2_with fail
  exact Pq (v:= .agg #[_,_]) (by simp[results,Tryz.results105,go_sem]) rfl ⟨rfl,aN w _ _⟩
theorem EL (a b n:Int) (w:World):
  Calls Tryz.prog 49 #[.agg #[.int .u8 a,.int .u8 b],.int .i32 n] w fun e w'=>e= .returned (.agg #[.int .u8 (iQ (a,b) n).1,.int .u8 (iQ (a,b) n).2])∧Below w.heap.size w w':=by
 obtain⟨p,q,hpq⟩: ∃p q,iQ (a,b) n=(p,q):=⟨_,_,rfl⟩;rw[hpq];rcases vO n with rfl | rfl | rfl | rfl | rfl | h | h
 ·rw[gL a b 0 (by omega) (by omega)]at hpq
  obtain⟨rfl,rfl⟩:=QC hpq;clear hpq;go_enter Tryz.func49,Tryz.ntmps49
  go_wp2_with fail
  exact Pq (v:= .agg #[_,_]) (by simp[results,Tryz.results49,go_sem]) rfl ⟨rfl,aN w _ _⟩
 ·rw[gL a b 1 (by omega) (by omega)]at hpq
  obtain⟨rfl,rfl⟩:=QC hpq;clear hpq;go_enter Tryz.func49,Tryz.ntmps49
  go_wp2_with fail
  exact Pq (v:= .agg #[_,_]) (by simp[results,Tryz.results49,go_sem]) rfl ⟨rfl,aN w _ _⟩
 ·rw[gL a b 2 (by omega) (by omega)]at hpq
  obtain⟨rfl,rfl⟩:=QC hpq;clear hpq;go_enter Tryz.func49,Tryz.ntmps49
  go_wp2_with fail
  exact Pq (v:= .agg #[_,_]) (by simp[results,Tryz.results49,go_sem]) rfl ⟨rfl,aN w _ _⟩
 ·rw[gL a b 3 (by omega) (by omega)]at hpq
  obtain⟨rfl,rfl⟩:=QC hpq;clear hpq;go_enter Tryz.func49,Tryz.ntmps49
  go_wp2_with fail
  exact Pq (v:= .agg #[_,_]) (by simp[results,Tryz.results49,go_sem]) rfl ⟨rfl,aN w _ _⟩
 ·rw[uy a b]at hpq
  obtain⟨rfl,rfl⟩:=QC hpq;clear hpq;go_enter Tryz.func49,Tryz.ntmps49
  go_wp2_with fail
  exact Pq (v:= .agg #[_,_]) (by simp[results,Tryz.results49,go_sem]) rfl ⟨rfl,aN w _ _⟩
 ·rw[kK (a,b) n (.inl h)]at hpq
  obtain⟨rfl,rfl⟩:=QC hpq;have x0: ¬n=0:=by omega
  have x1: ¬n=1:=by omega
  have x2: ¬n=2:=by omega
  have x3: ¬n=3:=by omega
  have x4: ¬n=4:=by omega
  have x5: ¬4<n:=by omega
  clear hpq;go_enter Tryz.func49,Tryz.ntmps49
  go_wp2_with fail
  exact Pq (v:= .agg #[_,_]) (by simp[results,Tryz.results49,go_sem]) rfl ⟨rfl,aN w _ _⟩
 ·rw[kK (a,b) n (.inr h)]at hpq
  obtain⟨rfl,rfl⟩:=QC hpq;have x0: ¬n=0:=by omega
  have x1: ¬n=1:=by omega
  have x2: ¬n=2:=by omega
  have x3: ¬n=3:=by omega
  have x4: ¬n=4:=by omega
  have x5: ¬n<0:=by omega
  clear hpq;go_enter Tryz.func49,Tryz.ntmps49
  go_wp2_with fail
  exact Pq (v:= .agg #[_,_]) (by simp[results,Tryz.results49,go_sem]) rfl ⟨rfl,aN w _ _⟩
section
attribute [local go_sem ↓ high] cO
structure fw (w:World) (s:Value) (c:List Gly×Fce) (W:World):Prop where
 b0:Blk W w.heap.size 28 [.int .u8 c.2.1,.int .u8 c.2.2]
 b1:Blk W (w.heap.size+1) 28 [.int .u8 0,.int .u8 0]
 s:aI (w.heap.size+2) W s c.1
 bel:Below w.heap.size w W
section
variable {w W:World} {s:Value} {c:List Gly×Fce}
theorem fw.big (h:fw w s c W):w.heap.size+1<W.heap.size:=(O5.1 h.b1).1
theorem fw.keep {W':World} (h:fw w s c W) (hb:Below W.heap.size W W'):fw w s c W':=
 ⟨h.b0.below hb,h.b1.below hb,h.s.keep hb,h.bel.trans (hb.mono h.bel.size)⟩
theorem fw.app (h:fw w s c W) (r n:Int) (hl:c.1.length≤500000):
  ∃s' W',(appG #[s,.slice (some ⟨W.heap.size,0,none⟩) 1 1]).run Tryz.prog (W.alloc (.cells #[.int .i32 r,.int .u8 n] 35))= .ok (.value s') W'∧fw w s' (c.1++ [(r,n)],c.2) W':=by
 have hl1:=af W (.cells #[.int .i32 r,.int .u8 n] 35);have hbig:=h.big;have h1:=h.keep hl1;obtain⟨s',W',hrun,ho,hg,-⟩:=cB h1.s (bR ah W 35 [(r,n)]) (by simp;omega) (by simp;omega);have n0:s.ownBlock≠some w.heap.size:=fun e=>by have:=(h1.s.ty e).1;omega
 have n1:s.ownBlock≠some (w.heap.size+1):=fun e=>by have:=(h1.s.ty e).1;omega
 exact⟨s',W',hrun,(hg.block _ (by simp;omega) (fun e=>n0 e.symm)).trans h1.b0,(hg.block _ (by simp;omega) (fun e=>n1 e.symm)).trans h1.b1,ho,h1.bel.grown hg (by simp;omega) (fun j e=>by have:=(h1.s.ty e).1;omega)⟩
theorem fw.turn (h:fw w s c W) (a b:Int):fw w s (c.1,(a,b)) ((W.setCell ⟨w.heap.size,0,none⟩ (.int .u8 a)).setCell ⟨w.heap.size,1,none⟩ (.int .u8 b)):=
 ⟨by have:=(h.b0.set 0 (.int .u8 a)).set 1 (.int .u8 b);simpa using this,
  (O8 _ _ _ _ (by simp)).trans ((O8 _ _ _ _ (by simp)).trans h.b1),Pt (Pt h.s (by simp) _) (by simp) _,(h.bel.setCell (by simp) _).setCell (by simp) _⟩
theorem fw.fin (h:fw w s c W) (a b:Value):aI w.heap.size ((W.setCell ⟨w.heap.size+1,0,none⟩ a).setCell ⟨w.heap.size+1,1,none⟩ b).drew s c.1∧Below w.heap.size w ((W.setCell ⟨w.heap.size+1,0,none⟩ a).setCell ⟨w.heap.size+1,1,none⟩ b).drew∧Blk ((W.setCell ⟨w.heap.size+1,0,none⟩ a).setCell ⟨w.heap.size+1,1,none⟩ b).drew (w.heap.size+1) 28 [a,b]:=by
 have h2:aI (w.heap.size+2) ((W.setCell ⟨w.heap.size+1,0,none⟩ a).setCell ⟨w.heap.size+1,1,none⟩ b) s c.1:=Pt (Pt h.s (by simp) _) (by simp) _;refine⟨ag.mono (h2.keep (OX _ _).drew) (by omega),((h.bel.setCell (by simp) _).setCell (by simp) _).drew,?_⟩;have h3:Blk ((W.setCell ⟨w.heap.size+1,0,none⟩ a).setCell ⟨w.heap.size+1,1,none⟩ b) (w.heap.size+1) 28 [a,b]:=by
  have:=(h.b1.set 0 a).set 1 b
  simpa using this
 exact h3.below (OX _ _).drew
theorem fw.start (w:World) (a b:Int):fw w (.slice none 0 0) ([],(a,b)) ((w.alloc (.cells #[.int .u8 a,.int .u8 b] 28)).alloc (.cells #[.int .u8 0,.int .u8 0] 28)):=
 ⟨jP w [.int .u8 a,.int .u8 b] _ _,lZ w _ [.int .u8 0,.int .u8 0] _,ag.nil _ _,aN w _ _⟩
end
def LW (w:World) (c:List Gly×Fce) (e:Ending) (w':World):Prop:=
 ∃x,e= .returned (.tuple #[x,.agg #[.int .u8 c.2.1,.int .u8 c.2.2]])∧aI w.heap.size w' x c.1∧Below w.heap.size w w'
theorem Kv (p q:Int) (l:List Tok) (v:Value) (w:World) (hv:Ts w v l) (hl:l.length≤100000):
  Calls Tryz.prog 67 #[.agg #[.int .u8 p,.int .u8 q],v] w (LW w (fO (p,q) l)):=by
 have HV:=zH hv;obtain⟨a,cap,rfl⟩:=hv.len;clear hv;go_enter Tryz.func67,Tryz.ntmps67
 go_wp2_with fail
 go_loopw [6,11] (fun s i wr=> ∃j:Nat,j≤l.length∧i= .int .i64 j∧fw w s (fO (p,q) (l.take j)) wr) (fun _ i _=>l.length-(intOf i).toNat)
 case atStart=>exact⟨0,by omega,rfl,fw.start w p q⟩
 case round=>
  obtain⟨j,hj,rfl,hR⟩:=hrel;have HL:Hid ((fO (p,q) (l.take j)).1.length≤100000):=zH (by have:=pg (p,q) (l.take j);simp only[Pg]at this;omega);obtain⟨⟨X,A,B⟩,hS⟩: ∃S,fO (p,q) (l.take j)=S:=⟨_,rfl⟩;rw[hS]at hR HL;have HR:=zH hR
  by_cases hlt:j<l.length
  ·obtain⟨⟨k,r⟩,hz⟩: ∃z,l[j]? =some z:=⟨l[j],OU hlt⟩
   obtain⟨g,off,rfl,z0,z1⟩:=Fs.t (Fs.below HV.out hR.bel) hz;have HN:=zH (wE (f:=(p,q)) hz);rw[hS]at HN;have hi0:(j:Int)<(l.length:Int):=by omega
   have hi1:(0:Int)≤(j:Int):=by omega
   have bl:=af wr (.cells #[.int .i64 k,.int .i32 r] 113);have hR1:=hR.keep bl;have c0:(wr.alloc (.cells #[.int .i64 k,.int .i32 r] 113)).cell? ⟨w.heap.size,0,none⟩=some (.int .u8 A):=hR1.b0.cell 0;have c1:(wr.alloc (.cells #[.int .i64 k,.int .i32 r] 113)).cell? ⟨w.heap.size,1,none⟩=some (.int .u8 B):=hR1.b0.cell 1;have f0:(wr.alloc (.cells #[.int .i64 k,.int .i32 r] 113)).frozen? ⟨w.heap.size,0,none⟩=false:=hR1.b0.frozen (by simp);have f1:(wr.alloc (.cells #[.int .i64 k,.int .i32 r] 113)).frozen? ⟨w.heap.size,1,none⟩=false:=hR1.b0.frozen (by simp);obtain⟨sa,sc,hs⟩:=(ag.sl ah hR.s).len;change _=Value.slice sa X.length sc at hs;obtain⟨xl,hxl⟩: ∃xl,X.length=xl:=⟨_,rfl⟩;rw[hxl]at hs;subst hs;have R1:=zH hR1;clear HR hR hR1 hS bl hz
   by_cases k1:k=1
   ·subst k1
    obtain⟨s',W',hrun,hR2⟩:=R1.out.app r A (by have:=HL.out;simp only at this ⊢;omega);have R2:Hid (fw w s' (gX (X,A,B) (1,r)) W'):=zH hR2;rw[←HN.out]at R2;have hrun':(appG #[.slice sa xl sc,.slice (some ⟨wr.heap.size+1,0,none⟩) 1 1]).run Tryz.prog ((wr.alloc (.cells #[.int .i64 1,.int .i32 r] 113)).alloc (.cells #[.int .i32 r,.int .u8 A] 35))= .ok (.value s') W':=by simpa using hrun
    obtain⟨sa',sc',hs'⟩:=(ag.sl ah hR2.s).len;obtain⟨xl',hxl'⟩: ∃xl',(X++ [(r,A)]).length=xl':=⟨_,rfl⟩;simp only at hs';rw[hxl']at hs';subst hs';clear hrun hR2 hxl' HN hxl;go_wp2_with fail
    go_roundw
    case rel=>exact⟨j+1,by omega,by go_num,R2.out⟩
    case measure=>(simp[intOf];try omega)
   ·by_cases k2:k=2
    ·subst k2
     obtain⟨s',W',hrun,hR2⟩:=R1.out.app 32 0 (by have:=HL.out;simp only at this ⊢;omega);have R2:Hid (fw w s' (gX (X,A,B) (2,r)) W'):=zH hR2;rw[←HN.out]at R2;have hrun':(appG #[.slice sa xl sc,.slice (some ⟨wr.heap.size+1,0,none⟩) 1 1]).run Tryz.prog ((wr.alloc (.cells #[.int .i64 2,.int .i32 r] 113)).alloc (.cells #[.int .i32 32,.int .u8 0] 35))= .ok (.value s') W':=by simpa using hrun
     obtain⟨sa',sc',hs'⟩:=(ag.sl ah hR2.s).len;obtain⟨xl',hxl'⟩: ∃xl',(X++ [((32:Int),(0:Int))]).length=xl':=⟨_,rfl⟩;simp only at hs';rw[hxl']at hs';subst hs';clear hrun hR2 hxl' HN hxl;go_wp2_with fail
     go_roundw
     case rel=>exact⟨j+1,by omega,by go_num,R2.out⟩
     case measure=>(simp[intOf];try omega)
    ·by_cases k3:k=3
     ·subst k3
      have HT:=zH (G5 A B r (wr.alloc (.cells #[.int .i64 3,.int .i32 r] 113)));obtain⟨⟨A',B'⟩,hF⟩: ∃F,iQ (A,B) r=F:=⟨_,rfl⟩;have HG:Hid (fO (p,q) (l.take (j+1))=(X,(A',B'))):=zH (by rw[HN.out];simp[gX,hF]);rw[hF]at HT;clear hF HN hxl k1 k2;go_wp2_with fail
      refine HT.out.mono ?_;rintro e w2 ⟨rfl,b2⟩;have hR2:=R1.out.keep b2;have R3:=zH (hR2.turn A' B');have g0:w2.cell? ⟨w.heap.size,0,none⟩=some (.int .u8 A):=hR2.b0.cell 0;have g1:w2.cell? ⟨w.heap.size,1,none⟩=some (.int .u8 B):=hR2.b0.cell 1;have e0:w2.frozen? ⟨w.heap.size,0,none⟩=false:=hR2.b0.frozen (by simp);have e1:w2.frozen? ⟨w.heap.size,1,none⟩=false:=hR2.b0.frozen (by simp);clear hR2 b2 HT c0 c1 f0 f1;go_wp2_with fail
      go_roundw
      case rel=>exact⟨j+1,by omega,by go_num,by rw[HG.out];exact R3.out⟩
      case measure=>(simp[intOf];try omega)
     ·have R2:Hid (fw w (.slice sa xl sc) (gX (X,A,B) (k,r)) (wr.alloc (.cells #[.int .i64 k,.int .i32 r] 113))):=zH (by simp only[gX,Pd k1,Pd k2,Pd k3];exact R1.out)
      rw[←HN.out]at R2;clear HN hxl;go_wp2_with fail
      go_roundw
      case rel=>exact⟨j+1,by omega,by go_num,R2.out⟩
      case measure=>(simp[intOf];try omega)
  ·obtain rfl:j=l.length:=by omega
   have c0:wr.cell? ⟨w.heap.size,0,none⟩=some (.int .u8 A):=hR.b0.cell 0;have c1:wr.cell? ⟨w.heap.size,1,none⟩=some (.int .u8 B):=hR.b0.cell 1;have d0:wr.cell? ⟨w.heap.size+1,0,none⟩=some (.int .u8 0):=hR.b1.cell 0;have d1:wr.cell? ⟨w.heap.size+1,1,none⟩=some (.int .u8 0):=hR.b1.cell 1;have f0:wr.frozen? ⟨w.heap.size+1,0,none⟩=false:=hR.b1.frozen (by simp);have f1:wr.frozen? ⟨w.heap.size+1,1,none⟩=false:=hR.b1.frozen (by simp);obtain⟨sa,sc,hs⟩:=(ag.sl ah hR.s).len;change _=Value.slice sa X.length sc at hs;obtain⟨xl,hxl⟩: ∃xl,X.length=xl:=⟨_,rfl⟩;rw[hxl]at hs;subst hs;rw[PG]at hS;have HS:=zH hS;obtain⟨o1,o2,o3⟩:=hR.fin (.int .u8 A) (.int .u8 B);have HO:=zH o1;have HBl:=zH o2;have HBK:=zH o3;clear o1 o2 o3;clear hR hS hxl;go_wp2_with fail
   go_region
   go_wp2_with fail
   have k0:=HBK.out.cell 0;have k1:=HBK.out.cell 1;simp at k0 k1;exact Pq (v:= .tuple #[.slice sa xl sc,.agg #[.int .u8 A,.int .u8 B]]) (by simp[results,Tryz.results67,go_sem,k0,k1]) rfl (by rw[HS.out];exact⟨_,rfl,HO.out,HBl.out⟩)
end
theorem IW:(Tryz.prog.info? 21).map (fun i=>(i.zero,i.size,i.bytes))=some (some (.int .i32 0),1,4):=by kernel_rfl
theorem Sl.len {k:IntKind} {w:World} {v:Value} {l:List Int} (h:Sl k w v l): ∃a cap,v= .slice a l.length cap:=by
 obtain⟨a,cap,rfl,_⟩:=h;exact⟨a,cap,rfl⟩
theorem Sl.at {k:IntKind} {w:World} {a:Option Addr} {m cap:Nat} {l:List Int} (h:Sl k w (.slice a m cap) l) {j:Nat} {z:Int} (hj:l[j]? =some z): ∃g off,a=some ⟨g,off,none⟩∧w.cell? ⟨g,off+j,none⟩=some (.int k z):=by
 obtain⟨a',cap',hv,_,hr⟩:=h;injection hv with h1 h2 h3
 subst h1;exact hr j z hj
noncomputable def JF (x lo:Value):Sem Value:=Instr.slice 102 x (some lo) none none
theorem zl (x lo:Value):Instr.slice 102 x (some lo) none none=JF x lo:=rfl
noncomputable def xX (x lo hi:Value):Sem Value:=Instr.slice 102 x (some lo) (some hi) none
theorem sj (x lo hi:Value):Instr.slice 102 x (some lo) (some hi) none=xX x lo hi:=rfl
theorem wQ {w:World} {v:Value} {l:List Int} (h:Sl .i32 w v l) (q:Nat) (hq:q≤l.length):
  ∃u,(∀W:World,(JF v (.int .i64 (q:Int))).run Tryz.prog W= .ok u W)∧Sl .i32 w u (l.drop q):=by
 obtain⟨i0,hi,hz0,hz1,hz2⟩:=PU IW;obtain⟨a,cap,rfl,hc,hr⟩:=h;refine⟨.slice (if cap=q then a else a.map (·.add q)) (l.length-q) (cap-q),fun W=>?_,?_⟩
 ·have h1:q≤cap:=by omega
  unfold JF;simp[Instr.slice,Instr.sliceBounds,Instr.sliceBound,asIntOf,PZ Tryz.underlying102,h1,hq,sizeOf,typeInfo,hi,hz1]
 ·have hl:(l.drop q).length=l.length-q:=by rw[Pi]
  refine⟨_,_,by rw[hl],by rw[hl];omega,fun j x hj=>?_⟩;have hj1:j<l.length-q:=by
   have:=(OV.1 hj).1;omega
  rw[Qn]at hj;obtain⟨g,off,rfl,h0⟩:=hr (q+j) x hj;rw[Pd (by omega)];refine⟨g,off+q,?_,?_⟩
  ·simp only[QY,Qi]
   rw[Qo]
  ·rw[show off+q+j=off+(q+j) by omega]
   exact h0
theorem Ac {w:World} {v:Value} {l:List Int} (h:Sl .i32 w v l) (q k:Nat) (hq:q≤k) (hk:k≤l.length):
  ∃u,(∀W:World,(xX v (.int .i64 (q:Int)) (.int .i64 (k:Int))).run Tryz.prog W= .ok u W)∧Sl .i32 w u ((l.take k).drop q):=by
 obtain⟨i0,hi,hz0,hz1,hz2⟩:=PU IW;obtain⟨a,cap,rfl,hc,hr⟩:=h;refine⟨.slice (if cap=q then a else a.map (·.add q)) (k-q) (cap-q),fun W=>?_,?_⟩
 ·have h1:k≤cap:=by omega
  unfold xX;simp[Instr.slice,Instr.sliceBounds,Instr.sliceBound,asIntOf,PZ Tryz.underlying102,h1,hq,sizeOf,typeInfo,hi,hz1]
 ·have hl:((l.take k).drop q).length=k-q:=by rw[Pi,Pg];omega
  refine⟨_,_,by rw[hl],by rw[hl];omega,fun j x hj=>?_⟩;have hj1:j<k-q:=by
   have:=(OV.1 hj).1;omega
  rw[Qn,QX (by omega)]at hj;obtain⟨g,off,rfl,h0⟩:=hr (q+j) x hj;rw[Pd (by omega)];refine⟨g,off+q,?_,?_⟩
  ·simp only[QY,Qi]
   rw[Qo]
  ·rw[show off+q+j=off+(q+j) by omega]
   exact h0
def ixI (p:Nat) (o:Option Nat):Int:=match o with
 | some k=>(k+p:Nat)
 | none=> -1
theorem mO (c:Int) (r:List Int):ix (c::r)=if c=93 then some 0 else(ix r).map (· +1):=rfl
theorem IU {l:List Int} {j:Nat} (h:l[j]? =some 93):ix (l.drop j)=some 0:=by rw[iG h,mO,Pk rfl]
theorem D6 {l:List Int} {j:Nat} {z:Int} (h:l[j]? =some z) (hz:z≠93):ix (l.drop j)=(ix (l.drop (j+1))).map (· +1):=by rw[iG h,mO,Pd hz]
theorem Am (p:Nat) (o:Option Nat):ixI p (o.map (· +1))=ixI (p+1) o:=by
 cases o with
 | none=>rfl
 | some k=>simp only[ixI,QY];omega
theorem uB (l:List Int) (v:Value) (w:World) (hv:Sl .i32 w v l) (hl:l.length≤200000):
  Calls Tryz.prog 206 #[v,.int .i32 93] w fun e w'=>e= .returned (.int .i64 (ixI 0 (ix l)))∧w=w':=by
 have HV:=zH hv;obtain⟨a,cap,rfl⟩:=hv.len;obtain⟨X,hX⟩: ∃X,ixI 0 (ix l)=X:=⟨_,rfl⟩;rw[hX];clear hv;go_enter Tryz.func206,Tryz.ntmps206
 go_wp2_with fail
 go_loopw [8] (fun i wr=> ∃j:Nat,j≤l.length∧i= .int .i64 j∧wr=w∧ixI j (ix (l.drop j))=X) (fun i _=>l.length-(intOf i).toNat)
 case atStart=>exact⟨0,by omega,rfl,rfl,by simpa using hX⟩
 case round=>
  obtain⟨j,hj,rfl,rfl,hx⟩:=hrel;have HX:=zH hx;clear hx hX
  by_cases hlt:j<l.length
  ·obtain⟨z,hz⟩: ∃z,l[j]? =some z:=⟨l[j],OU hlt⟩
   obtain⟨g,off,rfl,c0⟩:=HV.out.at hz;have hi0:(j:Int)<(l.length:Int):=by omega
   have hi1:(0:Int)≤(j:Int):=by omega
   by_cases he:z=93
   ·subst he
    have hres:=zH (show(j:Int)=X by
     have:=HX.out;rw[IU hz]at this
     simpa[ixI] using this)
    clear hz;go_wp2_with fail
    go_ret;exact⟨il hres.out,rfl⟩
   ·have hres:=zH (show ixI (j+1) (ix (l.drop (j+1)))=X by
     have:=HX.out;rw[D6 hz he,Am]at this;exact this)
    have he':((93:Int)==z)=false:=by simpa using fun h:(93:Int)=z=>he h.symm
    clear hz he;go_wp2_with fail
    go_roundw
    case rel=>exact⟨j+1,by omega,by go_num,by first | trivial | rfl,hres.out⟩
    case measure=>simp[intOf];omega
  ·obtain rfl:j=l.length:=by omega
   have hres:=zH (show(-1:Int)=X by
    have:=HX.out;rw[List.drop_length]at this
    simpa[ixI,ix] using this)
   go_wp2_with fail
   go_ret;exact⟨il hres.out,rfl⟩
section
attribute [local go_sem ↓ high] zl sj
section
variable {w0:World} {B:Nat} {tv:Value} {L:List Int} {nx:Int} {T:List Tok} {D:List Dg}
theorem sM (q:Nat) (w:World) (h:Rd w0 B tv L w nx T D) (hq:q≤L.length) (hL:L.length≤100000) (hn:dD (L.drop q)=none):
  Calls Tryz.prog 173 #[.pointer (some ⟨B,0,none⟩),.int .i64 (q:Int)] w (gQ w0 B tv L nx T D (.tuple #[.string ⟨#[]⟩,.bool false])):=by
 have HR:=zH h;obtain⟨vt,vd,vm,hv⟩:=h;have c0:w.cell? ⟨B,0,none⟩=some tv:=hv.blk.cell 0;obtain⟨u,ku,su⟩:=wQ hv.text q hq;have hdl:(L.drop q).length=L.length-q:=by rw[Pi]
 obtain⟨S,hS⟩: ∃S,L.drop q=S:=⟨_,rfl⟩;rw[hS]at su hdl hn;obtain⟨at_,ct,rfl⟩:=hv.sl.len;clear hv hS
 cases S with
 | nil=>
  obtain⟨au,cu,rfl⟩:=su.len;clear su hn;simp only[Pm]at ku;go_enter Tryz.func173,Tryz.ntmps173
  go_wp2_with fail
  go_ret2
  exact⟨rfl,HR.out⟩
 | cons c r=>
  have HI:=zH (uB (c::r) u w su (by omega));obtain⟨au,cu,rfl⟩:=su.len;obtain⟨g,off,rfl,cc⟩:=su.at (j:=0) (z:=c) rfl;rw[dP]at hn;have cc':w.cell? ⟨g,off,none⟩=some (.int .i32 c):=cc;obtain⟨N,hN⟩: ∃N,(c::r).length=N:=⟨_,rfl⟩;rw[hN]at ku hdl;simp only[Pe]at hN;clear su cc;rw[show(Value.slice (some (⟨g,off,none⟩:Addr)) (c::r).length cu)= .slice (some ⟨g,off,none⟩) N cu by rw[←hN];rfl]at HI;have hz:((N:Int)==0)=false:=by simp;omega
  have hz1:(0:Int)<(N:Int):=by omega
  have hz9:N≤100000:=by omega
  have HN:=zH hN;clear hdl hN
  by_cases h40:c=40
  ·subst h40
   rw[Pk rfl]at hn;have hlen:r.length<2:=by
    by_cases hlen:r.length<2
    ·exact hlen
    ·rw[Pd hlen]at hn;cases hn
   have hz2:(N:Int)<3:=by have:=HN.out;omega
   clear hn HI;go_enter Tryz.func173,Tryz.ntmps173
   go_wp2_with fail
   go_ret2
   exact⟨rfl,HR.out⟩
  ·rw[Pd h40]at hn
   have e40:(c==40)=false:=by simpa using h40
   by_cases h91:c=91
   ·subst h91
    rw[Pk rfl]at hn;have hix:ix (91::r)=none:=by
     rw[mO,Pd (by decide)]
     cases hr:ix r with
     | none=>rfl
     | some k=>rw[hr]at hn;cases hn
    rw[hix]at HI;have HI':Hid (Calls Tryz.prog 206 #[.slice (some ⟨g,off,none⟩) N cu,.int .i32 93] w fun e w'=>e= .returned (.int .i64 (-1))∧w=w'):=HI;clear hn HI h40 hix;go_enter Tryz.func173,Tryz.ntmps173
    go_wp2_with fail
    refine HI'.out.mono ?_;rintro e w' ⟨rfl,rfl⟩;clear HI';go_wp2_with fail
    go_ret2
    exact⟨rfl,HR.out⟩
   ·rw[Pd h91]at hn
    cases hn
theorem sK (q:Nat) (w:World) (h:Rd w0 B tv L w nx T D) (hq:q≤L.length) (hL:L.length≤100000) {n:List Int} {k:Nat} (hn:dD (L.drop q)=some (n,k)):
  Calls Tryz.prog 173 #[.pointer (some ⟨B,0,none⟩),.int .i64 (q:Int)] w (gQ w0 B tv L ((q+k:Nat):Int) T D (.tuple #[.string ⟨(enc n).toArray⟩,.bool true])):=by
 obtain⟨vt,vd,vm,hv⟩:=h;have c0:w.cell? ⟨B,0,none⟩=some tv:=hv.blk.cell 0;have c1:w.cell? ⟨B,1,none⟩=some (.int .i64 nx):=hv.blk.cell 1;have f1:w.frozen? ⟨B,1,none⟩=false:=hv.blk.frozen (by simp);obtain⟨u,ku,su0⟩:=wQ hv.sl q hq;have su:=su0.below (by rw[hv.hB];exact hv.bel);have hdl:(L.drop q).length=L.length-q:=by rw[Pi]
 obtain⟨S,hS⟩: ∃S,L.drop q=S:=⟨_,rfl⟩;rw[hS]at su su0 hdl hn;obtain⟨at_,ct,rfl⟩:=hv.sl.len;have HNX:=zH (fun x=>RdV.next hv x);have HM:=zH (fun(a b:Nat) (hab:a≤b) (hb:b≤S.length)=>Ac su0 a b hab hb);have HB:=zH hv.hB;clear hv hS su0
 cases S with
 | nil=>cases hn
 | cons c r=>
  have HI:=zH (uB (c::r) u w su (by omega));obtain⟨au,cu,rfl⟩:=su.len;obtain⟨g,off,rfl,cc⟩:=su.at (j:=0) (z:=c) rfl;rw[dP]at hn;have cc':w.cell? ⟨g,off,none⟩=some (.int .i32 c):=cc;obtain⟨N,hN⟩: ∃N,(c::r).length=N:=⟨_,rfl⟩;rw[hN]at ku hdl HM;simp only[Pe]at hN;clear su cc;rw[show(Value.slice (some (⟨g,off,none⟩:Addr)) (c::r).length cu)= .slice (some ⟨g,off,none⟩) N cu by rw[←hN];rfl]at HI;have hz:((N:Int)==0)=false:=by simp;omega
  have hz1:(0:Int)<(N:Int):=by omega
  have hz9:N≤100000:=by omega
  have HN:=zH hN;clear hdl hN
  by_cases h40:c=40
  ·subst h40
   rw[Pk rfl]at hn;have hlen:2≤r.length:=by
    by_cases hlen:r.length<2
    ·rw[Pk hlen]at hn;cases hn
    ·omega
   rw[Pd (by omega)]at hn;simp only[Qi,QK]at hn;obtain⟨rfl,rfl⟩:=hn;have hz2: ¬(N:Int)<3:=by have:=HN.out;omega
   have HX:=zH (HNX.out ((q:Int)+3));obtain⟨u2,k2,s2⟩:=HM.out 1 3 (by omega) (by have:=HN.out;omega);have k2': ∀W:World,(xX (.slice (some ⟨g,off,none⟩) N cu) (.int .i64 1) (.int .i64 3)).run Tryz.prog W= .ok u2 W:=k2;have e2:((40::r).take 3).drop 1=r.take 2:=by simp
   rw[e2]at s2;have k3:=jV (s2.below (by rw[HB.out];exact HX.out.bel));clear HI k2 s2 HM HNX e2;go_enter Tryz.func173,Tryz.ntmps173
   go_wp2_with fail
   go_ret2
   exact⟨rfl,_,_,_,HX.out⟩
  ·rw[Pd h40]at hn
   have e40:(c==40)=false:=by simpa using h40
   by_cases h91:c=91
   ·subst h91
    rw[Pk rfl]at hn;obtain⟨j,hj⟩: ∃j,ix r=some j:=by
     cases hr:ix r with
     | none=>rw[hr]at hn;cases hn
     | some j=>exact⟨j,rfl⟩
    rw[hj]at hn;simp only[Qi,QK]at hn;obtain⟨rfl,rfl⟩:=hn;have hjl:=D7 r j hj;have hix:ix (91::r)=some (j+1):=by rw[mO,Pd (by decide),hj];rfl
    rw[hix]at HI;have HI':Hid (Calls Tryz.prog 206 #[.slice (some ⟨g,off,none⟩) N cu,.int .i32 93] w fun e w'=>e= .returned (.int .i64 ((j:Int)+1))∧w=w'):=HI;have HX:=zH (HNX.out ((q:Int)+((j:Int)+1+1)));rw[show(q:Int)+((j:Int)+1+1)=((q+(j+2):Nat):Int) by omega]at HX;have hE:=zH (show((q+(j+2):Nat):Int)=(q:Int)+((j:Int)+1+1) by omega);obtain⟨u2,k2,s2⟩:=HM.out 1 (j+1) (by omega) (by have:=HN.out;omega);have k2': ∀W:World,(xX (.slice (some ⟨g,off,none⟩) N cu) (.int .i64 1) (.int .i64 ((j:Int)+1))).run Tryz.prog W= .ok u2 W:=k2;have e2:((91::r).take (j+1)).drop 1=r.take j:=by simp
    rw[e2]at s2;have k3:=jV (s2.below (by rw[HB.out];exact HX.out.bel));rw[hE.out]at k3;have hj1: ¬(N:Int)<(j:Int)+1:=by have:=HN.out;omega
    have hj2: ¬(j:Int)+1<1:=by omega
    have hj3:(j:Int)≤100000:=by omega
    have hj4:(0:Int)≤(j:Int):=by omega
    have hq4:(q:Int)≤100000:=by omega
    clear HI h40 hix HM HNX e2 k2 s2 hj hjl hz1;go_enter Tryz.func173,Tryz.ntmps173
    go_wp2_with fail
    refine HI'.out.mono ?_;rintro e w' ⟨rfl,rfl⟩;clear HI';go_wp2_with fail
    go_ret2
    have:=HX.out;rw[hE.out]at this;exact⟨rfl,vt,vd,vm,by rw[hE.out];exact this⟩
   ·rw[Pd h91]at hn
    simp only[Qi,QK]at hn;obtain⟨rfl,rfl⟩:=hn;have e91:(c==91)=false:=by simpa using h91
    have hz2: ¬(N:Int)<1:=by have:=HN.out;omega
    have HX:=zH (HNX.out ((q:Int)+1));obtain⟨u2,k2,s2⟩:=HM.out 0 1 (by omega) (by have:=HN.out;omega);have k2': ∀W:World,(xX (.slice (some ⟨g,off,none⟩) N cu) (.int .i64 0) (.int .i64 1)).run Tryz.prog W= .ok u2 W:=k2;have e2:((c::r).take 1).drop 0=[c]:=by simp
    rw[e2]at s2;have k3:=jV (s2.below (by rw[HB.out];exact HX.out.bel));clear HI k2 s2 HM HNX e2;go_enter Tryz.func173,Tryz.ntmps173
    go_wp2_with fail
    go_ret2
    exact⟨rfl,_,_,_,HX.out⟩
end
end
section
variable {w0:World} {B:Nat} {tv:Value} {L:List Int} {nx:Int} {T:List Tok} {D:List Dg}
theorem Ca (p:Nat) (w:World) (h:Rd w0 B tv L w nx T D) (hp:p+1≤L.length) (hL:L.length≤20000) (hD:D.length≤20000) (hn:dD (L.drop (p+1))=none):
  Calls Tryz.prog 136 #[.pointer (some ⟨B,0,none⟩),.int .i64 (p:Int)] w (gQ w0 B tv L nx T (D++dgs p [1]) (.bool false)):=by
 have HN:=zH (sM (p+1) w h hp (by omega) hn);have HN':Hid (Calls Tryz.prog 173 #[.pointer (some ⟨B,0,none⟩),.int .i64 ((p:Int)+1)] w (gQ w0 B tv L nx T D (.tuple #[.string ⟨#[]⟩,.bool false]))):=HN;have HW:=zH (fun W (h:Rd w0 B tv L W nx T D)=>fU 1 p W h (by omega) (by omega));have hp9:(p:Int)≤20000:=by omega
 clear h hn HN;go_enter Tryz.func136,Tryz.ntmps136
 go_wp2_with fail
 refine HN'.out.mono ?_;rintro e w1 ⟨rfl,h1⟩;have HW':=zH (HW.out w1 h1);clear HN' HW h1;go_wp2_with fail
 refine HW'.out.mono ?_;rintro e w2 ⟨rfl,h2⟩;have H2:=zH h2;clear HW' h2;go_wp2_with fail
 go_ret;exact⟨rfl,H2.out⟩
theorem QTL {P:Prop}(h:P:=by
 have HC4:=zH (HC.out x w4 H4.out);rw[hx];simp only[Qd,Qy];clear HC HW H4 hx;go_wp2_with fail
 refine HC4.out.mono ?_;rintro e w5 ⟨rfl,h5⟩;have H5:=zH h5;clear HC4 h5;go_wp2_with fail
 go_ret;exact⟨rfl,by simpa[dgs] using H5.out⟩):P:=h
theorem QTM {P:Prop}(h:P:=by
 have HW4:=zH (HW.out w4 H4.out);rw[hx];simp only[PP,Qk];clear HC HW H4 hx;go_wp2_with fail
 refine HW4.out.mono ?_;rintro e w5 ⟨rfl,h5⟩;have H5:=zH h5;clear HW4 h5;go_wp2_with fail
 go_ret;exact⟨rfl,by rw[Pn];exact H5.out⟩):P:=h
theorem tX (p:Nat) (w:World) (h:Rd w0 B tv L w nx T D) (hp:p+1≤L.length) (hL:L.length≤20000) (hT:T.length≤20000) (hD:D.length≤20000) {n:List Int} {k:Nat} (hn:dD (L.drop (p+1))=some (n,k))
  {t:List Tok} {d:List Int} (hr:(∃x,lU (enc n)=some x∧t=[(1,x)]∧d=[])∨(lU (enc n)=none∧t=[]∧d=[2])):
  Calls Tryz.prog 136 #[.pointer (some ⟨B,0,none⟩),.int .i64 (p:Int)] w (gQ w0 B tv L ((p+1+k:Nat):Int) (T++t) (D++dgs p d) (.bool true)):=by
 have HN:=zH (sK (p+1) w h hp (by omega) hn);have HN':Hid (Calls Tryz.prog 173 #[.pointer (some ⟨B,0,none⟩),.int .i64 ((p:Int)+1)] w (gQ w0 B tv L ((p+1+k:Nat):Int) T D (.tuple #[.string ⟨(enc n).toArray⟩,.bool true]))):=HN;have hnl:=dY hn;rw[Pi]at hnl;have hel:=pu n;obtain⟨b,hb⟩: ∃b,enc n=b:=⟨_,rfl⟩;rw[hb]at HN' hr hel;obtain⟨nx',hnx⟩: ∃nx',((p+1+k:Nat):Int)=nx':=⟨_,rfl⟩;rw[hnx]at HN' ⊢;have HF:=zH (fun M W (h:Nms W M)=>Je b M W h (by unfold maxLen;omega));have HS:=zH (fun W=>Fh W);have HW:=zH (fun W (h:Rd w0 B tv L W nx' T D)=>fU 2 p W h (by omega) (by omega));have HC:=zH (fun c W (h:Rd w0 B tv L W nx' T D)=>pI c W h (by omega));have hp9:(p:Int)≤20000:=by omega
 clear h hn HN hb hnx hnl;go_enter Tryz.func136,Tryz.ntmps136
 go_wp2_with fail
 refine HN'.out.mono ?_;rintro e w1 ⟨rfl,vt,vd,vm,hv⟩;clear HN';have c4:w1.cell? ⟨B,4,none⟩=some vm:=hv.blk.cell 4;have HV:=zH hv;have hvm:=hv.mp;clear hv;rcases hvm with rfl | ⟨M,rfl,hBM,hM⟩
 ·have hq:(binOp .eql 159 (.map none) (.map none)).run Tryz.prog w1= .ok (.bool true) w1:=run_eql_map_nil w1 159 9 21 none Tryz.underlying159
  have HS1:=zH (HS.out w1);clear HS;go_wp2_with fail
  refine HS1.out.mono ?_;rintro e w2 ⟨M,rfl,hM,hm,b2⟩;have hv2:=HV.out.keep b2;have hlt:=HV.out.lt;have c42:w2.cell? ⟨B,4,none⟩=some (.map none):=hv2.blk.cell 4;have f42:w2.frozen? ⟨B,4,none⟩=false:=hv2.blk.frozen (by simp);have HV3:=zH (hv2.names (M:=M) (by omega) hm);obtain⟨W3,hW3⟩: ∃W3,w2.setCell ⟨B,4,none⟩ (.map (some M))=W3:=⟨_,rfl⟩;rw[hW3]at HV3;have c43:W3.cell? ⟨B,4,none⟩=some (.map (some M)):=HV3.out.blk.cell 4;have hM3:Nms W3 M:=by
   rcases HV3.out.mp with h0 | ⟨M',h0,_,h1⟩
   ·cases h0
   ·cases h0;exact h1
  have HF3:=zH (HF.out M W3 hM3);have HW3:=zH hW3;have HR3:Hid (Rd w0 B tv L W3 nx' T D):=zH ⟨_,_,_,HV3.out⟩;clear HS1 hm b2 hv2 hM hlt HF HV c4 hq hM3 hW3 HV3;go_wp2_with fail
  rw[HW3.out];refine HF3.out.mono ?_;rintro e w4 ⟨rfl,b4⟩;have H4:Hid (Rd w0 B tv L w4 nx' T D):=zH (by
   obtain⟨_,_,_,h⟩:=HR3.out;exact⟨_,_,_,h.keep b4⟩)
  clear HF3 HR3 HW3 c43 c42 f42 b4;rcases hr with⟨x,hx,rfl,rfl⟩| ⟨hx,rfl,rfl⟩
  ·exact QTL
  ·exact QTM
 ·have hq:(binOp .eql 159 (.map (some M)) (.map none)).run Tryz.prog w1= .ok (.bool false) w1:=run_eql_map_nil w1 159 9 21 (some M) Tryz.underlying159
  have HF3:=zH (HF.out M w1 hM);have HR3:Hid (Rd w0 B tv L w1 nx' T D):=zH ⟨_,_,_,HV.out⟩;clear HS HF HV hM hBM;go_wp2_with fail
  refine HF3.out.mono ?_;rintro e w4 ⟨rfl,b4⟩;have H4:Hid (Rd w0 B tv L w4 nx' T D):=zH (by
   obtain⟨_,_,_,h⟩:=HR3.out;exact⟨_,_,_,h.keep b4⟩)
  clear HF3 HR3 c4 hq b4;rcases hr with⟨x,hx,rfl,rfl⟩| ⟨hx,rfl,rfl⟩
  ·exact QTL
  ·exact QTM
end
def lgF:Lgf:=fun b=>((fO (0,0) (bK 0 (dec b)).1).1,(bK 0 (dec b)).2.map (fun d=>(d.1,d.2.2)))
theorem DX (s:Txt):(lgF s).1.length≤s.length∧(lgF s).2.length≤s.length:=by
 have h1:=pg (0,0) (bK 0 (dec s)).1;have h2:=ow (dec s);have h3:=l6 s;refine⟨?_,?_⟩
 ·show(fO (0,0) (bK 0 (dec s)).1).1.length≤_
  omega
 ·show((bK 0 (dec s)).2.map _).length≤_
  rw[Qe];omega
end Go.Proofs.YtebabjnngdjceaaGreatDoor
