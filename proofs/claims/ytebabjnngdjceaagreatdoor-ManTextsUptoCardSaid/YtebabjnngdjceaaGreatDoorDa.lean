/- Rows that the call owns: appends of runes and of bytes. The document's own bytes of a rune, of runes; its Sum. Slices of glyphs; Width in the program and in the document's answer; whether two rows are the same. Whether two rows are the same; copies; rows joined. Documents: what they say, and how the -/
import Derived.Test.YtebabjnngdjceaaGreatDoorW5
import Derived.Maps.AppendAt
import Derived.OwnWalk
import Derived.Test.YtebabjnngdjceaaGreatDoorZ0
import Derived.Test.YtebabjnngdjceaaGreatDoorGx
import Derived.Deep.QuietTactic
import Derived.BigQuiet
import Derived.Lib.SliceRun
import Derived.Shelf.Unicode.DecodeAny
import Derived.Laws.Strings3
import Derived.Lib.Strings
set_option linter.unusedVariables false
set_option linter.unusedSimpArgs false
set_option maxRecDepth 100000
set_option maxHeartbeats 8000000
namespace Go.Proofs.YtebabjnngdjceaaGreatDoor
open Go.RowKit
section
open Go.RowKit
noncomputable def Dm (args:Array Value):Sem Next:=do pure (.value (←Builtin.append_ #[102,102] 102 args))
theorem yM (cs:Array Bool) (args:Array Value):builtin .append #[102,102] 102 cs args=Dm args:=rfl
noncomputable def JX (args:Array Value):Sem Next:=do pure (.value (←Builtin.append_ #[104,104] 104 args))
theorem yN (cs:Array Bool) (args:Array Value):builtin .append #[104,104] 104 cs args=JX args:=rfl
def Own (base:Nat) (e:TypeId) (k:IntKind) (W:World) (x:Value) (l:List Int):Prop:=W.ownsRow base e 1 x l.length (l.map (Value.int k))
theorem Own.sl {base:Nat} {e:TypeId} {k:IntKind} {W:World} {x:Value} {l:List Int} (h:Own base e k W x l):Sl k W x l:=by
 rcases h.2 with⟨rfl,h0⟩| ⟨g,cap,cur,rfl,hb,hh,hn,_⟩
 ·have:l=[]:=PH h0
  subst this;exact⟨none,0,rfl,OW _,fun j z hj=>by simp at hj⟩
 ·refine⟨_,_,rfl,hn,fun j z hj=>⟨g,0,rfl,?_⟩⟩
  have:=World.ownsRow.cells (g:=g) h rfl j (.int k z) (by simp[hj]);rw[Qo]at this;exact this
theorem Own.nil (base:Nat) (e:TypeId) (k:IntKind) (W:World):Own base e k W (.slice none 0 0) []:=World.ownsRow_nil _ _ _ _
theorem Own.below {base:Nat} {e:TypeId} {k:IntKind} {w0 W w':World} {x:Value} {l:List Int} (h:Own base e k W x l) (hb:Below base w0 W) (hs:base≤W.heap.size) (hg:W.grownBy w' x.ownBlock):Below base w0 w':=
 hb.grown hg hs (fun j e=>(World.ownsRow.lt h j e).1)
theorem Own.keep {base:Nat} {e:TypeId} {k:IntKind} {W w':World} {x:Value} {l:List Int} (h:Own base e k W x l) (hb:Below W.heap.size W w'):Own base e k w' x l:=by
 refine⟨h.1,?_⟩;rcases h.2 with h0 | ⟨g,cap,cur,e1,hg,hh,r⟩
 ·exact .inl h0
 ·exact .inr ⟨g,cap,cur,e1,hg,(hb.block g (O5.1 hh).1).trans hh,r⟩
theorem N8:(Tryz.prog.info? 21).map (fun i=>(i.zero,i.size,i.bytes))=some (some (.int .i32 0),1,4):=by kernel_rfl
theorem Mk:(Tryz.prog.info? 5).map (fun i=>(i.zero,i.size,i.bytes))=some (some (.int .u8 0),1,1):=by kernel_rfl
theorem Ao {k:IntKind} (l:List Int): ∀u∈l.map (Value.int k),u.oneCell'=true:=by
 intro u hu;obtain⟨z,_,rfl⟩:=QF.1 hu;rfl
theorem A7 {base:Nat} {W:World} {x u:Value} {l m:List Int} (h:Own base 21 .i32 W x l) (hu:Sl .i32 W u m) (hb:base≤W.heap.size) (hd:l.length+m.length≤100000):
  ∃x' w',(Dm #[x,u]).run Tryz.prog W= .ok (.value x') w'∧Own base 21 .i32 w' x' (l++m)∧W.grownBy w' x.ownBlock∧(x'.ownBlock=x.ownBlock∨x'.ownBlock=some W.heap.size):=by
 obtain⟨i0,hi,hz0,hz1,hz2⟩:=PU N8;obtain⟨a,cap,rfl,hcap,hc⟩:=hu;rcases a with _ | a
 ·obtain rfl:m=[]:=by
   rcases m with _ | ⟨e,es⟩
   ·rfl
   ·obtain⟨g,off,hg,_⟩:=hc 0 e rfl
    cases hg
  refine⟨x,W,?_,by simpa using h,⟨rfl,rfl,rfl,OW _,fun _ _ _=>rfl⟩,.inl rfl⟩;have hz: ∀(b:Option Addr) (n c:Nat),n≤c→(Dm #[.slice b n c,.slice none 0 cap]).run Tryz.prog W= .ok (.value (.slice b n c)) W:=by
   intro b n c hnc;unfold Dm;rcases b with _ | b
   ·simp[Builtin.append_,PZ Tryz.underlying102,sizeOf,typeInfo,hi,Builtin.lenOf,Builtin.firstCells,hnc,Result.andThen]
   ·simp[Builtin.append_,PZ Tryz.underlying102,sizeOf,typeInfo,hi,Builtin.lenOf,Builtin.firstCells,hnc,Result.andThen,storeCells]
  rcases h.2 with⟨rfl,h0⟩| ⟨g,cap',cur,rfl,hh⟩
  ·exact hz none 0 0 (OW _)
  ·exact hz _ _ _ hh.2.2.1
 ·have hcells: ∀j v,(m.map (Value.int .i32))[j]? =some v→W.cell? (a.add j)=some v:=by
   intro j v hj;simp only[Qf,Option.map_eq_some_iff]at hj;obtain⟨z,hz,rfl⟩:=hj;obtain⟨g,off,hg,h0⟩:=hc j z hz;obtain rfl:=Ph hg;rw[Qo];exact h0
  obtain⟨x',w',hr,ho,hg,_,hq⟩:=run_append_own_at (P:=Tryz.prog) W base 102 102 21 i0 (.int .i32 0) 1 4 Tryz.underlying102 hi hz0 hz1 hz2 rfl (by decide) x l.length (l.map (Value.int .i32)) h a m.length cap (m.map (Value.int .i32)) (by simp) hcells (Ao m) (by unfold maxLen;omega) (by omega) hb;refine⟨x',w',?_,by unfold Own;rw[QI,Pb];exact ho,hg,hq⟩;unfold Dm;simp only[Qh,Qm,PT,hr]
theorem JW {base:Nat} {W:World} {x u:Value} {l m:List Int} (h:Own base 5 .u8 W x l) (hu:Sl .u8 W u m) (hb:base≤W.heap.size) (hd:l.length+m.length≤100000):
  ∃x' w',(JX #[x,u]).run Tryz.prog W= .ok (.value x') w'∧Own base 5 .u8 w' x' (l++m)∧W.grownBy w' x.ownBlock∧(x'.ownBlock=x.ownBlock∨x'.ownBlock=some W.heap.size):=by
 obtain⟨i0,hi,hz0,hz1,hz2⟩:=PU Mk;obtain⟨a,cap,rfl,hcap,hc⟩:=hu;rcases a with _ | a
 ·obtain rfl:m=[]:=by
   rcases m with _ | ⟨e,es⟩
   ·rfl
   ·obtain⟨g,off,hg,_⟩:=hc 0 e rfl
    cases hg
  refine⟨x,W,?_,by simpa using h,⟨rfl,rfl,rfl,OW _,fun _ _ _=>rfl⟩,.inl rfl⟩;have hz: ∀(b:Option Addr) (n c:Nat),n≤c→(JX #[.slice b n c,.slice none 0 cap]).run Tryz.prog W= .ok (.value (.slice b n c)) W:=by
   intro b n c hnc;unfold JX;rcases b with _ | b
   ·simp[Builtin.append_,PZ Tryz.underlying104,sizeOf,typeInfo,hi,Builtin.lenOf,Builtin.firstCells,hnc,Result.andThen]
   ·simp[Builtin.append_,PZ Tryz.underlying104,sizeOf,typeInfo,hi,Builtin.lenOf,Builtin.firstCells,hnc,Result.andThen,storeCells]
  rcases h.2 with⟨rfl,h0⟩| ⟨g,cap',cur,rfl,hh⟩
  ·exact hz none 0 0 (OW _)
  ·exact hz _ _ _ hh.2.2.1
 ·have hcells: ∀j v,(m.map (Value.int .u8))[j]? =some v→W.cell? (a.add j)=some v:=by
   intro j v hj;simp only[Qf,Option.map_eq_some_iff]at hj;obtain⟨z,hz,rfl⟩:=hj;obtain⟨g,off,hg,h0⟩:=hc j z hz;obtain rfl:=Ph hg;rw[Qo];exact h0
  obtain⟨x',w',hr,ho,hg,_,hq⟩:=run_append_own_at (P:=Tryz.prog) W base 104 104 5 i0 (.int .u8 0) 1 1 Tryz.underlying104 hi hz0 hz1 hz2 rfl (by decide) x l.length (l.map (Value.int .u8)) h a m.length cap (m.map (Value.int .u8)) (by simp) hcells (Ao m) (by unfold maxLen;omega) (by omega) hb;refine⟨x',w',?_,by unfold Own;rw[QI,Pb];exact ho,hg,hq⟩;unfold JX;simp only[Qh,Qm,PT,hr]
end
section
theorem af (w:World) (o:Obj):Below w.heap.size w (w.alloc o):=(OX _ w).alloc (OW _) _
theorem zQ (r:Int) (hb:vld r=true) (w:World):
  Calls Tryz.prog 117 #[.int .i32 r] w fun e w'=> ∃u,e= .returned u∧Sl .u8 w' u (Lib.encodeRuneZ r)∧Below w.heap.size w w':=by
 have V:=jY r w;rw[hb]at V;simp only[vld,PQ]at hb;have h0:0≤r:=by omega
 by_cases c1:r<128
 ·have e:=Lib.encodeRuneZ_one (r:=r) (by omega) (by omega)
  rw[e];clear e hb;go_enter Tryz.func117,Tryz.ntmps117
  go_wp2_with (go_at_call 116;refine V.mono ?_;rintro e w' ⟨rfl,rfl⟩)
  go_ret;exact⟨_,rfl,jm (k:= .u8) w 5 [r],af _ _⟩
 ·by_cases c2:r<2048
  ·have e:=Lib.encodeRuneZ_two (r:=r) (by omega) (by omega)
   rw[e];clear e hb;go_enter Tryz.func117,Tryz.ntmps117
   go_wp2_with (go_at_call 116;refine V.mono ?_;rintro e w' ⟨rfl,rfl⟩)
   go_ret;exact⟨_,rfl,jm (k:= .u8) w 5 [192+r / 64,128+r % 64],af _ _⟩
  ·by_cases c3:r<65536
   ·have e:=Lib.encodeRuneZ_three (r:=r) (by omega)
    rw[e];clear e hb;go_enter Tryz.func117,Tryz.ntmps117
    go_wp2_with (go_at_call 116;refine V.mono ?_;rintro e w' ⟨rfl,rfl⟩)
    go_ret;exact⟨_,rfl,jm (k:= .u8) w 5 [224+r / 4096,128+r / 64 % 64,128+r % 64],af _ _⟩
   ·have hle:r≤1114111:=by omega
    have e:=Lib.encodeRuneZ_four (r:=r) (by omega) (by omega);rw[e];clear e hb;go_enter Tryz.func117,Tryz.ntmps117
    go_wp2_with (go_at_call 116;refine V.mono ?_;rintro e w' ⟨rfl,rfl⟩)
    go_ret;exact⟨_,rfl,jm (k:= .u8) w 5 [240+r / 262144,128+r / 4096 % 64,128+r / 64 % 64,128+r % 64],af _ _⟩
theorem KE (r:Int) (hb:vld r=false) (h1: -2147483648≤r) (h2:r≤2147483647) (w:World):
  Calls Tryz.prog 117 #[.int .i32 r] w fun e w'=> ∃u,e= .returned u∧Sl .u8 w' u (Lib.encodeRuneZ r)∧Below w.heap.size w w':=by
 have V:=jY r w;rw[hb]at V;simp only[vld,decide_eq_false_iff_not]at hb;have e:=Lib.encodeRuneZ_bad (r:=r) (by omega);rw[e];clear e hb;go_enter Tryz.func117,Tryz.ntmps117
 go_wp2_with (go_at_call 116;refine V.mono ?_;rintro e w' ⟨rfl,rfl⟩)
 go_ret;exact⟨_,rfl,jm (k:= .u8) w 5 [239,191,189],af _ _⟩
theorem KF (r:Int) (h1: -2147483648≤r) (h2:r≤2147483647) (w:World):
  Calls Tryz.prog 117 #[.int .i32 r] w fun e w'=> ∃u,e= .returned u∧Sl .u8 w' u (Lib.encodeRuneZ r)∧Below w.heap.size w w':=by
 cases hb:vld r with
 | true=>exact zQ r hb w
 | false=>exact KE r hb h1 h2 w
def encZ (l:List Int):List Int:=(l.map Lib.encodeRuneZ).flatten
theorem Jk (l:List Int):(encZ l).length≤4*l.length:=by
 induction l with
 | nil=>simp[encZ]
 | cons z l ih=>
  have:=Lib.encodeRuneZ_length z;have e:encZ (z::l)=Lib.encodeRuneZ z++encZ l:=by simp[encZ]
  rw[e];simp only[Pb,Pe];omega
theorem lC (z:Int):(Lib.encodeRune z).map (fun x=>(x.toNat:Int))=Lib.encodeRuneZ z:=by
 have h:=Lib.encodeRuneZ_byte z;unfold Lib.encodeRune;rw[List.map_map]
 conv=>rhs;rw[←List.map_id (Lib.encodeRuneZ z)]
 apply List.map_congr_left;intro x hx;have:=h x hx;simp only[Function.comp,id];rw[show x.toNat.toUInt8=UInt8.ofNat x.toNat from rfl,UInt8.toNat_ofNat'];omega
theorem Jl (l:List Int):(enc l).map (fun x=>(x.toNat:Int))=encZ l:=by
 induction l with
 | nil=>rfl
 | cons z l ih=>
  have e:encZ (z::l)=Lib.encodeRuneZ z++encZ l:=by simp[encZ]
  rw[AJ,QI,ih,e,lC]
theorem Gh {l:List Int} {j:Nat} {z:Int} (h:l[j]? =some z):encZ (l.take (j+1))=encZ (l.take j)++Lib.encodeRuneZ z:=by
 simp[encZ,PD,h]
attribute [local go_sem ↓ high] yN
theorem zz (l:List Int) (hl:l.length≤2000) (hz: ∀z∈l,-2147483648≤z∧z≤2147483647) (v:Value) (w:World) (hv:Sl .i32 w v l):
  Calls Tryz.prog 152 #[v] w fun e w'=> ∃u,e= .returned u∧By w' u (enc l)∧Below w.heap.size w w':=by
 obtain⟨a,cap,rfl,hcap,hr⟩:=hv;have HR:=zH hr;have HZ:=zH hz;clear hr hz;go_enter Tryz.func152,Tryz.ntmps152
 go_wp2_with fail
 go_loopw [3,4] (fun s i wr=> ∃j:Nat,j≤l.length∧i= .int .i64 j∧Own w.heap.size 5 .u8 wr s (encZ (l.take j))∧Below w.heap.size w wr) (fun _ i _=>l.length-(intOf i).toNat)
 case atStart=>exact⟨0,by omega,rfl,Own.nil _ _ _ _,OX _ _⟩
 case round=>
  obtain⟨j,hj,rfl,ho,hbw⟩:=hrel
  by_cases hlt:j<l.length
  ·obtain⟨z,hz⟩: ∃z,l[j]? =some z:=⟨l[j],OU hlt⟩
   obtain⟨g,off,rfl,h0⟩:=HR.out j z hz;have hg:=Po w _ h0;have c0:wr.cell? ⟨g,off+j,none⟩=some (.int .i32 z):=(hbw.cell hg).trans h0;have hsn:=zH (Gh hz);have hzb:=HZ.out z (P5 hz);have h1:=zH (KF z hzb.1 hzb.2 wr);have hel:=Jk (l.take j);rw[Pg]at hel;have hzl:=Lib.encodeRuneZ_length z;have HO:=zH ho;clear h0 hg hz hzb ho;have hi0:(j:Int)<(l.length:Int):=by omega
   have hi1:(0:Int)≤(j:Int):=by omega
   go_wp2_with fail
   refine h1.out.mono ?_;rintro e w1 ⟨u,rfl,hu,b1⟩;have bw:=hbw.size;have oa:=HO.out.keep b1;have bs:=b1.size;obtain⟨s',w3,k3,o3,g3,-⟩:=JW oa hu (by omega) (by omega);have b3:=zH (oa.below (hbw.trans (b1.mono bw)) (by omega) g3);have O3:=zH o3;clear oa b1 o3 g3 hu h1;go_wp2_with fail
   go_roundw
   case rel=>
    refine⟨j+1,by omega,by go_num,?_,b3.out⟩;rw[hsn.out];exact O3.out
   case measure=>simp[intOf];omega
  ·obtain rfl:j=l.length:=by omega
   rw[PG]at ho;have HO:=zH ho;clear ho;go_wp2_with fail
   go_ret;refine⟨_,rfl,?_,hbw⟩;unfold By;rw[Jl];exact HO.out.sl
end
section
open Go.RowKit
abbrev Gly:=Int×Int
def aX (g:Gly):List Value:=[.int .i32 g.1,.int .u8 g.2]
theorem ah (g:Gly):(aX g).length=2:=rfl
theorem mP (g:Gly): ∀u∈aX g,u.oneCell'=true:=by
 intro u hu;simp only[aX,P6,P8,QN]at hu;rcases hu with rfl | rfl<;>rfl
abbrev Gs (w:World) (v:Value) (l:List Gly):Prop:=Fs 2 aX w v l
abbrev aI (base:Nat) (W:World) (x:Value) (l:List Gly):Prop:=ag 35 2 aX base W x l
theorem Gs.at {w:World} {a:Option Addr} {k cap:Nat} {l:List Gly} (h:Gs w (.slice a k cap) l) {j:Nat} {g:Gly} (hj:l[j]? =some g):
  ∃b off,a=some ⟨b,off,none⟩∧w.cell? ⟨b,off+j*2,none⟩=some (.int .i32 g.1)∧w.cell? ⟨b,off+j*2+1,none⟩=some (.int .u8 g.2)∧b<w.heap.size:=by
 obtain⟨a',cap',hv,_,hr⟩:=h;injection hv with h1 h2 h3
 subst h1;obtain⟨b,off,rfl,h0⟩:=hr j g hj;have c0:=h0 0 _ rfl;have c1:=h0 1 _ rfl;exact⟨b,off,rfl,c0,c1,Po w _ c0⟩
theorem qK:(Tryz.prog.info? 35).map (fun i=>(i.zero,i.size,i.bytes))=some (some (.agg #[.int .i32 0,.int .u8 0]),2,8):=by kernel_rfl
theorem eqG (k l k' l':Int) (w:World):(Op.equalIn 10000 35 (.agg #[.int .i32 k,.int .u8 l]) (.agg #[.int .i32 k',.int .u8 l'])).run Tryz.prog w= .ok (k==k'&&l==l') w:=by
 rw[run_equalIn_agg w 9999 35 _ _ (by kernel_rfl) (by kernel_rfl)];have h3:((Tryz.prog.fieldsOf 35).toList.map fun f=>(f.name != "_",f.type,f.offset))=[(true,21,0),(true,5,1)]:=by kernel_rfl
 generalize (Tryz.prog.fieldsOf 35).toList=fs at*;rcases fs with _ | ⟨f0,_ | ⟨f1,_ | ⟨f2,fs⟩⟩⟩
 ·simp at h3
 ·simp at h3
 ·simp only[PL,Qx,List.cons.injEq,QK,and_true,bne_iff_ne,ne_eq]at h3
  obtain⟨⟨n0,t0,o0⟩,⟨n1,t1,o1⟩⟩:=h3;have e0: ∀(a b:Int) (w:World),(Op.equalIn 9999 21 (.int .i32 a) (.int .i32 b)).run Tryz.prog w= .ok (a==b) w:=fun a b w=>run_equalIn_int w 9998 21 .i32 .i32 a b Tryz.underlying21
  have e1: ∀(a b:Int) (w:World),(Op.equalIn 9999 5 (.int .u8 a) (.int .u8 b)).run Tryz.prog w= .ok (a==b) w:=fun a b w=>run_equalIn_int w 9998 5 .u8 .u8 a b Tryz.underlying5
  simp[go_sem,Op.eqFields,n0,n1,t0,t1,o0,o1,e0,e1]
  by_cases a1:k=k'<;>by_cases a2:l=l'<;>simp[a1,a2]
 ·simp at h3
theorem zV (k l k' l':Int) (w:World):(binOp .neq 35 (.agg #[.int .i32 k,.int .u8 l]) (.agg #[.int .i32 k',.int .u8 l'])).run Tryz.prog w= .ok (.bool (!(k==k'&&l==l'))) w:=by
 rw[run_neq_struct,eqG];rfl
theorem ww (k l:Int) (w:World):(binOp .neq 35 (.agg #[.int .i32 k,.int .u8 l]) (.agg #[.int .i32 k,.int .u8 l])).run Tryz.prog w= .ok (.bool false) w:=by
 rw[zV];simp
theorem tV {x y:Gly} (h:x≠y) (w:World):(binOp .neq 35 (.agg #[.int .i32 x.1,.int .u8 x.2]) (.agg #[.int .i32 y.1,.int .u8 y.2])).run Tryz.prog w= .ok (.bool true) w:=by
 rw[zV];have:(x.1==y.1&&x.2==y.2)=false:=by
  rw[Bool.eq_false_iff];intro e;simp only[PI,QB]at e;exact h (Prod.ext e.1 e.2)
 rw[this];rfl
end
section
theorem BK (a b:List Gly) (v u:Value) (w:World) (hv:Gs w v a) (hu:Gs w u b) (hl:a.length≤200000) (hl':b.length≤200000):
  Calls Tryz.prog 11 #[v,u] w fun e w'=>e= .returned (.bool (decide (a=b)))∧Below w.heap.size w w':=by
 have HV:=zH hv;have HU:=zH hu;obtain⟨aa,ca,rfl,-,-⟩:=hv;obtain⟨ab,cb,rfl,-,-⟩:=hu
 by_cases hlen:a.length=b.length
 ·have HLen:=zH hlen
  have hne:((a.length:Int) != (b.length:Int))=false:=by simp[hlen]
  clear hlen;go_enter Tryz.func11,Tryz.ntmps11
  go_wp2_with fail
  go_loopw [5] (fun i wr=> ∃j:Nat,j≤a.length∧i= .int .i64 j∧a.take j=b.take j∧Below w.heap.size w wr) (fun i _=>a.length-(intOf i).toNat)
  case atStart=>exact⟨0,by omega,rfl,rfl,OX _ _⟩
  case round=>
   obtain⟨j,hj,rfl,hs,hbw⟩:=hrel;have HS:=zH hs;clear hs
   by_cases hlt:j<a.length
   ·obtain⟨x,hx⟩: ∃x,a[j]? =some x:=⟨a[j],OU hlt⟩
    obtain⟨y,hy⟩: ∃y,b[j]? =some y:=⟨b[j]'(by have:=HLen.out;omega),OU _⟩;obtain⟨g,off,rfl,c0,c1,-⟩:=Gs.at (Fs.below HV.out hbw) hx;obtain⟨g',off',rfl,c0',c1',-⟩:=Gs.at (Fs.below HU.out hbw) hy;have hi0:(j:Int)<(a.length:Int):=by omega
    have hi2:(j:Int)<(b.length:Int):=by have:=HLen.out;omega
    have hi1:(0:Int)≤(j:Int):=by omega
    by_cases hxy:x=y
    ·subst hxy
     have HT:=zH (take_same HS.out hx hy);have hq:=ww;clear hx hy;go_wp2_with fail
     go_quiet (fail)
     go_wp2
     go_roundw
     case rel=>exact⟨j+1,by omega,by go_num,HT.out,below_drewN hbw _⟩
     case measure=>simp[intOf];omega
    ·have HT:=zH (Px (oL hx hy hxy))
     have hq:=tV hxy;clear hx hy hxy;go_wp2_with fail
     go_quiet (fail)
     go_wp2
     go_ret;exact⟨aF HT.out.symm,below_drewN hbw _⟩
   ·obtain rfl:j=a.length:=by omega
    have hs:a=b:=by
     have h:=HS.out;rw[PG,HLen.out,PG]at h;exact h
    have HT:=zH (Qg hs);clear hs;go_wp2_with fail
    go_ret;exact⟨aF HT.out.symm,hbw⟩
 ·have hne:((a.length:Int) != (b.length:Int))=true:=by simp;omega
  have HT:=zH (Px (show¬a=b from fun h=>hlen (by rw[h])));clear hlen;go_enter Tryz.func11,Tryz.ntmps11
  go_wp2_with fail
  go_ret;exact⟨aF HT.out.symm,OX _ _⟩
noncomputable def appG (args:Array Value):Sem Next:=do pure (.value (←Builtin.append_ #[26,26] 26 args))
theorem cO (cs:Array Bool) (args:Array Value):builtin .append #[26,26] 26 cs args=appG args:=rfl
theorem cB {base:Nat} {W:World} {x u:Value} {l m:List Gly} (h:aI base W x l) (hu:Gs W u m) (hb:base≤W.heap.size) (hd:l.length+m.length≤1000000):
  ∃x' w',(appG #[x,u]).run Tryz.prog W= .ok (.value x') w'∧aI base w' x' (l++m)∧W.grownBy w' x.ownBlock∧(x'.ownBlock=x.ownBlock∨x'.ownBlock=some W.heap.size):=by
 obtain⟨i0,hi,hz0,hz1,hz2⟩:=PU qK;obtain⟨x',w',hr,r⟩:=lX ah mP (by decide) Tryz.underlying26 hi hz0 hz1 hz2 rfl (by decide) h hu hb hd;refine⟨x',w',?_,r⟩;unfold appG;simp only[Qh,Qm,PT,hr]
noncomputable def qf (x hi:Value):Sem Value:=Instr.slice 26 x none (some hi) none
theorem fG (x hi:Value):Instr.slice 26 x none (some hi) none=qf x hi:=rfl
noncomputable def Mq (x lo:Value):Sem Value:=Instr.slice 26 x (some lo) none none
theorem lL (x lo:Value):Instr.slice 26 x (some lo) none none=Mq x lo:=rfl
theorem kQ {w:World} {v:Value} {l:List Gly} (h:Gs w v l) (k:Nat) (hk:k≤l.length):
  ∃u,(∀W:World,(qf v (.int .i64 (k:Int))).run Tryz.prog W= .ok u W)∧Gs w u (l.take k)∧(∀a m cap,v= .slice a m cap→u= .slice a k cap):=by
 obtain⟨i0,hi,hz0,hz1,hz2⟩:=PU qK;exact Fs.front Tryz.underlying26 hi h k hk
theorem wR {w:World} {v:Value} {l:List Gly} (h:Gs w v l) (k:Nat) (hk:k≤l.length):
  ∃u,(∀W:World,(Mq v (.int .i64 (k:Int))).run Tryz.prog W= .ok u W)∧Gs w u (l.drop k):=by
 obtain⟨i0,hi,hz0,hz1,hz2⟩:=PU qK;exact Fs.back Tryz.underlying26 hi hz1 h k hk
attribute [local go_sem ↓ high] cO
theorem fq (l:List Gly) (v:Value) (w:World) (hv:Gs w v l) (hl:l.length≤200000):
  Calls Tryz.prog 126 #[v] w fun e w'=> ∃u,e= .returned u∧aI w.heap.size w' u l∧Below w.heap.size w w':=by
 have HV:=zH hv;obtain⟨a,cap,rfl,-,hr⟩:=hv
 cases a with
 | none=>
  obtain rfl:l=[]:=by
   cases l with
   | nil=>rfl
   | cons x l=>obtain⟨g,off,h0,_⟩:=hr 0 x rfl;cases h0
  clear hr;have hnil:(binOp .eql 26 (.slice none 0 cap) (.slice none 0 0)).run Tryz.prog w= .ok (.bool true) w:=Qz w 26 35 none 0 cap 0 0 Tryz.underlying26;simp only[Pm];go_enter Tryz.func126,Tryz.ntmps126
  go_wp2_with fail
  go_ret;exact⟨_,rfl,ag.nil _ _,OX _ _⟩
 | some a=>
  clear hr;have b1:=af w (.cells #[] 35);have o1:aI w.heap.size (w.alloc (.cells #[] 35)) (.slice (some ⟨w.heap.size,0,none⟩) 0 0) []:=jL ah w (OW _) [] (by simp);obtain⟨x',w',k1,o2,g2,-⟩:=cB o1 (Fs.below HV.out b1) (by simp) (by simp;omega);have b2:=zH (o1.below b1 (by simp) g2);have O2:=zH o2;have hnil:(binOp .eql 26 (.slice (some a) l.length cap) (.slice none 0 0)).run Tryz.prog w= .ok (.bool false) w:=Qz w 26 35 (some a) l.length cap 0 0 Tryz.underlying26;clear o1 o2 g2 b1;go_enter Tryz.func126,Tryz.ntmps126
  go_wp2_with fail
  go_ret;exact⟨_,rfl,O2.out,b2.out⟩
end
section
open Go.RowKit
abbrev dm:=Bool×List (List Gly)
structure Tab where
 cols:List UInt8
 rows:List dm
 box:Bool
 all:Bool
deriving DecidableEq
structure Hd where
 kind:Int
 line:Int
 n:Int
 text:List Gly
 rows:List (List Gly)
 grid:Tab
deriving DecidableEq
inductive Nd where
 | mk (h:Hd) (kids:List Nd)
def Nd.hd:Nd→Hd
 | .mk h _=>h
def Nd.kids:Nd→List Nd
 | .mk _ k=>k
def lens {α:Type} (l:List (List α)):Nat:=(l.map List.length).sum
def trl (t:dm):Nat:=1+t.2.length+lens t.2
def bX (l:List dm):Nat:=(l.map trl).sum
def hdl (h:Hd):Nat:=3+h.text.length+h.grid.cols.length+(h.rows.length+lens h.rows)+bX h.grid.rows
mutual
def fK:Nd→Nat
 | .mk _ ks=>1+aG ks
def aG:List Nd→Nat
 | []=>0
 | x::l=>fK x+aG l
end
mutual
def dpN:Nd→Nat
 | .mk _ ks=>1+dpL ks
def dpL:List Nd→Nat
 | []=>0
 | x::l=>max (dpN x) (dpL l)
end
mutual
def nlN:Nd→Nat
 | .mk h ks=>hdl h+nlL ks
def nlL:List Nd→Nat
 | []=>0
 | x::l=>nlN x+nlL l
end
theorem jf (y:Nd):fK y=1+aG y.kids:=by cases y;simp[fK,Nd.kids]
theorem Jo (y:Nd):dpN y=1+dpL y.kids:=by cases y;simp[dpN,Nd.kids]
theorem BV (y:Nd):nlN y=hdl y.hd+nlL y.kids:=by cases y;simp[nlN,Nd.kids,Nd.hd]
theorem iU: ∀(a b:List Nd),aG (a++b)=aG a+aG b
 | [],b=>by simp[aG]
 | x::a,b=>by simp only[PR,aG,iU a b];omega
theorem eG: ∀(a b:List Nd),nlL (a++b)=nlL a+nlL b
 | [],b=>by simp[nlL]
 | x::a,b=>by simp only[PR,nlL,eG a b];omega
theorem uG {l:List Nd} {p:Nat} {y:Nd} (hy:l[p]? =some y):aG (l.take (p+1))=aG (l.take p)+(1+aG y.kids):=by
 rw[PD,hy,iU];simp only[Option.toList_some,aG,jf];omega
theorem KN {l:List Nd} {p:Nat} {y:Nd} (hy:l[p]? =some y):nlL (l.take (p+1))=nlL (l.take p)+(hdl y.hd+nlL y.kids):=by
 rw[PD,hy,eG];simp only[Option.toList_some,nlL,BV];omega
theorem Jp (l:List Nd) (p:Nat):aG (l.take p)≤aG l:=by
 have h:=iU (l.take p) (l.drop p);rw[Qv]at h;omega
theorem KJ (l:List Nd) (p:Nat):nlL (l.take p)≤nlL l:=by
 have h:=eG (l.take p) (l.drop p);rw[Qv]at h;omega
theorem uH {l:List Nd} {p:Nat} {y:Nd} (hy:l[p]? =some y):1+aG y.kids+aG (l.take p)≤aG l:=by
 have h1:=uG hy;have h2:=Jp l (p+1);omega
theorem wu {l:List Nd} {p:Nat} {y:Nd} (hy:l[p]? =some y):hdl y.hd+nlL y.kids+nlL (l.take p)≤nlL l:=by
 have h1:=KN hy;have h2:=KJ l (p+1);omega
theorem mW: ∀l:List Nd,l.length≤aG l
 | []=>by simp[aG]
 | x::l=>by
  have:=mW l;have:=jf x;simp only[aG,Pe];omega
mutual
theorem LC: ∀x:Nd,dpN x≤fK x
 | .mk _ ks=>by
  have:=El ks;simp only[dpN,fK];omega
theorem El: ∀l:List Nd,dpL l≤aG l
 | []=>by simp[dpL,aG]
 | x::l=>by
  have:=LC x;have:=El l;simp only[dpL,aG];omega
end
mutual
theorem LG: ∀x:Nd,3*fK x≤nlN x
 | .mk h ks=>by
  have:=mV ks;simp only[nlN,fK];unfold hdl;omega
theorem mV: ∀l:List Nd,3*aG l≤nlL l
 | []=>by simp[nlL,aG]
 | x::l=>by
  have:=LG x;have:=mV l;simp only[nlL,aG];omega
end
theorem FP {α:Type} {l:List (List α)} {p:Nat} {x:List α} (hx:l[p]? =some x):lens (l.take (p+1))=lens (l.take p)+x.length:=by
 rw[PD,hx];simp[lens]
theorem FO {α:Type} (l:List (List α)) (p:Nat):lens (l.take p)≤lens l:=by
 have h:lens (l.take p++l.drop p)=lens (l.take p)+lens (l.drop p):=by unfold lens;rw[QI,List.sum_append]
 rw[Qv]at h;omega
theorem kH {α:Type} {l:List (List α)} {p:Nat} {x:List α} (hx:l[p]? =some x):x.length+lens (l.take p)≤lens l:=by
 have h1:=FP hx;have h2:=FO l (p+1);omega
theorem Ez {l:List dm} {p:Nat} {x:dm} (hx:l[p]? =some x):bX (l.take (p+1))=bX (l.take p)+trl x:=by
 rw[PD,hx];simp[bX]
theorem Ey (l:List dm) (p:Nat):bX (l.take p)≤bX l:=by
 have h:bX (l.take p++l.drop p)=bX (l.take p)+bX (l.drop p):=by unfold bX;rw[QI,List.sum_append]
 rw[Qv]at h;omega
theorem nW {l:List dm} {p:Nat} {x:dm} (hx:l[p]? =some x):trl x+bX (l.take p)≤bX l:=by
 have h1:=Ez hx;have h2:=Ey l (p+1);omega
theorem jy: ∀l:List dm,l.length≤bX l
 | []=>by simp[bX]
 | x::l=>by
  have:=jy l;simp only[bX,PL,QZ,Pe]at this ⊢;unfold trl at this ⊢;omega
def Kp (S:Nat→Prop) (w w':World):Prop:= ∀b,S b→w'.heap[b]? =w.heap[b]?
theorem Kp.below {S:Nat→Prop} {D:Nat} {w w':World} (h:Below D w w') (hS: ∀b,S b→b<D):Kp S w w':=fun b hb=>h.block b (hS b hb)
theorem Kp.grown {S:Nat→Prop} {w w':World} {row:Option Nat} (h:w.grownBy w' row) (hS: ∀b,S b→b<w.heap.size∧some b≠row):Kp S w w':=fun b hb=>h.block b (hS b hb).1 (hS b hb).2
def foot (S:Nat→Prop) (w:World) (n:Nat) (v:Value):Prop:= ∀a k c,v= .slice (some a) k c→0<k→S a.block∧(¬S 0→ ∀i,i<k*n→w.frozen? ⟨a.block,a.off+i,none⟩=false)
def FsS {α:Type} (S:Nat→Prop) (n:Nat) (f:α→List Value) (w:World) (v:Value) (l:List α):Prop:=Fs n f w v l∧foot S w n v
theorem FsS.keep {α:Type} {S:Nat→Prop} {n:Nat} {f:α→List Value} {w w':World} {v:Value} {l:List α} (h:FsS S n f w v l) (hk:Kp S w w'):FsS S n f w' v l:=by
 obtain⟨⟨a,cap,rfl,hc,hr⟩,hf⟩:=h;refine⟨⟨a,cap,rfl,hc,fun j x hj=>?_⟩,fun a' k c e hpos=>⟨(hf a' k c e hpos).1,fun h0 i hi=>(World.frozen?_of_block (w:=w) (a:=⟨a'.block,a'.off+i,none⟩) (hk a'.block (hf a' k c e hpos).1)).trans ((hf a' k c e hpos).2 h0 i hi)⟩⟩;obtain⟨b,off,rfl,h0⟩:=hr j x hj;have hS:S b:=(hf _ _ _ rfl (by have:=(OV.1 hj).1;omega)).1;exact⟨b,off,rfl,fun i c hi=>(P7 (hk b hS)).trans (h0 i c hi)⟩
theorem FsS.mono {α:Type} {S T:Nat→Prop} {n:Nat} {f:α→List Value} {w:World} {v:Value} {l:List α} (h:FsS S n f w v l) (hST: ∀b,S b→T b):FsS T n f w v l:=
 ⟨h.1,fun a k c e hk=>⟨hST _ (h.2 a k c e hk).1,fun h0=>(h.2 a k c e hk).2 (fun q=>h0 (hST 0 q))⟩⟩
theorem FsS.nil {α:Type} (S:Nat→Prop) (n:Nat) (f:α→List Value) (w:World):FsS S n f w (.slice none 0 0) ([]:List α):=⟨Fs.nil w,fun a k c e _=>by injection e with e1;cases e1⟩
theorem FsS.at {α:Type} {S:Nat→Prop} {n:Nat} {f:α→List Value} {w:World} {a:Option Addr} {k cap:Nat} {l:List α} (h:FsS S n f w (.slice a k cap) l) {j:Nat} {x:α} (hx:l[j]? =some x):
  ∃g off,a=some ⟨g,off,none⟩∧S g∧ ∀i c,(f x)[i]? =some c→w.cell? ⟨g,off+(j*n+i),none⟩=some c:=by
 obtain⟨⟨a',cap',hv,hc,hr⟩,hf⟩:=h;injection hv with h1 h2 h3
 subst h1;obtain⟨b,off,rfl,h0⟩:=hr j x hx;exact⟨b,off,rfl,(hf _ _ _ rfl (by have:=(OV.1 hx).1;omega)).1,h0⟩
abbrev PV:=Option Addr×Nat×Nat
def pv (s:PV):Value:= .slice s.1 s.2.1 s.2.2
def aS (s:PV):List Value:=[pv s]
theorem bO (s:PV):(aS s).length=1:=rfl
theorem pV (s:PV): ∀u∈aS s,u.oneCell'=true:=by
 intro u hu;simp[aS,pv]at hu;subst hu;rfl
def bY (x:Bool×PV):List Value:=[.bool x.1,pv x.2]
theorem dI (x:Bool×PV):(bY x).length=2:=rfl
theorem rW (x:Bool×PV): ∀u∈bY x,u.oneCell'=true:=by
 intro u hu;simp[bY,pv]at hu;rcases hu with rfl | rfl<;>rfl
def GrS (S:Nat→Prop) (w:World) (v:Value) (l:List (List Gly)):Prop:=
 ∃L:List PV,L.length=l.length∧FsS S 1 aS w v L∧ ∀(i:Nat) s r,L[i]? =some s→l[i]? =some r→FsS S 2 aX w (pv s) r
def TrS (S:Nat→Prop) (w:World) (v:Value) (l:List dm):Prop:=
 ∃L:List (Bool×PV),L.length=l.length∧FsS S 2 bY w v L∧ ∀(i:Nat) s r,L[i]? =some s→l[i]? =some r→s.1=r.1∧GrS S w (pv s.2) r.2
theorem GrS.keep {S:Nat→Prop} {w w':World} {v:Value} {l:List (List Gly)} (h:GrS S w v l) (hk:Kp S w w'):GrS S w' v l:=by
 obtain⟨L,h1,h2,h3⟩:=h;exact⟨L,h1,h2.keep hk,fun i s r hs hr=>(h3 i s r hs hr).keep hk⟩
theorem TrS.keep {S:Nat→Prop} {w w':World} {v:Value} {l:List dm} (h:TrS S w v l) (hk:Kp S w w'):TrS S w' v l:=by
 obtain⟨L,h1,h2,h3⟩:=h;exact⟨L,h1,h2.keep hk,fun i s r hs hr=>⟨(h3 i s r hs hr).1,(h3 i s r hs hr).2.keep hk⟩⟩
theorem GrS.mono {S T:Nat→Prop} {w:World} {v:Value} {l:List (List Gly)} (h:GrS S w v l) (hST: ∀b,S b→T b):GrS T w v l:=by
 obtain⟨L,h1,h2,h3⟩:=h;exact⟨L,h1,h2.mono hST,fun i s r hs hr=>(h3 i s r hs hr).mono hST⟩
theorem TrS.mono {S T:Nat→Prop} {w:World} {v:Value} {l:List dm} (h:TrS S w v l) (hST: ∀b,S b→T b):TrS T w v l:=by
 obtain⟨L,h1,h2,h3⟩:=h;exact⟨L,h1,h2.mono hST,fun i s r hs hr=>⟨(h3 i s r hs hr).1,(h3 i s r hs hr).2.mono hST⟩⟩
theorem GrS.nil (S:Nat→Prop) (w:World):GrS S w (.slice none 0 0) []:=⟨[],rfl,FsS.nil _ _ _ _,fun i s r h=>by simp at h⟩
theorem TrS.nil (S:Nat→Prop) (w:World):TrS S w (.slice none 0 0) []:=⟨[],rfl,FsS.nil _ _ _ _,fun i s r h=>by simp at h⟩
theorem GrS.len {S:Nat→Prop} {w:World} {v:Value} {l:List (List Gly)} (h:GrS S w v l): ∃a cap,v= .slice a l.length cap:=by
 obtain⟨L,h1,h2,-⟩:=h;obtain⟨a,cap,e⟩:=h2.1.len;exact⟨a,cap,h1▸e⟩
theorem TrS.len {S:Nat→Prop} {w:World} {v:Value} {l:List dm} (h:TrS S w v l): ∃a cap,v= .slice a l.length cap:=by
 obtain⟨L,h1,h2,-⟩:=h;obtain⟨a,cap,e⟩:=h2.1.len;exact⟨a,cap,h1▸e⟩
theorem GrS.at {S:Nat→Prop} {w:World} {a:Option Addr} {k cap:Nat} {l:List (List Gly)} (h:GrS S w (.slice a k cap) l) {j:Nat} {r:List Gly} (hr:l[j]? =some r):
  ∃g off b c,a=some ⟨g,off,none⟩∧S g∧w.cell? ⟨g,off+j,none⟩=some (.slice b r.length c)∧FsS S 2 aX w (.slice b r.length c) r:=by
 obtain⟨L,h1,h2,h3⟩:=h;obtain⟨s,hs⟩: ∃s,L[j]? =some s:=⟨L[j]'(by have:=(OV.1 hr).1;omega),OU _⟩;obtain⟨g,off,e,hg,hc⟩:=h2.at hs;have h4:=h3 j s r hs hr;obtain⟨b,c,e2⟩:=h4.1.len;have c0:=hc 0 _ rfl;rw[QU,PW,e2]at c0;rw[e2]at h4;exact⟨g,off,b,c,e,hg,c0,h4⟩
theorem TrS.at {S:Nat→Prop} {w:World} {a:Option Addr} {k cap:Nat} {l:List dm} (h:TrS S w (.slice a k cap) l) {j:Nat} {r:dm} (hr:l[j]? =some r):
  ∃g off b c,a=some ⟨g,off,none⟩∧S g∧w.cell? ⟨g,off+j*2,none⟩=some (.bool r.1)∧w.cell? ⟨g,off+j*2+1,none⟩=some (.slice b r.2.length c)∧GrS S w (.slice b r.2.length c) r.2:=by
 obtain⟨L,h1,h2,h3⟩:=h;obtain⟨s,hs⟩: ∃s,L[j]? =some s:=⟨L[j]'(by have:=(OV.1 hr).1;omega),OU _⟩;obtain⟨g,off,e,hg,hc⟩:=h2.at hs;obtain⟨e1,h4⟩:=h3 j s r hs hr;obtain⟨b,c,e2⟩:=h4.len;have c0:=hc 0 _ rfl;have c1:=hc 1 _ rfl;rw[e1]at c0;rw[e2]at c1 h4;exact⟨g,off,b,c,e,hg,c0,c1,h4⟩
structure NV where
 kind:Int
 line:Int
 n:Int
 text:PV
 kids:PV
 rows:PV
 cols:List UInt8
 trows:PV
 box:Bool
 all:Bool
def ae (x:NV):List Value:=[.int .i64 x.kind,.int .i64 x.line,.int .i64 x.n,pv x.text,pv x.kids,pv x.rows,.string ⟨x.cols.toArray⟩,pv x.trows,.bool x.box,.bool x.all]
theorem ay (x:NV):(ae x).length=10:=rfl
theorem jF (x:NV): ∀u∈ae x,u.oneCell'=true:=by
 intro u hu;simp[ae,pv]at hu;rcases hu with rfl | rfl | rfl | rfl | rfl | rfl | rfl | rfl | rfl | rfl<;>rfl
structure bV (S:Nat→Prop) (w:World) (x:NV) (h:Hd):Prop where
 kind:x.kind=h.kind
 line:x.line=h.line
 n:x.n=h.n
 text:FsS S 2 aX w (pv x.text) h.text
 rows:GrS S w (pv x.rows) h.rows
 cols:x.cols=h.grid.cols
 trows:TrS S w (pv x.trows) h.grid.rows
 box:x.box=h.grid.box
 all:x.all=h.grid.all
theorem bV.keep {S:Nat→Prop} {w w':World} {x:NV} {h:Hd} (k:bV S w x h) (hk:Kp S w w'):bV S w' x h:=
 ⟨k.kind,k.line,k.n,k.text.keep hk,k.rows.keep hk,k.cols,k.trows.keep hk,k.box,k.all⟩
theorem bV.mono {S T:Nat→Prop} {w:World} {x:NV} {h:Hd} (k:bV S w x h) (hST: ∀b,S b→T b):bV T w x h:=
 ⟨k.kind,k.line,k.n,k.text.mono hST,k.rows.mono hST,k.cols,k.trows.mono hST,k.box,k.all⟩
inductive NsS (S:Nat→Prop) (w:World):Value→List Nd→Prop where
 | mk (v:Value) (l:List Nd) (L:List NV) (hl:L.length=l.length) (hs:FsS S 10 ae w v L) (hh: ∀(i:Nat) x y,L[i]? =some x→l[i]? =some y→bV S w x y.hd)
   (hk: ∀(i:Nat) x y,L[i]? =some x→l[i]? =some y→NsS S w (pv x.kids) y.kids):NsS S w v l
theorem NsS.keep {S:Nat→Prop} {w w':World} {v:Value} {l:List Nd} (h:NsS S w v l) (k:Kp S w w'):NsS S w' v l:=by
 induction h with
 | mk v l L hl hs hh hk ih=>exact .mk v l L hl (hs.keep k) (fun i x y h1 h2=>(hh i x y h1 h2).keep k) ih
theorem NsS.mono {S T:Nat→Prop} {w:World} {v:Value} {l:List Nd} (h:NsS S w v l) (hST: ∀b,S b→T b):NsS T w v l:=by
 induction h with
 | mk v l L hl hs hh hk ih=>exact .mk v l L hl (hs.mono hST) (fun i x y h1 h2=>(hh i x y h1 h2).mono hST) ih
theorem NsS.nil (S:Nat→Prop) (w:World):NsS S w (.slice none 0 0) []:= .mk _ _ [] rfl (FsS.nil _ _ _ _) (fun i x y h=>by simp at h) (fun i x y h=>by simp at h)
theorem NsS.len {S:Nat→Prop} {w:World} {v:Value} {l:List Nd} (h:NsS S w v l): ∃a cap,v= .slice a l.length cap:=by
 cases h with
 | mk _ _ L hl hs hh hk=>
  obtain⟨a,cap,e⟩:=hs.1.len;exact⟨a,cap,hl▸e⟩
structure NAt (S:Nat→Prop) (w:World) (g o:Nat) (y:Nd) (text kids rows trows:PV):Prop where
 c0:w.cell? ⟨g,o,none⟩=some (.int .i64 y.hd.kind)
 c1:w.cell? ⟨g,o+1,none⟩=some (.int .i64 y.hd.line)
 c2:w.cell? ⟨g,o+2,none⟩=some (.int .i64 y.hd.n)
 c3:w.cell? ⟨g,o+3,none⟩=some (.slice text.1 y.hd.text.length text.2.2)
 c4:w.cell? ⟨g,o+4,none⟩=some (.slice kids.1 y.kids.length kids.2.2)
 c5:w.cell? ⟨g,o+5,none⟩=some (.slice rows.1 y.hd.rows.length rows.2.2)
 c6:w.cell? ⟨g,o+6,none⟩=some (.string ⟨y.hd.grid.cols.toArray⟩)
 c7:w.cell? ⟨g,o+7,none⟩=some (.slice trows.1 y.hd.grid.rows.length trows.2.2)
 c8:w.cell? ⟨g,o+8,none⟩=some (.bool y.hd.grid.box)
 c9:w.cell? ⟨g,o+9,none⟩=some (.bool y.hd.grid.all)
 blk:S g
 text:FsS S 2 aX w (.slice text.1 y.hd.text.length text.2.2) y.hd.text
 kids:NsS S w (.slice kids.1 y.kids.length kids.2.2) y.kids
 rows:GrS S w (.slice rows.1 y.hd.rows.length rows.2.2) y.hd.rows
 trows:TrS S w (.slice trows.1 y.hd.grid.rows.length trows.2.2) y.hd.grid.rows
theorem oD {s:PV} {a:Option Addr} {n c:Nat} (h:pv s= .slice a n c):s=(a,n,c):=by
 obtain⟨s0,s1,s2⟩:=s;unfold pv at h;injection h with h1 h2 h3
 simp only at h1 h2 h3;subst h1 h2 h3;rfl
theorem NsS.at {S:Nat→Prop} {w:World} {a:Option Addr} {k cap:Nat} {l:List Nd} (h:NsS S w (.slice a k cap) l) {j:Nat} {y:Nd} (hy:l[j]? =some y):
  ∃g off text kids rows trows,a=some ⟨g,off,none⟩∧NAt S w g (off+j*10) y text kids rows trows:=by
 cases h with
 | mk _ _ L hl hs hh hk=>
  obtain⟨x,hx⟩: ∃x,L[j]? =some x:=⟨L[j]'(by have:=(OV.1 hy).1;omega),OU _⟩;obtain⟨g,off,e,hg,hc⟩:=hs.at hx;have H:=hh j x y hx hy;have K:=hk j x y hx hy;obtain⟨t1,t2,et⟩:=H.text.1.len;obtain⟨k1,k2,ek⟩:=K.len;obtain⟨r1,r2,er⟩:=H.rows.len;obtain⟨q1,q2,eq⟩:=H.trows.len;have hT:=H.text;have hR:=H.rows;have hQ:=H.trows;rw[et]at hT;rw[ek]at K;rw[er]at hR;rw[eq]at hQ;have hcell: ∀i c,(ae x)[i]? =some c→w.cell? ⟨g,off+j*10+i,none⟩=some c:=fun i c h=>by rw[Nat.add_assoc];exact hc i c h
  refine⟨g,off,(t1,y.hd.text.length,t2),(k1,y.kids.length,k2),(r1,y.hd.rows.length,r2),(q1,y.hd.grid.rows.length,q2),e,
   ⟨hcell 0 _ (by simp[ae,H.kind]),hcell 1 _ (by simp[ae,H.line]),hcell 2 _ (by simp[ae,H.n]),hcell 3 _ (by simp[ae,et]),hcell 4 _ (by simp[ae,ek]),hcell 5 _ (by simp[ae,er]),hcell 6 _ (by simp[ae,H.cols]),hcell 7 _ (by simp[ae,eq]),hcell 8 _ (by simp[ae,H.box]),hcell 9 _ (by simp[ae,H.all]),hg,hT,K,hR,hQ⟩⟩
end
section
def trm:List Gly→List Gly
 | []=>[]
 | g::l=>if trm l=[]∧g.1=32 then [] else g::trm l
def sqA:Bool→List Gly→List Gly
 | _,[]=>[]
 | b,g::l=>if g.1=32 then(if b then(32,0)::sqA false l else sqA false l) else g::sqA true l
def sqz (l:List Gly):List Gly:=sqA false (trm l)
def sqd (l:List Gly):Bool:=decide (sqz l=l)
theorem fE (g:Gly) (l:List Gly):trm (g::l)=if trm l=[]∧g.1=32 then [] else g::trm l:=rfl
theorem G6: ∀l:List Gly,trm (trm l)=trm l
 | []=>rfl
 | g::l=>by
  have ih:=G6 l;rw[fE]
  split
  ·rfl
  ·rename_i h
   rw[fE,ih,Pd h]
theorem vQ: ∀l:List Gly,(trm l).filter (fun g=>g.1 != 32)=l.filter (fun g=>g.1 != 32)
 | []=>rfl
 | g::l=>by
  have ih:=vQ l;rw[fE]
  split
  ·rename_i h
   rw[h.1]at ih;rw[QL (by simp[h.2]),←ih]
  ·by_cases hg:g.1=32
   ·rw[QL (by simp[hg]),QL (by simp[hg]),ih]
   ·rw[Q5 (by simp[hg]),Q5 (by simp[hg]),ih]
theorem Dt: ∀l:List Gly,(trm l).length≤l.length
 | []=>by simp[trm]
 | g::l=>by
  have ih:=Dt l;rw[fE]
  split
  ·simp
  ·simp only[Pe];omega
theorem jC (b:Bool) {g:Gly} (h:g.1=32) (l:List Gly):sqA b (g::l)=if b then(32,0)::sqA false l else sqA false l:=by
 show(if g.1=32 then _ else _)=_;rw[Pk h]
theorem iD (b:Bool) {g:Gly} (h:g.1≠32) (l:List Gly):sqA b (g::l)=g::sqA true l:=by
 show(if g.1=32 then _ else _)=_;rw[Pd h]
theorem mr: ∀(b:Bool) (l:List Gly),(sqA b l).filter (fun g=>g.1 != 32)=l.filter (fun g=>g.1 != 32)
 | _,[]=>rfl
 | b,g::l=>by
  by_cases hg:g.1=32
  ·rw[jC b hg,QL (by simp[hg])]
   cases b
   ·exact mr false l
   ·rw[Pk rfl,QL (by simp)]
    exact mr false l
  ·rw[iD b hg,Q5 (by simp[hg]),Q5 (by simp[hg]),mr true l]
theorem xz: ∀(b:Bool) (l:List Gly),(sqA b l).length≤l.length
 | _,[]=>by simp[sqA]
 | b,g::l=>by
  by_cases hg:g.1=32
  ·rw[jC b hg]
   have:=xz false l
   cases b
   ·simp only[Pe,PO,QO];omega
   ·simp only[if_true,Pe];omega
  ·rw[iD b hg]
   have:=xz true l;simp only[Pe];omega
theorem EF (l:List Gly):(sqz l).filter (fun g=>g.1 != 32)=l.filter (fun g=>g.1 != 32):=by
 unfold sqz;rw[mr,vQ]
theorem xy (l:List Gly):(sqz l).length≤l.length:=Pp (xz false _) (Dt l)
theorem Dx:sqz []=[]:=rfl
theorem Hr {l:List Gly} (h:sqd l=true):sqz l=l:=Qq h
def side (c:UInt8):Bool:=c==108 || c==99 || c==114
def jc (cols:List UInt8):List UInt8:=if(cols.filter side).take 20=[] then [108] else(cols.filter side).take 20
def eQ:Nat→List (List Gly)→List (List Gly)
 | 0,_=>[]
 | n+1,[]=>[]::eQ n []
 | n+1,c::l=>sqz c::eQ n l
def fT (n:Nat) (r:dm):dm:=(r.1,if r.1 then [] else eQ n r.2)
def mend (t:Tab):Tab:=⟨jc t.cols,t.rows.map (fT (jc t.cols).length),t.box,t.all&&t.box⟩
def rowOk (n:Nat) (r:dm):Bool:=(if r.1 then decide (r.2=[]) else decide (r.2.length=n))&&r.2.all sqd
def BP (t:Tab):Bool:=decide (1≤t.cols.length)&&decide (t.cols.length≤20)&& !(t.all&& !t.box)&&t.cols.all side&&t.rows.all (rowOk t.cols.length)
theorem nL: ∀(n:Nat) (l:List (List Gly)),(eQ n l).length=n
 | 0,_=>rfl
 | n+1,[]=>by simp[eQ,nL n []]
 | n+1,c::l=>by simp[eQ,nL n l]
theorem qF: ∀(l:List (List Gly)),l.all sqd=true→eQ l.length l=l
 | [],_=>rfl
 | c::l,h=>by
  simp only[List.all_cons,PI]at h;show sqz c::eQ l.length l=c::l;rw[Hr h.1,qF l h.2]
theorem Ag (c:List UInt8):1≤(jc c).length∧(jc c).length≤20∧(jc c).all side=true:=by
 unfold jc
 split
 ·exact⟨by decide,by decide,by decide⟩
 ·rename_i h
  refine⟨?_,?_,?_⟩
  ·have:=PS.2 h
   omega
  ·rw[Pg];omega
  ·rw[List.all_eq_true]
   intro x hx;exact(List.mem_filter.1 (Qb hx)).2
theorem Cn {c:List UInt8} (h1:1≤c.length) (h2:c.length≤20) (h3:c.all side=true):jc c=c:=by
 have e:c.filter side=c:=List.filter_eq_self.2 (List.all_eq_true.1 h3);unfold jc;rw[e,Pz h2,Pd (fun e=>by rw[e]at h1;simp at h1)]
theorem Fp {n:Nat} {r:dm} (h:rowOk n r=true):fT n r=r:=by
 obtain⟨b,l⟩:=r;unfold rowOk at h;unfold fT;simp only[PI]at h ⊢
 cases b
 ·have e:l.length=n:=by have:=h.1;simpa using this
  rw[←e];simp only[PO,QO];rw[qF l h.2]
 ·have e:l=[]:=by have:=h.1;simpa using this
  rw[e];rfl
theorem FJ {t:Tab} (h:BP t=true):mend t=t:=by
 obtain⟨c,r,b,a⟩:=t;unfold BP at h;simp only[PI,PQ]at h;obtain⟨⟨⟨⟨h1,h2⟩,h3⟩,h4⟩,h5⟩:=h;unfold mend;simp only[Cn h1 h2 h4];have e:r.map (fT c.length)=r:=by
  conv=>rhs;rw[←List.map_id r]
  refine List.map_congr_left fun x hx=>Fp (List.all_eq_true.1 h5 x hx)
 rw[e];have e2:(a&&b)=a:=by revert h3;cases a<;>cases b<;>simp
 rw[e2]
end
section
def stands (k w:Int):Bool:=(k==1&&w==0)|| (k==2&&w==1)|| (decide (3≤k)&&decide (k≤7))
def aW:Tab:=⟨[],[],false,false⟩
def isNone (t:Tab):Bool:=decide (t.cols=[])&&decide (t.rows=[])&& !t.box&& !t.all
def jg (lo hi x:Int):Int:=max lo (min x hi)
def aQ (h:Hd) (k:Int):Hd:=
 ⟨k,jg 0 1099511627775 h.line,if k=4∨k=5 then jg 0 200 h.n else 0,if 1≤k∧k≤4 then sqz h.text else [],if k=6 then h.rows else [],if k=7 then mend h.grid else aW⟩
def aV (h:Hd) (kids:Bool):Bool:=
 if 1≤h.kind∧h.kind≤3 then decide (h.text≠ []) else if h.kind=5 then kids else if h.kind=6 then decide (h.rows≠ []) else h.kind==4 || (h.kind==7&&decide (h.grid.rows≠ []))
def jJ {α:Type} (l:List α):Bool:= !l.isEmpty
def aB (k w:Int):Int:=if(k=1∨k=2)∧stands k w=false then 3 else k
def fI (k:Int):Bool:=k==1 || k==2 || k==4 || k==5
def dA (h:Hd) (w:Int):Bool:=fI h.kind&&aB h.kind w==h.kind&&(aB h.kind w==5 || aV (aQ h (aB h.kind w)) false)
mutual
def tdN:Nd→Int→Nat→Nat→List Nd×Nat
 | .mk h ks,w,d,n=>
  if dA h w then
   (if aV (aQ h (aB h.kind w)) (jJ (tdL ks (aB h.kind w) (d+1) n).1) then [.mk (aQ h (aB h.kind w)) (tdL ks (aB h.kind w) (d+1) n).1] else [],(tdL ks (aB h.kind w) (d+1) n).2)
  else
   ((if aV (aQ h (aB h.kind w)) false then [.mk (aQ h (aB h.kind w)) []] else [])++(if fI h.kind then(tdL ks w d n).1 else []),if fI h.kind then(tdL ks w d n).2 else n)
def tdL:List Nd→Int→Nat→Nat→List Nd×Nat
 | [],_,_,n=>([],n)
 | x::l,w,d,n=>if n=0∨20≤d then([],n) else((tdN x w d (n-1)).1++(tdL l w d (tdN x w d (n-1)).2).1,(tdL l w d (tdN x w d (n-1)).2).2)
end
def qx (l:List Nd):List Nd:=(tdL l 0 0 20000).1
def sP (h:Hd) (kids:Bool) (w:Int):Bool:=
 stands h.kind w&&aV h kids&&decide (0≤h.line)&&decide (h.line≤1099511627775)&&sqd h.text&&decide (0≤h.n)&&decide (h.n≤200)&&(decide (h.n=0)|| h.kind==4 || h.kind==5)&&(decide (h.text=[])|| (decide (1≤h.kind)&&decide (h.kind≤4)))&&(!kids || fI h.kind)&&
  (decide (h.rows=[])|| h.kind==6)&&(if h.kind=7 then BP h.grid else isNone h.grid)
mutual
def rtN:Nd→Int→Bool
 | .mk h ks,w=>sP h (jJ ks) w&&rtL ks h.kind
def rtL:List Nd→Int→Bool
 | [],_=>true
 | x::l,w=>rtN x w&&rtL l w
end
theorem qZ (w:Int) (d n:Nat):tdL [] w d n=([],n):=by simp[tdL]
theorem om (x:Nd) (l:List Nd) (w:Int) (d n:Nat):tdL (x::l) w d n=if n=0∨20≤d then([],n) else((tdN x w d (n-1)).1++(tdL l w d (tdN x w d (n-1)).2).1,(tdL l w d (tdN x w d (n-1)).2).2):=by
 conv=>lhs;unfold tdL
theorem xu (h:Hd) (ks:List Nd) (w:Int) (d n:Nat):tdN (.mk h ks) w d n=if dA h w then
   (if aV (aQ h (aB h.kind w)) (jJ (tdL ks (aB h.kind w) (d+1) n).1) then [.mk (aQ h (aB h.kind w)) (tdL ks (aB h.kind w) (d+1) n).1] else [],(tdL ks (aB h.kind w) (d+1) n).2)
  else
   ((if aV (aQ h (aB h.kind w)) false then [.mk (aQ h (aB h.kind w)) []] else [])++(if fI h.kind then(tdL ks w d n).1 else []),if fI h.kind then(tdL ks w d n).2 else n):=by
 conv=>lhs;unfold tdN
end
section
theorem wM {lo hi x:Int} (h1:lo≤x) (h2:x≤hi):jg lo hi x=x:=by unfold jg;omega
theorem qJ (k w:Int):(aB k w=3∧(k=1∨k=2)∧stands k w=false)∨(aB k w=k∧((k=1∨k=2)→stands k w=true)):=by
 unfold aB
 by_cases h:(k=1∨k=2)∧stands k w=false
 ·rw[Pk h]
  exact .inl ⟨rfl,h⟩
 ·rw[Pd h]
  refine .inr ⟨rfl,fun hk=>?_⟩
  cases hs:stands k w with
  | true=>rfl
  | false=>exact absurd ⟨hk,hs⟩ h
theorem NJ {h:Hd} {b:Bool} (hf:aV h b=true):1≤h.kind∧h.kind≤7:=by
 unfold aV at hf
 split at hf
 ·omega
 ·split at hf
  ·omega
  ·split at hf
   ·omega
   ·simp only[QD,PI,QB]at hf
    omega
theorem Cz {h:Hd} {w:Int} (hi:dA h w=true):fI h.kind=true∧aB h.kind w=h.kind∧(h.kind=5∨aV (aQ h h.kind) false=true):=by
 unfold dA at hi;simp only[PI,QD,QB]at hi;obtain⟨⟨h1,h2⟩,h3⟩:=hi;refine⟨h1,h2,?_⟩;rw[h2]at h3;exact h3
theorem FW {t:Tab} (h:isNone t=true):t=aW:=by
 obtain⟨c,r,b,a⟩:=t;unfold isNone at h;simp only[PI,PQ,Bool.not_eq_true']at h;obtain⟨⟨⟨rfl,rfl⟩,rfl⟩,rfl⟩:=h;rfl
theorem Im {h:Hd} {b:Bool} {w:Int} (hr:sP h b w=true):aQ h h.kind=h:=by
 unfold sP at hr;simp only[PI,QD,PQ,QB]at hr;obtain⟨⟨⟨⟨⟨⟨⟨⟨⟨⟨⟨-,-⟩,l1⟩,l2⟩,hsq⟩,n1⟩,n2⟩,n3⟩,ht⟩,-⟩,hrw⟩,hg⟩:=hr;obtain⟨k,ln,n,t,r,g⟩:=h;simp only at l1 l2 hsq n1 n2 n3 ht hrw hg;unfold aQ;simp only;have e1:jg 0 1099511627775 ln=ln:=wM l1 l2;have e2:(if k=4∨k=5 then jg 0 200 n else 0)=n:=by
  split
  ·exact wM n1 n2
  ·rename_i h45
   rcases n3 with(q | q)| q
   ·exact q.symm
   ·exact absurd (.inl q) h45
   ·exact absurd (.inr q) h45
 have e3:(if 1≤k∧k≤4 then sqz t else [])=t:=by
  split
  ·exact Hr hsq
  ·rename_i h14
   rcases ht with q | q
   ·exact q.symm
   ·exact absurd q h14
 have e4:(if k=6 then r else [])=r:=by
  split
  ·rfl
  ·rename_i h6
   rcases hrw with q | q
   ·exact q.symm
   ·exact absurd q h6
 have e5:(if k=7 then mend g else aW)=g:=by
  by_cases h7:k=7
  ·rw[Pk h7]at hg ⊢
   exact FJ hg
  ·rw[Pd h7]at hg ⊢
   exact(FW hg).symm
 rw[e1,e2,e3,e4,e5]
theorem xG {h:Hd} {b:Bool} {w:Int} (hr:sP h b w=true):stands h.kind w=true∧aV h b=true∧(b=true→fI h.kind=true):=by
 unfold sP at hr;simp only[PI]at hr;refine⟨hr.1.1.1.1.1.1.1.1.1.1.1,hr.1.1.1.1.1.1.1.1.1.1.2,fun hb=>?_⟩;have:=hr.1.1.2;rw[hb]at this
 simpa using this
theorem Ak {k w:Int} (h:stands k w=true):aB k w=k:=by
 unfold aB;rw[Pd (by rw[h];simp)]
theorem uw {h:Hd} {b:Bool} (hf:aV h b=true) (h5:h.kind≠5) (c:Bool):aV h c=true:=by
 unfold aV at hf ⊢
 split at hf
 ·rename_i q;rw[Pk q];exact hf
 ·rename_i q
  rw[Pd q,Pd h5];exact hf
theorem Ai (k:Int):fI k=true↔k=1∨k=2∨k=4∨k=5:=by
 unfold fI;simp only[QD,QB];omega
mutual
theorem Hg: ∀(x:Nd) (w:Int) (d n:Nat),rtN x w=true→dpN x+d≤20→fK x≤n+1→tdN x w d n=([x],n+1-fK x)
 | .mk h ks,w,d,n,hr,hd,hc=>by
  simp only[rtN,PI]at hr;obtain⟨hr,hk⟩:=hr;obtain⟨h1,h2,h3⟩:=xG hr;have ek:=Ak h1;have eo:=Im hr;simp only[dpN]at hd;simp only[fK]at hc ⊢;rw[xu];unfold dA;rw[ek,eo]
  by_cases hm:fI h.kind=true
  ·have hi:(fI h.kind&&h.kind==h.kind&&(h.kind==5 || aV h false))=true:=by
    rw[hm];simp only[Bool.true_and,beq_self_eq_true,QD,QB]
    by_cases h5:h.kind=5
    ·exact .inl h5
    ·exact .inr (uw h2 h5 false)
   rw[Pk hi,ze ks h.kind (d+1) n hk (by omega) (by omega)];simp only;rw[Pk h2]
   congr 1
   omega
  ·have hks:ks=[]:=by
    rcases ks with _ | ⟨x,l⟩
    ·rfl
    ·exact absurd (h3 rfl) hm
   subst hks;have hi: ¬(fI h.kind&&h.kind==h.kind&&(h.kind==5 || aV h false))=true:=by
    rw[Bool.eq_false_iff.2 hm];simp
   have h2':aV h false=true:=h2;rw[Pd hi,Pk h2',Pd hm,Pd hm];simp[aG]
theorem ze: ∀(l:List Nd) (w:Int) (d n:Nat),rtL l w=true→dpL l+d≤20→aG l≤n→tdL l w d n=(l,n-aG l)
 | [],w,d,n,_,_,_=>by rw[qZ];simp[aG]
 | x::l,w,d,n,hr,hd,hc=>by
  simp only[rtL,PI]at hr;simp only[dpL]at hd;simp only[aG]at hc ⊢;have hx:=jf x;have hx2:=Jo x;have h1:=Hg x w d (n-1) hr.1 (by omega) (by omega);rw[om,Pd (by omega),h1];simp only;have h2:=ze l w d (n-1+1-fK x) hr.2 (by omega) (by omega);rw[h2];simp only[Q8]
  congr 1
  omega
end
def ink (l:List Gly):List Gly:=l.filter fun g=>g.1 != 32
def gp (l:List (List Gly)):List Gly:=l.flatMap ink
def jI (h:Hd):List Gly:=ink h.text++gp h.rows++h.grid.rows.flatMap fun r=>gp r.2
mutual
def lvN:Nd→List Gly
 | .mk h ks=>jI h++lvL ks
def lvL:List Nd→List Gly
 | []=>[]
 | x::l=>lvN x++lvL l
end
def tK (h:Hd) (kids:Bool):Bool:=decide (1≤h.kind)&&decide (h.kind≤5)&&decide (h.rows=[])&&decide (h.grid.rows=[])&& !(h.kind==5&&decide (h.text≠ []))&& !(h.kind==3&&kids)
mutual
def plN:Nd→Bool
 | .mk h ks=>tK h (jJ ks)&&plL ks
def plL:List Nd→Bool
 | []=>true
 | x::l=>plN x&&plL l
end
theorem iq: ∀(a b:List Nd),lvL (a++b)=lvL a++lvL b
 | [],b=>by simp[lvL]
 | x::a,b=>by simp only[PR,lvL,iq a b,Pw]
theorem K8 {l:List Nd} {p:Nat} {y:Nd} (hy:l[p]? =some y):lvL (l.take (p+1))=lvL (l.take p)++(jI y.hd++lvL y.kids):=by
 rw[PD,hy,iq];obtain⟨h,ks⟩:=y;simp[lvL,lvN,Nd.hd,Nd.kids]
theorem yu (l:List Gly):ink (sqz l)=ink l:=EF l
theorem F7 {h:Hd} {b:Bool} (hk:1≤h.kind∧h.kind≤3) (hf: ¬aV h b=true):h.text=[]:=by
 unfold aV at hf;rw[Pk hk]at hf
 simpa using hf
mutual
theorem Hl: ∀(x:Nd) (w:Int) (d n:Nat),plN x=true→dpN x+d≤20→fK x≤n+1→lvL (tdN x w d n).1=lvN x∧n+1≤(tdN x w d n).2+fK x
 | .mk h ks,w,d,n,hp,hd,hc=>by
  simp only[plN,PI]at hp;obtain⟨hp,hk⟩:=hp;unfold tK at hp;simp only[PI,PQ,Bool.not_eq_true',Bool.and_eq_false_iff,QJ,decide_eq_false_iff_not,ne_eq]at hp;obtain⟨⟨⟨⟨⟨p1,p2⟩,p3⟩,p4⟩,p5⟩,p6⟩:=hp;simp only[dpN]at hd;simp only[fK]at hc ⊢;have hin:jI h=ink h.text:=by simp[jI,p3,p4,gp]
  have hown: ∀k,k≤5→jI (aQ h k)=ink (if 1≤k∧k≤4 then sqz h.text else []):=fun k hk5=>by
   unfold jI aQ;simp only;rw[Pd (show¬k=6 by omega),Pd (show¬k=7 by omega)];simp[aW,gp]
  have hk5:aB h.kind w≤5∧1≤aB h.kind w:=by
   rcases qJ h.kind w with⟨e,-⟩| ⟨e,-⟩<;>omega
  rw[xu];simp only[lvN];rw[hin]
  by_cases hi:dA h w=true
  ·rw[Pk hi]
   obtain⟨i1,i2,i3⟩:=Cz hi;obtain⟨h1,h2⟩:=oh ks (aB h.kind w) (d+1) n hk (by omega) (by omega);refine⟨?_,by simp only;omega⟩;simp only;rw[i2]at h1 ⊢
   by_cases h5:h.kind=5
   ·have ht:h.text=[]:=by
     rcases p5 with q | q
     ·exact absurd h5 q
     ·exact Classical.byContradiction fun hh=>q hh
    rw[ht]
    split
    ·simp only[lvL,lvN,Pn]
     rw[hown _ (by omega),Pd (by omega),h1]
    ·rename_i hf
     have hkids:(tdL ks h.kind (d+1) n).1=[]:=by
      unfold aV at hf;have e:(aQ h h.kind).kind=5:=h5;rw[e,Pd (by decide),Pk rfl]at hf
      cases hq:(tdL ks h.kind (d+1) n).1 with
      | nil=>rfl
      | cons a b=>rw[hq]at hf;exact absurd rfl hf
     rw[hkids]at h1;rw[←h1];rfl
   ·have hff:aV (aQ h h.kind) (jJ (tdL ks h.kind (d+1) n).1)=true:=by
     rcases i3 with q | q
     ·exact absurd q h5
     ·exact uw q h5 _
    rw[Pk hff];have hm:=(Ai h.kind).1 i1;simp only[lvL,lvN,Pn];rw[hown _ (by omega),Pk (by omega),yu,h1]
  ·rw[Pd hi]
   simp only;rw[iq];have h4:h.kind≠4:=fun e=>hi (by
    unfold dA;have ek:aB h.kind w=h.kind:=by unfold aB;rw[Pd (by omega)]
    rw[ek,e];simp[fI,aV,aQ])
   have h5:h.kind≠5:=fun e=>hi (by
    unfold dA;have ek:aB h.kind w=h.kind:=by unfold aB;rw[Pd (by omega)]
    rw[ek,e];simp[fI])
   have hk3:1≤aB h.kind w∧aB h.kind w≤3:=by
    rcases qJ h.kind w with⟨e,-⟩| ⟨e,-⟩<;>omega
   have hfirst:lvL (if aV (aQ h (aB h.kind w)) false=true then [Nd.mk (aQ h (aB h.kind w)) []] else [])=ink h.text:=by
    split
    ·simp only[lvL,lvN,Pn]
     rw[hown _ hk5.1,Pk (by omega),yu]
    ·rename_i hf
     have ht:=F7 (h:=aQ h (aB h.kind w)) hk3 hf;have e:(aQ h (aB h.kind w)).text=sqz h.text:=by
      unfold aQ;simp only;rw[Pk (by omega)]
     rw[e]at ht;rw[←yu,ht];rfl
   rw[hfirst]
   by_cases hm:fI h.kind=true
   ·rw[Pk hm,Pk hm]
    obtain⟨h1,h2⟩:=oh ks w d n hk (by omega) (by omega);exact⟨by rw[h1],by omega⟩
   ·rw[Pd hm,Pd hm]
    have h3:h.kind=3:=by
     have:=mt (Ai h.kind).2 hm;omega
    have hks:ks=[]:=by
     rcases p6 with q | q
     ·exact absurd h3 q
     ·cases ks with
      | nil=>rfl
      | cons a b=>cases q
    subst hks;exact⟨rfl,by omega⟩
theorem oh: ∀(l:List Nd) (w:Int) (d n:Nat),plL l=true→dpL l+d≤20→aG l≤n→lvL (tdL l w d n).1=lvL l∧n≤(tdL l w d n).2+aG l
 | [],w,d,n,_,_,_=>by rw[qZ];simp[aG]
 | x::l,w,d,n,hp,hd,hc=>by
  simp only[plL,PI]at hp;simp only[dpL]at hd;simp only[aG]at hc ⊢;have hx:=jf x;have hx2:=Jo x;obtain⟨h1,h2⟩:=Hl x w d (n-1) hp.1 (by omega) (by omega);obtain⟨h3,h4⟩:=oh l w d (tdN x w d (n-1)).2 hp.2 (by omega) (by omega);rw[om,Pd (by omega)];simp only;rw[iq,h1,h3];exact⟨rfl,by omega⟩
end
theorem FV {l:List Nd} (hp:plL l=true) (hd:dpL l≤20) (hc:aG l≤20000):lvL (qx l)=lvL l:=(oh l 0 0 20000 hp (by omega) hc).1
end
section
open Go.Shelf Go.RowKit Go.Lib
def U8 (w:World):Prop:=Lib.Utf8Tabs 0 1 w
theorem U8.below {w w':World} (h:U8 w) (hb:Below w.heap.size w w'):U8 w':=Utf8Tabs_below h hb
end
section
open Go.RowKit
theorem Kp.drewN (S:Nat→Prop) (w:World) (m:Nat):Kp S w (w.drewN m):=fun b _=>(below_drewN (OX (b+1) w) m).block b (by omega)
noncomputable def mxS (args:Array Value):Sem Next:=do pure (.value (←Builtin.max_ #[3,3] 3 args))
theorem gN (cs:Array Bool) (args:Array Value):builtin .max #[3,3] 3 cs args=mxS args:=rfl
theorem ru (x y z:Int) (hz:(if y>x then y else x)=z) (w:World):(mxS #[.int .i64 x,.int .i64 y]).run Tryz.prog w= .ok (.value (.int .i64 z)) w:=by
 unfold mxS;simp only[Qh,Qm,run_max_int2,PT,hz]
attribute [local go_sem ↓ high] gN
end
section
theorem bsz (b:List UInt8):(⟨b.toArray⟩:ByteArray).size=b.length:=by simp[Go.Lib.size_eq]
theorem NAt.keep {S:Nat→Prop} {w w':World} {g o:Nat} {y:Nd} {text kids rows trows:PV} (h:NAt S w g o y text kids rows trows) (hk:Kp S w w'):NAt S w' g o y text kids rows trows:=
 have e:w'.heap[g]? =w.heap[g]? :=hk g h.blk
 ⟨(P7 e).trans h.c0,(P7 e).trans h.c1,(P7 e).trans h.c2,(P7 e).trans h.c3,(P7 e).trans h.c4,(P7 e).trans h.c5,(P7 e).trans h.c6,(P7 e).trans h.c7,(P7 e).trans h.c8,(P7 e).trans h.c9,
  h.blk,h.text.keep hk,h.kids.keep hk,h.rows.keep hk,h.trows.keep hk⟩
end
section
theorem Gs.drewN {w:World} {v:Value} {l:List Gly} (h:Gs w v l) (m:Nat):Gs (w.drewN m) v l:=Fs.below h (below_drewN (OX _ _) m)
theorem GrS.drewN {S:Nat→Prop} {w:World} {v:Value} {l:List (List Gly)} (h:GrS S w v l) (m:Nat):GrS S (w.drewN m) v l:=h.keep (Kp.drewN S w m)
theorem TrS.drewN {S:Nat→Prop} {w:World} {v:Value} {l:List dm} (h:TrS S w v l) (m:Nat):TrS S (w.drewN m) v l:=h.keep (Kp.drewN S w m)
def QtN (b:Bool) (w:World) (e:Ending) (w':World):Prop:=e= .returned (.bool b)∧ ∃m,w'=w.drewN m
theorem QTI {P:Prop}(h:P:=by
 obtain rfl:j=a.length:=by omega
 have hs:a=b:=by
  have h:=HS.out;rw[PG,HLen.out,PG]at h;exact h
 have HT:=zH (Qg hs);clear hs;go_wp2_with fail
 go_ret;exact⟨aF HT.out.symm,m,HW.out⟩):P:=h
theorem sI (a b:List Gly) (v u:Value) (w:World) (hv:Gs w v a) (hu:Gs w u b) (hl:a.length≤1000000000) (hl':b.length≤1000000000):
  Calls Tryz.prog 11 #[v,u] w (QtN (decide (a=b)) w):=by
 have HV:=zH hv;have HU:=zH hu;obtain⟨aa,ca,rfl,-,-⟩:=hv;obtain⟨ab,cb,rfl,-,-⟩:=hu;unfold QtN
 by_cases hlen:a.length=b.length
 ·have HLen:=zH hlen
  have hne:((a.length:Int) != (b.length:Int))=false:=by simp[hlen]
  clear hlen;go_enter Tryz.func11,Tryz.ntmps11
  go_wp2_with fail
  go_loopw [5] (fun i wr=> ∃j m:Nat,j≤a.length∧i= .int .i64 j∧Hid (a.take j=b.take j)∧Hid (wr=w.drewN m)) (fun i _=>a.length-(intOf i).toNat)
  case atStart=>exact⟨0,0,by omega,rfl,zH rfl,zH rfl⟩
  case round=>
   obtain⟨j,m,hj,rfl,HS,HW⟩:=hrel
   by_cases hlt:j<a.length
   ·obtain⟨x,hx⟩: ∃x,a[j]? =some x:=⟨a[j],OU hlt⟩
    obtain⟨y,hy⟩: ∃y,b[j]? =some y:=⟨b[j]'(by have:=HLen.out;omega),OU _⟩;obtain⟨g,off,rfl,c0,c1,-⟩:=Gs.at (Gs.drewN HV.out m) hx;obtain⟨g',off',rfl,c0',c1',-⟩:=Gs.at (Gs.drewN HU.out m) hy;rw[←HW.out]at c0 c1 c0' c1';have hi0:(j:Int)<(a.length:Int):=by omega
    have hi2:(j:Int)<(b.length:Int):=by have:=HLen.out;omega
    have hi1:(0:Int)≤(j:Int):=by omega
    by_cases hxy:x=y
    ·subst hxy
     have HT:=zH (take_same HS.out hx hy);have hq:=ww;clear hx hy;go_wp2_with fail
     go_quiet (fail)
     go_wp2
     go_roundw
     case rel=>exact⟨j+1,_,by omega,by go_num,HT,zH (by rw[HW.out,QT])⟩
     case measure=>simp[intOf];omega
    ·have HT:=zH (Px (oL hx hy hxy))
     have hq:=tV hxy;clear hx hy hxy;go_wp2_with fail
     go_quiet (fail)
     go_wp2
     go_ret;exact⟨aF HT.out.symm,_,by rw[HW.out,QT]⟩
   ·exact QTI
 ·have hne:((a.length:Int) != (b.length:Int))=true:=by simp;omega
  have HT:=zH (Px (show¬a=b from fun h=>hlen (by rw[h])));clear hlen;go_enter Tryz.func11,Tryz.ntmps11
  go_wp2_with fail
  go_ret;exact⟨aF HT.out.symm,0,rfl⟩
theorem nD (S T:Nat→Prop) (a b:List (List Gly)) (v u:Value) (w:World) (hv:GrS S w v a) (hu:GrS T w u b) (hl:a.length+lens a≤1000000000) (hl':b.length+lens b≤1000000000):
  Calls Tryz.prog 42 #[v,u] w (QtN (decide (a=b)) w):=by
 have HV:=zH hv;have HU:=zH hu;obtain⟨aa,ca,rfl⟩:=hv.len;obtain⟨ab,cb,rfl⟩:=hu.len;clear hv hu;unfold QtN
 by_cases hlen:a.length=b.length
 ·have HLen:=zH hlen
  have hne:((a.length:Int) != (b.length:Int))=false:=by simp[hlen]
  clear hlen;go_enter Tryz.func42,Tryz.ntmps42
  go_wp2_with fail
  go_loopw [5] (fun i wr=> ∃j m:Nat,j≤a.length∧i= .int .i64 j∧Hid (a.take j=b.take j)∧Hid (wr=w.drewN m)) (fun i _=>a.length-(intOf i).toNat)
  case atStart=>exact⟨0,0,by omega,rfl,zH rfl,zH rfl⟩
  case round=>
   obtain⟨j,m,hj,rfl,HS,HW⟩:=hrel
   by_cases hlt:j<a.length
   ·obtain⟨x,hx⟩: ∃x,a[j]? =some x:=⟨a[j],OU hlt⟩
    obtain⟨y,hy⟩: ∃y,b[j]? =some y:=⟨b[j]'(by have:=HLen.out;omega),OU _⟩;obtain⟨g,off,b1,z1,rfl,-,c0,h1⟩:=(HV.out.drewN m).at hx;obtain⟨g',off',b2,z2,rfl,-,c0',h2⟩:=(HU.out.drewN m).at hy;rw[←HW.out]at c0 c0' h1 h2;have lx:=kH hx;have ly:=kH hy;have hi0:(j:Int)<(a.length:Int):=by omega
    have hi2:(j:Int)<(b.length:Int):=by have:=HLen.out;omega
    have hi1:(0:Int)≤(j:Int):=by omega
    have hR:=fun q=>sI x y _ _ (wr.drewN q) (Gs.drewN h1.1 q) (Gs.drewN h2.1 q) (by omega) (by omega)
    unfold QtN at hR
    by_cases hxy:x=y
    ·have HT:=zH (take_same HS.out hx (by rw[hxy];exact hy))
     simp only[Qg hxy]at hR;have HR:=zH hR;clear hx hy hR h1 h2 hxy lx ly;go_wp2_with fail
     go_quiet (first | (go_at_call 11;exact Calls.quiet_of (HR.out _)))
     go_wp2
     go_roundw
     case rel=>exact⟨j+1,_,by omega,by go_num,HT,zH (by rw[HW.out,QT])⟩
     case measure=>simp[intOf];omega
    ·have HT:=zH (Px (oL hx hy hxy))
     simp only[Px hxy]at hR;have HR:=zH hR;clear hx hy hR h1 h2 hxy lx ly;go_wp2_with fail
     go_quiet (first | (go_at_call 11;exact Calls.quiet_of (HR.out _)))
     go_wp2
     go_ret;exact⟨aF HT.out.symm,_,by rw[HW.out,QT]⟩
   ·exact QTI
 ·have hne:((a.length:Int) != (b.length:Int))=true:=by simp;omega
  have HT:=zH (Px (show¬a=b from fun h=>hlen (by rw[h])));clear hlen;go_enter Tryz.func42,Tryz.ntmps42
  go_wp2_with fail
  go_ret;exact⟨aF HT.out.symm,0,rfl⟩
end
section
open Go.RowKit
noncomputable def eqT (a c:Value):Sem Value:=binOp .eql 9 a c
theorem iH (a c:Value):binOp .eql 9 a c=eqT a c:=rfl
noncomputable def MV (a c:Value):Sem Value:=binOp .neq 9 a c
theorem gu (a c:Value):binOp .neq 9 a c=MV a c:=rfl
theorem Dv (a c:List UInt8):decide ((⟨a.toArray⟩:ByteArray)=⟨c.toArray⟩)=decide (a=c):=by
 apply aY;simp
theorem LA (a c:List UInt8) (W:World):(eqT (.string ⟨a.toArray⟩) (.string ⟨c.toArray⟩)).run Tryz.prog W= .ok (.bool (decide (a=c))) W:=by
 rw[←Dv];unfold eqT;simp[go_sem];exact aY (by simp)
theorem Ip (a c:List UInt8) (W:World):(MV (.string ⟨a.toArray⟩) (.string ⟨c.toArray⟩)).run Tryz.prog W= .ok (.bool (!decide (a=c))) W:=by
 rw[←Dv];unfold MV;simp[go_sem];exact aY (by simp)
def uW (t:Tab) (r:PV):Value:= .agg #[.string ⟨t.cols.toArray⟩,pv r,.bool t.box,.bool t.all]
theorem MJ (a b:Tab):a=b↔a.cols=b.cols∧a.rows=b.rows∧a.box=b.box∧a.all=b.all:=by
 obtain⟨a1,a2,a3,a4⟩:=a;obtain⟨b1,b2,b3,b4⟩:=b;simp
attribute [local go_sem ↓ high] iH gu
theorem sH (S T:Nat→Prop) (a b:Tab) (r1 r2:PV) (w:World) (hv:TrS S w (pv r1) a.rows) (hu:TrS T w (pv r2) b.rows) (hl:bX a.rows≤1000000000) (hl':bX b.rows≤1000000000) (hS: ∀x,S x→x<w.heap.size) (hT: ∀x,T x→x<w.heap.size):
  Calls Tryz.prog 43 #[uW a r1,uW b r2] w fun e w'=>e= .returned (.bool (decide (a=b)))∧Below w.heap.size w w':=by
 obtain⟨a1,z1,e1⟩:=hv.len;obtain rfl:=oD e1;obtain⟨a2,z2,e2⟩:=hu.len;obtain rfl:=oD e2;unfold uW pv;simp only;obtain⟨A,hA⟩: ∃A:Obj,(.cells #[.string ⟨a.cols.toArray⟩,.slice a1 a.rows.length z1,.bool a.box,.bool a.all] 56:Obj)=A:=⟨_,rfl⟩;obtain⟨B,hB⟩: ∃B:Obj,(.cells #[.string ⟨b.cols.toArray⟩,.slice a2 b.rows.length z2,.bool b.box,.bool b.all] 56:Obj)=B:=⟨_,rfl⟩;have bl:Below w.heap.size w ((w.alloc A).alloc B):=((OX _ w).alloc (OW _) _).alloc (by simp) _;have hbA:Blk ((w.alloc A).alloc B) w.heap.size 56 [.string ⟨a.cols.toArray⟩,.slice a1 a.rows.length z1,.bool a.box,.bool a.all]:=by
  rw[←hA];exact(Ql _ _ (by simp)).trans (O9 w _)
 have hbB:Blk ((w.alloc A).alloc B) (w.heap.size+1) 56 [.string ⟨b.cols.toArray⟩,.slice a2 b.rows.length z2,.bool b.box,.bool b.all]:=by
  rw[←hB];have:=O9 (w.alloc A) (.cells #[.string ⟨b.cols.toArray⟩,.slice a2 b.rows.length z2,.bool b.box,.bool b.all] 56);rw[Pf]at this;exact this
 have hV:=hv.keep (Kp.below bl hS);have hU:=hu.keep (Kp.below bl hT);obtain⟨w0,hw0⟩: ∃w0,(w.alloc A).alloc B=w0:=⟨_,rfl⟩;rw[hw0]at bl hbA hbB hV hU;have BL:=zH bl;have HBA:=zH hbA;have HBB:=zH hbB;have HV:=zH hV;have HU:=zH hU;have W0:=zH hw0;have NE:=fun x y=>Ip x y
 have hiff:=MJ a b;have htn:=jy a.rows;have c0:w0.cell? ⟨w.heap.size,0,none⟩=some (.string ⟨a.cols.toArray⟩):=hbA.cell 0;have c1:w0.cell? ⟨w.heap.size,1,none⟩=some (.slice a1 a.rows.length z1):=hbA.cell 1;have c2:w0.cell? ⟨w.heap.size,2,none⟩=some (.bool a.box):=hbA.cell 2;have c3:w0.cell? ⟨w.heap.size,3,none⟩=some (.bool a.all):=hbA.cell 3;have d0:w0.cell? ⟨w.heap.size+1,0,none⟩=some (.string ⟨b.cols.toArray⟩):=hbB.cell 0;have d1:w0.cell? ⟨w.heap.size+1,1,none⟩=some (.slice a2 b.rows.length z2):=hbB.cell 1;have d2:w0.cell? ⟨w.heap.size+1,2,none⟩=some (.bool b.box):=hbB.cell 2;have d3:w0.cell? ⟨w.heap.size+1,3,none⟩=some (.bool b.all):=hbB.cell 3;clear bl hbA hbB hV hU hv hu hS hT
 by_cases q0:a.cols=b.cols
 ·have n0:=NE a.cols b.cols
  rw[Qg q0]at n0;simp only[Bool.not_true]at n0
  by_cases q2:a.box=b.box
  ·rw[←q2]at d2
   by_cases q3:a.all=b.all
   ·rw[←q3]at d3
    by_cases q1:a.rows.length=b.rows.length
    ·rw[←q1]at d1
     have HLen:=zH q1;have HIFF:Hid (a=b↔a.rows=b.rows):=zH ⟨fun h=>by rw[h],fun h=>hiff.2 ⟨q0,h,q2,q3⟩⟩;clear q0 q1 q2 q3 hiff NE;subst hA hB;go_enter Tryz.func43,Tryz.ntmps43
     go_wp2_with fail
     clear c0 c1 c2 c3 d0 d1 d2 d3 n0;go_loopw [5] (fun i wr=> ∃j m:Nat,j≤a.rows.length∧i= .int .i64 j∧Hid (a.rows.take j=b.rows.take j)∧Hid (wr=w0.drewN m)) (fun i _=>a.rows.length-(intOf i).toNat)
     case atStart=>exact⟨0,0,by omega,rfl,zH rfl,zH rfl⟩
     case round=>
      obtain⟨j,m,hj,rfl,HS,HW⟩:=hrel;have hbA:Blk wr w.heap.size 56 _:=HW.out▸HBA.out.below (below_drewN (OX _ _) m);have hbB:Blk wr (w.heap.size+1) 56 _:=HW.out▸HBB.out.below (below_drewN (OX _ _) m);have c1:wr.cell? ⟨w.heap.size,1,none⟩=some (.slice a1 a.rows.length z1):=hbA.cell 1;have d1:wr.cell? ⟨w.heap.size+1,1,none⟩=some (.slice a2 a.rows.length z2):=HLen.out▸hbB.cell 1;clear hbA hbB
      by_cases hlt:j<a.rows.length
      ·obtain⟨x,hx⟩: ∃x,a.rows[j]? =some x:=⟨a.rows[j],OU hlt⟩
       obtain⟨y,hy⟩: ∃y,b.rows[j]? =some y:=⟨b.rows[j]'(by have:=HLen.out;omega),OU _⟩;obtain⟨g1,o1,b1,y1,k1,-,c4,c5,h1⟩:=(HV.out.drewN m).at hx;obtain⟨g2,o2,b2,y2,k2,-,d4,d5,h2⟩:=(HU.out.drewN m).at hy;rw[←HW.out]at c4 c5 h1 d4 d5 h2;simp only at k1 k2;rw[k1]at c1;rw[k2]at d1;have lx:=nW hx;have ly:=nW hy;unfold trl at lx ly;have hi0:(j:Int)<(a.rows.length:Int):=by omega
       have hi1:(0:Int)≤(j:Int):=by omega
       have hR:=fun q=>nD S T x.2 y.2 _ _ (wr.drewN q) (h1.drewN q) (h2.drewN q) (by omega) (by omega)
       unfold QtN at hR;have BW:=zH (fun q=>below_drewN (B:=w.heap.size) (OX w.heap.size w0) q);obtain⟨x1,x2⟩:=x;obtain⟨u1,u2⟩:=y;simp only at c4 c5 d4 d5 hR
       by_cases e1:x1=u1
       ·rw[←e1]at d4
        by_cases e2:x2=u2
        ·have HT:=zH (take_same HS.out hx (by rw[e1,e2];exact hy))
         simp only[Qg e2]at hR;have HR:=zH hR;clear hx hy hR h1 h2 lx ly e1 e2 k1 k2;go_wp2_with fail
         go_quiet (first | (go_at_call 42;exact Calls.quiet_of (HR.out _)))
         go_wp2
         go_roundw
         case rel=>exact⟨j+1,_,by omega,by go_num,HT,zH (by rw[HW.out,QT])⟩
         case measure=>simp[intOf];omega
        ·have HF:=zH (Px (show¬a=b from fun h=>e2 (by
          have hh:=hx;rw[HIFF.out.1 h,hy]at hh;injection hh with hh
          injection hh with _ hh
          exact hh.symm)))
         simp only[Px e2]at hR;have HR:=zH hR;clear hx hy hR h1 h2 lx ly e1 e2 k1 k2;go_wp2_with fail
         go_quiet (first | (go_at_call 42;exact Calls.quiet_of (HR.out _)))
         go_wp2
         go_ret;exact⟨aF HF.out.symm,by rw[HW.out,QT];exact BL.out.trans (BW.out _)⟩
       ·have HF:=zH (Px (show¬a=b from fun h=>e1 (by
         have hh:=hx;rw[HIFF.out.1 h,hy]at hh;injection hh with hh
         injection hh with hh _
         exact hh.symm)))
        have n1:(x1==u1)=false:=by simpa using e1
        clear hx hy hR h1 h2 lx ly e1 k1 k2;go_wp2_with fail
        go_quiet (fail)
        go_wp2
        go_ret;exact⟨aF HF.out.symm,by rw[HW.out,QT];exact BL.out.trans (BW.out _)⟩
      ·obtain rfl:j=a.rows.length:=by omega
       have hlt': ¬(a.rows.length:Int)<(a.rows.length:Int):=by omega
       have hs:a.rows=b.rows:=by
        have h:=HS.out;rw[PG,HLen.out,PG]at h;exact h
       have HT:=zH (Qg (HIFF.out.2 hs));have BW:=zH (fun q=>below_drewN (B:=w.heap.size) (OX w.heap.size w0) q);clear hs;go_wp2_with fail
       go_ret;exact⟨aF HT.out.symm,by rw[HW.out];exact BL.out.trans (BW.out _)⟩
    ·have n1:((a.rows.length:Int) != (b.rows.length:Int))=true:=by simp;omega
     have HF:=zH (Px (show¬a=b from fun h=>q1 (by rw[h])));clear q0 q1 q2 q3 hiff NE;subst hA hB;go_enter Tryz.func43,Tryz.ntmps43
     go_wp2_with fail
     go_ret;exact⟨aF HF.out.symm,BL.out⟩
   ·have n3:(a.all==b.all)=false:=by simpa using q3
    have HF:=zH (Px (show¬a=b from fun h=>q3 (by rw[h])));clear q0 q2 q3 hiff NE;subst hA hB;go_enter Tryz.func43,Tryz.ntmps43
    go_wp2_with fail
    go_ret;exact⟨aF HF.out.symm,BL.out⟩
  ·have n2:(a.box==b.box)=false:=by simpa using q2
   have HF:=zH (Px (show¬a=b from fun h=>q2 (by rw[h])));clear q0 q2 hiff NE;subst hA hB;go_enter Tryz.func43,Tryz.ntmps43
   go_wp2_with fail
   go_ret;exact⟨aF HF.out.symm,BL.out⟩
 ·have n0:=NE a.cols b.cols
  rw[Px q0]at n0;simp only[Bool.not_false]at n0;have HF:=zH (Px (show¬a=b from fun h=>q0 (by rw[h])));clear q0 hiff NE;subst hA hB;go_enter Tryz.func43,Tryz.ntmps43
  go_wp2_with fail
  go_ret;exact⟨aF HF.out.symm,BL.out⟩
end
section
attribute [local go_sem ↓ high] iH gu
theorem N9 (a b:Hd):a=b↔a.kind=b.kind∧a.line=b.line∧a.n=b.n∧a.text=b.text∧a.rows=b.rows∧a.grid=b.grid:=by
 obtain⟨a1,a2,a3,a4,a5,a6⟩:=a;obtain⟨b1,b2,b3,b4,b5,b6⟩:=b;simp
theorem NS (a b:Nd):a=b↔a.hd=b.hd∧a.kids=b.kids:=by
 obtain⟨a1,a2⟩:=a;obtain⟨b1,b2⟩:=b;simp[Nd.hd,Nd.kids]
noncomputable def CR (a b:List Nd):Bool:= @decide (a=b) (Classical.propDecidable _)
theorem qi {a b:List Nd} (h:a=b):CR a b=true:=by unfold CR;exact @Qg _ (Classical.propDecidable _) h
theorem nQ {a b:List Nd} (h: ¬a=b):CR a b=false:=by unfold CR;exact @Px _ (Classical.propDecidable _) h
def ndL (kd ln nn:Int) (y:Nd) (t k r q:PV):List Value:=
 [.int .i64 kd,.int .i64 ln,.int .i64 nn,.slice t.1 y.hd.text.length t.2.2,.slice k.1 y.kids.length k.2.2,.slice r.1 y.hd.rows.length r.2.2,.string ⟨y.hd.grid.cols.toArray⟩,.slice q.1 y.hd.grid.rows.length q.2.2,.bool y.hd.grid.box,.bool y.hd.grid.all]
theorem EO (S T:Nat→Prop): ∀(n:Nat) (a b:List Nd),aG a=n→nlL a≤1000000000→nlL b≤1000000000→ ∀(v u:Value) (w:World),NsS S w v a→NsS T w u b→(∀x,S x→x<w.heap.size)→(∀x,T x→x<w.heap.size)→
  Calls Tryz.prog 21 #[v,u] w fun e w'=>e= .returned (.bool (CR a b))∧Below w.heap.size w w':=by
 intro n
 induction n using Nat.strongRecOn with
 | _ n IH=>
  intro a b hn hba hbb v u w hv hu hS hT;have HV:=zH hv;have HU:=zH hu;obtain⟨aa,ca,rfl⟩:=hv.len;obtain⟨ab,cb,rfl⟩:=hu.len;have HI:Hid (∀(k m:List Nd),aG k<n→nlL k≤1000000000→nlL m≤1000000000→ ∀(v u:Value) (w:World),NsS S w v k→NsS T w u m→(∀x,S x→x<w.heap.size)→(∀x,T x→x<w.heap.size)→
   Calls Tryz.prog 21 #[v,u] w fun e w'=>e= .returned (.bool (CR k m))∧Below w.heap.size w w'):=zH (fun k m hk h1 h2=>IH (aG k) hk k m rfl h1 h2)
  have hll:=mW a;have hnl:=mV a;have HS:=zH hS;have HT:=zH hT;clear hv hu IH hS hT
  by_cases hlen:a.length=b.length
  ·have HLen:=zH hlen
   have hne:((a.length:Int) != (b.length:Int))=false:=by simp[hlen]
   clear hlen;go_enter Tryz.func21,Tryz.ntmps21
   go_wp2_with fail
   go_loopw [5] (fun i wr=> ∃j:Nat,j≤a.length∧i= .int .i64 j∧Hid (a.take j=b.take j)∧Hid (Below w.heap.size w wr)) (fun i _=>a.length-(intOf i).toNat)
   case atStart=>exact⟨0,by omega,rfl,zH rfl,zH (OX _ _)⟩
   case round=>
    obtain⟨j,hj,rfl,HTk,BW⟩:=hrel
    by_cases hlt:j<a.length
    ·obtain⟨x,hx⟩: ∃x,a[j]? =some x:=⟨a[j],OU hlt⟩
     obtain⟨y,hy⟩: ∃y,b[j]? =some y:=⟨b[j]'(by have:=HLen.out;omega),OU _⟩;have hi0:(j:Int)<(a.length:Int):=by omega
     have hi2:(j:Int)<(b.length:Int):=by have:=HLen.out;omega
     have hi1:(0:Int)≤(j:Int):=by omega
     have lx:=wu hx;have ly:=wu hy;have cx:=uH hx;have dx:hdl x.hd=3+x.hd.text.length+x.hd.grid.cols.length+(x.hd.rows.length+lens x.hd.rows)+bX x.hd.grid.rows:=rfl;have dy:hdl y.hd=3+y.hd.text.length+y.hd.grid.cols.length+(y.hd.rows.length+lens y.hd.rows)+bX y.hd.grid.rows:=rfl;obtain⟨g1,o1,t1,k1,r1,q1,rfl,hA⟩:=HV.out.at hx;obtain⟨g2,o2,t2,k2,r2,q2,rfl,hB⟩:=HU.out.at hy;have KS:=zH (fun W (h:Below w.heap.size w W)=>hA.keep (Kp.below h HS.out));have KT:=zH (fun W (h:Below w.heap.size w W)=>hB.keep (Kp.below h HT.out));have hA1:=KS.out wr BW.out;have hB1:=KT.out wr BW.out;have a0:=hA1.c0;have a1:=hA1.c1;have a2:=hA1.c2;have a3:=hA1.c3;have a4:=hA1.c4;have a5:=hA1.c5;have a6:=hA1.c6;have a7:=hA1.c7;have a8:=hA1.c8;have a9:=hA1.c9;obtain⟨xk,hxk⟩: ∃k,x.hd.kind=k:=⟨_,rfl⟩;obtain⟨xl,hxl⟩: ∃k,x.hd.line=k:=⟨_,rfl⟩;obtain⟨xn,hxn⟩: ∃k,x.hd.n=k:=⟨_,rfl⟩;obtain⟨yk,hyk⟩: ∃k,y.hd.kind=k:=⟨_,rfl⟩;obtain⟨yl,hyl⟩: ∃k,y.hd.line=k:=⟨_,rfl⟩;obtain⟨yn,hyn⟩: ∃k,y.hd.n=k:=⟨_,rfl⟩;rw[hxk]at a0;rw[hxl]at a1;rw[hxn]at a2;have bl1:=af wr (.cells (ndL xk xl xn x t1 k1 r1 q1).toArray 58);have hB2:=KT.out (wr.alloc (.cells (ndL xk xl xn x t1 k1 r1 q1).toArray 58)) (BW.out.trans (bl1.mono BW.out.size));have b0:=hB2.c0;have b1:=hB2.c1;have b2:=hB2.c2;have b3:=hB2.c3;have b4:=hB2.c4;have b5:=hB2.c5;have b6:=hB2.c6;have b7:=hB2.c7;have b8:=hB2.c8;have b9:=hB2.c9;rw[hyk]at b0;rw[hyl]at b1;rw[hyn]at b2;have bl2:Below wr.heap.size wr ((wr.alloc (.cells (ndL xk xl xn x t1 k1 r1 q1).toArray 58)).alloc (.cells (ndL yk yl yn y t2 k2 r2 q2).toArray 58)):=((OX _ wr).alloc (OW _) _).alloc (by simp) _;have hbA:Blk ((wr.alloc (.cells (ndL xk xl xn x t1 k1 r1 q1).toArray 58)).alloc (.cells (ndL yk yl yn y t2 k2 r2 q2).toArray 58)) wr.heap.size 58 (ndL xk xl xn x t1 k1 r1 q1):=(Ql _ _ (by simp)).trans (O9 wr _);have hbB:Blk ((wr.alloc (.cells (ndL xk xl xn x t1 k1 r1 q1).toArray 58)).alloc (.cells (ndL yk yl yn y t2 k2 r2 q2).toArray 58)) (wr.heap.size+1) 58 (ndL yk yl yn y t2 k2 r2 q2):=by
      have:=O9 (wr.alloc (.cells (ndL xk xl xn x t1 k1 r1 q1).toArray 58)) (.cells (ndL yk yl yn y t2 k2 r2 q2).toArray 58);rw[Pf]at this;exact this
     have BL2:=BW.out.trans (bl2.mono BW.out.size);have c0:((wr.alloc (.cells (ndL xk xl xn x t1 k1 r1 q1).toArray 58)).alloc (.cells (ndL yk yl yn y t2 k2 r2 q2).toArray 58)).cell? ⟨wr.heap.size,0,none⟩=some (.int .i64 xk):=hbA.cell 0;have d0:((wr.alloc (.cells (ndL xk xl xn x t1 k1 r1 q1).toArray 58)).alloc (.cells (ndL yk yl yn y t2 k2 r2 q2).toArray 58)).cell? ⟨wr.heap.size+1,0,none⟩=some (.int .i64 yk):=hbB.cell 0;have c1:((wr.alloc (.cells (ndL xk xl xn x t1 k1 r1 q1).toArray 58)).alloc (.cells (ndL yk yl yn y t2 k2 r2 q2).toArray 58)).cell? ⟨wr.heap.size,1,none⟩=some (.int .i64 xl):=hbA.cell 1;have d1:((wr.alloc (.cells (ndL xk xl xn x t1 k1 r1 q1).toArray 58)).alloc (.cells (ndL yk yl yn y t2 k2 r2 q2).toArray 58)).cell? ⟨wr.heap.size+1,1,none⟩=some (.int .i64 yl):=hbB.cell 1;have c2:((wr.alloc (.cells (ndL xk xl xn x t1 k1 r1 q1).toArray 58)).alloc (.cells (ndL yk yl yn y t2 k2 r2 q2).toArray 58)).cell? ⟨wr.heap.size,2,none⟩=some (.int .i64 xn):=hbA.cell 2;have d2:((wr.alloc (.cells (ndL xk xl xn x t1 k1 r1 q1).toArray 58)).alloc (.cells (ndL yk yl yn y t2 k2 r2 q2).toArray 58)).cell? ⟨wr.heap.size+1,2,none⟩=some (.int .i64 yn):=hbB.cell 2;have c3:((wr.alloc (.cells (ndL xk xl xn x t1 k1 r1 q1).toArray 58)).alloc (.cells (ndL yk yl yn y t2 k2 r2 q2).toArray 58)).cell? ⟨wr.heap.size,3,none⟩=some (.slice t1.1 x.hd.text.length t1.2.2):=hbA.cell 3;have d3:((wr.alloc (.cells (ndL xk xl xn x t1 k1 r1 q1).toArray 58)).alloc (.cells (ndL yk yl yn y t2 k2 r2 q2).toArray 58)).cell? ⟨wr.heap.size+1,3,none⟩=some (.slice t2.1 y.hd.text.length t2.2.2):=hbB.cell 3;have HBK:Hid (∀W,Below ((wr.alloc (.cells (ndL xk xl xn x t1 k1 r1 q1).toArray 58)).alloc (.cells (ndL yk yl yn y t2 k2 r2 q2).toArray 58)).heap.size ((wr.alloc (.cells (ndL xk xl xn x t1 k1 r1 q1).toArray 58)).alloc (.cells (ndL yk yl yn y t2 k2 r2 q2).toArray 58)) W→Blk W wr.heap.size 58 (ndL xk xl xn x t1 k1 r1 q1)∧Blk W (wr.heap.size+1) 58 (ndL yk yl yn y t2 k2 r2 q2)):=zH (fun W h=>⟨hbA.below h,hbB.below h⟩);have HDR:=zH (fun m=>below_drewN (OX ((wr.alloc (.cells (ndL xk xl xn x t1 k1 r1 q1).toArray 58)).alloc (.cells (ndL yk yl yn y t2 k2 r2 q2).toArray 58)).heap.size ((wr.alloc (.cells (ndL xk xl xn x t1 k1 r1 q1).toArray 58)).alloc (.cells (ndL yk yl yn y t2 k2 r2 q2).toArray 58))) m);have HX:=zH hx;have HY:=zH hy;have fin: ∀(h: ¬x=y),CR a b=false:=fun h=>nQ (fun e=>h (by have h1:=HX.out;rw[e,HY.out]at h1;injection h1 with h1;exact h1.symm))
     have FIN:=zH fin;have HEQ:Hid (x=y↔(xk=yk∧xl=yl∧xn=yn∧x.hd.text=y.hd.text∧x.hd.rows=y.hd.rows∧x.hd.grid=y.hd.grid)∧x.kids=y.kids):=zH (by rw[NS,N9,hxk,hxl,hxn,hyk,hyl,hyn]);have HT4:=zH (fun W (h:Below w.heap.size w W)=>sI x.hd.text y.hd.text _ _ W (KS.out W h).text.1 (KT.out W h).text.1 (by omega) (by omega));have HT5:=zH (fun W (h:Below w.heap.size w W)=>nD S T x.hd.rows y.hd.rows _ _ W (KS.out W h).rows (KT.out W h).rows (by omega) (by omega));have HT6:=zH (fun W (h:Below w.heap.size w W)=>sH S T x.hd.grid y.hd.grid (q1.1,x.hd.grid.rows.length,q1.2.2) (q2.1,y.hd.grid.rows.length,q2.2.2) W (KS.out W h).trows (KT.out W h).trows (by omega) (by omega) (fun z hz=>O0 (HS.out z hz) h.size) (fun z hz=>O0 (HT.out z hz) h.size));have HT7:=zH (fun W (h:Below w.heap.size w W)=>HI.out x.kids y.kids (by omega) (by omega) (by omega) _ _ W (KS.out W h).kids (KT.out W h).kids (fun z hz=>O0 (HS.out z hz) h.size) (fun z hz=>O0 (HT.out z hz) h.size));unfold QtN at HT4 HT5;unfold uW pv at HT6;have B2:=zH BL2;have hwz:w.heap.size≤wr.heap.size:=BW.out.size;clear hx hy lx ly cx dx dy hxk hxl hxn hyk hyl hyn fin bl1 bl2 hB2 hbA hbB BL2 KS KT;simp only[ndL]at b0 b1 b2 b3 b4 b5 b6 b7 b8 b9 c0 d0 c1 d1 c2 d2 c3 d3 B2 HBK HDR
     by_cases e0:xk=yk
     ·subst e0
      by_cases e1:xl=yl
      ·subst e1
       by_cases e2:xn=yn
       ·subst e2
        go_wp2_with fail
        refine(HT4.out _ B2.out).mono ?_;rintro e w4 ⟨rfl,m4,hw4⟩;have h4:=HDR.out m4;rw[←hw4]at h4;have B4:=zH (B2.out.trans (h4.mono B2.out.size));obtain⟨kA,kB⟩:=HBK.out w4 h4;have H4:=zH h4;have c5:w4.cell? ⟨wr.heap.size,5,none⟩=some (.slice r1.1 x.hd.rows.length r1.2.2):=kA.cell 5;have d5:w4.cell? ⟨wr.heap.size+1,5,none⟩=some (.slice r2.1 y.hd.rows.length r2.2.2):=kB.cell 5;clear kA kB hw4 h4 HT4 c0 c1 c2 c3 d0 d1 d2 d3 b0 a0 b1 a1 b2 a2 b3 a3 b4 a4 b5 a5 b6 a6 b7 a7 b8 a8 b9 a9
        by_cases e4:x.hd.text=y.hd.text
        ·rw[Qg e4]
         have E4:=zH e4;clear e4;go_wp2_with fail
         refine(HT5.out _ B4.out).mono ?_;rintro e w5 ⟨rfl,m5,hw5⟩;have h5:=below_drewN (OX w4.heap.size w4) m5;rw[←hw5]at h5;have B5:=zH (B4.out.trans (h5.mono B4.out.size));have H5:=zH (H4.out.trans (h5.mono H4.out.size));obtain⟨kA,kB⟩:=HBK.out w5 H5.out;have c6:w5.cell? ⟨wr.heap.size,6,none⟩=some (.string ⟨x.hd.grid.cols.toArray⟩):=kA.cell 6;have d6:w5.cell? ⟨wr.heap.size+1,6,none⟩=some (.string ⟨y.hd.grid.cols.toArray⟩):=kB.cell 6;have c7:w5.cell? ⟨wr.heap.size,7,none⟩=some (.slice q1.1 x.hd.grid.rows.length q1.2.2):=kA.cell 7;have d7:w5.cell? ⟨wr.heap.size+1,7,none⟩=some (.slice q2.1 y.hd.grid.rows.length q2.2.2):=kB.cell 7;have c8:w5.cell? ⟨wr.heap.size,8,none⟩=some (.bool x.hd.grid.box):=kA.cell 8;have d8:w5.cell? ⟨wr.heap.size+1,8,none⟩=some (.bool y.hd.grid.box):=kB.cell 8;have c9:w5.cell? ⟨wr.heap.size,9,none⟩=some (.bool x.hd.grid.all):=kA.cell 9;have d9:w5.cell? ⟨wr.heap.size+1,9,none⟩=some (.bool y.hd.grid.all):=kB.cell 9;clear kA kB hw5 h5 HT5 c5 d5 H4 B4
         by_cases e5:x.hd.rows=y.hd.rows
         ·rw[Qg e5]
          have E5:=zH e5;clear e5;go_wp2_with fail
          refine(HT6.out _ B5.out).mono ?_;rintro e w6 ⟨rfl,h6⟩;have B6:=zH (B5.out.trans (h6.mono B5.out.size));have H6:=zH (H5.out.trans (h6.mono H5.out.size));obtain⟨kA,kB⟩:=HBK.out w6 H6.out;have c4:w6.cell? ⟨wr.heap.size,4,none⟩=some (.slice k1.1 x.kids.length k1.2.2):=kA.cell 4;have d4:w6.cell? ⟨wr.heap.size+1,4,none⟩=some (.slice k2.1 y.kids.length k2.2.2):=kB.cell 4;clear kA kB h6 HT6 H5 B5 c6 c7 c8 c9 d6 d7 d8 d9
          by_cases e6:x.hd.grid=y.hd.grid
          ·rw[Qg e6]
           have E6:=zH e6;clear e6;go_wp2_with fail
           refine(HT7.out _ B6.out).mono ?_;rintro e w7 ⟨rfl,h7⟩;have B7:=zH (B6.out.trans (h7.mono B6.out.size));clear h7 HT7 H6 B6 c4 d4
           by_cases e7:x.kids=y.kids
           ·have HNX:=zH (take_same HTk.out HX.out (by rw[HEQ.out.2 (by refine⟨⟨?_,?_,?_,E4.out,E5.out,E6.out⟩,e7⟩<;>first | rfl | trivial)];exact HY.out))
            rw[qi e7];clear e7;go_wp2_with fail
            go_roundw
            case rel=>exact⟨j+1,by omega,by go_num,HNX,B7⟩
            case measure=>(simp[intOf];try omega)
           ·rw[nQ e7]
            have HF:=zH (FIN.out (fun h=>e7 (HEQ.out.1 h).2));clear e7;go_wp2_with fail
            go_ret;exact⟨aF HF.out.symm,B7.out⟩
          ·rw[Px e6]
           have HF:=zH (FIN.out (fun h=>e6 (HEQ.out.1 h).1.2.2.2.2.2));clear e6 c4 d4;go_wp2_with fail
           go_ret;exact⟨aF HF.out.symm,B6.out⟩
         ·rw[Px e5]
          have HF:=zH (FIN.out (fun h=>e5 (HEQ.out.1 h).1.2.2.2.2.1));clear e5 c6 c7 c8 c9 d6 d7 d8 d9;go_wp2_with fail
          go_ret;exact⟨aF HF.out.symm,B5.out⟩
        ·rw[Px e4]
         have HF:=zH (FIN.out (fun h=>e4 (HEQ.out.1 h).1.2.2.2.1));clear e4 c5 d5;go_wp2_with fail
         go_ret;exact⟨aF HF.out.symm,B4.out⟩
       ·have n2:(xn==yn)=false:=by simpa using e2
        have m2:(xn != yn)=true:=by simpa using e2
        have HF:=zH (FIN.out (fun h=>e2 (HEQ.out.1 h).1.2.2.1));go_wp2_with fail
        go_ret;exact⟨aF HF.out.symm,B2.out⟩
      ·have n1:(xl==yl)=false:=by simpa using e1
       have m1:(xl != yl)=true:=by simpa using e1
       have HF:=zH (FIN.out (fun h=>e1 (HEQ.out.1 h).1.2.1));go_wp2_with fail
       go_ret;exact⟨aF HF.out.symm,B2.out⟩
     ·have n0:(xk==yk)=false:=by simpa using e0
      have m0:(xk != yk)=true:=by simpa using e0
      have HF:=zH (FIN.out (fun h=>e0 (HEQ.out.1 h).1.1));go_wp2_with fail
      go_ret;exact⟨aF HF.out.symm,B2.out⟩
    ·obtain rfl:j=a.length:=by omega
     have hlt': ¬(a.length:Int)<(a.length:Int):=by omega
     have hs:a=b:=by
      have h:=HTk.out;rw[PG,HLen.out,PG]at h;exact h
     have HQ:=zH (qi hs);clear hs;go_wp2_with fail
     go_ret;exact⟨aF HQ.out.symm,BW.out⟩
  ·have hne:((a.length:Int) != (b.length:Int))=true:=by simp;omega
   have HQ:=zH (nQ (show¬a=b from fun h=>hlen (by rw[h])));clear hlen;go_enter Tryz.func21,Tryz.ntmps21
   go_wp2_with fail
   go_ret;exact⟨aF HQ.out.symm,OX _ _⟩
end
section
attribute [local go_sem ↓ high] iH gu
structure Nm where
 a:List UInt8
 b:List UInt8
 c:List UInt8
 d:List UInt8
def qX (m:Nm) (v:Value):List Value:=[.string ⟨m.a.toArray⟩,.string ⟨m.b.toArray⟩,.string ⟨m.c.toArray⟩,.string ⟨m.d.toArray⟩,v]
def uC (m:Nm) (v:Value):Value:= .agg (qX m v).toArray
theorem rO {e e':TypeId} (w:World) (L M:List Value): ∀W,W=(w.alloc (.cells L.toArray e)).alloc (.cells M.toArray e')→Below w.heap.size w W∧Blk W w.heap.size e L∧Blk W (w.heap.size+1) e' M:=by
 rintro W rfl;refine⟨((OX _ w).alloc (OW _) _).alloc (by simp) _,(Ql _ _ (by simp)).trans (O9 w _),?_⟩;have:=O9 (w.alloc (.cells L.toArray e)) (.cells M.toArray e');rw[Pf]at this;exact this
end
end Go.Proofs.YtebabjnngdjceaaGreatDoor
