/- Texts: '+' of them, rows of them, whether two rows of them are one. strconv.ParseUint: the shelf's contract, laid at this dump. (The numbers of the lays are this seat's own: tools/shelf10c.py.) Package strings, unicode/utf8: the shelf's contracts, laid at this dump. (The numbers of the lays are this -/
import Derived.Test.YtebabjnngdjceaaGreatDoorHa
import Derived.Test.YtebabjnngdjceaaGreatDoorC5
import Derived.Lib.Hide
import Derived.Lib.Strings
import Derived.Laws.Strings3
import Derived.Deep.QuietTactic
import Derived.BigQuiet
import Derived.Shelf.Pu.ParseUintPublic10
import Derived.Shelf.Strings.MapGrows
import Derived.Shelf.Strings.SplitCore
import Derived.Shelf.Strings.Search3
import Derived.Shelf.Strings.Count
import Derived.Shelf.Strings.BuilderK
import Derived.Shelf.Strings.BuilderRune
import Derived.Shelf.Unicode.DecodeAny
import Derived.Lib.SplitLaws
import Derived.Lib.IndexBytes
import Derived.Test.YtebabjnngdjceaaGreatDoorH1
import Derived.Test.YtebabjnngdjceaaGreatDoorZ0
import Derived.StillTailTactics
set_option linter.unusedVariables false
set_option linter.unusedSimpArgs false
set_option maxRecDepth 100000
set_option maxHeartbeats 4000000
namespace Go.Proofs.YtebabjnngdjceaaGreatDoor
open Go.RowKit
section
theorem aJ (b:List UInt8):(⟨b.toArray⟩:ByteArray).size=b.length:=by simp[Go.Lib.size_eq]
theorem jI (b:List UInt8) (j:Nat) (h:j≤b.length) (w:World):(Instr.slice 9 (.string ⟨b.toArray⟩) none (some (.int .i64 (j:Int))) none).run Tryz.prog w= .ok (.string ⟨(b.take j).toArray⟩) w:=by
 have hsz:=aJ b;rw[run_slice_string_to_if w 9 _ .i64 (j:Int) Tryz.underlying9,if_pos ⟨by omega,by rw[hsz];omega⟩,ByteArray.extract_mk];simp only[Int.toNat_natCast,List.drop_zero,Nat.sub_zero]
theorem str_eq (a c:List UInt8):decide ((⟨a.toArray⟩:ByteArray)=⟨c.toArray⟩)=decide (a=c):=by
 apply bF;simp
theorem Bn (w:World) (L:List Value) (e:TypeId):Blk (w.alloc (.cells L.toArray e)) w.heap.size e L:=heap_alloc_new w _
theorem BO (b:List UInt8): ∀u∈mh b,u.oneCell'=true:=by
 intro u hu;simp[mh]at hu;rw[hu];rfl
abbrev Ss (w:World) (v:Value) (l:List (List UInt8)):Prop:=Fs 1 mh w v l
abbrev ic (base:Nat) (W:World) (x:Value) (l:List (List UInt8)):Prop:=ag 9 1 mh base W x l
theorem I8:(Tryz.prog.info? 9).map (fun i=>(i.zero,i.size,i.bytes))=some (some (.string ⟨#[]⟩),1,16):=by kernel_rfl
noncomputable def oM (args:Array Value):Sem Next:=do pure (.value (←Builtin.append_ #[22,22] 22 args))
theorem nu (cs:Array Bool) (args:Array Value):builtin .append #[22,22] 22 cs args=oM args:=rfl
theorem xO {base:Nat} {W:World} {x u:Value} {l m:List (List UInt8)} (h:ic base W x l) (hu:Ss W u m) (hb:base≤W.heap.size) (hd:l.length+m.length≤1000000):
  ∃x' w',(oM #[x,u]).run Tryz.prog W= .ok (.value x') w'∧ic base w' x' (l++m)∧W.grownBy w' x.ownBlock∧(x'.ownBlock=x.ownBlock∨x'.ownBlock=some W.heap.size):=by
 obtain⟨i0,hi,hz0,hz1,hz2⟩:=info_parts I8;obtain⟨x',w',hr,r⟩:=lC bP BO (by decide) Tryz.underlying22 hi hz0 hz1 hz2 rfl (by decide) h hu hb hd;refine⟨x',w',?_,r⟩;unfold oM;simp only[Sem.run_bind,Sem.run_pure,Result.andThen_ok,hr]
theorem wD {base:Nat} {W:World} {v:Value} {acc:List (List UInt8)} (h:ic base W v acc) (hb:base≤W.heap.size) (x:List UInt8) (hd:acc.length≤500000):
  ∃v' w2,(oM #[v,.slice (some ⟨W.heap.size,0,none⟩) 1 1]).run Tryz.prog (W.alloc (.cells #[.string ⟨x.toArray⟩] 9))= .ok (.value v') w2∧ic base w2 v' (acc++ [x])∧Below base W w2∧W.heap.size≤w2.heap.size:=by
 have b1:=af W (.cells #[.string ⟨x.toArray⟩] 9);have h1:=h.keep b1;obtain⟨v',w2,hrun,ho,hg,-⟩:=xO h1 (dC bP W 9 [x]) (by simp;omega) (by simp;omega);have hz:=hg.size;refine⟨v',w2,hrun,ho,(b1.mono hb).grown hg (by simp;omega) (fun j e=>(h1.ty e).1),?_⟩;simp at hz;omega
theorem Ss.at {w:World} {a:Option Addr} {k cap:Nat} {l:List (List UInt8)} (h:Ss w (.slice a k cap) l) {j:Nat} {x:List UInt8} (hj:l[j]? =some x):
  ∃b off,a=some ⟨b,off,none⟩∧w.cell? ⟨b,off+j,none⟩=some (.string ⟨x.toArray⟩):=by
 obtain⟨a',cap',hv,_,hr⟩:=h;injection hv with h1 h2 h3
 subst h1;obtain⟨b,off,rfl,h0⟩:=hr j x hj;have:=h0 0 _ rfl;rw[Nat.mul_one]at this;exact⟨b,off,rfl,this⟩
noncomputable def r9 (a c:Value):Sem Value:=binOp .eql 9 a c
theorem fq (a c:Value):binOp .eql 9 a c=r9 a c:=rfl
noncomputable def yP (a c:Value):Sem Value:=binOp .neq 9 a c
theorem fo (a c:Value):binOp .neq 9 a c=yP a c:=rfl
theorem iT (a c:List UInt8) (W:World):(r9 (.string ⟨a.toArray⟩) (.string ⟨c.toArray⟩)).run Tryz.prog W= .ok (.bool (decide (a=c))) W:=by
 rw[←str_eq];unfold r9;simp[go_sem];exact bF (by simp)
theorem mI (a c:List UInt8) (W:World):(yP (.string ⟨a.toArray⟩) (.string ⟨c.toArray⟩)).run Tryz.prog W= .ok (.bool (!decide (a=c))) W:=by
 rw[←str_eq];unfold yP;simp[go_sem];exact bF (by simp)
attribute [local go_sem ↓ high] fq fo
end
section
open Go.Shelf Go.RowKit Go.Lib
def CQ:Go.Shelf.Ren:=⟨fun | 14=>154 | 16=>191 | 17=>192 | 19=>216 | 20=>217 | 21=>218 | 22=>219 | 23=>220 | 24=>221 | 25=>237 | 27=>239 | 26=>238 | 28=>246 | 29=>251 | 30=>252 | 31=>253 | 32=>254 | 33=>255 | 35=>257 | 34=>256 | 36=>258 | 37=>259 | 38=>260 | 39=>261 | 40=>262 | n=>n,fun | 9=>9 | 3=>3 | 22=>209 | 24=>168 | 25=>210 | 4=>4 | 34=>249 | 5=>5 | 36=>244 | 37=>104 | 0=>0 | 39=>250 | 21=>21 | 44=>264 | 47=>196 | 50=>272 | 48=>270 | 2=>2 | 52=>275 | 55=>278 | 59=>281 | 60=>259 | 20=>20 | 61=>282 | 65=>285 | 66=>286 | 67=>171 | n=>n,fun | 0=>3 | 1=>4 | 2=>5 | 3=>6 | 4=>7 | n=>n⟩
theorem zu:Go.Proofs.LaysPu.n14 Tryz.prog CQ:={
 mixed:=by kernel_rfl
 f14:=Tryz.func154.trans (congrArg some (by kernel_rfl))
 f16:=Tryz.func191.trans (congrArg some (by kernel_rfl))
 f17:=Tryz.func192.trans (congrArg some (by kernel_rfl))
 f19:=Tryz.func216.trans (congrArg some (by kernel_rfl))
 f20:=Tryz.func217.trans (congrArg some (by kernel_rfl))
 f21:=Tryz.func218.trans (congrArg some (by kernel_rfl))
 f22:=Tryz.func219.trans (congrArg some (by kernel_rfl))
 f23:=Tryz.func220.trans (congrArg some (by kernel_rfl))
 f24:=Tryz.func221.trans (congrArg some (by kernel_rfl))
 f25:=Tryz.func237.trans (congrArg some (by kernel_rfl))
 f26:=Tryz.func238.trans (congrArg some (by kernel_rfl))
 f27:=Tryz.func239.trans (congrArg some (by kernel_rfl))
 f28:=Tryz.func246.trans (congrArg some (by kernel_rfl))
 f29:=Tryz.func251.trans (congrArg some (by kernel_rfl))
 f30:=Tryz.func252.trans (congrArg some (by kernel_rfl))
 f31:=Tryz.func253.trans (congrArg some (by kernel_rfl))
 f32:=Tryz.func254.trans (congrArg some (by kernel_rfl))
 f33:=Tryz.func255.trans (congrArg some (by kernel_rfl))
 f34:=Tryz.func256.trans (congrArg some (by kernel_rfl))
 f35:=Tryz.func257.trans (congrArg some (by kernel_rfl))
 f36:=Tryz.func258.trans (congrArg some (by kernel_rfl))
 f37:=Tryz.func259.trans (congrArg some (by kernel_rfl))
 f38:=Tryz.func260.trans (congrArg some (by kernel_rfl))
 f39:=Tryz.func261.trans (congrArg some (by kernel_rfl))
 f40:=Tryz.func262.trans (congrArg some (by kernel_rfl))
 t0:=Tryz.underlying0
 a0:=Tryz.isAgg0
 z0:=Tryz.sizeOf0
 v0:=Tryz.zeroValue0
 i0:=by kernel_rfl
 t2:=Tryz.underlying2
 a2:=Tryz.isAgg2
 z2:=Tryz.sizeOf2
 v2:=Tryz.zeroValue2
 i2:=by kernel_rfl
 t3:=Tryz.underlying3
 a3:=Tryz.isAgg3
 z3:=Tryz.sizeOf3
 v3:=Tryz.zeroValue3
 i3:=by kernel_rfl
 t4:=Tryz.underlying4
 a4:=Tryz.isAgg4
 z4:=Tryz.sizeOf4
 v4:=Tryz.zeroValue4
 i4:=by kernel_rfl
 t5:=Tryz.underlying5
 a5:=Tryz.isAgg5
 z5:=Tryz.sizeOf5
 v5:=Tryz.zeroValue5
 i5:=by kernel_rfl
 t9:=Tryz.underlying9
 a9:=Tryz.isAgg9
 z9:=Tryz.sizeOf9
 v9:=Tryz.zeroValue9
 i9:=by kernel_rfl
 t20:=Tryz.underlying20
 a20:=Tryz.isAgg20
 z20:=Tryz.sizeOf20
 v20:=Tryz.zeroValue20
 i20:=by kernel_rfl
 t21:=Tryz.underlying21
 a21:=Tryz.isAgg21
 z21:=Tryz.sizeOf21
 v21:=Tryz.zeroValue21
 i21:=by kernel_rfl
 t22:=Tryz.underlying209
 a22:=Tryz.isAgg209
 z22:=Tryz.sizeOf209
 v22:=Tryz.zeroValue209
 i22:=by kernel_rfl
 t24:=Tryz.underlying168
 a24:=Tryz.isAgg168
 z24:=Tryz.sizeOf168
 v24:=Tryz.zeroValue168
 i24:=by kernel_rfl
 t25:=Tryz.underlying210
 a25:=Tryz.isAgg210
 z25:=Tryz.sizeOf210
 v25:=Tryz.zeroValue210
 i25:=by kernel_rfl
 t34:=Tryz.underlying249
 a34:=Tryz.isAgg249
 z34:=Tryz.sizeOf249
 v34:=Tryz.zeroValue249
 i34:=by kernel_rfl
 c34:=by kernel_rfl
 t36:=Tryz.underlying244
 a36:=Tryz.isAgg244
 z36:=Tryz.sizeOf244
 v36:=Tryz.zeroValue244
 i36:=by kernel_rfl
 t37:=Tryz.underlying104
 a37:=Tryz.isAgg104
 z37:=Tryz.sizeOf104
 v37:=Tryz.zeroValue104
 i37:=by kernel_rfl
 t39:=Tryz.underlying250
 a39:=Tryz.isAgg250
 z39:=Tryz.sizeOf250
 v39:=Tryz.zeroValue250
 i39:=by kernel_rfl
 t44:=Tryz.underlying264
 a44:=Tryz.isAgg264
 z44:=Tryz.sizeOf264
 v44:=Tryz.zeroValue264
 i44:=by kernel_rfl
 t47:=Tryz.underlying196
 a47:=Tryz.isAgg196
 z47:=Tryz.sizeOf196
 v47:=Tryz.zeroValue196
 i47:=by kernel_rfl
 t48:=Tryz.underlying270
 a48:=Tryz.isAgg270
 z48:=Tryz.sizeOf270
 v48:=Tryz.zeroValue270
 i48:=by kernel_rfl
 t50:=Tryz.underlying272
 a50:=Tryz.isAgg272
 z50:=Tryz.sizeOf272
 v50:=Tryz.zeroValue272
 i50:=by kernel_rfl
 t52:=Tryz.underlying275
 a52:=Tryz.isAgg275
 z52:=Tryz.sizeOf275
 v52:=Tryz.zeroValue275
 i52:=by kernel_rfl
 t55:=Tryz.underlying278
 a55:=Tryz.isAgg278
 z55:=Tryz.sizeOf278
 v55:=Tryz.zeroValue278
 i55:=by kernel_rfl
 t59:=Tryz.underlying281
 a59:=Tryz.isAgg281
 z59:=Tryz.sizeOf281
 v59:=Tryz.zeroValue281
 i59:=by kernel_rfl
 t60:=Tryz.underlying259
 a60:=Tryz.isAgg259
 z60:=Tryz.sizeOf259
 v60:=Tryz.zeroValue259
 i60:=by kernel_rfl
 t61:=Tryz.underlying282
 a61:=Tryz.isAgg282
 z61:=Tryz.sizeOf282
 t65:=Tryz.underlying285
 a65:=Tryz.isAgg285
 z65:=Tryz.sizeOf285
 v65:=Tryz.zeroValue285
 i65:=by kernel_rfl
 t66:=Tryz.underlying286
 a66:=Tryz.isAgg286
 z66:=Tryz.sizeOf286
 v66:=Tryz.zeroValue286
 i66:=by kernel_rfl
 t67:=Tryz.underlying171
 a67:=Tryz.isAgg171
 z67:=Tryz.sizeOf171
 v67:=Tryz.zeroValue171
 i67:=by kernel_rfl
 g0:=by kernel_rfl
 m0:=by kernel_rfl
 g1:=by kernel_rfl
 m1:=by kernel_rfl
 g2:=by kernel_rfl
 m2:=by kernel_rfl
 g3:=by kernel_rfl
 m3:=by kernel_rfl
 g4:=by kernel_rfl
 m4:=by kernel_rfl}
structure Er (w:World):Prop where
 syn: ∃t p,w.cell? ⟨3,0,none⟩=some (.iface t p)
 rng: ∃t p,w.cell? ⟨4,0,none⟩=some (.iface t p)
theorem Er.below {w w':World} (h:Er w) (hb:Below w.heap.size w w'):Er w':=by
 obtain⟨⟨t,p,h1⟩,⟨u,q,h2⟩⟩:=h;exact⟨⟨t,p,(hb.cell (World.block_lt_of_cell? w _ h1)).trans h1⟩,⟨u,q,(hb.cell (World.block_lt_of_cell? w _ h2)).trans h2⟩⟩
theorem EA (s:List UInt8) (u:Nat) (w:World) (hs:s.length≤100000) (h:Lib.parseUintB 64 s= .ok u):
  Calls Tryz.prog 154 #[.string ⟨s.toArray⟩,.int .i64 10,.int .i64 64] w fun e w'=>e= .returned (.tuple #[.int .u64 (u:Int),.nilIface])∧Below w.heap.size w w':=by
 refine(Any.strconv_ParseUint_10_at64_ok zu ⟨s.toArray⟩ (by rw[aJ];omega) u (by simpa using h) w).mono ?_;rintro e w' ⟨h1,h2⟩;refine⟨h1,?_⟩;rcases h2 with rfl | rfl
 ·exact Below.refl _ _
 ·unfold Lib.bytesWorld
  exact Lib.below_freeze (((Below.refl w.heap.size w).drew).alloc (Nat.le_refl _) _) (p:=⟨w.heap.size,_,none⟩) (Nat.le_refl _) 1
theorem BX (s:List UInt8) (w:World) (hE:Er w) (hs:s.length≤100000) (h: ∀u,Lib.parseUintB 64 s≠ .ok u):
  Calls Tryz.prog 154 #[.string ⟨s.toArray⟩,.int .i64 10,.int .i64 64] w fun e w'=> ∃n t p,e= .returned (.tuple #[.int .u64 n,.iface t p])∧Below w.heap.size w w':=by
 have hz:(⟨s.toArray⟩:ByteArray).size≤281474976710656:=by rw[aJ];omega
 obtain⟨⟨t,p,h1⟩,⟨u,q,h2⟩⟩:=hE
 cases hp:Lib.parseUintB 64 s with
 | ok u=>exact absurd hp (h u)
 | range=>
  refine(Any.strconv_ParseUint_10_at64_range zu ⟨s.toArray⟩ hz (by simpa using hp) _ w h2 (.inr ⟨u,q,rfl⟩)).mono ?_;rintro e w' ⟨N,e1,e2,e3,e4⟩;exact⟨_,_,_,e1,e4⟩
 | _ =>
  refine(Any.strconv_ParseUint_10_at64_syntax zu ⟨s.toArray⟩ hz (by simpa using hp) _ w h1 (.inr ⟨t,p,rfl⟩)).mono ?_;rintro e w' ⟨N,e1,e2,e3,e4⟩;exact⟨_,_,_,e1,e4⟩
end
section
open Go.Shelf Go.RowKit Go.Lib
def EW:Go.Shelf.Ren:=⟨fun | 230=>201 | 197=>139 | 118=>227 | 165=>228 | 166=>110 | 168=>229 | 270=>230 | 167=>225 | 169=>111 | 260=>177 | 240=>143 | 241=>243 | 242=>244 | 276=>182 | 277=>249 | 278=>250 | n=>n,fun | 107=>178 | 9=>9 | 72=>129 | 0=>0 | 4=>4 | 3=>3 | 21=>21 | 105=>193 | 76=>169 | 5=>5 | 75=>168 | 70=>127 | 20=>20 | 37=>104 | 127=>196 | 119=>243 | 46=>244 | 139=>247 | 138=>246 | 164=>229 | 51=>259 | 80=>171 | n=>n,fun | 3=>0 | 4=>1 | n=>n⟩
theorem Ig:Go.Proofs.Lays.n230 Tryz.prog EW:={
 mixed:=by kernel_rfl
 f118:=Tryz.func227.trans (congrArg some (by kernel_rfl))
 f165:=Tryz.func228.trans (congrArg some (by kernel_rfl))
 f166:=Tryz.func110.trans (congrArg some (by kernel_rfl))
 f167:=Tryz.func225.trans (congrArg some (by kernel_rfl))
 f168:=Tryz.func229.trans (congrArg some (by kernel_rfl))
 f169:=Tryz.func111.trans (congrArg some (by kernel_rfl))
 f197:=Tryz.func139.trans (congrArg some (by kernel_rfl))
 f230:=Tryz.func201.trans (congrArg some (by kernel_rfl))
 f240:=Tryz.func143.trans (congrArg some (by kernel_rfl))
 f241:=Tryz.func243.trans (congrArg some (by kernel_rfl))
 f242:=Tryz.func244.trans (congrArg some (by kernel_rfl))
 f260:=Tryz.func177.trans (congrArg some (by kernel_rfl))
 f270:=Tryz.func230.trans (congrArg some (by kernel_rfl))
 f276:=Tryz.func182.trans (congrArg some (by kernel_rfl))
 f277:=Tryz.func249.trans (congrArg some (by kernel_rfl))
 f278:=Tryz.func250.trans (congrArg some (by kernel_rfl))
 t0:=Tryz.underlying0
 a0:=Tryz.isAgg0
 z0:=Tryz.sizeOf0
 v0:=Tryz.zeroValue0
 t3:=Tryz.underlying3
 a3:=Tryz.isAgg3
 z3:=Tryz.sizeOf3
 v3:=Tryz.zeroValue3
 t4:=Tryz.underlying4
 a4:=Tryz.isAgg4
 z4:=Tryz.sizeOf4
 v4:=Tryz.zeroValue4
 t5:=Tryz.underlying5
 a5:=Tryz.isAgg5
 z5:=Tryz.sizeOf5
 v5:=Tryz.zeroValue5
 t9:=Tryz.underlying9
 a9:=Tryz.isAgg9
 z9:=Tryz.sizeOf9
 v9:=Tryz.zeroValue9
 t20:=Tryz.underlying20
 a20:=Tryz.isAgg20
 z20:=Tryz.sizeOf20
 v20:=Tryz.zeroValue20
 t21:=Tryz.underlying21
 a21:=Tryz.isAgg21
 z21:=Tryz.sizeOf21
 v21:=Tryz.zeroValue21
 t37:=Tryz.underlying104
 a37:=Tryz.isAgg104
 z37:=Tryz.sizeOf104
 v37:=Tryz.zeroValue104
 t46:=Tryz.underlying244
 a46:=Tryz.isAgg244
 z46:=Tryz.sizeOf244
 v46:=Tryz.zeroValue244
 t51:=Tryz.underlying259
 a51:=Tryz.isAgg259
 z51:=Tryz.sizeOf259
 v51:=Tryz.zeroValue259
 t70:=Tryz.underlying127
 a70:=Tryz.isAgg127
 z70:=Tryz.sizeOf127
 v70:=Tryz.zeroValue127
 t72:=Tryz.underlying129
 a72:=Tryz.isAgg129
 z72:=Tryz.sizeOf129
 v72:=Tryz.zeroValue129
 t75:=Tryz.underlying168
 a75:=Tryz.isAgg168
 z75:=Tryz.sizeOf168
 v75:=Tryz.zeroValue168
 t76:=Tryz.underlying169
 a76:=Tryz.isAgg169
 z76:=Tryz.sizeOf169
 v76:=Tryz.zeroValue169
 t105:=Tryz.underlying193
 a105:=Tryz.isAgg193
 z105:=Tryz.sizeOf193
 v105:=Tryz.zeroValue193
 t107:=Tryz.underlying178
 a107:=Tryz.isAgg178
 z107:=Tryz.sizeOf178
 v107:=Tryz.zeroValue178
 t119:=Tryz.underlying243
 a119:=Tryz.isAgg243
 z119:=Tryz.sizeOf243
 t127:=Tryz.underlying196
 a127:=Tryz.isAgg196
 z127:=Tryz.sizeOf196
 v127:=Tryz.zeroValue196
 t138:=Tryz.underlying246
 a138:=Tryz.isAgg246
 z138:=Tryz.sizeOf246
 v138:=Tryz.zeroValue246
 t139:=Tryz.underlying247
 a139:=Tryz.isAgg247
 z139:=Tryz.sizeOf247
 v139:=Tryz.zeroValue247
 t164:=Tryz.underlying229
 a164:=Tryz.isAgg229
 z164:=Tryz.sizeOf229
 v164:=Tryz.zeroValue229
 g3:=by kernel_rfl
 g4:=by kernel_rfl}
theorem EX:Builder.Extra Tryz.prog EW:={
 sizeBuilder:=by kernel_rfl
 liesBuilder:=by kernel_rfl
 t5:=Tryz.underlying5
 a5:=Tryz.isAgg5
 z5:=Tryz.sizeOf5
 v5:=Tryz.zeroValue5
 infoByte:=by kernel_rfl
 cellsByte:=by kernel_rfl
 sizeByte:=by kernel_rfl
 neB5:=by decide}
theorem Eo (g:Nat) (lb:Array Value) (eg: ∀args w,(callFunc g args).run Tryz.prog w= .ok (.enter g args) w) (f:Int→Int) (s:ByteArray) (w:World) (hs:s.size<35184372088832) (hf:MapGrows Tryz.prog g lb f w) (hnn: ∀x:Nat,x≤1114111→ -2147483648≤f x∧f x≤2147483647) (hT:U8 w):
  Calls Tryz.prog 201 #[.func (.func g) #[] lb,.string s] w fun e w'=>e= .returned (.string ⟨(Lib.mapD f s.data.toList).toArray⟩)∧Below w.heap.size w w':=Any.strings_Map_grows Ig EX g lb eg f s w hs hf hnn hT
end
theorem vI {x c:UInt8} (h:x≠c):((x.toNat:Int)==(c.toNat:Int))=false:=by
 rw[beq_eq_false_iff_ne];intro e;exact h (UInt8.toNat_inj.1 (by omega))
theorem nC {α:Type} {b:List α} {j:Nat} {y:α} (hy:b[j]? =some y):b.take (j+1)=b.take j++ [y]:=by
 rw[List.take_add_one,hy];rfl
section
variable {b:Txt} {c:UInt8} {j:Nat} {acc:List Txt} {x:Txt}
end
section
variable {b:Txt} {j:Nat} {acc:List Txt} {x:Txt}
end
section
variable {L:List Txt} {j:Nat} {bx al:Bool} {w:Txt}
end
structure dI (BI:BIT):Prop where
 lt: ∀{X R w b t},BI X R w b t→ ∀k,X k∨R k→k<w.heap.size
 keep: ∀{X R w w' b t},BI X R w b t→Kp X w w'→Kp R w w'→w.heap.size≤w'.heap.size→BI X R w' b t
theorem bg.k {BI:BIT} {TB:World→Prop} (I:bg BI TB):dI BI:=⟨I.lt,I.keep⟩
instance {BI:BIT} {TB:World→Prop}:CoeOut (bg BI TB) (dI BI):=⟨bg.k⟩
abbrev dZ:Value:= .slice none 0 0
def mnC (b:Nat) (th:Bool) (wv:Value) (kd ln:Int) (rv tv dv:Value):List Value:=
 [ak b,.bool th,wv,.int .i64 kd,.int .i64 ln,.int .i64 0,dZ,dZ,rv,.string ⟨#[]⟩,dZ,.bool false,.bool false,tv,dv]
def lZ (m:MWt):NV:=⟨m.kind,m.line,m.n,aj,aj,aj,[],aj,false,false⟩
def kdM (s:Md):Int:=match s.v with
 | some _=>6
 | none=>match s.g with
  | some _=>7
  | none=>0
def lnM (s:Md):Int:=match s.v with
 | some v=>v.1
 | none=>match s.g with
  | some g=>g.1
  | none=>0
def rwM (s:Md):List (List Gly):=match s.v with
 | some v=>v.2
 | none=>[]
def txM (s:Md):List Txt:=match s.g with
 | some g=>g.2
 | none=>[]
structure MOk (s:Md):Prop where
 vg:s.v=none∨s.g=none
 vw:s.v≠none→s.w=none
 gw:s.g≠none→s.w=none
def xQ (lo:Nat→Nat) (w:World) (wv:Value):Option MWt→Prop
 | none=>wv= .pointer none
 | some m=> ∃g,wv=ak g∧lo g=6∧Blk w g 58 (ae (lZ m))
def sD (R:Nat→Prop) (w:World) (rv:Value) (l:List (List Gly)):Prop:=
 ∃L:List PV,L.length=l.length∧ag 26 1 aP 0 w rv L∧ ∀(i:Nat) p r,L[i]? =some p→l[i]? =some r→FsS R 2 aR w (pv p) r
structure MC (BI:BIT) (X R:Nat→Prop) (lo:Nat→Nat) (w:World) (B b:Nat) (s:Md) (wv rv tv dv:Value):Prop where
 ok:MOk s
 ll: ∀k,lo k≠0→k<w.heap.size
 lx: ∀k,X k→lo k=0
 lr: ∀k,R k→lo k=0
 bi:BI X R w b s.b
 lb:lo B=2
 box:Blk w B 79 (mnC b s.th wv (kdM s) (lnM s) rv tv dv)
 dg:aO 0 w dv s.d
 dgb: ∀k,dv.ownBlock=some k→lo k=3
 tx:ic 0 w tv (txM s)
 txb: ∀k,tv.ownBlock=some k→lo k=4
 rg:sD R w rv (rwM s)
 rgb: ∀k,rv.ownBlock=some k→lo k=5
 rn:s.v=none→rv=dZ
 tn:s.g=none→tv=dZ
 wt:xQ lo w wv s.w
def MM (BI:BIT) (w0:World) (Y:Nat→Prop) (w:World) (B:Nat) (s:Md):Prop:=
 Below w0.heap.size w0 w∧(∀k,Y k→w0.heap.size≤k)∧ ∃X R lo b wv rv tv dv,MC BI X R lo w B b s wv rv tv dv∧ ∀k,Y k↔X k∨lo k≠0
def aV (BI:BIT) (w0:World) (Y:Nat→Prop) (w:World) (B:Nat) (s':Md) (w':World):Prop:=
 ∃Y',MM BI w0 Y' w' B s'∧Exc Y w w'∧ ∀k,Y' k→Y k∨w.heap.size≤k
theorem aV.trans {BI:BIT} {w0 w w1 w2:World} {Y Y1:Nat→Prop} {B:Nat} {s2:Md} (hE:Exc Y w w1) (hY: ∀k,Y1 k→Y k∨w.heap.size≤k) (h:aV BI w0 Y1 w1 B s2 w2):aV BI w0 Y w B s2 w2:=by
 obtain⟨Y2,h1,h2,h3⟩:=h;have:=hE.size;refine⟨Y2,h1,hE.trans h2 (fun k hk q=>(hY k q).elim id (fun z=>by omega)),fun k q=>(h3 k q).elim (fun z=>hY k z) (fun z=> .inr (by omega))⟩
theorem sD.keep {R:Nat→Prop} {w w':World} {rv:Value} {l:List (List Gly)} (h:sD R w rv l) (hR:Kp R w w') (ho: ∀k,rv.ownBlock=some k→w'.heap[k]? =w.heap[k]?):sD R w' rv l:=by
 obtain⟨L,h1,h2,h3⟩:=h;exact⟨L,h1,h2.kp ho,fun i p r a c=>(h3 i p r a c).keep hR⟩
theorem sD.more {R R':Nat→Prop} {w:World} {rv:Value} {l:List (List Gly)} (h:sD R w rv l) (hR: ∀k,R k→R' k):sD R' w rv l:=by
 obtain⟨L,h1,h2,h3⟩:=h;exact⟨L,h1,h2,fun i p r a c=>(h3 i p r a c).mono hR⟩
theorem sD.len {R:Nat→Prop} {w:World} {rv:Value} {l:List (List Gly)} (h:sD R w rv l): ∃a c,rv= .slice a l.length c:=by
 obtain⟨L,h1,h2,h3⟩:=h;obtain⟨a,c,e⟩:=(ag.sl bE h2).len;exact⟨a,c,by rw[←h1];exact e⟩
def iJ (lo:Nat→Nat) (z:Nat) (o:Option Nat):Nat→Nat:=fun k=>if o=some k then z else if lo k=z then 0 else lo k
section
variable {lo:Nat→Nat} {z:Nat} {o:Option Nat} {n:Nat}
theorem iI (ho: ∀k,o=some k→lo k=z∨n≤k) {k:Nat} (hk:k<n) (hne:lo k≠z):iJ lo z o k=lo k:=by
 unfold iJ;rw[if_neg (fun e=>by rcases ho k e with q | q;exact hne q;omega),if_neg hne]
theorem pg {k:Nat} (h:o=some k):iJ lo z o k=z:=by unfold iJ;rw[if_pos h]
theorem uo (ho: ∀k,o=some k→lo k=z∨n≤k) (hz:z≠0) {k:Nat} (h:iJ lo z o k≠0):lo k≠0∨n≤k:=by
 unfold iJ at h
 by_cases e:o=some k
 ·rcases ho k e with q | q
  ·exact .inl (by omega)
  ·exact .inr q
 ·rw[if_neg e]at h
  by_cases e2:lo k=z
  ·exact .inl (by omega)
  ·rw[if_neg e2]at h;exact .inl h
theorem ut {N:Nat} (h1: ∀k,lo k≠0→k<N) (h2: ∀k,o=some k→k<N) {k:Nat} (h:iJ lo z o k≠0):k<N:=by
 unfold iJ at h
 by_cases e:o=some k
 ·exact h2 k e
 ·rw[if_neg e]at h
  by_cases e2:lo k=z
  ·rw[if_pos e2]at h;exact absurd rfl h
  ·rw[if_neg e2]at h;exact h1 k h
end
theorem tF {α:Type} {e n:Nat} {f:α→List Value} (hf: ∀x,(f x).length=n) {base:Nat} {W:World} {x:Value} {l:List α} (h:ag e n f base W x l):FsS (fun k=>x.ownBlock=some k) n f W x l:=by
 refine⟨ag.sl hf h,fun a k c e1 hk=>?_⟩;subst e1;rcases h.2 with⟨hn,-⟩| ⟨g,cap,cur,hx,hb,hgg,-⟩
 ·injection hn with e1 e2 e3
  cases e1
 ·injection hx with e1 e2 e3
  injection e1 with e1
  subst e1;exact⟨rfl,fun _ i _=>by simp[World.frozen?,hgg]⟩
section
variable {BI:BIT} {TB:World→Prop} {X R:Nat→Prop} {lo:Nat→Nat} {w w' w0:World} {B b:Nat} {s:Md} {wv rv tv dv:Value}
theorem MC.lt (I:dI BI) (h:MC BI X R lo w B b s wv rv tv dv): ∀k,X k∨R k∨lo k≠0→k<w.heap.size:=fun k q=>
 q.elim (fun q=>I.lt h.bi k (.inl q)) (fun q=>q.elim (fun q=>I.lt h.bi k (.inr q)) (h.ll k))
theorem xQ.keep {wv:Value} {o:Option MWt} (h:xQ lo w wv o) (hk:Kp (fun k=>lo k=6) w w'):xQ lo w' wv o:=by
 cases o with
 | none=>exact h
 | some m=>
  obtain⟨g,h1,h2,h3⟩:=h;exact⟨g,h1,h2,(hk g h2).trans h3⟩
theorem xQ.relab {lo':Nat→Nat} {wv:Value} {o:Option MWt} (h:xQ lo w wv o) (hk: ∀k,lo k=6→lo' k=6):xQ lo' w wv o:=by
 cases o with
 | none=>exact h
 | some m=>
  obtain⟨g,h1,h2,h3⟩:=h;exact⟨g,h1,hk g h2,h3⟩
theorem MC.keepK (I:dI BI) (h:MC BI X R lo w B b s wv rv tv dv) (hX:Kp X w w') (hR:Kp R w w') (hL:Kp (fun k=>lo k≠0) w w') (hs:w.heap.size≤w'.heap.size):MC BI X R lo w' B b s wv rv tv dv:=
 have kz: ∀z,z≠0→Kp (fun k=>lo k=z) w w':=fun z hz k e=>hL k (show lo k≠0 by rw[show lo k=z from e];exact hz)
 ⟨h.ok,fun k q=>Nat.lt_of_lt_of_le (h.ll k q) hs,h.lx,h.lr,I.keep h.bi hX hR hs,h.lb,(hL B (show lo B≠0 by rw[h.lb];decide)).trans h.box,h.dg.kp (fun k e=>kz 3 (by decide) k (h.dgb k e)),h.dgb,
  h.tx.kp (fun k e=>kz 4 (by decide) k (h.txb k e)),h.txb,h.rg.keep hR (fun k e=>kz 5 (by decide) k (h.rgb k e)),h.rgb,h.rn,h.tn,h.wt.keep (kz 6 (by decide))⟩
theorem MC.keep (I:dI BI) (h:MC BI X R lo w B b s wv rv tv dv) (hb:Below w.heap.size w w'):MC BI X R lo w' B b s wv rv tv dv:=
 h.keepK I (Kp.below hb (fun k q=>h.lt I k (.inl q))) (Kp.below hb (fun k q=>h.lt I k (.inr (.inl q)))) (Kp.below hb (fun k q=>h.lt I k (.inr (.inr q)))) hb.size
theorem MM.keep (I:dI BI) {Y:Nat→Prop} (h:MM BI w0 Y w B s) (hb:Below w.heap.size w w'):MM BI w0 Y w' B s:=by
 obtain⟨h1,h2,X,R,lo,b,wv,rv,tv,dv,h3,h4⟩:=h;exact⟨h1.trans (hb.mono h1.size),h2,X,R,lo,b,wv,rv,tv,dv,h3.keep I hb,h4⟩
theorem MM.lt (I:dI BI) {Y:Nat→Prop} (h:MM BI w0 Y w B s): ∀k,Y k→k<w.heap.size:=by
 obtain⟨h1,h2,X,R,lo,b,wv,rv,tv,dv,h3,h4⟩:=h;intro k hk;rcases(h4 k).1 hk with q | q
 ·exact h3.lt I k (.inl q)
 ·exact h3.lt I k (.inr (.inr q))
theorem MM.aft {Y:Nat→Prop} (h1:Below w0.heap.size w0 w) (h2: ∀k,Y k→w0.heap.size≤k) {X' R':Nat→Prop} {lo':Nat→Nat} {s':Md} {b':Nat} {wv' rv' tv' dv':Value} (hE:Exc Y w w') (h3:MC BI X' R' lo' w' B b' s' wv' rv' tv' dv') (hX: ∀k,X' k→Y k∨w.heap.size≤k) (hL: ∀k,lo' k≠0→Y k∨w.heap.size≤k):aV BI w0 Y w B s' w':=by
 have hs:=h1.size;have hY: ∀k,X' k∨lo' k≠0→Y k∨w.heap.size≤k:=fun k q=>q.elim (hX k) (hL k)
 refine⟨fun k=>X' k∨lo' k≠0,⟨h1.trans (hE.below hs (fun k hk q=>by have:=h2 k q;omega)),fun k q=>(hY k q).elim (h2 k) (fun z=>by omega),X',R',lo',b',wv',rv',tv',dv',h3,fun k=>Iff.rfl⟩,hE,hY⟩
theorem MC.dgs (I:dI BI) (h:MC BI X R lo w B b s wv rv tv dv) {W:World} (hb:Below w.heap.size w W) {u:Value} {m:List Dgn} (hu:Ds W u m) (hl:s.d.length+m.length≤1000000):
  ∃dv' w2 lo',(gX #[dv,u]).run Tryz.prog W= .ok (.value dv') w2∧w2.cell? ⟨B,14,none⟩=some dv∧w2.frozen? ⟨B,14,none⟩=false∧MC BI X R lo' (w2.setCell ⟨B,14,none⟩ dv') B b {s with d:=s.d++m} wv rv tv dv'∧
   Exc (fun k=>lo k≠0) W (w2.setCell ⟨B,14,none⟩ dv')∧ ∀k,lo' k≠0→lo k≠0∨W.heap.size≤k:=by
 have hW:=h.keep I hb;obtain⟨dv',w2,hr,ho,hg,hown⟩:=gI hW.dg hu (Nat.zero_le _) hl;have hs:=hb.size;have ho4: ∀k,dv'.ownBlock=some k→lo k=3∨W.heap.size≤k:=fun k e=>by
  rcases hown with q | q
  ·exact .inl (h.dgb k (by rw[←q];exact e))
  ·rw[q]at e
   obtain rfl:=Option.some.inj e;exact .inr (Nat.le_refl _)
 have ho3: ∀k,dv'.ownBlock=some k→lo k=3∨w.heap.size≤k:=fun k e=>(ho4 k e).imp id (fun z=>by omega)
 have hE2:Exc (fun k=>dv.ownBlock=some k) W w2:=⟨hg.os,hg.tape,hg.output,hg.size,fun k hk hx=>hg.block k hk (fun e=>hx e.symm)⟩;have hB3: ¬dv.ownBlock=some B:=fun e=>by have:=h.dgb B e;rw[h.lb]at this;omega
 have box2:Blk w2 B 79 (mnC b s.th wv (kdM s) (lnM s) rv tv dv):=hE2.blk hW.box hB3;have hE3:Exc (fun k=>dv.ownBlock=some k∨k=B) W (w2.setCell ⟨B,14,none⟩ dv'):=(hE2.mono (fun k _ q=> .inl q)).set 14 _ (fun _=> .inr rfl);obtain⟨F,hF⟩: ∃F,w2.setCell ⟨B,14,none⟩ dv'=F:=⟨_,rfl⟩;have hbx:Blk F B 79 (mnC b s.th wv (kdM s) (lnM s) rv tv dv'):=by rw[←hF];exact box2.set 14 dv'
 have hdF:aO 0 F dv' (s.d++m):=ho.kp (fun k e=>by
  rw[←hF];refine Below.heap_setCell _ ⟨B,14,none⟩ _ _ (fun q=>?_);subst q;rcases ho3 _ e with q | q
  ·rw[h.lb]at q;omega
  ·have:=h.ll k (by rw[h.lb];decide);omega)
 rw[hF]at hE3;have hne: ∀k,lo k≠3→lo k≠2→ ¬(dv.ownBlock=some k∨k=B):=fun k q1 q2 q=>q.elim (fun e=>q1 (h.dgb k e)) (fun e=>q2 (by rw[e];exact h.lb))
 have kp: ∀S:Nat→Prop,(∀k,S k→k<w.heap.size∧lo k≠3∧lo k≠2)→Kp S W F:=fun S hS k q=>hE3.block k (Nat.lt_of_lt_of_le (hS k q).1 hs) (hne k (hS k q).2.1 (hS k q).2.2)
 have kX:Kp X W F:=kp X (fun k q=>⟨h.lt I k (.inl q),by rw[h.lx k q];decide,by rw[h.lx k q];decide⟩);have kR:Kp R W F:=kp R (fun k q=>⟨h.lt I k (.inr (.inl q)),by rw[h.lr k q];decide,by rw[h.lr k q];decide⟩);have kz: ∀z,z≠0→z≠2→z≠3→Kp (fun k=>lo k=z) W F:=fun z q0 q2 q3=>kp _ (fun k q=>⟨h.ll k (by omega),by omega,by omega⟩)
 have hFs:=hE3.size;have lab: ∀{k:Nat} z,z≠3→z≠0→lo k=z→iJ lo 3 dv'.ownBlock k=z:=fun {k} z q0 q1 q=>by rw[iI ho3 (h.ll k (by omega)) (by omega),q]
 have l0: ∀{k:Nat},k<w.heap.size→lo k=0→iJ lo 3 dv'.ownBlock k=0:=fun {k} hk q=>by rw[iI ho3 hk (by omega),q]
 refine⟨dv',w2,iJ lo 3 dv'.ownBlock,hr,box2.cell 14,box2.frozen (by simp[mnC]),?_,?_,fun k q=>uo ho4 (by decide) q⟩
 ·rw[hF]
  refine⟨⟨h.ok.vg,h.ok.vw,h.ok.gw⟩,fun k q=>?_,fun k q=>l0 (h.lt I k (.inl q)) (h.lx k q),fun k q=>l0 (h.lt I k (.inr (.inl q))) (h.lr k q),I.keep hW.bi kX kR hFs,lab 2 (by decide) (by decide) h.lb,hbx,hdF,fun k e=>pg e,
   hW.tx.kp (fun k e=>kz 4 (by decide) (by decide) (by decide) k (h.txb k e)),fun k e=>lab 4 (by decide) (by decide) (h.txb k e),hW.rg.keep kR (fun k e=>kz 5 (by decide) (by decide) (by decide) k (h.rgb k e)),fun k e=>lab 5 (by decide) (by decide) (h.rgb k e),h.rn,h.tn,(hW.wt.keep (kz 6 (by decide) (by decide) (by decide))).relab (fun k q=>lab 6 (by decide) (by decide) q)⟩
  refine ut (N:=F.heap.size) (fun k q=>by have:=h.ll k q;omega) (fun k e=>?_) q;have:=(hdF.ty e).2;obtain⟨cur,hc⟩:=this;exact(Array.getElem?_eq_some_iff.1 hc).1
 ·rw[hF]
  exact hE3.mono (Y:=fun k=>lo k≠0) (fun k hk q=>by
   rcases q with q | q
   ·rw[h.dgb k q];decide
   ·rw[q,h.lb];decide)
end
section
variable {BI:BIT} {TB:World→Prop} {w w0:World} {B:Nat} {s:Md} {Y:Nat→Prop}
def cz (BI:BIT) (w0:World) (Y:Nat→Prop) (w:World) (B:Nat) (v:Value) (s':Md) (e:Ending) (w':World):Prop:=e= .returned v∧aV BI w0 Y w B s' w'
theorem MC.d_at {X R:Nat→Prop} {lo:Nat→Nat} {b:Nat} {wv rv tv dv:Value} (h:MC BI X R lo w B b s wv rv tv dv): ∃a c,dv= .slice a s.d.length c:=(ag.sl ax h.dg).len
attribute [local go_sem ↓ high] bH
theorem cZ (I:dI BI) (h:MM BI w0 Y w B s) (k ln:Int) (hD:s.d.length≤500000):
  Calls Tryz.prog 28 #[ak B,.int .i64 k,.int .i64 ln] w (cz BI w0 Y w B (.tuple #[]) (aF s k ln)):=by
 obtain⟨h1,h2,X,R,lo,b,wv,rv,tv,dv,h3,h4⟩:=h;have b1:=af w (.cells (jm (k,ln,0)).toArray 46);obtain⟨dv',w2,lo',hr,q7,f7,hM,hE,hL⟩:=h3.dgs I b1 (dC ax w 46 [(k,ln,0)]) (by simp;omega);obtain⟨a,c,rfl⟩:=h3.d_at;obtain⟨a',c',rfl⟩:=hM.d_at;have c7:w.cell? ⟨B,14,none⟩=some (.slice a s.d.length c):=h3.box.cell 14;have hr':(gX #[.slice a s.d.length c,.slice (some ⟨w.heap.size,0,none⟩) 1 1]).run Tryz.prog (w.alloc (.cells #[.int .i64 k,.int .i64 ln,.int .i64 0] 46))= .ok (.value (.slice a' (s.d++ [(k,ln,0)]).length c')) w2:=hr;have HR:Hid (aV BI w0 Y w B (aF s k ln) (w2.setCell ⟨B,14,none⟩ (.slice a' (s.d++ [(k,ln,0)]).length c'))):=
  zH (MM.aft h1 h2 ((Exc.of (X:=Y) b1).trans (hE.mono (Y:=Y) (fun i _ q=>(h4 i).2 (.inr q))) (fun _ _ q=>q)) hM (fun i q=> .inl ((h4 i).2 (.inl q))) (fun i q=>(hL i q).imp (fun z=>(h4 i).2 (.inr z)) (fun z=>Nat.le_trans b1.size z)))
 obtain⟨m,hm⟩: ∃m,s.d.length=m:=⟨_,rfl⟩;obtain⟨m',hm'⟩: ∃m',(s.d++ [(k,ln,0)]).length=m':=⟨_,rfl⟩;rw[hm']at hr' HR;rw[hm]at hr' c7 q7;clear hr hM hE hL h3 h4 h2 h1 b1 hD hm hm';go_enter Tryz.func28,Tryz.ntmps28
 go_wp2_with fail
 go_end0;exact⟨rfl,HR.out⟩
theorem MC.put (I:dI BI) {X R:Nat→Prop} {lo lo':Nat→Nat} {w w':World} {b:Nat} {s s':Md} {wv rv tv dv wv' rv' tv':Value} (h:MC BI X R lo w B b s wv rv tv dv)
  (hE:Exc (fun k=>k=B) w w') (hbx:Blk w' B 79 (mnC b s'.th wv' (kdM s') (lnM s') rv' tv' dv)) (hsb:s'.b=s.b) (hsd:s'.d=s.d) (hok:MOk s')
  (hll: ∀k,lo' k≠0→k<w'.heap.size) (hlx: ∀k,X k→lo' k=0) (hlr: ∀k,R k→lo' k=0) (h23: ∀k,lo k=2∨lo k=3→lo' k=lo k)
  (tx:ic 0 w tv' (txM s')) (txb: ∀k,tv'.ownBlock=some k→lo' k=4) (rg:sD R w rv' (rwM s')) (rgb: ∀k,rv'.ownBlock=some k→lo' k=5) (rn:s'.v=none→rv'=dZ) (tn:s'.g=none→tv'=dZ) (wt:xQ lo' w wv' s'.w):MC BI X R lo' w' B b s' wv' rv' tv' dv:=by
 have lb':lo' B=2:=(h23 B (.inl h.lb)).trans h.lb;have hne: ∀k,k<w.heap.size→k≠B→w'.heap[k]? =w.heap[k]? :=fun k hk q=>hE.block k hk q
 have kX:Kp X w w':=fun k q=>hne k (h.lt I k (.inl q)) (fun e=>by have:=h.lx k q;rw[e,h.lb]at this;omega)
 have kR:Kp R w w':=fun k q=>hne k (h.lt I k (.inr (.inl q))) (fun e=>by have:=h.lr k q;rw[e,h.lb]at this;omega)
 have own: ∀{α:Type} {e n:Nat} {f:α→List Value} {v:Value} {l:List α},ag e n f 0 w v l→ ∀(z:Nat),z≠2→(∀k,v.ownBlock=some k→lo' k=z)→ ∀k,v.ownBlock=some k→w'.heap[k]? =w.heap[k]? :=fun ho z hz hk k e=>hne k (by
  obtain⟨-,cur,hc⟩:=ho.ty e;exact(Array.getElem?_eq_some_iff.1 hc).1) (fun q=>by have:=hk k e;rw[q,lb']at this;omega)
 refine⟨hok,hll,hlx,hlr,by rw[hsb];exact I.keep h.bi kX kR hE.size,lb',hbx,?_,fun k e=>(h23 k (.inr (h.dgb k e))).trans (h.dgb k e),tx.kp (own tx 4 (by decide) txb),txb,?_,rgb,rn,tn,?_⟩
 ·rw[hsd]
  exact h.dg.kp (own h.dg 3 (by decide) (fun k e=>(h23 k (.inr (h.dgb k e))).trans (h.dgb k e)))
 ·obtain⟨L,q1,q2,q3⟩:=rg
  exact⟨L,q1,q2.kp (own q2 5 (by decide) rgb),fun i p r a c=>(q3 i p r a c).keep kR⟩
 ·cases hw:s'.w with
  | none=>rw[hw]at wt;exact wt
  | some m=>
   rw[hw]at wt;obtain⟨g,q1,q2,q3⟩:=wt;exact⟨g,q1,q2,(hne g q3.lt (fun e=>by rw[e,lb']at q2;omega)).trans q3⟩
theorem MC.noWait (I:dI BI) {X R:Nat→Prop} {lo:Nat→Nat} {w:World} {b:Nat} {s:Md} {wv rv tv dv:Value} (h:MC BI X R lo w B b s wv rv tv dv):
  MC BI X R (fun k=>if lo k=6 then 0 else lo k) (w.setCell ⟨B,2,none⟩ (.pointer none)) B b {s with w:=none} (.pointer none) rv tv dv:=by
 have lab: ∀{k:Nat} z,z≠6→lo k=z→(if lo k=6 then 0 else lo k)=z:=fun {k} z hz q=>by rw[if_neg (by omega),q]
 refine h.put I ((Exc.refl _ w).set 2 _ (fun _=>rfl)) (h.box.set 2 (.pointer none)) rfl rfl ⟨h.ok.vg,fun _=>rfl,fun _=>rfl⟩ (fun k q=>?_) (fun k q=>lab 0 (by decide) (h.lx k q)) (fun k q=>lab 0 (by decide) (h.lr k q)) (fun k q=>?_) h.tx (fun k e=>lab 4 (by decide) (h.txb k e)) h.rg (fun k e=>lab 5 (by decide) (h.rgb k e)) h.rn h.tn rfl
 ·have:lo k≠0:=fun e=>q (lab 0 (by decide) e)
  rw[dM];exact h.ll k this
 ·show(if lo k=6 then 0 else lo k)=lo k
  rw[if_neg (by omega)]
theorem jP (I:dI BI) (h:MM BI w0 Y w B s) (hD:s.d.length≤500000):
  Calls Tryz.prog 29 #[ak B] w (cz BI w0 Y w B (.tuple #[]) (upM s)):=by
 have HM:=zH h;obtain⟨h1,h2,X,R,lo,b,wv,rv,tv,dv,h3,h4⟩:=h;have c2:w.cell? ⟨B,2,none⟩=some wv:=h3.box.cell 2;have hwt:=h3.wt;unfold upM
 cases hw:s.w with
 | none=>
  rw[hw]at hwt;obtain rfl:wv= .pointer none:=hwt;have HA:Hid (aV BI w0 Y w B s w):=zH ⟨Y,HM.out,Exc.refl _ _,fun k q=> .inl q⟩;clear h1 h2 h3 h4 hw HM;simp only;go_enter Tryz.func29,Tryz.ntmps29
  go_wp2_with fail
  go_end0;exact⟨rfl,HA.out⟩
 | some m=>
  rw[hw]at hwt;obtain⟨g,rfl,hg6,hgb⟩:=hwt;have c9:w.cell? ⟨g,1,none⟩=some (.int .i64 m.line):=hgb.cell 1;have HT:=zH (cZ I HM.out 5 m.line hD);have HS:Hid (∀w1,aV BI w0 Y w B (aF s 5 m.line) w1→ ∃wv',w1.cell? ⟨B,2,none⟩=some wv'∧w1.frozen? ⟨B,2,none⟩=false∧aV BI w0 Y w B {aF s 5 m.line with w:=none} (w1.setCell ⟨B,2,none⟩ (.pointer none))):=zH (by
   rintro w1 ⟨Y1,⟨g1,g2,X1,R1,lo1,b1,wv1,rv1,tv1,dv1,g3,g4⟩,gE,gY⟩;have hN:=g3.noWait I;refine⟨wv1,g3.box.cell 2,g3.box.frozen (by simp[mnC]),aV.trans gE gY (MM.aft g1 g2 ((Exc.refl _ w1).set 2 _ (fun _=>(g4 B).2 (.inr (by rw[g3.lb];decide)))) hN (fun k q=> .inl ((g4 k).2 (.inl q))) (fun k q=> .inl ((g4 k).2 (.inr (fun e=>q ?_)))))⟩;show(if lo1 k=6 then 0 else lo1 k)=0;rw[if_neg (by omega),e])
  clear h1 h2 h3 h4 hw HM hgb hg6;simp only;go_enter Tryz.func29,Tryz.ntmps29
  go_wp2_with fail
  refine HT.out.mono ?_;rintro e w1 ⟨rfl,m1⟩;obtain⟨wv',d2,f2,m2⟩:=HS.out w1 m1;have M2:=zH m2;clear m1 m2 HT HS;go_wp2_with fail
  go_end0;exact⟨rfl,M2.out⟩
end
section
variable {BI:BIT} {TB:World→Prop} {w w0:World} {B:Nat} {s:Md} {Y:Nat→Prop}
theorem MC.bld (I:bg BI TB) {X R S:Nat→Prop} {lo:Nat→Nat} {b:Nat} {wv rv tv dv:Value} {t':Bt} {w1 w2:World} (h1:Below w0.heap.size w0 w) (h2: ∀k,Y k→w0.heap.size≤k) (h:MC BI X R lo w B b s wv rv tv dv) (h4: ∀k,Y k↔X k∨lo k≠0)
  (hb:Below w.heap.size w w1) (hS: ∀k,S k→ ¬Y k) (ha:Aft BI X R S w1 b t' w2):aV BI w0 Y w B {s with b:=t'} w2:=by
 obtain⟨X',R',a1,a2,a3,a4⟩:=ha;have hs:=hb.size;have hs2:=a2.size;have hk:=h.keep I hb;have hX': ∀k,X' k→lo k=0:=fun k q=>(a3 k q).elim (h.lx k) (fun z=>by
  apply Decidable.byContradiction;intro e;have:=h.ll k e;omega)
 have hne: ∀k,k<w1.heap.size→ ¬X k→w2.heap[k]? =w1.heap[k]? :=fun k q1 q2=>a2.block k q1 q2
 have kR:Kp R w1 w2:=fun k q=>hne k (hk.lt I k (.inr (.inl q))) (I.sep h.bi k q)
 have kL:Kp (fun k=>lo k≠0) w1 w2:=fun k q=>hne k (hk.lt I k (.inr (.inr q))) (fun e=>q (h.lx k e))
 have kz: ∀z,z≠0→Kp (fun k=>lo k=z) w1 w2:=fun z hz k e=>kL k (show lo k≠0 by rw[show lo k=z from e];exact hz)
 have hR': ∀k,R' k→lo k=0:=fun k q=>by
  apply Decidable.byContradiction;intro e;rcases a4 k q with z | z | z | z
  ·exact e (h.lr k z)
  ·exact hS k z ((h4 k).2 (.inr e))
  ·exact e (h.lx k z)
  ·have:=h.ll k e;omega
 refine MM.aft h1 h2 (X':=X') (R':=fun k=>R' k∨R k) (lo':=lo) (b':=b) (wv':=wv) (rv':=rv) (tv':=tv) (dv':=dv) ?_ ?_ (fun k q=>(a3 k q).imp (fun z=>(h4 k).2 (.inl z)) (fun z=>Nat.le_trans hs z)) (fun k q=> .inl ((h4 k).2 (.inr q)))
 ·exact(Exc.of (X:=Y) hb).trans ⟨a2.os,a2.tape,a2.output,a2.size,fun k q1 q2=>a2.block k q1 (fun z=>q2 ((h4 k).2 (.inl z)))⟩ (fun _ _ q=>q)
 ·refine⟨⟨h.ok.vg,h.ok.vw,h.ok.gw⟩,fun k q=>Nat.lt_of_lt_of_le (h.ll k q) (by omega),hX',fun k q=>q.elim (hR' k) (h.lr k),?_,h.lb,(kL B (show lo B≠0 by rw[h.lb];decide)).trans hk.box,hk.dg.kp (fun k e=>kz 3 (by decide) k (h.dgb k e)),h.dgb,hk.tx.kp (fun k e=>kz 4 (by decide) k (h.txb k e)),h.txb,
   (hk.rg.keep kR (fun k e=>kz 5 (by decide) k (h.rgb k e))).more (fun k q=> .inr q),h.rgb,h.rn,h.tn,hk.wt.keep (kz 6 (by decide))⟩
  refine I.more a1 (fun k q=> .inl q) (fun k q=>q.imp id (fun z=>?_));have hkl:=hk.lt I k (.inr (.inl z));refine⟨by omega,fun e=>?_⟩;rcases a3 k e with y | y
  ·exact I.sep h.bi k z y
  ·omega
theorem MM.call (I:bg BI TB) (h:MM BI w0 Y w B s) (hT:TB w0): ∃b X R,w.cell? ⟨B,0,none⟩=some (ak b)∧(∀k,X k→Y k)∧(∀w1,Below w.heap.size w w1→BI X R w1 b s.b∧TB w1∧w1.cell? ⟨B,0,none⟩=some (ak b))∧
  (∀S t' w1 w2,Below w.heap.size w w1→(∀k,S k→ ¬Y k)→Aft BI X R S w1 b t' w2→aV BI w0 Y w B {s with b:=t'} w2):=by
 obtain⟨h1,h2,X,R,lo,b,wv,rv,tv,dv,h3,h4⟩:=h;refine⟨b,X,R,h3.box.cell 0,fun k q=>(h4 k).2 (.inl q),fun w1 hb=>⟨(h3.keep I hb).bi,I.tb hT (h1.trans (hb.mono h1.size)),(h3.box.below hb).cell 0⟩,fun S t' w1 w2 hb hS ha=>h3.bld I h1 h2 h4 hb hS ha⟩
theorem aV.pre {w1 w2:World} {s':Md} (hb:Below w.heap.size w w1) (h:aV BI w0 Y w1 B s' w2):aV BI w0 Y w B s' w2:=aV.trans (Exc.of hb) (fun k q=> .inl q) h
theorem kJ (I:bg BI TB) (h:MM BI w0 Y w B s) (hT:TB w0) {S:Nat→Prop} {x:NV} {hd:Hd} (hx:nW S w x (.mk hd [])) (hS: ∀k,S k→k<w.heap.size∧ ¬Y k) (hb:btl s.b+nlN (.mk hd [])≤30000) (hD:s.d.length≤500000):
  Calls Tryz.prog 86 #[ak B,.agg (ae x).toArray] w (cz BI w0 Y w B (.tuple #[]) (bJ s hd)):=by
 obtain⟨W1,hW1⟩: ∃W,w.alloc (.cells (ae x).toArray 58)=W:=⟨_,rfl⟩;have b1:Below w.heap.size w W1:=by rw[←hW1];exact af _ _
 have kx:Blk W1 w.heap.size 58 (ae x):=by rw[←hW1];exact heap_alloc_new w _
 have hM1:=h.keep I b1;obtain⟨b,X,R,c0,hXY,hBI,hAF⟩:=hM1.call I hT;have HDP:=zH (I.depth (hBI W1 (Below.refl _ _)).1 (hBI W1 (Below.refl _ _)).2.1);have hln:x.line=hd.line:=hx.1.line;obtain⟨sf,hsf⟩: ∃sf,bJ s hd=sf:=⟨_,rfl⟩;have HT:Hid (20≤s.b.opn.length→ ∀V,Below W1.heap.size W1 V→Calls Tryz.prog 28 #[ak B,.int .i64 8,.int .i64 hd.line] V (cz BI w0 Y V B (.tuple #[]) sf)):=zH (fun hq V hV=>by
  rw[←hsf];unfold bJ;rw[if_pos hq];exact cZ I (hM1.keep I hV) 8 hd.line hD)
 have HO:Hid (¬20≤s.b.opn.length→ ∀V,Below W1.heap.size W1 V→Calls Tryz.prog 123 #[ak b,.agg (ae x).toArray] V fun e w'=>e= .returned (.tuple #[])∧aV BI w0 Y w B sf w'):=zH (fun hq V hV=>by
  rw[←hsf];unfold bJ;rw[if_neg hq];have hb2:=b1.trans (hV.mono b1.size);refine(I.opn (S:=S) (hBI V hV).1 (hBI V hV).2.1 (hx.keep (Kp.below hb2 (fun k q=>(hS k q).1))) (fun k q=>⟨Nat.lt_of_lt_of_le (hS k q).1 hb2.size,fun e=>(hS k q).2 (hXY k e)⟩) hb).mono ?_;rintro e w' ⟨rfl,ha⟩;exact⟨rfl,(hAF S _ V w' hV (fun k q=>(hS k q).2) ha).pre b1⟩)
 have HC:Hid (∀V,Below W1.heap.size W1 V→V.cell? ⟨B,0,none⟩=some (ak b)∧ ∀(i:Nat) u,(ae x)[i]? =some u→V.cell? ⟨w.heap.size,i,none⟩=some u):=zH (fun V hV=>⟨(hBI V hV).2.2,fun i u hu=>by rw[(kx.below hV).cell i];exact hu⟩);have HB1:=zH b1;rw[hsf];obtain⟨n,hn⟩: ∃n,s.b.opn.length=n:=⟨_,rfl⟩;rw[hn]at HDP HT HO;obtain⟨xk,xl,xn,⟨t1,t2,t3⟩,⟨k1,k2,k3⟩,⟨r1,r2,r3⟩,xc,⟨q1,q2,q3⟩,xb,xa⟩:=x;simp only[ae,pv]at hW1 HO HC ⊢;simp only at hln;subst hln;clear h hx hS hb hD hM1 hBI hAF b1 kx hn hXY hsf;go_enter Tryz.func86,Tryz.ntmps86
 go_wp2_with fail
 clear hW1;refine HDP.out.mono ?_;rintro e V ⟨rfl,hV⟩;have HV:=zH hV;obtain⟨c0',hc⟩:=HC.out V hV;have x0:=hc 0 _ rfl;have x1:=hc 1 _ rfl;have x2:=hc 2 _ rfl;have x3:=hc 3 _ rfl;have x4:=hc 4 _ rfl;have x5:=hc 5 _ rfl;have x6:=hc 6 _ rfl;have x7:=hc 7 _ rfl;have x8:=hc 8 _ rfl;have x9:=hc 9 _ rfl;clear hV hc c0 HC HDP
 by_cases hlt:20≤n
 ·have hd1:decide ((20:Int)≤(n:Int))=true:=decide_eq_true (by omega)
  have hlt':(20:Int)≤(n:Int):=by omega
  go_wp2_with fail
  refine(HT.out hlt V HV.out).mono ?_;rintro e w2 ⟨rfl,m2⟩;have M2:=zH ((m2.pre HV.out).pre HB1.out);clear m2;go_wp2_with fail
  go_end0;exact⟨rfl,M2.out⟩
 ·have hlt': ¬(20:Int)≤(n:Int):=by omega
  go_wp2_with fail
  go_still_tail 5,(by kernel_rfl)
  change wpList _ _ _ _ _ V.drew;have HO2:=zH (HO.out hlt V.drew (HV.out.drew));go_wp2_with fail
  refine HO2.out.mono ?_;rintro e w2 ⟨rfl,m2⟩;have M2:=zH m2;clear m2;go_wp2_with fail
  go_end0;exact⟨rfl,M2.out⟩
end
end Go.Proofs.YtebabjnngdjceaaGreatDoor
