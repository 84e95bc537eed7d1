/- Texts: '+' of them, rows -/
import Derived.Test.YtebabjnngdjceaaGreatDoorHa
import Derived.Test.YtebabjnngdjceaaGreatDoorC5
import Derived.Shelf.Pu.ParseUintPublic10
import Derived.Shelf.Strings.MapGrows
import Derived.Shelf.Strings.SplitCore
import Derived.Shelf.Strings.Count
import Derived.Lib.SplitLaws
set_option linter.unusedVariables false
set_option linter.unusedSimpArgs false
set_option maxRecDepth 100000
set_option maxHeartbeats 4000000
namespace Go.Proofs.YtebabjnngdjceaaGreatDoor
open Go.RowKit
section
theorem az (b:List UInt8):(⟨b.toArray⟩:ByteArray).size=b.length:=by simp[Go.Lib.size_eq]
theorem iC (b:List UInt8)(j:Nat)(h:j≤b.length)(w:World):(Instr.slice 9 (.string ⟨b.toArray⟩) none (some (.int .i64 (j:Int))) none).run Tryz.prog w=.ok (.string ⟨(b.take j).toArray⟩) w:=by
 have hsz:=az b;rw[run_slice_string_to_if w 9 _ .i64 (j:Int) Tryz.underlying9,PZ ⟨by omega,by rw[hsz];omega⟩,ByteArray.extract_mk];simp only[Rf,List.drop_zero,Nat.sub_zero]
theorem str_eq (a c:List UInt8):decide ((⟨a.toArray⟩:ByteArray)=⟨c.toArray⟩)=decide (a=c):=by
 apply bO;simp
theorem FD (w:World)(L:List Value)(e:TypeId):Blk (w.alloc (.cells L.toArray e)) w.heap.size e L:=PK w _
theorem F6 (b:List UInt8):∀u∈jw b,u.oneCell'=true:=by
 intro u hu;simp[jw]at hu;rw[hu];rfl
abbrev Ss (w:World)(v:Value)(l:List (List UInt8)):Prop:=Fs 1 jw w v l
abbrev iN (base:Nat)(W:World)(x:Value)(l:List (List UInt8)):Prop:=ag 9 1 jw base W x l
theorem JY:(Tryz.prog.info? 9).map (fun i=>(i.zero,i.size,i.bytes))=some (some (.string ⟨#[]⟩),1,16):=by kernel_rfl
noncomputable def rR (args:Array Value):Sem Next:=do pure (.value (←Builtin.append_ #[22,22] 22 args))
theorem zy (cs:Array Bool)(args:Array Value):builtin .append #[22,22] 22 cs args=rR args:=rfl
theorem BV {base:Nat}{W:World}{x u:Value}{l m:List (List UInt8)}(h:iN base W x l)(hu:Ss W u m)(hb:base≤W.heap.size)(hd:l.length+m.length≤1000000):
  ∃x' w',(rR #[x,u]).run Tryz.prog W=.ok (.value x') w'∧iN base w' x' (l++m)∧W.grownBy w' x.ownBlock∧(x'.ownBlock=x.ownBlock∨x'.ownBlock=some W.heap.size):=by
 obtain⟨i0,hi,hz0,hz1,hz2⟩:=Ql JY;obtain⟨x',w',hr,r⟩:=lM dF F6 (by decide) Tryz.underlying22 hi hz0 hz1 hz2 rfl (by decide) h hu hb hd;refine⟨x',w',?_,r⟩;unfold rR;simp only[QD,QG,Qm,hr]
theorem Ak {base:Nat}{W:World}{v:Value}{acc:List (List UInt8)}(h:iN base W v acc)(hb:base≤W.heap.size)(x:List UInt8)(hd:acc.length≤500000):
  ∃v' w2,(rR #[v,.slice (some ⟨W.heap.size,0,none⟩) 1 1]).run Tryz.prog (W.alloc (.cells #[.string ⟨x.toArray⟩] 9))=.ok (.value v') w2∧iN base w2 v' (acc++ [x])∧Below base W w2∧W.heap.size≤w2.heap.size:=by
 have b1:=ae W (.cells #[.string ⟨x.toArray⟩] 9);have h1:=h.keep b1;obtain⟨v',w2,hrun,ho,hg,-⟩:=BV h1 (dM dF W 9 [x]) (by simp;omega) (by simp;omega);have hz:=hg.size;refine⟨v',w2,hrun,ho,(b1.mono hb).grown hg (by simp;omega) (fun j e=>(h1.ty e).1),?_⟩;simp at hz;omega
theorem Ss.at {w:World}{a:Option Addr}{k cap:Nat}{l:List (List UInt8)}(h:Ss w (.slice a k cap) l){j:Nat}{x:List UInt8}(hj:l[j]? =some x):
  ∃b off,a=some ⟨b,off,none⟩∧w.cell? ⟨b,off+j,none⟩=some (.string ⟨x.toArray⟩):=by
 obtain⟨a',cap',hv,_,hr⟩:=h;injection hv with h1 h2 h3
 subst h1;obtain⟨b,off,rfl,h0⟩:=hr j x hj;have:=h0 0 _ rfl;rw[RB]at this;exact⟨b,off,rfl,this⟩
noncomputable def iE (a c:Value):Sem Value:=binOp .eql 9 a c
theorem bg (a c:Value):binOp .eql 9 a c=iE a c:=rfl
noncomputable def rJ (a c:Value):Sem Value:=binOp .neq 9 a c
theorem bK (a c:Value):binOp .neq 9 a c=rJ a c:=rfl
theorem dC (a c:List UInt8)(W:World):(iE (.string ⟨a.toArray⟩) (.string ⟨c.toArray⟩)).run Tryz.prog W=.ok (.bool (decide (a=c))) W:=by
 rw[←str_eq];unfold iE;simp[go_sem];exact bO (by simp)
theorem jR (a c:List UInt8)(W:World):(rJ (.string ⟨a.toArray⟩) (.string ⟨c.toArray⟩)).run Tryz.prog W=.ok (.bool (!decide (a=c))) W:=by
 rw[←str_eq];unfold rJ;simp[go_sem];exact bO (by simp)
attribute [local go_sem ↓ high] bg bK
theorem Gp (x:List UInt8)(W:World):(rJ (.string ⟨x.toArray⟩) (.string ⟨x.toArray⟩)).run Tryz.prog W=.ok (.bool false) W:=by
 have:=jR x x W
 simpa using this
theorem uG {x y:List UInt8}(h:x≠y)(W:World):(rJ (.string ⟨x.toArray⟩) (.string ⟨y.toArray⟩)).run Tryz.prog W=.ok (.bool true) W:=by
 have:=jR x y W;rw[P8 h]at this;exact this
theorem H8 (w:World)(a b:Nat):(w.drewN a).drewN b=w.drewN (a+b):=Rj ..
end
section
open Go.Shelf Go.RowKit Go.Lib
def G5:Go.Shelf.Ren:=⟨fun | 14=>154 | 16=>191 | 17=>192 | 19=>216 | 20=>217 | 21=>218 | 22=>219 | 23=>220 | 24=>221 | 25=>237 | 27=>239 | 26=>238 | 28=>246 | 29=>251 | 30=>252 | 31=>253 | 32=>254 | 33=>255 | 35=>257 | 34=>256 | 36=>258 | 37=>259 | 38=>260 | 39=>261 | 40=>262 | n=>n,fun | 9=>9 | 3=>3 | 22=>209 | 24=>168 | 25=>210 | 4=>4 | 34=>249 | 5=>5 | 36=>244 | 37=>104 | 0=>0 | 39=>250 | 21=>21 | 44=>264 | 47=>196 | 50=>272 | 48=>270 | 2=>2 | 52=>275 | 55=>278 | 59=>281 | 60=>259 | 20=>20 | 61=>282 | 65=>285 | 66=>286 | 67=>171 | n=>n,fun | 0=>3 | 1=>4 | 2=>5 | 3=>6 | 4=>7 | n=>n⟩
theorem Dp:Go.Proofs.LaysPu.n14 Tryz.prog G5:={
 mixed:=by kernel_rfl
 f14:=Tryz.func154.trans (PR some (by kernel_rfl))
 f16:=Tryz.func191.trans (PR some (by kernel_rfl))
 f17:=Tryz.func192.trans (PR some (by kernel_rfl))
 f19:=Tryz.func216.trans (PR some (by kernel_rfl))
 f20:=Tryz.func217.trans (PR some (by kernel_rfl))
 f21:=Tryz.func218.trans (PR some (by kernel_rfl))
 f22:=Tryz.func219.trans (PR some (by kernel_rfl))
 f23:=Tryz.func220.trans (PR some (by kernel_rfl))
 f24:=Tryz.func221.trans (PR some (by kernel_rfl))
 f25:=Tryz.func237.trans (PR some (by kernel_rfl))
 f26:=Tryz.func238.trans (PR some (by kernel_rfl))
 f27:=Tryz.func239.trans (PR some (by kernel_rfl))
 f28:=Tryz.func246.trans (PR some (by kernel_rfl))
 f29:=Tryz.func251.trans (PR some (by kernel_rfl))
 f30:=Tryz.func252.trans (PR some (by kernel_rfl))
 f31:=Tryz.func253.trans (PR some (by kernel_rfl))
 f32:=Tryz.func254.trans (PR some (by kernel_rfl))
 f33:=Tryz.func255.trans (PR some (by kernel_rfl))
 f34:=Tryz.func256.trans (PR some (by kernel_rfl))
 f35:=Tryz.func257.trans (PR some (by kernel_rfl))
 f36:=Tryz.func258.trans (PR some (by kernel_rfl))
 f37:=Tryz.func259.trans (PR some (by kernel_rfl))
 f38:=Tryz.func260.trans (PR some (by kernel_rfl))
 f39:=Tryz.func261.trans (PR some (by kernel_rfl))
 f40:=Tryz.func262.trans (PR some (by kernel_rfl))
 t0:=Tryz.underlying0
 a0:=Tryz.isAgg0
 z0:=Tryz.sizeOf0
 v0:=Tryz.zeroValue0
 i0:=by kernel_rfl
 t2:=Tryz.underlying2
 a2:=Tryz.isAgg2
 z2:=Tryz.sizeOf2
 v2:=Tryz.zeroValue2
 i2:=by kernel_rfl
 t3:=Tryz.underlying3
 a3:=Tryz.isAgg3
 z3:=Tryz.sizeOf3
 v3:=Tryz.zeroValue3
 i3:=by kernel_rfl
 t4:=Tryz.underlying4
 a4:=Tryz.isAgg4
 z4:=Tryz.sizeOf4
 v4:=Tryz.zeroValue4
 i4:=by kernel_rfl
 t5:=Tryz.underlying5
 a5:=Tryz.isAgg5
 z5:=Tryz.sizeOf5
 v5:=Tryz.zeroValue5
 i5:=by kernel_rfl
 t9:=Tryz.underlying9
 a9:=Tryz.isAgg9
 z9:=Tryz.sizeOf9
 v9:=Tryz.zeroValue9
 i9:=by kernel_rfl
 t20:=Tryz.underlying20
 a20:=Tryz.isAgg20
 z20:=Tryz.sizeOf20
 v20:=Tryz.zeroValue20
 i20:=by kernel_rfl
 t21:=Tryz.underlying21
 a21:=Tryz.isAgg21
 z21:=Tryz.sizeOf21
 v21:=Tryz.zeroValue21
 i21:=by kernel_rfl
 t22:=Tryz.underlying209
 a22:=Tryz.isAgg209
 z22:=Tryz.sizeOf209
 v22:=Tryz.zeroValue209
 i22:=by kernel_rfl
 t24:=Tryz.underlying168
 a24:=Tryz.isAgg168
 z24:=Tryz.sizeOf168
 v24:=Tryz.zeroValue168
 i24:=by kernel_rfl
 t25:=Tryz.underlying210
 a25:=Tryz.isAgg210
 z25:=Tryz.sizeOf210
 v25:=Tryz.zeroValue210
 i25:=by kernel_rfl
 t34:=Tryz.underlying249
 a34:=Tryz.isAgg249
 z34:=Tryz.sizeOf249
 v34:=Tryz.zeroValue249
 i34:=by kernel_rfl
 c34:=by kernel_rfl
 t36:=Tryz.underlying244
 a36:=Tryz.isAgg244
 z36:=Tryz.sizeOf244
 v36:=Tryz.zeroValue244
 i36:=by kernel_rfl
 t37:=Tryz.underlying104
 a37:=Tryz.isAgg104
 z37:=Tryz.sizeOf104
 v37:=Tryz.zeroValue104
 i37:=by kernel_rfl
 t39:=Tryz.underlying250
 a39:=Tryz.isAgg250
 z39:=Tryz.sizeOf250
 v39:=Tryz.zeroValue250
 i39:=by kernel_rfl
 t44:=Tryz.underlying264
 a44:=Tryz.isAgg264
 z44:=Tryz.sizeOf264
 v44:=Tryz.zeroValue264
 i44:=by kernel_rfl
 t47:=Tryz.underlying196
 a47:=Tryz.isAgg196
 z47:=Tryz.sizeOf196
 v47:=Tryz.zeroValue196
 i47:=by kernel_rfl
 t48:=Tryz.underlying270
 a48:=Tryz.isAgg270
 z48:=Tryz.sizeOf270
 v48:=Tryz.zeroValue270
 i48:=by kernel_rfl
 t50:=Tryz.underlying272
 a50:=Tryz.isAgg272
 z50:=Tryz.sizeOf272
 v50:=Tryz.zeroValue272
 i50:=by kernel_rfl
 t52:=Tryz.underlying275
 a52:=Tryz.isAgg275
 z52:=Tryz.sizeOf275
 v52:=Tryz.zeroValue275
 i52:=by kernel_rfl
 t55:=Tryz.underlying278
 a55:=Tryz.isAgg278
 z55:=Tryz.sizeOf278
 v55:=Tryz.zeroValue278
 i55:=by kernel_rfl
 t59:=Tryz.underlying281
 a59:=Tryz.isAgg281
 z59:=Tryz.sizeOf281
 v59:=Tryz.zeroValue281
 i59:=by kernel_rfl
 t60:=Tryz.underlying259
 a60:=Tryz.isAgg259
 z60:=Tryz.sizeOf259
 v60:=Tryz.zeroValue259
 i60:=by kernel_rfl
 t61:=Tryz.underlying282
 a61:=Tryz.isAgg282
 z61:=Tryz.sizeOf282
 t65:=Tryz.underlying285
 a65:=Tryz.isAgg285
 z65:=Tryz.sizeOf285
 v65:=Tryz.zeroValue285
 i65:=by kernel_rfl
 t66:=Tryz.underlying286
 a66:=Tryz.isAgg286
 z66:=Tryz.sizeOf286
 v66:=Tryz.zeroValue286
 i66:=by kernel_rfl
 t67:=Tryz.underlying171
 a67:=Tryz.isAgg171
 z67:=Tryz.sizeOf171
 v67:=Tryz.zeroValue171
 i67:=by kernel_rfl
 g0:=by kernel_rfl
 m0:=by kernel_rfl
 g1:=by kernel_rfl
 m1:=by kernel_rfl
 g2:=by kernel_rfl
 m2:=by kernel_rfl
 g3:=by kernel_rfl
 m3:=by kernel_rfl
 g4:=by kernel_rfl
 m4:=by kernel_rfl}
structure Er (w:World):Prop where
 syn:∃t p,w.cell? ⟨3,0,none⟩=some (.iface t p)
 rng:∃t p,w.cell? ⟨4,0,none⟩=some (.iface t p)
theorem Er.below {w w':World}(h:Er w)(hb:Below w.heap.size w w'):Er w':=by
 obtain⟨⟨t,p,h1⟩,⟨u,q,h2⟩⟩:=h;exact⟨⟨t,p,(hb.cell (PX w _ h1)).trans h1⟩,⟨u,q,(hb.cell (PX w _ h2)).trans h2⟩⟩
theorem Jm (s:List UInt8)(u:Nat)(w:World)(hs:s.length≤100000)(h:Lib.parseUintB 64 s=.ok u):
  Calls Tryz.prog 154 #[.string ⟨s.toArray⟩,.int .i64 10,.int .i64 64] w fun e w'=>e=.returned (.tuple #[.int .u64 (u:Int),.nilIface])∧Below w.heap.size w w':=by
 refine(Any.strconv_ParseUint_10_at64_ok Dp ⟨s.toArray⟩ (by rw[az];omega) u (by simpa using h) w).mono ?_;rintro e w' ⟨h1,h2⟩;refine⟨h1,?_⟩;rcases h2 with rfl | rfl
 ·exact PG _ _
 ·unfold Lib.bytesWorld
  exact Lib.below_freeze (((PG w.heap.size w).drew).alloc (Px _) _) (p:=⟨w.heap.size,_,none⟩) (Px _) 1
theorem Gd (s:List UInt8)(w:World)(hE:Er w)(hs:s.length≤100000)(h:∀u,Lib.parseUintB 64 s≠ .ok u):
  Calls Tryz.prog 154 #[.string ⟨s.toArray⟩,.int .i64 10,.int .i64 64] w fun e w'=> ∃n t p,e=.returned (.tuple #[.int .u64 n,.iface t p])∧Below w.heap.size w w':=by
 have hz:(⟨s.toArray⟩:ByteArray).size≤281474976710656:=by rw[az];omega
 obtain⟨⟨t,p,h1⟩,⟨u,q,h2⟩⟩:=hE
 cases hp:Lib.parseUintB 64 s with
 | ok u=>exact absurd hp (h u)
 | range=>
  refine(Any.strconv_ParseUint_10_at64_range Dp ⟨s.toArray⟩ hz (by simpa using hp) _ w h2 (.inr ⟨u,q,rfl⟩)).mono ?_;rintro e w' ⟨N,e1,e2,e3,e4⟩;exact⟨_,_,_,e1,e4⟩
 | _=>
  refine(Any.strconv_ParseUint_10_at64_syntax Dp ⟨s.toArray⟩ hz (by simpa using hp) _ w h1 (.inr ⟨t,p,rfl⟩)).mono ?_;rintro e w' ⟨N,e1,e2,e3,e4⟩;exact⟨_,_,_,e1,e4⟩
end
section
open Go.Shelf Go.RowKit Go.Lib
def JG:Go.Shelf.Ren:=⟨fun | 230=>201 | 197=>139 | 118=>227 | 165=>228 | 166=>110 | 168=>229 | 270=>230 | 167=>225 | 169=>111 | 260=>177 | 240=>143 | 241=>243 | 242=>244 | 276=>182 | 277=>249 | 278=>250 | n=>n,fun | 107=>178 | 9=>9 | 72=>129 | 0=>0 | 4=>4 | 3=>3 | 21=>21 | 105=>193 | 76=>169 | 5=>5 | 75=>168 | 70=>127 | 20=>20 | 37=>104 | 127=>196 | 119=>243 | 46=>244 | 139=>247 | 138=>246 | 164=>229 | 51=>259 | 80=>171 | n=>n,fun | 3=>0 | 4=>1 | n=>n⟩
theorem r9:Go.Proofs.Lays.n230 Tryz.prog JG:={
 mixed:=by kernel_rfl
 f118:=Tryz.func227.trans (PR some (by kernel_rfl))
 f165:=Tryz.func228.trans (PR some (by kernel_rfl))
 f166:=Tryz.func110.trans (PR some (by kernel_rfl))
 f167:=Tryz.func225.trans (PR some (by kernel_rfl))
 f168:=Tryz.func229.trans (PR some (by kernel_rfl))
 f169:=Tryz.func111.trans (PR some (by kernel_rfl))
 f197:=Tryz.func139.trans (PR some (by kernel_rfl))
 f230:=Tryz.func201.trans (PR some (by kernel_rfl))
 f240:=Tryz.func143.trans (PR some (by kernel_rfl))
 f241:=Tryz.func243.trans (PR some (by kernel_rfl))
 f242:=Tryz.func244.trans (PR some (by kernel_rfl))
 f260:=Tryz.func177.trans (PR some (by kernel_rfl))
 f270:=Tryz.func230.trans (PR some (by kernel_rfl))
 f276:=Tryz.func182.trans (PR some (by kernel_rfl))
 f277:=Tryz.func249.trans (PR some (by kernel_rfl))
 f278:=Tryz.func250.trans (PR some (by kernel_rfl))
 t0:=Tryz.underlying0
 a0:=Tryz.isAgg0
 z0:=Tryz.sizeOf0
 v0:=Tryz.zeroValue0
 t3:=Tryz.underlying3
 a3:=Tryz.isAgg3
 z3:=Tryz.sizeOf3
 v3:=Tryz.zeroValue3
 t4:=Tryz.underlying4
 a4:=Tryz.isAgg4
 z4:=Tryz.sizeOf4
 v4:=Tryz.zeroValue4
 t5:=Tryz.underlying5
 a5:=Tryz.isAgg5
 z5:=Tryz.sizeOf5
 v5:=Tryz.zeroValue5
 t9:=Tryz.underlying9
 a9:=Tryz.isAgg9
 z9:=Tryz.sizeOf9
 v9:=Tryz.zeroValue9
 t20:=Tryz.underlying20
 a20:=Tryz.isAgg20
 z20:=Tryz.sizeOf20
 v20:=Tryz.zeroValue20
 t21:=Tryz.underlying21
 a21:=Tryz.isAgg21
 z21:=Tryz.sizeOf21
 v21:=Tryz.zeroValue21
 t37:=Tryz.underlying104
 a37:=Tryz.isAgg104
 z37:=Tryz.sizeOf104
 v37:=Tryz.zeroValue104
 t46:=Tryz.underlying244
 a46:=Tryz.isAgg244
 z46:=Tryz.sizeOf244
 v46:=Tryz.zeroValue244
 t51:=Tryz.underlying259
 a51:=Tryz.isAgg259
 z51:=Tryz.sizeOf259
 v51:=Tryz.zeroValue259
 t70:=Tryz.underlying127
 a70:=Tryz.isAgg127
 z70:=Tryz.sizeOf127
 v70:=Tryz.zeroValue127
 t72:=Tryz.underlying129
 a72:=Tryz.isAgg129
 z72:=Tryz.sizeOf129
 v72:=Tryz.zeroValue129
 t75:=Tryz.underlying168
 a75:=Tryz.isAgg168
 z75:=Tryz.sizeOf168
 v75:=Tryz.zeroValue168
 t76:=Tryz.underlying169
 a76:=Tryz.isAgg169
 z76:=Tryz.sizeOf169
 v76:=Tryz.zeroValue169
 t105:=Tryz.underlying193
 a105:=Tryz.isAgg193
 z105:=Tryz.sizeOf193
 v105:=Tryz.zeroValue193
 t107:=Tryz.underlying178
 a107:=Tryz.isAgg178
 z107:=Tryz.sizeOf178
 v107:=Tryz.zeroValue178
 t119:=Tryz.underlying243
 a119:=Tryz.isAgg243
 z119:=Tryz.sizeOf243
 t127:=Tryz.underlying196
 a127:=Tryz.isAgg196
 z127:=Tryz.sizeOf196
 v127:=Tryz.zeroValue196
 t138:=Tryz.underlying246
 a138:=Tryz.isAgg246
 z138:=Tryz.sizeOf246
 v138:=Tryz.zeroValue246
 t139:=Tryz.underlying247
 a139:=Tryz.isAgg247
 z139:=Tryz.sizeOf247
 v139:=Tryz.zeroValue247
 t164:=Tryz.underlying229
 a164:=Tryz.isAgg229
 z164:=Tryz.sizeOf229
 v164:=Tryz.zeroValue229
 g3:=by kernel_rfl
 g4:=by kernel_rfl}
theorem uM:Builder.Extra Tryz.prog JG:={
 sizeBuilder:=by kernel_rfl
 liesBuilder:=by kernel_rfl
 t5:=Tryz.underlying5
 a5:=Tryz.isAgg5
 z5:=Tryz.sizeOf5
 v5:=Tryz.zeroValue5
 infoByte:=by kernel_rfl
 cellsByte:=by kernel_rfl
 sizeByte:=by kernel_rfl
 neB5:=by decide}
def NI:Go.Shelf.Ren:=⟨fun | 221=>226 | 268=>241 | 138=>242 | 143=>140 | 195=>247 | 197=>139 | 218=>248 | 219=>178 | 260=>177 | 217=>208 | 225=>209 | 224=>210 | 267=>211 | 266=>233 | 314=>234 | n=>n,fun | 9=>9 | 3=>3 | 31=>22 | 4=>4 | 0=>0 | 105=>193 | 21=>21 | 5=>5 | 46=>244 | 119=>243 | 139=>247 | 138=>246 | 146=>260 | 51=>259 | n=>n,fun | 1=>2 | 3=>0 | 4=>1 | n=>n⟩
theorem yu:Go.Proofs.Lays.n221 Tryz.prog NI:={
 mixed:=by kernel_rfl
 f138:=Tryz.func242.trans (PR some (by kernel_rfl))
 f143:=Tryz.func140.trans (PR some (by kernel_rfl))
 f195:=Tryz.func247.trans (PR some (by kernel_rfl))
 f197:=Tryz.func139.trans (PR some (by kernel_rfl))
 f217:=Tryz.func208.trans (PR some (by kernel_rfl))
 f218:=Tryz.func248.trans (PR some (by kernel_rfl))
 f219:=Tryz.func178.trans (PR some (by kernel_rfl))
 f221:=Tryz.func226.trans (PR some (by kernel_rfl))
 f224:=Tryz.func210.trans (PR some (by kernel_rfl))
 f225:=Tryz.func209.trans (PR some (by kernel_rfl))
 f260:=Tryz.func177.trans (PR some (by kernel_rfl))
 f266:=Tryz.func233.trans (PR some (by kernel_rfl))
 f267:=Tryz.func211.trans (PR some (by kernel_rfl))
 f268:=Tryz.func241.trans (PR some (by kernel_rfl))
 f314:=Tryz.func234.trans (PR some (by kernel_rfl))
 t0:=Tryz.underlying0
 a0:=Tryz.isAgg0
 z0:=Tryz.sizeOf0
 v0:=Tryz.zeroValue0
 t3:=Tryz.underlying3
 a3:=Tryz.isAgg3
 z3:=Tryz.sizeOf3
 v3:=Tryz.zeroValue3
 t4:=Tryz.underlying4
 a4:=Tryz.isAgg4
 z4:=Tryz.sizeOf4
 v4:=Tryz.zeroValue4
 t5:=Tryz.underlying5
 a5:=Tryz.isAgg5
 z5:=Tryz.sizeOf5
 v5:=Tryz.zeroValue5
 t9:=Tryz.underlying9
 a9:=Tryz.isAgg9
 z9:=Tryz.sizeOf9
 v9:=Tryz.zeroValue9
 t21:=Tryz.underlying21
 a21:=Tryz.isAgg21
 z21:=Tryz.sizeOf21
 v21:=Tryz.zeroValue21
 t31:=Tryz.underlying22
 a31:=Tryz.isAgg22
 z31:=Tryz.sizeOf22
 v31:=Tryz.zeroValue22
 t46:=Tryz.underlying244
 a46:=Tryz.isAgg244
 z46:=Tryz.sizeOf244
 v46:=Tryz.zeroValue244
 t51:=Tryz.underlying259
 a51:=Tryz.isAgg259
 z51:=Tryz.sizeOf259
 v51:=Tryz.zeroValue259
 t105:=Tryz.underlying193
 a105:=Tryz.isAgg193
 z105:=Tryz.sizeOf193
 v105:=Tryz.zeroValue193
 t119:=Tryz.underlying243
 a119:=Tryz.isAgg243
 z119:=Tryz.sizeOf243
 t138:=Tryz.underlying246
 a138:=Tryz.isAgg246
 z138:=Tryz.sizeOf246
 v138:=Tryz.zeroValue246
 t139:=Tryz.underlying247
 a139:=Tryz.isAgg247
 z139:=Tryz.sizeOf247
 v139:=Tryz.zeroValue247
 t146:=Tryz.underlying260
 a146:=Tryz.isAgg260
 z146:=Tryz.sizeOf260
 v146:=Tryz.zeroValue260
 g1:=by kernel_rfl
 g3:=by kernel_rfl
 g4:=by kernel_rfl}
theorem I6 (g:Nat)(lb:Array Value)(eg:∀args w,(callFunc g args).run Tryz.prog w=.ok (.enter g args) w)(f:Int→Int)(s:ByteArray)(w:World)(hs:s.size<35184372088832)(hf:MapGrows Tryz.prog g lb f w)(hnn:∀x:Nat,x≤1114111→ -2147483648≤f x∧f x≤2147483647)(hT:U8 w):
  Calls Tryz.prog 201 #[.func (.func g) #[] lb,.string s] w fun e w'=>e=.returned (.string ⟨(Lib.mapD f s.data.toList).toArray⟩)∧Below w.heap.size w w':=Any.strings_Map_grows r9 uM g lb eg f s w hs hf hnn hT
theorem zL (b:List UInt8)(w:World)(hT:U8 w):
  Calls Tryz.prog 139 #[.string ⟨b.toArray⟩] w fun e w'=>e=.returned (.tuple #[.int .i32 (Lib.decodeGo ⟨b.toArray⟩).1,.int .i64 (Lib.decodeGo ⟨b.toArray⟩).2])∧Below w.heap.size w w':=Any.utf8_DecodeRuneInString {r9 with} ⟨b.toArray⟩ w hT
theorem FJ (B b:Nat)(l:List UInt8)(c:UInt8)(w:World)(h:Lib.IsBuilderF 129 5 B b (Lib.byteCells l) w)(hlen:l.length≤100000000)(hBw:B≤w.heap.size):
  Calls Tryz.prog 225 #[.pointer (some ⟨b,0,none⟩),.int .u8 (c.toNat:Int)] w fun e w'=>e=.returned .nilIface∧(Lib.IsBuilderF 129 5 B b (Lib.byteCells (l++ [c])) w'∧Below B w w'∧Lib.OthersKept 5 (some b) w w'):=by
 refine(Any.Builder_WriteByte_k {r9 with} uM B b (Lib.byteCells l) c.toNat w h (by simp[Lib.byteCells];omega) hBw).mono ?_;rintro e w' ⟨rfl,h1,h2,h3⟩;refine⟨rfl,?_,h2,h3⟩;have e:Lib.byteCells (l++ [c])=Lib.byteCells l++ [.int .u8 (c.toNat:Int)]:=by simp[Lib.byteCells]
 rw[e];exact .inr h1
theorem BS (B b:Nat)(l:List UInt8)(w:World)(h:Lib.IsBuilderF 129 5 B b (Lib.byteCells l) w)(hBw:B≤w.heap.size):
  Calls Tryz.prog 111 #[.pointer (some ⟨b,0,none⟩)] w fun e w'=>e=.returned (.string ⟨l.toArray⟩)∧(Lib.IsBuilderF 129 5 B b (Lib.byteCells l) w'∧Below B w w'∧Lib.OthersKept 5 (some b) w w'):=
 Any.Builder_String_any_k {r9 with} uM B b l w h hBw
theorem MB:(Tryz.prog.info? 9).map (fun i=>(i.zero,i.size,i.bytes))=some (some (.string ByteArray.empty),1,16):=by kernel_rfl
theorem DK (s:ByteArray)(c:UInt8)(w:World)(hs:s.size<4294967281):
  Calls Tryz.prog 226 #[.string s,.string ⟨#[c]⟩,.int .i64 0,.int .i64 (-1)] w fun e w'=>
   e=.returned (.slice (some ⟨w.heap.size,0,none⟩) (Lib.splitB ⟨#[c]⟩ 0 (Lib.countB s ⟨#[c]⟩) s).length (Lib.countB s ⟨#[c]⟩+1))∧w'=w.alloc (.cells (Lib.cellsOf (Lib.splitB ⟨#[c]⟩ 0 (Lib.countB s ⟨#[c]⟩) s) (Lib.countB s ⟨#[c]⟩+1)) 9):=by
 have h1:1≤(⟨#[c]⟩:ByteArray).size:=Px _;have hle:=Lib.countB_le ⟨#[c]⟩ h1 s.size s (Px _);have h:=Any.strings_genSplit_core yu MB s ⟨#[c]⟩ 0 (-1) (Lib.countB s ⟨#[c]⟩+1) w hs h1 (P6 _)
  (fun x d hx=>(Any.strings_Index_one {yu with} x c _).mono fun e w' ⟨he,hw⟩=>⟨by rw[he];show _=Ending.returned (Value.int .i64 (Lib.index x.data.toList [c]));rw[Lib.index_one],hw⟩)
  ((Any.strings_Count_one {yu with} s c w).mono fun e w' ⟨he,hw⟩=>⟨by rw[he];show _=Ending.returned (Value.int .i64 ((Lib.count s.data.toList [c]:Nat):Int));rw[Lib.count_one];rfl,hw⟩)
  (by decide) (by decide) (by rw[PZ (by decide)];omega)
 rw[Nat.add_sub_cancel]at h;exact h
end
theorem iK {x c:UInt8}(h:x≠c):((x.toNat:Int)==(c.toNat:Int))=false:=by
 rw[Rq];intro e;exact h (Rt.1 (by omega))
theorem gU {q:Int}(h0: -1000000000≤q)(h1:q≤1000000000):IntKind.i64.wrap q=q:=by
 simp[IntKind.wrap,IntKind.bits,IntKind.signed];omega
theorem dQ {α:Type}{b:List α}{j:Nat}{y:α}(hy:b[j]? =some y):b.take (j+1)=b.take j++ [y]:=by
 rw[Qw,hy];rfl
theorem fo {α:Type}{b:List α}{j:Nat}{y:α}(hy:b[j]? =some y):b.drop j=y::b.drop (j+1):=by
 obtain⟨hlt,hx'⟩:=Pw.1 hy;rw[Qu hlt,hx']
structure Li (b:Txt)(c:UInt8)(j:Nat)(acc:List Txt)(x:Txt):Prop where
 eq:aU c (b.take j)=acc++ [x]
 nl:acc.length≤j
 xl:x.length≤j
section
variable {b:Txt}{c:UInt8}{j:Nat}{acc:List Txt}{x:Txt}
theorem Li.next (h:Li b c j acc x){y:UInt8}(hy:b[j]? =some y)(hne:y≠c):Li b c (j+1) acc (x++ [y]):=by
 have h1:=h.nl;have h2:=h.xl;refine⟨?_,by omega,by simp;omega⟩;rw[dQ hy,Bz,PO hne,h.eq];simp
end
structure WAt (b:Txt)(j:Nat)(acc:List Txt)(x:Txt):Prop where
 eq:dz b=acc++fG x (b.drop j)
 nl:acc.length≤j
 xl:x.length≤j
section
variable {b:Txt}{j:Nat}{acc:List Txt}{x:Txt}
theorem WAt.start (b:Txt):WAt b 0 [] []:=⟨by simp[dz],by simp,by simp⟩
theorem WAt.next (h:WAt b j acc x){y:UInt8}(hy:b[j]? =some y)(hs:rH y=false):WAt b (j+1) acc (x++ [y]):=by
 have h1:=h.nl;have h2:=h.xl;refine⟨?_,by omega,by simp;omega⟩;rw[h.eq,fo hy,fG,PO (by rw[hs];decide)]
theorem WAt.sep0 (h:WAt b j acc []){y:UInt8}(hy:b[j]? =some y)(hs:rH y=true):WAt b (j+1) acc []:=by
 have h1:=h.nl;refine⟨?_,by omega,by simp⟩;rw[h.eq,fo hy,fG,PZ hs,PZ rfl]
theorem WAt.sep1 (h:WAt b j acc x)(hx:x≠ []){y:UInt8}(hy:b[j]? =some y)(hs:rH y=true):WAt b (j+1) (acc++ [x]) []:=by
 have h1:=h.nl;refine⟨?_,by simp;omega,by simp⟩;rw[h.eq,fo hy,fG,PZ hs,PO hx];simp
theorem WAt.fin0 (h:WAt b b.length acc []):dz b=acc:=by
 rw[h.eq,Rk,fG,PZ rfl,Qc]
theorem WAt.fin1 (h:WAt b b.length acc x)(hx:x≠ []):dz b=acc++ [x]:=by
 rw[h.eq,Rk,fG,PO hx]
end
theorem jT:∀(l:List Txt) (w:Txt),lookW (l++ [w])=if w=mH∨w=lD then(lookW l).map (fun q=>(true,q.2 || w==lD)) else none
 | [],w=>rfl
 | v::l,w=>by
  rw[Qe,lookW,jT l w]
  by_cases hv:v=mH∨v=lD
  ·rw[PZ hv]
   by_cases hw:w=mH∨w=lD
   ·rw[PZ hw,PZ hw,lookW,PZ hv]
    cases lookW l with
    | none=>rfl
    | some q=>
     simp only[Re,QC,Q9,true_and];rw[Bool.or_assoc,Bool.or_assoc,Bool.or_comm (w==lD)]
   ·rw[PO hw,PO hw]
    rfl
  ·rw[PO hv]
   by_cases hw:w=mH∨w=lD
   ·rw[PZ hw,lookW,PO hv]
    rfl
   ·rw[PO hw]
theorem GV (l r:List Txt)(h:lookW l=none):lookW (l++r)=none:=by
 induction r generalizing l with
 | nil=>rwa [Qc]
 | cons x r ih=>
  have:lookW (l++ [x])=none:=by
   rw[jT,h]
   split<;>rfl
  have:=ih (l++ [x]) this
  simpa using this
def iF (L:List Txt)(j:Nat)(bx al:Bool):Prop:=lookW (L.take j)=some (bx,al)
section
variable {L:List Txt}{j:Nat}{bx al:Bool}{w:Txt}
theorem iF.box (h:iF L j bx al)(hw:L[j]? =some w)(he:w=mH):iF L (j+1) true al:=by
 unfold iF at h⊢;rw[dQ hw,jT,PZ (.inl he),h,he];simp[mH,lD]
theorem iF.all (h:iF L j bx al)(hw:L[j]? =some w)(he:w=lD):iF L (j+1) true true:=by
 unfold iF at h⊢;rw[dQ hw,jT,PZ (.inr he),h,he];simp
theorem iF.bad (h:iF L j bx al)(hw:L[j]? =some w)(h1:w≠mH)(h2:w≠lD):lookW L=none:=by
 have h3:lookW (L.take (j+1))=none:=by
  rw[dQ hw,jT,PO (fun e=>e.elim h1 h2)]
 have:=GV (L.take (j+1)) (L.drop (j+1)) h3
 rwa [QK]at this
end
def fQ (L:List Txt):Txt×Bool:=(L.map (fun w=>(BO w).1),L.all (fun w=>(BO w).2))
theorem Eb {L:List Txt}{j:Nat}{w:Txt}(hw:L[j]? =some w):fQ (L.take (j+1))=((fQ (L.take j)).1++ [(BO w).1],(fQ (L.take j)).2&&(BO w).2):=by
 unfold fQ;rw[dQ hw,Rn,List.all_append];simp
theorem MO {w:Txt}{x:UInt8}(hx:w[0]? =some x):BO w=if x=108∨x=76 then(108,true) else if x=99∨x=67 then(99,true) else if x=114∨x=82 then(114,true) else(108,false):=by
 unfold BO;rw[List.head?_eq_getElem?,hx]
theorem BJ (s:Txt):aS s=fQ (dz (if dV s 46 then s.dropLast else s)):=rfl
theorem nR:∀(s w:Txt),(fG w s).length≤s.length+1
 | [],w=>by unfold fG;split<;>simp
 | x::s,w=>by
  unfold fG;have h1:=nR s [];have h2:=nR s (w++ [x]);simp only[PI]
  split
  ·split
   ·omega
   ·simp only[PI];omega
  ·omega
theorem sK (s:Txt):(dz s).length≤s.length+1:=nR s []
section
attribute [local go_sem ↓ high] bg bK
theorem Hu {b:Txt}{y c:UInt8}(hy:b[b.length-1]? =some y):dV b c=(y==c):=by
 unfold dV;rw[List.getLast?_eq_getElem?,hy];rfl
theorem DZ {b:Txt}{y:UInt8}(hp:0<b.length)(hy:b[b.length-1]? =some y):b.drop (b.length-1)=[y]:=by
 rw[fo hy,List.drop_of_length_le (by omega)]
theorem qd (b:Txt)(c:UInt8)(w:World)(hb:b.length≤100000):
  Calls Tryz.prog 141 #[.string ⟨b.toArray⟩,.string ⟨#[c]⟩] w fun e w'=>e=.returned (.bool (dV b c))∧w=w':=by
 have hsz:=az b;have hsc:=az [c]
 by_cases h0:b=[]
 ·subst h0
  go_enter Tryz.func141,Tryz.ntmps141
  go_wp2_with fail
  go_ret;exact⟨aH rfl,rfl⟩
 ·have hp:0<b.length:=Qp.2 h0
  have hge:(1:Int)≤(b.length:Int):=by omega
  obtain⟨y,hy⟩:∃y,b[b.length-1]? =some y:=⟨b[b.length-1],Pz (by omega)⟩;have k0:=dR b (b.length-1) (by omega);have e:((b.length-1:Nat):Int)=(b.length:Int)-1:=by omega
  rw[e,DZ hp hy]at k0;have k1:∀W,(iE (.string ⟨#[y]⟩) (.string ⟨#[c]⟩)).run Tryz.prog W=.ok (.bool (y==c)) W:=by
   intro W;have h:=dC [y] [c] W;have e:decide ([y]=[c])=(y==c):=by by_cases q:y=c<;>simp[q]
   rw[e]at h;exact h
  rw[Hu hy];obtain⟨z,hz⟩:∃z,(y==c)=z:=⟨_,rfl⟩;rw[hz]at k1⊢;have h1:IntKind.i64.wrap ((b.length:Int)-1)=(b.length:Int)-1:=gU (by omega) (by omega);clear hy e hp h0 hz;go_enter Tryz.func141,Tryz.ntmps141
  go_wp2_with fail
  go_ret;exact⟨rfl,rfl⟩
theorem uU (b:Txt)(c:UInt8)(w:World)(hb:b.length≤100000):
  Calls Tryz.prog 156 #[.string ⟨b.toArray⟩,.string ⟨#[c]⟩] w fun e w'=>e=.returned (.bool (dV b c))∧w=w':=by
 have H:=zH (qd b c w hb);go_enter Tryz.func156,Tryz.ntmps156
 go_wp2_with (go_at_call 141;refine H.out.mono ?_;rintro e w1 ⟨rfl,rfl⟩)
 go_ret;exact⟨rfl,rfl⟩
def jy (b:Txt)(c:UInt8):Txt:=if dV b c then b.dropLast else b
theorem FU (b:Txt)(c:UInt8)(w:World)(hb:b.length≤100000):
  Calls Tryz.prog 222 #[.string ⟨b.toArray⟩,.string ⟨#[c]⟩] w fun e w'=>e=.returned (.tuple #[.string ⟨(jy b c).toArray⟩,.bool (dV b c)])∧w=w':=by
 have H:=zH (qd b c w hb);have hsz:=az b;have hsc:=az [c];unfold jy
 cases he:dV b c
 ·rw[he]at H
  rw[PO (by simp)];go_enter Tryz.func222,Tryz.ntmps222
  go_wp2_with (go_at_call 141;refine H.out.mono ?_;rintro e w1 ⟨rfl,rfl⟩)
  go_ret2
  exact⟨rfl,rfl⟩
 ·rw[he]at H
  rw[PZ rfl];have hp:0<b.length:=by
   rcases b with _ | ⟨x,r⟩
   ·simp[dV]at he
   ·simp
  have k0:=iC b (b.length-1) (by omega);have e:((b.length-1:Nat):Int)=(b.length:Int)-1:=by omega
  have e2:b.take (b.length-1)=b.dropLast:=by rw[List.dropLast_eq_take]
  rw[e,e2]at k0;have h1:IntKind.i64.wrap ((b.length:Int)-1)=(b.length:Int)-1:=gU (by omega) (by omega);obtain⟨d,hd⟩:∃d,b.dropLast=d:=⟨_,rfl⟩;rw[hd]at k0⊢;clear hd e e2 he hp;go_enter Tryz.func222,Tryz.ntmps222
  go_wp2_with (go_at_call 141;refine H.out.mono ?_;rintro e w1 ⟨rfl,rfl⟩)
  go_ret2
  exact⟨rfl,rfl⟩
theorem D8 (b:Txt)(c:UInt8)(w:World)(hb:b.length≤100000):
  Calls Tryz.prog 194 #[.string ⟨b.toArray⟩,.string ⟨#[c]⟩] w fun e w'=>e=.returned (.tuple #[.string ⟨(jy b c).toArray⟩,.bool (dV b c)])∧w=w':=by
 have H:=zH (FU b c w hb);go_enter Tryz.func194,Tryz.ntmps194
 go_wp2_with (go_at_call 222;refine H.out.mono ?_;rintro e w1 ⟨rfl,rfl⟩)
 go_ret2
 exact⟨rfl,rfl⟩
theorem Cs (b:Txt)(c:UInt8)(w:World)(hb:b.length≤100000):
  Calls Tryz.prog 107 #[.string ⟨b.toArray⟩,.string ⟨#[c]⟩] w fun e w'=>e=.returned (.string ⟨(jy b c).toArray⟩)∧w=w':=by
 have H:=zH (qd b c w hb);have hsz:=az b;have hsc:=az [c];unfold jy
 cases he:dV b c
 ·rw[he]at H
  rw[PO (by simp)];go_enter Tryz.func107,Tryz.ntmps107
  go_wp2_with (go_at_call 141;refine H.out.mono ?_;rintro e w1 ⟨rfl,rfl⟩)
  go_ret;exact⟨rfl,rfl⟩
 ·rw[he]at H
  rw[PZ rfl];have hp:0<b.length:=by
   rcases b with _ | ⟨x,r⟩
   ·simp[dV]at he
   ·simp
  have k0:=iC b (b.length-1) (by omega);have e:((b.length-1:Nat):Int)=(b.length:Int)-1:=by omega
  have e2:b.take (b.length-1)=b.dropLast:=by rw[List.dropLast_eq_take]
  rw[e,e2]at k0;have h1:IntKind.i64.wrap ((b.length:Int)-1)=(b.length:Int)-1:=gU (by omega) (by omega);obtain⟨d,hd⟩:∃d,b.dropLast=d:=⟨_,rfl⟩;rw[hd]at k0⊢;clear hd e e2 he hp;go_enter Tryz.func107,Tryz.ntmps107
  go_wp2_with (go_at_call 141;refine H.out.mono ?_;rintro e w1 ⟨rfl,rfl⟩)
  go_ret;exact⟨rfl,rfl⟩
theorem zP (b:Txt)(c:UInt8)(w:World)(hb:b.length≤100000):
  Calls Tryz.prog 74 #[.string ⟨b.toArray⟩,.string ⟨#[c]⟩] w fun e w'=>e=.returned (.string ⟨(jy b c).toArray⟩)∧w=w':=by
 have H:=zH (Cs b c w hb);go_enter Tryz.func74,Tryz.ntmps74
 go_wp2_with (go_at_call 107;refine H.out.mono ?_;rintro e w1 ⟨rfl,rfl⟩)
 go_ret;exact⟨rfl,rfl⟩
theorem FT (b:Txt)(c d:UInt8)(w:World)(hb:b.length≤100000):
  Calls Tryz.prog 183 #[.string ⟨b.toArray⟩,.string ⟨#[c,d]⟩] w fun e w'=>e=.returned (.bool (b.take 2== [c,d]))∧w=w':=by
 have hsz:=az b;have hsc:=az [c,d]
 by_cases h0:b.length<2
 ·have hf:(b.take 2== [c,d])=false:=by
   rw[QN (by omega)];rcases b with _ | ⟨x,_ | ⟨y,r⟩⟩
   ·rfl
   ·simp
   ·simp at h0;omega
  rw[hf];have hge:¬(2:Int)≤(b.length:Int):=by omega
  clear hf;go_enter Tryz.func183,Tryz.ntmps183
  go_wp2_with fail
  go_ret;exact⟨rfl,rfl⟩
 ·have hge:(2:Int)≤(b.length:Int):=by omega
  have k0:∀W,(Instr.slice 9 (.string ⟨b.toArray⟩) none (some (.int .i64 2)) none).run Tryz.prog W=.ok (.string ⟨(b.take 2).toArray⟩) W:=iC b 2 (by omega);obtain⟨t,ht⟩:∃t,b.take 2=t:=⟨_,rfl⟩;rw[ht]at k0⊢;have k1:∀W,(iE (.string ⟨t.toArray⟩) (.string ⟨#[c,d]⟩)).run Tryz.prog W=.ok (.bool (t== [c,d])) W:=by
   intro W;have h:=dC t [c,d] W;have e:decide (t=[c,d])=(t== [c,d]):=by by_cases q:t=[c,d]<;>simp[q]
   rw[e]at h;exact h
  obtain⟨z,hz⟩:∃z,(t== [c,d])=z:=⟨_,rfl⟩;rw[hz]at k1⊢;clear ht hz h0;go_enter Tryz.func183,Tryz.ntmps183
  go_wp2_with fail
  go_ret;exact⟨rfl,rfl⟩
theorem DJ (b:Txt)(c d:UInt8)(w:World)(hb:b.length≤100000):
  Calls Tryz.prog 144 #[.string ⟨b.toArray⟩,.string ⟨#[c,d]⟩] w fun e w'=>e=.returned (.bool (b.take 2== [c,d]))∧w=w':=by
 have H:=zH (FT b c d w hb);go_enter Tryz.func144,Tryz.ntmps144
 go_wp2_with (go_at_call 183;refine H.out.mono ?_;rintro e w1 ⟨rfl,rfl⟩)
 go_ret;exact⟨rfl,rfl⟩
end
structure eD (BI:BIT):Prop where
 lt:∀{X R w b t},BI X R w b t→ ∀k,X k∨R k→k<w.heap.size
 keep:∀{X R w w' b t},BI X R w b t→Kp X w w'→Kp R w w'→w.heap.size≤w'.heap.size→BI X R w' b t
theorem bu.k {BI:BIT}{TB:World→Prop}(I:bu BI TB):eD BI:=⟨I.lt,I.keep⟩
instance {BI:BIT}{TB:World→Prop}:CoeOut (bu BI TB) (eD BI):=⟨bu.k⟩
abbrev fM:Value:= .slice none 0 0
def mnC (b:Nat)(th:Bool)(wv:Value)(kd ln:Int)(rv tv dv:Value):List Value:=
 [ak b,.bool th,wv,.int .i64 kd,.int .i64 ln,.int .i64 0,fM,fM,rv,.string ⟨#[]⟩,fM,.bool false,.bool false,tv,dv]
def wH (m:MWt):NV:=⟨m.kind,m.line,m.n,aj,aj,aj,[],aj,false,false⟩
def kdM (s:Md):Int:=match s.v with
 | some _=>6
 | none=>match s.g with
  | some _=>7
  | none=>0
def lnM (s:Md):Int:=match s.v with
 | some v=>v.1
 | none=>match s.g with
  | some g=>g.1
  | none=>0
def rwM (s:Md):List (List Gly):=match s.v with
 | some v=>v.2
 | none=>[]
def txM (s:Md):List Txt:=match s.g with
 | some g=>g.2
 | none=>[]
structure MOk (s:Md):Prop where
 vg:s.v=none∨s.g=none
 vw:s.v≠none→s.w=none
 gw:s.g≠none→s.w=none
def BX (lo:Nat→Nat)(w:World)(wv:Value):Option MWt→Prop
 | none=>wv=.pointer none
 | some m=> ∃g,wv=ak g∧lo g=6∧Blk w g 58 (af (wH m))
def wB (R:Nat→Prop)(w:World)(rv:Value)(l:List (List Gly)):Prop:=
 ∃L:List PV,L.length=l.length∧ag 26 1 aJ 0 w rv L∧ ∀(i:Nat) p r,L[i]? =some p→l[i]? =some r→FsS R 2 aR w (pv p) r
structure MC (BI:BIT)(X R:Nat→Prop)(lo:Nat→Nat)(w:World)(B b:Nat)(s:Md)(wv rv tv dv:Value):Prop where
 ok:MOk s
 ll:∀k,lo k≠0→k<w.heap.size
 lx:∀k,X k→lo k=0
 lr:∀k,R k→lo k=0
 bi:BI X R w b s.b
 lb:lo B=2
 box:Blk w B 79 (mnC b s.th wv (kdM s) (lnM s) rv tv dv)
 dg:bG 0 w dv s.d
 dgb:∀k,dv.ownBlock=some k→lo k=3
 tx:iN 0 w tv (txM s)
 txb:∀k,tv.ownBlock=some k→lo k=4
 rg:wB R w rv (rwM s)
 rgb:∀k,rv.ownBlock=some k→lo k=5
 rn:s.v=none→rv=fM
 tn:s.g=none→tv=fM
 wt:BX lo w wv s.w
def MM (BI:BIT)(w0:World)(Y:Nat→Prop)(w:World)(B:Nat)(s:Md):Prop:=
 Below w0.heap.size w0 w∧(∀k,Y k→w0.heap.size≤k)∧ ∃X R lo b wv rv tv dv,MC BI X R lo w B b s wv rv tv dv∧ ∀k,Y k↔X k∨lo k≠0
def aV (BI:BIT)(w0:World)(Y:Nat→Prop)(w:World)(B:Nat)(s':Md)(w':World):Prop:=
 ∃Y',MM BI w0 Y' w' B s'∧Exc Y w w'∧ ∀k,Y' k→Y k∨w.heap.size≤k
theorem aV.trans {BI:BIT}{w0 w w1 w2:World}{Y Y1:Nat→Prop}{B:Nat}{s2:Md}(hE:Exc Y w w1)(hY:∀k,Y1 k→Y k∨w.heap.size≤k)(h:aV BI w0 Y1 w1 B s2 w2):aV BI w0 Y w B s2 w2:=by
 obtain⟨Y2,h1,h2,h3⟩:=h;have:=hE.size;refine⟨Y2,h1,hE.trans h2 (fun k hk q=>(hY k q).elim id (fun z=>by omega)),fun k q=>(h3 k q).elim (fun z=>hY k z) (fun z=> .inr (by omega))⟩
theorem wB.keep {R:Nat→Prop}{w w':World}{rv:Value}{l:List (List Gly)}(h:wB R w rv l)(hR:Kp R w w')(ho:∀k,rv.ownBlock=some k→w'.heap[k]? =w.heap[k]?):wB R w' rv l:=by
 obtain⟨L,h1,h2,h3⟩:=h;exact⟨L,h1,h2.kp ho,fun i p r a c=>(h3 i p r a c).keep hR⟩
theorem wB.more {R R':Nat→Prop}{w:World}{rv:Value}{l:List (List Gly)}(h:wB R w rv l)(hR:∀k,R k→R' k):wB R' w rv l:=by
 obtain⟨L,h1,h2,h3⟩:=h;exact⟨L,h1,h2,fun i p r a c=>(h3 i p r a c).mono hR⟩
theorem wB.len {R:Nat→Prop}{w:World}{rv:Value}{l:List (List Gly)}(h:wB R w rv l):∃a c,rv=.slice a l.length c:=by
 obtain⟨L,h1,h2,h3⟩:=h;obtain⟨a,c,e⟩:=(ag.sl aX h2).len;exact⟨a,c,by rw[←h1];exact e⟩
def jK (lo:Nat→Nat)(z:Nat)(o:Option Nat):Nat→Nat:=fun k=>if o=some k then z else if lo k=z then 0 else lo k
section
variable {lo:Nat→Nat}{z:Nat}{o:Option Nat}{n:Nat}
theorem jJ (ho:∀k,o=some k→lo k=z∨n≤k){k:Nat}(hk:k<n)(hne:lo k≠z):jK lo z o k=lo k:=by
 unfold jK;rw[PO (fun e=>by rcases ho k e with q | q;exact hne q;omega),PO hne]
theorem sN {k:Nat}(h:o=some k):jK lo z o k=z:=by unfold jK;rw[PZ h]
theorem xU (ho:∀k,o=some k→lo k=z∨n≤k)(hz:z≠0){k:Nat}(h:jK lo z o k≠0):lo k≠0∨n≤k:=by
 unfold jK at h
 by_cases e:o=some k
 ·rcases ho k e with q | q
  ·exact .inl (by omega)
  ·exact .inr q
 ·rw[PO e]at h
  by_cases e2:lo k=z
  ·exact .inl (by omega)
  ·rw[PO e2]at h;exact .inl h
theorem xV {N:Nat}(h1:∀k,lo k≠0→k<N)(h2:∀k,o=some k→k<N){k:Nat}(h:jK lo z o k≠0):k<N:=by
 unfold jK at h
 by_cases e:o=some k
 ·exact h2 k e
 ·rw[PO e]at h
  by_cases e2:lo k=z
  ·rw[PZ e2]at h;exact absurd rfl h
  ·rw[PO e2]at h;exact h1 k h
end
theorem xg {α:Type}{e n:Nat}{f:α→List Value}(hf:∀x,(f x).length=n){base:Nat}{W:World}{x:Value}{l:List α}(h:ag e n f base W x l):FsS (fun k=>x.ownBlock=some k) n f W x l:=by
 refine⟨ag.sl hf h,fun a k c e1 hk=>?_⟩;subst e1;rcases h.2 with⟨hn,-⟩| ⟨g,cap,cur,hx,hb,hgg,-⟩
 ·injection hn with e1 e2 e3
  cases e1
 ·injection hx with e1 e2 e3
  injection e1 with e1
  subst e1;exact⟨rfl,fun _ i _=>by simp[World.frozen?,hgg]⟩
section
variable {BI:BIT}{TB:World→Prop}{X R:Nat→Prop}{lo:Nat→Nat}{w w' w0:World}{B b:Nat}{s:Md}{wv rv tv dv:Value}
theorem MC.lt (I:eD BI)(h:MC BI X R lo w B b s wv rv tv dv):∀k,X k∨R k∨lo k≠0→k<w.heap.size:=fun k q=>
 q.elim (fun q=>I.lt h.bi k (.inl q)) (fun q=>q.elim (fun q=>I.lt h.bi k (.inr q)) (h.ll k))
theorem BX.keep {wv:Value}{o:Option MWt}(h:BX lo w wv o)(hk:Kp (fun k=>lo k=6) w w'):BX lo w' wv o:=by
 cases o with
 | none=>exact h
 | some m=>
  obtain⟨g,h1,h2,h3⟩:=h;exact⟨g,h1,h2,(hk g h2).trans h3⟩
theorem BX.relab {lo':Nat→Nat}{wv:Value}{o:Option MWt}(h:BX lo w wv o)(hk:∀k,lo k=6→lo' k=6):BX lo' w wv o:=by
 cases o with
 | none=>exact h
 | some m=>
  obtain⟨g,h1,h2,h3⟩:=h;exact⟨g,h1,hk g h2,h3⟩
theorem MC.keepK (I:eD BI)(h:MC BI X R lo w B b s wv rv tv dv)(hX:Kp X w w')(hR:Kp R w w')(hL:Kp (fun k=>lo k≠0) w w')(hs:w.heap.size≤w'.heap.size):MC BI X R lo w' B b s wv rv tv dv:=
 have kz:∀z,z≠0→Kp (fun k=>lo k=z) w w':=fun z hz k e=>hL k (show lo k≠0 by rw[show lo k=z from e];exact hz)
 ⟨h.ok,fun k q=>PH (h.ll k q) hs,h.lx,h.lr,I.keep h.bi hX hR hs,h.lb,(hL B (show lo B≠0 by rw[h.lb];decide)).trans h.box,h.dg.kp (fun k e=>kz 3 (by decide) k (h.dgb k e)),h.dgb,
  h.tx.kp (fun k e=>kz 4 (by decide) k (h.txb k e)),h.txb,h.rg.keep hR (fun k e=>kz 5 (by decide) k (h.rgb k e)),h.rgb,h.rn,h.tn,h.wt.keep (kz 6 (by decide))⟩
theorem MC.keep (I:eD BI)(h:MC BI X R lo w B b s wv rv tv dv)(hb:Below w.heap.size w w'):MC BI X R lo w' B b s wv rv tv dv:=
 h.keepK I (Kp.below hb (fun k q=>h.lt I k (.inl q))) (Kp.below hb (fun k q=>h.lt I k (.inr (.inl q)))) (Kp.below hb (fun k q=>h.lt I k (.inr (.inr q)))) hb.size
theorem MM.keep (I:eD BI){Y:Nat→Prop}(h:MM BI w0 Y w B s)(hb:Below w.heap.size w w'):MM BI w0 Y w' B s:=by
 obtain⟨h1,h2,X,R,lo,b,wv,rv,tv,dv,h3,h4⟩:=h;exact⟨h1.trans (hb.mono h1.size),h2,X,R,lo,b,wv,rv,tv,dv,h3.keep I hb,h4⟩
theorem MM.lt (I:eD BI){Y:Nat→Prop}(h:MM BI w0 Y w B s):∀k,Y k→k<w.heap.size:=by
 obtain⟨h1,h2,X,R,lo,b,wv,rv,tv,dv,h3,h4⟩:=h;intro k hk;rcases(h4 k).1 hk with q | q
 ·exact h3.lt I k (.inl q)
 ·exact h3.lt I k (.inr (.inr q))
theorem MM.aft {Y:Nat→Prop}(h1:Below w0.heap.size w0 w)(h2:∀k,Y k→w0.heap.size≤k){X' R':Nat→Prop}{lo':Nat→Nat}{s':Md}{b':Nat}{wv' rv' tv' dv':Value}(hE:Exc Y w w')(h3:MC BI X' R' lo' w' B b' s' wv' rv' tv' dv')(hX:∀k,X' k→Y k∨w.heap.size≤k)(hL:∀k,lo' k≠0→Y k∨w.heap.size≤k):aV BI w0 Y w B s' w':=by
 have hs:=h1.size;have hY:∀k,X' k∨lo' k≠0→Y k∨w.heap.size≤k:=fun k q=>q.elim (hX k) (hL k)
 refine⟨fun k=>X' k∨lo' k≠0,⟨h1.trans (hE.below hs (fun k hk q=>by have:=h2 k q;omega)),fun k q=>(hY k q).elim (h2 k) (fun z=>by omega),X',R',lo',b',wv',rv',tv',dv',h3,fun k=>RJ⟩,hE,hY⟩
theorem MC.dgs (I:eD BI)(h:MC BI X R lo w B b s wv rv tv dv){W:World}(hb:Below w.heap.size w W){u:Value}{m:List Dgn}(hu:Ds W u m)(hl:s.d.length+m.length≤1000000):
  ∃dv' w2 lo',(gQ #[dv,u]).run Tryz.prog W=.ok (.value dv') w2∧w2.cell? ⟨B,14,none⟩=some dv∧w2.frozen? ⟨B,14,none⟩=false∧MC BI X R lo' (w2.setCell ⟨B,14,none⟩ dv') B b {s with d:=s.d++m} wv rv tv dv'∧
   Exc (fun k=>lo k≠0) W (w2.setCell ⟨B,14,none⟩ dv')∧ ∀k,lo' k≠0→lo k≠0∨W.heap.size≤k:=by
 have hW:=h.keep I hb;obtain⟨dv',w2,hr,ho,hg,hown⟩:=gX hW.dg hu (P6 _) hl;have hs:=hb.size;have ho4:∀k,dv'.ownBlock=some k→lo k=3∨W.heap.size≤k:=fun k e=>by
  rcases hown with q | q
  ·exact .inl (h.dgb k (by rw[←q];exact e))
  ·rw[q]at e
   obtain rfl:=PT e;exact .inr (Px _)
 have ho3:∀k,dv'.ownBlock=some k→lo k=3∨w.heap.size≤k:=fun k e=>(ho4 k e).imp id (fun z=>by omega)
 have hE2:Exc (fun k=>dv.ownBlock=some k) W w2:=⟨hg.os,hg.tape,hg.output,hg.size,fun k hk hx=>hg.block k hk (fun e=>hx e.symm)⟩;have hB3:¬dv.ownBlock=some B:=fun e=>by have:=h.dgb B e;rw[h.lb]at this;omega
 have box2:Blk w2 B 79 (mnC b s.th wv (kdM s) (lnM s) rv tv dv):=hE2.blk hW.box hB3;have hE3:Exc (fun k=>dv.ownBlock=some k∨k=B) W (w2.setCell ⟨B,14,none⟩ dv'):=(hE2.mono (fun k _ q=> .inl q)).set 14 _ (fun _=> .inr rfl);obtain⟨F,hF⟩:∃F,w2.setCell ⟨B,14,none⟩ dv'=F:=⟨_,rfl⟩;have hbx:Blk F B 79 (mnC b s.th wv (kdM s) (lnM s) rv tv dv'):=by rw[←hF];exact box2.set 14 dv'
 have hdF:bG 0 F dv' (s.d++m):=ho.kp (fun k e=>by
  rw[←hF];refine PN _ ⟨B,14,none⟩ _ _ (fun q=>?_);subst q;rcases ho3 _ e with q | q
  ·rw[h.lb]at q;omega
  ·have:=h.ll k (by rw[h.lb];decide);omega)
 rw[hF]at hE3;have hne:∀k,lo k≠3→lo k≠2→ ¬(dv.ownBlock=some k∨k=B):=fun k q1 q2 q=>q.elim (fun e=>q1 (h.dgb k e)) (fun e=>q2 (by rw[e];exact h.lb))
 have kp:∀S:Nat→Prop,(∀k,S k→k<w.heap.size∧lo k≠3∧lo k≠2)→Kp S W F:=fun S hS k q=>hE3.block k (PH (hS k q).1 hs) (hne k (hS k q).2.1 (hS k q).2.2)
 have kX:Kp X W F:=kp X (fun k q=>⟨h.lt I k (.inl q),by rw[h.lx k q];decide,by rw[h.lx k q];decide⟩);have kR:Kp R W F:=kp R (fun k q=>⟨h.lt I k (.inr (.inl q)),by rw[h.lr k q];decide,by rw[h.lr k q];decide⟩);have kz:∀z,z≠0→z≠2→z≠3→Kp (fun k=>lo k=z) W F:=fun z q0 q2 q3=>kp _ (fun k q=>⟨h.ll k (by omega),by omega,by omega⟩)
 have hFs:=hE3.size;have lab:∀{k:Nat} z,z≠3→z≠0→lo k=z→jK lo 3 dv'.ownBlock k=z:=fun {k} z q0 q1 q=>by rw[jJ ho3 (h.ll k (by omega)) (by omega),q]
 have l0:∀{k:Nat},k<w.heap.size→lo k=0→jK lo 3 dv'.ownBlock k=0:=fun {k} hk q=>by rw[jJ ho3 hk (by omega),q]
 refine⟨dv',w2,jK lo 3 dv'.ownBlock,hr,box2.cell 14,box2.frozen (by simp[mnC]),?_,?_,fun k q=>xU ho4 (by decide) q⟩
 ·rw[hF]
  refine⟨⟨h.ok.vg,h.ok.vw,h.ok.gw⟩,fun k q=>?_,fun k q=>l0 (h.lt I k (.inl q)) (h.lx k q),fun k q=>l0 (h.lt I k (.inr (.inl q))) (h.lr k q),I.keep hW.bi kX kR hFs,lab 2 (by decide) (by decide) h.lb,hbx,hdF,fun k e=>sN e,
   hW.tx.kp (fun k e=>kz 4 (by decide) (by decide) (by decide) k (h.txb k e)),fun k e=>lab 4 (by decide) (by decide) (h.txb k e),hW.rg.keep kR (fun k e=>kz 5 (by decide) (by decide) (by decide) k (h.rgb k e)),fun k e=>lab 5 (by decide) (by decide) (h.rgb k e),h.rn,h.tn,(hW.wt.keep (kz 6 (by decide) (by decide) (by decide))).relab (fun k q=>lab 6 (by decide) (by decide) q)⟩
  refine xV (N:=F.heap.size) (fun k q=>by have:=h.ll k q;omega) (fun k e=>?_) q;have:=(hdF.ty e).2;obtain⟨cur,hc⟩:=this;exact(Py.1 hc).1
 ·rw[hF]
  exact hE3.mono (Y:=fun k=>lo k≠0) (fun k hk q=>by
   rcases q with q | q
   ·rw[h.dgb k q];decide
   ·rw[q,h.lb];decide)
end
section
variable {BI:BIT}{TB:World→Prop}{w w0:World}{B:Nat}{s:Md}{Y:Nat→Prop}
def dK (BI:BIT)(w0:World)(Y:Nat→Prop)(w:World)(B:Nat)(v:Value)(s':Md)(e:Ending)(w':World):Prop:=e=.returned v∧aV BI w0 Y w B s' w'
theorem MC.d_at {X R:Nat→Prop}{lo:Nat→Nat}{b:Nat}{wv rv tv dv:Value}(h:MC BI X R lo w B b s wv rv tv dv):∃a c,dv=.slice a s.d.length c:=(ag.sl ax h.dg).len
attribute [local go_sem ↓ high] bH
theorem dH (I:eD BI)(h:MM BI w0 Y w B s)(k ln:Int)(hD:s.d.length≤500000):
  Calls Tryz.prog 28 #[ak B,.int .i64 k,.int .i64 ln] w (dK BI w0 Y w B (.tuple #[]) (aD s k ln)):=by
 obtain⟨h1,h2,X,R,lo,b,wv,rv,tv,dv,h3,h4⟩:=h;have b1:=ae w (.cells (fT (k,ln,0)).toArray 46);obtain⟨dv',w2,lo',hr,q7,f7,hM,hE,hL⟩:=h3.dgs I b1 (dM ax w 46 [(k,ln,0)]) (by simp;omega);obtain⟨a,c,rfl⟩:=h3.d_at;obtain⟨a',c',rfl⟩:=hM.d_at;have c7:w.cell? ⟨B,14,none⟩=some (.slice a s.d.length c):=h3.box.cell 14;have hr':(gQ #[.slice a s.d.length c,.slice (some ⟨w.heap.size,0,none⟩) 1 1]).run Tryz.prog (w.alloc (.cells #[.int .i64 k,.int .i64 ln,.int .i64 0] 46))=.ok (.value (.slice a' (s.d++ [(k,ln,0)]).length c')) w2:=hr;have HR:Hid (aV BI w0 Y w B (aD s k ln) (w2.setCell ⟨B,14,none⟩ (.slice a' (s.d++ [(k,ln,0)]).length c'))):=
  zH (MM.aft h1 h2 ((Exc.of (X:=Y) b1).trans (hE.mono (Y:=Y) (fun i _ q=>(h4 i).2 (.inr q))) (fun _ _ q=>q)) hM (fun i q=> .inl ((h4 i).2 (.inl q))) (fun i q=>(hL i q).imp (fun z=>(h4 i).2 (.inr z)) (fun z=>PY b1.size z)))
 obtain⟨m,hm⟩:∃m,s.d.length=m:=⟨_,rfl⟩;obtain⟨m',hm'⟩:∃m',(s.d++ [(k,ln,0)]).length=m':=⟨_,rfl⟩;rw[hm']at hr' HR;rw[hm]at hr' c7 q7;clear hr hM hE hL h3 h4 h2 h1 b1 hD hm hm';go_enter Tryz.func28,Tryz.ntmps28
 go_wp2_with fail
 go_end0;exact⟨rfl,HR.out⟩
theorem MC.put (I:eD BI){X R:Nat→Prop}{lo lo':Nat→Nat}{w w':World}{b:Nat}{s s':Md}{wv rv tv dv wv' rv' tv':Value}(h:MC BI X R lo w B b s wv rv tv dv)
  (hE:Exc (fun k=>k=B) w w') (hbx:Blk w' B 79 (mnC b s'.th wv' (kdM s') (lnM s') rv' tv' dv)) (hsb:s'.b=s.b) (hsd:s'.d=s.d) (hok:MOk s')
  (hll:∀k,lo' k≠0→k<w'.heap.size) (hlx:∀k,X k→lo' k=0) (hlr:∀k,R k→lo' k=0) (h23:∀k,lo k=2∨lo k=3→lo' k=lo k)
  (tx:iN 0 w tv' (txM s')) (txb:∀k,tv'.ownBlock=some k→lo' k=4) (rg:wB R w rv' (rwM s')) (rgb:∀k,rv'.ownBlock=some k→lo' k=5) (rn:s'.v=none→rv'=fM) (tn:s'.g=none→tv'=fM) (wt:BX lo' w wv' s'.w):MC BI X R lo' w' B b s' wv' rv' tv' dv:=by
 have lb':lo' B=2:=(h23 B (.inl h.lb)).trans h.lb;have hne:∀k,k<w.heap.size→k≠B→w'.heap[k]? =w.heap[k]? :=fun k hk q=>hE.block k hk q
 have kX:Kp X w w':=fun k q=>hne k (h.lt I k (.inl q)) (fun e=>by have:=h.lx k q;rw[e,h.lb]at this;omega)
 have kR:Kp R w w':=fun k q=>hne k (h.lt I k (.inr (.inl q))) (fun e=>by have:=h.lr k q;rw[e,h.lb]at this;omega)
 have own:∀{α:Type} {e n:Nat} {f:α→List Value} {v:Value} {l:List α},ag e n f 0 w v l→ ∀(z:Nat),z≠2→(∀k,v.ownBlock=some k→lo' k=z)→ ∀k,v.ownBlock=some k→w'.heap[k]? =w.heap[k]? :=fun ho z hz hk k e=>hne k (by
  obtain⟨-,cur,hc⟩:=ho.ty e;exact(Py.1 hc).1) (fun q=>by have:=hk k e;rw[q,lb']at this;omega)
 refine⟨hok,hll,hlx,hlr,by rw[hsb];exact I.keep h.bi kX kR hE.size,lb',hbx,?_,fun k e=>(h23 k (.inr (h.dgb k e))).trans (h.dgb k e),tx.kp (own tx 4 (by decide) txb),txb,?_,rgb,rn,tn,?_⟩
 ·rw[hsd]
  exact h.dg.kp (own h.dg 3 (by decide) (fun k e=>(h23 k (.inr (h.dgb k e))).trans (h.dgb k e)))
 ·obtain⟨L,q1,q2,q3⟩:=rg
  exact⟨L,q1,q2.kp (own q2 5 (by decide) rgb),fun i p r a c=>(q3 i p r a c).keep kR⟩
 ·cases hw:s'.w with
  | none=>rw[hw]at wt;exact wt
  | some m=>
   rw[hw]at wt;obtain⟨g,q1,q2,q3⟩:=wt;exact⟨g,q1,q2,(hne g q3.lt (fun e=>by rw[e,lb']at q2;omega)).trans q3⟩
theorem MC.noWait (I:eD BI){X R:Nat→Prop}{lo:Nat→Nat}{w:World}{b:Nat}{s:Md}{wv rv tv dv:Value}(h:MC BI X R lo w B b s wv rv tv dv):
  MC BI X R (fun k=>if lo k=6 then 0 else lo k) (w.setCell ⟨B,2,none⟩ (.pointer none)) B b {s with w:=none} (.pointer none) rv tv dv:=by
 have lab:∀{k:Nat} z,z≠6→lo k=z→(if lo k=6 then 0 else lo k)=z:=fun {k} z hz q=>by rw[PO (by omega),q]
 refine h.put I ((Exc.refl _ w).set 2 _ (fun _=>rfl)) (h.box.set 2 (.pointer none)) rfl rfl ⟨h.ok.vg,fun _=>rfl,fun _=>rfl⟩ (fun k q=>?_) (fun k q=>lab 0 (by decide) (h.lx k q)) (fun k q=>lab 0 (by decide) (h.lr k q)) (fun k q=>?_) h.tx (fun k e=>lab 4 (by decide) (h.txb k e)) h.rg (fun k e=>lab 5 (by decide) (h.rgb k e)) h.rn h.tn rfl
 ·have:lo k≠0:=fun e=>q (lab 0 (by decide) e)
  rw[eG];exact h.ll k this
 ·show(if lo k=6 then 0 else lo k)=lo k
  rw[PO (by omega)]
theorem l9 (I:eD BI)(h:MM BI w0 Y w B s)(hD:s.d.length≤500000):
  Calls Tryz.prog 29 #[ak B] w (dK BI w0 Y w B (.tuple #[]) (upM s)):=by
 have HM:=zH h;obtain⟨h1,h2,X,R,lo,b,wv,rv,tv,dv,h3,h4⟩:=h;have c2:w.cell? ⟨B,2,none⟩=some wv:=h3.box.cell 2;have hwt:=h3.wt;unfold upM
 cases hw:s.w with
 | none=>
  rw[hw]at hwt;obtain rfl:wv=.pointer none:=hwt;have HA:Hid (aV BI w0 Y w B s w):=zH ⟨Y,HM.out,Exc.refl _ _,fun k q=> .inl q⟩;clear h1 h2 h3 h4 hw HM;simp only;go_enter Tryz.func29,Tryz.ntmps29
  go_wp2_with fail
  go_end0;exact⟨rfl,HA.out⟩
 | some m=>
  rw[hw]at hwt;obtain⟨g,rfl,hg6,hgb⟩:=hwt;have c9:w.cell? ⟨g,1,none⟩=some (.int .i64 m.line):=hgb.cell 1;have HT:=zH (dH I HM.out 5 m.line hD);have HS:Hid (∀w1,aV BI w0 Y w B (aD s 5 m.line) w1→ ∃wv',w1.cell? ⟨B,2,none⟩=some wv'∧w1.frozen? ⟨B,2,none⟩=false∧aV BI w0 Y w B {aD s 5 m.line with w:=none} (w1.setCell ⟨B,2,none⟩ (.pointer none))):=zH (by
   rintro w1 ⟨Y1,⟨g1,g2,X1,R1,lo1,b1,wv1,rv1,tv1,dv1,g3,g4⟩,gE,gY⟩;have hN:=g3.noWait I;refine⟨wv1,g3.box.cell 2,g3.box.frozen (by simp[mnC]),aV.trans gE gY (MM.aft g1 g2 ((Exc.refl _ w1).set 2 _ (fun _=>(g4 B).2 (.inr (by rw[g3.lb];decide)))) hN (fun k q=> .inl ((g4 k).2 (.inl q))) (fun k q=> .inl ((g4 k).2 (.inr (fun e=>q ?_)))))⟩;show(if lo1 k=6 then 0 else lo1 k)=0;rw[PO (by omega),e])
  clear h1 h2 h3 h4 hw HM hgb hg6;simp only;go_enter Tryz.func29,Tryz.ntmps29
  go_wp2_with fail
  refine HT.out.mono ?_;rintro e w1 ⟨rfl,m1⟩;obtain⟨wv',d2,f2,m2⟩:=HS.out w1 m1;have M2:=zH m2;clear m1 m2 HT HS;go_wp2_with fail
  go_end0;exact⟨rfl,M2.out⟩
end
section
variable {BI:BIT}{TB:World→Prop}{w w0:World}{B:Nat}{s:Md}{Y:Nat→Prop}
theorem MC.bld (I:bu BI TB){X R S:Nat→Prop}{lo:Nat→Nat}{b:Nat}{wv rv tv dv:Value}{t':Bt}{w1 w2:World}(h1:Below w0.heap.size w0 w)(h2:∀k,Y k→w0.heap.size≤k)(h:MC BI X R lo w B b s wv rv tv dv)(h4:∀k,Y k↔X k∨lo k≠0)
  (hb:Below w.heap.size w w1) (hS:∀k,S k→ ¬Y k) (ha:Aft BI X R S w1 b t' w2):aV BI w0 Y w B {s with b:=t'} w2:=by
 obtain⟨X',R',a1,a2,a3,a4⟩:=ha;have hs:=hb.size;have hs2:=a2.size;have hk:=h.keep I hb;have hX':∀k,X' k→lo k=0:=fun k q=>(a3 k q).elim (h.lx k) (fun z=>by
  apply QA;intro e;have:=h.ll k e;omega)
 have hne:∀k,k<w1.heap.size→ ¬X k→w2.heap[k]? =w1.heap[k]? :=fun k q1 q2=>a2.block k q1 q2
 have kR:Kp R w1 w2:=fun k q=>hne k (hk.lt I k (.inr (.inl q))) (I.sep h.bi k q)
 have kL:Kp (fun k=>lo k≠0) w1 w2:=fun k q=>hne k (hk.lt I k (.inr (.inr q))) (fun e=>q (h.lx k e))
 have kz:∀z,z≠0→Kp (fun k=>lo k=z) w1 w2:=fun z hz k e=>kL k (show lo k≠0 by rw[show lo k=z from e];exact hz)
 have hR':∀k,R' k→lo k=0:=fun k q=>by
  apply QA;intro e;rcases a4 k q with z | z | z | z
  ·exact e (h.lr k z)
  ·exact hS k z ((h4 k).2 (.inr e))
  ·exact e (h.lx k z)
  ·have:=h.ll k e;omega
 refine MM.aft h1 h2 (X':=X') (R':=fun k=>R' k∨R k) (lo':=lo) (b':=b) (wv':=wv) (rv':=rv) (tv':=tv) (dv':=dv) ?_ ?_ (fun k q=>(a3 k q).imp (fun z=>(h4 k).2 (.inl z)) (fun z=>PY hs z)) (fun k q=> .inl ((h4 k).2 (.inr q)))
 ·exact(Exc.of (X:=Y) hb).trans ⟨a2.os,a2.tape,a2.output,a2.size,fun k q1 q2=>a2.block k q1 (fun z=>q2 ((h4 k).2 (.inl z)))⟩ (fun _ _ q=>q)
 ·refine⟨⟨h.ok.vg,h.ok.vw,h.ok.gw⟩,fun k q=>PH (h.ll k q) (by omega),hX',fun k q=>q.elim (hR' k) (h.lr k),?_,h.lb,(kL B (show lo B≠0 by rw[h.lb];decide)).trans hk.box,hk.dg.kp (fun k e=>kz 3 (by decide) k (h.dgb k e)),h.dgb,hk.tx.kp (fun k e=>kz 4 (by decide) k (h.txb k e)),h.txb,
   (hk.rg.keep kR (fun k e=>kz 5 (by decide) k (h.rgb k e))).more (fun k q=> .inr q),h.rgb,h.rn,h.tn,hk.wt.keep (kz 6 (by decide))⟩
  refine I.more a1 (fun k q=> .inl q) (fun k q=>q.imp id (fun z=>?_));have hkl:=hk.lt I k (.inr (.inl z));refine⟨by omega,fun e=>?_⟩;rcases a3 k e with y | y
  ·exact I.sep h.bi k z y
  ·omega
theorem MM.call (I:bu BI TB)(h:MM BI w0 Y w B s)(hT:TB w0):∃b X R,w.cell? ⟨B,0,none⟩=some (ak b)∧(∀k,X k→Y k)∧(∀w1,Below w.heap.size w w1→BI X R w1 b s.b∧TB w1∧w1.cell? ⟨B,0,none⟩=some (ak b))∧
  (∀S t' w1 w2,Below w.heap.size w w1→(∀k,S k→ ¬Y k)→Aft BI X R S w1 b t' w2→aV BI w0 Y w B {s with b:=t'} w2):=by
 obtain⟨h1,h2,X,R,lo,b,wv,rv,tv,dv,h3,h4⟩:=h;refine⟨b,X,R,h3.box.cell 0,fun k q=>(h4 k).2 (.inl q),fun w1 hb=>⟨(h3.keep I hb).bi,I.tb hT (h1.trans (hb.mono h1.size)),(h3.box.below hb).cell 0⟩,fun S t' w1 w2 hb hS ha=>h3.bld I h1 h2 h4 hb hS ha⟩
theorem aV.pre {w1 w2:World}{s':Md}(hb:Below w.heap.size w w1)(h:aV BI w0 Y w1 B s' w2):aV BI w0 Y w B s' w2:=aV.trans (Exc.of hb) (fun k q=> .inl q) h
theorem qo (I:bu BI TB)(h:MM BI w0 Y w B s)(hT:TB w0){S:Nat→Prop}{x:NV}{hd:Hd}(hx:qK S w x (.mk hd []))(hS:∀k,S k→k<w.heap.size∧ ¬Y k)(hb:btl s.b+nlN (.mk hd [])≤30000)(hD:s.d.length≤500000):
  Calls Tryz.prog 86 #[ak B,.agg (af x).toArray] w (dK BI w0 Y w B (.tuple #[]) (dh s hd)):=by
 obtain⟨W1,hW1⟩:∃W,w.alloc (.cells (af x).toArray 58)=W:=⟨_,rfl⟩;have b1:Below w.heap.size w W1:=by rw[←hW1];exact ae _ _
 have kx:Blk W1 w.heap.size 58 (af x):=by rw[←hW1];exact PK w _
 have hM1:=h.keep I b1;obtain⟨b,X,R,c0,hXY,hBI,hAF⟩:=hM1.call I hT;have HDP:=zH (I.depth (hBI W1 (PG _ _)).1 (hBI W1 (PG _ _)).2.1);have hln:x.line=hd.line:=hx.1.line;obtain⟨sf,hsf⟩:∃sf,dh s hd=sf:=⟨_,rfl⟩;have HT:Hid (20≤s.b.opn.length→ ∀V,Below W1.heap.size W1 V→Calls Tryz.prog 28 #[ak B,.int .i64 8,.int .i64 hd.line] V (dK BI w0 Y V B (.tuple #[]) sf)):=zH (fun hq V hV=>by
  rw[←hsf];unfold dh;rw[PZ hq];exact dH I (hM1.keep I hV) 8 hd.line hD)
 have HO:Hid (¬20≤s.b.opn.length→ ∀V,Below W1.heap.size W1 V→Calls Tryz.prog 123 #[ak b,.agg (af x).toArray] V fun e w'=>e=.returned (.tuple #[])∧aV BI w0 Y w B sf w'):=zH (fun hq V hV=>by
  rw[←hsf];unfold dh;rw[PO hq];have hb2:=b1.trans (hV.mono b1.size);refine(I.opn (S:=S) (hBI V hV).1 (hBI V hV).2.1 (hx.keep (Kp.below hb2 (fun k q=>(hS k q).1))) (fun k q=>⟨PH (hS k q).1 hb2.size,fun e=>(hS k q).2 (hXY k e)⟩) hb).mono ?_;rintro e w' ⟨rfl,ha⟩;exact⟨rfl,(hAF S _ V w' hV (fun k q=>(hS k q).2) ha).pre b1⟩)
 have HC:Hid (∀V,Below W1.heap.size W1 V→V.cell? ⟨B,0,none⟩=some (ak b)∧ ∀(i:Nat) u,(af x)[i]? =some u→V.cell? ⟨w.heap.size,i,none⟩=some u):=zH (fun V hV=>⟨(hBI V hV).2.2,fun i u hu=>by rw[(kx.below hV).cell i];exact hu⟩);have HB1:=zH b1;rw[hsf];obtain⟨n,hn⟩:∃n,s.b.opn.length=n:=⟨_,rfl⟩;rw[hn]at HDP HT HO;obtain⟨xk,xl,xn,⟨t1,t2,t3⟩,⟨k1,k2,k3⟩,⟨r1,r2,r3⟩,xc,⟨q1,q2,q3⟩,xb,xa⟩:=x;simp only[af,pv]at hW1 HO HC⊢;simp only at hln;subst hln;clear h hx hS hb hD hM1 hBI hAF b1 kx hn hXY hsf;go_enter Tryz.func86,Tryz.ntmps86
 go_wp2_with fail
 clear hW1;refine HDP.out.mono ?_;rintro e V ⟨rfl,hV⟩;have HV:=zH hV;obtain⟨c0',hc⟩:=HC.out V hV;have x0:=hc 0 _ rfl;have x1:=hc 1 _ rfl;have x2:=hc 2 _ rfl;have x3:=hc 3 _ rfl;have x4:=hc 4 _ rfl;have x5:=hc 5 _ rfl;have x6:=hc 6 _ rfl;have x7:=hc 7 _ rfl;have x8:=hc 8 _ rfl;have x9:=hc 9 _ rfl;clear hV hc c0 HC HDP
 by_cases hlt:20≤n
 ·have hd1:decide ((20:Int)≤(n:Int))=true:=Qz (by omega)
  have hlt':(20:Int)≤(n:Int):=by omega
  go_wp2_with fail
  refine(HT.out hlt V HV.out).mono ?_;rintro e w2 ⟨rfl,m2⟩;have M2:=zH ((m2.pre HV.out).pre HB1.out);clear m2;go_wp2_with fail
  go_end0;exact⟨rfl,M2.out⟩
 ·have hlt':¬(20:Int)≤(n:Int):=by omega
  go_wp2_with fail
  go_still_tail 5,(by kernel_rfl)
  change wpList _ _ _ _ _ V.drew;have HO2:=zH (HO.out hlt V.drew (HV.out.drew));go_wp2_with fail
  refine HO2.out.mono ?_;rintro e w2 ⟨rfl,m2⟩;have M2:=zH m2;clear m2;go_wp2_with fail
  go_end0;exact⟨rfl,M2.out⟩
end
theorem JS (c:UInt8):∀s:Txt,Lib.indexByte s c= -1→c∉s
 | [],_=>by simp
 | x::r,h=>by
  unfold Lib.indexByte at h
  by_cases hx:x=c
  ·subst hx;simp at h
  ·have h1:(x==c)=false:=by simpa using hx
   rw[h1]at h;simp only[Qf,Q8]at h;have hge:=Lib.indexByte_ge r c;have hm:Lib.indexByte r c= -1:=by
    by_cases hm:Lib.indexByte r c= -1
    ·exact hm
    ·have h2:(Lib.indexByte r c== -1)=false:=by simpa using hm
     rw[h2]at h;simp only[Qf,Q8]at h;omega
   have ih:=JS c r hm;simp only[Qn,not_or];exact⟨fun e=>hx e.symm,ih⟩
theorem JU (c:UInt8):∀(s:Txt) (i:Nat),Lib.indexByte s c=(i:Int)→s=s.take i++c::s.drop (i+1)∧c∉s.take i
 | [],i,h=>absurd h (by show¬((-1:Int)=(i:Int));omega)
 | x::r,i,h=>by
  have hge:=Lib.indexByte_ge r c;unfold Lib.indexByte at h
  by_cases hx:x=c
  ·subst hx
   simp at h;obtain rfl:i=0:=by omega
   simp
  ·have h1:(x==c)=false:=by simpa using hx
   rw[h1]at h;simp only[Qf,Q8]at h
   by_cases hm:Lib.indexByte r c= -1
   ·rw[hm]at h;first | (simp at h;done)| (simp at h;omega)
   ·have h2:(Lib.indexByte r c== -1)=false:=by simpa using hm
    rw[h2]at h;simp only[Qf,Q8]at h;obtain⟨k,rfl⟩:∃k,i=k+1:=⟨i-1,by omega⟩;obtain⟨h3,h4⟩:=JU c r k (by omega);refine⟨?_,?_⟩
    ·simp only[List.take_succ_cons,RG,Qe]
     rw[←h3]
    ·simp only[List.take_succ_cons,Qn,not_or]
     exact⟨fun e=>hx e.symm,h4⟩
theorem wN (c:UInt8):∀(n:Nat) (s:Txt),s.count c=n→Lib.splitK [c] 0 n s=aU c s
 | 0,s,h=>by
  have:c∉s:=List.count_eq_zero.1 h;rw[Ko c s this];rfl
 | n+1,s,h=>by
  have hm:c∈s:=by
   refine QA fun q=>?_
   rw[List.count_eq_zero.2 q]at h;omega
  have hge:=Lib.indexByte_ge s c;obtain⟨i,hi⟩:∃i:Nat,Lib.indexByte s c=(i:Int):=by
   refine⟨(Lib.indexByte s c).toNat,?_⟩;have:Lib.indexByte s c≠ -1:=fun e=>JS c s e hm
   omega
  obtain⟨h1,h2⟩:=JU c s i hi;have hc:(s.drop (i+1)).count c=n:=by
   have:=h;rw[h1,List.count_append,List.count_eq_zero.2 h2,Ry]at this;omega
  unfold Lib.splitK;rw[Lib.index_one,hi,PO (by simp),Rf];rw[show i+ [c].length=i+1 from rfl,wN c n _ hc,Qr]
  conv=>rhs;rw[h1]
  rw[Fy c _ _ h2]
theorem BA (b:Txt)(w:World)(hb:b.length≤100000):Calls Tryz.prog 162 #[.string ⟨b.toArray⟩] w fun e w'=> ∃v,e=.returned v∧iN w.heap.size w' v (aU 9 b)∧Below w.heap.size w w':=by
 have hsz:=az b;have h:=DK ⟨b.toArray⟩ 9 w (by omega);have hcn:Lib.countB ⟨b.toArray⟩ ⟨#[9]⟩=b.count 9:=by
  show Lib.count b [9]=_;exact Lib.count_one 9 b
 rw[hcn]at h;obtain⟨L,hL⟩:∃L,Lib.splitB ⟨#[9]⟩ 0 (b.count 9) ⟨b.toArray⟩=L:=⟨_,rfl⟩;have hLm:L.map (·.data.toList)=aU 9 b:=by
  rw[←hL,Lib.splitB_data];exact wN 9 _ b rfl
 have hLl:L.length=b.count 9+1:=by
  have:=PR List.length hLm;rw[Qy,pQ]at this;omega
 have hLc:(Lib.cellsOf L (b.count 9+1))=(aA jw (aU 9 b)).toArray:=by
  rw[←hLl,Lib.cellsOf_full,←hLm]
  congr 1
  clear hL hLm hLl h
  induction L with
  | nil=>rfl
  | cons x r ih=>
   simp only[Qo,aA,List.flatMap_cons,jw];simp only[aA,jw]at ih;rw[ih];rfl
 rw[hL,hLc,hLl]at h;have hll:(aU 9 b).length=b.count 9+1:=by rw[pQ];omega
 have hcl:b.count 9≤b.length:=List.count_le_length;have H:Hid (Calls Tryz.prog 226 #[.string ⟨b.toArray⟩,.string ⟨#[9]⟩,.int .i64 0,.int .i64 (-1)] w fun e w'=> ∃a c,e=.returned (.slice a (b.count 9+1) c)∧iN w.heap.size w' (.slice a (b.count 9+1) c) (aU 9 b)∧Below w.heap.size w w'):=zH (h.mono fun e w' ⟨he,hw⟩=>by
  subst hw;have hk:=Blk.fown (f:=jw) (n:=1) (base:=w.heap.size) (fun _=>rfl) (PK w (.cells (aA jw (aU 9 b)).toArray 9)) (Px _) (by rw[hll];unfold maxLen;omega);rw[hll]at hk;exact⟨_,_,he,hk,ae w _⟩)
 obtain⟨m,hm⟩:∃m,b.count 9+1=m:=⟨_,rfl⟩;rw[hm]at H;clear h hL hLm hLl hLc hll hcl hcn hm;have S1:Hid (Calls Tryz.prog 197 #[.string ⟨b.toArray⟩,.string ⟨#[9]⟩] w fun e w'=> ∃a c,e=.returned (.slice a m c)∧iN w.heap.size w' (.slice a m c) (aU 9 b)∧Below w.heap.size w w'):=zH (by
  go_enter Tryz.func197,Tryz.ntmps197
  go_wp2_with (go_at_call 226;refine H.out.mono ?_;rintro e w1 ⟨a1,c1,rfl,h1,h2⟩)
  go_ret;exact⟨_,_,rfl,h1,h2⟩)
 go_enter Tryz.func162,Tryz.ntmps162
 go_wp2_with (go_at_call 197;refine S1.out.mono ?_;rintro e w1 ⟨a1,c1,rfl,h1,h2⟩)
 go_ret;exact⟨_,rfl,h1,h2⟩
section
open Go.RowKit Go.Lib
def BN (x:Int):Bool:=x==108 || x==99 || x==114
def jB (x:Int):Int:=if BN x then x else-1
theorem vC (b:UInt8):BN (b.toNat:Int)=side b:=by
 unfold BN side;have e:∀k:UInt8,((b.toNat:Int)==(k.toNat:Int))=(b==k):=fun k=>by
  rw[Bool.eq_iff_iff];simp only[RA]
  constructor
  ·intro h
   have h':b.toNat=k.toNat:=by omega
   exact Rt.1 h'
  ·rintro rfl;rfl
 rw[←e 108,←e 99,←e 114];rfl
theorem BK {x:Int}(h:128≤x):BN x=false:=by
 unfold BN;have h1:(x==108)=false:=by simp;omega
 have h2:(x==99)=false:=by simp;omega
 have h3:(x==114)=false:=by simp;omega
 rw[h1,h2,h3];rfl
theorem wO {b:UInt8}(h:128≤b.toNat):side b=false:=by rw[←vC];exact BK (by omega)
theorem iR {b:UInt8}(h:b.toNat / 64=2):side b=false:=wO (by omega)
theorem Hz (b:UInt8)(t:List UInt8)(h:128≤b.toNat):(b::t).filter side=((b::t).drop (decodeL (b::t)).2).filter side:=by
 have hb:=wO h;rw[decodeL_N];rcases decodeN_shape (b::t).length ((b::t).getD 0 0).toNat ((b::t).getD 1 0).toNat ((b::t).getD 2 0).toNat ((b::t).getD 3 0).toNat with⟨c,e⟩| ⟨c1,c2,c3,cv,e⟩| ⟨c1,c2,c3,c4,cv,cs,e⟩| ⟨c1,c2,c3,c4,c5,cv,cw,e⟩| e
 ·exfalso
  have:((b::t).getD 0 0)=b:=rfl;rw[this]at c;omega
 ·rw[e]
  rcases t with _ | ⟨x1,t⟩
  ·simp at c2
  ·have k1:side x1=false:=iR c3
   simp[hb,k1]
 ·rw[e]
  rcases t with _ | ⟨x1,_ | ⟨x2,t⟩⟩
  ·simp at c2
  ·simp at c2
  ·have k1:side x1=false:=iR c3
   have k2:side x2=false:=iR c4;simp[hb,k1,k2]
 ·rw[e]
  rcases t with _ | ⟨x1,_ | ⟨x2,_ | ⟨x3,t⟩⟩⟩
  ·simp at c2
  ·simp at c2
  ·simp at c2
  ·have k1:side x1=false:=iR c3
   have k2:side x2=false:=iR c4;have k3:side x3=false:=iR c5;simp[hb,k1,k2,k3]
 ·rw[e]
  simp[hb]
theorem zl (b:UInt8)(t:List UInt8)(h:128≤b.toNat):128≤(decodeL (b::t)).1:=
 (decode_high ⟨(b::t).toArray⟩ 0 (by simp[Go.Lib.size_eq]) (by exact h)).1
theorem uL:∀(n:Nat) (l:List UInt8),l.length≤n→mapD jB l=l.filter side
 | _,[],_=>rfl
 | 0,_::_,h=>by simp at h
 | n+1,b::t,h=>by
  rw[mapD_step jB (b::t) (by simp)]
  by_cases ha:b.toNat<128
  ·rw[decodeL_ascii b t ha]
   simp only[RG,List.drop_zero];rw[uL n t (by simpa using h)]
   by_cases hs:side b=true
   ·have hk:jB (b.toNat:Int)=(b.toNat:Int):=by unfold jB;rw[vC,hs];rfl
    have henc:=encode_decode (b::t) (by simp) (by rw[decodeL_ascii b t ha];simp;omega);rw[decodeL_ascii b t ha]at henc;rw[hk,PZ (by omega),List.filter_cons_of_pos hs,henc];rfl
   ·have hs':side b=false:=by simpa using hs
    have hk:jB (b.toNat:Int)= -1:=by unfold jB;rw[vC,hs'];rfl
    rw[hk,PO (by decide),List.filter_cons_of_neg hs];rfl
  ·have hh:=zl b t (by omega)
   have hk:jB ((decodeL (b::t)).1:Int)= -1:=by unfold jB;rw[BK (by omega)];rfl
   have hw:=decodeL_width (b::t);rw[hk,PO (by decide),Qt,uL n _ (by rw[PU];simp only[PI]at h⊢;omega),←Hz b t (by omega)]
theorem Av (x:Int)(w:World):Calls Tryz.prog 200 #[.int .i32 x] w fun e w'=>e=.returned (.bool (BN x))∧w=w':=by
 unfold BN
 by_cases h1:x=108
 ·subst h1
  go_enter Tryz.func200,Tryz.ntmps200
  go_wp2_with fail
  go_ret;exact⟨rfl,rfl⟩
 ·have n1:(x==108)=false:=by simpa using h1
  by_cases h2:x=99
  ·subst h2
   clear h1;go_enter Tryz.func200,Tryz.ntmps200
   go_wp2_with fail
   go_ret;exact⟨rfl,rfl⟩
  ·have n2:(x==99)=false:=by simpa using h2
   rw[n1,n2];obtain⟨p,hp⟩:∃p,(x==114)=p:=⟨_,rfl⟩;rw[hp];clear h1 h2;go_enter Tryz.func200,Tryz.ntmps200
   go_wp2_with fail
   go_ret;exact⟨rfl,rfl⟩
theorem Gh (x:Int)(w:World):Calls Tryz.prog 199 #[.int .i32 x] w fun e w'=>e=.returned (.int .i32 (jB x))∧w=w':=by
 have H:=zH (Av x w);unfold jB;obtain⟨p,hp⟩:∃p,BN x=p:=⟨_,rfl⟩;rw[hp]at H⊢;clear hp
 cases p
 ·rw[PO (by simp)]
  go_enter Tryz.func199,Tryz.ntmps199
  go_wp2_with fail
  refine H.out.mono ?_;rintro e w1 ⟨rfl,rfl⟩;go_wp2_with fail
  go_ret;exact⟨rfl,rfl⟩
 ·rw[PZ rfl]
  go_enter Tryz.func199,Tryz.ntmps199
  go_wp2_with fail
  refine H.out.mono ?_;rintro e w1 ⟨rfl,rfl⟩;go_wp2_with fail
  go_ret;exact⟨rfl,rfl⟩
theorem Dw (x:Int)(h0:0≤x)(h1:x≤1114111): -2147483648≤jB x∧jB x≤2147483647:=by
 unfold jB
 split<;>omega
theorem yD (l:List UInt8)(w:World)(hU:U8 w)(hl:l.length≤90000):Calls Tryz.prog 201 #[.func (.func 199) #[] #[],.string ⟨l.toArray⟩] w fun e w'=>e=.returned (.string ⟨(l.filter side).toArray⟩)∧Below w.heap.size w w':=by
 have hsz:(⟨l.toArray⟩:ByteArray).size=l.length:=by simp[Go.Lib.size_eq]
 have h:=I6 199 #[] (enters_of Tryz.func199 (by kernel_rfl) rfl) jB ⟨l.toArray⟩ w (by rw[hsz];omega) (fun W x _ _=>(Gh (x:Int) W).mono fun e w' ⟨he,hw⟩=>⟨he,hw▸PG _ _⟩) (fun x hx=>Dw _ (by omega) (by omega)) hU;have e:(⟨l.toArray⟩:ByteArray).data.toList=l:=rfl;rw[e,uL l.length l (Px _)]at h;exact h
attribute [local go_sem ↓ high] iT gW mG
theorem yE (c:List UInt8)(w:World)(hU:U8 w)(hl:c.length≤90000):Calls Tryz.prog 165 #[.string ⟨c.toArray⟩] w fun e w'=>e=.returned (.string ⟨(lH c).toArray⟩)∧Below w.heap.size w w':=by
 have HM:=zH (yD c w hU hl);have hfl:(c.filter side).length≤c.length:=List.length_filter_le _ _;unfold lH;obtain⟨F,hF⟩:∃F,c.filter side=F:=⟨_,rfl⟩;rw[hF]at HM hfl⊢;have q1:=MJ F [];have hFl:(⟨F.toArray⟩:ByteArray).size=F.length:=by simp[Go.Lib.size_eq]
 clear hF hU
 by_cases he:F=[]
 ·rw[Qz he]at q1
  subst he;rw[show(if([]:List UInt8).take 20=[] then([108]:List UInt8) else([]:List UInt8).take 20)=[108] from rfl];go_enter Tryz.func165,Tryz.ntmps165
  go_wp2_with fail
  refine HM.out.mono ?_;rintro e w1 ⟨rfl,b1⟩;have B1:=zH b1;clear b1 HM;go_wp2_with fail
  go_ret;exact⟨rfl,B1.out⟩
 ·rw[P8 he]at q1
  have hne:¬F.take 20=[]:=fun h=>he (by
   cases F with
   | nil=>rfl
   | cons x l=>simp at h)
  rw[PO hne];have mm:=yM (F.length:Int) 20 ((min F.length 20:Nat):Int) (by split<;>omega);have hsl:∀W:World,(Instr.slice 9 (.string ⟨F.toArray⟩) none (some (.int .i64 ((min F.length 20:Nat):Int))) none).run Tryz.prog W=.ok (.string ⟨(F.take 20).toArray⟩) W:=fun W=>by
   rw[run_slice_string_h W 9 _ Tryz.underlying9 .i64 _ (by omega) (by rw[hFl];omega)];have e:(⟨F.toArray⟩:ByteArray).extract 0 ((min F.length 20:Nat):Int).toNat=⟨(F.take 20).toArray⟩:=by
    rw[ByteArray.extract_mk];simp only[Rf];have e2:F.take (min F.length 20)=F.take 20:=by
     by_cases h:F.length≤20
     ·rw[RD h,Qa,QN h]
     ·rw[Nat.min_eq_right (by omega)]
    simp[e2]
   rw[e]
  clear he hne;go_enter Tryz.func165,Tryz.ntmps165
  go_wp2_with fail
  refine HM.out.mono ?_;rintro e w1 ⟨rfl,b1⟩;have B1:=zH b1;clear b1 HM;go_wp2_with fail
  go_ret;exact⟨rfl,B1.out⟩
end
end Go.Proofs.YtebabjnngdjceaaGreatDoor
