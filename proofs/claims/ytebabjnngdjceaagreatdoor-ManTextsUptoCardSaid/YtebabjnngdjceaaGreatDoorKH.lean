/- Functions of package strings: the shelf's contracts, laid at this dump, over lists of bytes. (The numbers of the lays are this seat's own: tools/shelf5.py.) Contracts of what tells a byte, or a text, alone: blanks, backslashes, signs, what is quoted. Loops over a text: where its first blank is, wher -/
import Derived.Shelf.Strings.Replace
import Derived.Shelf.Strings.SplitShaped
import Derived.Shelf.Strings.Prefix
import Derived.Shelf.Strings.SlTrimAscii
import Derived.Shelf.Strings.IndexAnyAll
import Derived.Shelf.Strings.BuilderK
import Derived.Test.YtebabjnngdjceaaGreatDoorY3
import Derived.Test.YtebabjnngdjceaaGreatDoorK0
import Derived.Test.YtebabjnngdjceaaGreatDoorK1
import Derived.Test.YtebabjnngdjceaaGreatDoorZ0
import Derived.WalkSpells
import Derived.RangeFuncOwn
import Derived.Lib.Builder
import Derived.Lib.AppendStr
import Derived.Lib.UnsafeStr
import Derived.Test.YtebabjnngdjceaaGreatDoorM4
import Derived.Laws.RangeString
import Derived.Laws.RangeAny
import Derived.Laws.Runes
import Derived.Deep.QuietTactic
import Derived.Lib.OthersKept
import Derived.BigQuiet
set_option linter.unusedVariables false
set_option linter.unusedSimpArgs false
set_option maxRecDepth 1000000
set_option maxHeartbeats 4000000
namespace Go.Proofs.YtebabjnngdjceaaGreatDoor
open Go.RowKit
section
open Go.Shelf Go.RowKit Go.Lib
def qG:Go.Shelf.Ren:=⟨fun | 155=>236 | 154=>245 | 138=>242 | 165=>228 | 143=>140 | 166=>110 | 197=>139 | 169=>111 | 195=>247 | 218=>248 | 240=>143 | 241=>243 | 219=>178 | 260=>177 | 276=>182 | 277=>249 | 217=>208 | 225=>209 | 224=>210 | 267=>211 | 266=>233 | 314=>234 | n=>n,fun | 9=>9 | 3=>3 | 4=>4 | 72=>129 | 0=>0 | 76=>169 | 105=>193 | 21=>21 | 5=>5 | 70=>127 | 20=>20 | 37=>104 | 75=>168 | 127=>196 | 164=>229 | 46=>244 | 119=>243 | 139=>247 | 138=>246 | 146=>260 | 51=>259 | 80=>171 | n=>n,fun | 1=>2 | 3=>0 | 4=>1 | n=>n⟩
theorem uj:Go.Proofs.LaysM.n155 Tryz.prog qG:={
 mixed:=by kernel_rfl
 f138:=Tryz.func242.trans (Pj some (by kernel_rfl))
 f143:=Tryz.func140.trans (Pj some (by kernel_rfl))
 f154:=Tryz.func245.trans (Pj some (by kernel_rfl))
 f155:=Tryz.func236.trans (Pj some (by kernel_rfl))
 f165:=Tryz.func228.trans (Pj some (by kernel_rfl))
 f166:=Tryz.func110.trans (Pj some (by kernel_rfl))
 f169:=Tryz.func111.trans (Pj some (by kernel_rfl))
 f195:=Tryz.func247.trans (Pj some (by kernel_rfl))
 f197:=Tryz.func139.trans (Pj some (by kernel_rfl))
 f217:=Tryz.func208.trans (Pj some (by kernel_rfl))
 f218:=Tryz.func248.trans (Pj some (by kernel_rfl))
 f219:=Tryz.func178.trans (Pj some (by kernel_rfl))
 f224:=Tryz.func210.trans (Pj some (by kernel_rfl))
 f225:=Tryz.func209.trans (Pj some (by kernel_rfl))
 f240:=Tryz.func143.trans (Pj some (by kernel_rfl))
 f241:=Tryz.func243.trans (Pj some (by kernel_rfl))
 f260:=Tryz.func177.trans (Pj some (by kernel_rfl))
 f266:=Tryz.func233.trans (Pj some (by kernel_rfl))
 f267:=Tryz.func211.trans (Pj some (by kernel_rfl))
 f276:=Tryz.func182.trans (Pj some (by kernel_rfl))
 f277:=Tryz.func249.trans (Pj some (by kernel_rfl))
 f314:=Tryz.func234.trans (Pj some (by kernel_rfl))
 t0:=Tryz.underlying0
 a0:=Tryz.isAgg0
 z0:=Tryz.sizeOf0
 v0:=Tryz.zeroValue0
 t3:=Tryz.underlying3
 a3:=Tryz.isAgg3
 z3:=Tryz.sizeOf3
 v3:=Tryz.zeroValue3
 t4:=Tryz.underlying4
 a4:=Tryz.isAgg4
 z4:=Tryz.sizeOf4
 v4:=Tryz.zeroValue4
 t5:=Tryz.underlying5
 a5:=Tryz.isAgg5
 z5:=Tryz.sizeOf5
 v5:=Tryz.zeroValue5
 t9:=Tryz.underlying9
 a9:=Tryz.isAgg9
 z9:=Tryz.sizeOf9
 v9:=Tryz.zeroValue9
 t20:=Tryz.underlying20
 a20:=Tryz.isAgg20
 z20:=Tryz.sizeOf20
 v20:=Tryz.zeroValue20
 t21:=Tryz.underlying21
 a21:=Tryz.isAgg21
 z21:=Tryz.sizeOf21
 v21:=Tryz.zeroValue21
 t37:=Tryz.underlying104
 a37:=Tryz.isAgg104
 z37:=Tryz.sizeOf104
 v37:=Tryz.zeroValue104
 t46:=Tryz.underlying244
 a46:=Tryz.isAgg244
 z46:=Tryz.sizeOf244
 v46:=Tryz.zeroValue244
 t51:=Tryz.underlying259
 a51:=Tryz.isAgg259
 z51:=Tryz.sizeOf259
 v51:=Tryz.zeroValue259
 t70:=Tryz.underlying127
 a70:=Tryz.isAgg127
 z70:=Tryz.sizeOf127
 v70:=Tryz.zeroValue127
 t72:=Tryz.underlying129
 a72:=Tryz.isAgg129
 z72:=Tryz.sizeOf129
 v72:=Tryz.zeroValue129
 t75:=Tryz.underlying168
 a75:=Tryz.isAgg168
 z75:=Tryz.sizeOf168
 v75:=Tryz.zeroValue168
 t76:=Tryz.underlying169
 a76:=Tryz.isAgg169
 z76:=Tryz.sizeOf169
 v76:=Tryz.zeroValue169
 t105:=Tryz.underlying193
 a105:=Tryz.isAgg193
 z105:=Tryz.sizeOf193
 v105:=Tryz.zeroValue193
 t119:=Tryz.underlying243
 a119:=Tryz.isAgg243
 z119:=Tryz.sizeOf243
 t127:=Tryz.underlying196
 a127:=Tryz.isAgg196
 z127:=Tryz.sizeOf196
 v127:=Tryz.zeroValue196
 t138:=Tryz.underlying246
 a138:=Tryz.isAgg246
 z138:=Tryz.sizeOf246
 v138:=Tryz.zeroValue246
 t139:=Tryz.underlying247
 a139:=Tryz.isAgg247
 z139:=Tryz.sizeOf247
 v139:=Tryz.zeroValue247
 t146:=Tryz.underlying260
 a146:=Tryz.isAgg260
 z146:=Tryz.sizeOf260
 v146:=Tryz.zeroValue260
 t164:=Tryz.underlying229
 a164:=Tryz.isAgg229
 z164:=Tryz.sizeOf229
 v164:=Tryz.zeroValue229
 g1:=by kernel_rfl
 g3:=by kernel_rfl
 g4:=by kernel_rfl
 t80:=Tryz.underlying171
 a80:=Tryz.isAgg171
 z80:=Tryz.sizeOf171
 v80:=Tryz.zeroValue171
 i0:=by kernel_rfl
 i3:=by kernel_rfl
 i4:=by kernel_rfl
 i5:=by kernel_rfl
 i9:=by kernel_rfl
 i20:=by kernel_rfl
 i21:=by kernel_rfl
 i37:=by kernel_rfl
 i46:=by kernel_rfl
 i51:=by kernel_rfl
 i70:=by kernel_rfl
 i72:=by kernel_rfl
 i75:=by kernel_rfl
 i76:=by kernel_rfl
 i80:=by kernel_rfl
 i105:=by kernel_rfl
 i127:=by kernel_rfl
 i138:=by kernel_rfl
 i139:=by kernel_rfl
 i146:=by kernel_rfl
 i164:=by kernel_rfl
 m1:=by kernel_rfl
 s1_3:=fun w h=>Go.Proofs.cell_of_shapedOpen_int (zero:= #[.int .i64 0]) (t:=3) h (Qq (by kernel_rfl)) (by kernel_rfl) rfl (by kernel_rfl) (by kernel_rfl) Tryz.underlying3
 m3:=by kernel_rfl
 m4:=by kernel_rfl}
theorem Gd:Builder.Extra Tryz.prog qG:={
 sizeBuilder:=by kernel_rfl
 liesBuilder:=by kernel_rfl
 t5:=Tryz.underlying5
 a5:=Tryz.isAgg5
 z5:=Tryz.sizeOf5
 v5:=Tryz.zeroValue5
 infoByte:=by kernel_rfl
 cellsByte:=by kernel_rfl
 sizeByte:=by kernel_rfl
 neB5:=by decide}
def Ct:Go.Shelf.Ren:=⟨fun | 161=>114 | 231=>145 | 227=>146 | 233=>147 | 235=>148 | 228=>184 | 197=>139 | 151=>185 | 260=>177 | 152=>186 | 137=>213 | 119=>214 | 224=>210 | 225=>209 | 217=>208 | 266=>233 | n=>n,fun | 9=>9 | 4=>4 | 3=>3 | 5=>5 | 117=>200 | 116=>199 | 0=>0 | 124=>203 | 105=>193 | 21=>21 | 119=>243 | 46=>244 | 139=>247 | 138=>246 | n=>n,fun | 3=>0 | 4=>1 | n=>n⟩
theorem Lf:Go.Proofs.Lays.n161 Tryz.prog Ct:={
 mixed:=by kernel_rfl
 f119:=Tryz.func214.trans (Pj some (by kernel_rfl))
 f137:=Tryz.func213.trans (Pj some (by kernel_rfl))
 f151:=Tryz.func185.trans (Pj some (by kernel_rfl))
 f152:=Tryz.func186.trans (Pj some (by kernel_rfl))
 f161:=Tryz.func114.trans (Pj some (by kernel_rfl))
 f197:=Tryz.func139.trans (Pj some (by kernel_rfl))
 f217:=Tryz.func208.trans (Pj some (by kernel_rfl))
 f224:=Tryz.func210.trans (Pj some (by kernel_rfl))
 f225:=Tryz.func209.trans (Pj some (by kernel_rfl))
 f227:=Tryz.func146.trans (Pj some (by kernel_rfl))
 f228:=Tryz.func184.trans (Pj some (by kernel_rfl))
 f231:=Tryz.func145.trans (Pj some (by kernel_rfl))
 f233:=Tryz.func147.trans (Pj some (by kernel_rfl))
 f235:=Tryz.func148.trans (Pj some (by kernel_rfl))
 f260:=Tryz.func177.trans (Pj some (by kernel_rfl))
 f266:=Tryz.func233.trans (Pj some (by kernel_rfl))
 t0:=Tryz.underlying0
 a0:=Tryz.isAgg0
 z0:=Tryz.sizeOf0
 v0:=Tryz.zeroValue0
 t3:=Tryz.underlying3
 a3:=Tryz.isAgg3
 z3:=Tryz.sizeOf3
 v3:=Tryz.zeroValue3
 t4:=Tryz.underlying4
 a4:=Tryz.isAgg4
 z4:=Tryz.sizeOf4
 v4:=Tryz.zeroValue4
 t5:=Tryz.underlying5
 a5:=Tryz.isAgg5
 z5:=Tryz.sizeOf5
 v5:=Tryz.zeroValue5
 t9:=Tryz.underlying9
 a9:=Tryz.isAgg9
 z9:=Tryz.sizeOf9
 v9:=Tryz.zeroValue9
 t21:=Tryz.underlying21
 a21:=Tryz.isAgg21
 z21:=Tryz.sizeOf21
 v21:=Tryz.zeroValue21
 t46:=Tryz.underlying244
 a46:=Tryz.isAgg244
 z46:=Tryz.sizeOf244
 v46:=Tryz.zeroValue244
 t105:=Tryz.underlying193
 a105:=Tryz.isAgg193
 z105:=Tryz.sizeOf193
 v105:=Tryz.zeroValue193
 t116:=Tryz.underlying199
 a116:=Tryz.isAgg199
 z116:=Tryz.sizeOf199
 t117:=Tryz.underlying200
 a117:=Tryz.isAgg200
 z117:=Tryz.sizeOf200
 v117:=Tryz.zeroValue200
 t119:=Tryz.underlying243
 a119:=Tryz.isAgg243
 z119:=Tryz.sizeOf243
 t124:=Tryz.underlying203
 a124:=Tryz.isAgg203
 z124:=Tryz.sizeOf203
 v124:=Tryz.zeroValue203
 t138:=Tryz.underlying246
 a138:=Tryz.isAgg246
 z138:=Tryz.sizeOf246
 v138:=Tryz.zeroValue246
 t139:=Tryz.underlying247
 a139:=Tryz.isAgg247
 z139:=Tryz.sizeOf247
 v139:=Tryz.zeroValue247
 g3:=by kernel_rfl
 g4:=by kernel_rfl}
def Cs:Go.Shelf.Ren:=⟨fun | 162=>142 | 232=>179 | 227=>146 | 234=>180 | 236=>181 | 228=>184 | 271=>212 | 151=>185 | 120=>235 | 197=>139 | 152=>186 | 260=>177 | 137=>213 | 119=>214 | 224=>210 | 225=>209 | 217=>208 | 266=>233 | n=>n,fun | 9=>9 | 4=>4 | 3=>3 | 5=>5 | 117=>200 | 116=>199 | 0=>0 | 124=>203 | 21=>21 | 105=>193 | 46=>244 | 119=>243 | 139=>247 | 138=>246 | n=>n,fun | 3=>0 | 4=>1 | n=>n⟩
theorem Ld:Go.Proofs.Lays.n162 Tryz.prog Cs:={
 mixed:=by kernel_rfl
 f119:=Tryz.func214.trans (Pj some (by kernel_rfl))
 f120:=Tryz.func235.trans (Pj some (by kernel_rfl))
 f137:=Tryz.func213.trans (Pj some (by kernel_rfl))
 f151:=Tryz.func185.trans (Pj some (by kernel_rfl))
 f152:=Tryz.func186.trans (Pj some (by kernel_rfl))
 f162:=Tryz.func142.trans (Pj some (by kernel_rfl))
 f197:=Tryz.func139.trans (Pj some (by kernel_rfl))
 f217:=Tryz.func208.trans (Pj some (by kernel_rfl))
 f224:=Tryz.func210.trans (Pj some (by kernel_rfl))
 f225:=Tryz.func209.trans (Pj some (by kernel_rfl))
 f227:=Tryz.func146.trans (Pj some (by kernel_rfl))
 f228:=Tryz.func184.trans (Pj some (by kernel_rfl))
 f232:=Tryz.func179.trans (Pj some (by kernel_rfl))
 f234:=Tryz.func180.trans (Pj some (by kernel_rfl))
 f236:=Tryz.func181.trans (Pj some (by kernel_rfl))
 f260:=Tryz.func177.trans (Pj some (by kernel_rfl))
 f266:=Tryz.func233.trans (Pj some (by kernel_rfl))
 f271:=Tryz.func212.trans (Pj some (by kernel_rfl))
 t0:=Tryz.underlying0
 a0:=Tryz.isAgg0
 z0:=Tryz.sizeOf0
 v0:=Tryz.zeroValue0
 t3:=Tryz.underlying3
 a3:=Tryz.isAgg3
 z3:=Tryz.sizeOf3
 v3:=Tryz.zeroValue3
 t4:=Tryz.underlying4
 a4:=Tryz.isAgg4
 z4:=Tryz.sizeOf4
 v4:=Tryz.zeroValue4
 t5:=Tryz.underlying5
 a5:=Tryz.isAgg5
 z5:=Tryz.sizeOf5
 v5:=Tryz.zeroValue5
 t9:=Tryz.underlying9
 a9:=Tryz.isAgg9
 z9:=Tryz.sizeOf9
 v9:=Tryz.zeroValue9
 t21:=Tryz.underlying21
 a21:=Tryz.isAgg21
 z21:=Tryz.sizeOf21
 v21:=Tryz.zeroValue21
 t46:=Tryz.underlying244
 a46:=Tryz.isAgg244
 z46:=Tryz.sizeOf244
 v46:=Tryz.zeroValue244
 t105:=Tryz.underlying193
 a105:=Tryz.isAgg193
 z105:=Tryz.sizeOf193
 v105:=Tryz.zeroValue193
 t116:=Tryz.underlying199
 a116:=Tryz.isAgg199
 z116:=Tryz.sizeOf199
 t117:=Tryz.underlying200
 a117:=Tryz.isAgg200
 z117:=Tryz.sizeOf200
 v117:=Tryz.zeroValue200
 t119:=Tryz.underlying243
 a119:=Tryz.isAgg243
 z119:=Tryz.sizeOf243
 t124:=Tryz.underlying203
 a124:=Tryz.isAgg203
 z124:=Tryz.sizeOf203
 v124:=Tryz.zeroValue203
 t138:=Tryz.underlying246
 a138:=Tryz.isAgg246
 z138:=Tryz.sizeOf246
 v138:=Tryz.zeroValue246
 t139:=Tryz.underlying247
 a139:=Tryz.isAgg247
 z139:=Tryz.sizeOf247
 v139:=Tryz.zeroValue247
 g3:=by kernel_rfl
 g4:=by kernel_rfl}
def FT:Go.Shelf.Ren:=⟨fun | 99=>144 | 206=>183 | n=>n,fun | 9=>9 | 4=>4 | 3=>3 | n=>n,fun | n=>n⟩
theorem Na:Go.Proofs.Lays.n99 Tryz.prog FT:={
 mixed:=by kernel_rfl
 f99:=Tryz.func144.trans (Pj some (by kernel_rfl))
 f206:=Tryz.func183.trans (Pj some (by kernel_rfl))
 t3:=Tryz.underlying3
 a3:=Tryz.isAgg3
 z3:=Tryz.sizeOf3
 v3:=Tryz.zeroValue3
 t4:=Tryz.underlying4
 a4:=Tryz.isAgg4
 z4:=Tryz.sizeOf4
 v4:=Tryz.zeroValue4
 t9:=Tryz.underlying9
 a9:=Tryz.isAgg9
 z9:=Tryz.sizeOf9
 v9:=Tryz.zeroValue9}
def Cv:Go.Shelf.Ren:=⟨fun | 102=>74 | 209=>107 | 207=>141 | n=>n,fun | 9=>9 | 4=>4 | 3=>3 | n=>n,fun | n=>n⟩
theorem Lg:Go.Proofs.Lays.n102 Tryz.prog Cv:={
 mixed:=by kernel_rfl
 f102:=Tryz.func74.trans (Pj some (by kernel_rfl))
 f207:=Tryz.func141.trans (Pj some (by kernel_rfl))
 f209:=Tryz.func107.trans (Pj some (by kernel_rfl))
 t3:=Tryz.underlying3
 a3:=Tryz.isAgg3
 z3:=Tryz.sizeOf3
 v3:=Tryz.zeroValue3
 t4:=Tryz.underlying4
 a4:=Tryz.isAgg4
 z4:=Tryz.sizeOf4
 v4:=Tryz.zeroValue4
 t9:=Tryz.underlying9
 a9:=Tryz.isAgg9
 z9:=Tryz.sizeOf9
 v9:=Tryz.zeroValue9}
def Cu:Go.Shelf.Ren:=⟨fun | 153=>149 | 152=>186 | 226=>187 | 227=>146 | 228=>184 | 137=>213 | 119=>214 | 224=>210 | 225=>209 | 217=>208 | 266=>233 | n=>n,fun | 9=>9 | 3=>3 | 4=>4 | 5=>5 | 21=>21 | 117=>200 | 116=>199 | 0=>0 | 46=>244 | 124=>203 | n=>n,fun | n=>n⟩
theorem rz:Go.Proofs.Lays.n153 Tryz.prog Cu:={
 mixed:=by kernel_rfl
 f119:=Tryz.func214.trans (Pj some (by kernel_rfl))
 f137:=Tryz.func213.trans (Pj some (by kernel_rfl))
 f152:=Tryz.func186.trans (Pj some (by kernel_rfl))
 f153:=Tryz.func149.trans (Pj some (by kernel_rfl))
 f217:=Tryz.func208.trans (Pj some (by kernel_rfl))
 f224:=Tryz.func210.trans (Pj some (by kernel_rfl))
 f225:=Tryz.func209.trans (Pj some (by kernel_rfl))
 f226:=Tryz.func187.trans (Pj some (by kernel_rfl))
 f227:=Tryz.func146.trans (Pj some (by kernel_rfl))
 f228:=Tryz.func184.trans (Pj some (by kernel_rfl))
 f266:=Tryz.func233.trans (Pj some (by kernel_rfl))
 t0:=Tryz.underlying0
 a0:=Tryz.isAgg0
 z0:=Tryz.sizeOf0
 v0:=Tryz.zeroValue0
 t3:=Tryz.underlying3
 a3:=Tryz.isAgg3
 z3:=Tryz.sizeOf3
 v3:=Tryz.zeroValue3
 t4:=Tryz.underlying4
 a4:=Tryz.isAgg4
 z4:=Tryz.sizeOf4
 v4:=Tryz.zeroValue4
 t5:=Tryz.underlying5
 a5:=Tryz.isAgg5
 z5:=Tryz.sizeOf5
 v5:=Tryz.zeroValue5
 t9:=Tryz.underlying9
 a9:=Tryz.isAgg9
 z9:=Tryz.sizeOf9
 v9:=Tryz.zeroValue9
 t21:=Tryz.underlying21
 a21:=Tryz.isAgg21
 z21:=Tryz.sizeOf21
 v21:=Tryz.zeroValue21
 t46:=Tryz.underlying244
 a46:=Tryz.isAgg244
 z46:=Tryz.sizeOf244
 v46:=Tryz.zeroValue244
 t116:=Tryz.underlying199
 a116:=Tryz.isAgg199
 z116:=Tryz.sizeOf199
 t117:=Tryz.underlying200
 a117:=Tryz.isAgg200
 z117:=Tryz.sizeOf200
 v117:=Tryz.zeroValue200
 t124:=Tryz.underlying203
 a124:=Tryz.isAgg203
 z124:=Tryz.sizeOf203
 v124:=Tryz.zeroValue203}
def Mx (w:World):Prop:= ∃m,w.cell? ⟨2,0,none⟩=some (.int .i64 m)
theorem Mx.below {B:Nat} {w w':World} (h:Mx w) (hw:w.heap.size≤B) (hb:Below B w w'):Mx w':=by
 obtain⟨m,hm⟩:=h;exact⟨m,(hb.cell (O0 (Po w _ hm) hw)).trans hm⟩
theorem NT {w:World} (h:w.ShapedOpen Tryz.prog):Mx w:=uj.s1_3 w h
theorem zy (s old new:List UInt8) (w:World) (h:Mx w) (hs:s.length<4294967281) (h1:1≤old.length) (hlen:s.length+Lib.count s old*new.length≤140737488355328):
  Calls Tryz.prog 236 #[.string ⟨s.toArray⟩,.string ⟨old.toArray⟩,.string ⟨new.toArray⟩] w fun e w'=>
   e= .returned (.string ⟨(Lib.replaceAll s old new).toArray⟩)∧Below w.heap.size w w':=by
 obtain⟨m,hm⟩:=h;exact Any.strings_ReplaceAll {uj with} Gd ⟨s.toArray⟩ ⟨old.toArray⟩ ⟨new.toArray⟩ m w (by rw[aO];exact hs) hm (by rw[aO];exact h1) (by rw[aO,aO];exact hlen)
theorem index_one (s:List UInt8) (c:UInt8) (w:World):
  Calls Tryz.prog 140 #[.string ⟨s.toArray⟩,.string ⟨#[c]⟩] w fun e w'=>e= .returned (.int .i64 (Lib.indexByte s c))∧w'=w:=
 Any.strings_Index_one {uj with} ⟨s.toArray⟩ c w
theorem jq (s p:List UInt8) (w:World):
  Calls Tryz.prog 144 #[.string ⟨s.toArray⟩,.string ⟨p.toArray⟩] w fun e w'=>e= .returned (.bool (Lib.hasPrefix s p))∧w'=w:=
 Any.strings_HasPrefix Na ⟨s.toArray⟩ ⟨p.toArray⟩ w
theorem iI (s p:List UInt8) (w:World) (hs:s.length≤9223372036854775807):
  Calls Tryz.prog 74 #[.string ⟨s.toArray⟩,.string ⟨p.toArray⟩] w fun e w'=>e= .returned (.string ⟨(Lib.trimSuffix s p).toArray⟩)∧w'=w:=
 Any.strings_TrimSuffix Lg ⟨s.toArray⟩ ⟨p.toArray⟩ w (by rw[aO];exact hs)
theorem xh (s cs:List UInt8) (w:World) (hcs:cs.length<4294967281) (ha: ∀(j:Nat) b,cs[j]? =some b→b.toNat<128):
  Calls Tryz.prog 114 #[.string ⟨s.toArray⟩,.string ⟨cs.toArray⟩] w fun e w'=>e= .returned (.string ⟨(Lib.trimLeftS s cs).toArray⟩)∧Below w.heap.size w w':=
 Any.strings_TrimLeft_laid Lf (by kernel_rfl) ⟨s.toArray⟩ ⟨cs.toArray⟩ w (by rw[aO];exact hcs) ha
theorem uV (s:List UInt8) (c:UInt8) (hc:c.toNat<128) (w:World) (hs:s.length≤9223372036854775807):
  Calls Tryz.prog 142 #[.string ⟨s.toArray⟩,.string ⟨#[c]⟩] w fun e w'=>e= .returned (.string ⟨(Lib.trimRightB s c).toArray⟩)∧w'=w:=
 Any.strings_TrimRight_one Ld ⟨s.toArray⟩ c hc w (by rw[aO];exact hs)
theorem vz (s cs:List UInt8) (w:World) (h2:2≤cs.length) (h8:8<s.length) (hs:s.length<4294967281) (hcs:cs.length<4294967281) (ha: ∀(j:Nat) b,cs[j]? =some b→b.toNat<128):
  Calls Tryz.prog 149 #[.string ⟨s.toArray⟩,.string ⟨cs.toArray⟩] w fun e w'=>e= .returned (.int .i64 (Lib.indexAny s cs))∧Below w.heap.size w w':=by
 have hz:=zero_of_info (P:=Tryz.prog) (t:=199) (v:= .agg (Array.replicate 256 (.bool false))) (n:=256) (by kernel_rfl);refine(Any.strings_IndexAny_long {rz with} hz.1 hz.2 ⟨s.toArray⟩ ⟨cs.toArray⟩ w (by rw[aO];exact h2) (by rw[aO];exact h8) (by rw[aO];exact hs) (by rw[aO];exact hcs) ha).mono fun e w' ⟨h1,h2⟩=>⟨h1,?_⟩
 rw[h2];exact((OX _ w).alloc (OW _) _).alloc (by simp) _
theorem qV (s:List UInt8) (r:Int) (w:World) (h0:0≤r) (h1:r<128):
  Calls Tryz.prog 186 #[.string ⟨s.toArray⟩,.int .i32 r] w fun e w'=>e= .returned (.int .i64 (Lib.indexByte s r.toNat.toUInt8))∧w'=w:=
 Any.strings_IndexRune_ascii {rz with} ⟨s.toArray⟩ r w h0 h1
theorem vv (s:List UInt8) (c:Int) (w:World):
  Calls Tryz.prog 213 #[.string ⟨s.toArray⟩,.int .u8 c] w fun e w'=>e= .returned (.int .i64 (Lib.indexByte s c.toNat.toUInt8))∧w'=w:=
 Any.strings_IndexByte {rz with} ⟨s.toArray⟩ c w
theorem Bf (n:Int) (w:World):Calls Tryz.prog 187 #[.int .i64 n] w fun e w'=>e= .returned (.bool (decide (8<n)))∧w'=w:=
 Any.strings_shouldUseASCIISet {rz with} n w
end
theorem qj (c:UInt8) (w:World):Calls Tryz.prog 188 #[.int .u8 (c.toNat:Int)] w fun e w'=>e= .returned (.bool (blk c))∧w=w':=by
 have h1:blk c=(((c.toNat:Int)==32)|| ((c.toNat:Int)==9)):=by
  apply aY;simp only[blk,QD,QB]
  constructor
  ·rintro(rfl | rfl)
   ·exact .inl rfl
   ·exact .inr rfl
  ·rintro(h | h)
   ·exact .inl (Qt.1 (by have:c.toNat=32:=(by omega);exact this))
   ·exact .inr (Qt.1 (by have:c.toNat=9:=(by omega);exact this))
 rw[h1];clear h1;generalize (c.toNat:Int)=x;go_enter Tryz.func188,Tryz.ntmps188
 go_wp2
 all_goals
  go_ret;refine⟨aF ?_,rfl⟩
  simp_all
theorem jb (b:List UInt8) (w:World) (hb:b.length≤1000000):Calls Tryz.prog 109 #[.string ⟨b.toArray⟩] w fun e w'=>e= .returned (.bool (sl b))∧w=w':=by
 have H:=uV b 92 (by decide) w (by omega);have h1:=G8 b;have h2:=yX b;have hz:=aO b;have hz2:=aO (Lib.trimRightB b 92);generalize Lib.trimRightB b 92=t at H h1 h2 hz2;have h3:sl b=decide (((b.length:Int)-(t.length:Int)) % 2=1):=by
  cases hs:sl b
  ·rw[hs]at h1
   simp at h1
   symm
   rw[decide_eq_false_iff_not];omega
  ·rw[hs]at h1
   simp at h1
   symm
   rw[decide_eq_true_iff];omega
 generalize sl b=q at h3;have h4:(0:Int)≤(b.length:Int)-(t.length:Int):=by omega
 have HH:=zH H;have H3:=zH h3;clear H h1 h2 h3;go_enter Tryz.func109,Tryz.ntmps109
 go_wp2_with (go_at_call 142;refine HH.out.mono ?_;rintro e w' ⟨rfl,rfl⟩)
 go_ret;refine⟨aF ?_,rfl⟩;rw[H3.out];apply aY;simp
 try omega
def ptd:List UInt8→Bool
 | []=>false
 | c::_=>c==46 || c==39
theorem zG (b:List UInt8) (w:World):Calls Tryz.prog 113 #[.string ⟨b.toArray⟩] w fun e w'=>e= .returned (.bool (ptd b))∧w=w':=by
 have H1:=zH (jq b [46] w);have H2:=zH (jq b [39] w);have h3:ptd b=(Lib.hasPrefix b [46]|| Lib.hasPrefix b [39]):=by
  cases b with
  | nil=>rfl
  | cons c t=>
   simp only[ptd,Lib.hasPrefix,List.isPrefixOf,Bool.and_true]
   congr 1
   ·exact aY (by simp only[QB];exact eq_comm)
   ·exact aY (by simp only[QB];exact eq_comm)
 rw[h3];generalize Lib.hasPrefix b [46]=x at H1 ⊢;generalize Lib.hasPrefix b [39]=y at H2 ⊢;clear h3;go_enter Tryz.func113,Tryz.ntmps113
 go_wp2_with (first
  | (go_at_call 144;with_reducible refine H1.out.mono ?_;clear H1;rintro e w' ⟨rfl,rfl⟩)
  | (go_at_call 144;with_reducible refine H2.out.mono ?_;clear H2;rintro e w' ⟨rfl,rfl⟩))
 all_goals
  go_ret;refine⟨aF ?_,rfl⟩
  simp_all
theorem sw (P:List UInt8) (w:World) (hM:Mx w) (hb:P.length≤1000000):
  Calls Tryz.prog 215 #[.string ⟨(dbl P).toArray⟩] w fun e w'=>e= .returned (.string ⟨P.toArray⟩)∧Below w.heap.size w w':=by
 have hd:=(yF P).2;have hc:P.count 34≤P.length:=List.count_le_length;have H:=zy (dbl P) [34,34] [34] w hM (by omega) (by decide) (by rw[wL];simp only[Pe,Pm];omega);rw[uZ]at H;generalize dbl P=d at H ⊢;have HH:=zH H;clear H hM;go_enter Tryz.func215,Tryz.ntmps215
 go_wp2_with (go_at_call 236;refine HH.out.mono ?_;rintro e w' ⟨rfl,b1⟩)
 go_ret;exact⟨rfl,b1⟩
theorem Ni {b:List UInt8} {j:Nat} {x:UInt8} (h:b[j]? =some x):isB b j=(blk x&& !sl (b.take j)):=by unfold isB;rw[h]
theorem Nh {b:List UInt8} {j:Nat} {x:UInt8} (h:b[j]? =some x):isC b j=(x==34&&sl (b.take j)):=by
 unfold isC;rw[h];rfl
theorem mg {p:Nat→Bool} {j:Nat} (h: ∀k,k<j→p k=false) (hj:p j=false): ∀k,k<j+1→p k=false:=fun k hk=>by
 by_cases e:k=j
 ·rw[e];exact hj
 ·exact h k (by omega)
theorem qp (b:List UInt8) (w:World) (hb:b.length≤1000000):Calls Tryz.prog 190 #[.string ⟨b.toArray⟩] w fun e w'=>e= .returned (.int .i64 (ubl b:Int))∧w=w':=by
 have hsz:=aO b;have HI:=zH (fun j x (h:b[j]? =some x)=>fe b j x h);have HT:=zH (fun j (h:j≤b.length)=>lK b j h);have HN:=zH (fun(h: ∀i,i<b.length→isB b i=false)=>GZ h);have HS:=zH (fun i hi h hb=>GY (l:=b) (i:=i) hi h hb);obtain⟨U,hU⟩: ∃U,ubl b=U:=⟨_,rfl⟩;rw[hU]at HN HS ⊢;clear hU;go_enter Tryz.func190,Tryz.ntmps190
 go_wp2_with fail
 go_loopw [6] (fun n wr=> ∃j:Nat,wr=w∧n= .int .i64 j∧j≤b.length∧ ∀k,k<j→isB b k=false) (fun n _=>b.length-(intOf n).toNat)
 case atStart=>exact⟨0,rfl,rfl,by omega,fun k hk=>by omega⟩
 case round=>
  obtain⟨j,rfl,rfl,hj,hbf⟩:=hrel;have HBF:=zH hbf;clear hbf
  by_cases hlt:j<b.length
  ·obtain⟨x,hx⟩: ∃x,b[j]? =some x:=⟨b[j],OU hlt⟩
   have k1:=HI.out j x hx;have k2:=HT.out j hj;have B1:=zH (fun W=>qj x W);have S1:=zH (fun W=>jb (b.take j) W (by rw[Pg];omega));have E:=zH (Ni hx);have hlt':(j:Int)<(b.length:Int):=by omega
   obtain⟨p,hp⟩: ∃p,blk x=p:=⟨_,rfl⟩;rw[hp]at B1 E;obtain⟨q,hq⟩: ∃q,sl (b.take j)=q:=⟨_,rfl⟩;rw[hq]at S1 E;generalize b.take j=tk at k2 S1 hq;clear hp hq hx
   cases p
   ·go_wp2_with (go_at_call 188;refine(B1.out _).mono ?_;rintro e w' ⟨rfl,rfl⟩)
    go_roundw
    case rel=>exact⟨j+1,by first | rfl | trivial,by go_num,by omega,mg HBF.out E.out⟩
    case measure=>simp[intOf];omega
   ·cases q
    ·go_wp2_with (first
      | (go_at_call 188;refine(B1.out _).mono ?_;rintro e w' ⟨rfl,rfl⟩)
      | (go_at_call 109;refine(S1.out _).mono ?_;rintro e w' ⟨rfl,rfl⟩))
     go_ret;exact⟨by rw[HS.out j hlt E.out HBF.out];rfl,rfl⟩
    ·go_wp2_with (first
      | (go_at_call 188;refine(B1.out _).mono ?_;rintro e w' ⟨rfl,rfl⟩)
      | (go_at_call 109;refine(S1.out _).mono ?_;rintro e w' ⟨rfl,rfl⟩))
     go_roundw
     case rel=>exact⟨j+1,by first | rfl | trivial,by go_num,by omega,mg HBF.out E.out⟩
     case measure=>simp[intOf];omega
  ·obtain rfl:j=b.length:=by omega
   have e:=HN.out HBF.out;subst e;go_wp2_with fail
   go_ret;exact⟨rfl,rfl⟩
theorem uT (b:List UInt8) (w:World) (hb:b.length≤1000000):Calls Tryz.prog 108 #[.string ⟨b.toArray⟩] w fun e w'=>e= .returned (.tuple #[.string ⟨(unc b).1.toArray⟩,.bool (unc b).2])∧w=w':=by
 have hsz:=aO b;have HI:=zH (fun j x (h:b[j]? =some x)=>fe b j x h);have HT:=zH (fun j (h:j≤b.length)=>lK b j h);have HN:=zH (fun(h: ∀i,i<b.length→isC b i=false)=>GV h);have HS:=zH (fun i hi h hb=>GU (l:=b) (i:=i) hi h hb);obtain⟨U,hU⟩: ∃U,unc b=U:=⟨_,rfl⟩;rw[hU]at HN HS ⊢;clear hU;go_enter Tryz.func108,Tryz.ntmps108
 go_wp2_with fail
 go_loopw [7] (fun n wr=> ∃j:Nat,wr=w∧n= .int .i64 j∧j≤b.length∧ ∀k,k<j→isC b k=false) (fun n _=>b.length-(intOf n).toNat)
 case atStart=>exact⟨0,rfl,rfl,by omega,fun k hk=>by omega⟩
 case round=>
  obtain⟨j,rfl,rfl,hj,hbf⟩:=hrel;have HBF:=zH hbf;clear hbf
  by_cases hlt:j<b.length
  ·obtain⟨x,hx⟩: ∃x,b[j]? =some x:=⟨b[j],OU hlt⟩
   have k1:=HI.out j x hx;have E:=zH (Nh hx);have hlt':(j:Int)<(b.length:Int):=by omega
   by_cases h34:x=34
   ·subst h34
    have k2:=HT.out j hj;have S1:=zH (fun W=>jb (b.take j) W (by rw[Pg];omega));have HP:=zH (fun h:isC b j=true=>Lj h);obtain⟨q,hq⟩: ∃q,sl (b.take j)=q:=⟨_,rfl⟩;rw[hq]at S1 E;generalize b.take j=tk at k2 S1 hq;have k1': ∀W,(Instr.index 9 (.string ⟨b.toArray⟩) (.int .i64 (j:Int))).run Tryz.prog W= .ok (.int .u8 34) W:=k1;clear hq hx k1
    cases q
    ·go_wp2_with (go_at_call 109;refine(S1.out _).mono ?_;rintro e w' ⟨rfl,rfl⟩)
     go_roundw
     case rel=>exact⟨j+1,by first | rfl | trivial,by go_num,by omega,mg HBF.out E.out⟩
     case measure=>simp[intOf];omega
    ·have hp:=HP.out E.out
     have k3: ∀W,(Instr.slice 9 (.string ⟨b.toArray⟩) none (some (.int .i64 ((j:Int)-1))) none).run Tryz.prog W= .ok (.string ⟨(b.take (j-1)).toArray⟩) W:=by
      have h:=HT.out (j-1) (by omega);have c:((j-1:Nat):Int)=(j:Int)-1:=by omega
      rw[c]at h;exact h
     have hj1:(0:Int)≤(j:Int)-1:=by omega
     have e:=HS.out j hlt E.out HBF.out;subst e;obtain⟨tk2,ht2⟩: ∃t,b.take (j-1)=t:=⟨_,rfl⟩;rw[ht2]at k3;have HT2:=zH ht2;clear ht2;go_wp2_with (go_at_call 109;refine(S1.out _).mono ?_;rintro e w' ⟨rfl,rfl⟩)
     go_ret2
     exact⟨by rw[HT2.out];rfl,rfl⟩
   ·have hne:=yI h34
    have hne':((x.toNat:Int)==34)=false:=hne;have e0:(x==34)=false:=by simpa using h34
    rw[e0,Bool.false_and]at E;clear hne h34 e0 hx;go_wp2_with fail
    go_roundw
    case rel=>exact⟨j+1,by first | rfl | trivial,by go_num,by omega,mg HBF.out E.out⟩
    case measure=>simp[intOf];omega
  ·obtain rfl:j=b.length:=by omega
   have e:=HN.out HBF.out;subst e;go_wp2_with fail
   go_ret2
   exact⟨rfl,rfl⟩
structure QAt (b:List UInt8) (A R:List UInt8) (F:Bool) (j:Nat) (P:List UInt8):Prop where
 le:j≤b.length
 at':j=1+(dbl P).length
 eq:b.drop 1=dbl P++b.drop j
 res:uq (b.drop 1)=(A,R,F)
theorem QAt.start {b A R:List UInt8} {F:Bool} (h1:1≤b.length) (h:uq (b.drop 1)=(A,R,F)):QAt b A R F 1 []:=⟨h1,by simp[pF],by simp[pF],h⟩
theorem QAt.piece {b A R:List UInt8} {F:Bool} {j:Nat} {P:List UInt8} (h:QAt b A R F j P):(b.drop 1).take (j-1)=dbl P:=by
 rw[h.eq,h.at',Nat.add_sub_cancel_left];exact List.take_left' rfl
theorem QAt.next {b A R:List UInt8} {F:Bool} {j:Nat} {P:List UInt8} (h:QAt b A R F j P) {x:UInt8} (hx:b[j]? =some x) (h34:x≠34):QAt b A R F (j+1) (P++ [x]):=by
 obtain⟨hj,hx'⟩:=OV.1 hx;have e:=h.at';have d:dbl [x]=[x]:=by rw[eu,Pd h34,pF];rfl
 refine⟨hj,?_,?_,h.res⟩
 ·rw[rC,d,Pb,QG];omega
 ·rw[rC,d,Pw,h.eq,PX hj,hx'];rfl
theorem QAt.two {b A R:List UInt8} {F:Bool} {j:Nat} {P:List UInt8} (h:QAt b A R F j P) (hp:Lib.hasPrefix (b.drop j) [34,34]=true):QAt b A R F (j+2) (P++ [34]):=by
 have e:=h.at';have hp':([34,34]:List UInt8)<+:b.drop j:=by rwa [Lib.hasPrefix,List.isPrefixOf_iff_prefix]at hp
 obtain⟨t,ht⟩:=hp';have hl:=Pj List.length ht;simp only[Pb,Pe,Pm,Pi]at hl;have d:dbl [34]=[34,34]:=by rw[eu,Pk rfl,pF];rfl
 have ht2:b.drop (j+2)=t:=by rw[←List.drop_drop,←ht];rfl
 refine⟨by omega,?_,?_,h.res⟩
 ·rw[rC,d,Pb];simp;omega
 ·rw[rC,d,Pw,h.eq,ht2,ht]
theorem QAt.ends {b A R:List UInt8} {F:Bool} {j:Nat} {P:List UInt8} (h:QAt b A R F j P) (hx:b[j]? =some 34) (hp:Lib.hasPrefix (b.drop j) [34,34]=false):A=P∧R=b.drop (j+1)∧F=true:=by
 obtain⟨hj,hx'⟩:=OV.1 hx;have r:=h.res;have hc:b.drop j=34::b.drop (j+1):=by rw[PX hj,hx']
 rw[h.eq,hc,wX,MF]at r
 ·simp only[Pn,QK]at r
  exact⟨r.1.symm,r.2.1.symm,r.2.2.symm⟩
 ·intro hh
  rw[hc]at hp
  cases hd:b.drop (j+1)with
  | nil=>rw[hd]at hh;simp at hh
  | cons y t=>
   rw[hd]at hh hp;simp at hh;subst hh;simp[Lib.hasPrefix,List.isPrefixOf]at hp
theorem QAt.open {b A R:List UInt8} {F:Bool} {P:List UInt8} (h:QAt b A R F b.length P):A=P∧R=[]∧F=false∧b.drop 1=dbl P:=by
 have r:=h.res;have e:=h.eq;rw[List.drop_length,Pn]at e;have e2:dbl P=dbl P++ []:=by simp
 rw[e,e2,wX]at r;simp[uq]at r;exact⟨r.1.symm,r.2.1,r.2.2,e⟩
theorem QAt.lenP {b A R:List UInt8} {F:Bool} {j:Nat} {P:List UInt8} (h:QAt b A R F j P):P.length≤b.length:=by
 have h1:=h.at';have h2:=h.le;have h3:=(yF P).1;omega
theorem xe (b:List UInt8) (w:World) (hM:Mx w) (hb1:1≤b.length) (hb:b.length≤1000000):
  Calls Tryz.prog 189 #[.string ⟨b.toArray⟩] w fun e w'=>e= .returned (.tuple #[.string ⟨(uq (b.drop 1)).1.toArray⟩,.int .i64 ((b.length-(uq (b.drop 1)).2.1.length:Nat):Int),.bool (uq (b.drop 1)).2.2])∧Below w.heap.size w w':=by
 have hsz:=aO b;have HI:=zH (fun j x (h:b[j]? =some x)=>fe b j x h);have HF:=zH (fun j (h:j≤b.length)=>eU b j h);have HD:=zH (fun i j h1 h2=>Kq b i j h1 h2);obtain⟨A,R,F,hU⟩: ∃A R F,uq (b.drop 1)=(A,R,F):=⟨_,_,_,rfl⟩;have HQ:=zH (QAt.start hb1 hU);rw[hU];simp only;obtain⟨N,hN⟩: ∃N,b.length-R.length=N:=⟨_,rfl⟩;rw[hN];have HN:=zH hN;clear hU hN;go_enter Tryz.func189,Tryz.ntmps189
 go_wp2_with fail
 go_loopw [5] (fun n wr=> ∃(j:Nat) (P:List UInt8),wr=w∧n= .int .i64 j∧QAt b A R F j P) (fun n _=>b.length-(intOf n).toNat)
 case atStart=>exact⟨1,[],rfl,rfl,HQ.out⟩
 case round=>
  obtain⟨j,P,rfl,rfl,hq⟩:=hrel;have Q:=zH hq;have hj:=hq.le;have hP:=hq.lenP;have hj1:1≤j:=by have:=hq.at';omega
  clear hq HQ
  by_cases hlt:j<b.length
  ·obtain⟨x,hx⟩: ∃x,b[j]? =some x:=⟨b[j],OU hlt⟩
   have k1:=HI.out j x hx;have hlt':(j:Int)<(b.length:Int):=by omega
   by_cases h34:x=34
   ·subst h34
    have k1': ∀W,(Instr.index 9 (.string ⟨b.toArray⟩) (.int .i64 (j:Int))).run Tryz.prog W= .ok (.int .u8 34) W:=k1;have k2:=HF.out j hj;have P1:=zH (fun W=>jq (b.drop j) [34,34] W)
    cases hpf:Lib.hasPrefix (b.drop j) [34,34]
    ·rw[hpf]at P1
     obtain⟨rfl,rfl,rfl⟩:=Q.out.ends hx hpf;have k3:=HD.out 1 j hj1 hj;rw[Q.out.piece]at k3;have k3': ∀W,(Instr.slice 9 (.string ⟨b.toArray⟩) (some (.int .i64 1)) (some (.int .i64 (j:Int))) none).run Tryz.prog W= .ok (.string ⟨(dbl A).toArray⟩) W:=k3;have S1:=zH (fun W hM=>sw A W hM (by omega));obtain rfl:N=j+1:=by rw[←HN.out,Pi];omega
     have HM:=zH hM;generalize b.drop j=bj at k2 P1 hpf;clear hpf hx k1 k3 hM HN;go_wp2_with (first
      | (go_at_call 144;refine(P1.out _).mono ?_;rintro e w' ⟨rfl,rfl⟩)
      | (go_at_call 215;refine(S1.out _ HM.out).mono ?_;rintro e w' ⟨rfl,b1⟩))
     go_ret3;exact⟨by go_num,b1⟩
    ·rw[hpf]at P1
     have Q2:=zH (Q.out.two hpf);have hj2:=Q2.out.le;generalize b.drop j=bj at k2 P1 hpf;clear hpf hx k1;go_wp2_with (go_at_call 144;refine(P1.out _).mono ?_;rintro e w' ⟨rfl,rfl⟩)
     go_roundw
     case rel=>exact⟨j+2,P++ [34],by first | rfl | trivial,by go_num,Q2.out⟩
     case measure=>simp[intOf];omega
   ·have hne:((x.toNat:Int)==34)=false:=yI h34
    have hne':((x.toNat:Int) != 34)=true:=by rw[bne,hne];rfl
    have Q2:=zH (Q.out.next hx h34);clear h34 hx hne;go_wp2_with fail
    go_roundw
    case rel=>exact⟨j+1,P++ [x],by first | rfl | trivial,by go_num,Q2.out⟩
    case measure=>simp[intOf];omega
  ·obtain rfl:j=b.length:=by omega
   obtain⟨rfl,rfl,rfl,hd⟩:=Q.out.open;have k2:=HF.out 1 (by omega);rw[hd]at k2;have k2': ∀W,(Instr.slice 9 (.string ⟨b.toArray⟩) (some (.int .i64 1)) none none).run Tryz.prog W= .ok (.string ⟨(dbl A).toArray⟩) W:=k2;have S1:=zH (fun W hM=>sw A W hM (by omega));have HM:=zH hM;obtain rfl:N=b.length:=by rw[←HN.out];simp
   clear hd k2 hM HN;go_wp2_with (go_at_call 215;refine(S1.out _ HM.out).mono ?_;rintro e w' ⟨rfl,b1⟩)
   go_ret3;exact⟨rfl,b1⟩
section
attribute [local go_sem ↓ high] yL gD gB
theorem Bg: ∀(n:Nat) (l:List UInt8),l.length≤n→ ∃pre,l=pre++(uq l).2.1
 | _,[],_=>⟨[],by simp[uq]⟩
 | _,[c],_=>⟨[c],by unfold uq;split<;>simp⟩
 | 0,c::d::t,h=>by simp at h
 | n+1,c::d::t,h=>by
  unfold uq;simp only[Pe]at h
  split
  ·split
   ·obtain⟨pre,hp⟩:=Bg n t (by omega)
    exact⟨c::d::pre,by simp only[PR];rw[←hp]⟩
   ·exact⟨[c],rfl⟩
  ·obtain⟨pre,hp⟩:=Bg n (d::t) (by simp only[Pe];omega)
   exact⟨c::pre,by simp only[PR];rw[←hp]⟩
theorem wW: ∀(n:Nat) (l:List UInt8),l.length≤n→(uq l).2.2=true→(uq l).2.1.head? ≠some 34
 | _,[],_,h=>by simp[uq]at h
 | _,[c],_,h=>by
  unfold uq at h ⊢
  split<;>rename_i hc
  ·simp
  ·rw[Pd hc]at h;simp at h
 | 0,c::d::t,hl,_=>by simp at hl
 | n+1,c::d::t,hl,h=>by
  unfold uq at h ⊢;simp only[Pe]at hl
  by_cases hc:c=34
  ·rw[Pk hc]at h ⊢
   by_cases hd:d=34
   ·rw[Pk hd]at h ⊢
    exact wW n t (by omega) h
   ·rw[Pd hd]
    simpa using hd
  ·rw[Pd hc]at h ⊢
   exact wW n (d::t) (by simp only[Pe];omega) h
theorem Dr {r A R:List UInt8} {F:Bool} (h1:1≤r.length) (h:uq (r.drop 1)=(A,R,F)):R.length<r.length∧r.drop (r.length-R.length)=R:=by
 obtain⟨pre,hp⟩:=Bg _ (r.drop 1) (OW _);rw[h]at hp;simp only at hp;have hl:=Pj List.length hp;simp only[Pi,Pb]at hl;refine⟨by omega,?_⟩;have e:r.length-R.length=1+pre.length:=by omega
 rw[e,←List.drop_drop,hp,List.drop_left]
def fV:Value→Nat
 | .string s=>s.size
 | _=>0
theorem dM (b:List UInt8):fV (.string ⟨b.toArray⟩)=b.length:=aO b
structure AAt (w:World) (N:Nat) (A:List (List UInt8)) (F:Bool) (r:List UInt8) (acc:List (List UInt8)) (v:Value) (wr:World):Prop where
 own:jr w.heap.size wr v acc
 bel:Below w.heap.size w wr
 sz:w.heap.size≤wr.heap.size
 le:r.length≤N
 num:acc.length+r.length≤N
 res:(A,F)=(acc++(args r).1,(args r).2)
section
variable {w:World} {N:Nat} {A:List (List UInt8)} {F:Bool} {r:List UInt8} {acc:List (List UInt8)} {v:Value} {wr:World}
theorem AAt.start (w:World) (b:List UInt8) (h:args b=(A,F)):AAt w b.length A F b [] (.slice none 0 0) w:=
 ⟨ag.nil _ _,OX _ _,OW _,OW _,by simp,by simp[h]⟩
theorem AAt.keep {w':World} (h:AAt w N A F r acc v wr) (hb:Below wr.heap.size wr w'):AAt w N A F r acc v w':=
 ⟨h.own.keep hb,h.bel.trans (hb.mono h.sz),Pp h.sz hb.size,h.le,h.num,h.res⟩
theorem AAt.fin (h:AAt w N A F [] acc v wr):A=acc∧F=true:=by
 have e:=h.res;rw[JK,Pn]at e
 simpa using e
theorem mU {r:List UInt8} {c:UInt8} (h:r[0]? =some c):r=c::r.drop 1:=by
 cases r with
 | nil=>simp at h
 | cons d t=>simp at h;simp[h]
theorem AAt.blank (h:AAt w N A F r acc v wr) {c:UInt8} (hc:r[0]? =some c) (hb:blk c=true):AAt w N A F (r.drop 1) acc v wr:=by
 have e:=h.res;have h1:=h.le;have h2:=h.num;rw[mU hc,Dl hb]at e;exact⟨h.own,h.bel,h.sz,by rw[Pi];omega,by rw[Pi];omega,e⟩
theorem AAt.push (h:AAt w N A F r acc v wr) (hN:N≤500000) (x R:List UInt8) (hR:R.length<r.length) (hres:args r=(x::(args R).1,(args R).2)):
  ∃v' w2,(qY #[v,.slice (some ⟨wr.heap.size,0,none⟩) 1 1]).run Tryz.prog (wr.alloc (.cells #[.string ⟨x.toArray⟩] 9))= .ok (.value v') w2∧AAt w N A F R (acc++ [x]) v' w2∧Below w.heap.size wr w2:=by
 have h1:=h.num;have h0:=h.le;obtain⟨v',w2,hrun,ho,hb,hz⟩:=zC h.own h.sz x (by omega);refine⟨v',w2,hrun,⟨ho,h.bel.trans hb,Pp h.sz hz,by omega,by simp;omega,?_⟩,hb⟩;rw[h.res,hres];simp
theorem AAt.plain (h:AAt w N A F r acc v wr) (hN:N≤500000) {c:UInt8} (hc:r[0]? =some c) (hb:blk c=false) (hq:c≠34):
  ∃v' w2,(qY #[v,.slice (some ⟨wr.heap.size,0,none⟩) 1 1]).run Tryz.prog (wr.alloc (.cells #[.string ⟨(r.take (ubl r)).toArray⟩] 9))= .ok (.value v') w2∧AAt w N A F (r.drop (ubl r)) (acc++ [r.take (ubl r)]) v' w2∧Below w.heap.size wr w2:=by
 have e:=mU hc;have h1:1≤ubl r:=by rw[e];exact mh hb
 have h2:=xg r;refine h.push hN _ _ (by rw[Pi];omega) ?_;have:=Dk (t:=r.drop 1) hb hq;rw[←e]at this;exact this
theorem AAt.quote (h:AAt w N A F r acc v wr) (hN:N≤500000) (hc:r[0]? =some 34) {x R:List UInt8} (hu:uq (r.drop 1)=(x,R,true)):
  ∃v' w2,(qY #[v,.slice (some ⟨wr.heap.size,0,none⟩) 1 1]).run Tryz.prog (wr.alloc (.cells #[.string ⟨x.toArray⟩] 9))= .ok (.value v') w2∧AAt w N A F R (acc++ [x]) v' w2∧Below w.heap.size wr w2:=by
 have e:=mU hc;have hl:1≤r.length:=by rw[e];simp
 refine h.push hN _ _ (Dr hl hu).1 ?_;have:=Dj (t:=r.drop 1) (by rw[hu]);rw[←e,hu]at this;exact this
theorem AAt.openq (h:AAt w N A F r acc v wr) (hN:N≤500000) (hc:r[0]? =some 34) {x R:List UInt8} (hu:uq (r.drop 1)=(x,R,false)):
  ∃v' w2,(qY #[v,.slice (some ⟨wr.heap.size,0,none⟩) 1 1]).run Tryz.prog (wr.alloc (.cells #[.string ⟨x.toArray⟩] 9))= .ok (.value v') w2∧(jr w.heap.size w2 v' A∧F=false∧Below w.heap.size w w2∧w.heap.size≤w2.heap.size):=by
 have e:=mU hc;have h1:=h.num;obtain⟨v',w2,hrun,ho,hb,hz⟩:=zC h.own h.sz x (by omega);have:=GA (t:=r.drop 1) (by rw[hu]);rw[←e,hu]at this;have r1:=h.res;rw[this]at r1;simp only[QK]at r1;refine⟨v',w2,hrun,?_,r1.2,h.bel.trans hb,Pp h.sz hz⟩;rw[r1.1];exact ho
end
theorem JM (b:List UInt8) (w:World) (hM:Mx w) (hb:b.length≤100000):
  Calls Tryz.prog 150 #[.string ⟨b.toArray⟩] w fun e w'=> ∃v,e= .returned (.tuple #[v,.bool (args b).2])∧jr w.heap.size w' v (args b).1∧Below w.heap.size w w'∧w.heap.size≤w'.heap.size:=by
 have HM:=zH (fun W (h:Below w.heap.size w W)=>hM.below (OW _) h);obtain⟨A,F,hAF⟩: ∃A F,args b=(A,F):=⟨_,_,rfl⟩;have HA:=zH (AAt.start w b hAF);rw[hAF];simp only;obtain⟨N,hN⟩: ∃N,b.length=N:=⟨_,rfl⟩;rw[hN]at HA hb;clear hM hAF hN;go_enter Tryz.func150,Tryz.ntmps150
 go_wp2_with fail
 go_step3
 go_wp2_with fail
 go_step3
 go_wp2_with fail
 go_loopw [0,4,5] (fun s v o wr=> ∃(r:List UInt8) (acc:List (List UInt8)),s= .string ⟨r.toArray⟩∧o= .bool true∧AAt w N A F r acc v wr) (fun s _ _ _=>fV s)
 case atStart=>exact⟨b,[],rfl,rfl,HA.out⟩
 case round=>
  obtain⟨r,acc,rfl,rfl,ha⟩:=hrel;rcases hr0:r[0]? with _ | c
  ·obtain rfl:r=[]:=by cases r with
    | nil=>rfl
    | cons c t=>simp at hr0
   obtain⟨rfl,rfl⟩:=ha.fin;have E1: ∀W,(BX (.string ⟨#[]⟩) (.string ⟨#[]⟩)).run Tryz.prog W= .ok (.bool false) W:=oN [] [];have HX:=zH ha;clear ha hr0 HA;go_wp2_with fail
   try rw[QA]
   go_ret2
   exact⟨_,rfl,HX.out.own,HX.out.bel,HX.out.sz⟩
  ·have hrl:1≤r.length:=by
    have:=(OV.1 hr0).1;omega
   have hrb:=ha.le;have E1: ∀W,(BX (.string ⟨r.toArray⟩) (.string ⟨#[]⟩)).run Tryz.prog W= .ok (.bool true) W:=by
    have h:=oN r [];have hne: ¬r=[]:=by rintro rfl;simp at hrl
    rw[Px hne]at h;exact h
   have k0: ∀W,(Instr.index 9 (.string ⟨r.toArray⟩) (.int .i64 0)).run Tryz.prog W= .ok (.int .u8 (c.toNat:Int)) W:=fe r 0 c hr0;have B1:=zH (fun W=>qj c W);have HX:=zH ha;have HR:=zH hr0;clear HA ha
   by_cases hbk:blk c=true
   ·rw[hbk]at B1
    have k1: ∀W,(Instr.slice 9 (.string ⟨r.toArray⟩) (some (.int .i64 1)) none none).run Tryz.prog W= .ok (.string ⟨(r.drop 1).toArray⟩) W:=eU r 1 hrl;have HY:=zH (HX.out.blank hr0 hbk);have hdl:(r.drop 1).length<r.length:=by rw[Pi];omega
    obtain⟨r1,hr1⟩: ∃r1,r.drop 1=r1:=⟨_,rfl⟩;rw[hr1]at k1 HY hdl;clear hr1 hr0 hbk;go_wp2_with (go_at_call 188;refine(B1.out _).mono ?_;rintro e w' ⟨rfl,rfl⟩)
    go_roundw
    case rel=>exact⟨r1,acc,rfl,rfl,HY.out⟩
    case measure=>show fV _<fV _;rw[dM,dM];exact hdl
   ·have hbk':blk c=false:=by simpa using hbk
    rw[hbk']at B1;clear hbk
    by_cases h34:c=34
    ·subst h34
     have k0': ∀W,(Instr.index 9 (.string ⟨r.toArray⟩) (.int .i64 0)).run Tryz.prog W= .ok (.int .u8 34) W:=k0;obtain⟨x,R,F1,hu⟩: ∃x R F1,uq (r.drop 1)=(x,R,F1):=⟨_,_,_,rfl⟩;obtain⟨hRl,hRd⟩:=Dr hrl hu;have U1:Hid (∀W,Mx W→Calls Tryz.prog 189 #[.string ⟨r.toArray⟩] W fun e w'=>e= .returned (.tuple #[.string ⟨x.toArray⟩,.int .i64 ((r.length-R.length:Nat):Int),.bool F1])∧Below W.heap.size W w'):=zH fun W hM=>by
      have h:=xe r W hM hrl (by omega);rw[hu]at h;exact h
     have k2:=eU r (r.length-R.length) (by omega);rw[hRd]at k2;obtain⟨n,hn⟩: ∃n,r.length-R.length=n:=⟨_,rfl⟩;rw[hn]at U1 k2;have HU:=zH hu;clear hn hRd k0 hr0 hbk' hu
     cases F1
     ·go_wp2_with (go_at_call 188;refine(B1.out _).mono ?_;rintro e w' ⟨rfl,rfl⟩)
      refine(U1.out _ (HM.out _ HX.out.bel)).mono ?_;rintro e w1 ⟨rfl,b1⟩;obtain⟨v',w2,k3,h3⟩:=(HX.out.keep b1).openq (by omega) HR.out HU.out;have H3:=zH h3;clear h3 b1 U1 HX HR HU HM;go_wp2_with fail
      try rw[QA]
      go_ret2
      obtain⟨q1,q2,q3,q4⟩:=H3.out;exact⟨_,by rw[q2];rfl,q1,q3,q4⟩
     ·go_wp2_with (go_at_call 188;refine(B1.out _).mono ?_;rintro e w' ⟨rfl,rfl⟩)
      refine(U1.out _ (HM.out _ HX.out.bel)).mono ?_;rintro e w1 ⟨rfl,b1⟩;obtain⟨v',w2,k3,h3,-⟩:=(HX.out.keep b1).quote (by omega) HR.out HU.out;have H3:=zH h3;have HRd:Hid (∀d,R[0]? =some d→d≠34):=zH fun d hd=>by
       have h:=wW _ (r.drop 1) (OW _) (by rw[HU.out]);rw[HU.out]at h;rintro rfl
       cases R with
       | nil=>simp at hd
       | cons y t=>simp at hd h;exact h hd
      clear h3 b1 U1 HX HR HU;rcases hR0:R[0]? with _ | d
      ·obtain rfl:R=[]:=by cases R with
        | nil=>rfl
        | cons c t=>simp at hR0
       have E2: ∀W,(vC (.string ⟨#[]⟩) (.string ⟨#[]⟩)).run Tryz.prog W= .ok (.bool true) W:=jN [] [];clear hR0 HM HRd;go_wp2_with fail
       go_roundw
       case rel=>exact⟨[],acc++ [x],rfl,rfl,H3.out⟩
       case measure=>show fV _<fV _;rw[dM,dM];exact hRl
      ·have hRl1:1≤R.length:=by
        have:=(OV.1 hR0).1;omega
       have E2: ∀W,(vC (.string ⟨R.toArray⟩) (.string ⟨#[]⟩)).run Tryz.prog W= .ok (.bool false) W:=by
        have h:=jN R [];have hne: ¬R=[]:=by rintro rfl;simp at hRl1
        rw[Px hne]at h;exact h
       have k4: ∀W,(Instr.index 9 (.string ⟨R.toArray⟩) (.int .i64 0)).run Tryz.prog W= .ok (.int .u8 (d.toNat:Int)) W:=fe R 0 d hR0;have B2:=zH (fun W=>qj d W)
       by_cases hbd:blk d=true
       ·rw[hbd]at B2
        clear hbd hR0 HM HRd;go_wp2_with (go_at_call 188;refine(B2.out _).mono ?_;rintro e w' ⟨rfl,rfl⟩)
        go_roundw
        case rel=>exact⟨R,acc++ [x],rfl,rfl,H3.out⟩
        case measure=>show fV _<fV _;rw[dM,dM];exact hRl
       ·have hbd':blk d=false:=by simpa using hbd
        rw[hbd']at B2;have N1:=zH (fun W=>qp R W (by omega));have hub:=xg R;have hub1:1≤ubl R:=by rw[mU hR0];exact mh hbd'
        have k5:=lK R (ubl R) hub;have k6:=eU R (ubl R) hub;obtain⟨v2,w3,k7,h7,-⟩:=H3.out.plain (by omega) hR0 hbd' (HRd.out d hR0);have H7:=zH h7;have hdl:(R.drop (ubl R)).length<r.length:=by rw[Pi];omega
        obtain⟨u,hu⟩: ∃u,ubl R=u:=⟨_,rfl⟩;rw[hu]at N1 k5 k6 k7 H7 hdl;obtain⟨tk,htk⟩: ∃t,R.take u=t:=⟨_,rfl⟩;obtain⟨dk,hdk⟩: ∃t,R.drop u=t:=⟨_,rfl⟩;rw[htk]at k5 k7 H7;rw[hdk]at k6 H7 hdl;clear hbd hbd' hR0 HM HRd h7 hub hub1 hu htk hdk H3;go_wp2_with (first
         | (go_at_call 188;refine(B2.out _).mono ?_;rintro e w' ⟨rfl,rfl⟩)
         | (go_at_call 190;refine(N1.out _).mono ?_;rintro e w' ⟨rfl,rfl⟩))
        go_roundw
        case rel=>exact⟨dk,acc++ [x]++ [tk],rfl,rfl,H7.out⟩
        case measure=>show fV _<fV _;rw[dM,dM];exact hdl
    ·have hne:((c.toNat:Int)==34)=false:=yI h34
     have N1:=zH (fun W=>qp r W (by omega));have hub:=xg r;have hub1:1≤ubl r:=by rw[mU hr0];exact mh hbk'
     have k5:=lK r (ubl r) hub;have k6:=eU r (ubl r) hub;obtain⟨v2,w3,k7,h7,-⟩:=HX.out.plain (by omega) hr0 hbk' h34;have H7:=zH h7;have hdl:(r.drop (ubl r)).length<r.length:=by rw[Pi];omega
     obtain⟨u,hu⟩: ∃u,ubl r=u:=⟨_,rfl⟩;rw[hu]at N1 k5 k6 k7 H7 hdl;obtain⟨tk,htk⟩: ∃t,r.take u=t:=⟨_,rfl⟩;obtain⟨dk,hdk⟩: ∃t,r.drop u=t:=⟨_,rfl⟩;rw[htk]at k5 k7 H7;rw[hdk]at k6 H7 hdl;clear hbk' hr0 HM h7 hub hub1 hu htk hdk h34 HX HR;go_wp2_with (first
      | (go_at_call 188;refine(B1.out _).mono ?_;rintro e w' ⟨rfl,rfl⟩)
      | (go_at_call 190;refine(N1.out _).mono ?_;rintro e w' ⟨rfl,rfl⟩))
     go_roundw
     case rel=>exact⟨dk,acc++ [tk],rfl,rfl,H7.out⟩
     case measure=>show fV _<fV _;rw[dM,dM];exact hdl
end
def aH (e base:Nat) (W W':World):Prop:= ∀g cur,base≤g→W.heap[g]? =some (.cells cur e (0,0))→W'.heap[g]? =W.heap[g]?
theorem aH.below {e base:Nat} {W W':World} (h:Below W.heap.size W W'):aH e base W W':=fun g cur _ hg=>h.block g (O5.1 hg).1
theorem aH.low {e base B:Nat} (W:World) (hB:B<base) (j:Nat) (v:Value):aH e base W (W.setCell ⟨B,j,none⟩ v):=fun g cur hg _=>
 O8 W ⟨B,j,none⟩ v g (by simp only;omega)
theorem aH.grown {e base:Nat} {W W':World} {row:Option Nat} (hg:W.grownBy W' row) (hr: ∀r,row=some r→ ∃cur e',W.heap[r]? =some (.cells cur e' (0,0))∧e'≠e):aH e base W W':=fun g cur _ h=>
 hg.block g (O5.1 h).1 (fun e1=>by
  obtain⟨c2,e2,h2,hne⟩:=hr g e1.symm;rw[h]at h2;injection h2 with h2
  injection h2 with _ h3 _
  exact hne h3.symm)
theorem gK (W:World) (p:Addr) (n k:Nat) (h:k≠p.block):(W.freeze p n).heap[k]? =W.heap[k]? :=by
 unfold World.freeze
 split
 ·rfl
 ·simp only[Array.getElem?_modify]
  rw[Pd (fun e=>h e.symm)]
theorem ag.held {α:Type} {e n base:Nat} {f:α→List Value} {W W':World} {x:Value} {l:List α} (h:ag e n f base W x l) (hs:aH e base W W'):ag e n f base W' x l:=by
 refine⟨h.1,?_⟩;rcases h.2 with h0 | ⟨g,cap,cur,e1,hg,hh,r⟩
 ·exact .inl h0
 ·exact .inr ⟨g,cap,cur,e1,hg,(hs g cur hg hh).trans hh,r⟩
structure Fr (base B:Nat) (W W':World):Prop where
 os:W'.os=W.os
 tape:W'.tape=W.tape
 output:W'.output=W.output
 low: ∀k,k<base→k≠B→W'.heap[k]? =W.heap[k]?
 ko:KeepsOthers W W'
section
variable {base B:Nat} {W W':World}
theorem Fr.refl (W:World):Fr base B W W:=⟨rfl,rfl,rfl,fun _ _ _=>rfl,KeepsOthers.refl _⟩
theorem Fr.trans {W'':World} (h:Fr base B W W') (k:Fr base B W' W''):Fr base B W W'':=
 ⟨k.os.trans h.os,k.tape.trans h.tape,k.output.trans h.output,fun i h1 h2=>(k.low i h1 h2).trans (h.low i h1 h2),h.ko.trans k.ko⟩
theorem Fr.size (h:Fr base B W W'):W.heap.size≤W'.heap.size:=h.ko.size
theorem Fr.of_below (hb:base≤W.heap.size) (h:Below W.heap.size W W'):Fr base B W W':=
 ⟨h.os,h.tape,h.output,fun k hk _=>h.block k (by omega),h.size,fun k o hk _=>(h.block k (O5.1 hk).1).trans hk⟩
theorem Fr.set (W:World) (j:Nat) (v:Value):Fr base B W (W.setCell ⟨B,j,none⟩ v):=
 ⟨rfl,rfl,rfl,fun k _ hk=>O8 W ⟨B,j,none⟩ v k hk,KeepsOthers.setCell _ _ _⟩
theorem Fr.drew (W:World):Fr base B W W.drew:=⟨rfl,rfl,rfl,fun _ _ _=>rfl,⟨OW _,fun _ _ h _=>h⟩⟩
theorem Fr.grown {row:Option Nat} (hb:base≤W.heap.size) (hg:W.grownBy W' row) (hr: ∀r,row=some r→base≤r∧ ∃cur e,W.heap[r]? =some (.cells cur e (0,0))):Fr base B W W':=
 ⟨hg.os,hg.tape,hg.output,fun k hk _=>hg.block k (by omega) (fun e=>by have:=(hr k e.symm).1;omega),KeepsOthers.of_grownBy hg (fun j o hj ho=>by
  obtain⟨-,cur,e,h⟩:=hr j hj;rw[h]at ho
  cases ho
  rfl)⟩
theorem Fr.freeze {g:Nat} (hg:base≤g) (n:Nat) {cur:Array Value} {e:Nat} {fz:Nat×Nat} (hc:W.heap[g]? =some (.cells cur e fz)):Fr base B W (W.freeze ⟨g,0,none⟩ n):=by
 have hbf:=Lib.below_freeze (B:=base) (OX base W) (p:=⟨g,0,none⟩) hg n;refine⟨hbf.os,hbf.tape,hbf.output,fun k hk _=>hbf.block k hk,hbf.size,fun k o hk ho=>?_⟩;rw[gK]
 ·exact hk
 ·rintro rfl
  rw[hc]at hk
  cases hk
  cases ho
theorem Fr.below {D:Nat} (h:Fr base B W W') (h1:D≤base) (h2:D≤B):Below D W W':=⟨h.os,h.tape,h.output,h.size,fun k hk=>h.low k (by omega) (by omega)⟩
end
abbrev Row:=Int×List UInt8×List (List UInt8)×List UInt8
abbrev RV:=Int×List UInt8×(Option Addr×Nat×Nat)×List UInt8
def bG (a:Option Addr×Nat×Nat):Value:= .slice a.1 a.2.1 a.2.2
def ak (r:RV):List Value:=[.int .i64 r.1,.string ⟨r.2.1.toArray⟩,bG r.2.2.1,.string ⟨r.2.2.2.toArray⟩]
theorem mH (r:RV):(ak r).length=4:=rfl
theorem EU (r:RV): ∀u∈ak r,u.oneCell'=true:=by
 intro u hu;simp[ak,bG]at hu;rcases hu with rfl | rfl | rfl | rfl<;>rfl
abbrev OL (base:Nat) (W:World) (x:Value) (l:List RV):Prop:=ag 33 4 ak base W x l
structure Oq (A:Value→List (List UInt8)→Prop) (x:RV) (y:Row):Prop where
 line:x.1=y.1
 mac:x.2.1=y.2.1
 text:x.2.2.2=y.2.2.2
 args:A (bG x.2.2.1) y.2.2.1
def l9 (A:Value→List (List UInt8)→Prop) (L:List RV) (l:List Row):Prop:=L.length=l.length∧ ∀(j:Nat) x y,L[j]? =some x→l[j]? =some y→Oq A x y
theorem l9.nil (A:Value→List (List UInt8)→Prop):l9 A [] []:=⟨rfl,fun j x y h=>by simp at h⟩
theorem l9.mono {A A':Value→List (List UInt8)→Prop} {L:List RV} {l:List Row} (h:l9 A L l) (ha: ∀v a,A v a→A' v a):l9 A' L l:=
 ⟨h.1,fun j x y h1 h2=>by have:=h.2 j x y h1 h2;exact⟨this.line,this.mac,this.text,ha _ _ this.args⟩⟩
theorem l9.snoc {A:Value→List (List UInt8)→Prop} {L:List RV} {l:List Row} (h:l9 A L l) {x:RV} {y:Row} (hx:Oq A x y):l9 A (L++ [x]) (l++ [y]):=by
 refine⟨by simp[h.1],fun j x' y' h1 h2=>?_⟩
 by_cases hj:j<L.length
 ·rw[PE hj]at h1
  rw[PE (by rw[←h.1];exact hj)]at h2;exact h.2 j x' y' h1 h2
 ·rw[Ps (by omega)]at h1
  rw[Ps (by rw[←h.1];omega)]at h2;have e1:j-L.length=0:=by
   have:=(OV.1 h1).1;simp at this;omega
  rw[e1]at h1;rw[←h.1,e1]at h2;simp at h1 h2;subst h1 h2;exact hx
def bS (base:Nat) (W:World) (v:Value) (l:List Row):Prop:= ∃L:List RV,OL base W v L∧l9 (jr base W) L l
theorem bS.nil (base:Nat) (W:World):bS base W (.slice none 0 0) []:=⟨[],ag.nil _ _,l9.nil _⟩
theorem bS.held {base:Nat} {W W':World} {v:Value} {l:List Row} (h:bS base W v l) (h1:aH 33 base W W') (h2:aH 9 base W W'):bS base W' v l:=by
 obtain⟨L,hL,hA⟩:=h;exact⟨L,hL.held h1,hA.mono fun v a ha=>ha.held h2⟩
theorem bS.keep {base:Nat} {W W':World} {v:Value} {l:List Row} (h:bS base W v l) (hb:Below W.heap.size W W'):bS base W' v l:=h.held (aH.below hb) (aH.below hb)
theorem bS.len {base:Nat} {W:World} {v:Value} {l:List Row} (h:bS base W v l): ∃a cap,v= .slice a l.length cap:=by
 obtain⟨L,hL,hA⟩:=h;obtain⟨a,cap,e⟩:=(ag.sl mH hL).len;rw[hA.1]at e;exact⟨a,cap,e⟩
theorem Nl:(Tryz.prog.info? 33).map (fun i=>(i.zero,i.size,i.bytes))=some (some (.agg #[.int .i64 0,.string ⟨#[]⟩,.slice none 0 0,.string ⟨#[]⟩]),4,64):=by kernel_rfl
theorem Nk:(Tryz.prog.info? 5).map (fun i=>(i.zero,i.size,i.bytes))=some (some (.int .u8 0),1,1):=by kernel_rfl
theorem bS.push {base:Nat} {W:World} {v:Value} {l:List Row} (h:bS base W v l) (hb:base≤W.heap.size) (hl:l.length≤500000) (y:Row) (a:Option Addr×Nat×Nat) (hA:jr base W (bG a) y.2.2.1) (C:Array Value) (hC:C=(ak (y.1,y.2.1,a,y.2.2.2)).toArray):
  ∃v' w2,(Builtin.append_ #[25,25] 25 #[v,.slice (some ⟨W.heap.size,0,none⟩) 1 1]).run Tryz.prog (W.alloc (.cells C 33))= .ok v' w2∧bS base w2 v' (l++ [y])∧
   (W.alloc (.cells C 33)).grownBy w2 v.ownBlock∧(∀r,v.ownBlock=some r→base≤r∧r<W.heap.size∧ ∃cur,(W.alloc (.cells C 33)).heap[r]? =some (.cells cur 33 (0,0))):=by
 obtain⟨L,hL,hI⟩:=h;obtain⟨i0,hi,hz0,hz1,hz2⟩:=PU Nl;have b1:=af W (.cells C 33);have h1:=hL.keep b1;have hu:Fs 4 ak (W.alloc (.cells C 33)) (.slice (some ⟨W.heap.size,0,none⟩) 1 1) [(y.1,y.2.1,a,y.2.2.2)]:=by
  have:=bR mH W 33 [(y.1,y.2.1,a,y.2.2.2)];rw[dS,←hC]at this;exact this
 obtain⟨v',w2,hrun,ho,hg,hq⟩:=lX mH EU (by decide) Tryz.underlying25 hi hz0 hz1 hz2 rfl (by decide) h1 hu (by simp;omega) (by rw[hI.1];simp;omega);have hrow: ∀r,v.ownBlock=some r→base≤r∧ ∃cur,(W.alloc (.cells C 33)).heap[r]? =some (.cells cur 33 (0,0)):=fun r hr=>h1.ty hr
 refine⟨v',w2,hrun,⟨L++ [(y.1,y.2.1,a,y.2.2.2)],ho,?_⟩,hg,fun r hr=>⟨(hrow r hr).1,?_,(hrow r hr).2⟩⟩
 ·have hs:aH 9 base (W.alloc (.cells C 33)) w2:=aH.grown hg (fun r hr=>by
   obtain⟨-,cur,e⟩:=hrow r hr;exact⟨cur,_,e,by decide⟩)
  exact(hI.mono fun v a ha=>(ha.keep b1).held hs).snoc ⟨rfl,rfl,rfl,(hA.keep b1).held hs⟩
 ·obtain⟨-,cur,e⟩:=hL.ty hr
  exact(O5.1 e).1
theorem aL.push {base:Nat} {W:World} {v:Value} {l:List Dg} (h:aL base W v l) (hb:base≤W.heap.size) (hl:l.length≤500000) (y:Dg) (C:Array Value) (hC:C=(kT y).toArray):
  ∃v' w2,(Builtin.append_ #[29,29] 29 #[v,.slice (some ⟨W.heap.size,0,none⟩) 1 1]).run Tryz.prog (W.alloc (.cells C 46))= .ok v' w2∧aL base w2 v' (l++ [y])∧
   (W.alloc (.cells C 46)).grownBy w2 v.ownBlock∧(∀r,v.ownBlock=some r→base≤r∧r<W.heap.size∧ ∃cur,(W.alloc (.cells C 46)).heap[r]? =some (.cells cur 46 (0,0))):=by
 obtain⟨i0,hi,hz0,hz1,hz2⟩:=PU IX;have b1:=af W (.cells C 46);have h1:=h.keep b1;have hu:Fs 3 kT (W.alloc (.cells C 46)) (.slice (some ⟨W.heap.size,0,none⟩) 1 1) [y]:=by
  have:=bR ai W 46 [y];rw[dS,←hC]at this;exact this
 obtain⟨v',w2,hrun,ho,hg,hq⟩:=lX ai wK (by decide) Tryz.underlying29 hi hz0 hz1 hz2 rfl (by decide) h1 hu (by simp;omega) (by simp;omega);refine⟨v',w2,hrun,ho,hg,fun r hr=>⟨(h1.ty hr).1,?_,(h1.ty hr).2⟩⟩;obtain⟨-,cur,e⟩:=h.ty hr;exact(O5.1 e).1
def nS (c:UInt8):List Value:=[.int .u8 (c.toNat:Int)]
theorem Gz (c:UInt8):(nS c).length=1:=rfl
abbrev L6 (base:Nat) (W:World) (x:Value) (l:List UInt8):Prop:=ag 5 1 nS base W x l
theorem iR: ∀l:List UInt8,aA nS l=Lib.byteCells l
 | []=>rfl
 | c::t=>by
  rw[dZ,iR t];rfl
theorem aH.trans {e base:Nat} {a b c:World} (h:aH e base a b) (k:aH e base b c):aH e base a c:=fun g cur h1 h2=>
 (k g cur h1 ((h g cur h1 h2).trans h2)).trans (h g cur h1 h2)
structure RSk0 (base B:Nat) (W:World) (ln fi:Int) (va vb vr vd:Value) (rows:List Row) (dg:List Dg):Prop where
 lt:B<base
 sz:base≤W.heap.size
 blk:Blk W B 131 [.int .i64 ln,.int .i64 fi,va,vb,vr,vd]
 rw:bS base W vr rows
 dg:aL base W vd dg
structure RSk (base B:Nat) (W:World) (ln fi:Int) (va vb vr vd:Value) (tx:List UInt8) (rows:List Row) (dg:List Dg):Prop extends RSk0 base B W ln fi va vb vr vd rows dg where
 ad:va= .pointer none∨va= .pointer (some ⟨B,2,none⟩)
 bf:L6 base W vb tx
 bn:tx=[]→vb= .slice none 0 0
section
variable {base B:Nat} {W W':World} {ln fi:Int} {va vb vr vd:Value} {tx:List UInt8} {rows:List Row} {dg:List Dg}
theorem RSk0.keep (h:RSk0 base B W ln fi va vb vr vd rows dg) (hb:Below W.heap.size W W'):RSk0 base B W' ln fi va vb vr vd rows dg:=
 ⟨h.lt,Pp h.sz hb.size,h.blk.below hb,h.rw.keep hb,h.dg.keep hb⟩
theorem RSk.keep (h:RSk base B W ln fi va vb vr vd tx rows dg) (hb:Below W.heap.size W W'):RSk base B W' ln fi va vb vr vd tx rows dg:=
 ⟨h.toRSk0.keep hb,h.ad,h.bf.keep hb,h.bn⟩
theorem RSk0.set (h:RSk0 base B W ln fi va vb vr vd rows dg) (j:Nat) (u:Value) {ln' fi':Int} {va' vb':Value} (hl:[.int .i64 ln,.int .i64 fi,va,vb,vr,vd].set j u=[.int .i64 ln',.int .i64 fi',va',vb',vr,vd]):
  RSk0 base B (W.setCell ⟨B,j,none⟩ u) ln' fi' va' vb' vr vd rows dg:=
 ⟨h.lt,by rw[dz];exact h.sz,hl▸h.blk.set j u,h.rw.held (aH.low W h.lt j u) (aH.low W h.lt j u),h.dg.held (aH.low W h.lt j u)⟩
theorem RSk.setNum (h:RSk base B W ln fi va vb vr vd tx rows dg) (j:Nat) (u:Value) {ln' fi':Int} (hl:[.int .i64 ln,.int .i64 fi,va,vb,vr,vd].set j u=[.int .i64 ln',.int .i64 fi',va,vb,vr,vd]):
  RSk base B (W.setCell ⟨B,j,none⟩ u) ln' fi' va vb vr vd tx rows dg:=
 ⟨h.toRSk0.set j u hl,h.ad,h.bf.held (aH.low W h.lt j u),h.bn⟩
theorem RSk.own (h:RSk base B W ln fi va vb vr vd tx rows dg):RSk base B (W.setCell ⟨B,2,none⟩ (.pointer (some ⟨B,2,none⟩))) ln fi (.pointer (some ⟨B,2,none⟩)) vb vr vd tx rows dg:=
 ⟨h.toRSk0.set 2 _ rfl,.inr rfl,h.bf.held (aH.low W h.lt 2 _),h.bn⟩
theorem RSk0.shape (h:RSk0 base B W ln fi va vb vr vd rows dg):W.shape? B=some (131,6):=by
 have hb:W.heap[B]? =some (.cells #[.int .i64 ln,.int .i64 fi,va,vb,vr,vd] 131 (0,0)):=h.blk;simp[World.shape?,hb]
theorem RSk.grow (h:RSk base B W ln fi va vb vr vd tx rows dg) (hg:W.grownBy W' vb.ownBlock) {vb':Value} {tx':List UInt8} (hb:L6 base W' vb' tx') (hn:tx'=[]→vb'= .slice none 0 0):
  Blk W' B 131 [.int .i64 ln,.int .i64 fi,va,vb,vr,vd]∧RSk base B (W'.setCell ⟨B,3,none⟩ vb') ln fi va vb' vr vd tx' rows dg∧Fr base B W (W'.setCell ⟨B,3,none⟩ vb'):=by
 have hlt:B<W.heap.size:=(O5.1 h.blk).1;have hne:vb.ownBlock≠some B:=fun e=>by have:=(h.bf.ty e).1;have:=h.lt;omega
 have hb0:Blk W' B 131 [.int .i64 ln,.int .i64 fi,va,vb,vr,vd]:=(hg.block B hlt (fun e=>hne e.symm)).trans h.blk;have s1:aH 33 base W W':=aH.grown hg (fun r hr=>by obtain⟨-,cur,e⟩:=h.bf.ty hr;exact⟨cur,_,e,by decide⟩);have s2:aH 9 base W W':=aH.grown hg (fun r hr=>by obtain⟨-,cur,e⟩:=h.bf.ty hr;exact⟨cur,_,e,by decide⟩);have s3:aH 46 base W W':=aH.grown hg (fun r hr=>by obtain⟨-,cur,e⟩:=h.bf.ty hr;exact⟨cur,_,e,by decide⟩);have h0:RSk0 base B W' ln fi va vb vr vd rows dg:=⟨h.lt,Pp h.sz hg.size,hb0,h.rw.held s1 s2,h.dg.held s3⟩;refine⟨hb0,⟨h0.set 3 vb' rfl,h.ad,hb.held (aH.low W' h.lt 3 vb'),hn⟩,(Fr.grown h.sz hg (fun r hr=>?_)).trans (Fr.set _ _ _)⟩;obtain⟨q1,cur,e⟩:=h.bf.ty hr;exact⟨q1,cur,_,e⟩
end
theorem Nn:(Tryz.prog.info? 129).map (·.size)=some 2:=by kernel_rfl
theorem M7:liesAt Tryz.prog Tryz.prog.depth 131 (6 / Tryz.prog.cellsOf 131) 2 129 1=true:=by kernel_rfl
section
variable {base B:Nat} {ln fi:Int} {va vb vr vd:Value} {tx:List UInt8} {rows:List Row} {dg:List Dg}
theorem Da (W:World) (h:RSk base B W ln fi va vb vr vd tx rows dg):
  Calls Tryz.prog 143 #[.pointer (some ⟨B,2,none⟩)] W fun e W'=>e= .returned (.tuple #[])∧RSk base B W' ln fi (.pointer (some ⟨B,2,none⟩)) vb vr vd tx rows dg∧Fr base B W W':=by
 obtain⟨j,hj,hjs⟩:=Option.map_eq_some_iff.1 Nn;have hsh:=h.shape;have c2:=h.blk.cell 2;have f2:=h.blk.frozen (j:=2) (by simp);rcases h.ad with rfl | rfl
 ·have c2':W.cell? ⟨B,2,none⟩=some (.pointer none):=c2
  have HO:=zH (And.intro h.own (Fr.set (base:=base) (B:=B) W 2 (.pointer (some ⟨B,2,none⟩))));have hv1:=Lib.run_to_unsafe W ⟨B,2,none⟩ Tryz.underlying127 Tryz.underlying229 hj (by rw[hjs];decide) hsh (by show 2<6;omega);have hv2:=Lib.run_from_unsafe W ⟨B,2,none⟩ Tryz.underlying229 Tryz.underlying127 hj hsh M7;clear h c2 hsh;go_enter Tryz.func143,Tryz.ntmps143
  go_wp2_with fail
  rw[run_callFunc_extern Tryz.func182 (by kernel_rfl) (by kernel_rfl) (by kernel_rfl) (e:=Extern.AbiNoEscape.same) (by kernel_rfl)];rw[Lib.run_noEscape];simp only[Result.andThen];rw[Oper.upon_value];go_wp2_with fail
  go_end0;exact⟨rfl,HO.out⟩
 ·have c2':W.cell? ⟨B,2,none⟩=some (.pointer (some ⟨B,2,none⟩)):=c2
  have HO:=zH (And.intro h (Fr.refl (base:=base) (B:=B) W));have hq:=Lib.run_neq_ptr_same (P:=Tryz.prog) W ⟨B,2,none⟩ Tryz.underlying127 hj;clear h c2 hsh f2;go_enter Tryz.func143,Tryz.ntmps143
  go_wp2_with fail
  go_end0;exact⟨rfl,HO.out⟩
noncomputable def JV (args:Array Value):Sem Next:=do pure (.value (←Builtin.append_ #[104,9] 104 args))
theorem vF (cs:Array Bool) (args:Array Value):builtin .append #[104,9] 104 cs args=JV args:=rfl
theorem GH {W:World} (h:RSk base B W ln fi va vb vr vd tx rows dg) (s:List UInt8) (hl:tx.length+s.length≤1000000):
  ∃vb' w',(JV #[vb,.string ⟨s.toArray⟩]).run Tryz.prog W= .ok (.value vb') w'∧L6 base w' vb' (tx++s)∧W.grownBy w' vb.ownBlock∧(tx++s=[]→vb'= .slice none 0 0)∧ ∃a n c,vb'= .slice a n c:=by
 obtain⟨i0,hi,hz0,hz1,hz2⟩:=PU Nk;have hb:W.ownsRow base 5 1 vb tx.length (Lib.byteCells tx):=by
  have q:W.ownsRow base 5 1 vb tx.length (aA nS tx):=h.bf;rw[iR]at q;exact q
 have hsz:=aO s;obtain⟨v',w',hr,ho,hg,hn⟩:=Lib.run_append_own_string (P:=Tryz.prog) (w:=W) base 104 9 104 5 i0 Tryz.underlying104 Tryz.underlying9 hi hz0 hz1 hz2 vb tx.length (Lib.byteCells tx) hb ⟨s.toArray⟩ (by rw[hsz];unfold maxLen;omega) (by rw[hsz];omega) h.sz;have hc:Lib.byteCells tx++Lib.strCells ⟨s.toArray⟩=aA nS (tx++s):=by
  rw[di,iR,iR];rfl
 have ho':L6 base w' v' (tx++s):=by
  show w'.ownsRow base 5 1 v' (tx++s).length (aA nS (tx++s));rw[←hc,Pb,←hsz];exact ho
 refine⟨v',w',?_,ho',hg,fun he=>?_,?_⟩
 ·unfold JV
  simp only[Qh,Qm,PT,hr]
 ·obtain⟨h1,h2⟩:=List.append_eq_nil_iff.1 he
  exact hn.2 ⟨h.bn h1,by rw[hsz,h2];rfl⟩
 ·obtain⟨a,c,e⟩:=(ag.sl Gz ho').len
  exact⟨_,_,_,e⟩
attribute [local go_sem ↓ high] vF
theorem jX (W:World) (h:RSk base B W ln fi va vb vr vd tx rows dg) (s:List UInt8) (hl:tx.length+s.length≤1000000):
  Calls Tryz.prog 110 #[.pointer (some ⟨B,2,none⟩),.string ⟨s.toArray⟩] W fun e W'=> ∃va' vb',e= .returned (.tuple #[.int .i64 (s.length:Int),.nilIface])∧RSk base B W' ln fi va' vb' vr vd (tx++s) rows dg∧Fr base B W W':=by
 have HC:=zH (Da W h);have hsz:=aO s;clear h;go_enter Tryz.func110,Tryz.ntmps110
 go_wp2_with fail
 refine HC.out.mono ?_;rintro e W1 ⟨rfl,h1,q1⟩;have c3:=h1.blk.cell 3;have c3':W1.cell? ⟨B,3,none⟩=some vb:=c3;obtain⟨vb',w2,k1,ho,hg,hn,a,n,c,rfl⟩:=GH h1 s hl;obtain⟨b2,r2,g2⟩:=h1.grow hg ho hn;have d3:=b2.cell 3;have d3':w2.cell? ⟨B,3,none⟩=some vb:=d3;have f3:=b2.frozen (j:=3) (by simp);have R2:=zH (And.intro r2 (q1.trans g2));clear HC h1 q1 c3 ho hg hn b2 r2 g2 d3;go_wp2_with fail
 go_ret2
 exact⟨_,_,rfl,R2.out⟩
theorem BO (W:World) (h:RSk0 base B W ln fi va vb vr vd rows dg):
  Calls Tryz.prog 112 #[.pointer (some ⟨B,2,none⟩)] W fun e W'=>e= .returned (.tuple #[])∧RSk base B W' ln fi (.pointer none) (.slice none 0 0) vr vd [] rows dg∧Fr base B W W'∧aH 33 base W W':=by
 have c2:W.cell? ⟨B,2,none⟩=some va:=h.blk.cell 2;have f2:=h.blk.frozen (j:=2) (by simp);have h1:=h.set 2 (.pointer none) rfl;have c3:(W.setCell ⟨B,2,none⟩ (.pointer none)).cell? ⟨B,3,none⟩=some vb:=h1.blk.cell 3;have f3:=h1.blk.frozen (j:=3) (by simp);have h2:=h1.set 3 (.slice none 0 0) rfl;have HO:Hid (RSk base B ((W.setCell ⟨B,2,none⟩ (.pointer none)).setCell ⟨B,3,none⟩ (.slice none 0 0)) ln fi (.pointer none) (.slice none 0 0) vr vd [] rows dg∧Fr base B W ((W.setCell ⟨B,2,none⟩ (.pointer none)).setCell ⟨B,3,none⟩ (.slice none 0 0))∧aH 33 base W ((W.setCell ⟨B,2,none⟩ (.pointer none)).setCell ⟨B,3,none⟩ (.slice none 0 0))):=
  zH ⟨⟨h2,.inl rfl,ag.nil _ _,fun _=>rfl⟩,(Fr.set _ _ _).trans (Fr.set _ _ _),aH.trans (aH.low W h.lt 2 _) (aH.low _ h.lt 3 _)⟩
 have c3':W.cell? ⟨B,3,none⟩=some vb:=h.blk.cell 3;have f3':=h.blk.frozen (j:=3) (by simp);clear h h1 h2;go_enter Tryz.func112,Tryz.ntmps112
 go_wp2_with fail
 go_end0;exact⟨rfl,HO.out⟩
theorem zt (W:World) (h:RSk base B W ln fi va vb vr vd tx rows dg):
  Calls Tryz.prog 111 #[.pointer (some ⟨B,2,none⟩)] W fun e W'=>e= .returned (.string ⟨tx.toArray⟩)∧RSk0 base B W' ln fi va vb vr vd rows dg∧Fr base B W W'∧aH 33 base W W':=by
 have c3:W.cell? ⟨B,3,none⟩=some vb:=h.blk.cell 3
 by_cases h0:tx=[]
 ·subst h0
  have hvb:=h.bn rfl;subst hvb;have hSD:(Builtin.unsafeSliceData_ #[104] 196 #[.slice none 0 0]).run Tryz.prog W.drew= .ok (.pointer none) W.drew:=rfl;have hUS:(Builtin.unsafeString_ #[196,3] 9 #[.pointer none,.int .i64 0]).run Tryz.prog W.drew= .ok (.string ⟨#[]⟩) W.drew:=Lib.run_unsafeString_none W.drew _ _ _ none;have HO:Hid (RSk0 base B W.drew ln fi va (.slice none 0 0) vr vd rows dg∧Fr base B W W.drew∧aH 33 base W W.drew):=zH ⟨h.toRSk0.keep (OX _ _).drew,Fr.drew W,fun _ _ _ _=>rfl⟩;clear h;go_enter Tryz.func111,Tryz.ntmps111
  go_wp2_with fail
  go_region
  all_goals
   go_wp2_with fail
   go_ret;exact⟨rfl,HO.out⟩
 ·have hb:W.ownsRow base 5 1 vb tx.length (Lib.byteCells tx):=by
   have q:W.ownsRow base 5 1 vb tx.length (aA nS tx):=h.bf;rw[iR]at q;exact q
  have hl0:tx.length≠0:=by simpa using h0
  obtain⟨g,cap,cur,rfl,hbg,hg,hnc,hcm,hcs,htake⟩: ∃g cap cur,vb= .slice (some ⟨g,0,none⟩) tx.length cap∧base≤g∧W.heap[g]? =some (.cells cur 5 (0,0))∧tx.length≤cap∧cap≤maxLen∧cur.size=cap*1∧cur.toList.take (tx.length*1)=Lib.byteCells tx:=by
   rcases hb.2 with⟨_,hz⟩| ⟨g,cap,cur,hv,r⟩
   ·exact absurd hz hl0
   ·exact⟨g,cap,cur,hv,r⟩
  have hSD:(Builtin.unsafeSliceData_ #[104] 196 #[.slice (some ⟨g,0,none⟩) tx.length cap]).run Tryz.prog W.drew= .ok (.pointer (some ⟨g,0,none⟩)) W.drew:=
   Lib.run_unsafeSliceData_row _ _ _ _ _ _ (by omega)
  have hUS:(Builtin.unsafeString_ #[196,3] 9 #[.pointer (some ⟨g,0,none⟩),.int .i64 (tx.length:Int)]).run Tryz.prog W.drew= .ok (.string ⟨tx.toArray⟩) (W.drew.freeze ⟨g,0,none⟩ tx.length):=by
   refine Lib.run_unsafeString_row W.drew 196 3 9 5 Tryz.underlying196 (by kernel_rfl) g cur.size (by have hg':W.drew.heap[g]? =some (.cells cur 5 (0,0)):=hg;simp[World.shape?,hg']) tx h0 (by omega) (by unfold maxLen at hcm;omega) ?_;intro j x hx;have hbd:W.drew.ownsRow base 5 1 (.slice (some ⟨g,0,none⟩) tx.length cap) tx.length (Lib.byteCells tx):=hb;have:=World.ownsRow.cells (g:=g) hbd rfl j (.int .u8 x.toNat) (by simp[Lib.byteCells,hx]);exact this
  have s1:aH 33 base W.drew (W.drew.freeze ⟨g,0,none⟩ tx.length):=fun k cu hk hc=>gK _ _ _ _ (by
   intro e;rw[show k=g from e]at hc;have hg':W.drew.heap[g]? =some (.cells cur 5 (0,0)):=hg;rw[hg']at hc;cases hc)
  have s2:aH 9 base W.drew (W.drew.freeze ⟨g,0,none⟩ tx.length):=fun k cu hk hc=>gK _ _ _ _ (by
   intro e;rw[show k=g from e]at hc;have hg':W.drew.heap[g]? =some (.cells cur 5 (0,0)):=hg;rw[hg']at hc;cases hc)
  have s3:aH 46 base W.drew (W.drew.freeze ⟨g,0,none⟩ tx.length):=fun k cu hk hc=>gK _ _ _ _ (by
   intro e;rw[show k=g from e]at hc;have hg':W.drew.heap[g]? =some (.cells cur 5 (0,0)):=hg;rw[hg']at hc;cases hc)
  have h1:=h.toRSk0.keep (OX W.heap.size W).drew;have HO:Hid (RSk0 base B (W.drew.freeze ⟨g,0,none⟩ tx.length) ln fi va (.slice (some ⟨g,0,none⟩) tx.length cap) vr vd rows dg∧Fr base B W (W.drew.freeze ⟨g,0,none⟩ tx.length)∧aH 33 base W (W.drew.freeze ⟨g,0,none⟩ tx.length)):=by
   have hlt:=h.lt;refine zH ⟨⟨h1.lt,?_,(gK _ _ _ _ (by simp only;omega)).trans h1.blk,h1.rw.held s1 s2,h1.dg.held s3⟩,(Fr.drew W).trans (Fr.freeze hbg _ hg),fun k cu h1 h2=>s1 k cu h1 h2⟩;exact Pp h1.sz (Lib.below_freeze (OX base W.drew) (p:=⟨g,0,none⟩) hbg tx.length).size
  obtain⟨m,hm⟩: ∃m,tx.length=m:=⟨_,rfl⟩;rw[hm]at hSD hUS c3 HO;have HML:=zH hm;clear h h1 hb s1 s2 s3 hl0 hnc htake hg hm;go_enter Tryz.func111,Tryz.ntmps111
  go_wp2_with fail
  go_region
  all_goals
   go_wp2_with fail
   go_ret;exact⟨rfl,by rw[HML.out];exact HO.out⟩
end
section
open Go.RowKit Go.Lib
theorem IY (c:Int) (h:128≤c) (hv:vld c=true): ∃(E:List UInt8) (m:Nat) (y:UInt8),Utf8.encode c=⟨E.toArray⟩∧E.length=m+1∧1≤m∧m≤3∧E[m]? =some y∧128≤y.toNat:=by
 have he:=encode_eq c;have key: ∃(m:Nat) (y:UInt8),(encodeRune c).length=m+1∧1≤m∧m≤3∧(encodeRune c)[m]? =some y∧128≤y.toNat:=by
  simp only[vld,PQ]at hv;have hy:128≤((128+c % 64).toNat.toUInt8).toNat:=by
   rw[show(128+c % 64).toNat.toUInt8=UInt8.ofNat (128+c % 64).toNat from rfl,UInt8.toNat_ofNat'];omega
  unfold encodeRune
  by_cases c2:c<2048
  ·rw[encodeRuneZ_two (by omega) (by omega)]
   exact⟨1,_,rfl,by omega,by omega,rfl,hy⟩
  ·by_cases c3:c<65536
   ·rw[encodeRuneZ_three (by omega)]
    exact⟨2,_,rfl,by omega,by omega,rfl,hy⟩
   ·rw[encodeRuneZ_four (by omega) (by omega)]
    exact⟨3,_,rfl,by omega,by omega,rfl,hy⟩
 obtain⟨m,y,r⟩:=key;refine⟨encodeRune c,m,y,?_,r⟩;rw[←he]
theorem wrap_i64 {q:Int} (h0:0≤q) (h1:q≤1000000000):IntKind.i64.wrap q=q:=by
 simp[IntKind.wrap,IntKind.bits,IntKind.signed];omega
theorem o8: ∀(l:List UInt8) (c:UInt8),c∉l→Lib.indexByte l c= -1
 | [],_,_=>rfl
 | b::l,c,h=>by
  simp only[P6,not_or]at h;unfold Lib.indexByte;rw[o8 l c h.2];have:(b==c)=false:=by simpa using Rh h.1
  rw[this];rfl
theorem vo (s:List UInt8) (hs: ∀(j:Nat) x,s[j]? =some x→x.toNat<128) (w:World):
  Calls Tryz.prog 186 #[.string ⟨s.toArray⟩,.int .i32 65533] w fun e w'=>e= .returned (.int .i64 (-1))∧Below w.heap.size w w':=by
 have HS:=zH hs;have hsz:=aO s;clear hs;go_enter Tryz.func186,Tryz.ntmps186
 go_wp2_with fail
 go_loopw [5,6] (fun i c wr=> ∃pos:Nat,wr=w.iter ⟨s.toArray⟩ pos∧pos≤s.length) (fun _ _ wr=>s.length-wr.iterPos w.heap.size)
 case atStart=>exact⟨0,rfl,by omega⟩
 case round=>
  obtain⟨pos,rfl,hp⟩:=hrel
  by_cases hlt:pos<s.length
  ·have hnx: ∀ty,(Instr.next (.pointer (some ⟨w.heap.size,0,none⟩)) true ty).run Tryz.prog (w.iter ⟨s.toArray⟩ pos)= .ok (.tuple #[.bool true,.int .i64 (pos:Int),.int .i32 (s[pos].toNat:Int)]) (w.iter ⟨s.toArray⟩ (pos+1)):=fun ty=>by
    have hx:=HS.out pos s[pos] (OU hlt);have h:=run_next_ascii (P:=Tryz.prog) w ⟨s.toArray⟩ pos ty (by rw[hsz];exact hlt) (by
     show(s.toArray[pos]'_).toNat<128
     simpa using hx)
    exact h
   have hne:((s[pos].toNat:Int)==65533)=false:=by
    have:=UInt8.toNat_lt s[pos];rw[QJ];omega
   obtain⟨x,hx⟩: ∃x:Int,(s[pos].toNat:Int)=x:=⟨_,rfl⟩;rw[hx]at hnx hne;clear hx HS;go_wp2_with fail
   go_roundw
   case rel=>exact⟨pos+1,rfl,by omega⟩
   case measure=>simp;omega
  ·have hnx:=fun ty=>run_next_end (P:=Tryz.prog) w ⟨s.toArray⟩ pos ty (by rw[hsz];omega)
   clear HS;go_wp2_with fail
   go_ret;exact⟨rfl,(OX _ _).alloc (OW _) _⟩
noncomputable def Ml (x lo:Value):Sem Value:=Instr.slice 9 x (some lo) none none
theorem qy (x lo:Value):Instr.slice 9 x (some lo) none none=Ml x lo:=rfl
attribute [local go_sem ↓ high] qy
theorem ut (s:List UInt8) (hs: ∀(j:Nat) x,s[j]? =some x→x.toNat<128) (c:Int) (h0:128≤c) (h1:c≤1114111) (hodd:c≠65533) (w:World):
  Calls Tryz.prog 186 #[.string ⟨s.toArray⟩,.int .i32 c] w fun e w'=>e= .returned (.int .i64 (-1))∧Below w.heap.size w w':=by
 have V1:=zH (fun W=>GN c W);have hc0:(0:Int)≤c:=by omega
 have hc1: ¬c<128:=by omega
 have hc2:(c==65533)=false:=by simpa using hodd
 have hsz:=aO s
 cases hv:vld c
 ·rw[hv]at V1
  clear hv hs;go_enter Tryz.func186,Tryz.ntmps186
  go_wp2_with (go_at_call 214;refine(V1.out _).mono ?_;rintro e w' ⟨rfl,rfl⟩)
  go_ret;exact⟨rfl,OX _ _⟩
 ·rw[hv]at V1
  obtain⟨E,m,y,hE,hEl,hm1,hm3,hEy,hy⟩:=IY c h0 hv;have HS:=zH hs;clear hs;go_enter Tryz.func186,Tryz.ntmps186
  go_wp2_with (go_at_call 214;refine(V1.out _).mono ?_;rintro e w' ⟨rfl,rfl⟩)
  have hconv: ∀W,(convert 21 9 (.int .i32 c)).run Tryz.prog W= .ok (.string ⟨E.toArray⟩) W:=fun W=>by
   rw[run_convert_int_string W 21 9 .i32 c (by rw[Tryz.underlying21];rfl) Tryz.underlying9,hE]
  have hEz:=aO E;rw[hEl]at hEz;go_step3
  go_wp2_with fail
  go_loopw [9,10] (fun i f wr=>wr=w∧i= .int .i64 (m:Int)∧f= .int .i64 0) (fun _ _ _=>0)
  case atStart=>exact⟨rfl,by go_num,rfl⟩
  case round=>
   obtain⟨rfl,rfl,rfl⟩:=hrel
   by_cases hlt:m<s.length
   ·obtain⟨x,hx⟩: ∃x,s[m]? =some x:=⟨s[m],OU hlt⟩
    have hx1:=HS.out m x hx;have k1:=fe s m x hx;have k2:=fe E m y hEy;have k3: ∀W,(Ml (.string ⟨s.toArray⟩) (.int .i64 ((m+1:Nat):Int))).run Tryz.prog W= .ok (.string ⟨(s.drop (m+1)).toArray⟩) W:=eU s (m+1) (by omega);have c3:((m+1:Nat):Int)=(m:Int)+1:=by omega
    rw[c3]at k3;have hne:((x.toNat:Int) != (y.toNat:Int))=true:=by
     rw[bne_iff_ne];omega
    have hmem:y∉s.drop (m+1):=by
     intro hm;obtain⟨j,hj⟩:=Qw.1 hm;rw[Qn]at hj;have:=HS.out _ y hj;omega
    have I1:Hid (∀W,Calls Tryz.prog 213 #[.string ⟨(s.drop (m+1)).toArray⟩,.int .u8 (y.toNat:Int)] W fun e w'=>e= .returned (.int .i64 (-1))∧w'=W):=zH fun W=>by
     have h:=vv (s.drop (m+1)) (y.toNat:Int) W;have e:((y.toNat:Int)).toNat.toUInt8=y:=by simp
     rw[e,o8 _ _ hmem]at h;exact h
    obtain⟨ds,hds⟩: ∃ds,s.drop (m+1)=ds:=⟨_,rfl⟩;rw[hds]at k3 I1;clear hx hmem hds HS hx1 c3;have hlt':(m:Int)<(s.length:Int):=by omega
    have hw:IntKind.i64.wrap ((m:Int)+1)=(m:Int)+1:=wrap_i64 (by omega) (by omega);go_wp2_with fail
    go_step3
    go_wp2_with fail
    go_quiet (fail)
    generalize hwd:World.drewN wr _=wd;have HB:Hid (Below wr.heap.size wr wd):=zH (by rw[←hwd];exact below_drewN (OX _ _) _);clear hwd;go_wp2_with fail
    go_quiet (first | (go_at_call 213;exact Calls.quiet_of_same (I1.out _)))
    go_wp2_with fail
    try rw[QA]
    repeat(change Exit.noGoto _ Exit.ret _ _;rw[QA])
    go_ret;exact⟨rfl,below_drewN HB.out _⟩
   ·clear HS
    go_wp2_with fail
    try rw[QA]
    go_ret;exact⟨rfl,OX _ _⟩
end
section
open Go.RowKit Go.Lib
theorem CB {s:List UInt8} {pos:Nat} {x:UInt8} (hx:s[pos]? =some x) (h:128≤x.toNat):
  (128≤(Utf8.decode ⟨s.toArray⟩ pos).1∧(Utf8.decode ⟨s.toArray⟩ pos).1≤1114111)∧1≤(Utf8.decode ⟨s.toArray⟩ pos).2∧pos+(Utf8.decode ⟨s.toArray⟩ pos).2≤s.length∧ ∀j y,pos≤j→j<pos+(Utf8.decode ⟨s.toArray⟩ pos).2→s[j]? =some y→128≤y.toNat:=by
 obtain⟨hp,hx'⟩:=OV.1 hx;have e:=decodeL_drop ⟨s.toArray⟩ pos;have ed:(⟨s.toArray⟩:ByteArray).data.toList=s:=rfl;rw[ed]at e;rw[←e];have hne:s.drop pos≠ []:=by
  intro h0;have:=Pj List.length h0;rw[Pi,Pm]at this;omega
 have hle:=decodeL_le _ hne;rw[Pi]at hle;have hr:=decodeL_rune (s.drop pos);have hw:=decodeL_width (s.drop pos);have g0:(s.drop pos).getD 0 0=x:=by rw[List.getD,Qn,PW,hx];rfl
 have gi: ∀i y,s[pos+i]? =some y→(s.drop pos).getD i 0=y:=fun i y hy=>by rw[List.getD,Qn,hy];rfl
 have hs:=decodeN_shape (s.drop pos).length ((s.drop pos).getD 0 0).toNat ((s.drop pos).getD 1 0).toNat ((s.drop pos).getD 2 0).toNat ((s.drop pos).getD 3 0).toNat;rw[←decodeL_N,g0]at hs;have h256:=UInt8.toNat_lt x;refine⟨⟨?_,hr⟩,hw,by omega,fun j y h1 h2 hy=>?_⟩
 ·rcases hs with⟨a,-⟩| ⟨a,b,c,d,f⟩| ⟨a,b,c,d,f,g,f'⟩| ⟨a,b,c,d,f,g,i,f'⟩| f
  ·omega
  ·rw[f];simp only;omega
  ·rw[f'];simp only;omega
  ·rw[f'];simp only;omega
  ·rw[f];simp
 ·obtain⟨i,rfl⟩: ∃i,j=pos+i:=⟨j-pos,by omega⟩
  have hg:=gi i y hy;have h2':i<(decodeL (s.drop pos)).2:=by omega
  by_cases hi0:i=0
  ·subst hi0
   rw[PW,hx]at hy
   cases hy
   exact h
  ·rcases hs with⟨a,-⟩| ⟨a,b,c,d,f⟩| ⟨a,b,c,d,f,g,f'⟩| ⟨a,b,c,d,f,g,i',f'⟩| f
   ·omega
   ·rw[f]at h2'
    simp only at h2';obtain rfl:i=1:=by omega
    rw[hg]at c;omega
   ·rw[f']at h2'
    simp only at h2';rcases(by omega:i=1∨i=2)with rfl | rfl
    ·rw[hg]at c;omega
    ·rw[hg]at d;omega
   ·rw[f']at h2'
    simp only at h2';rcases(by omega:i=1∨i=2∨i=3)with rfl | rfl | rfl
    ·rw[hg]at c;omega
    ·rw[hg]at d;omega
    ·rw[hg]at f;omega
   ·rw[f]at h2'
    simp only at h2';omega
theorem BU {s cs:List UInt8} {pos k:Nat} (h:NoAny s cs pos) (ha: ∀(j:Nat) b,cs[j]? =some b→b.toNat<128) (hb: ∀j y,pos≤j→j<pos+k→s[j]? =some y→128≤y.toNat):NoAny s cs (pos+k):=fun j b hj hjb=>by
 by_cases hlt:j<pos
 ·exact h j b hlt hjb
 ·have h1:=hb j b (by omega) hj hjb
  cases hc:cs.contains b
  ·rfl
  ·exfalso
   have hm:b∈cs:=by simpa using hc
   obtain⟨i,hi⟩:=Qw.1 hm;have:=ha i b hi;omega
attribute [local go_sem ↓ high] qy
theorem yz (s cs:List UInt8) (w:World) (h2:2≤cs.length) (hcs:cs.length≤1000) (hs:s.length≤1000000) (ha: ∀(j:Nat) b,cs[j]? =some b→b.toNat<128):
  Calls Tryz.prog 149 #[.string ⟨s.toArray⟩,.string ⟨cs.toArray⟩] w fun e w'=>e= .returned (.int .i64 (Lib.indexAny s cs))∧Below w.heap.size w w':=by
 by_cases h8:8<s.length
 ·exact vz s cs w h2 h8 (by omega) (by omega) ha
 ·have hsz:=aO s
  have hcz:=aO cs;have HA:=zH ha;have hemp:cs.isEmpty=false:=by
   cases cs with
   | nil=>simp at h2
   | cons _ _=>rfl
  have hn1:((cs.length:Int)==1)=false:=QJ.2 (by omega);have U1:Hid (∀W,Calls Tryz.prog 187 #[.int .i64 (s.length:Int)] W fun e w'=>e= .returned (.bool false)∧W=w'):=zH fun W=>by
   have h:=Bf (s.length:Int) W;rw[Px (by omega)]at h;exact h.mono fun e w' ⟨a,b⟩=>⟨a,b.symm⟩
  have HN:=zH (fun(h:NoAny s cs s.length)=>indexAny_none h);have HH:=zH (fun i x (h:NoAny s cs i) hx hc=>indexAny_hit (s:=s) (chars:=cs) (i:=i) (x:=x) h hx hc);obtain⟨R,hR⟩: ∃R,Lib.indexAny s cs=R:=⟨_,rfl⟩;rw[hR]at HN HH ⊢;clear hR ha;go_enter Tryz.func149,Tryz.ntmps149
  go_wp2_with (go_at_call 187;refine(U1.out _).mono ?_;rintro e w' ⟨rfl,rfl⟩)
  go_loopw [9,10] (fun i c wr=> ∃pos:Nat,wr.heap[w.heap.size]? =some (.stringIter ⟨s.toArray⟩ pos)∧Below w.heap.size w wr∧pos≤s.length∧NoAny s cs pos) (fun _ _ wr=>s.length-wr.iterPos w.heap.size)
  case atStart=>exact⟨0,World.iter_heap _ _ _,(OX _ _).alloc (OW _) _,by omega,NoAny.zero _ _⟩
  case round=>
   obtain⟨pos,hit,hbw,hp,hno⟩:=hrel;have HO:=zH hno;have HBW:=zH hbw;have hsw:=hbw.size;have HIT:=zH hit;clear hno
   by_cases hlt:pos<s.length
   ·have hps:pos<(⟨s.toArray⟩:ByteArray).size:=by rw[hsz];exact hlt
    obtain⟨x,hx⟩: ∃x,s[pos]? =some x:=⟨s[pos],OU hlt⟩;have hxx:(⟨s.toArray⟩:ByteArray)[pos]'hps=x:=by
     have:=(OV.1 hx).2;show s.toArray[pos]'_=x
     simpa using this
    by_cases h128:x.toNat<128
    ·have hnx:=fun ty=>run_next_ascii_at (P:=Tryz.prog) wr w.heap.size ⟨s.toArray⟩ pos ty hit hps (by rw[hxx];exact h128)
     rw[hxx]at hnx;have I1:Hid (∀W,Calls Tryz.prog 186 #[.string ⟨cs.toArray⟩,.int .i32 (x.toNat:Int)] W fun e w'=>e= .returned (.int .i64 (Lib.indexByte cs x))∧W=w'):=zH fun W=>by
      have h:=qV cs (x.toNat:Int) W (by omega) (by omega);have e:((x.toNat:Int)).toNat.toUInt8=x:=by simp
      rw[e]at h;exact h.mono fun e w' ⟨a,b⟩=>⟨a,b.symm⟩
     have hcon:=contains_iff_indexByte cs x;have hit2:=Lib.iterAt_heap wr w.heap.size ⟨s.toArray⟩ pos (pos+1) hit;have hb2:=Lib.below_iterAt hbw (k:=w.heap.size) (OW _) ⟨s.toArray⟩ (pos+1);have HX:=zH hx
     cases hin:cs.contains x
     ·rw[hin]at hcon
      have hlt0: ¬((0:Int)≤Lib.indexByte cs x):=of_decide_eq_false hcon.symm;have HY:=zH (HO.out.succ hx hin);have H2:=zH (And.intro hit2 hb2);generalize Lib.indexByte cs x=ib at I1 hlt0;clear hcon hin hx hxx hit hbw hit2 hb2 HO HN HH;go_wp2_with (go_at_call 186;refine(I1.out _).mono ?_;rintro e w' ⟨rfl,rfl⟩)
      go_roundw
      case rel=>exact⟨pos+1,H2.out.1,H2.out.2,by omega,HY.out⟩
      case measure=>simp only[World.iterPos,H2.out.1,HIT.out];omega
     ·rw[hin]at hcon
      have hge0:(0:Int)≤Lib.indexByte cs x:=Qq hcon.symm;have e:=HH.out pos x HO.out hx hin;subst e;have H2:=zH hb2;generalize Lib.indexByte cs x=ib at I1 hge0;clear hcon hin hx hxx hit hbw hit2 hb2 HO HN HH;go_wp2_with (go_at_call 186;refine(I1.out _).mono ?_;rintro e w' ⟨rfl,rfl⟩)
      go_ret;exact⟨rfl,H2.out⟩
    ·have hnx:=fun ty=>run_next_any_at (P:=Tryz.prog) wr w.heap.size ⟨s.toArray⟩ pos ty hit hps
     obtain⟨⟨c0,c1⟩,k1,k2,kb⟩:=CB hx (by omega);have HY:=zH (BU HO.out HA.out kb);have hit2:=Lib.iterAt_heap wr w.heap.size ⟨s.toArray⟩ pos (pos+(Utf8.decode ⟨s.toArray⟩ pos).2) hit;have hb2:=Lib.below_iterAt hbw (k:=w.heap.size) (OW _) ⟨s.toArray⟩ (pos+(Utf8.decode ⟨s.toArray⟩ pos).2);generalize Utf8.decode ⟨s.toArray⟩ pos=dk at*;obtain⟨dc,dn⟩:=dk;simp only at hnx c0 c1 k1 k2 HY hit2 hb2;have I1:Hid (∀W,Calls Tryz.prog 186 #[.string ⟨cs.toArray⟩,.int .i32 (dc:Int)] W fun e w'=>e= .returned (.int .i64 (-1))∧Below W.heap.size W w'):=zH fun W=>by
      by_cases ho:(dc:Int)=65533
      ·rw[ho];exact vo cs HA.out W
      ·exact ut cs HA.out dc (by omega) (by omega) ho W
     have H2:=zH (And.intro hit2 hb2);obtain⟨W2,hW2⟩: ∃W2,wr.iterAt w.heap.size ⟨s.toArray⟩ (pos+dn)=W2:=⟨_,rfl⟩;rw[hW2]at hnx H2;clear hx hxx hit hbw hit2 hb2 HO HN HH kb hW2;go_wp2_with fail
     refine(I1.out _).mono ?_;rintro e w1 ⟨rfl,b1⟩;have hlt2:w.heap.size<W2.heap.size:=(O5.1 H2.out.1).1;have H3:Hid (w1.heap[w.heap.size]? =some (.stringIter ⟨s.toArray⟩ (pos+dn))∧Below w.heap.size w w1):=
      zH ⟨(b1.block _ hlt2).trans H2.out.1,H2.out.2.trans (b1.mono (by omega))⟩
     clear b1 hnx;go_wp2_with fail
     go_roundw
     case rel=>exact⟨pos+dn,H3.out.1,H3.out.2,by omega,HY.out⟩
     case measure=>simp only[World.iterPos,H3.out.1,HIT.out];omega
   ·obtain rfl:pos=s.length:=by omega
    have hnx:=fun ty=>run_next_end_at (P:=Tryz.prog) wr w.heap.size ⟨s.toArray⟩ s.length ty hit (by rw[hsz];omega)
    have e:=HN.out HO.out;subst e;clear hit hbw HO HN HH;go_wp2_with fail
    go_ret;exact⟨rfl,HBW.out⟩
end
section
attribute [local go_sem ↓ high] gD gB
def Rws (w:World) (v:Value) (l:List Row):Prop:= ∃L:List RV,Fs 4 ak w v L∧l9 (Ss w) L l
theorem bS.sl {base:Nat} {w:World} {v:Value} {l:List Row} (h:bS base w v l):Rws w v l:=by
 obtain⟨L,hL,hA⟩:=h;exact⟨L,ag.sl mH hL,hA.mono fun v a ha=>ag.sl dh ha⟩
theorem Rws.len {w:World} {v:Value} {l:List Row} (h:Rws w v l): ∃a cap,v= .slice a l.length cap:=by
 obtain⟨L,hL,hA⟩:=h;obtain⟨a,cap,e⟩:=hL.len;rw[hA.1]at e;exact⟨a,cap,e⟩
end
end Go.Proofs.YtebabjnngdjceaaGreatDoor
