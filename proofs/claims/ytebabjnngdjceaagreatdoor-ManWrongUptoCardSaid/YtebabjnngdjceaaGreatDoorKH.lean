/- Functions of package str -/
import Derived.Shelf.Strings.SplitShaped
import Derived.Shelf.Strings.Prefix
import Derived.Shelf.Strings.SlTrimAscii
import Derived.Test.YtebabjnngdjceaaGreatDoorV4
import Derived.Test.YtebabjnngdjceaaGreatDoorK1
import Derived.Shelf.Slices.Clone
import Derived.Shelf.RegionOpen
set_option linter.unusedVariables false
set_option linter.unusedSimpArgs false
set_option maxRecDepth 1000000
set_option maxHeartbeats 4000000
namespace Go.Proofs.YtebabjnngdjceaaGreatDoor
open Go.RowKit
section
open Go.Shelf Go.RowKit Go.Lib
def qX:Go.Shelf.Ren:=⟨fun | 155=>236 | 154=>245 | 138=>242 | 165=>228 | 143=>140 | 166=>110 | 197=>139 | 169=>111 | 195=>247 | 218=>248 | 240=>143 | 241=>243 | 219=>178 | 260=>177 | 276=>182 | 277=>249 | 217=>208 | 225=>209 | 224=>210 | 267=>211 | 266=>233 | 314=>234 | n=>n,fun | 9=>9 | 3=>3 | 4=>4 | 72=>129 | 0=>0 | 76=>169 | 105=>193 | 21=>21 | 5=>5 | 70=>127 | 20=>20 | 37=>104 | 75=>168 | 127=>196 | 164=>229 | 46=>244 | 119=>243 | 139=>247 | 138=>246 | 146=>260 | 51=>259 | 80=>171 | n=>n,fun | 1=>2 | 3=>0 | 4=>1 | n=>n⟩
theorem uQ:Go.Proofs.LaysM.n155 Tryz.prog qX:={
 mixed:=by kernel_rfl
 f138:=Tryz.func242.trans (PR some (by kernel_rfl))
 f143:=Tryz.func140.trans (PR some (by kernel_rfl))
 f154:=Tryz.func245.trans (PR some (by kernel_rfl))
 f155:=Tryz.func236.trans (PR some (by kernel_rfl))
 f165:=Tryz.func228.trans (PR some (by kernel_rfl))
 f166:=Tryz.func110.trans (PR some (by kernel_rfl))
 f169:=Tryz.func111.trans (PR some (by kernel_rfl))
 f195:=Tryz.func247.trans (PR some (by kernel_rfl))
 f197:=Tryz.func139.trans (PR some (by kernel_rfl))
 f217:=Tryz.func208.trans (PR some (by kernel_rfl))
 f218:=Tryz.func248.trans (PR some (by kernel_rfl))
 f219:=Tryz.func178.trans (PR some (by kernel_rfl))
 f224:=Tryz.func210.trans (PR some (by kernel_rfl))
 f225:=Tryz.func209.trans (PR some (by kernel_rfl))
 f240:=Tryz.func143.trans (PR some (by kernel_rfl))
 f241:=Tryz.func243.trans (PR some (by kernel_rfl))
 f260:=Tryz.func177.trans (PR some (by kernel_rfl))
 f266:=Tryz.func233.trans (PR some (by kernel_rfl))
 f267:=Tryz.func211.trans (PR some (by kernel_rfl))
 f276:=Tryz.func182.trans (PR some (by kernel_rfl))
 f277:=Tryz.func249.trans (PR some (by kernel_rfl))
 f314:=Tryz.func234.trans (PR some (by kernel_rfl))
 t0:=Tryz.underlying0
 a0:=Tryz.isAgg0
 z0:=Tryz.sizeOf0
 v0:=Tryz.zeroValue0
 t3:=Tryz.underlying3
 a3:=Tryz.isAgg3
 z3:=Tryz.sizeOf3
 v3:=Tryz.zeroValue3
 t4:=Tryz.underlying4
 a4:=Tryz.isAgg4
 z4:=Tryz.sizeOf4
 v4:=Tryz.zeroValue4
 t5:=Tryz.underlying5
 a5:=Tryz.isAgg5
 z5:=Tryz.sizeOf5
 v5:=Tryz.zeroValue5
 t9:=Tryz.underlying9
 a9:=Tryz.isAgg9
 z9:=Tryz.sizeOf9
 v9:=Tryz.zeroValue9
 t20:=Tryz.underlying20
 a20:=Tryz.isAgg20
 z20:=Tryz.sizeOf20
 v20:=Tryz.zeroValue20
 t21:=Tryz.underlying21
 a21:=Tryz.isAgg21
 z21:=Tryz.sizeOf21
 v21:=Tryz.zeroValue21
 t37:=Tryz.underlying104
 a37:=Tryz.isAgg104
 z37:=Tryz.sizeOf104
 v37:=Tryz.zeroValue104
 t46:=Tryz.underlying244
 a46:=Tryz.isAgg244
 z46:=Tryz.sizeOf244
 v46:=Tryz.zeroValue244
 t51:=Tryz.underlying259
 a51:=Tryz.isAgg259
 z51:=Tryz.sizeOf259
 v51:=Tryz.zeroValue259
 t70:=Tryz.underlying127
 a70:=Tryz.isAgg127
 z70:=Tryz.sizeOf127
 v70:=Tryz.zeroValue127
 t72:=Tryz.underlying129
 a72:=Tryz.isAgg129
 z72:=Tryz.sizeOf129
 v72:=Tryz.zeroValue129
 t75:=Tryz.underlying168
 a75:=Tryz.isAgg168
 z75:=Tryz.sizeOf168
 v75:=Tryz.zeroValue168
 t76:=Tryz.underlying169
 a76:=Tryz.isAgg169
 z76:=Tryz.sizeOf169
 v76:=Tryz.zeroValue169
 t105:=Tryz.underlying193
 a105:=Tryz.isAgg193
 z105:=Tryz.sizeOf193
 v105:=Tryz.zeroValue193
 t119:=Tryz.underlying243
 a119:=Tryz.isAgg243
 z119:=Tryz.sizeOf243
 t127:=Tryz.underlying196
 a127:=Tryz.isAgg196
 z127:=Tryz.sizeOf196
 v127:=Tryz.zeroValue196
 t138:=Tryz.underlying246
 a138:=Tryz.isAgg246
 z138:=Tryz.sizeOf246
 v138:=Tryz.zeroValue246
 t139:=Tryz.underlying247
 a139:=Tryz.isAgg247
 z139:=Tryz.sizeOf247
 v139:=Tryz.zeroValue247
 t146:=Tryz.underlying260
 a146:=Tryz.isAgg260
 z146:=Tryz.sizeOf260
 v146:=Tryz.zeroValue260
 t164:=Tryz.underlying229
 a164:=Tryz.isAgg229
 z164:=Tryz.sizeOf229
 v164:=Tryz.zeroValue229
 g1:=by kernel_rfl
 g3:=by kernel_rfl
 g4:=by kernel_rfl
 t80:=Tryz.underlying171
 a80:=Tryz.isAgg171
 z80:=Tryz.sizeOf171
 v80:=Tryz.zeroValue171
 i0:=by kernel_rfl
 i3:=by kernel_rfl
 i4:=by kernel_rfl
 i5:=by kernel_rfl
 i9:=by kernel_rfl
 i20:=by kernel_rfl
 i21:=by kernel_rfl
 i37:=by kernel_rfl
 i46:=by kernel_rfl
 i51:=by kernel_rfl
 i70:=by kernel_rfl
 i72:=by kernel_rfl
 i75:=by kernel_rfl
 i76:=by kernel_rfl
 i80:=by kernel_rfl
 i105:=by kernel_rfl
 i127:=by kernel_rfl
 i138:=by kernel_rfl
 i139:=by kernel_rfl
 i146:=by kernel_rfl
 i164:=by kernel_rfl
 m1:=by kernel_rfl
 s1_3:=fun w h=>Go.Proofs.cell_of_shapedOpen_int (zero:= #[.int .i64 0]) (t:=3) h (Rc (by kernel_rfl)) (by kernel_rfl) rfl (by kernel_rfl) (by kernel_rfl) Tryz.underlying3
 m3:=by kernel_rfl
 m4:=by kernel_rfl}
theorem Ho:Builder.Extra Tryz.prog qX:={
 sizeBuilder:=by kernel_rfl
 liesBuilder:=by kernel_rfl
 t5:=Tryz.underlying5
 a5:=Tryz.isAgg5
 z5:=Tryz.sizeOf5
 v5:=Tryz.zeroValue5
 infoByte:=by kernel_rfl
 cellsByte:=by kernel_rfl
 sizeByte:=by kernel_rfl
 neB5:=by decide}
def Dr:Go.Shelf.Ren:=⟨fun | 161=>114 | 231=>145 | 227=>146 | 233=>147 | 235=>148 | 228=>184 | 197=>139 | 151=>185 | 260=>177 | 152=>186 | 137=>213 | 119=>214 | 224=>210 | 225=>209 | 217=>208 | 266=>233 | n=>n,fun | 9=>9 | 4=>4 | 3=>3 | 5=>5 | 117=>200 | 116=>199 | 0=>0 | 124=>203 | 105=>193 | 21=>21 | 119=>243 | 46=>244 | 139=>247 | 138=>246 | n=>n,fun | 3=>0 | 4=>1 | n=>n⟩
theorem Mq:Go.Proofs.Lays.n161 Tryz.prog Dr:={
 mixed:=by kernel_rfl
 f119:=Tryz.func214.trans (PR some (by kernel_rfl))
 f137:=Tryz.func213.trans (PR some (by kernel_rfl))
 f151:=Tryz.func185.trans (PR some (by kernel_rfl))
 f152:=Tryz.func186.trans (PR some (by kernel_rfl))
 f161:=Tryz.func114.trans (PR some (by kernel_rfl))
 f197:=Tryz.func139.trans (PR some (by kernel_rfl))
 f217:=Tryz.func208.trans (PR some (by kernel_rfl))
 f224:=Tryz.func210.trans (PR some (by kernel_rfl))
 f225:=Tryz.func209.trans (PR some (by kernel_rfl))
 f227:=Tryz.func146.trans (PR some (by kernel_rfl))
 f228:=Tryz.func184.trans (PR some (by kernel_rfl))
 f231:=Tryz.func145.trans (PR some (by kernel_rfl))
 f233:=Tryz.func147.trans (PR some (by kernel_rfl))
 f235:=Tryz.func148.trans (PR some (by kernel_rfl))
 f260:=Tryz.func177.trans (PR some (by kernel_rfl))
 f266:=Tryz.func233.trans (PR some (by kernel_rfl))
 t0:=Tryz.underlying0
 a0:=Tryz.isAgg0
 z0:=Tryz.sizeOf0
 v0:=Tryz.zeroValue0
 t3:=Tryz.underlying3
 a3:=Tryz.isAgg3
 z3:=Tryz.sizeOf3
 v3:=Tryz.zeroValue3
 t4:=Tryz.underlying4
 a4:=Tryz.isAgg4
 z4:=Tryz.sizeOf4
 v4:=Tryz.zeroValue4
 t5:=Tryz.underlying5
 a5:=Tryz.isAgg5
 z5:=Tryz.sizeOf5
 v5:=Tryz.zeroValue5
 t9:=Tryz.underlying9
 a9:=Tryz.isAgg9
 z9:=Tryz.sizeOf9
 v9:=Tryz.zeroValue9
 t21:=Tryz.underlying21
 a21:=Tryz.isAgg21
 z21:=Tryz.sizeOf21
 v21:=Tryz.zeroValue21
 t46:=Tryz.underlying244
 a46:=Tryz.isAgg244
 z46:=Tryz.sizeOf244
 v46:=Tryz.zeroValue244
 t105:=Tryz.underlying193
 a105:=Tryz.isAgg193
 z105:=Tryz.sizeOf193
 v105:=Tryz.zeroValue193
 t116:=Tryz.underlying199
 a116:=Tryz.isAgg199
 z116:=Tryz.sizeOf199
 t117:=Tryz.underlying200
 a117:=Tryz.isAgg200
 z117:=Tryz.sizeOf200
 v117:=Tryz.zeroValue200
 t119:=Tryz.underlying243
 a119:=Tryz.isAgg243
 z119:=Tryz.sizeOf243
 t124:=Tryz.underlying203
 a124:=Tryz.isAgg203
 z124:=Tryz.sizeOf203
 v124:=Tryz.zeroValue203
 t138:=Tryz.underlying246
 a138:=Tryz.isAgg246
 z138:=Tryz.sizeOf246
 v138:=Tryz.zeroValue246
 t139:=Tryz.underlying247
 a139:=Tryz.isAgg247
 z139:=Tryz.sizeOf247
 v139:=Tryz.zeroValue247
 g3:=by kernel_rfl
 g4:=by kernel_rfl}
def Dq:Go.Shelf.Ren:=⟨fun | 162=>142 | 232=>179 | 227=>146 | 234=>180 | 236=>181 | 228=>184 | 271=>212 | 151=>185 | 120=>235 | 197=>139 | 152=>186 | 260=>177 | 137=>213 | 119=>214 | 224=>210 | 225=>209 | 217=>208 | 266=>233 | n=>n,fun | 9=>9 | 4=>4 | 3=>3 | 5=>5 | 117=>200 | 116=>199 | 0=>0 | 124=>203 | 21=>21 | 105=>193 | 46=>244 | 119=>243 | 139=>247 | 138=>246 | n=>n,fun | 3=>0 | 4=>1 | n=>n⟩
theorem Mo:Go.Proofs.Lays.n162 Tryz.prog Dq:={
 mixed:=by kernel_rfl
 f119:=Tryz.func214.trans (PR some (by kernel_rfl))
 f120:=Tryz.func235.trans (PR some (by kernel_rfl))
 f137:=Tryz.func213.trans (PR some (by kernel_rfl))
 f151:=Tryz.func185.trans (PR some (by kernel_rfl))
 f152:=Tryz.func186.trans (PR some (by kernel_rfl))
 f162:=Tryz.func142.trans (PR some (by kernel_rfl))
 f197:=Tryz.func139.trans (PR some (by kernel_rfl))
 f217:=Tryz.func208.trans (PR some (by kernel_rfl))
 f224:=Tryz.func210.trans (PR some (by kernel_rfl))
 f225:=Tryz.func209.trans (PR some (by kernel_rfl))
 f227:=Tryz.func146.trans (PR some (by kernel_rfl))
 f228:=Tryz.func184.trans (PR some (by kernel_rfl))
 f232:=Tryz.func179.trans (PR some (by kernel_rfl))
 f234:=Tryz.func180.trans (PR some (by kernel_rfl))
 f236:=Tryz.func181.trans (PR some (by kernel_rfl))
 f260:=Tryz.func177.trans (PR some (by kernel_rfl))
 f266:=Tryz.func233.trans (PR some (by kernel_rfl))
 f271:=Tryz.func212.trans (PR some (by kernel_rfl))
 t0:=Tryz.underlying0
 a0:=Tryz.isAgg0
 z0:=Tryz.sizeOf0
 v0:=Tryz.zeroValue0
 t3:=Tryz.underlying3
 a3:=Tryz.isAgg3
 z3:=Tryz.sizeOf3
 v3:=Tryz.zeroValue3
 t4:=Tryz.underlying4
 a4:=Tryz.isAgg4
 z4:=Tryz.sizeOf4
 v4:=Tryz.zeroValue4
 t5:=Tryz.underlying5
 a5:=Tryz.isAgg5
 z5:=Tryz.sizeOf5
 v5:=Tryz.zeroValue5
 t9:=Tryz.underlying9
 a9:=Tryz.isAgg9
 z9:=Tryz.sizeOf9
 v9:=Tryz.zeroValue9
 t21:=Tryz.underlying21
 a21:=Tryz.isAgg21
 z21:=Tryz.sizeOf21
 v21:=Tryz.zeroValue21
 t46:=Tryz.underlying244
 a46:=Tryz.isAgg244
 z46:=Tryz.sizeOf244
 v46:=Tryz.zeroValue244
 t105:=Tryz.underlying193
 a105:=Tryz.isAgg193
 z105:=Tryz.sizeOf193
 v105:=Tryz.zeroValue193
 t116:=Tryz.underlying199
 a116:=Tryz.isAgg199
 z116:=Tryz.sizeOf199
 t117:=Tryz.underlying200
 a117:=Tryz.isAgg200
 z117:=Tryz.sizeOf200
 v117:=Tryz.zeroValue200
 t119:=Tryz.underlying243
 a119:=Tryz.isAgg243
 z119:=Tryz.sizeOf243
 t124:=Tryz.underlying203
 a124:=Tryz.isAgg203
 z124:=Tryz.sizeOf203
 v124:=Tryz.zeroValue203
 t138:=Tryz.underlying246
 a138:=Tryz.isAgg246
 z138:=Tryz.sizeOf246
 v138:=Tryz.zeroValue246
 t139:=Tryz.underlying247
 a139:=Tryz.isAgg247
 z139:=Tryz.sizeOf247
 v139:=Tryz.zeroValue247
 g3:=by kernel_rfl
 g4:=by kernel_rfl}
def G7:Go.Shelf.Ren:=⟨fun | 99=>144 | 206=>183 | n=>n,fun | 9=>9 | 4=>4 | 3=>3 | n=>n,fun | n=>n⟩
theorem NU:Go.Proofs.Lays.n99 Tryz.prog G7:={
 mixed:=by kernel_rfl
 f99:=Tryz.func144.trans (PR some (by kernel_rfl))
 f206:=Tryz.func183.trans (PR some (by kernel_rfl))
 t3:=Tryz.underlying3
 a3:=Tryz.isAgg3
 z3:=Tryz.sizeOf3
 v3:=Tryz.zeroValue3
 t4:=Tryz.underlying4
 a4:=Tryz.isAgg4
 z4:=Tryz.sizeOf4
 v4:=Tryz.zeroValue4
 t9:=Tryz.underlying9
 a9:=Tryz.isAgg9
 z9:=Tryz.sizeOf9
 v9:=Tryz.zeroValue9}
def Du:Go.Shelf.Ren:=⟨fun | 102=>74 | 209=>107 | 207=>141 | n=>n,fun | 9=>9 | 4=>4 | 3=>3 | n=>n,fun | n=>n⟩
theorem Mr:Go.Proofs.Lays.n102 Tryz.prog Du:={
 mixed:=by kernel_rfl
 f102:=Tryz.func74.trans (PR some (by kernel_rfl))
 f207:=Tryz.func141.trans (PR some (by kernel_rfl))
 f209:=Tryz.func107.trans (PR some (by kernel_rfl))
 t3:=Tryz.underlying3
 a3:=Tryz.isAgg3
 z3:=Tryz.sizeOf3
 v3:=Tryz.zeroValue3
 t4:=Tryz.underlying4
 a4:=Tryz.isAgg4
 z4:=Tryz.sizeOf4
 v4:=Tryz.zeroValue4
 t9:=Tryz.underlying9
 a9:=Tryz.isAgg9
 z9:=Tryz.sizeOf9
 v9:=Tryz.zeroValue9}
def Dt:Go.Shelf.Ren:=⟨fun | 153=>149 | 152=>186 | 226=>187 | 227=>146 | 228=>184 | 137=>213 | 119=>214 | 224=>210 | 225=>209 | 217=>208 | 266=>233 | n=>n,fun | 9=>9 | 3=>3 | 4=>4 | 5=>5 | 21=>21 | 117=>200 | 116=>199 | 0=>0 | 46=>244 | 124=>203 | n=>n,fun | n=>n⟩
theorem si:Go.Proofs.Lays.n153 Tryz.prog Dt:={
 mixed:=by kernel_rfl
 f119:=Tryz.func214.trans (PR some (by kernel_rfl))
 f137:=Tryz.func213.trans (PR some (by kernel_rfl))
 f152:=Tryz.func186.trans (PR some (by kernel_rfl))
 f153:=Tryz.func149.trans (PR some (by kernel_rfl))
 f217:=Tryz.func208.trans (PR some (by kernel_rfl))
 f224:=Tryz.func210.trans (PR some (by kernel_rfl))
 f225:=Tryz.func209.trans (PR some (by kernel_rfl))
 f226:=Tryz.func187.trans (PR some (by kernel_rfl))
 f227:=Tryz.func146.trans (PR some (by kernel_rfl))
 f228:=Tryz.func184.trans (PR some (by kernel_rfl))
 f266:=Tryz.func233.trans (PR some (by kernel_rfl))
 t0:=Tryz.underlying0
 a0:=Tryz.isAgg0
 z0:=Tryz.sizeOf0
 v0:=Tryz.zeroValue0
 t3:=Tryz.underlying3
 a3:=Tryz.isAgg3
 z3:=Tryz.sizeOf3
 v3:=Tryz.zeroValue3
 t4:=Tryz.underlying4
 a4:=Tryz.isAgg4
 z4:=Tryz.sizeOf4
 v4:=Tryz.zeroValue4
 t5:=Tryz.underlying5
 a5:=Tryz.isAgg5
 z5:=Tryz.sizeOf5
 v5:=Tryz.zeroValue5
 t9:=Tryz.underlying9
 a9:=Tryz.isAgg9
 z9:=Tryz.sizeOf9
 v9:=Tryz.zeroValue9
 t21:=Tryz.underlying21
 a21:=Tryz.isAgg21
 z21:=Tryz.sizeOf21
 v21:=Tryz.zeroValue21
 t46:=Tryz.underlying244
 a46:=Tryz.isAgg244
 z46:=Tryz.sizeOf244
 v46:=Tryz.zeroValue244
 t116:=Tryz.underlying199
 a116:=Tryz.isAgg199
 z116:=Tryz.sizeOf199
 t117:=Tryz.underlying200
 a117:=Tryz.isAgg200
 z117:=Tryz.sizeOf200
 v117:=Tryz.zeroValue200
 t124:=Tryz.underlying203
 a124:=Tryz.isAgg203
 z124:=Tryz.sizeOf203
 v124:=Tryz.zeroValue203}
def Mx (w:World):Prop:= ∃m,w.cell? ⟨2,0,none⟩=some (.int .i64 m)
theorem Mx.below {B:Nat}{w w':World}(h:Mx w)(hw:w.heap.size≤B)(hb:Below B w w'):Mx w':=by
 obtain⟨m,hm⟩:=h;exact⟨m,(hb.cell (PH (PX w _ hm) hw)).trans hm⟩
theorem OP {w:World}(h:w.ShapedOpen Tryz.prog):Mx w:=uQ.s1_3 w h
theorem Aj (s old new:List UInt8)(w:World)(h:Mx w)(hs:s.length<4294967281)(h1:1≤old.length)(hlen:s.length+Lib.count s old*new.length≤140737488355328):
  Calls Tryz.prog 236 #[.string ⟨s.toArray⟩,.string ⟨old.toArray⟩,.string ⟨new.toArray⟩] w fun e w'=>
   e=.returned (.string ⟨(Lib.replaceAll s old new).toArray⟩)∧Below w.heap.size w w':=by
 obtain⟨m,hm⟩:=h;exact Any.strings_ReplaceAll {uQ with} Ho ⟨s.toArray⟩ ⟨old.toArray⟩ ⟨new.toArray⟩ m w (by rw[az];exact hs) hm (by rw[az];exact h1) (by rw[az,az];exact hlen)
theorem index_one (s:List UInt8)(c:UInt8)(w:World):
  Calls Tryz.prog 140 #[.string ⟨s.toArray⟩,.string ⟨#[c]⟩] w fun e w'=>e=.returned (.int .i64 (Lib.indexByte s c))∧w'=w:=
 Any.strings_Index_one {uQ with} ⟨s.toArray⟩ c w
theorem jF (s p:List UInt8)(w:World):
  Calls Tryz.prog 144 #[.string ⟨s.toArray⟩,.string ⟨p.toArray⟩] w fun e w'=>e=.returned (.bool (Lib.hasPrefix s p))∧w'=w:=
 Any.strings_HasPrefix NU ⟨s.toArray⟩ ⟨p.toArray⟩ w
theorem iU (s p:List UInt8)(w:World)(hs:s.length≤9223372036854775807):
  Calls Tryz.prog 74 #[.string ⟨s.toArray⟩,.string ⟨p.toArray⟩] w fun e w'=>e=.returned (.string ⟨(Lib.trimSuffix s p).toArray⟩)∧w'=w:=
 Any.strings_TrimSuffix Mr ⟨s.toArray⟩ ⟨p.toArray⟩ w (by rw[az];exact hs)
theorem xY (s cs:List UInt8)(w:World)(hcs:cs.length<4294967281)(ha:∀(j:Nat) b,cs[j]? =some b→b.toNat<128):
  Calls Tryz.prog 114 #[.string ⟨s.toArray⟩,.string ⟨cs.toArray⟩] w fun e w'=>e=.returned (.string ⟨(Lib.trimLeftS s cs).toArray⟩)∧Below w.heap.size w w':=
 Any.strings_TrimLeft_laid Mq (by kernel_rfl) ⟨s.toArray⟩ ⟨cs.toArray⟩ w (by rw[az];exact hcs) ha
theorem vQ (s:List UInt8)(c:UInt8)(hc:c.toNat<128)(w:World)(hs:s.length≤9223372036854775807):
  Calls Tryz.prog 142 #[.string ⟨s.toArray⟩,.string ⟨#[c]⟩] w fun e w'=>e=.returned (.string ⟨(Lib.trimRightB s c).toArray⟩)∧w'=w:=
 Any.strings_TrimRight_one Mo ⟨s.toArray⟩ c hc w (by rw[az];exact hs)
theorem vZ (s cs:List UInt8)(w:World)(h2:2≤cs.length)(h8:8<s.length)(hs:s.length<4294967281)(hcs:cs.length<4294967281)(ha:∀(j:Nat) b,cs[j]? =some b→b.toNat<128):
  Calls Tryz.prog 149 #[.string ⟨s.toArray⟩,.string ⟨cs.toArray⟩] w fun e w'=>e=.returned (.int .i64 (Lib.indexAny s cs))∧Below w.heap.size w w':=by
 have hz:=zero_of_info (P:=Tryz.prog) (t:=199) (v:= .agg (Array.replicate 256 (.bool false))) (n:=256) (by kernel_rfl);refine(Any.strings_IndexAny_long {si with} hz.1 hz.2 ⟨s.toArray⟩ ⟨cs.toArray⟩ w (by rw[az];exact h2) (by rw[az];exact h8) (by rw[az];exact hs) (by rw[az];exact hcs) ha).mono fun e w' ⟨h1,h2⟩=>⟨h1,?_⟩
 rw[h2];exact((PG _ w).alloc (Px _) _).alloc (by simp) _
theorem rM (s:List UInt8)(r:Int)(w:World)(h0:0≤r)(h1:r<128):
  Calls Tryz.prog 186 #[.string ⟨s.toArray⟩,.int .i32 r] w fun e w'=>e=.returned (.int .i64 (Lib.indexByte s r.toNat.toUInt8))∧w'=w:=
 Any.strings_IndexRune_ascii {si with} ⟨s.toArray⟩ r w h0 h1
theorem vY (s:List UInt8)(c:Int)(w:World):
  Calls Tryz.prog 213 #[.string ⟨s.toArray⟩,.int .u8 c] w fun e w'=>e=.returned (.int .i64 (Lib.indexByte s c.toNat.toUInt8))∧w'=w:=
 Any.strings_IndexByte {si with} ⟨s.toArray⟩ c w
theorem Cf (n:Int)(w:World):Calls Tryz.prog 187 #[.int .i64 n] w fun e w'=>e=.returned (.bool (decide (8<n)))∧w'=w:=
 Any.strings_shouldUseASCIISet {si with} n w
end
theorem qH (c:UInt8)(w:World):Calls Tryz.prog 188 #[.int .u8 (c.toNat:Int)] w fun e w'=>e=.returned (.bool (blk c))∧w=w':=by
 have h1:blk c=(((c.toNat:Int)==32)|| ((c.toNat:Int)==9)):=by
  apply bO;simp only[blk,Bool.or_eq_true,RA]
  constructor
  ·rintro(rfl | rfl)
   ·exact .inl rfl
   ·exact .inr rfl
  ·rintro(h | h)
   ·exact .inl (Rt.1 (by have:c.toNat=32:=(by omega);exact this))
   ·exact .inr (Rt.1 (by have:c.toNat=9:=(by omega);exact this))
 rw[h1];clear h1;generalize (c.toNat:Int)=x;go_enter Tryz.func188,Tryz.ntmps188
 go_wp2
 all_goals
  go_ret;refine⟨aH ?_,rfl⟩
  simp_all
theorem jv (b:List UInt8)(w:World)(hb:b.length≤1000000):Calls Tryz.prog 109 #[.string ⟨b.toArray⟩] w fun e w'=>e=.returned (.bool (sl b))∧w=w':=by
 have H:=vQ b 92 (by decide) w (by omega);have h1:=IV b;have h2:=zQ b;have hz:=az b;have hz2:=az (Lib.trimRightB b 92);generalize Lib.trimRightB b 92=t at H h1 h2 hz2;have h3:sl b=decide (((b.length:Int)-(t.length:Int)) % 2=1):=by
  cases hs:sl b
  ·rw[hs]at h1
   simp at h1
   symm
   rw[decide_eq_false_iff_not];omega
  ·rw[hs]at h1
   simp at h1
   symm
   rw[decide_eq_true_iff];omega
 generalize sl b=q at h3;have h4:(0:Int)≤(b.length:Int)-(t.length:Int):=by omega
 have HH:=zH H;have H3:=zH h3;clear H h1 h2 h3;go_enter Tryz.func109,Tryz.ntmps109
 go_wp2_with (go_at_call 142;refine HH.out.mono ?_;rintro e w' ⟨rfl,rfl⟩)
 go_ret;refine⟨aH ?_,rfl⟩;rw[H3.out];apply bO;simp
 try omega
def ptd:List UInt8→Bool
 | []=>false
 | c::_=>c==46 || c==39
theorem Ao (b:List UInt8)(w:World):Calls Tryz.prog 113 #[.string ⟨b.toArray⟩] w fun e w'=>e=.returned (.bool (ptd b))∧w=w':=by
 have H1:=zH (jF b [46] w);have H2:=zH (jF b [39] w);have h3:ptd b=(Lib.hasPrefix b [46]|| Lib.hasPrefix b [39]):=by
  cases b with
  | nil=>rfl
  | cons c t=>
   simp only[ptd,Lib.hasPrefix,List.isPrefixOf,Bool.and_true]
   congr 1
   ·exact bO (by simp only[RA];exact eq_comm)
   ·exact bO (by simp only[RA];exact eq_comm)
 rw[h3];generalize Lib.hasPrefix b [46]=x at H1⊢;generalize Lib.hasPrefix b [39]=y at H2⊢;clear h3;go_enter Tryz.func113,Tryz.ntmps113
 go_wp2_with (first
  | (go_at_call 144;with_reducible refine H1.out.mono ?_;clear H1;rintro e w' ⟨rfl,rfl⟩)
  | (go_at_call 144;with_reducible refine H2.out.mono ?_;clear H2;rintro e w' ⟨rfl,rfl⟩))
 all_goals
  go_ret;refine⟨aH ?_,rfl⟩
  simp_all
theorem tK (P:List UInt8)(w:World)(hM:Mx w)(hb:P.length≤1000000):
  Calls Tryz.prog 215 #[.string ⟨(dbl P).toArray⟩] w fun e w'=>e=.returned (.string ⟨P.toArray⟩)∧Below w.heap.size w w':=by
 have hd:=(zm P).2;have hc:P.count 34≤P.length:=List.count_le_length;have H:=Aj (dbl P) [34,34] [34] w hM (by omega) (by decide) (by rw[xA];simp only[PI,PQ];omega);rw[vU]at H;generalize dbl P=d at H⊢;have HH:=zH H;clear H hM;go_enter Tryz.func215,Tryz.ntmps215
 go_wp2_with (go_at_call 236;refine HH.out.mono ?_;rintro e w' ⟨rfl,b1⟩)
 go_ret;exact⟨rfl,b1⟩
theorem N8 {b:List UInt8}{j:Nat}{x:UInt8}(h:b[j]? =some x):isB b j=(blk x&& !sl (b.take j)):=by unfold isB;rw[h]
theorem N7 {b:List UInt8}{j:Nat}{x:UInt8}(h:b[j]? =some x):isC b j=(x==34&&sl (b.take j)):=by
 unfold isC;rw[h];rfl
theorem mO {p:Nat→Bool}{j:Nat}(h:∀k,k<j→p k=false)(hj:p j=false):∀k,k<j+1→p k=false:=fun k hk=>by
 by_cases e:k=j
 ·rw[e];exact hj
 ·exact h k (by omega)
theorem qN (b:List UInt8)(w:World)(hb:b.length≤1000000):Calls Tryz.prog 190 #[.string ⟨b.toArray⟩] w fun e w'=>e=.returned (.int .i64 (ubl b:Int))∧w=w':=by
 have hsz:=az b;have HI:=zH (fun j x (h:b[j]? =some x)=>gZ b j x h);have HT:=zH (fun j (h:j≤b.length)=>iC b j h);have HN:=zH (fun(h:∀i,i<b.length→isB b i=false)=>IQ h);have HS:=zH (fun i hi h hb=>IP (l:=b) (i:=i) hi h hb);obtain⟨U,hU⟩:∃U,ubl b=U:=⟨_,rfl⟩;rw[hU]at HN HS⊢;clear hU;go_enter Tryz.func190,Tryz.ntmps190
 go_wp2_with fail
 go_loopw [6] (fun n wr=> ∃j:Nat,wr=w∧n=.int .i64 j∧j≤b.length∧ ∀k,k<j→isB b k=false) (fun n _=>b.length-(intOf n).toNat)
 case atStart=>exact⟨0,rfl,rfl,by omega,fun k hk=>by omega⟩
 case round=>
  obtain⟨j,rfl,rfl,hj,hbf⟩:=hrel;have HBF:=zH hbf;clear hbf
  by_cases hlt:j<b.length
  ·obtain⟨x,hx⟩:∃x,b[j]? =some x:=⟨b[j],Pz hlt⟩
   have k1:=HI.out j x hx;have k2:=HT.out j hj;have B1:=zH (fun W=>qH x W);have S1:=zH (fun W=>jv (b.take j) W (by rw[PW];omega));have E:=zH (N8 hx);have hlt':(j:Int)<(b.length:Int):=by omega
   obtain⟨p,hp⟩:∃p,blk x=p:=⟨_,rfl⟩;rw[hp]at B1 E;obtain⟨q,hq⟩:∃q,sl (b.take j)=q:=⟨_,rfl⟩;rw[hq]at S1 E;generalize b.take j=tk at k2 S1 hq;clear hp hq hx
   cases p
   ·go_wp2_with (go_at_call 188;refine(B1.out _).mono ?_;rintro e w' ⟨rfl,rfl⟩)
    go_roundw
    case rel=>exact⟨j+1,by first | rfl | trivial,by go_num,by omega,mO HBF.out E.out⟩
    case measure=>simp[intOf];omega
   ·cases q
    ·go_wp2_with (first
      | (go_at_call 188;refine(B1.out _).mono ?_;rintro e w' ⟨rfl,rfl⟩)
      | (go_at_call 109;refine(S1.out _).mono ?_;rintro e w' ⟨rfl,rfl⟩))
     go_ret;exact⟨by rw[HS.out j hlt E.out HBF.out];rfl,rfl⟩
    ·go_wp2_with (first
      | (go_at_call 188;refine(B1.out _).mono ?_;rintro e w' ⟨rfl,rfl⟩)
      | (go_at_call 109;refine(S1.out _).mono ?_;rintro e w' ⟨rfl,rfl⟩))
     go_roundw
     case rel=>exact⟨j+1,by first | rfl | trivial,by go_num,by omega,mO HBF.out E.out⟩
     case measure=>simp[intOf];omega
  ·obtain rfl:j=b.length:=by omega
   have e:=HN.out HBF.out;subst e;go_wp2_with fail
   go_ret;exact⟨rfl,rfl⟩
theorem vP (b:List UInt8)(w:World)(hb:b.length≤1000000):Calls Tryz.prog 108 #[.string ⟨b.toArray⟩] w fun e w'=>e=.returned (.tuple #[.string ⟨(unc b).1.toArray⟩,.bool (unc b).2])∧w=w':=by
 have hsz:=az b;have HI:=zH (fun j x (h:b[j]? =some x)=>gZ b j x h);have HT:=zH (fun j (h:j≤b.length)=>iC b j h);have HN:=zH (fun(h:∀i,i<b.length→isC b i=false)=>IL h);have HS:=zH (fun i hi h hb=>IK (l:=b) (i:=i) hi h hb);obtain⟨U,hU⟩:∃U,unc b=U:=⟨_,rfl⟩;rw[hU]at HN HS⊢;clear hU;go_enter Tryz.func108,Tryz.ntmps108
 go_wp2_with fail
 go_loopw [7] (fun n wr=> ∃j:Nat,wr=w∧n=.int .i64 j∧j≤b.length∧ ∀k,k<j→isC b k=false) (fun n _=>b.length-(intOf n).toNat)
 case atStart=>exact⟨0,rfl,rfl,by omega,fun k hk=>by omega⟩
 case round=>
  obtain⟨j,rfl,rfl,hj,hbf⟩:=hrel;have HBF:=zH hbf;clear hbf
  by_cases hlt:j<b.length
  ·obtain⟨x,hx⟩:∃x,b[j]? =some x:=⟨b[j],Pz hlt⟩
   have k1:=HI.out j x hx;have E:=zH (N7 hx);have hlt':(j:Int)<(b.length:Int):=by omega
   by_cases h34:x=34
   ·subst h34
    have k2:=HT.out j hj;have S1:=zH (fun W=>jv (b.take j) W (by rw[PW];omega));have HP:=zH (fun h:isC b j=true=>Mw h);obtain⟨q,hq⟩:∃q,sl (b.take j)=q:=⟨_,rfl⟩;rw[hq]at S1 E;generalize b.take j=tk at k2 S1 hq;have k1':∀W,(Instr.index 9 (.string ⟨b.toArray⟩) (.int .i64 (j:Int))).run Tryz.prog W=.ok (.int .u8 34) W:=k1;clear hq hx k1
    cases q
    ·go_wp2_with (go_at_call 109;refine(S1.out _).mono ?_;rintro e w' ⟨rfl,rfl⟩)
     go_roundw
     case rel=>exact⟨j+1,by first | rfl | trivial,by go_num,by omega,mO HBF.out E.out⟩
     case measure=>simp[intOf];omega
    ·have hp:=HP.out E.out
     have k3:∀W,(Instr.slice 9 (.string ⟨b.toArray⟩) none (some (.int .i64 ((j:Int)-1))) none).run Tryz.prog W=.ok (.string ⟨(b.take (j-1)).toArray⟩) W:=by
      have h:=HT.out (j-1) (by omega);have c:((j-1:Nat):Int)=(j:Int)-1:=by omega
      rw[c]at h;exact h
     have hj1:(0:Int)≤(j:Int)-1:=by omega
     have e:=HS.out j hlt E.out HBF.out;subst e;obtain⟨tk2,ht2⟩:∃t,b.take (j-1)=t:=⟨_,rfl⟩;rw[ht2]at k3;have HT2:=zH ht2;clear ht2;go_wp2_with (go_at_call 109;refine(S1.out _).mono ?_;rintro e w' ⟨rfl,rfl⟩)
     go_ret2
     exact⟨by rw[HT2.out];rfl,rfl⟩
   ·have hne:=iK h34
    have hne':((x.toNat:Int)==34)=false:=hne;have e0:(x==34)=false:=by simpa using h34
    rw[e0,Bool.false_and]at E;clear hne h34 e0 hx;go_wp2_with fail
    go_roundw
    case rel=>exact⟨j+1,by first | rfl | trivial,by go_num,by omega,mO HBF.out E.out⟩
    case measure=>simp[intOf];omega
  ·obtain rfl:j=b.length:=by omega
   have e:=HN.out HBF.out;subst e;go_wp2_with fail
   go_ret2
   exact⟨rfl,rfl⟩
structure QAt (b:List UInt8)(A R:List UInt8)(F:Bool)(j:Nat)(P:List UInt8):Prop where
 le:j≤b.length
 at':j=1+(dbl P).length
 eq:b.drop 1=dbl P++b.drop j
 res:uq (b.drop 1)=(A,R,F)
theorem QAt.start {b A R:List UInt8}{F:Bool}(h1:1≤b.length)(h:uq (b.drop 1)=(A,R,F)):QAt b A R F 1 []:=⟨h1,by simp[pO],by simp[pO],h⟩
theorem QAt.piece {b A R:List UInt8}{F:Bool}{j:Nat}{P:List UInt8}(h:QAt b A R F j P):(b.drop 1).take (j-1)=dbl P:=by
 rw[h.eq,h.at',Nat.add_sub_cancel_left];exact List.take_left' rfl
theorem QAt.next {b A R:List UInt8}{F:Bool}{j:Nat}{P:List UInt8}(h:QAt b A R F j P){x:UInt8}(hx:b[j]? =some x)(h34:x≠34):QAt b A R F (j+1) (P++ [x]):=by
 obtain⟨hj,hx'⟩:=Pw.1 hx;have e:=h.at';have d:dbl [x]=[x]:=by rw[eQ,PO h34,pO];rfl
 refine⟨hj,?_,?_,h.res⟩
 ·rw[sD,d,PL,QF];omega
 ·rw[sD,d,Qx,h.eq,Qu hj,hx'];rfl
theorem QAt.two {b A R:List UInt8}{F:Bool}{j:Nat}{P:List UInt8}(h:QAt b A R F j P)(hp:Lib.hasPrefix (b.drop j) [34,34]=true):QAt b A R F (j+2) (P++ [34]):=by
 have e:=h.at';have hp':([34,34]:List UInt8)<+:b.drop j:=by rwa [Lib.hasPrefix,List.isPrefixOf_iff_prefix]at hp
 obtain⟨t,ht⟩:=hp';have hl:=PR List.length ht;simp only[PL,PI,PQ,PU]at hl;have d:dbl [34]=[34,34]:=by rw[eQ,PZ rfl,pO];rfl
 have ht2:b.drop (j+2)=t:=by rw[←Sa,←ht];rfl
 refine⟨by omega,?_,?_,h.res⟩
 ·rw[sD,d,PL];simp;omega
 ·rw[sD,d,Qx,h.eq,ht2,ht]
theorem QAt.ends {b A R:List UInt8}{F:Bool}{j:Nat}{P:List UInt8}(h:QAt b A R F j P)(hx:b[j]? =some 34)(hp:Lib.hasPrefix (b.drop j) [34,34]=false):A=P∧R=b.drop (j+1)∧F=true:=by
 obtain⟨hj,hx'⟩:=Pw.1 hx;have r:=h.res;have hc:b.drop j=34::b.drop (j+1):=by rw[Qu hj,hx']
 rw[h.eq,hc,xS,Ny]at r
 ·simp only[Qc,Q9]at r
  exact⟨r.1.symm,r.2.1.symm,r.2.2.symm⟩
 ·intro hh
  rw[hc]at hp
  cases hd:b.drop (j+1)with
  | nil=>rw[hd]at hh;simp at hh
  | cons y t=>
   rw[hd]at hh hp;simp at hh;subst hh;simp[Lib.hasPrefix,List.isPrefixOf]at hp
theorem QAt.open {b A R:List UInt8}{F:Bool}{P:List UInt8}(h:QAt b A R F b.length P):A=P∧R=[]∧F=false∧b.drop 1=dbl P:=by
 have r:=h.res;have e:=h.eq;rw[Rk,Qc]at e;have e2:dbl P=dbl P++ []:=by simp
 rw[e,e2,xS]at r;simp[uq]at r;exact⟨r.1.symm,r.2.1,r.2.2,e⟩
theorem QAt.lenP {b A R:List UInt8}{F:Bool}{j:Nat}{P:List UInt8}(h:QAt b A R F j P):P.length≤b.length:=by
 have h1:=h.at';have h2:=h.le;have h3:=(zm P).1;omega
theorem xW (b:List UInt8)(w:World)(hM:Mx w)(hb1:1≤b.length)(hb:b.length≤1000000):
  Calls Tryz.prog 189 #[.string ⟨b.toArray⟩] w fun e w'=>e=.returned (.tuple #[.string ⟨(uq (b.drop 1)).1.toArray⟩,.int .i64 ((b.length-(uq (b.drop 1)).2.1.length:Nat):Int),.bool (uq (b.drop 1)).2.2])∧Below w.heap.size w w':=by
 have hsz:=az b;have HI:=zH (fun j x (h:b[j]? =some x)=>gZ b j x h);have HF:=zH (fun j (h:j≤b.length)=>dR b j h);have HD:=zH (fun i j h1 h2=>EA b i j h1 h2);obtain⟨A,R,F,hU⟩:∃A R F,uq (b.drop 1)=(A,R,F):=⟨_,_,_,rfl⟩;have HQ:=zH (QAt.start hb1 hU);rw[hU];simp only;obtain⟨N,hN⟩:∃N,b.length-R.length=N:=⟨_,rfl⟩;rw[hN];have HN:=zH hN;clear hU hN;go_enter Tryz.func189,Tryz.ntmps189
 go_wp2_with fail
 go_loopw [5] (fun n wr=> ∃(j:Nat) (P:List UInt8),wr=w∧n=.int .i64 j∧QAt b A R F j P) (fun n _=>b.length-(intOf n).toNat)
 case atStart=>exact⟨1,[],rfl,rfl,HQ.out⟩
 case round=>
  obtain⟨j,P,rfl,rfl,hq⟩:=hrel;have Q:=zH hq;have hj:=hq.le;have hP:=hq.lenP;have hj1:1≤j:=by have:=hq.at';omega
  clear hq HQ
  by_cases hlt:j<b.length
  ·obtain⟨x,hx⟩:∃x,b[j]? =some x:=⟨b[j],Pz hlt⟩
   have k1:=HI.out j x hx;have hlt':(j:Int)<(b.length:Int):=by omega
   by_cases h34:x=34
   ·subst h34
    have k1':∀W,(Instr.index 9 (.string ⟨b.toArray⟩) (.int .i64 (j:Int))).run Tryz.prog W=.ok (.int .u8 34) W:=k1;have k2:=HF.out j hj;have P1:=zH (fun W=>jF (b.drop j) [34,34] W)
    cases hpf:Lib.hasPrefix (b.drop j) [34,34]
    ·rw[hpf]at P1
     obtain⟨rfl,rfl,rfl⟩:=Q.out.ends hx hpf;have k3:=HD.out 1 j hj1 hj;rw[Q.out.piece]at k3;have k3':∀W,(Instr.slice 9 (.string ⟨b.toArray⟩) (some (.int .i64 1)) (some (.int .i64 (j:Int))) none).run Tryz.prog W=.ok (.string ⟨(dbl A).toArray⟩) W:=k3;have S1:=zH (fun W hM=>tK A W hM (by omega));obtain rfl:N=j+1:=by rw[←HN.out,PU];omega
     have HM:=zH hM;generalize b.drop j=bj at k2 P1 hpf;clear hpf hx k1 k3 hM HN;go_wp2_with (first
      | (go_at_call 144;refine(P1.out _).mono ?_;rintro e w' ⟨rfl,rfl⟩)
      | (go_at_call 215;refine(S1.out _ HM.out).mono ?_;rintro e w' ⟨rfl,b1⟩))
     go_ret3;exact⟨by go_num,b1⟩
    ·rw[hpf]at P1
     have Q2:=zH (Q.out.two hpf);have hj2:=Q2.out.le;generalize b.drop j=bj at k2 P1 hpf;clear hpf hx k1;go_wp2_with (go_at_call 144;refine(P1.out _).mono ?_;rintro e w' ⟨rfl,rfl⟩)
     go_roundw
     case rel=>exact⟨j+2,P++ [34],by first | rfl | trivial,by go_num,Q2.out⟩
     case measure=>simp[intOf];omega
   ·have hne:((x.toNat:Int)==34)=false:=iK h34
    have hne':((x.toNat:Int) != 34)=true:=by rw[bne,hne];rfl
    have Q2:=zH (Q.out.next hx h34);clear h34 hx hne;go_wp2_with fail
    go_roundw
    case rel=>exact⟨j+1,P++ [x],by first | rfl | trivial,by go_num,Q2.out⟩
    case measure=>simp[intOf];omega
  ·obtain rfl:j=b.length:=by omega
   obtain⟨rfl,rfl,rfl,hd⟩:=Q.out.open;have k2:=HF.out 1 (by omega);rw[hd]at k2;have k2':∀W,(Instr.slice 9 (.string ⟨b.toArray⟩) (some (.int .i64 1)) none none).run Tryz.prog W=.ok (.string ⟨(dbl A).toArray⟩) W:=k2;have S1:=zH (fun W hM=>tK A W hM (by omega));have HM:=zH hM;obtain rfl:N=b.length:=by rw[←HN.out];simp
   clear hd k2 hM HN;go_wp2_with (go_at_call 215;refine(S1.out _ HM.out).mono ?_;rintro e w' ⟨rfl,b1⟩)
   go_ret3;exact⟨rfl,b1⟩
section
attribute [local go_sem ↓ high] zy bg bK
theorem Cg:∀(n:Nat) (l:List UInt8),l.length≤n→ ∃pre,l=pre++(uq l).2.1
 | _,[],_=>⟨[],by simp[uq]⟩
 | _,[c],_=>⟨[c],by unfold uq;split<;>simp⟩
 | 0,c::d::t,h=>by simp at h
 | n+1,c::d::t,h=>by
  unfold uq;simp only[PI]at h
  split
  ·split
   ·obtain⟨pre,hp⟩:=Cg n t (by omega)
    exact⟨c::d::pre,by simp only[Qe];rw[←hp]⟩
   ·exact⟨[c],rfl⟩
  ·obtain⟨pre,hp⟩:=Cg n (d::t) (by simp only[PI];omega)
   exact⟨c::pre,by simp only[Qe];rw[←hp]⟩
theorem xR:∀(n:Nat) (l:List UInt8),l.length≤n→(uq l).2.2=true→(uq l).2.1.head? ≠some 34
 | _,[],_,h=>by simp[uq]at h
 | _,[c],_,h=>by
  unfold uq at h⊢
  split<;>rename_i hc
  ·simp
  ·rw[PO hc]at h;simp at h
 | 0,c::d::t,hl,_=>by simp at hl
 | n+1,c::d::t,hl,h=>by
  unfold uq at h⊢;simp only[PI]at hl
  by_cases hc:c=34
  ·rw[PZ hc]at h⊢
   by_cases hd:d=34
   ·rw[PZ hd]at h⊢
    exact xR n t (by omega) h
   ·rw[PO hd]
    simpa using hd
  ·rw[PO hc]at h⊢
   exact xR n (d::t) (by simp only[PI];omega) h
theorem Ew {r A R:List UInt8}{F:Bool}(h1:1≤r.length)(h:uq (r.drop 1)=(A,R,F)):R.length<r.length∧r.drop (r.length-R.length)=R:=by
 obtain⟨pre,hp⟩:=Cg _ (r.drop 1) (Px _);rw[h]at hp;simp only at hp;have hl:=PR List.length hp;simp only[PU,PL]at hl;refine⟨by omega,?_⟩;have e:r.length-R.length=1+pre.length:=by omega
 rw[e,←Sa,hp,List.drop_left]
def gV:Value→Nat
 | .string s=>s.size
 | _=>0
theorem dP (b:List UInt8):gV (.string ⟨b.toArray⟩)=b.length:=az b
structure AAt (w:World)(N:Nat)(A:List (List UInt8))(F:Bool)(r:List UInt8)(acc:List (List UInt8))(v:Value)(wr:World):Prop where
 own:iN w.heap.size wr v acc
 bel:Below w.heap.size w wr
 sz:w.heap.size≤wr.heap.size
 le:r.length≤N
 num:acc.length+r.length≤N
 res:(A,F)=(acc++(args r).1,(args r).2)
section
variable {w:World}{N:Nat}{A:List (List UInt8)}{F:Bool}{r:List UInt8}{acc:List (List UInt8)}{v:Value}{wr:World}
theorem AAt.start (w:World)(b:List UInt8)(h:args b=(A,F)):AAt w b.length A F b [] (.slice none 0 0) w:=
 ⟨ag.nil _ _,PG _ _,Px _,Px _,by simp,by simp[h]⟩
theorem AAt.keep {w':World}(h:AAt w N A F r acc v wr)(hb:Below wr.heap.size wr w'):AAt w N A F r acc v w':=
 ⟨h.own.keep hb,h.bel.trans (hb.mono h.sz),PY h.sz hb.size,h.le,h.num,h.res⟩
theorem AAt.fin (h:AAt w N A F [] acc v wr):A=acc∧F=true:=by
 have e:=h.res;rw[KP,Qc]at e
 simpa using e
theorem nC {r:List UInt8}{c:UInt8}(h:r[0]? =some c):r=c::r.drop 1:=by
 cases r with
 | nil=>simp at h
 | cons d t=>simp at h;simp[h]
theorem AAt.blank (h:AAt w N A F r acc v wr){c:UInt8}(hc:r[0]? =some c)(hb:blk c=true):AAt w N A F (r.drop 1) acc v wr:=by
 have e:=h.res;have h1:=h.le;have h2:=h.num;rw[nC hc,Et hb]at e;exact⟨h.own,h.bel,h.sz,by rw[PU];omega,by rw[PU];omega,e⟩
theorem AAt.push (h:AAt w N A F r acc v wr)(hN:N≤500000)(x R:List UInt8)(hR:R.length<r.length)(hres:args r=(x::(args R).1,(args R).2)):
  ∃v' w2,(rR #[v,.slice (some ⟨wr.heap.size,0,none⟩) 1 1]).run Tryz.prog (wr.alloc (.cells #[.string ⟨x.toArray⟩] 9))=.ok (.value v') w2∧AAt w N A F R (acc++ [x]) v' w2∧Below w.heap.size wr w2:=by
 have h1:=h.num;have h0:=h.le;obtain⟨v',w2,hrun,ho,hb,hz⟩:=Ak h.own h.sz x (by omega);refine⟨v',w2,hrun,⟨ho,h.bel.trans hb,PY h.sz hz,by omega,by simp;omega,?_⟩,hb⟩;rw[h.res,hres];simp
theorem AAt.plain (h:AAt w N A F r acc v wr)(hN:N≤500000){c:UInt8}(hc:r[0]? =some c)(hb:blk c=false)(hq:c≠34):
  ∃v' w2,(rR #[v,.slice (some ⟨wr.heap.size,0,none⟩) 1 1]).run Tryz.prog (wr.alloc (.cells #[.string ⟨(r.take (ubl r)).toArray⟩] 9))=.ok (.value v') w2∧AAt w N A F (r.drop (ubl r)) (acc++ [r.take (ubl r)]) v' w2∧Below w.heap.size wr w2:=by
 have e:=nC hc;have h1:1≤ubl r:=by rw[e];exact mP hb
 have h2:=xX r;refine h.push hN _ _ (by rw[PU];omega) ?_;have:=Es (t:=r.drop 1) hb hq;rw[←e]at this;exact this
theorem AAt.quote (h:AAt w N A F r acc v wr)(hN:N≤500000)(hc:r[0]? =some 34){x R:List UInt8}(hu:uq (r.drop 1)=(x,R,true)):
  ∃v' w2,(rR #[v,.slice (some ⟨wr.heap.size,0,none⟩) 1 1]).run Tryz.prog (wr.alloc (.cells #[.string ⟨x.toArray⟩] 9))=.ok (.value v') w2∧AAt w N A F R (acc++ [x]) v' w2∧Below w.heap.size wr w2:=by
 have e:=nC hc;have hl:1≤r.length:=by rw[e];simp
 refine h.push hN _ _ (Ew hl hu).1 ?_;have:=Ep (t:=r.drop 1) (by rw[hu]);rw[←e,hu]at this;exact this
theorem AAt.openq (h:AAt w N A F r acc v wr)(hN:N≤500000)(hc:r[0]? =some 34){x R:List UInt8}(hu:uq (r.drop 1)=(x,R,false)):
  ∃v' w2,(rR #[v,.slice (some ⟨wr.heap.size,0,none⟩) 1 1]).run Tryz.prog (wr.alloc (.cells #[.string ⟨x.toArray⟩] 9))=.ok (.value v') w2∧(iN w.heap.size w2 v' A∧F=false∧Below w.heap.size w w2∧w.heap.size≤w2.heap.size):=by
 have e:=nC hc;have h1:=h.num;obtain⟨v',w2,hrun,ho,hb,hz⟩:=Ak h.own h.sz x (by omega);have:=Ip (t:=r.drop 1) (by rw[hu]);rw[←e,hu]at this;have r1:=h.res;rw[this]at r1;simp only[Q9]at r1;refine⟨v',w2,hrun,?_,r1.2,h.bel.trans hb,PY h.sz hz⟩;rw[r1.1];exact ho
end
theorem KU (b:List UInt8)(w:World)(hM:Mx w)(hb:b.length≤100000):
  Calls Tryz.prog 150 #[.string ⟨b.toArray⟩] w fun e w'=> ∃v,e=.returned (.tuple #[v,.bool (args b).2])∧iN w.heap.size w' v (args b).1∧Below w.heap.size w w'∧w.heap.size≤w'.heap.size:=by
 have HM:=zH (fun W (h:Below w.heap.size w W)=>hM.below (Px _) h);obtain⟨A,F,hAF⟩:∃A F,args b=(A,F):=⟨_,_,rfl⟩;have HA:=zH (AAt.start w b hAF);rw[hAF];simp only;obtain⟨N,hN⟩:∃N,b.length=N:=⟨_,rfl⟩;rw[hN]at HA hb;clear hM hAF hN;go_enter Tryz.func150,Tryz.ntmps150
 go_wp2_with fail
 go_step3
 go_wp2_with fail
 go_step3
 go_wp2_with fail
 go_loopw [0,4,5] (fun s v o wr=> ∃(r:List UInt8) (acc:List (List UInt8)),s=.string ⟨r.toArray⟩∧o=.bool true∧AAt w N A F r acc v wr) (fun s _ _ _=>gV s)
 case atStart=>exact⟨b,[],rfl,rfl,HA.out⟩
 case round=>
  obtain⟨r,acc,rfl,rfl,ha⟩:=hrel;rcases hr0:r[0]? with _ | c
  ·obtain rfl:r=[]:=by cases r with
    | nil=>rfl
    | cons c t=>simp at hr0
   obtain⟨rfl,rfl⟩:=ha.fin;have E1:∀W,(rJ (.string ⟨#[]⟩) (.string ⟨#[]⟩)).run Tryz.prog W=.ok (.bool false) W:=jR [] [];have HX:=zH ha;clear ha hr0 HA;go_wp2_with fail
   try rw[QJ]
   go_ret2
   exact⟨_,rfl,HX.out.own,HX.out.bel,HX.out.sz⟩
  ·have hrl:1≤r.length:=by
    have:=(Pw.1 hr0).1;omega
   have hrb:=ha.le;have E1:∀W,(rJ (.string ⟨r.toArray⟩) (.string ⟨#[]⟩)).run Tryz.prog W=.ok (.bool true) W:=by
    have h:=jR r [];have hne:¬r=[]:=by rintro rfl;simp at hrl
    rw[P8 hne]at h;exact h
   have k0:∀W,(Instr.index 9 (.string ⟨r.toArray⟩) (.int .i64 0)).run Tryz.prog W=.ok (.int .u8 (c.toNat:Int)) W:=gZ r 0 c hr0;have B1:=zH (fun W=>qH c W);have HX:=zH ha;have HR:=zH hr0;clear HA ha
   by_cases hbk:blk c=true
   ·rw[hbk]at B1
    have k1:∀W,(Instr.slice 9 (.string ⟨r.toArray⟩) (some (.int .i64 1)) none none).run Tryz.prog W=.ok (.string ⟨(r.drop 1).toArray⟩) W:=dR r 1 hrl;have HY:=zH (HX.out.blank hr0 hbk);have hdl:(r.drop 1).length<r.length:=by rw[PU];omega
    obtain⟨r1,hr1⟩:∃r1,r.drop 1=r1:=⟨_,rfl⟩;rw[hr1]at k1 HY hdl;clear hr1 hr0 hbk;go_wp2_with (go_at_call 188;refine(B1.out _).mono ?_;rintro e w' ⟨rfl,rfl⟩)
    go_roundw
    case rel=>exact⟨r1,acc,rfl,rfl,HY.out⟩
    case measure=>show gV _<gV _;rw[dP,dP];exact hdl
   ·have hbk':blk c=false:=by simpa using hbk
    rw[hbk']at B1;clear hbk
    by_cases h34:c=34
    ·subst h34
     have k0':∀W,(Instr.index 9 (.string ⟨r.toArray⟩) (.int .i64 0)).run Tryz.prog W=.ok (.int .u8 34) W:=k0;obtain⟨x,R,F1,hu⟩:∃x R F1,uq (r.drop 1)=(x,R,F1):=⟨_,_,_,rfl⟩;obtain⟨hRl,hRd⟩:=Ew hrl hu;have U1:Hid (∀W,Mx W→Calls Tryz.prog 189 #[.string ⟨r.toArray⟩] W fun e w'=>e=.returned (.tuple #[.string ⟨x.toArray⟩,.int .i64 ((r.length-R.length:Nat):Int),.bool F1])∧Below W.heap.size W w'):=zH fun W hM=>by
      have h:=xW r W hM hrl (by omega);rw[hu]at h;exact h
     have k2:=dR r (r.length-R.length) (by omega);rw[hRd]at k2;obtain⟨n,hn⟩:∃n,r.length-R.length=n:=⟨_,rfl⟩;rw[hn]at U1 k2;have HU:=zH hu;clear hn hRd k0 hr0 hbk' hu
     cases F1
     ·go_wp2_with (go_at_call 188;refine(B1.out _).mono ?_;rintro e w' ⟨rfl,rfl⟩)
      refine(U1.out _ (HM.out _ HX.out.bel)).mono ?_;rintro e w1 ⟨rfl,b1⟩;obtain⟨v',w2,k3,h3⟩:=(HX.out.keep b1).openq (by omega) HR.out HU.out;have H3:=zH h3;clear h3 b1 U1 HX HR HU HM;go_wp2_with fail
      try rw[QJ]
      go_ret2
      obtain⟨q1,q2,q3,q4⟩:=H3.out;exact⟨_,by rw[q2];rfl,q1,q3,q4⟩
     ·go_wp2_with (go_at_call 188;refine(B1.out _).mono ?_;rintro e w' ⟨rfl,rfl⟩)
      refine(U1.out _ (HM.out _ HX.out.bel)).mono ?_;rintro e w1 ⟨rfl,b1⟩;obtain⟨v',w2,k3,h3,-⟩:=(HX.out.keep b1).quote (by omega) HR.out HU.out;have H3:=zH h3;have HRd:Hid (∀d,R[0]? =some d→d≠34):=zH fun d hd=>by
       have h:=xR _ (r.drop 1) (Px _) (by rw[HU.out]);rw[HU.out]at h;rintro rfl
       cases R with
       | nil=>simp at hd
       | cons y t=>simp at hd h;exact h hd
      clear h3 b1 U1 HX HR HU;rcases hR0:R[0]? with _ | d
      ·obtain rfl:R=[]:=by cases R with
        | nil=>rfl
        | cons c t=>simp at hR0
       have E2:∀W,(iE (.string ⟨#[]⟩) (.string ⟨#[]⟩)).run Tryz.prog W=.ok (.bool true) W:=dC [] [];clear hR0 HM HRd;go_wp2_with fail
       go_roundw
       case rel=>exact⟨[],acc++ [x],rfl,rfl,H3.out⟩
       case measure=>show gV _<gV _;rw[dP,dP];exact hRl
      ·have hRl1:1≤R.length:=by
        have:=(Pw.1 hR0).1;omega
       have E2:∀W,(iE (.string ⟨R.toArray⟩) (.string ⟨#[]⟩)).run Tryz.prog W=.ok (.bool false) W:=by
        have h:=dC R [];have hne:¬R=[]:=by rintro rfl;simp at hRl1
        rw[P8 hne]at h;exact h
       have k4:∀W,(Instr.index 9 (.string ⟨R.toArray⟩) (.int .i64 0)).run Tryz.prog W=.ok (.int .u8 (d.toNat:Int)) W:=gZ R 0 d hR0;have B2:=zH (fun W=>qH d W)
       by_cases hbd:blk d=true
       ·rw[hbd]at B2
        clear hbd hR0 HM HRd;go_wp2_with (go_at_call 188;refine(B2.out _).mono ?_;rintro e w' ⟨rfl,rfl⟩)
        go_roundw
        case rel=>exact⟨R,acc++ [x],rfl,rfl,H3.out⟩
        case measure=>show gV _<gV _;rw[dP,dP];exact hRl
       ·have hbd':blk d=false:=by simpa using hbd
        rw[hbd']at B2;have N1:=zH (fun W=>qN R W (by omega));have hub:=xX R;have hub1:1≤ubl R:=by rw[nC hR0];exact mP hbd'
        have k5:=iC R (ubl R) hub;have k6:=dR R (ubl R) hub;obtain⟨v2,w3,k7,h7,-⟩:=H3.out.plain (by omega) hR0 hbd' (HRd.out d hR0);have H7:=zH h7;have hdl:(R.drop (ubl R)).length<r.length:=by rw[PU];omega
        obtain⟨u,hu⟩:∃u,ubl R=u:=⟨_,rfl⟩;rw[hu]at N1 k5 k6 k7 H7 hdl;obtain⟨tk,htk⟩:∃t,R.take u=t:=⟨_,rfl⟩;obtain⟨dk,hdk⟩:∃t,R.drop u=t:=⟨_,rfl⟩;rw[htk]at k5 k7 H7;rw[hdk]at k6 H7 hdl;clear hbd hbd' hR0 HM HRd h7 hub hub1 hu htk hdk H3;go_wp2_with (first
         | (go_at_call 188;refine(B2.out _).mono ?_;rintro e w' ⟨rfl,rfl⟩)
         | (go_at_call 190;refine(N1.out _).mono ?_;rintro e w' ⟨rfl,rfl⟩))
        go_roundw
        case rel=>exact⟨dk,acc++ [x]++ [tk],rfl,rfl,H7.out⟩
        case measure=>show gV _<gV _;rw[dP,dP];exact hdl
    ·have hne:((c.toNat:Int)==34)=false:=iK h34
     have N1:=zH (fun W=>qN r W (by omega));have hub:=xX r;have hub1:1≤ubl r:=by rw[nC hr0];exact mP hbk'
     have k5:=iC r (ubl r) hub;have k6:=dR r (ubl r) hub;obtain⟨v2,w3,k7,h7,-⟩:=HX.out.plain (by omega) hr0 hbk' h34;have H7:=zH h7;have hdl:(r.drop (ubl r)).length<r.length:=by rw[PU];omega
     obtain⟨u,hu⟩:∃u,ubl r=u:=⟨_,rfl⟩;rw[hu]at N1 k5 k6 k7 H7 hdl;obtain⟨tk,htk⟩:∃t,r.take u=t:=⟨_,rfl⟩;obtain⟨dk,hdk⟩:∃t,r.drop u=t:=⟨_,rfl⟩;rw[htk]at k5 k7 H7;rw[hdk]at k6 H7 hdl;clear hbk' hr0 HM h7 hub hub1 hu htk hdk h34 HX HR;go_wp2_with (first
      | (go_at_call 188;refine(B1.out _).mono ?_;rintro e w' ⟨rfl,rfl⟩)
      | (go_at_call 190;refine(N1.out _).mono ?_;rintro e w' ⟨rfl,rfl⟩))
     go_roundw
     case rel=>exact⟨dk,acc++ [tk],rfl,rfl,H7.out⟩
     case measure=>show gV _<gV _;rw[dP,dP];exact hdl
end
def aG (e base:Nat)(W W':World):Prop:= ∀g cur,base≤g→W.heap[g]? =some (.cells cur e (0,0))→W'.heap[g]? =W.heap[g]?
theorem aG.below {e base:Nat}{W W':World}(h:Below W.heap.size W W'):aG e base W W':=fun g cur _ hg=>h.block g (Py.1 hg).1
theorem aG.low {e base B:Nat}(W:World)(hB:B<base)(j:Nat)(v:Value):aG e base W (W.setCell ⟨B,j,none⟩ v):=fun g cur hg _=>
 PN W ⟨B,j,none⟩ v g (by simp only;omega)
theorem aG.grown {e base:Nat}{W W':World}{row:Option Nat}(hg:W.grownBy W' row)(hr:∀r,row=some r→ ∃cur e',W.heap[r]? =some (.cells cur e' (0,0))∧e'≠e):aG e base W W':=fun g cur _ h=>
 hg.block g (Py.1 h).1 (fun e1=>by
  obtain⟨c2,e2,h2,hne⟩:=hr g e1.symm;rw[h]at h2;injection h2 with h2
  injection h2 with _ h3 _
  exact hne h3.symm)
theorem iq (W:World)(p:Addr)(n k:Nat)(h:k≠p.block):(W.freeze p n).heap[k]? =W.heap[k]? :=by
 unfold World.freeze
 split
 ·rfl
 ·simp only[Array.getElem?_modify]
  rw[PO (fun e=>h e.symm)]
theorem ag.held {α:Type}{e n base:Nat}{f:α→List Value}{W W':World}{x:Value}{l:List α}(h:ag e n f base W x l)(hs:aG e base W W'):ag e n f base W' x l:=by
 refine⟨h.1,?_⟩;rcases h.2 with h0 | ⟨g,cap,cur,e1,hg,hh,r⟩
 ·exact .inl h0
 ·exact .inr ⟨g,cap,cur,e1,hg,(hs g cur hg hh).trans hh,r⟩
structure Fr (base B:Nat)(W W':World):Prop where
 os:W'.os=W.os
 tape:W'.tape=W.tape
 output:W'.output=W.output
 low:∀k,k<base→k≠B→W'.heap[k]? =W.heap[k]?
 ko:KeepsOthers W W'
section
variable {base B:Nat}{W W':World}
theorem Fr.refl (W:World):Fr base B W W:=⟨rfl,rfl,rfl,fun _ _ _=>rfl,KeepsOthers.refl _⟩
theorem Fr.trans {W'':World}(h:Fr base B W W')(k:Fr base B W' W''):Fr base B W W'':=
 ⟨k.os.trans h.os,k.tape.trans h.tape,k.output.trans h.output,fun i h1 h2=>(k.low i h1 h2).trans (h.low i h1 h2),h.ko.trans k.ko⟩
theorem Fr.size (h:Fr base B W W'):W.heap.size≤W'.heap.size:=h.ko.size
theorem Fr.of_below (hb:base≤W.heap.size)(h:Below W.heap.size W W'):Fr base B W W':=
 ⟨h.os,h.tape,h.output,fun k hk _=>h.block k (by omega),h.size,fun k o hk _=>(h.block k (Py.1 hk).1).trans hk⟩
theorem Fr.set (W:World)(j:Nat)(v:Value):Fr base B W (W.setCell ⟨B,j,none⟩ v):=
 ⟨rfl,rfl,rfl,fun k _ hk=>PN W ⟨B,j,none⟩ v k hk,KeepsOthers.setCell _ _ _⟩
theorem Fr.drew (W:World):Fr base B W W.drew:=⟨rfl,rfl,rfl,fun _ _ _=>rfl,⟨Px _,fun _ _ h _=>h⟩⟩
theorem Fr.grown {row:Option Nat}(hb:base≤W.heap.size)(hg:W.grownBy W' row)(hr:∀r,row=some r→base≤r∧ ∃cur e,W.heap[r]? =some (.cells cur e (0,0))):Fr base B W W':=
 ⟨hg.os,hg.tape,hg.output,fun k hk _=>hg.block k (by omega) (fun e=>by have:=(hr k e.symm).1;omega),KeepsOthers.of_grownBy hg (fun j o hj ho=>by
  obtain⟨-,cur,e,h⟩:=hr j hj;rw[h]at ho
  cases ho
  rfl)⟩
theorem Fr.freeze {g:Nat}(hg:base≤g)(n:Nat){cur:Array Value}{e:Nat}{fz:Nat×Nat}(hc:W.heap[g]? =some (.cells cur e fz)):Fr base B W (W.freeze ⟨g,0,none⟩ n):=by
 have hbf:=Lib.below_freeze (B:=base) (PG base W) (p:=⟨g,0,none⟩) hg n;refine⟨hbf.os,hbf.tape,hbf.output,fun k hk _=>hbf.block k hk,hbf.size,fun k o hk ho=>?_⟩;rw[iq]
 ·exact hk
 ·rintro rfl
  rw[hc]at hk
  cases hk
  cases ho
theorem Fr.below {D:Nat}(h:Fr base B W W')(h1:D≤base)(h2:D≤B):Below D W W':=⟨h.os,h.tape,h.output,h.size,fun k hk=>h.low k (by omega) (by omega)⟩
end
abbrev Row:=Int×List UInt8×List (List UInt8)×List UInt8
abbrev RV:=Int×List UInt8×(Option Addr×Nat×Nat)×List UInt8
def bE (a:Option Addr×Nat×Nat):Value:= .slice a.1 a.2.1 a.2.2
def ai (r:RV):List Value:=[.int .i64 r.1,.string ⟨r.2.1.toArray⟩,bE r.2.2.1,.string ⟨r.2.2.2.toArray⟩]
theorem gB (r:RV):(ai r).length=4:=rfl
theorem qg (r:RV):∀u∈ai r,u.oneCell'=true:=by
 intro u hu;simp[ai,bE]at hu;rcases hu with rfl | rfl | rfl | rfl<;>rfl
abbrev O3 (base:Nat)(W:World)(x:Value)(l:List RV):Prop:=ag 33 4 ai base W x l
structure Ox (A:Value→List (List UInt8)→Prop)(x:RV)(y:Row):Prop where
 line:x.1=y.1
 mac:x.2.1=y.2.1
 text:x.2.2.2=y.2.2.2
 args:A (bE x.2.2.1) y.2.2.1
def gG (A:Value→List (List UInt8)→Prop)(L:List RV)(l:List Row):Prop:=L.length=l.length∧ ∀(j:Nat) x y,L[j]? =some x→l[j]? =some y→Ox A x y
theorem gG.nil (A:Value→List (List UInt8)→Prop):gG A [] []:=⟨rfl,fun j x y h=>by simp at h⟩
theorem gG.mono {A A':Value→List (List UInt8)→Prop}{L:List RV}{l:List Row}(h:gG A L l)(ha:∀v a,A v a→A' v a):gG A' L l:=
 ⟨h.1,fun j x y h1 h2=>by have:=h.2 j x y h1 h2;exact⟨this.line,this.mac,this.text,ha _ _ this.args⟩⟩
theorem gG.snoc {A:Value→List (List UInt8)→Prop}{L:List RV}{l:List Row}(h:gG A L l){x:RV}{y:Row}(hx:Ox A x y):gG A (L++ [x]) (l++ [y]):=by
 refine⟨by simp[h.1],fun j x' y' h1 h2=>?_⟩
 by_cases hj:j<L.length
 ·rw[P7 hj]at h1
  rw[P7 (by rw[←h.1];exact hj)]at h2;exact h.2 j x' y' h1 h2
 ·rw[P5 (by omega)]at h1
  rw[P5 (by rw[←h.1];omega)]at h2;have e1:j-L.length=0:=by
   have:=(Pw.1 h1).1;simp at this;omega
  rw[e1]at h1;rw[←h.1,e1]at h2;simp at h1 h2;subst h1 h2;exact hx
def eB (base:Nat)(W:World)(v:Value)(l:List Row):Prop:= ∃L:List RV,O3 base W v L∧gG (iN base W) L l
theorem eB.nil (base:Nat)(W:World):eB base W (.slice none 0 0) []:=⟨[],ag.nil _ _,gG.nil _⟩
theorem eB.held {base:Nat}{W W':World}{v:Value}{l:List Row}(h:eB base W v l)(h1:aG 33 base W W')(h2:aG 9 base W W'):eB base W' v l:=by
 obtain⟨L,hL,hA⟩:=h;exact⟨L,hL.held h1,hA.mono fun v a ha=>ha.held h2⟩
theorem eB.keep {base:Nat}{W W':World}{v:Value}{l:List Row}(h:eB base W v l)(hb:Below W.heap.size W W'):eB base W' v l:=h.held (aG.below hb) (aG.below hb)
theorem eB.len {base:Nat}{W:World}{v:Value}{l:List Row}(h:eB base W v l):∃a cap,v=.slice a l.length cap:=by
 obtain⟨L,hL,hA⟩:=h;obtain⟨a,cap,e⟩:=(ag.sl gB hL).len;rw[hA.1]at e;exact⟨a,cap,e⟩
theorem DC:(Tryz.prog.info? 33).map (fun i=>(i.zero,i.size,i.bytes))=some (some (.agg #[.int .i64 0,.string ⟨#[]⟩,.slice none 0 0,.string ⟨#[]⟩]),4,64):=by kernel_rfl
theorem Oa:(Tryz.prog.info? 5).map (fun i=>(i.zero,i.size,i.bytes))=some (some (.int .u8 0),1,1):=by kernel_rfl
theorem eB.push {base:Nat}{W:World}{v:Value}{l:List Row}(h:eB base W v l)(hb:base≤W.heap.size)(hl:l.length≤500000)(y:Row)(a:Option Addr×Nat×Nat)(hA:iN base W (bE a) y.2.2.1)(C:Array Value)(hC:C=(ai (y.1,y.2.1,a,y.2.2.2)).toArray):
  ∃v' w2,(Builtin.append_ #[25,25] 25 #[v,.slice (some ⟨W.heap.size,0,none⟩) 1 1]).run Tryz.prog (W.alloc (.cells C 33))=.ok v' w2∧eB base w2 v' (l++ [y])∧
   (W.alloc (.cells C 33)).grownBy w2 v.ownBlock∧(∀r,v.ownBlock=some r→base≤r∧r<W.heap.size∧ ∃cur,(W.alloc (.cells C 33)).heap[r]? =some (.cells cur 33 (0,0))):=by
 obtain⟨L,hL,hI⟩:=h;obtain⟨i0,hi,hz0,hz1,hz2⟩:=Ql DC;have b1:=ae W (.cells C 33);have h1:=hL.keep b1;have hu:Fs 4 ai (W.alloc (.cells C 33)) (.slice (some ⟨W.heap.size,0,none⟩) 1 1) [(y.1,y.2.1,a,y.2.2.2)]:=by
  have:=dM gB W 33 [(y.1,y.2.1,a,y.2.2.2)];rw[dU,←hC]at this;exact this
 obtain⟨v',w2,hrun,ho,hg,hq⟩:=lM gB qg (by decide) Tryz.underlying25 hi hz0 hz1 hz2 rfl (by decide) h1 hu (by simp;omega) (by rw[hI.1];simp;omega);have hrow:∀r,v.ownBlock=some r→base≤r∧ ∃cur,(W.alloc (.cells C 33)).heap[r]? =some (.cells cur 33 (0,0)):=fun r hr=>h1.ty hr
 refine⟨v',w2,hrun,⟨L++ [(y.1,y.2.1,a,y.2.2.2)],ho,?_⟩,hg,fun r hr=>⟨(hrow r hr).1,?_,(hrow r hr).2⟩⟩
 ·have hs:aG 9 base (W.alloc (.cells C 33)) w2:=aG.grown hg (fun r hr=>by
   obtain⟨-,cur,e⟩:=hrow r hr;exact⟨cur,_,e,by decide⟩)
  exact(hI.mono fun v a ha=>(ha.keep b1).held hs).snoc ⟨rfl,rfl,rfl,(hA.keep b1).held hs⟩
 ·obtain⟨-,cur,e⟩:=hL.ty hr
  exact(Py.1 e).1
theorem bG.push {base:Nat}{W:World}{v:Value}{l:List Dg}(h:bG base W v l)(hb:base≤W.heap.size)(hl:l.length≤500000)(y:Dg)(C:Array Value)(hC:C=(fT y).toArray):
  ∃v' w2,(Builtin.append_ #[29,29] 29 #[v,.slice (some ⟨W.heap.size,0,none⟩) 1 1]).run Tryz.prog (W.alloc (.cells C 46))=.ok v' w2∧bG base w2 v' (l++ [y])∧
   (W.alloc (.cells C 46)).grownBy w2 v.ownBlock∧(∀r,v.ownBlock=some r→base≤r∧r<W.heap.size∧ ∃cur,(W.alloc (.cells C 46)).heap[r]? =some (.cells cur 46 (0,0))):=by
 obtain⟨i0,hi,hz0,hz1,hz2⟩:=Ql J2;have b1:=ae W (.cells C 46);have h1:=h.keep b1;have hu:Fs 3 fT (W.alloc (.cells C 46)) (.slice (some ⟨W.heap.size,0,none⟩) 1 1) [y]:=by
  have:=dM ax W 46 [y];rw[dU,←hC]at this;exact this
 obtain⟨v',w2,hrun,ho,hg,hq⟩:=lM ax xy (by decide) Tryz.underlying29 hi hz0 hz1 hz2 rfl (by decide) h1 hu (by simp;omega) (by simp;omega);refine⟨v',w2,hrun,ho,hg,fun r hr=>⟨(h1.ty hr).1,?_,(h1.ty hr).2⟩⟩;obtain⟨-,cur,e⟩:=h.ty hr;exact(Py.1 e).1
def oG (c:UInt8):List Value:=[.int .u8 (c.toNat:Int)]
theorem Io (c:UInt8):(oG c).length=1:=rfl
abbrev Ng (base:Nat)(W:World)(x:Value)(l:List UInt8):Prop:=ag 5 1 oG base W x l
theorem je:∀l:List UInt8,aA oG l=Lib.byteCells l
 | []=>rfl
 | c::t=>by
  rw[eO,je t];rfl
theorem aG.trans {e base:Nat}{a b c:World}(h:aG e base a b)(k:aG e base b c):aG e base a c:=fun g cur h1 h2=>
 (k g cur h1 ((h g cur h1 h2).trans h2)).trans (h g cur h1 h2)
structure RSk0 (base B:Nat)(W:World)(ln fi:Int)(va vb vr vd:Value)(rows:List Row)(dg:List Dg):Prop where
 lt:B<base
 sz:base≤W.heap.size
 blk:Blk W B 131 [.int .i64 ln,.int .i64 fi,va,vb,vr,vd]
 rw:eB base W vr rows
 dg:bG base W vd dg
structure RSk (base B:Nat)(W:World)(ln fi:Int)(va vb vr vd:Value)(tx:List UInt8)(rows:List Row)(dg:List Dg):Prop extends RSk0 base B W ln fi va vb vr vd rows dg where
 ad:va=.pointer none∨va=.pointer (some ⟨B,2,none⟩)
 bf:Ng base W vb tx
 bn:tx=[]→vb=.slice none 0 0
section
variable {base B:Nat}{W W':World}{ln fi:Int}{va vb vr vd:Value}{tx:List UInt8}{rows:List Row}{dg:List Dg}
theorem RSk0.keep (h:RSk0 base B W ln fi va vb vr vd rows dg)(hb:Below W.heap.size W W'):RSk0 base B W' ln fi va vb vr vd rows dg:=
 ⟨h.lt,PY h.sz hb.size,h.blk.below hb,h.rw.keep hb,h.dg.keep hb⟩
theorem RSk.keep (h:RSk base B W ln fi va vb vr vd tx rows dg)(hb:Below W.heap.size W W'):RSk base B W' ln fi va vb vr vd tx rows dg:=
 ⟨h.toRSk0.keep hb,h.ad,h.bf.keep hb,h.bn⟩
theorem RSk0.set (h:RSk0 base B W ln fi va vb vr vd rows dg)(j:Nat)(u:Value){ln' fi':Int}{va' vb':Value}(hl:[.int .i64 ln,.int .i64 fi,va,vb,vr,vd].set j u=[.int .i64 ln',.int .i64 fi',va',vb',vr,vd]):
  RSk0 base B (W.setCell ⟨B,j,none⟩ u) ln' fi' va' vb' vr vd rows dg:=
 ⟨h.lt,by rw[eG];exact h.sz,hl▸h.blk.set j u,h.rw.held (aG.low W h.lt j u) (aG.low W h.lt j u),h.dg.held (aG.low W h.lt j u)⟩
theorem RSk.setNum (h:RSk base B W ln fi va vb vr vd tx rows dg)(j:Nat)(u:Value){ln' fi':Int}(hl:[.int .i64 ln,.int .i64 fi,va,vb,vr,vd].set j u=[.int .i64 ln',.int .i64 fi',va,vb,vr,vd]):
  RSk base B (W.setCell ⟨B,j,none⟩ u) ln' fi' va vb vr vd tx rows dg:=
 ⟨h.toRSk0.set j u hl,h.ad,h.bf.held (aG.low W h.lt j u),h.bn⟩
theorem RSk.own (h:RSk base B W ln fi va vb vr vd tx rows dg):RSk base B (W.setCell ⟨B,2,none⟩ (.pointer (some ⟨B,2,none⟩))) ln fi (.pointer (some ⟨B,2,none⟩)) vb vr vd tx rows dg:=
 ⟨h.toRSk0.set 2 _ rfl,.inr rfl,h.bf.held (aG.low W h.lt 2 _),h.bn⟩
theorem RSk0.shape (h:RSk0 base B W ln fi va vb vr vd rows dg):W.shape? B=some (131,6):=by
 have hb:W.heap[B]? =some (.cells #[.int .i64 ln,.int .i64 fi,va,vb,vr,vd] 131 (0,0)):=h.blk;simp[World.shape?,hb]
theorem RSk.grow (h:RSk base B W ln fi va vb vr vd tx rows dg)(hg:W.grownBy W' vb.ownBlock){vb':Value}{tx':List UInt8}(hb:Ng base W' vb' tx')(hn:tx'=[]→vb'=.slice none 0 0):
  Blk W' B 131 [.int .i64 ln,.int .i64 fi,va,vb,vr,vd]∧RSk base B (W'.setCell ⟨B,3,none⟩ vb') ln fi va vb' vr vd tx' rows dg∧Fr base B W (W'.setCell ⟨B,3,none⟩ vb'):=by
 have hlt:B<W.heap.size:=(Py.1 h.blk).1;have hne:vb.ownBlock≠some B:=fun e=>by have:=(h.bf.ty e).1;have:=h.lt;omega
 have hb0:Blk W' B 131 [.int .i64 ln,.int .i64 fi,va,vb,vr,vd]:=(hg.block B hlt (fun e=>hne e.symm)).trans h.blk;have s1:aG 33 base W W':=aG.grown hg (fun r hr=>by obtain⟨-,cur,e⟩:=h.bf.ty hr;exact⟨cur,_,e,by decide⟩);have s2:aG 9 base W W':=aG.grown hg (fun r hr=>by obtain⟨-,cur,e⟩:=h.bf.ty hr;exact⟨cur,_,e,by decide⟩);have s3:aG 46 base W W':=aG.grown hg (fun r hr=>by obtain⟨-,cur,e⟩:=h.bf.ty hr;exact⟨cur,_,e,by decide⟩);have h0:RSk0 base B W' ln fi va vb vr vd rows dg:=⟨h.lt,PY h.sz hg.size,hb0,h.rw.held s1 s2,h.dg.held s3⟩;refine⟨hb0,⟨h0.set 3 vb' rfl,h.ad,hb.held (aG.low W' h.lt 3 vb'),hn⟩,(Fr.grown h.sz hg (fun r hr=>?_)).trans (Fr.set _ _ _)⟩;obtain⟨q1,cur,e⟩:=h.bf.ty hr;exact⟨q1,cur,_,e⟩
end
theorem Ob:(Tryz.prog.info? 129).map (·.size)=some 2:=by kernel_rfl
theorem NT:liesAt Tryz.prog Tryz.prog.depth 131 (6 / Tryz.prog.cellsOf 131) 2 129 1=true:=by kernel_rfl
section
variable {base B:Nat}{ln fi:Int}{va vb vr vd:Value}{tx:List UInt8}{rows:List Row}{dg:List Dg}
theorem Ei (W:World)(h:RSk base B W ln fi va vb vr vd tx rows dg):
  Calls Tryz.prog 143 #[.pointer (some ⟨B,2,none⟩)] W fun e W'=>e=.returned (.tuple #[])∧RSk base B W' ln fi (.pointer (some ⟨B,2,none⟩)) vb vr vd tx rows dg∧Fr base B W W':=by
 obtain⟨j,hj,hjs⟩:=Option.map_eq_some_iff.1 Ob;have hsh:=h.shape;have c2:=h.blk.cell 2;have f2:=h.blk.frozen (j:=2) (by simp);rcases h.ad with rfl | rfl
 ·have c2':W.cell? ⟨B,2,none⟩=some (.pointer none):=c2
  have HO:=zH (And.intro h.own (Fr.set (base:=base) (B:=B) W 2 (.pointer (some ⟨B,2,none⟩))));have hv1:=Lib.run_to_unsafe W ⟨B,2,none⟩ Tryz.underlying127 Tryz.underlying229 hj (by rw[hjs];decide) hsh (by show 2<6;omega);have hv2:=Lib.run_from_unsafe W ⟨B,2,none⟩ Tryz.underlying229 Tryz.underlying127 hj hsh NT;clear h c2 hsh;go_enter Tryz.func143,Tryz.ntmps143
  go_wp2_with fail
  rw[run_callFunc_extern Tryz.func182 (by kernel_rfl) (by kernel_rfl) (by kernel_rfl) (e:=Extern.AbiNoEscape.same) (by kernel_rfl)];rw[Lib.run_noEscape];simp only[Result.andThen];rw[Oper.upon_value];go_wp2_with fail
  go_end0;exact⟨rfl,HO.out⟩
 ·have c2':W.cell? ⟨B,2,none⟩=some (.pointer (some ⟨B,2,none⟩)):=c2
  have HO:=zH (And.intro h (Fr.refl (base:=base) (B:=B) W));have hq:=Lib.run_neq_ptr_same (P:=Tryz.prog) W ⟨B,2,none⟩ Tryz.underlying127 hj;clear h c2 hsh f2;go_enter Tryz.func143,Tryz.ntmps143
  go_wp2_with fail
  go_end0;exact⟨rfl,HO.out⟩
noncomputable def Lb (args:Array Value):Sem Next:=do pure (.value (←Builtin.append_ #[104,9] 104 args))
theorem ww (cs:Array Bool)(args:Array Value):builtin .append #[104,9] 104 cs args=Lb args:=rfl
theorem Ir {W:World}(h:RSk base B W ln fi va vb vr vd tx rows dg)(s:List UInt8)(hl:tx.length+s.length≤1000000):
  ∃vb' w',(Lb #[vb,.string ⟨s.toArray⟩]).run Tryz.prog W=.ok (.value vb') w'∧Ng base w' vb' (tx++s)∧W.grownBy w' vb.ownBlock∧(tx++s=[]→vb'=.slice none 0 0)∧ ∃a n c,vb'=.slice a n c:=by
 obtain⟨i0,hi,hz0,hz1,hz2⟩:=Ql Oa;have hb:W.ownsRow base 5 1 vb tx.length (Lib.byteCells tx):=by
  have q:W.ownsRow base 5 1 vb tx.length (aA oG tx):=h.bf;rw[je]at q;exact q
 have hsz:=az s;obtain⟨v',w',hr,ho,hg,hn⟩:=Lib.run_append_own_string (P:=Tryz.prog) (w:=W) base 104 9 104 5 i0 Tryz.underlying104 Tryz.underlying9 hi hz0 hz1 hz2 vb tx.length (Lib.byteCells tx) hb ⟨s.toArray⟩ (by rw[hsz];unfold maxLen;omega) (by rw[hsz];omega) h.sz;have hc:Lib.byteCells tx++Lib.strCells ⟨s.toArray⟩=aA oG (tx++s):=by
  rw[dA,je,je];rfl
 have ho':Ng base w' v' (tx++s):=by
  show w'.ownsRow base 5 1 v' (tx++s).length (aA oG (tx++s));rw[←hc,PL,←hsz];exact ho
 refine⟨v',w',?_,ho',hg,fun he=>?_,?_⟩
 ·unfold Lb
  simp only[QD,QG,Qm,hr]
 ·obtain⟨h1,h2⟩:=List.append_eq_nil_iff.1 he
  exact hn.2 ⟨h.bn h1,by rw[hsz,h2];rfl⟩
 ·obtain⟨a,c,e⟩:=(ag.sl Io ho').len
  exact⟨_,_,_,e⟩
attribute [local go_sem ↓ high] ww
theorem kE (W:World)(h:RSk base B W ln fi va vb vr vd tx rows dg)(s:List UInt8)(hl:tx.length+s.length≤1000000):
  Calls Tryz.prog 110 #[.pointer (some ⟨B,2,none⟩),.string ⟨s.toArray⟩] W fun e W'=> ∃va' vb',e=.returned (.tuple #[.int .i64 (s.length:Int),.nilIface])∧RSk base B W' ln fi va' vb' vr vd (tx++s) rows dg∧Fr base B W W':=by
 have HC:=zH (Ei W h);have hsz:=az s;clear h;go_enter Tryz.func110,Tryz.ntmps110
 go_wp2_with fail
 refine HC.out.mono ?_;rintro e W1 ⟨rfl,h1,q1⟩;have c3:=h1.blk.cell 3;have c3':W1.cell? ⟨B,3,none⟩=some vb:=c3;obtain⟨vb',w2,k1,ho,hg,hn,a,n,c,rfl⟩:=Ir h1 s hl;obtain⟨b2,r2,g2⟩:=h1.grow hg ho hn;have d3:=b2.cell 3;have d3':w2.cell? ⟨B,3,none⟩=some vb:=d3;have f3:=b2.frozen (j:=3) (by simp);have R2:=zH (And.intro r2 (q1.trans g2));clear HC h1 q1 c3 ho hg hn b2 r2 g2 d3;go_wp2_with fail
 go_ret2
 exact⟨_,_,rfl,R2.out⟩
theorem CE (W:World)(h:RSk0 base B W ln fi va vb vr vd rows dg):
  Calls Tryz.prog 112 #[.pointer (some ⟨B,2,none⟩)] W fun e W'=>e=.returned (.tuple #[])∧RSk base B W' ln fi (.pointer none) (.slice none 0 0) vr vd [] rows dg∧Fr base B W W'∧aG 33 base W W':=by
 have c2:W.cell? ⟨B,2,none⟩=some va:=h.blk.cell 2;have f2:=h.blk.frozen (j:=2) (by simp);have h1:=h.set 2 (.pointer none) rfl;have c3:(W.setCell ⟨B,2,none⟩ (.pointer none)).cell? ⟨B,3,none⟩=some vb:=h1.blk.cell 3;have f3:=h1.blk.frozen (j:=3) (by simp);have h2:=h1.set 3 (.slice none 0 0) rfl;have HO:Hid (RSk base B ((W.setCell ⟨B,2,none⟩ (.pointer none)).setCell ⟨B,3,none⟩ (.slice none 0 0)) ln fi (.pointer none) (.slice none 0 0) vr vd [] rows dg∧Fr base B W ((W.setCell ⟨B,2,none⟩ (.pointer none)).setCell ⟨B,3,none⟩ (.slice none 0 0))∧aG 33 base W ((W.setCell ⟨B,2,none⟩ (.pointer none)).setCell ⟨B,3,none⟩ (.slice none 0 0))):=
  zH ⟨⟨h2,.inl rfl,ag.nil _ _,fun _=>rfl⟩,(Fr.set _ _ _).trans (Fr.set _ _ _),aG.trans (aG.low W h.lt 2 _) (aG.low _ h.lt 3 _)⟩
 have c3':W.cell? ⟨B,3,none⟩=some vb:=h.blk.cell 3;have f3':=h.blk.frozen (j:=3) (by simp);clear h h1 h2;go_enter Tryz.func112,Tryz.ntmps112
 go_wp2_with fail
 go_end0;exact⟨rfl,HO.out⟩
theorem Ah (W:World)(h:RSk base B W ln fi va vb vr vd tx rows dg):
  Calls Tryz.prog 111 #[.pointer (some ⟨B,2,none⟩)] W fun e W'=>e=.returned (.string ⟨tx.toArray⟩)∧RSk0 base B W' ln fi va vb vr vd rows dg∧Fr base B W W'∧aG 33 base W W':=by
 have c3:W.cell? ⟨B,3,none⟩=some vb:=h.blk.cell 3
 by_cases h0:tx=[]
 ·subst h0
  have hvb:=h.bn rfl;subst hvb;have hSD:(Builtin.unsafeSliceData_ #[104] 196 #[.slice none 0 0]).run Tryz.prog W.drew=.ok (.pointer none) W.drew:=rfl;have hUS:(Builtin.unsafeString_ #[196,3] 9 #[.pointer none,.int .i64 0]).run Tryz.prog W.drew=.ok (.string ⟨#[]⟩) W.drew:=Lib.run_unsafeString_none W.drew _ _ _ none;have HO:Hid (RSk0 base B W.drew ln fi va (.slice none 0 0) vr vd rows dg∧Fr base B W W.drew∧aG 33 base W W.drew):=zH ⟨h.toRSk0.keep (PG _ _).drew,Fr.drew W,fun _ _ _ _=>rfl⟩;clear h;go_enter Tryz.func111,Tryz.ntmps111
  go_wp2_with fail
  go_region
  all_goals
   go_wp2_with fail
   go_ret;exact⟨rfl,HO.out⟩
 ·have hb:W.ownsRow base 5 1 vb tx.length (Lib.byteCells tx):=by
   have q:W.ownsRow base 5 1 vb tx.length (aA oG tx):=h.bf;rw[je]at q;exact q
  have hl0:tx.length≠0:=by simpa using h0
  obtain⟨g,cap,cur,rfl,hbg,hg,hnc,hcm,hcs,htake⟩:∃g cap cur,vb=.slice (some ⟨g,0,none⟩) tx.length cap∧base≤g∧W.heap[g]? =some (.cells cur 5 (0,0))∧tx.length≤cap∧cap≤maxLen∧cur.size=cap*1∧cur.toList.take (tx.length*1)=Lib.byteCells tx:=by
   rcases hb.2 with⟨_,hz⟩| ⟨g,cap,cur,hv,r⟩
   ·exact absurd hz hl0
   ·exact⟨g,cap,cur,hv,r⟩
  have hSD:(Builtin.unsafeSliceData_ #[104] 196 #[.slice (some ⟨g,0,none⟩) tx.length cap]).run Tryz.prog W.drew=.ok (.pointer (some ⟨g,0,none⟩)) W.drew:=
   Lib.run_unsafeSliceData_row _ _ _ _ _ _ (by omega)
  have hUS:(Builtin.unsafeString_ #[196,3] 9 #[.pointer (some ⟨g,0,none⟩),.int .i64 (tx.length:Int)]).run Tryz.prog W.drew=.ok (.string ⟨tx.toArray⟩) (W.drew.freeze ⟨g,0,none⟩ tx.length):=by
   refine Lib.run_unsafeString_row W.drew 196 3 9 5 Tryz.underlying196 (by kernel_rfl) g cur.size (by have hg':W.drew.heap[g]? =some (.cells cur 5 (0,0)):=hg;simp[World.shape?,hg']) tx h0 (by omega) (by unfold maxLen at hcm;omega) ?_;intro j x hx;have hbd:W.drew.ownsRow base 5 1 (.slice (some ⟨g,0,none⟩) tx.length cap) tx.length (Lib.byteCells tx):=hb;have:=World.ownsRow.cells (g:=g) hbd rfl j (.int .u8 x.toNat) (by simp[Lib.byteCells,hx]);exact this
  have s1:aG 33 base W.drew (W.drew.freeze ⟨g,0,none⟩ tx.length):=fun k cu hk hc=>iq _ _ _ _ (by
   intro e;rw[show k=g from e]at hc;have hg':W.drew.heap[g]? =some (.cells cur 5 (0,0)):=hg;rw[hg']at hc;cases hc)
  have s2:aG 9 base W.drew (W.drew.freeze ⟨g,0,none⟩ tx.length):=fun k cu hk hc=>iq _ _ _ _ (by
   intro e;rw[show k=g from e]at hc;have hg':W.drew.heap[g]? =some (.cells cur 5 (0,0)):=hg;rw[hg']at hc;cases hc)
  have s3:aG 46 base W.drew (W.drew.freeze ⟨g,0,none⟩ tx.length):=fun k cu hk hc=>iq _ _ _ _ (by
   intro e;rw[show k=g from e]at hc;have hg':W.drew.heap[g]? =some (.cells cur 5 (0,0)):=hg;rw[hg']at hc;cases hc)
  have h1:=h.toRSk0.keep (PG W.heap.size W).drew;have HO:Hid (RSk0 base B (W.drew.freeze ⟨g,0,none⟩ tx.length) ln fi va (.slice (some ⟨g,0,none⟩) tx.length cap) vr vd rows dg∧Fr base B W (W.drew.freeze ⟨g,0,none⟩ tx.length)∧aG 33 base W (W.drew.freeze ⟨g,0,none⟩ tx.length)):=by
   have hlt:=h.lt;refine zH ⟨⟨h1.lt,?_,(iq _ _ _ _ (by simp only;omega)).trans h1.blk,h1.rw.held s1 s2,h1.dg.held s3⟩,(Fr.drew W).trans (Fr.freeze hbg _ hg),fun k cu h1 h2=>s1 k cu h1 h2⟩;exact PY h1.sz (Lib.below_freeze (PG base W.drew) (p:=⟨g,0,none⟩) hbg tx.length).size
  obtain⟨m,hm⟩:∃m,tx.length=m:=⟨_,rfl⟩;rw[hm]at hSD hUS c3 HO;have HML:=zH hm;clear h h1 hb s1 s2 s3 hl0 hnc htake hg hm;go_enter Tryz.func111,Tryz.ntmps111
  go_wp2_with fail
  go_region
  all_goals
   go_wp2_with fail
   go_ret;exact⟨rfl,by rw[HML.out];exact HO.out⟩
end
section
open Go.RowKit Go.Lib
theorem J3 (c:Int)(h:128≤c)(hv:vld c=true):∃(E:List UInt8) (m:Nat) (y:UInt8),Utf8.encode c=⟨E.toArray⟩∧E.length=m+1∧1≤m∧m≤3∧E[m]? =some y∧128≤y.toNat:=by
 have he:=encode_eq c;have key:∃(m:Nat) (y:UInt8),(encodeRune c).length=m+1∧1≤m∧m≤3∧(encodeRune c)[m]? =some y∧128≤y.toNat:=by
  simp only[vld,decide_eq_true_eq]at hv;have hy:128≤((128+c % 64).toNat.toUInt8).toNat:=by
   rw[show(128+c % 64).toNat.toUInt8=UInt8.ofNat (128+c % 64).toNat from rfl,UInt8.toNat_ofNat'];omega
  unfold encodeRune
  by_cases c2:c<2048
  ·rw[encodeRuneZ_two (by omega) (by omega)]
   exact⟨1,_,rfl,by omega,by omega,rfl,hy⟩
  ·by_cases c3:c<65536
   ·rw[encodeRuneZ_three (by omega)]
    exact⟨2,_,rfl,by omega,by omega,rfl,hy⟩
   ·rw[encodeRuneZ_four (by omega) (by omega)]
    exact⟨3,_,rfl,by omega,by omega,rfl,hy⟩
 obtain⟨m,y,r⟩:=key;refine⟨encodeRune c,m,y,?_,r⟩;rw[←he]
theorem wrap_i64 {q:Int}(h0:0≤q)(h1:q≤1000000000):IntKind.i64.wrap q=q:=by
 simp[IntKind.wrap,IntKind.bits,IntKind.signed];omega
theorem pI:∀(l:List UInt8) (c:UInt8),c∉l→Lib.indexByte l c= -1
 | [],_,_=>rfl
 | b::l,c,h=>by
  simp only[Qn,not_or]at h;unfold Lib.indexByte;rw[pI l c h.2];have:(b==c)=false:=by simpa using Ne.symm h.1
  rw[this];rfl
theorem vX (s:List UInt8)(hs:∀(j:Nat) x,s[j]? =some x→x.toNat<128)(w:World):
  Calls Tryz.prog 186 #[.string ⟨s.toArray⟩,.int .i32 65533] w fun e w'=>e=.returned (.int .i64 (-1))∧Below w.heap.size w w':=by
 have HS:=zH hs;have hsz:=az s;clear hs;go_enter Tryz.func186,Tryz.ntmps186
 go_wp2_with fail
 go_loopw [5,6] (fun i c wr=> ∃pos:Nat,wr=w.iter ⟨s.toArray⟩ pos∧pos≤s.length) (fun _ _ wr=>s.length-wr.iterPos w.heap.size)
 case atStart=>exact⟨0,rfl,by omega⟩
 case round=>
  obtain⟨pos,rfl,hp⟩:=hrel
  by_cases hlt:pos<s.length
  ·have hnx:∀ty,(Instr.next (.pointer (some ⟨w.heap.size,0,none⟩)) true ty).run Tryz.prog (w.iter ⟨s.toArray⟩ pos)=.ok (.tuple #[.bool true,.int .i64 (pos:Int),.int .i32 (s[pos].toNat:Int)]) (w.iter ⟨s.toArray⟩ (pos+1)):=fun ty=>by
    have hx:=HS.out pos s[pos] (Pz hlt);have h:=run_next_ascii (P:=Tryz.prog) w ⟨s.toArray⟩ pos ty (by rw[hsz];exact hlt) (by
     show(s.toArray[pos]'_).toNat<128
     simpa using hx)
    exact h
   have hne:((s[pos].toNat:Int)==65533)=false:=by
    have:=UInt8.toNat_lt s[pos];rw[Rq];omega
   obtain⟨x,hx⟩:∃x:Int,(s[pos].toNat:Int)=x:=⟨_,rfl⟩;rw[hx]at hnx hne;clear hx HS;go_wp2_with fail
   go_roundw
   case rel=>exact⟨pos+1,rfl,by omega⟩
   case measure=>simp;omega
  ·have hnx:=fun ty=>run_next_end (P:=Tryz.prog) w ⟨s.toArray⟩ pos ty (by rw[hsz];omega)
   clear HS;go_wp2_with fail
   go_ret;exact⟨rfl,(PG _ _).alloc (Px _) _⟩
noncomputable def Nk (x lo:Value):Sem Value:=Instr.slice 9 x (some lo) none none
theorem qQ (x lo:Value):Instr.slice 9 x (some lo) none none=Nk x lo:=rfl
attribute [local go_sem ↓ high] qQ
theorem uS (s:List UInt8)(hs:∀(j:Nat) x,s[j]? =some x→x.toNat<128)(c:Int)(h0:128≤c)(h1:c≤1114111)(hodd:c≠65533)(w:World):
  Calls Tryz.prog 186 #[.string ⟨s.toArray⟩,.int .i32 c] w fun e w'=>e=.returned (.int .i64 (-1))∧Below w.heap.size w w':=by
 have V1:=zH (fun W=>II c W);have hc0:(0:Int)≤c:=by omega
 have hc1:¬c<128:=by omega
 have hc2:(c==65533)=false:=by simpa using hodd
 have hsz:=az s
 cases hv:vld c
 ·rw[hv]at V1
  clear hv hs;go_enter Tryz.func186,Tryz.ntmps186
  go_wp2_with (go_at_call 214;refine(V1.out _).mono ?_;rintro e w' ⟨rfl,rfl⟩)
  go_ret;exact⟨rfl,PG _ _⟩
 ·rw[hv]at V1
  obtain⟨E,m,y,hE,hEl,hm1,hm3,hEy,hy⟩:=J3 c h0 hv;have HS:=zH hs;clear hs;go_enter Tryz.func186,Tryz.ntmps186
  go_wp2_with (go_at_call 214;refine(V1.out _).mono ?_;rintro e w' ⟨rfl,rfl⟩)
  have hconv:∀W,(convert 21 9 (.int .i32 c)).run Tryz.prog W=.ok (.string ⟨E.toArray⟩) W:=fun W=>by
   rw[run_convert_int_string W 21 9 .i32 c (by rw[Tryz.underlying21];rfl) Tryz.underlying9,hE]
  have hEz:=az E;rw[hEl]at hEz;go_step3
  go_wp2_with fail
  go_loopw [9,10] (fun i f wr=>wr=w∧i=.int .i64 (m:Int)∧f=.int .i64 0) (fun _ _ _=>0)
  case atStart=>exact⟨rfl,by go_num,rfl⟩
  case round=>
   obtain⟨rfl,rfl,rfl⟩:=hrel
   by_cases hlt:m<s.length
   ·obtain⟨x,hx⟩:∃x,s[m]? =some x:=⟨s[m],Pz hlt⟩
    have hx1:=HS.out m x hx;have k1:=gZ s m x hx;have k2:=gZ E m y hEy;have k3:∀W,(Nk (.string ⟨s.toArray⟩) (.int .i64 ((m+1:Nat):Int))).run Tryz.prog W=.ok (.string ⟨(s.drop (m+1)).toArray⟩) W:=dR s (m+1) (by omega);have c3:((m+1:Nat):Int)=(m:Int)+1:=by omega
    rw[c3]at k3;have hne:((x.toNat:Int) != (y.toNat:Int))=true:=by
     rw[bne_iff_ne];omega
    have hmem:y∉s.drop (m+1):=by
     intro hm;obtain⟨j,hj⟩:=QP.1 hm;rw[QE]at hj;have:=HS.out _ y hj;omega
    have I1:Hid (∀W,Calls Tryz.prog 213 #[.string ⟨(s.drop (m+1)).toArray⟩,.int .u8 (y.toNat:Int)] W fun e w'=>e=.returned (.int .i64 (-1))∧w'=W):=zH fun W=>by
     have h:=vY (s.drop (m+1)) (y.toNat:Int) W;have e:((y.toNat:Int)).toNat.toUInt8=y:=by simp
     rw[e,pI _ _ hmem]at h;exact h
    obtain⟨ds,hds⟩:∃ds,s.drop (m+1)=ds:=⟨_,rfl⟩;rw[hds]at k3 I1;clear hx hmem hds HS hx1 c3;have hlt':(m:Int)<(s.length:Int):=by omega
    have hw:IntKind.i64.wrap ((m:Int)+1)=(m:Int)+1:=wrap_i64 (by omega) (by omega);go_wp2_with fail
    go_step3
    go_wp2_with fail
    go_quiet (fail)
    generalize hwd:World.drewN wr _=wd;have HB:Hid (Below wr.heap.size wr wd):=zH (by rw[←hwd];exact below_drewN (PG _ _) _);clear hwd;go_wp2_with fail
    go_quiet (first | (go_at_call 213;exact Calls.quiet_of_same (I1.out _)))
    go_wp2_with fail
    try rw[QJ]
    repeat(change Exit.noGoto _ Exit.ret _ _;rw[QJ])
    go_ret;exact⟨rfl,below_drewN HB.out _⟩
   ·clear HS
    go_wp2_with fail
    try rw[QJ]
    go_ret;exact⟨rfl,PG _ _⟩
end
section
open Go.RowKit Go.Lib
theorem DF {s:List UInt8}{pos:Nat}{x:UInt8}(hx:s[pos]? =some x)(h:128≤x.toNat):
  (128≤(Utf8.decode ⟨s.toArray⟩ pos).1∧(Utf8.decode ⟨s.toArray⟩ pos).1≤1114111)∧1≤(Utf8.decode ⟨s.toArray⟩ pos).2∧pos+(Utf8.decode ⟨s.toArray⟩ pos).2≤s.length∧ ∀j y,pos≤j→j<pos+(Utf8.decode ⟨s.toArray⟩ pos).2→s[j]? =some y→128≤y.toNat:=by
 obtain⟨hp,hx'⟩:=Pw.1 hx;have e:=decodeL_drop ⟨s.toArray⟩ pos;have ed:(⟨s.toArray⟩:ByteArray).data.toList=s:=rfl;rw[ed]at e;rw[←e];have hne:s.drop pos≠ []:=by
  intro h0;have:=PR List.length h0;rw[PU,PQ]at this;omega
 have hle:=decodeL_le _ hne;rw[PU]at hle;have hr:=decodeL_rune (s.drop pos);have hw:=decodeL_width (s.drop pos);have g0:(s.drop pos).getD 0 0=x:=by rw[List.getD,QE,Qr,hx];rfl
 have gi:∀i y,s[pos+i]? =some y→(s.drop pos).getD i 0=y:=fun i y hy=>by rw[List.getD,QE,hy];rfl
 have hs:=decodeN_shape (s.drop pos).length ((s.drop pos).getD 0 0).toNat ((s.drop pos).getD 1 0).toNat ((s.drop pos).getD 2 0).toNat ((s.drop pos).getD 3 0).toNat;rw[←decodeL_N,g0]at hs;have h256:=UInt8.toNat_lt x;refine⟨⟨?_,hr⟩,hw,by omega,fun j y h1 h2 hy=>?_⟩
 ·rcases hs with⟨a,-⟩| ⟨a,b,c,d,f⟩| ⟨a,b,c,d,f,g,f'⟩| ⟨a,b,c,d,f,g,i,f'⟩| f
  ·omega
  ·rw[f];simp only;omega
  ·rw[f'];simp only;omega
  ·rw[f'];simp only;omega
  ·rw[f];simp
 ·obtain⟨i,rfl⟩:∃i,j=pos+i:=⟨j-pos,by omega⟩
  have hg:=gi i y hy;have h2':i<(decodeL (s.drop pos)).2:=by omega
  by_cases hi0:i=0
  ·subst hi0
   rw[Qr,hx]at hy
   cases hy
   exact h
  ·rcases hs with⟨a,-⟩| ⟨a,b,c,d,f⟩| ⟨a,b,c,d,f,g,f'⟩| ⟨a,b,c,d,f,g,i',f'⟩| f
   ·omega
   ·rw[f]at h2'
    simp only at h2';obtain rfl:i=1:=by omega
    rw[hg]at c;omega
   ·rw[f']at h2'
    simp only at h2';rcases(by omega:i=1∨i=2)with rfl | rfl
    ·rw[hg]at c;omega
    ·rw[hg]at d;omega
   ·rw[f']at h2'
    simp only at h2';rcases(by omega:i=1∨i=2∨i=3)with rfl | rfl | rfl
    ·rw[hg]at c;omega
    ·rw[hg]at d;omega
    ·rw[hg]at f;omega
   ·rw[f]at h2'
    simp only at h2';omega
theorem CW {s cs:List UInt8}{pos k:Nat}(h:NoAny s cs pos)(ha:∀(j:Nat) b,cs[j]? =some b→b.toNat<128)(hb:∀j y,pos≤j→j<pos+k→s[j]? =some y→128≤y.toNat):NoAny s cs (pos+k):=fun j b hj hjb=>by
 by_cases hlt:j<pos
 ·exact h j b hlt hjb
 ·have h1:=hb j b (by omega) hj hjb
  cases hc:cs.contains b
  ·rfl
  ·exfalso
   have hm:b∈cs:=by simpa using hc
   obtain⟨i,hi⟩:=QP.1 hm;have:=ha i b hi;omega
attribute [local go_sem ↓ high] qQ
theorem yY (s cs:List UInt8)(w:World)(h2:2≤cs.length)(hcs:cs.length≤1000)(hs:s.length≤1000000)(ha:∀(j:Nat) b,cs[j]? =some b→b.toNat<128):
  Calls Tryz.prog 149 #[.string ⟨s.toArray⟩,.string ⟨cs.toArray⟩] w fun e w'=>e=.returned (.int .i64 (Lib.indexAny s cs))∧Below w.heap.size w w':=by
 by_cases h8:8<s.length
 ·exact vZ s cs w h2 h8 (by omega) (by omega) ha
 ·have hsz:=az s
  have hcz:=az cs;have HA:=zH ha;have hemp:cs.isEmpty=false:=by
   cases cs with
   | nil=>simp at h2
   | cons _ _=>rfl
  have hn1:((cs.length:Int)==1)=false:=Rq.2 (by omega);have U1:Hid (∀W,Calls Tryz.prog 187 #[.int .i64 (s.length:Int)] W fun e w'=>e=.returned (.bool false)∧W=w'):=zH fun W=>by
   have h:=Cf (s.length:Int) W;rw[P8 (by omega)]at h;exact h.mono fun e w' ⟨a,b⟩=>⟨a,b.symm⟩
  have HN:=zH (fun(h:NoAny s cs s.length)=>indexAny_none h);have HH:=zH (fun i x (h:NoAny s cs i) hx hc=>indexAny_hit (s:=s) (chars:=cs) (i:=i) (x:=x) h hx hc);obtain⟨R,hR⟩:∃R,Lib.indexAny s cs=R:=⟨_,rfl⟩;rw[hR]at HN HH⊢;clear hR ha;go_enter Tryz.func149,Tryz.ntmps149
  go_wp2_with (go_at_call 187;refine(U1.out _).mono ?_;rintro e w' ⟨rfl,rfl⟩)
  go_loopw [9,10] (fun i c wr=> ∃pos:Nat,wr.heap[w.heap.size]? =some (.stringIter ⟨s.toArray⟩ pos)∧Below w.heap.size w wr∧pos≤s.length∧NoAny s cs pos) (fun _ _ wr=>s.length-wr.iterPos w.heap.size)
  case atStart=>exact⟨0,World.iter_heap _ _ _,(PG _ _).alloc (Px _) _,by omega,NoAny.zero _ _⟩
  case round=>
   obtain⟨pos,hit,hbw,hp,hno⟩:=hrel;have HO:=zH hno;have HBW:=zH hbw;have hsw:=hbw.size;have HIT:=zH hit;clear hno
   by_cases hlt:pos<s.length
   ·have hps:pos<(⟨s.toArray⟩:ByteArray).size:=by rw[hsz];exact hlt
    obtain⟨x,hx⟩:∃x,s[pos]? =some x:=⟨s[pos],Pz hlt⟩;have hxx:(⟨s.toArray⟩:ByteArray)[pos]'hps=x:=by
     have:=(Pw.1 hx).2;show s.toArray[pos]'_=x
     simpa using this
    by_cases h128:x.toNat<128
    ·have hnx:=fun ty=>run_next_ascii_at (P:=Tryz.prog) wr w.heap.size ⟨s.toArray⟩ pos ty hit hps (by rw[hxx];exact h128)
     rw[hxx]at hnx;have I1:Hid (∀W,Calls Tryz.prog 186 #[.string ⟨cs.toArray⟩,.int .i32 (x.toNat:Int)] W fun e w'=>e=.returned (.int .i64 (Lib.indexByte cs x))∧W=w'):=zH fun W=>by
      have h:=rM cs (x.toNat:Int) W (by omega) (by omega);have e:((x.toNat:Int)).toNat.toUInt8=x:=by simp
      rw[e]at h;exact h.mono fun e w' ⟨a,b⟩=>⟨a,b.symm⟩
     have hcon:=contains_iff_indexByte cs x;have hit2:=Lib.iterAt_heap wr w.heap.size ⟨s.toArray⟩ pos (pos+1) hit;have hb2:=Lib.below_iterAt hbw (k:=w.heap.size) (Px _) ⟨s.toArray⟩ (pos+1);have HX:=zH hx
     cases hin:cs.contains x
     ·rw[hin]at hcon
      have hlt0:¬((0:Int)≤Lib.indexByte cs x):=of_decide_eq_false hcon.symm;have HY:=zH (HO.out.succ hx hin);have H2:=zH (And.intro hit2 hb2);generalize Lib.indexByte cs x=ib at I1 hlt0;clear hcon hin hx hxx hit hbw hit2 hb2 HO HN HH;go_wp2_with (go_at_call 186;refine(I1.out _).mono ?_;rintro e w' ⟨rfl,rfl⟩)
      go_roundw
      case rel=>exact⟨pos+1,H2.out.1,H2.out.2,by omega,HY.out⟩
      case measure=>simp only[World.iterPos,H2.out.1,HIT.out];omega
     ·rw[hin]at hcon
      have hge0:(0:Int)≤Lib.indexByte cs x:=Rc hcon.symm;have e:=HH.out pos x HO.out hx hin;subst e;have H2:=zH hb2;generalize Lib.indexByte cs x=ib at I1 hge0;clear hcon hin hx hxx hit hbw hit2 hb2 HO HN HH;go_wp2_with (go_at_call 186;refine(I1.out _).mono ?_;rintro e w' ⟨rfl,rfl⟩)
      go_ret;exact⟨rfl,H2.out⟩
    ·have hnx:=fun ty=>run_next_any_at (P:=Tryz.prog) wr w.heap.size ⟨s.toArray⟩ pos ty hit hps
     obtain⟨⟨c0,c1⟩,k1,k2,kb⟩:=DF hx (by omega);have HY:=zH (CW HO.out HA.out kb);have hit2:=Lib.iterAt_heap wr w.heap.size ⟨s.toArray⟩ pos (pos+(Utf8.decode ⟨s.toArray⟩ pos).2) hit;have hb2:=Lib.below_iterAt hbw (k:=w.heap.size) (Px _) ⟨s.toArray⟩ (pos+(Utf8.decode ⟨s.toArray⟩ pos).2);generalize Utf8.decode ⟨s.toArray⟩ pos=dk at*;obtain⟨dc,dn⟩:=dk;simp only at hnx c0 c1 k1 k2 HY hit2 hb2;have I1:Hid (∀W,Calls Tryz.prog 186 #[.string ⟨cs.toArray⟩,.int .i32 (dc:Int)] W fun e w'=>e=.returned (.int .i64 (-1))∧Below W.heap.size W w'):=zH fun W=>by
      by_cases ho:(dc:Int)=65533
      ·rw[ho];exact vX cs HA.out W
      ·exact uS cs HA.out dc (by omega) (by omega) ho W
     have H2:=zH (And.intro hit2 hb2);obtain⟨W2,hW2⟩:∃W2,wr.iterAt w.heap.size ⟨s.toArray⟩ (pos+dn)=W2:=⟨_,rfl⟩;rw[hW2]at hnx H2;clear hx hxx hit hbw hit2 hb2 HO HN HH kb hW2;go_wp2_with fail
     refine(I1.out _).mono ?_;rintro e w1 ⟨rfl,b1⟩;have hlt2:w.heap.size<W2.heap.size:=(Py.1 H2.out.1).1;have H3:Hid (w1.heap[w.heap.size]? =some (.stringIter ⟨s.toArray⟩ (pos+dn))∧Below w.heap.size w w1):=
      zH ⟨(b1.block _ hlt2).trans H2.out.1,H2.out.2.trans (b1.mono (by omega))⟩
     clear b1 hnx;go_wp2_with fail
     go_roundw
     case rel=>exact⟨pos+dn,H3.out.1,H3.out.2,by omega,HY.out⟩
     case measure=>simp only[World.iterPos,H3.out.1,HIT.out];omega
   ·obtain rfl:pos=s.length:=by omega
    have hnx:=fun ty=>run_next_end_at (P:=Tryz.prog) wr w.heap.size ⟨s.toArray⟩ s.length ty hit (by rw[hsz];omega)
    have e:=HN.out HO.out;subst e;clear hit hbw HO HN HH;go_wp2_with fail
    go_ret;exact⟨rfl,HBW.out⟩
end
section
open Go.Shelf Go.RowKit Go.Lib
def yR:Go.Shelf.Ren:=⟨fun | 16=>151 | n=>n,fun | 24=>22 | 9=>9 | 4=>4 | n=>n,fun | n=>n⟩
theorem G6:Go.Proofs.Lays2.n16 Tryz.prog yR:={
 mixed:=by kernel_rfl
 f16:=Tryz.func151.trans (PR some (by kernel_rfl))
 t4:=Tryz.underlying4
 a4:=Tryz.isAgg4
 z4:=Tryz.sizeOf4
 v4:=Tryz.zeroValue4
 t9:=Tryz.underlying9
 a9:=Tryz.isAgg9
 z9:=Tryz.sizeOf9
 v9:=Tryz.zeroValue9
 t24:=Tryz.underlying22
 a24:=Tryz.isAgg22
 z24:=Tryz.sizeOf22
 v24:=Tryz.zeroValue22
 i9:=by kernel_rfl}
theorem Ib {v:Value}{l:List (List UInt8)}(w:World)(h:Ss w v l)(h1:0<l.length)(hl:l.length≤100000):
  Calls Tryz.prog 151 #[v] w fun e w'=> ∃v',e=.returned v'∧iN w.heap.size w' v' l∧Below w.heap.size w w':=by
 obtain⟨a,cap,rfl,hc,hr⟩:=h;obtain⟨x,hx⟩:∃x,l[0]? =some x:=⟨l[0],Pz h1⟩;obtain⟨b,off,rfl,-⟩:=hr 0 x hx;have hz:(l.map fun b:List UInt8=>(⟨b.toArray⟩:ByteArray)).length=l.length:=by simp
 refine(Any.slices_Clone_string G6 b off l.length cap (l.map fun b:List UInt8=>(⟨b.toArray⟩:ByteArray)) w (by rw[hz];exact Px _) (by omega) (fun j hj=>?_)).mono ?_
 ·rw[hz]at hj
  obtain⟨b',off',e,h0⟩:=hr j l[j] (Pz hj)
  cases e
  have:=h0 0 _ rfl;rw[RB,Qr]at this;rw[this];simp[List.getD,hj]
 ·rintro e w' ⟨v',rfl,ho,-,hb⟩
  refine⟨v',rfl,?_,hb⟩;have e2:((l.map fun b:List UInt8=>(⟨b.toArray⟩:ByteArray)).take l.length).map Value.string=aA jw l:=by
   rw[QN (by rw[hz];exact Px _),List.map_map];clear ho hr hx hz h1 hl hc
   induction l with
   | nil=>rfl
   | cons c t ih=>
    rw[eO,Qo,ih];rfl
  rw[e2]at ho;exact ho
end
def O5 {α:Type}(F:Fence)(n:Nat)(P:Program)(g:Nat)(lb:Array Value)(encs:α→Array Value)(Kp:World→World→Prop)(S Sp:List α→Prop)(C:Nat)(W:World):Prop:=
 ∀(l:Nat) (J:List α→World→Prop) (W1:World),Kp W W1→(∀s A A' row,J s A→A.grownBy A' row→(∀r,row=some r→r=C)→J s A')→
  (∀pre x W2,J pre W2→Sp (pre++ [x])→YieldAt F (n-1) P l (encs x) W2 fun e W'=>e=.returned (.bool true)∧J (pre++ [x]) W'∧Kp W2 W')→
  J [] W1→CallsIn F n P g (#[.func (.yield l) #[] #[]]++lb) W1 fun e W'=>(∃v,e=.returned v)∧ ∃xs,S xs∧J xs W'
section
variable {F:Fence}{n:Nat}{P:Program}
theorem Gc {α:Type}{g:Operand}{ps:Array Tmp}{assign body:Code}{Q:Exit→Act→World→Prop}{a:Act}{w:World}
  (hro:F.round=none) (h1:1≤n) {gf:Nat} {lb:Array Value} (hg:a.eval g=.func (.func gf) #[] lb) (hFg:F.fn gf) (eg:∀args w,(callFunc gf args).run P w=.ok (.enter gf args) w)
  {encs:α→Array Value} {Kp:World→World→Prop} {S Sp:List α→Prop} {C:Nat} (hseq:O5 F (n-1) P gf lb encs Kp S Sp C w) (hC:C<w.heap.size)
  (hKt:∀{A B D:World},Kp A B→Kp B D→Kp A D) (hKr:∀A,Kp A A) (hKb:∀(W:World) (l:Nat) (o':Obj),w.heap.size≤l→Kp W (W.putObj l o')) (hKa:∀(W:World) (o:Obj),w.heap.size≤W.heap.size→Kp W (W.alloc o))
  (hps:∀x,(encs x).size=ps.size)
  (I:List α→World→Prop) (hI:∀s A B row,I s A→A.grownBy B row→(∀r,row=some r→r=C∨(w.heap.size≤r∧ ∃o:Obj,A.heap[r]? =some o∧o.isCells=false))→I s B) (h0:I [] w) (a₁:α→Act)
  (hassign:∀(l:Nat) (x:α) (W:World) (K:Act→World→Prop),K (a₁ x) W→assign.wpIn (F.inRound l) (n-1-1) P (Exit.then K (fun _ _ _=>False)) {tmps:=(ps.zip (encs x)).foldl (fun t (p,v)=>t.setIfInBounds p v) a.tmps,defers:=[] } W)
  (hbody:∀(l:Nat) (pre:List α) (x:α) (W:World),I pre W→Sp (pre++ [x])→body.wpIn (F.inRound l) (n-1-1) P (ownPostK Kp I (fun _ _ _=>False) (pre++ [x]) W) (a₁ x) W)
  (hdone:∀(D:Nat) (xs:List α) (W:World),w.heap.size≤D→S xs→I xs W→W.heap[D]? =some (.deferred (some []))→Q .normal {a with defers:={target:= .collected D,args:= #[] }::a.defers} W):
  (Code.rangeFunc g ps assign body).wpIn F n P Q a w:=by
 refine wpIn_rangeFunc ?_;intro fn hfn;rw[hro];obtain⟨rec,hrec⟩:∃rec:LoopState→Option Code→Loop,rec=fun st pe=>{state:=st,pending:=pe,fn,tmps:=a.tmps,params:=ps,assign,body,defers:=w.heap.size}:=⟨_,rfl⟩
 have hgrA:∀(W:World) (o:Obj),W.grownBy (W.alloc o) none:=fun W o=>⟨rfl,rfl,rfl,by simp,fun k hk _=>Rh W o k hk⟩
 obtain⟨W1,hW1⟩:∃W1,(w.alloc (.deferred (some []))).alloc (.loop (rec .ready none))=W1:=⟨_,rfl⟩;have hL1:W1.heap[w.heap.size+1]? =some (.loop (rec .ready none)):=by
  rw[←hW1];have:=World.alloc_heap_new (w.alloc (.deferred (some []))) (.loop (rec .ready none));rwa [PS]at this
 have hD1:W1.heap[w.heap.size]? =some (.deferred (some [])):=by
  rw[←hW1];exact(Rh _ _ _ (by simp)).trans (World.alloc_heap_new w _)
 have hI1:I [] W1:=by
  rw[←hW1];exact hI _ _ _ none (hI _ _ _ none h0 (hgrA _ _) (fun r e=>by cases e)) (hgrA _ _) (fun r e=>by cases e)
 have hK1:Kp w W1:=by rw[←hW1];exact hKt (hKa w _ (Px _)) (hKa _ _ (by simp))
 have putI:∀s (W:World) (l:Nat) (o o':Obj),I s W→w.heap.size≤l→W.heap[l]? =some o→o.isCells=false→I s (W.putObj l o'):=fun s W l o o' hi hl ho hc=>
  hI _ _ _ (some l) hi (grownBy_putObj' W l o') (fun r e=>by cases e;exact .inr ⟨hl,o,ho,hc⟩)
 refine⟨w.heap.size+1,[{target:= .collected w.heap.size,args:= #[] }],W1,{target:= .fn (.func gf) lb,args:= #[.func (.yield (w.heap.size+1)) #[] #[]] },W1,gf,
  #[.func (.yield (w.heap.size+1)) #[] #[]]++lb,W1,?_,?_,?_,?_,fun _=>h1,?_⟩
 ·rw[←hW1,hrec];exact run_enterLoop_outer _ _ _ _ _
 ·simp only[resolve,hg]
  simp[go_sem]
 ·intro f' hf';simp[Target.leads]at hf';subst hf';exact hFg
 ·simp[invoke,go_sem,eg]
 ·refine(hseq (w.heap.size+1) (fun pre W=>I pre W∧W.heap[w.heap.size+1]? =some (.loop (rec .ready none))∧W.heap[w.heap.size]? =some (.deferred (some []))) W1 hK1
   (fun s A B row hs hg' hr=>⟨hI s A B row hs.1 hg' (fun r e=> .inl (hr r e)),(hg'.block _ (Py.1 hs.2.1).1 (fun e=>by have:=hr _ e.symm;omega)).trans hs.2.1,
    (hg'.block _ (Py.1 hs.2.2).1 (fun e=>by have:=hr _ e.symm;omega)).trans hs.2.2⟩) ?_ ⟨hI1,hL1,hD1⟩).mono ?_
  ·rintro pre x W ⟨hi,hl,hk⟩ hlen
   have hlt:w.heap.size+1<W.heap.size:=(Py.1 hl).1;have hy:=run_yield (P:=P) (args:=encs x) hl (by rw[hrec];exact hps x);rw[hrec]at hy;refine⟨fn,_,assign,body,hy,roundIn_of_wpIn hfn (hassign _ x W _ ?_)⟩;refine⟨_,run_beginRound hl (by rw[hrec]),?_⟩;have hl2:(W.putObj (w.heap.size+1) (.loop {rec .ready none with state:= .busy})).heap[w.heap.size+1]? =some (.loop {rec .ready none with state:= .busy}):=World.putObj_heap_same hlt;have hk2:(W.putObj (w.heap.size+1) (.loop {rec .ready none with state:= .busy})).heap[w.heap.size]? =some (.deferred (some [])):=(World.putObj_heap_other (by omega)).trans hk;refine wpIn_mono (hbody _ pre x _ (putI _ _ _ _ _ hi (by omega) hl rfl) hlen) ?_;rintro e a3 W3 hp
   cases e with
   | normal=>
    obtain⟨hk3,hkp3,hi3⟩:=hp;have hl3:=hk3.same _ _ hl2 rfl;have hk4:=hk3.same _ _ hk2 rfl;have hlt3:w.heap.size+1<W3.heap.size:=(Py.1 hl3).1;have hr:=run_endRound (P:=P) none hl3;rw[hrec]at hr;refine⟨_,_,hr,rfl,⟨putI _ _ _ _ _ hi3 (by omega) hl3 rfl,?_,(World.putObj_heap_other (by omega)).trans hk4⟩,hKt (hKt (hKb _ _ _ (by omega)) hkp3) (hKb _ _ _ (by omega))⟩;rw[World.putObj_heap_same hlt3,hrec];rfl
   | ret=>exact hp.2.elim
   | exit id=>exact hp.2.elim
   | goto t=>exact hp.2.elim
   | panic ch=>exact hp.elim
   | outgrown=>exact hp.elim
  ·rintro e W2 ⟨⟨v,rfl⟩,xs,hS,hi,hl,hk⟩
   have he:=run_endLoop (P:=P) hl (by rw[hrec];simp);rw[hrec]at he;exact⟨none,_,he,hdone _ xs _ (Px _) hS (putI _ _ _ _ _ hi (by omega) hl rfl) ((World.putObj_heap_other (by omega)).trans hk)⟩
end
section
attribute [local go_sem] QX
def pcs:List UInt8→List (List UInt8)
 | []=>[[]]
 | c::t=>if c=10 then []::pcs t else(c::(pcs t).headD [])::(pcs t).tail
theorem NL:∀l:List UInt8,pcs l≠ []
 | []=>by simp[pcs]
 | c::t=>by unfold pcs;split<;>simp
theorem Ar:∀l:List UInt8,Lib.indexByte l 10= -1→pcs l=[l]
 | [],_=>rfl
 | c::t,h=>by
  have hge:=Lib.indexByte_ge t 10;unfold Lib.indexByte at h
  by_cases hc:c=10
  ·subst hc;simp at h
  ·have h1:(c==10)=false:=by simpa using hc
   rw[h1]at h;simp only[Qf,Q8]at h
   by_cases hm:Lib.indexByte t 10= -1
   ·unfold pcs
    rw[PO hc,Ar t hm];rfl
   ·have h2:(Lib.indexByte t 10== -1)=false:=by simpa using hm
    rw[h2]at h;simp only[Qf,Q8]at h;omega
theorem Aq:∀(l:List UInt8) (i:Nat),Lib.indexByte l 10=(i:Int)→i<l.length∧pcs l=l.take i::pcs (l.drop (i+1))
 | [],i,h=>absurd h (by show¬((-1:Int)=(i:Int));omega)
 | c::t,i,h=>by
  have hge:=Lib.indexByte_ge t 10;unfold Lib.indexByte at h
  by_cases hc:c=10
  ·subst hc
   simp at h;obtain rfl:i=0:=by omega
   refine⟨by simp,?_⟩
   conv=>lhs;unfold pcs
   simp
  ·have h1:(c==10)=false:=by simpa using hc
   rw[h1]at h;simp only[Qf,Q8]at h
   by_cases hm:Lib.indexByte t 10= -1
   ·rw[hm]at h;first | (simp at h;done)| (simp at h;omega)
   ·have h2:(Lib.indexByte t 10== -1)=false:=by simpa using hm
    rw[h2]at h;simp only[Qf,Q8]at h;obtain⟨k,rfl⟩:∃k,i=k+1:=⟨i-1,by omega⟩;obtain⟨h3,h4⟩:=Aq t k (by omega);refine⟨by simp;omega,?_⟩
    conv=>lhs;unfold pcs
    rw[PO hc,h4];simp
theorem EL:∀l:List UInt8,(pcs l).flatten.length+(pcs l).length=l.length+1
 | []=>rfl
 | c::t=>by
  have ih:=EL t;unfold pcs
  split
  ·simp only[List.flatten_cons,PL,PQ,PI];omega
  ·cases h:pcs t with
   | nil=>exact absurd h (NL t)
   | cons a r=>
    rw[h]at ih;simp only[List.headD_cons,List.tail_cons,List.flatten_cons,PL,PI]at ih⊢;omega
def KpB (base B:Nat)(A A':World):Prop:= ∀k,k<base→k≠B→A'.heap[k]? =A.heap[k]?
def zt (C:Nat)(W:World):Nat:=match W.cell? ⟨C,0,none⟩with
 | some v=>gV v
 | none=>0
theorem vH {C:Nat}{W:World}{b:List UInt8}{t:TypeId}(h:Blk W C t [.string ⟨b.toArray⟩]):zt C W=b.length:=by
 unfold zt;rw[h.cell 0];exact dP b
theorem yt (s:List UInt8)(w:World):Calls Tryz.prog 73 #[.string ⟨s.toArray⟩,.string ⟨#[10]⟩] w fun e w'=>
  e=.returned (.func (.func 138) #[] #[.pointer (some ⟨w.heap.size+1,0,none⟩),.pointer (some ⟨w.heap.size,0,none⟩),.pointer (some ⟨w.heap.size+2,0,none⟩)])∧
  ((w.alloc (.cells #[.string ⟨s.toArray⟩] 9)).alloc (.cells #[.string ⟨#[10]⟩] 9)).alloc (.cells #[.int .i64 0] 3)=w':=by
 have hmf:∀(fn:Fn) (first cap:Array Value) (w:World),(Instr.makeFunc fn first cap).run Tryz.prog w=.ok (.func fn first cap) w:=fun _ _ _ _=>rfl
 go_enter Tryz.func73,Tryz.ntmps73
 go_wp2
 go_ret;exact⟨rfl,rfl⟩
theorem GX (m base B C:Nat)(s:List UInt8)(w:World)(hs:s.length≤100000)(hB:B<C)(hC:C+2<base)
  (b0:Blk w C 9 [.string ⟨s.toArray⟩]) (b1:Blk w (C+1) 9 [.string ⟨#[10]⟩]) (b2:Blk w (C+2) 3 [.int .i64 0]):
  O5 Fence.wide m Tryz.prog 138 #[.pointer (some ⟨C+1,0,none⟩),.pointer (some ⟨C,0,none⟩),.pointer (some ⟨C+2,0,none⟩)] zk (KpB base B) (fun xs=>xs=pcs s) (fun q=>q<+:pcs s) C w:=by
 intro l J W1 hK hJ hY h0;have c0:Blk W1 C 9 [.string ⟨s.toArray⟩]:=(hK C (by omega) (by omega)).trans b0;have c1:Blk W1 (C+1) 9 [.string ⟨#[10]⟩]:=(hK (C+1) (by omega) (by omega)).trans b1;have c2:Blk W1 (C+2) 3 [.int .i64 0]:=(hK (C+2) (by omega) (by omega)).trans b2;have q1:W1.cell? ⟨C+1,0,none⟩=some (.string ⟨#[10]⟩):=c1.cell 0;have H0:=zH h0;have HC0:=zH c0;have HC1:=zH c1;have HC2:=zH c2;have HJ:=zH hJ;have HY:=zH hY;clear b0 b1 b2 hK h0 c0 c1 c2 hJ hY;refine callsIn_of_wp Tryz.func138 rfl trivial ?_ rfl;simp only[Tryz.ntmps138,Q0,PI,PQ,Nat.reduceAdd,Nat.reduceSub,QT,QS,Q5,QU,Qt,Qe]
 gi_wp2_with fail
 gi_loopw [7,8] (fun i f wr=> ∃(pre:List (List UInt8)) (rest:List UInt8),Blk wr C 9 [.string ⟨rest.toArray⟩]∧Blk wr (C+1) 9 [.string ⟨#[10]⟩]∧Blk wr (C+2) 3 [.int .i64 0]∧J pre wr∧pre++pcs rest=pcs s∧rest.length≤s.length) (fun _ _ wr=>zt C wr)
 case atStart=>exact⟨[],s,HC0.out,HC1.out,HC2.out,H0.out,rfl,Px _⟩
 case round=>
  obtain⟨pre,rest,d0,d1,d2,hj,hp,hr⟩:=hrel;have q0:wr.cell? ⟨C,0,none⟩=some (.string ⟨rest.toArray⟩):=d0.cell 0;have q1:wr.cell? ⟨C+1,0,none⟩=some (.string ⟨#[10]⟩):=d1.cell 0;have q2:wr.cell? ⟨C+2,0,none⟩=some (.int .i64 0):=d2.cell 0;have hsz:=az rest;have D:=zH (And.intro d0 (And.intro d1 d2));have HP:=zH hp;have HJR:=zH hj;clear d0 d1 d2 hp hj HC0 HC1 HC2 H0
  by_cases hm:Lib.indexByte rest 10= -1
  ·have hps:=Ar rest hm
   obtain⟨fn,tmps,assign,body,hy,hR⟩:=HY.out pre rest wr HJR.out (by rw[←HP.out,hps];exact⟨[],by simp⟩);have hy':(Instr.yield l #[.string ⟨rest.toArray⟩]).run Tryz.prog wr=.ok (.round l fn tmps assign body) wr:=hy;have I1:Hid (∀W,CallsIn Fence.wide (m-1) Tryz.prog 140 #[.string ⟨rest.toArray⟩,.string ⟨#[10]⟩] W fun e w'=>e=.returned (.int .i64 (-1))∧W=w'):=zH fun W=>by
    have h:=index_one rest 10 W;rw[hm]at h;exact Qb.2 (h.mono fun e w' ⟨a,b⟩=>⟨a,b.symm⟩)
   have HPS:=zH hps;have HRR:=zH hR;clear hy hR hm hps
   gi_wp2_with (refine⟨trivial,fun h=>(by cases h),?_⟩;gi_at_call 140;refine(I1.out _).mono ?_;rintro e w' ⟨rfl,rfl⟩)
   refine⟨fun h=>(by cases h),?_⟩;refine HRR.out.mono ?_;rintro e W3 ⟨rfl,hj3,hk3⟩;have HF:=zH hj3;clear hj3 hk3 HRR HY HJ
   gi_wp2_with fail
   go_end0;refine⟨⟨_,rfl⟩,_,?_,HF.out⟩;rw[←HP.out,HPS.out]
  ·obtain⟨i,hi⟩:∃i:Nat,Lib.indexByte rest 10=(i:Int):=by
    have:=Lib.indexByte_ge rest 10;exact⟨(Lib.indexByte rest 10).toNat,by omega⟩
   obtain⟨hil,hps⟩:=Aq rest i hi;obtain⟨fn,tmps,assign,body,hy,hR⟩:=HY.out pre (rest.take i) wr HJR.out (by rw[←HP.out,hps];exact⟨pcs (rest.drop (i+1)),by simp⟩);have hy':(Instr.yield l #[.string ⟨(rest.take i).toArray⟩]).run Tryz.prog wr=.ok (.round l fn tmps assign body) wr:=hy;have I1:Hid (∀W,CallsIn Fence.wide (m-1) Tryz.prog 140 #[.string ⟨rest.toArray⟩,.string ⟨#[10]⟩] W fun e w'=>e=.returned (.int .i64 (i:Int))∧W=w'):=zH fun W=>by
    have h:=index_one rest 10 W;rw[hi]at h;exact Qb.2 (h.mono fun e w' ⟨a,b⟩=>⟨a,b.symm⟩)
   have k1:=iC rest i (by omega);have k2:=dR rest (i+1) (by omega);have c1:((i+1:Nat):Int)=(i:Int)+1:=by omega
   rw[c1]at k2;have hdl:(rest.drop (i+1)).length<rest.length:=by rw[PU];omega
   have HPS:=zH hps;have HRR:=zH hR;clear hy hR hm hps c1 hi
   gi_wp2_with (refine⟨trivial,fun h=>(by cases h),?_⟩;gi_at_call 140;refine(I1.out _).mono ?_;rintro e w' ⟨rfl,rfl⟩)
   refine⟨fun h=>(by cases h),?_⟩;refine HRR.out.mono ?_;rintro e W3 ⟨rfl,hj3,hk3⟩;have e0:Blk W3 C 9 [.string ⟨rest.toArray⟩]:=(hk3 C (by omega) (by omega)).trans D.out.1;have e1:Blk W3 (C+1) 9 [.string ⟨#[10]⟩]:=(hk3 (C+1) (by omega) (by omega)).trans D.out.2.1;have e2:Blk W3 (C+2) 3 [.int .i64 0]:=(hk3 (C+2) (by omega) (by omega)).trans D.out.2.2;have r0:W3.cell? ⟨C,0,none⟩=some (.string ⟨rest.toArray⟩):=e0.cell 0;have r1:W3.cell? ⟨C+1,0,none⟩=some (.string ⟨#[10]⟩):=e1.cell 0;have f0:W3.frozen? ⟨C,0,none⟩=false:=e0.frozen (by simp);obtain⟨dr,hdr⟩:∃dr,rest.drop (i+1)=dr:=⟨_,rfl⟩;have E:Hid (Blk (W3.setCell ⟨C,0,none⟩ (.string ⟨dr.toArray⟩)) C 9 [.string ⟨dr.toArray⟩]∧Blk (W3.setCell ⟨C,0,none⟩ (.string ⟨dr.toArray⟩)) (C+1) 9 [.string ⟨#[10]⟩]∧Blk (W3.setCell ⟨C,0,none⟩ (.string ⟨dr.toArray⟩)) (C+2) 3 [.int .i64 0]∧J (pre++ [rest.take i]) (W3.setCell ⟨C,0,none⟩ (.string ⟨dr.toArray⟩))):=
    zH ⟨e0.set 0 _,(PN _ _ _ _ (by simp only;omega)).trans e1,(PN _ _ _ _ (by simp only;omega)).trans e2,HJ.out _ _ _ _ hj3 (grownBy_setCell' W3 C _) (fun r e=>by cases e;rfl)⟩
   rw[hdr]at k2 hdl HPS;have HD:=zH hdr;clear hj3 hk3 HRR HY HJ e0 e1 e2 hdr
   gi_wp2_with fail
   go_roundw
   case rel=>
    refine⟨_,dr,E.out.1,E.out.2.1,E.out.2.2.1,E.out.2.2.2,?_,by omega⟩;rw[←HP.out,HPS.out];simp
   case measure=>
    rw[vH E.out.1,vH D.out.1];exact hdl
end
section
attribute [local go_sem ↓ high] bg bK
def Rws (w:World)(v:Value)(l:List Row):Prop:= ∃L:List RV,Fs 4 ai w v L∧gG (Ss w) L l
theorem Rws.below {w w':World}{v:Value}{l:List Row}(h:Rws w v l)(hb:Below w.heap.size w w'):Rws w' v l:=by
 obtain⟨L,hL,hA⟩:=h;exact⟨L,hL.below hb,hA.mono fun v a ha=>ha.below hb⟩
theorem eB.sl {base:Nat}{w:World}{v:Value}{l:List Row}(h:eB base w v l):Rws w v l:=by
 obtain⟨L,hL,hA⟩:=h;exact⟨L,ag.sl gB hL,hA.mono fun v a ha=>ag.sl dF ha⟩
theorem Rws.len {w:World}{v:Value}{l:List Row}(h:Rws w v l):∃a cap,v=.slice a l.length cap:=by
 obtain⟨L,hL,hA⟩:=h;obtain⟨a,cap,e⟩:=hL.len;rw[hA.1]at e;exact⟨a,cap,e⟩
theorem Rws.at {w:World}{a:Option Addr}{k cap:Nat}{l:List Row}(h:Rws w (.slice a k cap) l){j:Nat}{y:Row}(hj:l[j]? =some y):
  ∃b off,a=some ⟨b,off,none⟩∧w.cell? ⟨b,off+j*4,none⟩=some (.int .i64 y.1)∧w.cell? ⟨b,off+j*4+1,none⟩=some (.string ⟨y.2.1.toArray⟩)∧(∃aa na ca,w.cell? ⟨b,off+j*4+2,none⟩=some (.slice aa na ca)∧Ss w (.slice aa na ca) y.2.2.1)∧w.cell? ⟨b,off+j*4+3,none⟩=some (.string ⟨y.2.2.2.toArray⟩):=by
 obtain⟨L,hL,hA⟩:=h;have hjl:j<L.length:=by rw[hA.1];exact(Pw.1 hj).1
 obtain⟨x,hx⟩:∃x,L[j]? =some x:=⟨L[j],Pz hjl⟩;have hi:=hA.2 j x y hx hj;obtain⟨a',cap',hv,_,hr⟩:=hL;injection hv with h1 h2 h3
 subst h1;obtain⟨b,off,rfl,h0⟩:=hr j x hx;refine⟨b,off,rfl,?_,?_,⟨x.2.2.1.1,x.2.2.1.2.1,x.2.2.1.2.2,h0 2 _ rfl,hi.args⟩,?_⟩
 ·have:=h0 0 _ rfl;rw[←hi.line];exact this
 ·have:=h0 1 _ rfl;rw[←hi.mac];exact this
 ·have:=h0 3 _ rfl;rw[←hi.text];exact this
end
end Go.Proofs.YtebabjnngdjceaaGreatDoor
