/- The program's own for documents: one node put right. The program's own for documents: nodes put right; Tidy. The program's own for documents: Tidy. -/
import Derived.Test.YtebabjnngdjceaaGreatDoorH4
import Derived.BigRegion
import Derived.Deep.RegionWith
import Derived.Deep.RegionHeld3
import Derived.Test.YtebabjnngdjceaaGreatDoorZ0
set_option linter.unusedVariables false
set_option linter.unusedSimpArgs false
set_option maxRecDepth 100000
set_option maxHeartbeats 8000000
namespace Go.Proofs.YtebabjnngdjceaaGreatDoor
open Go.RowKit
def EG (lb base:Nat) (v:Value) (r:List Nd) (k:Nat) (w:World) (e:Ending) (w':World):Prop:= ∃v',e= .returned v'∧cZ FS base w' v' r∧Blk w' lb 3 [.int .i64 (k:Int)]∧PF lb base w w'∧Ow lb v w v' w'
def Ia (w0:World) (lb:Nat) (SI:Nat→Prop) (l:List Nd):Prop:=
 ∀(lv v:Value) (acc:List Nd) (base:Nat) (m:Int) (d left:Nat) (w:World),NsS SI w0 lv l→Below w0.heap.size w0 w→lb<base→cZ FS base w v acc→Blk w lb 3 [.int .i64 (left:Int)]→aD l≤left→left≤20000→d≤20→acc.length+aD l≤40000→
  Calls Tryz.prog 99 #[.agg (eP m d lb).toArray,v,lv] w (EG lb base v (acc++tfL l m d) (left-aD l) w)
structure TO (lb:Nat) (w:World) (m:Int) (d:Nat) (x:NV) (gy:Nat) (y:NV) (hy:Hd) (W:World):Prop where
 exc:Exc (· =lb) w W
 bp:Blk W w.heap.size 157 (eP m d lb)
 bx:Blk W (w.heap.size+1) 58 (ae x)
 by':Blk W gy 58 (ae y)
 hd:bS (fun b=>w.heap.size+1<b∧b<gy) W y hy
 lt:w.heap.size+1<gy
 lb':lb<w.heap.size
section
variable {lb:Nat} {w:World} {m:Int} {d:Nat} {x:NV} {gy:Nat} {y:NV} {hy:Hd} {W W':World}
theorem TO.gz (h:TO lb w m d x gy y hy W):gy<W.heap.size:=h.by'.lt
theorem TO.exc' (h:TO lb w m d x gy y hy W) (hE:Exc (· =lb) W W'):TO lb w m d x gy y hy W':=by
 have h1:=h.lt;have h2:=h.lb';exact⟨h.exc.then hE,hE.blk h.bp (by omega),hE.blk h.bx (by omega),hE.blk h.by' (by omega),h.hd.keep (fun b hb=>hE.block b (by have:=h.gz;omega) (by omega)),h.lt,h.lb'⟩
theorem TO.keep (h:TO lb w m d x gy y hy W) (hb:Below W.heap.size W W'):TO lb w m d x gy y hy W':=h.exc' (Exc.of hb)
theorem TO.set {y':NV} {hy':Hd} (h:TO lb w m d x gy y hy W) (j:Nat) (v:Value) (e:(ae y).set j v=ae y') (k: ∀W,bS (fun b=>w.heap.size+1<b∧b<gy) W y hy→bS (fun b=>w.heap.size+1<b∧b<gy) W y' hy'):TO lb w m d x gy y' hy' (W.setCell ⟨gy,j,none⟩ v):=by
 have h1:=h.lt;have h2:=h.lb';exact⟨h.exc.set j v (fun hg=>by omega),h.bp.other (by omega) _ _,h.bx.other (by omega) _ _,e▸h.by'.set j v,k _ (h.hd.keep (fun b hb=>Mt W ⟨gy,j,none⟩ v b (by show b≠gy;omega))),h.lt,h.lb'⟩
end
theorem qI {m k:Int} (h:k=1∨k=2):pst m k=stands k m:=by
 unfold pst stands;rcases h with rfl | rfl<;>simp
theorem rF {h:Hd} {k:Int} (hk:k=1∨k=2):aY (aH h 3) false=aY (aH h k) false:=by
 rcases hk with rfl | rfl<;>simp[aY,aH]
theorem IC {S:Nat→Prop} {W:World} {h:Hd} {k:Int} {y:NV} (hk:k=1∨k=2) (q:bS S W y (aH h k)):bS S W ⟨3,y.line,y.n,y.text,y.kids,y.rows,y.cols,y.trows,y.box,y.all⟩ (aH h 3):=by
 rcases hk with rfl | rfl<;>exact⟨rfl,q.line,q.n,q.text,q.rows,q.cols,q.trows,q.box,q.all⟩
theorem Bu {h:Hd} {ks:List Nd} {m:Int} {d:Nat} {k:Int} (hk:aF h.kind m=k) (hi:bG h m=true) (acc:List Nd):(if aY (aH h k) (kJ (tfL ks k (d+1))) then acc++ [.mk (aH h k) (tfL ks k (d+1))] else acc)=acc++tfN (.mk h ks) m d:=by
 rw[jV,MO hi,hk]
 split<;>simp
theorem vk {h:Hd} {ks:List Nd} {m:Int} {d:Nat} {k k':Int} (hk:aF h.kind m=k) (hi:bG h m=false) (hm:fQ h.kind=true) (acc:List Nd) (hf:aY (aH h k') false=aY (aH h k) false) (he:aY (aH h k') false=true→k'=k):
  (if aY (aH h k') (kJ ([]:List Nd)) then acc++ [.mk (aH h k') []] else acc)++tfL ks m d=acc++tfN (.mk h ks) m d:=by
 have e:tfN (.mk h ks) m d=(if aY (aH h k) false then [.mk (aH h k) []] else [])++tfL ks m d:=by rw[jV,ME (by rw[hi];simp),hk,MO hm]
 rw[e,show kJ ([]:List Nd)=false from rfl,←hf]
 by_cases h1:aY (aH h k') false=true
 ·rw[MO h1,MO h1,he h1];simp
 ·rw[ME h1,ME h1];simp
theorem La {h:Hd} {ks:List Nd} {m:Int} {d:Nat} {k:Int} (hk:aF h.kind m=k) (hm:fQ h.kind=false) (acc:List Nd):
  (if aY (aH h k) (kJ ([]:List Nd)) then acc++ [.mk (aH h k) []] else acc)=acc++tfN (.mk h ks) m d:=by
 have hi:bG h m=false:=by unfold bG;rw[hm];rfl
 have e:tfN (.mk h ks) m d=(if aY (aH h k) false then [.mk (aH h k) []] else [])++ []:=by rw[jV,ME (by rw[hi];simp),hk,hm];rfl
 rw[e,show kJ ([]:List Nd)=false from rfl]
 split<;>simp
theorem QUg {P:Prop}(h:P:=by
 have HTD:=zH (HT6.out.keep (Mr W6.heap.size W6).drew);have HBD:Hid (Blk W6.drew lb 3 [.int .i64 (left:Int)]):=zH (by rw[hW6];exact(HB5.out.other (by have:=HT5.out.lt;have:=HT5.out.lb';omega) _ _));have hN6:=HN.out.exc HBA.out HTD.out.exc;have hg1:=HTD.out.lt;have hg2:=HTD.out.gz;have hadd:=fD base (.slice va an vc) acc ⟨3,yl,yn,(y1,y2,y3),aj,(z1,z2,z3),yo,(u1,u2,u3),yb,ya⟩ (aH h 3) [] (fun b=>w.heap.size+1<b∧b<W6.drew.heap.size) W6.drew hN6 (fun b q=>⟨by have:=HN.out.sz;omega,q.2,fun e=>by obtain⟨L,S,hL,-⟩:=HN.out.own;have:=hL.blt e;omega⟩) (HTD.out.hd.mono (fun b q=>⟨q.1,by omega⟩)) (NsS.nil _ _) (by have:=HAN.out;omega);obtain⟨R1,hR1⟩: ∃r,(if aY (aH h 3) (kJ ([]:List Nd)) then acc++ [.mk (aH h 3) []] else acc)=r:=⟨_,rfl⟩;have hR1l:R1.length≤an+1:=by rw[←hR1];have:=HAN.out;split<;>simp<;>omega
 rw[hR1]at hadd;simp only[ae,pv]at hadd;have HADD:Hid (Calls Tryz.prog 172 #[.slice va an vc,.agg #[.int .i64 3,.int .i64 yl,.int .i64 yn,.slice y1 y2 y3,.slice none 0 0,.slice z1 z2 z3,.string ⟨yo.toArray⟩,.slice u1 u2 u3,.bool yb,.bool ya]] W6.drew fun e w7=> ∃a' n' c',e= .returned (.slice a' n' c')∧Hid (w7.cell? ⟨w.heap.size,0,none⟩=some (.int .i64 m)∧w7.cell? ⟨w.heap.size,1,none⟩=some (.int .i64 (d:Int))∧w7.cell? ⟨w.heap.size,2,none⟩=some (.func (.func 98) #[] #[.pointer (some ⟨lb,0,none⟩)])∧w7.cell? ⟨w.heap.size+1,4,none⟩=some (.slice k1 k2 k3)∧w7.cell? ⟨gy,0,none⟩=some (.int .i64 3)∧w7.cell? ⟨gy,1,none⟩=some (.int .i64 yl)∧w7.cell? ⟨gy,2,none⟩=some (.int .i64 yn)∧w7.cell? ⟨gy,3,none⟩=some (.slice y1 y2 y3)∧w7.cell? ⟨gy,4,none⟩=some (.slice none 0 0)∧w7.cell? ⟨gy,5,none⟩=some (.slice z1 z2 z3)∧w7.cell? ⟨gy,6,none⟩=some (.string ⟨yo.toArray⟩)∧w7.cell? ⟨gy,7,none⟩=some (.slice u1 u2 u3)∧w7.cell? ⟨gy,8,none⟩=some (.bool yb)∧w7.cell? ⟨gy,9,none⟩=some (.bool ya))∧
   Hid (Calls Tryz.prog 99 #[.agg #[.int .i64 m,.int .i64 (d:Int),.func (.func 98) #[] #[.pointer (some ⟨lb,0,none⟩)]],.slice a' n' c',.slice k1 k2 k3] w7 fun e w8=> ∃v8,e= .returned v8∧Hid (w8.cell? ⟨w.heap.size,0,none⟩=some (.int .i64 m)∧w8.cell? ⟨w.heap.size,1,none⟩=some (.int .i64 (d:Int))∧w8.cell? ⟨w.heap.size,2,none⟩=some (.func (.func 98) #[] #[.pointer (some ⟨lb,0,none⟩)])∧w8.cell? ⟨w.heap.size+1,4,none⟩=some (.slice k1 k2 k3)∧w8.cell? ⟨gy,0,none⟩=some (.int .i64 3)∧w8.cell? ⟨gy,1,none⟩=some (.int .i64 yl)∧w8.cell? ⟨gy,2,none⟩=some (.int .i64 yn)∧w8.cell? ⟨gy,3,none⟩=some (.slice y1 y2 y3)∧w8.cell? ⟨gy,4,none⟩=some (.slice none 0 0)∧w8.cell? ⟨gy,5,none⟩=some (.slice z1 z2 z3)∧w8.cell? ⟨gy,6,none⟩=some (.string ⟨yo.toArray⟩)∧w8.cell? ⟨gy,7,none⟩=some (.slice u1 u2 u3)∧w8.cell? ⟨gy,8,none⟩=some (.bool yb)∧w8.cell? ⟨gy,9,none⟩=some (.bool ya))∧Hid (cZ FS base w8 v8 R∧Blk w8 lb 3 [.int .i64 (KL:Int)]∧PF lb base w w8∧Ow lb (.slice va an vc) w v8 w8))):=
  zH (hadd.mono fun e w7 hq=>by
   obtain⟨v7,he,hN7,hb7,ho7,hq7⟩:=hq;obtain⟨a',c',hv7⟩:=hN7.len;subst hv7;have hlo: ∀b,w.heap.size≤b→(Value.slice va an vc).ownBlock≠some b:=fun b hb e=>by obtain⟨L,S,hL,-⟩:=HN.out.own;have:=hL.blt e;omega
   have hP7:Blk w7 w.heap.size 157 (eP m d lb):=(ho7 _ HTD.out.bp.lt (hlo _ (Mo _))).trans HTD.out.bp;have hX7:Blk w7 (w.heap.size+1) 58 _:=(ho7 _ HTD.out.bx.lt (hlo _ (NR _))).trans HTD.out.bx;have hY7:Blk w7 gy 58 _:=(ho7 _ HTD.out.gz (hlo _ (by omega))).trans HTD.out.by';have hB7:Blk w7 lb 3 [.int .i64 (left:Int)]:=(ho7 lb HBD.out.lt (hN6.own_ge HBA.out)).trans HBD.out;have hF7:PF lb base w w7:=(PF.exc HTD.out.exc).trans (sM.pf (lb:=lb) hN6 hb7 ho7);have hO7:Ow lb (.slice va an vc) w (.slice a' R1.length c') w7:=(Ow.exc HTD.out.exc).trans (fun b h1 _ h3=>⟨ho7 b h1 h3,hq7 b h1 h3⟩) HTD.out.exc.size;have hbw7:Below w0.heap.size w0 w7:=(HBL.out _ (Exc.refl _ _)).trans (hF7.below (HBL.out _ (Exc.refl _ _)).size HLB.out HBA.out);have hput:=HPX.out (.slice k1 k2 k3) (.slice a' R1.length c') R1 base m d left w7 HK.out hbw7 HBA.out hN7 hB7 (by omega) hl2 (by omega) (by omega);rw[←hR1,vk HKA.out HIN.out HMK.out acc HFU.out HFE.out,HR.out,HKL.out]at hput;rw[hR1]at hput;refine⟨a',R1.length,c',he,zH ⟨hP7.cell 0,hP7.cell 1,hP7.cell 2,hX7.cell 4,hY7.cell 0,hY7.cell 1,hY7.cell 2,hY7.cell 3,hY7.cell 4,hY7.cell 5,hY7.cell 6,hY7.cell 7,hY7.cell 8,hY7.cell 9⟩,zH (hput.mono fun e w8 hq=>?_)⟩;obtain⟨v8,he8,hN8,hB8,hF8,hO8⟩:=hq;have hlb':=HTD.out.lb';have hP8:Blk w8 w.heap.size 157 (eP m d lb):=(hO8 _ hP7.lt (by omega) (hq7 _ HTD.out.bp.lt (hlo _ (Mo _)))).1.trans hP7;have hX8:Blk w8 (w.heap.size+1) 58 _:=(hO8 _ hX7.lt (by omega) (hq7 _ HTD.out.bx.lt (hlo _ (NR _)))).1.trans hX7;have hY8:Blk w8 gy 58 _:=(hO8 _ hY7.lt (by omega) (hq7 _ HTD.out.gz (hlo _ (by omega)))).1.trans hY7;exact⟨v8,he8,zH ⟨hP8.cell 0,hP8.cell 1,hP8.cell 2,hX8.cell 4,hY8.cell 0,hY8.cell 1,hY8.cell 2,hY8.cell 3,hY8.cell 4,hY8.cell 5,hY8.cell 6,hY8.cell 7,hY8.cell 8,hY8.cell 9⟩,zH ⟨hN8,hB8,hF7.trans hF8,hO7.trans hO8 hF7.size⟩⟩)
 have HSD:Hid (W6.drew.cell? ⟨w.heap.size,0,none⟩=some (.int .i64 m)∧W6.drew.cell? ⟨w.heap.size,1,none⟩=some (.int .i64 (d:Int))∧W6.drew.cell? ⟨w.heap.size,2,none⟩=some (.func (.func 98) #[] #[.pointer (some ⟨lb,0,none⟩)])∧W6.drew.cell? ⟨w.heap.size+1,4,none⟩=some (.slice k1 k2 k3)∧W6.drew.cell? ⟨gy,0,none⟩=some (.int .i64 3)∧W6.drew.cell? ⟨gy,1,none⟩=some (.int .i64 yl)∧W6.drew.cell? ⟨gy,2,none⟩=some (.int .i64 yn)∧W6.drew.cell? ⟨gy,3,none⟩=some (.slice y1 y2 y3)∧W6.drew.cell? ⟨gy,4,none⟩=some (.slice none 0 0)∧W6.drew.cell? ⟨gy,5,none⟩=some (.slice z1 z2 z3)∧W6.drew.cell? ⟨gy,6,none⟩=some (.string ⟨yo.toArray⟩)∧W6.drew.cell? ⟨gy,7,none⟩=some (.slice u1 u2 u3)∧W6.drew.cell? ⟨gy,8,none⟩=some (.bool yb)∧W6.drew.cell? ⟨gy,9,none⟩=some (.bool ya)):=zH ⟨HTD.out.bp.cell 0,HTD.out.bp.cell 1,HTD.out.bp.cell 2,HTD.out.bx.cell 4,HTD.out.by'.cell 0,HTD.out.by'.cell 1,HTD.out.by'.cell 2,HTD.out.by'.cell 3,HTD.out.by'.cell 4,HTD.out.by'.cell 5,HTD.out.by'.cell 6,HTD.out.by'.cell 7,HTD.out.by'.cell 8,HTD.out.by'.cell 9⟩;subst hW6;clear hadd hN6 hg1 hg2 hR1l hR1;go_wp2_with fail
 try clear HPX
 try clear HK
 try clear HSI
 try clear HLB
 try clear HBL
 try clear HR
 try clear HKL
 try clear HED
 try clear HHK
 try clear HAN
 try clear HN
 try clear HB
 try clear HB3
 try clear HB3'
 try clear HT3
 try clear HT5
 try clear HB5
 try clear HKD
 try clear HMK
 try clear HKA
 try clear HIN
 try clear HFU
 try clear HFE
 try clear HFB
 try clear HTD
 try clear HBD
 try clear HT6
 try clear HBA
 try clear HGY
 try clear HW3
 try clear HB1
 try clear w1d
 try clear f0
 try clear g0
 try clear hc
 try clear hl2
 try clear hd
 try clear ha
 try clear hl
 go_region_held3 (fun W'=>W'.cell? ⟨w.heap.size,0,none⟩=some (.int .i64 m)∧W'.cell? ⟨w.heap.size,1,none⟩=some (.int .i64 (d:Int))∧W'.cell? ⟨w.heap.size,2,none⟩=some (.func (.func 98) #[] #[.pointer (some ⟨lb,0,none⟩)])∧W'.cell? ⟨w.heap.size+1,4,none⟩=some (.slice k1 k2 k3)∧W'.cell? ⟨gy,0,none⟩=some (.int .i64 3)∧W'.cell? ⟨gy,1,none⟩=some (.int .i64 yl)∧W'.cell? ⟨gy,2,none⟩=some (.int .i64 yn)∧W'.cell? ⟨gy,3,none⟩=some (.slice y1 y2 y3)∧W'.cell? ⟨gy,4,none⟩=some (.slice none 0 0)∧W'.cell? ⟨gy,5,none⟩=some (.slice z1 z2 z3)∧W'.cell? ⟨gy,6,none⟩=some (.string ⟨yo.toArray⟩)∧W'.cell? ⟨gy,7,none⟩=some (.slice u1 u2 u3)∧W'.cell? ⟨gy,8,none⟩=some (.bool yb)∧W'.cell? ⟨gy,9,none⟩=some (.bool ya)) (first | exact HSD.out | exact HS7.out | exact HS8.out) ((first | (go_at_call 172;(with_reducible refine HADD.out.mono ?_);rintro e w7 ⟨a7,n7,m7,rfl,HS7,HQ⟩)| (go_at_call 99;(with_reducible refine HQ.out.mono ?_);rintro e w8 ⟨v8,rfl,HS8,HFIN⟩)))
 all_goals
  go_wp2_with fail
  go_ret;exact⟨_,rfl,HFIN.out.1,HFIN.out.2.1,HFIN.out.2.2.1,HFIN.out.2.2.2⟩):P:=h
theorem QUh {P:Prop}(h:P:=by
 have HTD:=zH (HT6.out.keep (Mr W6.heap.size W6).drew);have HBD:Hid (Blk W6.drew lb 3 [.int .i64 (left:Int)]):=zH (by rw[hW6];exact(HB3.out.other (by have:=HT3.out.lt;have:=HT3.out.lb';omega) _ _));have hN6:=HN.out.exc HBA.out HTD.out.exc;have hg1:=HTD.out.lt;have hg2:=HTD.out.gz;have hadd:=fD base (.slice va an vc) acc ⟨3,yl,yn,(y1,y2,y3),aj,(z1,z2,z3),yo,(u1,u2,u3),yb,ya⟩ (aH h 3) [] (fun b=>w.heap.size+1<b∧b<W6.drew.heap.size) W6.drew hN6 (fun b q=>⟨by have:=HN.out.sz;omega,q.2,fun e=>by obtain⟨L,S,hL,-⟩:=HN.out.own;have:=hL.blt e;omega⟩) (HTD.out.hd.mono (fun b q=>⟨q.1,by omega⟩)) (NsS.nil _ _) (by have:=HAN.out;omega);obtain⟨R1,hR1⟩: ∃r,(if aY (aH h 3) (kJ ([]:List Nd)) then acc++ [.mk (aH h 3) []] else acc)=r:=⟨_,rfl⟩;have hR1l:R1.length≤an+1:=by rw[←hR1];have:=HAN.out;split<;>simp<;>omega
 rw[hR1]at hadd;simp only[ae,pv]at hadd;have HADD:Hid (Calls Tryz.prog 172 #[.slice va an vc,.agg #[.int .i64 3,.int .i64 yl,.int .i64 yn,.slice y1 y2 y3,.slice none 0 0,.slice z1 z2 z3,.string ⟨yo.toArray⟩,.slice u1 u2 u3,.bool yb,.bool ya]] W6.drew fun e w7=> ∃a' n' c',e= .returned (.slice a' n' c')∧Hid (w7.cell? ⟨w.heap.size,0,none⟩=some (.int .i64 m)∧w7.cell? ⟨w.heap.size,1,none⟩=some (.int .i64 (d:Int))∧w7.cell? ⟨w.heap.size,2,none⟩=some (.func (.func 98) #[] #[.pointer (some ⟨lb,0,none⟩)])∧w7.cell? ⟨w.heap.size+1,4,none⟩=some (.slice k1 k2 k3)∧w7.cell? ⟨gy,0,none⟩=some (.int .i64 3)∧w7.cell? ⟨gy,1,none⟩=some (.int .i64 yl)∧w7.cell? ⟨gy,2,none⟩=some (.int .i64 yn)∧w7.cell? ⟨gy,3,none⟩=some (.slice y1 y2 y3)∧w7.cell? ⟨gy,4,none⟩=some (.slice none 0 0)∧w7.cell? ⟨gy,5,none⟩=some (.slice z1 z2 z3)∧w7.cell? ⟨gy,6,none⟩=some (.string ⟨yo.toArray⟩)∧w7.cell? ⟨gy,7,none⟩=some (.slice u1 u2 u3)∧w7.cell? ⟨gy,8,none⟩=some (.bool yb)∧w7.cell? ⟨gy,9,none⟩=some (.bool ya))∧
   Hid (Calls Tryz.prog 99 #[.agg #[.int .i64 m,.int .i64 (d:Int),.func (.func 98) #[] #[.pointer (some ⟨lb,0,none⟩)]],.slice a' n' c',.slice k1 k2 k3] w7 fun e w8=> ∃v8,e= .returned v8∧Hid (w8.cell? ⟨w.heap.size,0,none⟩=some (.int .i64 m)∧w8.cell? ⟨w.heap.size,1,none⟩=some (.int .i64 (d:Int))∧w8.cell? ⟨w.heap.size,2,none⟩=some (.func (.func 98) #[] #[.pointer (some ⟨lb,0,none⟩)])∧w8.cell? ⟨w.heap.size+1,4,none⟩=some (.slice k1 k2 k3)∧w8.cell? ⟨gy,0,none⟩=some (.int .i64 3)∧w8.cell? ⟨gy,1,none⟩=some (.int .i64 yl)∧w8.cell? ⟨gy,2,none⟩=some (.int .i64 yn)∧w8.cell? ⟨gy,3,none⟩=some (.slice y1 y2 y3)∧w8.cell? ⟨gy,4,none⟩=some (.slice none 0 0)∧w8.cell? ⟨gy,5,none⟩=some (.slice z1 z2 z3)∧w8.cell? ⟨gy,6,none⟩=some (.string ⟨yo.toArray⟩)∧w8.cell? ⟨gy,7,none⟩=some (.slice u1 u2 u3)∧w8.cell? ⟨gy,8,none⟩=some (.bool yb)∧w8.cell? ⟨gy,9,none⟩=some (.bool ya))∧Hid (cZ FS base w8 v8 R∧Blk w8 lb 3 [.int .i64 (KL:Int)]∧PF lb base w w8∧Ow lb (.slice va an vc) w v8 w8))):=
  zH (hadd.mono fun e w7 hq=>by
   obtain⟨v7,he,hN7,hb7,ho7,hq7⟩:=hq;obtain⟨a',c',hv7⟩:=hN7.len;subst hv7;have hlo: ∀b,w.heap.size≤b→(Value.slice va an vc).ownBlock≠some b:=fun b hb e=>by obtain⟨L,S,hL,-⟩:=HN.out.own;have:=hL.blt e;omega
   have hP7:Blk w7 w.heap.size 157 (eP m d lb):=(ho7 _ HTD.out.bp.lt (hlo _ (Mo _))).trans HTD.out.bp;have hX7:Blk w7 (w.heap.size+1) 58 _:=(ho7 _ HTD.out.bx.lt (hlo _ (NR _))).trans HTD.out.bx;have hY7:Blk w7 gy 58 _:=(ho7 _ HTD.out.gz (hlo _ (by omega))).trans HTD.out.by';have hB7:Blk w7 lb 3 [.int .i64 (left:Int)]:=(ho7 lb HBD.out.lt (hN6.own_ge HBA.out)).trans HBD.out;have hF7:PF lb base w w7:=(PF.exc HTD.out.exc).trans (sM.pf (lb:=lb) hN6 hb7 ho7);have hO7:Ow lb (.slice va an vc) w (.slice a' R1.length c') w7:=(Ow.exc HTD.out.exc).trans (fun b h1 _ h3=>⟨ho7 b h1 h3,hq7 b h1 h3⟩) HTD.out.exc.size;have hbw7:Below w0.heap.size w0 w7:=(HBL.out _ (Exc.refl _ _)).trans (hF7.below (HBL.out _ (Exc.refl _ _)).size HLB.out HBA.out);have hput:=HPX.out (.slice k1 k2 k3) (.slice a' R1.length c') R1 base m d left w7 HK.out hbw7 HBA.out hN7 hB7 (by omega) hl2 (by omega) (by omega);rw[←hR1,vk HKA.out HIN.out HMK.out acc HFU.out HFE.out,HR.out,HKL.out]at hput;rw[hR1]at hput;refine⟨a',R1.length,c',he,zH ⟨hP7.cell 0,hP7.cell 1,hP7.cell 2,hX7.cell 4,hY7.cell 0,hY7.cell 1,hY7.cell 2,hY7.cell 3,hY7.cell 4,hY7.cell 5,hY7.cell 6,hY7.cell 7,hY7.cell 8,hY7.cell 9⟩,zH (hput.mono fun e w8 hq=>?_)⟩;obtain⟨v8,he8,hN8,hB8,hF8,hO8⟩:=hq;have hlb':=HTD.out.lb';have hP8:Blk w8 w.heap.size 157 (eP m d lb):=(hO8 _ hP7.lt (by omega) (hq7 _ HTD.out.bp.lt (hlo _ (Mo _)))).1.trans hP7;have hX8:Blk w8 (w.heap.size+1) 58 _:=(hO8 _ hX7.lt (by omega) (hq7 _ HTD.out.bx.lt (hlo _ (NR _)))).1.trans hX7;have hY8:Blk w8 gy 58 _:=(hO8 _ hY7.lt (by omega) (hq7 _ HTD.out.gz (hlo _ (by omega)))).1.trans hY7;exact⟨v8,he8,zH ⟨hP8.cell 0,hP8.cell 1,hP8.cell 2,hX8.cell 4,hY8.cell 0,hY8.cell 1,hY8.cell 2,hY8.cell 3,hY8.cell 4,hY8.cell 5,hY8.cell 6,hY8.cell 7,hY8.cell 8,hY8.cell 9⟩,zH ⟨hN8,hB8,hF7.trans hF8,hO7.trans hO8 hF7.size⟩⟩)
 have HSD:Hid (W6.drew.cell? ⟨w.heap.size,0,none⟩=some (.int .i64 m)∧W6.drew.cell? ⟨w.heap.size,1,none⟩=some (.int .i64 (d:Int))∧W6.drew.cell? ⟨w.heap.size,2,none⟩=some (.func (.func 98) #[] #[.pointer (some ⟨lb,0,none⟩)])∧W6.drew.cell? ⟨w.heap.size+1,4,none⟩=some (.slice k1 k2 k3)∧W6.drew.cell? ⟨gy,0,none⟩=some (.int .i64 3)∧W6.drew.cell? ⟨gy,1,none⟩=some (.int .i64 yl)∧W6.drew.cell? ⟨gy,2,none⟩=some (.int .i64 yn)∧W6.drew.cell? ⟨gy,3,none⟩=some (.slice y1 y2 y3)∧W6.drew.cell? ⟨gy,4,none⟩=some (.slice none 0 0)∧W6.drew.cell? ⟨gy,5,none⟩=some (.slice z1 z2 z3)∧W6.drew.cell? ⟨gy,6,none⟩=some (.string ⟨yo.toArray⟩)∧W6.drew.cell? ⟨gy,7,none⟩=some (.slice u1 u2 u3)∧W6.drew.cell? ⟨gy,8,none⟩=some (.bool yb)∧W6.drew.cell? ⟨gy,9,none⟩=some (.bool ya)):=zH ⟨HTD.out.bp.cell 0,HTD.out.bp.cell 1,HTD.out.bp.cell 2,HTD.out.bx.cell 4,HTD.out.by'.cell 0,HTD.out.by'.cell 1,HTD.out.by'.cell 2,HTD.out.by'.cell 3,HTD.out.by'.cell 4,HTD.out.by'.cell 5,HTD.out.by'.cell 6,HTD.out.by'.cell 7,HTD.out.by'.cell 8,HTD.out.by'.cell 9⟩;subst hW6;clear hadd hN6 hg1 hg2 hR1l hR1;go_wp2_with fail
 try clear HPX
 try clear HK
 try clear HSI
 try clear HLB
 try clear HBL
 try clear HR
 try clear HKL
 try clear HED
 try clear HHK
 try clear HAN
 try clear HN
 try clear HB
 try clear HB3
 try clear HB3'
 try clear HT3
 try clear HT5
 try clear HB5
 try clear HKD
 try clear HMK
 try clear HKA
 try clear HIN
 try clear HFU
 try clear HFE
 try clear HFB
 try clear HTD
 try clear HBD
 try clear HT6
 try clear HBA
 try clear HGY
 try clear HW3
 try clear HB1
 try clear w1d
 try clear f0
 try clear g0
 try clear hc
 try clear hl2
 try clear hd
 try clear ha
 try clear hl
 go_region_held3 (fun W'=>W'.cell? ⟨w.heap.size,0,none⟩=some (.int .i64 m)∧W'.cell? ⟨w.heap.size,1,none⟩=some (.int .i64 (d:Int))∧W'.cell? ⟨w.heap.size,2,none⟩=some (.func (.func 98) #[] #[.pointer (some ⟨lb,0,none⟩)])∧W'.cell? ⟨w.heap.size+1,4,none⟩=some (.slice k1 k2 k3)∧W'.cell? ⟨gy,0,none⟩=some (.int .i64 3)∧W'.cell? ⟨gy,1,none⟩=some (.int .i64 yl)∧W'.cell? ⟨gy,2,none⟩=some (.int .i64 yn)∧W'.cell? ⟨gy,3,none⟩=some (.slice y1 y2 y3)∧W'.cell? ⟨gy,4,none⟩=some (.slice none 0 0)∧W'.cell? ⟨gy,5,none⟩=some (.slice z1 z2 z3)∧W'.cell? ⟨gy,6,none⟩=some (.string ⟨yo.toArray⟩)∧W'.cell? ⟨gy,7,none⟩=some (.slice u1 u2 u3)∧W'.cell? ⟨gy,8,none⟩=some (.bool yb)∧W'.cell? ⟨gy,9,none⟩=some (.bool ya)) (first | exact HSD.out | exact HS7.out | exact HS8.out) ((first | (go_at_call 172;(with_reducible refine HADD.out.mono ?_);rintro e w7 ⟨a7,n7,m7,rfl,HS7,HQ⟩)| (go_at_call 99;(with_reducible refine HQ.out.mono ?_);rintro e w8 ⟨v8,rfl,HS8,HFIN⟩)))
 all_goals
  go_wp2_with fail
  go_ret;exact⟨_,rfl,HFIN.out.1,HFIN.out.2.1,HFIN.out.2.2.1,HFIN.out.2.2.2⟩):P:=h
theorem QUi {P:Prop}(h:P:=by
 have j1:W7.cell? ⟨gy,1,none⟩=some (.int .i64 yl):=HT7.out.by'.cell 1;have j2:W7.cell? ⟨gy,2,none⟩=some (.int .i64 yn):=HT7.out.by'.cell 2;have j3:W7.cell? ⟨gy,3,none⟩=some (.slice y1 y2 y3):=HT7.out.by'.cell 3;have j4:W7.cell? ⟨gy,4,none⟩=some (.slice ca cn cc):=HT7.out.by'.cell 4;have j5:W7.cell? ⟨gy,5,none⟩=some (.slice z1 z2 z3):=HT7.out.by'.cell 5;have j6:W7.cell? ⟨gy,6,none⟩=some (.string ⟨yo.toArray⟩):=HT7.out.by'.cell 6;have j7:W7.cell? ⟨gy,7,none⟩=some (.slice u1 u2 u3):=HT7.out.by'.cell 7;have j8:W7.cell? ⟨gy,8,none⟩=some (.bool yb):=HT7.out.by'.cell 8;have j9:W7.cell? ⟨gy,9,none⟩=some (.bool ya):=HT7.out.by'.cell 9;subst hW7;clear hadd hNK hN6 hB6 hF6 hE6 hkl hcn hg1 hg2 hg3 hg4 hsz7 HPUT HT6;go_wp2_with fail
 refine HADD.out.mono ?_;rintro e w8 ⟨v8,rfl,hN8,hb8,ho8,hq8⟩;have HN7:=zH (HN.out.exc HBA.out HT7.out.exc);have HFIN:=zH (And.intro hN8 (And.intro (show Blk w8 lb 3 [.int .i64 (KL:Int)] from(ho8 lb HB7.out.lt (HN7.out.own_ge HBA.out)).trans HB7.out) (And.intro ((PF.exc HT7.out.exc).trans (sM.pf (lb:=lb) HN7.out hb8 ho8)) ((Ow.exc (v:= .slice va an vc) HT7.out.exc).trans (fun b h1 _ h3=>⟨ho8 b h1 h3,hq8 b h1 h3⟩) HT7.out.exc.size))));clear hN8 hb8 ho8 hq8 HADD;go_wp2_with fail
 go_ret;exact⟨_,rfl,HFIN.out.1,HFIN.out.2.1,HFIN.out.2.2.1,HFIN.out.2.2.2⟩):P:=h
theorem FE (SI:Nat→Prop) (w0:World) (lb:Nat) (hlb:w0.heap.size≤lb) (hSI: ∀b,SI b→b<w0.heap.size) (hU:U8 w0) (x:NV) (h:Hd) (ks:List Nd) (hh:bS SI w0 x h) (hK:NsS SI w0 (pv x.kids) ks) (hl:hdl h≤90000) (HPO:Ia w0 lb SI ks)
  (v:Value) (acc:List Nd) (base:Nat) (m:Int) (d left:Nat) (w:World) (hbw:Below w0.heap.size w0 w) (hbase:lb<base) (hN:cZ FS base w v acc) (hB:Blk w lb 3 [.int .i64 (left:Int)]) (hc:aD ks≤left) (hl2:left≤20000) (hd:d<20) (ha:acc.length+1+aD ks≤40000):
  Calls Tryz.prog 135 #[.agg (eP m d lb).toArray,v,.agg (ae x).toArray] w (EG lb base v (acc++tfN (.mk h ks) m d) (left-aD ks) w):=by
 obtain⟨W1,hW1⟩: ∃W,W=(w.alloc (.cells (eP m d lb).toArray 157)).alloc (.cells (ae x).toArray 58):=⟨_,rfl⟩;obtain⟨b1,hP1,hX1⟩:=qc w _ _ W1 hW1;have hz1:W1.heap.size=w.heap.size+1+1:=by rw[hW1,MG,MG]
 have hb01:=hbw.trans (b1.mono hbw.size);have HMD:=zH (xH SI x h W1 (hU.below hb01) (hh.keep (Kp.below hb01 hSI)) hl (fun b hb=>Ms (hSI b hb) hb01.size));have HST:Hid (∀w2 (y:NV),Below W1.heap.size W1 w2→bS (fun b=>W1.heap.size≤b∧b<w2.heap.size) w2 y (aH h h.kind)→
   TO lb w m d x w2.heap.size y (aH h h.kind) (w2.alloc (.cells (ae y).toArray 58))):=zH (fun w2 y hb hy=>by
  have b3:=af w2 (.cells (ae y).toArray 58);refine⟨(Exc.of b1).then ((Exc.of hb).then (Exc.of b3)),(hP1.below hb).below b3,(hX1.below hb).below b3,Mw w2 _,(hy.mono (fun b q=>⟨by omega,q.2⟩)).keep (fun b q=>b3.block b q.2),by have:=hb.size;omega,hB.lt⟩)
 have HB1:=zH b1;have HBL:=zH (fun W (hE:Exc (· =lb) w W)=>(hbw.trans (hE.below hbw.size (fun b hb e=>by omega)):Below w0.heap.size w0 W));obtain⟨R,hR⟩: ∃R,acc++tfN (.mk h ks) m d=R:=⟨_,rfl⟩;obtain⟨KL,hKL⟩: ∃K,left-aD ks=K:=⟨_,rfl⟩;rw[hR,hKL];have HR:=zH hR;have HKL:=zH hKL;have HPX:=zH HPO;have HK:=zH hK;have HN:=zH hN;have HB:=zH hB;have HW1:=zH hW1;have HSI:=zH hSI;have HLB:=zH hlb;have HBA:=zH hbase;have HHK:=zH (hh.kind:x.kind=h.kind);have w1d:IntKind.i64.wrap ((d:Int)+1)=(d:Int)+1:=IntWalk.i64_in _ (by omega);have ed1:((d+1:Nat):Int)=(d:Int)+1:=by omega
 have HED:=zH ed1;obtain⟨va,vc,rfl⟩:=hN.len;obtain⟨an,han⟩: ∃n,acc.length=n:=⟨_,rfl⟩;rw[han]at HN ha ⊢;have HAN:=zH han;obtain⟨xk,xl,xn,⟨t1,t2,t3⟩,⟨k1,k2,k3⟩,⟨r1,r2,r3⟩,xc,⟨q1,q2,q3⟩,xb,xa⟩:=x;unfold EG;simp only[ae,pv,eP,cntF]at HMD HW1 ⊢;clear hh hK hN hB hW1 hSI hlb hbase hR hKL HPO b1 hP1 hX1 hb01 hbw hU hz1 ed1 han;go_enter Tryz.func135,Tryz.ntmps135
 go_wp2_with fail
 rw[←HW1.out];refine HMD.out.mono ?_;rintro e w2 ⟨⟨yk,yl,yn,⟨y1,y2,y3⟩,⟨c1,c2,c3⟩,⟨z1,z2,z3⟩,yo,⟨u1,u2,u3⟩,yb,ya⟩,rfl,hky,hhy,b2⟩;simp only at hky;injection hky with e1 e2
 injection e2 with e2 e3
 subst e1 e2 e3;have hyk:yk=xk:=by have h1:=hhy.kind;have h2:=HHK.out;exact h1.trans h2.symm
 subst hyk;simp only[ae,pv];obtain⟨W3,hW3⟩: ∃W,W=w2.alloc (.cells (ae ⟨yk,yl,yn,(y1,y2,y3),aj,(z1,z2,z3),yo,(u1,u2,u3),yb,ya⟩).toArray 58):=⟨_,rfl⟩;have HT3:Hid (TO lb w m d ⟨yk,xl,xn,(t1,t2,t3),(k1,k2,k3),(r1,r2,r3),xc,(q1,q2,q3),xb,xa⟩ w2.heap.size ⟨yk,yl,yn,(y1,y2,y3),aj,(z1,z2,z3),yo,(u1,u2,u3),yb,ya⟩ (aH h h.kind) W3):=zH (by rw[hW3];exact HST.out w2 _ b2 hhy);have p0:W3.cell? ⟨w.heap.size,0,none⟩=some (.int .i64 m):=HT3.out.bp.cell 0;have p1:W3.cell? ⟨w.heap.size,1,none⟩=some (.int .i64 (d:Int)):=HT3.out.bp.cell 1;have p2:W3.cell? ⟨w.heap.size,2,none⟩=some (cntF lb):=HT3.out.bp.cell 2;have x0:W3.cell? ⟨w.heap.size+1,0,none⟩=some (.int .i64 yk):=HT3.out.bx.cell 0;have x4:W3.cell? ⟨w.heap.size+1,4,none⟩=some (.slice k1 k2 k3):=HT3.out.bx.cell 4;obtain⟨gy,hgy⟩: ∃g,w2.heap.size=g:=⟨_,rfl⟩;rw[hgy]at HT3;have HGY:=zH hgy;simp only[cntF]at p2;simp only[ae,pv]at hW3;have HW3:=zH hW3;have E0:=p0;have E1:=p1;have E2:=p2;have X0:=x0;have X4:=x4;rw[hW3]at E0 E1 E2 X0 X4;have HB3':Hid (Blk W3 lb 3 [.int .i64 (left:Int)]):=zH (by rw[hW3];exact((HB.out.below HB1.out).below b2).below (af _ _));clear hW3 hhy b2 hgy HST HMD;have HB3:Hid (Blk W3 lb 3 [.int .i64 (left:Int)]):=zH HB3'.out
 by_cases h1:yk=1
 ·subst h1
  have HKD:Hid (h.kind=1):=zH HHK.out.symm;rw[HKD.out]at HT3;have HMK:Hid (fQ h.kind=true):=zH (by rw[HKD.out];rfl);have hst0:=oO m 1 W3;rw[qI (by decide)]at hst0
  by_cases hst:stands 1 m=true
  ·rw[hst]at hst0
   have HST:=zH hst0;have HKA:Hid (aF h.kind m=1):=zH (by rw[HKD.out];exact kt1 (by decide) hst);have j0:W3.cell? ⟨gy,0,none⟩=some (.int .i64 1):=HT3.out.by'.cell 0;have j1:W3.cell? ⟨gy,1,none⟩=some (.int .i64 yl):=HT3.out.by'.cell 1;have j2:W3.cell? ⟨gy,2,none⟩=some (.int .i64 yn):=HT3.out.by'.cell 2;have j3:W3.cell? ⟨gy,3,none⟩=some (.slice y1 y2 y3):=HT3.out.by'.cell 3;have j4:W3.cell? ⟨gy,4,none⟩=some (.slice none 0 0):=HT3.out.by'.cell 4;have j5:W3.cell? ⟨gy,5,none⟩=some (.slice z1 z2 z3):=HT3.out.by'.cell 5;have j6:W3.cell? ⟨gy,6,none⟩=some (.string ⟨yo.toArray⟩):=HT3.out.by'.cell 6;have j7:W3.cell? ⟨gy,7,none⟩=some (.slice u1 u2 u3):=HT3.out.by'.cell 7;have j8:W3.cell? ⟨gy,8,none⟩=some (.bool yb):=HT3.out.by'.cell 8;have j9:W3.cell? ⟨gy,9,none⟩=some (.bool ya):=HT3.out.by'.cell 9;have hLK:=l6 ⟨1,yl,yn,(y1,y2,y3),aj,(z1,z2,z3),yo,(u1,u2,u3),yb,ya⟩ W3;rw[full_of HT3.out.hd]at hLK;simp only at hLK;rw[show decide (0<0)=false from rfl]at hLK;obtain⟨fb,hfb⟩: ∃b,aY (aH h 1) false=b:=⟨_,rfl⟩;rw[hfb]at hLK;simp only[ae,pv]at hLK;have HLK:=zH hLK;have HFB:=zH hfb;clear hst0 hst hLK hfb;go_wp2_with fail
   rw[HGY.out,←HW3.out];refine HST.out.mono ?_;rintro e w4 ⟨rfl,rfl⟩;clear HST E0 E1 E2 X0 X4;go_wp2_with fail
   refine HLK.out.mono ?_;rintro e w5 ⟨rfl,b5⟩;have HT5:=zH (HT3.out.keep b5);have HB5:=zH (HB3.out.below b5);clear b5 HLK p0 p1 p2 x0 x4 j0 j1 j2 j3 j4 j5 j6 j7 j8 j9;have p0:w5.cell? ⟨w.heap.size,0,none⟩=some (.int .i64 m):=HT5.out.bp.cell 0;have p1:w5.cell? ⟨w.heap.size,1,none⟩=some (.int .i64 (d:Int)):=HT5.out.bp.cell 1;have p2:w5.cell? ⟨w.heap.size,2,none⟩=some (cntF lb):=HT5.out.bp.cell 2;have x0:w5.cell? ⟨w.heap.size+1,0,none⟩=some (.int .i64 1):=HT5.out.bx.cell 0;have x4:w5.cell? ⟨w.heap.size+1,4,none⟩=some (.slice k1 k2 k3):=HT5.out.bx.cell 4;simp only[cntF]at p2
   cases fb
   ·have HIN:Hid (bG h m=false):=zH (by unfold bG;rw[HKA.out,HFB.out,HKD.out];simp)
    have HFU:Hid (aY (aH h 3) false=aY (aH h 1) false):=zH (rF (by decide));have HFE:Hid (aY (aH h 3) false=true→(3:Int)=1):=zH (fun q=>by rw[HFU.out,HFB.out]at q;cases q);clear p0 p1 p2 x0 x4;obtain⟨W6,hW6⟩: ∃W,W=w5.setCell ⟨gy,0,none⟩ (.int .i64 3):=⟨_,rfl⟩;have f0:w5.frozen? ⟨gy,0,none⟩=false:=HT5.out.by'.frozen (by simp[ae]);have g0:w5.cell? ⟨gy,0,none⟩=some (.int .i64 1):=HT5.out.by'.cell 0;have HT6:Hid (TO lb w m d ⟨1,xl,xn,(t1,t2,t3),(k1,k2,k3),(r1,r2,r3),xc,(q1,q2,q3),xb,xa⟩ gy ⟨3,yl,yn,(y1,y2,y3),aj,(z1,z2,z3),yo,(u1,u2,u3),yb,ya⟩ (aH h 3) W6):=zH (by rw[hW6];exact HT5.out.set 0 _ rfl (fun W q=>IC (by decide) q));exact QUg
   ·have HIN:Hid (bG h m=true):=zH (by unfold bG;rw[HKA.out,HFB.out,HKD.out];rfl)
    have hput:=HPX.out (.slice k1 k2 k3) (.slice none 0 0) [] w5.heap.size 1 (d+1) left w5 HK.out (HBL.out _ HT5.out.exc) (by have:=HT5.out.lb';have:=HT5.out.exc.size;omega) (cZ.nil (fun b q=>q.elim) (Mo _)) HB5.out (by omega) hl2 (by omega) (by simp;omega);rw[Nk,HKL.out]at hput;simp only[eP,cntF,HED.out]at hput;have HPUT:=zH hput;clear hput;go_wp2_with fail
    refine HPUT.out.mono ?_;rintro e w6 ⟨v6,rfl,hN6,hB6,hF6,-⟩;obtain⟨ca,cc,hv6⟩:=hN6.len;obtain⟨kl,hkl⟩: ∃l,tfL ks 1 (d+1)=l:=⟨_,rfl⟩;rw[hkl]at hN6 hv6;subst hv6;obtain⟨cn,hcn⟩: ∃n,kl.length=n:=⟨_,rfl⟩;rw[hcn]at hN6 ⊢;have hE6:Exc (· =lb) w5 w6:=⟨hF6.os,hF6.tape,hF6.output,hF6.size,fun b h1 h2=>hF6.low b h1 h2 h1⟩;have HT6:=zH (HT5.out.exc' hE6);have f4:w6.frozen? ⟨gy,4,none⟩=false:=HT6.out.by'.frozen (by simp[ae]);have g4:w6.cell? ⟨gy,4,none⟩=some (.slice none 0 0):=HT6.out.by'.cell 4;obtain⟨W7,hW7⟩: ∃W,W=w6.setCell ⟨gy,4,none⟩ (.slice ca cn cc):=⟨_,rfl⟩;have HT7:Hid (TO lb w m d ⟨1,xl,xn,(t1,t2,t3),(k1,k2,k3),(r1,r2,r3),xc,(q1,q2,q3),xb,xa⟩ gy ⟨1,yl,yn,(y1,y2,y3),(ca,cn,cc),(z1,z2,z3),yo,(u1,u2,u3),yb,ya⟩ (aH h 1) W7):=zH (by rw[hW7];exact HT6.out.set 4 _ rfl (fun W q=>⟨q.kind,q.line,q.n,q.text,q.rows,q.cols,q.trows,q.box,q.all⟩));have hNK:=hN6.nss.keep (w':=W7) (fun b q=>by rw[hW7,Mt _ _ _ _ (show b≠gy by have:=HT5.out.gz;rcases q with q | q;exact q.elim;omega)]);have hsz7:W7.heap.size=w6.heap.size:=by rw[hW7,eH]
    have hg1:=HT7.out.lt;have hg2:=HT7.out.gz;have hg3:=HT5.out.gz;have hg4:=HT5.out.exc.size;have hadd:=fD base (.slice va an vc) acc ⟨1,yl,yn,(y1,y2,y3),(ca,cn,cc),(z1,z2,z3),yo,(u1,u2,u3),yb,ya⟩ (aH h 1) kl (fun b=>w.heap.size+1<b∧b<W7.heap.size) W7 (HN.out.exc HBA.out HT7.out.exc) (fun b q=>⟨by have:=HN.out.sz;omega,q.2,fun e=>by obtain⟨L,S,hL,-⟩:=HN.out.own;have:=hL.blt e;omega⟩) (HT7.out.hd.mono (fun b q=>⟨q.1,by omega⟩)) (hNK.mono (fun b q=>by rcases q with q | q;exact q.elim;exact⟨by omega,by omega⟩)) (by have:=HAN.out;omega);rw[←hkl,Bu HKA.out HIN.out acc,HR.out]at hadd;simp only[ae,pv]at hadd;have HADD:=zH hadd;have HB7:Hid (Blk W7 lb 3 [.int .i64 (KL:Int)]):=zH (by rw[hW7];exact hB6.other (by have:=HT7.out.lb';omega) _ _);have j0:W7.cell? ⟨gy,0,none⟩=some (.int .i64 1):=HT7.out.by'.cell 0;exact QUi
  ·have hst':stands 1 m=false:=by simpa using hst
   rw[hst']at hst0;have HST:=zH hst0;have HKA:Hid (aF h.kind m=3):=zH (by rw[HKD.out];exact kt3 (by decide) hst');have HIN:Hid (bG h m=false):=zH (by unfold bG;rw[HKA.out,HKD.out];simp);clear hst0 hst hst';go_wp2_with fail
   rw[HGY.out,←HW3.out];refine HST.out.mono ?_;rintro e w4 ⟨rfl,rfl⟩;clear HST E0 E1 E2 X0 X4 p0 p1 p2 x0 x4;have HFU:Hid (aY (aH h 3) false=aY (aH h 3) false):=zH rfl;have HFE:Hid (aY (aH h 3) false=true→(3:Int)=3):=zH (fun _=>rfl);obtain⟨W6,hW6⟩: ∃W,W=W3.setCell ⟨gy,0,none⟩ (.int .i64 3):=⟨_,rfl⟩;have f0:W3.frozen? ⟨gy,0,none⟩=false:=HT3.out.by'.frozen (by simp[ae]);have g0:W3.cell? ⟨gy,0,none⟩=some (.int .i64 1):=HT3.out.by'.cell 0;have HT6:Hid (TO lb w m d ⟨1,xl,xn,(t1,t2,t3),(k1,k2,k3),(r1,r2,r3),xc,(q1,q2,q3),xb,xa⟩ gy ⟨3,yl,yn,(y1,y2,y3),aj,(z1,z2,z3),yo,(u1,u2,u3),yb,ya⟩ (aH h 3) W6):=zH (by rw[hW6];exact HT3.out.set 0 _ rfl (fun W q=>IC (by decide) q));exact QUh
 by_cases h2:yk=2
 ·subst h2
  have HKD:Hid (h.kind=2):=zH HHK.out.symm;rw[HKD.out]at HT3;have HMK:Hid (fQ h.kind=true):=zH (by rw[HKD.out];rfl);clear h1;have hst0:=oO m 2 W3;rw[qI (by decide)]at hst0
  by_cases hst:stands 2 m=true
  ·rw[hst]at hst0
   have HST:=zH hst0;have HKA:Hid (aF h.kind m=2):=zH (by rw[HKD.out];exact kt1 (by decide) hst);have j0:W3.cell? ⟨gy,0,none⟩=some (.int .i64 2):=HT3.out.by'.cell 0;have j1:W3.cell? ⟨gy,1,none⟩=some (.int .i64 yl):=HT3.out.by'.cell 1;have j2:W3.cell? ⟨gy,2,none⟩=some (.int .i64 yn):=HT3.out.by'.cell 2;have j3:W3.cell? ⟨gy,3,none⟩=some (.slice y1 y2 y3):=HT3.out.by'.cell 3;have j4:W3.cell? ⟨gy,4,none⟩=some (.slice none 0 0):=HT3.out.by'.cell 4;have j5:W3.cell? ⟨gy,5,none⟩=some (.slice z1 z2 z3):=HT3.out.by'.cell 5;have j6:W3.cell? ⟨gy,6,none⟩=some (.string ⟨yo.toArray⟩):=HT3.out.by'.cell 6;have j7:W3.cell? ⟨gy,7,none⟩=some (.slice u1 u2 u3):=HT3.out.by'.cell 7;have j8:W3.cell? ⟨gy,8,none⟩=some (.bool yb):=HT3.out.by'.cell 8;have j9:W3.cell? ⟨gy,9,none⟩=some (.bool ya):=HT3.out.by'.cell 9;have hLK:=l6 ⟨2,yl,yn,(y1,y2,y3),aj,(z1,z2,z3),yo,(u1,u2,u3),yb,ya⟩ W3;rw[full_of HT3.out.hd]at hLK;simp only at hLK;rw[show decide (0<0)=false from rfl]at hLK;obtain⟨fb,hfb⟩: ∃b,aY (aH h 2) false=b:=⟨_,rfl⟩;rw[hfb]at hLK;simp only[ae,pv]at hLK;have HLK:=zH hLK;have HFB:=zH hfb;clear hst0 hst hLK hfb;go_wp2_with fail
   rw[HGY.out,←HW3.out];refine HST.out.mono ?_;rintro e w4 ⟨rfl,rfl⟩;clear HST E0 E1 E2 X0 X4;go_wp2_with fail
   refine HLK.out.mono ?_;rintro e w5 ⟨rfl,b5⟩;have HT5:=zH (HT3.out.keep b5);have HB5:=zH (HB3.out.below b5);clear b5 HLK p0 p1 p2 x0 x4 j0 j1 j2 j3 j4 j5 j6 j7 j8 j9;have p0:w5.cell? ⟨w.heap.size,0,none⟩=some (.int .i64 m):=HT5.out.bp.cell 0;have p1:w5.cell? ⟨w.heap.size,1,none⟩=some (.int .i64 (d:Int)):=HT5.out.bp.cell 1;have p2:w5.cell? ⟨w.heap.size,2,none⟩=some (cntF lb):=HT5.out.bp.cell 2;have x0:w5.cell? ⟨w.heap.size+1,0,none⟩=some (.int .i64 2):=HT5.out.bx.cell 0;have x4:w5.cell? ⟨w.heap.size+1,4,none⟩=some (.slice k1 k2 k3):=HT5.out.bx.cell 4;simp only[cntF]at p2
   cases fb
   ·have HIN:Hid (bG h m=false):=zH (by unfold bG;rw[HKA.out,HFB.out,HKD.out];simp)
    have HFU:Hid (aY (aH h 3) false=aY (aH h 2) false):=zH (rF (by decide));have HFE:Hid (aY (aH h 3) false=true→(3:Int)=2):=zH (fun q=>by rw[HFU.out,HFB.out]at q;cases q);clear p0 p1 p2 x0 x4;obtain⟨W6,hW6⟩: ∃W,W=w5.setCell ⟨gy,0,none⟩ (.int .i64 3):=⟨_,rfl⟩;have f0:w5.frozen? ⟨gy,0,none⟩=false:=HT5.out.by'.frozen (by simp[ae]);have g0:w5.cell? ⟨gy,0,none⟩=some (.int .i64 2):=HT5.out.by'.cell 0;have HT6:Hid (TO lb w m d ⟨2,xl,xn,(t1,t2,t3),(k1,k2,k3),(r1,r2,r3),xc,(q1,q2,q3),xb,xa⟩ gy ⟨3,yl,yn,(y1,y2,y3),aj,(z1,z2,z3),yo,(u1,u2,u3),yb,ya⟩ (aH h 3) W6):=zH (by rw[hW6];exact HT5.out.set 0 _ rfl (fun W q=>IC (by decide) q));exact QUg
   ·have HIN:Hid (bG h m=true):=zH (by unfold bG;rw[HKA.out,HFB.out,HKD.out];rfl)
    have hput:=HPX.out (.slice k1 k2 k3) (.slice none 0 0) [] w5.heap.size 2 (d+1) left w5 HK.out (HBL.out _ HT5.out.exc) (by have:=HT5.out.lb';have:=HT5.out.exc.size;omega) (cZ.nil (fun b q=>q.elim) (Mo _)) HB5.out (by omega) hl2 (by omega) (by simp;omega);rw[Nk,HKL.out]at hput;simp only[eP,cntF,HED.out]at hput;have HPUT:=zH hput;clear hput;go_wp2_with fail
    refine HPUT.out.mono ?_;rintro e w6 ⟨v6,rfl,hN6,hB6,hF6,-⟩;obtain⟨ca,cc,hv6⟩:=hN6.len;obtain⟨kl,hkl⟩: ∃l,tfL ks 2 (d+1)=l:=⟨_,rfl⟩;rw[hkl]at hN6 hv6;subst hv6;obtain⟨cn,hcn⟩: ∃n,kl.length=n:=⟨_,rfl⟩;rw[hcn]at hN6 ⊢;have hE6:Exc (· =lb) w5 w6:=⟨hF6.os,hF6.tape,hF6.output,hF6.size,fun b h1 h2=>hF6.low b h1 h2 h1⟩;have HT6:=zH (HT5.out.exc' hE6);have f4:w6.frozen? ⟨gy,4,none⟩=false:=HT6.out.by'.frozen (by simp[ae]);have g4:w6.cell? ⟨gy,4,none⟩=some (.slice none 0 0):=HT6.out.by'.cell 4;obtain⟨W7,hW7⟩: ∃W,W=w6.setCell ⟨gy,4,none⟩ (.slice ca cn cc):=⟨_,rfl⟩;have HT7:Hid (TO lb w m d ⟨2,xl,xn,(t1,t2,t3),(k1,k2,k3),(r1,r2,r3),xc,(q1,q2,q3),xb,xa⟩ gy ⟨2,yl,yn,(y1,y2,y3),(ca,cn,cc),(z1,z2,z3),yo,(u1,u2,u3),yb,ya⟩ (aH h 2) W7):=zH (by rw[hW7];exact HT6.out.set 4 _ rfl (fun W q=>⟨q.kind,q.line,q.n,q.text,q.rows,q.cols,q.trows,q.box,q.all⟩));have hNK:=hN6.nss.keep (w':=W7) (fun b q=>by rw[hW7,Mt _ _ _ _ (show b≠gy by have:=HT5.out.gz;rcases q with q | q;exact q.elim;omega)]);have hsz7:W7.heap.size=w6.heap.size:=by rw[hW7,eH]
    have hg1:=HT7.out.lt;have hg2:=HT7.out.gz;have hg3:=HT5.out.gz;have hg4:=HT5.out.exc.size;have hadd:=fD base (.slice va an vc) acc ⟨2,yl,yn,(y1,y2,y3),(ca,cn,cc),(z1,z2,z3),yo,(u1,u2,u3),yb,ya⟩ (aH h 2) kl (fun b=>w.heap.size+1<b∧b<W7.heap.size) W7 (HN.out.exc HBA.out HT7.out.exc) (fun b q=>⟨by have:=HN.out.sz;omega,q.2,fun e=>by obtain⟨L,S,hL,-⟩:=HN.out.own;have:=hL.blt e;omega⟩) (HT7.out.hd.mono (fun b q=>⟨q.1,by omega⟩)) (hNK.mono (fun b q=>by rcases q with q | q;exact q.elim;exact⟨by omega,by omega⟩)) (by have:=HAN.out;omega);rw[←hkl,Bu HKA.out HIN.out acc,HR.out]at hadd;simp only[ae,pv]at hadd;have HADD:=zH hadd;have HB7:Hid (Blk W7 lb 3 [.int .i64 (KL:Int)]):=zH (by rw[hW7];exact hB6.other (by have:=HT7.out.lb';omega) _ _);have j0:W7.cell? ⟨gy,0,none⟩=some (.int .i64 2):=HT7.out.by'.cell 0;exact QUi
  ·have hst':stands 2 m=false:=by simpa using hst
   rw[hst']at hst0;have HST:=zH hst0;have HKA:Hid (aF h.kind m=3):=zH (by rw[HKD.out];exact kt3 (by decide) hst');have HIN:Hid (bG h m=false):=zH (by unfold bG;rw[HKA.out,HKD.out];simp);clear hst0 hst hst';go_wp2_with fail
   rw[HGY.out,←HW3.out];refine HST.out.mono ?_;rintro e w4 ⟨rfl,rfl⟩;clear HST E0 E1 E2 X0 X4 p0 p1 p2 x0 x4;have HFU:Hid (aY (aH h 3) false=aY (aH h 3) false):=zH rfl;have HFE:Hid (aY (aH h 3) false=true→(3:Int)=3):=zH (fun _=>rfl);obtain⟨W6,hW6⟩: ∃W,W=W3.setCell ⟨gy,0,none⟩ (.int .i64 3):=⟨_,rfl⟩;have f0:W3.frozen? ⟨gy,0,none⟩=false:=HT3.out.by'.frozen (by simp[ae]);have g0:W3.cell? ⟨gy,0,none⟩=some (.int .i64 2):=HT3.out.by'.cell 0;have HT6:Hid (TO lb w m d ⟨2,xl,xn,(t1,t2,t3),(k1,k2,k3),(r1,r2,r3),xc,(q1,q2,q3),xb,xa⟩ gy ⟨3,yl,yn,(y1,y2,y3),aj,(z1,z2,z3),yo,(u1,u2,u3),yb,ya⟩ (aH h 3) W6):=zH (by rw[hW6];exact HT3.out.set 0 _ rfl (fun W q=>IC (by decide) q));exact QUh
 by_cases h4:yk=4
 ·subst h4
  have HKD:Hid (h.kind=4):=zH HHK.out.symm;rw[HKD.out]at HT3;have HMK:Hid (fQ h.kind=true):=zH (by rw[HKD.out];rfl);clear h1 h2;have HKA:Hid (aF h.kind m=4):=zH (by rw[HKD.out];exact kt0 (by decide) (by decide));have HIN:Hid (bG h m=true):=zH (by unfold bG;rw[HKA.out,HKD.out,AL (by rfl) _];rfl);have hput:=HPX.out (.slice k1 k2 k3) (.slice none 0 0) [] W3.heap.size 4 (d+1) left W3 HK.out (HBL.out _ HT3.out.exc) (by have:=HT3.out.lb';have:=HT3.out.exc.size;omega) (cZ.nil (fun b q=>q.elim) (Mo _)) HB3.out (by omega) hl2 (by omega) (by simp;omega);rw[Nk,HKL.out]at hput;simp only[eP,cntF,HED.out]at hput;have HPUT:=zH hput;clear hput;clear p0 p1 p2 x0 x4;go_wp2_with fail
  rw[HGY.out,←HW3.out];clear E0 E1 E2 X0 X4;refine HPUT.out.mono ?_;rintro e w6 ⟨v6,rfl,hN6,hB6,hF6,-⟩;obtain⟨ca,cc,hv6⟩:=hN6.len;obtain⟨kl,hkl⟩: ∃l,tfL ks 4 (d+1)=l:=⟨_,rfl⟩;rw[hkl]at hN6 hv6;subst hv6;obtain⟨cn,hcn⟩: ∃n,kl.length=n:=⟨_,rfl⟩;rw[hcn]at hN6 ⊢;have hE6:Exc (· =lb) W3 w6:=⟨hF6.os,hF6.tape,hF6.output,hF6.size,fun b h1 h2=>hF6.low b h1 h2 h1⟩;have HT6:=zH (HT3.out.exc' hE6);have f4:w6.frozen? ⟨gy,4,none⟩=false:=HT6.out.by'.frozen (by simp[ae]);have g4:w6.cell? ⟨gy,4,none⟩=some (.slice none 0 0):=HT6.out.by'.cell 4;obtain⟨W7,hW7⟩: ∃W,W=w6.setCell ⟨gy,4,none⟩ (.slice ca cn cc):=⟨_,rfl⟩;have HT7:Hid (TO lb w m d ⟨4,xl,xn,(t1,t2,t3),(k1,k2,k3),(r1,r2,r3),xc,(q1,q2,q3),xb,xa⟩ gy ⟨4,yl,yn,(y1,y2,y3),(ca,cn,cc),(z1,z2,z3),yo,(u1,u2,u3),yb,ya⟩ (aH h 4) W7):=zH (by rw[hW7];exact HT6.out.set 4 _ rfl (fun W q=>⟨q.kind,q.line,q.n,q.text,q.rows,q.cols,q.trows,q.box,q.all⟩));have hNK:=hN6.nss.keep (w':=W7) (fun b q=>by rw[hW7,Mt _ _ _ _ (show b≠gy by have:=HT3.out.gz;rcases q with q | q;exact q.elim;omega)]);have hsz7:W7.heap.size=w6.heap.size:=by rw[hW7,eH]
  have hg1:=HT7.out.lt;have hg2:=HT7.out.gz;have hg3:=HT3.out.gz;have hg4:=HT3.out.exc.size;have hadd:=fD base (.slice va an vc) acc ⟨4,yl,yn,(y1,y2,y3),(ca,cn,cc),(z1,z2,z3),yo,(u1,u2,u3),yb,ya⟩ (aH h 4) kl (fun b=>w.heap.size+1<b∧b<W7.heap.size) W7 (HN.out.exc HBA.out HT7.out.exc) (fun b q=>⟨by have:=HN.out.sz;omega,q.2,fun e=>by obtain⟨L,S,hL,-⟩:=HN.out.own;have:=hL.blt e;omega⟩) (HT7.out.hd.mono (fun b q=>⟨q.1,by omega⟩)) (hNK.mono (fun b q=>by rcases q with q | q;exact q.elim;exact⟨by omega,by omega⟩)) (by have:=HAN.out;omega);rw[←hkl,Bu HKA.out HIN.out acc,HR.out]at hadd;simp only[ae,pv]at hadd;have HADD:=zH hadd;have HB7:Hid (Blk W7 lb 3 [.int .i64 (KL:Int)]):=zH (by rw[hW7];exact hB6.other (by have:=HT7.out.lb';omega) _ _);have j0:W7.cell? ⟨gy,0,none⟩=some (.int .i64 4):=HT7.out.by'.cell 0;exact QUi
 by_cases h5:yk=5
 ·subst h5
  have HKD:Hid (h.kind=5):=zH HHK.out.symm;rw[HKD.out]at HT3;have HMK:Hid (fQ h.kind=true):=zH (by rw[HKD.out];rfl);clear h1 h2 h4;have HKA:Hid (aF h.kind m=5):=zH (by rw[HKD.out];exact kt0 (by decide) (by decide));have HIN:Hid (bG h m=true):=zH (by unfold bG;rw[HKA.out,HKD.out];rfl);have hput:=HPX.out (.slice k1 k2 k3) (.slice none 0 0) [] W3.heap.size 5 (d+1) left W3 HK.out (HBL.out _ HT3.out.exc) (by have:=HT3.out.lb';have:=HT3.out.exc.size;omega) (cZ.nil (fun b q=>q.elim) (Mo _)) HB3.out (by omega) hl2 (by omega) (by simp;omega);rw[Nk,HKL.out]at hput;simp only[eP,cntF,HED.out]at hput;have HPUT:=zH hput;clear hput;clear p0 p1 p2 x0 x4;go_wp2_with fail
  rw[HGY.out,←HW3.out];clear E0 E1 E2 X0 X4;refine HPUT.out.mono ?_;rintro e w6 ⟨v6,rfl,hN6,hB6,hF6,-⟩;obtain⟨ca,cc,hv6⟩:=hN6.len;obtain⟨kl,hkl⟩: ∃l,tfL ks 5 (d+1)=l:=⟨_,rfl⟩;rw[hkl]at hN6 hv6;subst hv6;obtain⟨cn,hcn⟩: ∃n,kl.length=n:=⟨_,rfl⟩;rw[hcn]at hN6 ⊢;have hE6:Exc (· =lb) W3 w6:=⟨hF6.os,hF6.tape,hF6.output,hF6.size,fun b h1 h2=>hF6.low b h1 h2 h1⟩;have HT6:=zH (HT3.out.exc' hE6);have f4:w6.frozen? ⟨gy,4,none⟩=false:=HT6.out.by'.frozen (by simp[ae]);have g4:w6.cell? ⟨gy,4,none⟩=some (.slice none 0 0):=HT6.out.by'.cell 4;obtain⟨W7,hW7⟩: ∃W,W=w6.setCell ⟨gy,4,none⟩ (.slice ca cn cc):=⟨_,rfl⟩;have HT7:Hid (TO lb w m d ⟨5,xl,xn,(t1,t2,t3),(k1,k2,k3),(r1,r2,r3),xc,(q1,q2,q3),xb,xa⟩ gy ⟨5,yl,yn,(y1,y2,y3),(ca,cn,cc),(z1,z2,z3),yo,(u1,u2,u3),yb,ya⟩ (aH h 5) W7):=zH (by rw[hW7];exact HT6.out.set 4 _ rfl (fun W q=>⟨q.kind,q.line,q.n,q.text,q.rows,q.cols,q.trows,q.box,q.all⟩));have hNK:=hN6.nss.keep (w':=W7) (fun b q=>by rw[hW7,Mt _ _ _ _ (show b≠gy by have:=HT3.out.gz;rcases q with q | q;exact q.elim;omega)]);have hsz7:W7.heap.size=w6.heap.size:=by rw[hW7,eH]
  have hg1:=HT7.out.lt;have hg2:=HT7.out.gz;have hg3:=HT3.out.gz;have hg4:=HT3.out.exc.size;have hadd:=fD base (.slice va an vc) acc ⟨5,yl,yn,(y1,y2,y3),(ca,cn,cc),(z1,z2,z3),yo,(u1,u2,u3),yb,ya⟩ (aH h 5) kl (fun b=>w.heap.size+1<b∧b<W7.heap.size) W7 (HN.out.exc HBA.out HT7.out.exc) (fun b q=>⟨by have:=HN.out.sz;omega,q.2,fun e=>by obtain⟨L,S,hL,-⟩:=HN.out.own;have:=hL.blt e;omega⟩) (HT7.out.hd.mono (fun b q=>⟨q.1,by omega⟩)) (hNK.mono (fun b q=>by rcases q with q | q;exact q.elim;exact⟨by omega,by omega⟩)) (by have:=HAN.out;omega);rw[←hkl,Bu HKA.out HIN.out acc,HR.out]at hadd;simp only[ae,pv]at hadd;have HADD:=zH hadd;have HB7:Hid (Blk W7 lb 3 [.int .i64 (KL:Int)]):=zH (by rw[hW7];exact hB6.other (by have:=HT7.out.lb';omega) _ _);have j0:W7.cell? ⟨gy,0,none⟩=some (.int .i64 5):=HT7.out.by'.cell 0;exact QUi
 have n1:(yk==1)=false:=by simpa using h1
 have n2:(yk==2)=false:=by simpa using h2
 have n4:(yk==4)=false:=by simpa using h4
 have n5:(yk==5)=false:=by simpa using h5
 have HKD:Hid (h.kind=yk):=zH HHK.out.symm;rw[HKD.out]at HT3;have HMK:Hid (fQ h.kind=false):=zH (by rw[HKD.out];unfold fQ;rw[n1,n2,n4,n5];rfl);have HKA:Hid (aF h.kind m=yk):=zH (by rw[HKD.out];exact kt0 h1 h2);have hlv:=qO SI w0 lb HLB.out HSI.out m d (aD ks) ks rfl left (.slice k1 k2 k3) W3 hc hl2 HK.out (HBL.out _ HT3.out.exc) HB3.out;rw[HKL.out]at hlv;simp only[eP,cntF]at hlv;have HLV:=zH hlv;clear hlv h1 h2 h4 h5 p0 p1 p2 x0 x4;go_wp2_with fail
 rw[HGY.out,←HW3.out];clear E0 E1 E2 X0 X4;refine HLV.out.mono ?_;rintro e w4 ⟨rfl,hB4,hE4⟩;have HT4:=zH (HT3.out.exc' hE4);have HB4:=zH hB4;have hg1:=HT4.out.lt;have hg2:=HT4.out.gz;have hadd:=fD base (.slice va an vc) acc ⟨yk,yl,yn,(y1,y2,y3),aj,(z1,z2,z3),yo,(u1,u2,u3),yb,ya⟩ (aH h yk) [] (fun b=>w.heap.size+1<b∧b<w4.heap.size) w4 (HN.out.exc HBA.out HT4.out.exc) (fun b q=>⟨by have:=HN.out.sz;omega,q.2,fun e=>by obtain⟨L,S,hL,-⟩:=HN.out.own;have:=hL.blt e;omega⟩) (HT4.out.hd.mono (fun b q=>⟨q.1,by omega⟩)) (NsS.nil _ _) (by have:=HAN.out;omega);rw[La (ks:=ks) (m:=m) (d:=d) HKA.out HMK.out acc,HR.out]at hadd;simp only[ae,pv]at hadd;have HADD:=zH hadd;have j0:w4.cell? ⟨gy,0,none⟩=some (.int .i64 yk):=HT4.out.by'.cell 0;have j1:w4.cell? ⟨gy,1,none⟩=some (.int .i64 yl):=HT4.out.by'.cell 1;have j2:w4.cell? ⟨gy,2,none⟩=some (.int .i64 yn):=HT4.out.by'.cell 2;have j3:w4.cell? ⟨gy,3,none⟩=some (.slice y1 y2 y3):=HT4.out.by'.cell 3;have j4:w4.cell? ⟨gy,4,none⟩=some (.slice none 0 0):=HT4.out.by'.cell 4;have j5:w4.cell? ⟨gy,5,none⟩=some (.slice z1 z2 z3):=HT4.out.by'.cell 5;have j6:w4.cell? ⟨gy,6,none⟩=some (.string ⟨yo.toArray⟩):=HT4.out.by'.cell 6;have j7:w4.cell? ⟨gy,7,none⟩=some (.slice u1 u2 u3):=HT4.out.by'.cell 7;have j8:w4.cell? ⟨gy,8,none⟩=some (.bool yb):=HT4.out.by'.cell 8;have j9:w4.cell? ⟨gy,9,none⟩=some (.bool ya):=HT4.out.by'.cell 9;clear hadd hg1 hg2 hB4 hE4 HLV;go_wp2_with fail
 refine HADD.out.mono ?_;rintro e w8 ⟨v8,rfl,hN8,hb8,ho8,hq8⟩;have HN7:=zH (HN.out.exc HBA.out HT4.out.exc);have HFIN:=zH (And.intro hN8 (And.intro (show Blk w8 lb 3 [.int .i64 (KL:Int)] from(ho8 lb HB4.out.lt (HN7.out.own_ge HBA.out)).trans HB4.out) (And.intro ((PF.exc HT4.out.exc).trans (sM.pf (lb:=lb) HN7.out hb8 ho8)) ((Ow.exc (v:= .slice va an vc) HT4.out.exc).trans (fun b h1 _ h3=>⟨ho8 b h1 h3,hq8 b h1 h3⟩) HT4.out.exc.size))));clear hN8 hb8 ho8 hq8 HADD;go_wp2_with fail
 go_ret;exact⟨_,rfl,HFIN.out.1,HFIN.out.2.1,HFIN.out.2.2.1,HFIN.out.2.2.2⟩
section
open Go.RowKit
theorem FC (SI:Nat→Prop) (w0:World) (lb:Nat) (hlb:w0.heap.size≤lb) (hSI: ∀b,SI b→b<w0.heap.size) (hU:U8 w0): ∀(n:Nat) (l:List Nd),aD l=n→nlL l≤90000→Ia w0 lb SI l:=by
 intro n
 induction n using Nat.strongRecOn with
 | _ n IH=>
  intro l hn hnl lv v acc base m d left w hv hbw hbase hN hB hc hl2 hd ha;subst hn;have HPO:Hid (∀(q:List Nd),aD q<aD l→nlL q≤90000→Ia w0 lb SI q):=zH (fun q hq hq2=>IH (aD q) hq q rfl hq2);have hll:=lM l;obtain⟨W1,hW1⟩: ∃W,W=w.alloc (.cells (eP m d lb).toArray 157):=⟨_,rfl⟩;have b1:Below w.heap.size w W1:=by rw[hW1];exact af _ _
  have HP1:Hid (Blk W1 w.heap.size 157 (eP m d lb)):=zH (by rw[hW1];exact Mw w _);have HN1:=zH (hN.keep b1);have HB1:=zH (hB.below b1);have HZ:Hid (lb<w.heap.size):=zH hB.lt;have HBW1:=zH (hbw.trans (b1.mono hbw.size));have HPF1:Hid (PF lb base w W1):=zH (PF.of b1);have HOW1:Hid (Ow lb v w v W1):=zH (fun b h1 _ h3=>⟨b1.block b h1,h3⟩);have HV:=zH hv;have HSI:=zH hSI;have HLB:=zH hlb;have HBA:=zH hbase;have HU:=zH hU;have HSZ1:=zH b1.size;obtain⟨va,vc,rfl⟩:=hN.len;obtain⟨la,lc,rfl⟩:=hv.len;unfold EG;simp only[eP,cntF]at hW1 ⊢;have HW1:=zH hW1;have HOV:=zH (fun(b:Nat) (hb:w.heap.size≤b) (e:(Value.slice va acc.length vc).ownBlock=some b)=>(by obtain⟨L,S,hL,-⟩:=hN.own;have:=hL.blt e;omega:False));clear hv hbw hbase hN hB hlb hSI hU hW1 b1 IH;go_enter Tryz.func99,Tryz.ntmps99
  go_wp2_with fail
  rw[←HW1.out];go_loopw [1,11] (fun u i wr=> ∃(p:Nat),i= .int .i64 (p:Int)∧p≤l.length∧Hid (cZ FS base wr u (acc++tfL (l.take p) m d))∧Hid (Blk wr lb 3 [.int .i64 ((left-aD (l.take p):Nat):Int)])∧Hid (PF lb base W1 wr)∧Hid (Ow lb (.slice va acc.length vc) W1 u wr)) (fun _ i _=>l.length-(intOf i).toNat)
  case atStart=>exact⟨0,rfl,by omega,by simpa[eY] using HN1,by simpa[aD] using HB1,zH (PF.refl _ _ _),zH (Ow.refl _ _ _)⟩
  case round=>
   obtain⟨p,rfl,hp,HN,HBK,HPF,HOW⟩:=hrel;clear HN1 HB1;obtain⟨ua,uc,rfl⟩:=HN.out.len;obtain⟨un,hun⟩: ∃n,(acc++tfL (l.take p) m d).length=n:=⟨_,rfl⟩;rw[hun]at HN HOW ⊢;have HUN:=zH hun
   by_cases hlt:p<l.length
   ·obtain⟨y,hy⟩: ∃y,l[p]? =some y:=⟨l[p],Mq hlt⟩
    have HCN:=zH (rW hy);have hle:=rX hy;have hnle:=ut hy;have hul:un≤acc.length+aD (l.take p):=by have:=vv (l.take p) m d;rw[←hun,MF];omega
    have hlt':(p:Int)<(l.length:Int):=by omega
    have hp0:(0:Int)≤(p:Int):=by omega
    have hbr:Below w0.heap.size w0 wr:=HBW1.out.trans (HPF.out.below HBW1.out.size HLB.out HBA.out);obtain⟨g,off,x,rfl,hC,hH,hK⟩:=HV.out.atK (Kp.below hbr HSI.out) hy;obtain⟨yh,yks⟩:=y;have hNX:Hid (¬20≤d→tfL (l.take (p+1)) m d=tfL (l.take p) m d++tfN (.mk yh yks) m d):=zH (fun h=>Ij hy m d h);simp only[Nd.hd,Nd.kids]at HCN hle hnle hH hK;obtain⟨wb,hwb⟩: ∃wb,wb=wr.alloc (.cells (ae x).toArray 58):=⟨_,rfl⟩;have bb:Below wr.heap.size wr wb:=by rw[hwb];exact af _ _
    have hPr:Blk wr w.heap.size 157 (eP m d lb):=HPF.out.blk HP1.out (by have:=HZ.out;omega) (by decide);have hPb:=hPr.below bb;have q2:wb.cell? ⟨w.heap.size,2,none⟩=some (cntF lb):=hPb.cell 2;have HC1:=zH (oP lb (left-aD (l.take p)) wb (HBK.out.below bb) (by omega) (by omega));have HXN:Hid (Blk wb wr.heap.size 58 (ae x)):=zH (by rw[hwb];exact Mw wr _);have HZN:Hid (wr.heap.size≠lb):=zH (fun e=>by have:=HBK.out.lt;omega);have HPB:=zH hPb;have HNB:=zH (HN.out.keep bb);have HPFb:=zH (HPF.out.trans (PF.of bb));have HOWb:Hid (Ow lb (.slice va acc.length vc) W1 (.slice ua un uc) wb):=zH (HOW.out.trans (Ow.exc (Exc.of bb)) HPF.out.size);have HKK:=zH hK;have HHH:=zH hH;obtain⟨xk,xl,xn,⟨t1,t2,t3⟩,⟨k1,k2,k3⟩,⟨r1,r2,r3⟩,xc,⟨q1,q2',q3⟩,xb,xa⟩:=x;have c0:=hC.c0;have c1:=hC.c1;have c2:=hC.c2;have c3:=hC.c3;have c4:=hC.c4;have c5:=hC.c5;have c6:=hC.c6;have c7:=hC.c7;have c8:=hC.c8;have c9:=hC.c9;simp only[ae,pv,cntF]at hwb q2 HKK;subst hwb;clear hy hC hK hH bb hPr hPb hbr hun;go_wp2_with fail
    refine HC1.out.mono ?_;rintro e w3 ⟨rfl,hB3,hE3⟩;have HB3:=zH hB3;have HN3:=zH (HNB.out.exc HBA.out hE3);have HPF3:Hid (PF lb base W1 w3):=zH (HPFb.out.trans (PF.exc hE3));have HOW3:Hid (Ow lb (.slice va acc.length vc) W1 (.slice ua un uc) w3):=zH (HOWb.out.trans (Ow.exc hE3) HPFb.out.size);have hP3:=hE3.blk HPB.out (by have:=HZ.out;omega);have p0:w3.cell? ⟨w.heap.size,0,none⟩=some (.int .i64 m):=hP3.cell 0;have p1:w3.cell? ⟨w.heap.size,1,none⟩=some (.int .i64 (d:Int)):=hP3.cell 1;have p2:w3.cell? ⟨w.heap.size,2,none⟩=some (cntF lb):=hP3.cell 2;have hX3:=hE3.blk HXN.out HZN.out;have x4:w3.cell? ⟨wr.heap.size,4,none⟩=some (.slice k1 k2 k3):=hX3.cell 4;have hb3:Below w0.heap.size w0 w3:=HBW1.out.trans (HPF3.out.below HBW1.out.size HLB.out HBA.out);simp only[cntF]at p2
    by_cases hdd:d=20
    ·have HDD:=zH hdd
     have HLV:=qO SI w0 lb HLB.out HSI.out m d (aD yks) yks rfl (left-aD (l.take p)-1) (.slice k1 k2 k3) w3 (by omega) (by omega) HKK.out hb3 HB3.out;simp only[eP,cntF]at HLV;have HLV:=zH HLV;have e20:((d:Int)==20)=true:=by simp;omega
     clear hB3 hE3 hP3 hX3 hb3 HC1 c0 c1 c2 c3 c4 c5 c6 c7 c8 c9 q2 hdd;go_wp2_with fail
     refine HLV.out.mono ?_;rintro e w5 ⟨rfl,hB5,hE5⟩;have HB5:=zH hB5;have HN5:=zH (HN3.out.exc HBA.out hE5);have HPF5:Hid (PF lb base W1 w5):=zH (HPF3.out.trans (PF.exc hE5));have HOW5:Hid (Ow lb (.slice va acc.length vc) W1 (.slice ua un uc) w5):=zH (HOW3.out.trans (Ow.exc hE5) HPF3.out.size);clear hB5 hE5 HLV p0 p1 p2 x4;go_wp2_with fail
     go_roundw
     case rel=>exact⟨p+1,by go_num,by omega,zH (by have h:=HN5.out;have e:=HDD.out;rw[wV _ m d (by omega)]at h ⊢;exact h),zH (by rw[HCN.out,show left-(aD (l.take p)+(1+aD yks))=left-aD (l.take p)-1-aD yks by omega];exact HB5.out),HPF5,HOW5⟩
     case measure=>(simp[intOf];try omega)
    ·have HON:=FE SI w0 lb HLB.out HSI.out HU.out ⟨xk,xl,xn,(t1,t2,t3),(k1,k2,k3),(r1,r2,r3),xc,(q1,q2',q3),xb,xa⟩ yh yks HHH.out HKK.out (by omega) (HPO.out yks (by omega) (by omega)) (.slice ua un uc) (acc++tfL (l.take p) m d) base m d (left-aD (l.take p)-1) w3 hb3 HBA.out HN3.out HB3.out (by omega) (by omega) (by omega) (by have:=HUN.out;omega)
     unfold EG at HON;simp only[eP,cntF,ae,pv]at HON;have HON:=zH HON;have e20:((d:Int)==20)=false:=by simp;omega
     have HDD:Hid (¬20≤d):=zH (by omega);have x0:w3.cell? ⟨wr.heap.size,0,none⟩=some (.int .i64 xk):=hX3.cell 0;have x1:w3.cell? ⟨wr.heap.size,1,none⟩=some (.int .i64 xl):=hX3.cell 1;have x2:w3.cell? ⟨wr.heap.size,2,none⟩=some (.int .i64 xn):=hX3.cell 2;have x3:w3.cell? ⟨wr.heap.size,3,none⟩=some (.slice t1 t2 t3):=hX3.cell 3;have x5:w3.cell? ⟨wr.heap.size,5,none⟩=some (.slice r1 r2 r3):=hX3.cell 5;have x6:w3.cell? ⟨wr.heap.size,6,none⟩=some (.string ⟨xc.toArray⟩):=hX3.cell 6;have x7:w3.cell? ⟨wr.heap.size,7,none⟩=some (.slice q1 q2' q3):=hX3.cell 7;have x8:w3.cell? ⟨wr.heap.size,8,none⟩=some (.bool xb):=hX3.cell 8;have x9:w3.cell? ⟨wr.heap.size,9,none⟩=some (.bool xa):=hX3.cell 9;clear hB3 hE3 hP3 hX3 hb3 HC1 c0 c1 c2 c3 c4 c5 c6 c7 c8 c9 q2 hdd;go_wp2_with fail
     refine HON.out.mono ?_;rintro e w5 ⟨v5,rfl,hN5,hB5,hF5,hO5⟩;have HB5:=zH hB5;have HN5:=zH hN5;have HPF5:Hid (PF lb base W1 w5):=zH (HPF3.out.trans hF5);have HOW5:Hid (Ow lb (.slice va acc.length vc) W1 v5 w5):=zH (HOW3.out.trans hO5 HPF3.out.size);clear hN5 hB5 hF5 hO5 HON p0 p1 p2 x0 x1 x2 x3 x4 x5 x6 x7 x8 x9;go_wp2_with fail
     go_roundw
     case rel=>exact⟨p+1,by go_num,by omega,zH (by rw[hNX.out HDD.out,←Ni];exact HN5.out),zH (by rw[HCN.out,show left-(aD (l.take p)+(1+aD yks))=left-aD (l.take p)-1-aD yks by omega];exact HB5.out),HPF5,HOW5⟩
     case measure=>(simp[intOf];try omega)
   ·obtain rfl:p=l.length:=by omega
    have hlt': ¬(l.length:Int)<(l.length:Int):=by omega
    rw[Na]at HN HBK;clear hun HUN;go_wp2_with fail
    go_ret;refine⟨_,rfl,HN.out,HBK.out,HPF1.out.trans HPF.out,fun b h1 h2 h3=>?_⟩;obtain⟨q1,q2⟩:=HOW.out b (Ms h1 HSZ1.out) h2 h3;exact⟨q1.trans (HOW1.out b h1 h2 h3).1,q2⟩
end
section
def H8 (m:Nm) (l:List Nd) (w:World) (e:Ending) (w':World):Prop:= ∃s:PV,e= .returned (rQ m (pv s))∧NsS (fun b=>w.heap.size≤b∧b<w'.heap.size) w' (pv s) l∧Below w.heap.size w w'
theorem C8 (S:Nat→Prop) (m:Nm) (l:List Nd) (v:Value) (w:World) (hU:U8 w) (hb:nlL l≤60000) (hv:NsS S w v l) (hS: ∀x,S x→x<w.heap.size):
  Calls Tryz.prog 65 #[rQ m v] w (H8 m (qo l) w):=by
 have hcl:=lL l;obtain⟨k1,z1,rfl⟩:=hv.len;obtain⟨w0,hw0⟩: ∃w0,w0=(w.alloc (.cells (pF m (.slice k1 l.length z1)).toArray 38)).alloc (.cells ([.string ⟨#[]⟩,.string ⟨#[]⟩,.string ⟨#[]⟩,.string ⟨#[]⟩,.slice none 0 0]:List Value).toArray 38):=⟨_,rfl⟩;obtain⟨bl,hbA,hbB⟩:=qc w _ _ w0 hw0;have hz0:w0.heap.size=w.heap.size+1+1:=by rw[hw0,MG,MG]
 obtain⟨W3,hW3⟩: ∃W,W=w0.alloc (.cells #[.int .i64 20000] 3):=⟨_,rfl⟩;have b3:Below w0.heap.size w0 W3:=by rw[hW3];exact af _ _
 have hz3:W3.heap.size=w.heap.size+1+1+1:=by rw[hW3,MG,hz0]
 have hL:Blk W3 (w.heap.size+1+1) 3 [.int .i64 ((20000:Nat):Int)]:=by
  have:=Mw w0 (.cells #[.int .i64 20000] 3);rw[hz0,←hW3]at this;exact this
 have bw3:Below w.heap.size w W3:=bl.trans (b3.mono bl.size);have hput:=FC S w (w.heap.size+1+1) (by omega) hS hU (aD l) l rfl (by omega) (.slice k1 l.length z1) (.slice none 0 0) [] W3.heap.size 0 0 20000 W3 hv bw3 (by omega) (cZ.nil (fun b q=>q.elim) (Mo _)) hL (by omega) (Mo _) (by omega) (by simp;omega);rw[Nk,Br (by omega)]at hput;unfold EG at hput;simp only[eP,cntF]at hput;rw[show((0:Nat):Int)=0 from rfl]at hput;have HPUT:=zH hput;obtain⟨TL,hTL⟩: ∃T,qo l=T:=⟨_,rfl⟩;rw[hTL]at HPUT ⊢;have HA:=zH (hbA.below b3);have HB:=zH (hbB.below b3);have BW3:=zH bw3;have HZ3:=zH hz3;have c4:W3.cell? ⟨w.heap.size,4,none⟩=some (.slice k1 l.length z1):=HA.out.cell 4;unfold rQ;unfold pF at hw0 ⊢;subst hw0;have C4:=c4;rw[hW3]at C4;have HW3:=zH hW3;clear hv hS hU bl hbA hbB hz0 hz3 b3 hL bw3 hput hTL hW3 hcl c4;go_enter Tryz.func65,Tryz.ntmps65
 go_wp2_with fail
 rw[←HW3.out];refine HPUT.out.mono ?_;rintro e w1 ⟨v1,rfl,hN1,hB1,hF1,-⟩;obtain⟨c1,c3,rfl⟩:=hN1.len;obtain⟨c2,hc2⟩: ∃n,TL.length=n:=⟨_,rfl⟩;rw[hc2]at hN1 ⊢;have A1:=hF1.blk HA.out (by omega) (by decide);have B1:=hF1.blk HB.out (by omega) (by decide);have f4:w1.frozen? ⟨w.heap.size,4,none⟩=false:=A1.frozen (by simp[pF]);have g4:w1.cell? ⟨w.heap.size,4,none⟩=some (.slice k1 l.length z1):=A1.cell 4;have A2:=A1.set 4 (.slice c1 c2 c3);have B2:=Blk.other B1 (show w.heap.size+1≠w.heap.size by omega) 4 (.slice c1 c2 c3);have x0:(w1.setCell ⟨w.heap.size,4,none⟩ (.slice c1 c2 c3)).cell? ⟨w.heap.size,0,none⟩=some (.string ⟨m.a.toArray⟩):=A2.cell 0;have x1:(w1.setCell ⟨w.heap.size,4,none⟩ (.slice c1 c2 c3)).cell? ⟨w.heap.size,1,none⟩=some (.string ⟨m.b.toArray⟩):=A2.cell 1;have x2:(w1.setCell ⟨w.heap.size,4,none⟩ (.slice c1 c2 c3)).cell? ⟨w.heap.size,2,none⟩=some (.string ⟨m.c.toArray⟩):=A2.cell 2;have x3:(w1.setCell ⟨w.heap.size,4,none⟩ (.slice c1 c2 c3)).cell? ⟨w.heap.size,3,none⟩=some (.string ⟨m.d.toArray⟩):=A2.cell 3;have x4:(w1.setCell ⟨w.heap.size,4,none⟩ (.slice c1 c2 c3)).cell? ⟨w.heap.size,4,none⟩=some (.slice c1 c2 c3):=A2.cell 4;have z0:(w1.setCell ⟨w.heap.size,4,none⟩ (.slice c1 c2 c3)).cell? ⟨w.heap.size+1,0,none⟩=some (.string ⟨#[]⟩):=B2.cell 0;have z1':(w1.setCell ⟨w.heap.size,4,none⟩ (.slice c1 c2 c3)).cell? ⟨w.heap.size+1,1,none⟩=some (.string ⟨#[]⟩):=B2.cell 1;have z2:(w1.setCell ⟨w.heap.size,4,none⟩ (.slice c1 c2 c3)).cell? ⟨w.heap.size+1,2,none⟩=some (.string ⟨#[]⟩):=B2.cell 2;have z3:(w1.setCell ⟨w.heap.size,4,none⟩ (.slice c1 c2 c3)).cell? ⟨w.heap.size+1,3,none⟩=some (.string ⟨#[]⟩):=B2.cell 3;have z4:(w1.setCell ⟨w.heap.size,4,none⟩ (.slice c1 c2 c3)).cell? ⟨w.heap.size+1,4,none⟩=some (.slice none 0 0):=B2.cell 4;have v0:(w1.setCell ⟨w.heap.size,4,none⟩ (.slice c1 c2 c3)).frozen? ⟨w.heap.size+1,0,none⟩=false:=B2.frozen (by simp);have v1:(w1.setCell ⟨w.heap.size,4,none⟩ (.slice c1 c2 c3)).frozen? ⟨w.heap.size+1,1,none⟩=false:=B2.frozen (by simp);have v2:(w1.setCell ⟨w.heap.size,4,none⟩ (.slice c1 c2 c3)).frozen? ⟨w.heap.size+1,2,none⟩=false:=B2.frozen (by simp);have v3:(w1.setCell ⟨w.heap.size,4,none⟩ (.slice c1 c2 c3)).frozen? ⟨w.heap.size+1,3,none⟩=false:=B2.frozen (by simp);have v4:(w1.setCell ⟨w.heap.size,4,none⟩ (.slice c1 c2 c3)).frozen? ⟨w.heap.size+1,4,none⟩=false:=B2.frozen (by simp);have B7:=((((B2.set 0 (.string ⟨m.a.toArray⟩)).set 1 (.string ⟨m.b.toArray⟩)).set 2 (.string ⟨m.c.toArray⟩)).set 3 (.string ⟨m.d.toArray⟩)).set 4 (.slice c1 c2 c3);have H7:=zH B7;have HSS:=zH hN1.nss;have HF1:=zH hF1;clear A1 B1 A2 B2 B7 hN1 hB1 hF1 HPUT HA HB C4 hc2;go_wp2_with fail
 have B7:=H7.out;have k0:=B7.cell 0;have k1:=B7.cell 1;have k2:=B7.cell 2;have k3:=B7.cell 3;have k4:=B7.cell 4;simp at k0 k1 k2 k3 k4;refine Nf (v:= .agg #[.string ⟨m.a.toArray⟩,.string ⟨m.b.toArray⟩,.string ⟨m.c.toArray⟩,.string ⟨m.d.toArray⟩,.slice c1 c2 c3]) (by simp[results,Tryz.results65,go_sem,k0,k1,k2,k3,k4]) rfl ?_;have hz:=HZ3.out;have h1:=HF1.out.size;have hbel:Below w.heap.size w w1:=BW3.out.trans (HF1.out.below BW3.out.size (by omega) (by omega));refine⟨(c1,c2,c3),rfl,?_,?_⟩
 ·refine(HSS.out.keep (fun b q=>?_)).mono (fun b q=>?_)
  ·have hb:b≠w.heap.size∧b≠w.heap.size+1:=by
    rcases q with q | q
    ·exact q.elim
    ·omega
   simp only[Mt _ (⟨w.heap.size,_,none⟩:Addr) _ b hb.1,Mt _ (⟨w.heap.size+1,_,none⟩:Addr) _ b hb.2]
  ·simp only[eH]
   rcases q with q | q
   ·exact q.elim
   ·exact⟨by omega,by omega⟩
 ·refine((((hbel.setCell ?_ _).setCell ?_ _).setCell ?_ _).setCell ?_ _).setCell ?_ _ |>.setCell ?_ _<;>simp<;>omega
end
end Go.Proofs.YtebabjnngdjceaaGreatDoor
