/- The program's own for documents: one node put right. The program's own for documents: nodes put right; Tidy. The program's own for documents: Tidy. The program's builder: Doc. The program's builder does all that the laws of layer 8 ask of one. -/
import Derived.Test.YtebabjnngdjceaaGreatDoorQg
import Derived.BigRegion
import Derived.Deep.RegionWith
import Derived.Deep.RegionHeld3
import Derived.Test.YtebabjnngdjceaaGreatDoorZ0
import Derived.Test.YtebabjnngdjceaaGreatDoorCg
import Derived.Test.YtebabjnngdjceaaGreatDoorBe
set_option linter.unusedVariables false
set_option linter.unusedSimpArgs false
set_option maxRecDepth 100000
set_option maxHeartbeats 16000000
namespace Go.Proofs.YtebabjnngdjceaaGreatDoor
open Go.RowKit
def GK (lb base:Nat) (v:Value) (r:List Nd) (k:Nat) (w:World) (e:Ending) (w':World):Prop:= ∃v',e= .returned v'∧dL FS base w' v' r∧Blk w' lb 3 [.int .i64 (k:Int)]∧PF lb base w w'∧Ow lb v w v' w'
def J3 (w0:World) (lb:Nat) (SI:Nat→Prop) (l:List Nd):Prop:=
 ∀(lv v:Value) (acc:List Nd) (base:Nat) (m:Int) (d left:Nat) (w:World),NsS SI w0 lv l→Below w0.heap.size w0 w→lb<base→dL FS base w v acc→Blk w lb 3 [.int .i64 (left:Int)]→aG l≤left→left≤20000→d≤20→acc.length+aG l≤40000→
  Calls Tryz.prog 99 #[.agg (gH m d lb).toArray,v,lv] w (GK lb base v (acc++tfL l m d) (left-aG l) w)
structure TO (lb:Nat) (w:World) (m:Int) (d:Nat) (x:NV) (gy:Nat) (y:NV) (hy:Hd) (W:World):Prop where
 exc:Exc (· =lb) w W
 bp:Blk W w.heap.size 157 (gH m d lb)
 bx:Blk W (w.heap.size+1) 58 (ae x)
 by':Blk W gy 58 (ae y)
 hd:bV (fun b=>w.heap.size+1<b∧b<gy) W y hy
 lt:w.heap.size+1<gy
 lb':lb<w.heap.size
section
variable {lb:Nat} {w:World} {m:Int} {d:Nat} {x:NV} {gy:Nat} {y:NV} {hy:Hd} {W W':World}
theorem TO.gz (h:TO lb w m d x gy y hy W):gy<W.heap.size:=h.by'.lt
theorem TO.exc' (h:TO lb w m d x gy y hy W) (hE:Exc (· =lb) W W'):TO lb w m d x gy y hy W':=by
 have h1:=h.lt;have h2:=h.lb';exact⟨h.exc.then hE,hE.blk h.bp (by omega),hE.blk h.bx (by omega),hE.blk h.by' (by omega),h.hd.keep (fun b hb=>hE.block b (by have:=h.gz;omega) (by omega)),h.lt,h.lb'⟩
theorem TO.keep (h:TO lb w m d x gy y hy W) (hb:Below W.heap.size W W'):TO lb w m d x gy y hy W':=h.exc' (Exc.of hb)
theorem TO.set {y':NV} {hy':Hd} (h:TO lb w m d x gy y hy W) (j:Nat) (v:Value) (e:(ae y).set j v=ae y') (k: ∀W,bV (fun b=>w.heap.size+1<b∧b<gy) W y hy→bV (fun b=>w.heap.size+1<b∧b<gy) W y' hy'):TO lb w m d x gy y' hy' (W.setCell ⟨gy,j,none⟩ v):=by
 have h1:=h.lt;have h2:=h.lb';exact⟨h.exc.set j v (fun hg=>by omega),h.bp.other (by omega) _ _,h.bx.other (by omega) _ _,e▸h.by'.set j v,k _ (h.hd.keep (fun b hb=>O8 W ⟨gy,j,none⟩ v b (by show b≠gy;omega))),h.lt,h.lb'⟩
end
theorem BS {m k:Int} (h:k=1∨k=2):pst m k=stands k m:=by
 unfold pst stands;rcases h with rfl | rfl<;>simp
theorem CJ {h:Hd} {k:Int} (hk:k=1∨k=2):aV (aQ h 3) false=aV (aQ h k) false:=by
 rcases hk with rfl | rfl<;>simp[aV,aQ]
theorem NQ {S:Nat→Prop} {W:World} {h:Hd} {k:Int} {y:NV} (hk:k=1∨k=2) (q:bV S W y (aQ h k)):bV S W ⟨3,y.line,y.n,y.text,y.kids,y.rows,y.cols,y.trows,y.box,y.all⟩ (aQ h 3):=by
 rcases hk with rfl | rfl<;>exact⟨rfl,q.line,q.n,q.text,q.rows,q.cols,q.trows,q.box,q.all⟩
theorem L8 {h:Hd} {ks:List Nd} {m:Int} {d:Nat} {k:Int} (hk:aB h.kind m=k) (hi:dA h m=true) (acc:List Nd):(if aV (aQ h k) (jJ (tfL ks k (d+1))) then acc++ [.mk (aQ h k) (tfL ks k (d+1))] else acc)=acc++tfN (.mk h ks) m d:=by
 rw[rY,Pk hi,hk]
 split<;>simp
theorem Ha {h:Hd} {ks:List Nd} {m:Int} {d:Nat} {k k':Int} (hk:aB h.kind m=k) (hi:dA h m=false) (hm:fI h.kind=true) (acc:List Nd) (hf:aV (aQ h k') false=aV (aQ h k) false) (he:aV (aQ h k') false=true→k'=k):
  (if aV (aQ h k') (jJ ([]:List Nd)) then acc++ [.mk (aQ h k') []] else acc)++tfL ks m d=acc++tfN (.mk h ks) m d:=by
 have e:tfN (.mk h ks) m d=(if aV (aQ h k) false then [.mk (aQ h k) []] else [])++tfL ks m d:=by rw[rY,Pd (by rw[hi];simp),hk,Pk hm]
 rw[e,show jJ ([]:List Nd)=false from rfl,←hf]
 by_cases h1:aV (aQ h k') false=true
 ·rw[Pk h1,Pk h1,he h1];simp
 ·rw[Pd h1,Pd h1];simp
theorem NN {h:Hd} {ks:List Nd} {m:Int} {d:Nat} {k:Int} (hk:aB h.kind m=k) (hm:fI h.kind=false) (acc:List Nd):
  (if aV (aQ h k) (jJ ([]:List Nd)) then acc++ [.mk (aQ h k) []] else acc)=acc++tfN (.mk h ks) m d:=by
 have hi:dA h m=false:=by unfold dA;rw[hm];rfl
 have e:tfN (.mk h ks) m d=(if aV (aQ h k) false then [.mk (aQ h k) []] else [])++ []:=by rw[rY,Pd (by rw[hi];simp),hk,hm];rfl
 rw[e,show jJ ([]:List Nd)=false from rfl]
 split<;>simp
theorem QUb {P:Prop}(h:P:=by
 have hN6:=HN.out.exc HBA.out HTD.out.exc;have hg1:=HTD.out.lt;have hg2:=HTD.out.gz;have hadd:=lQ base (.slice va an vc) acc ⟨3,yl,yn,(y1,y2,y3),aj,(z1,z2,z3),yo,(u1,u2,u3),yb,ya⟩ (aQ h 3) [] (fun b=>w.heap.size+1<b∧b<W6.drew.heap.size) W6.drew hN6 (fun b q=>⟨by have:=HN.out.sz;omega,q.2,fun e=>by obtain⟨L,S,hL,-⟩:=HN.out.own;have:=hL.blt e;omega⟩) (HTD.out.hd.mono (fun b q=>⟨q.1,by omega⟩)) (NsS.nil _ _) (by have:=HAN.out;omega);obtain⟨R1,hR1⟩: ∃r,(if aV (aQ h 3) (jJ ([]:List Nd)) then acc++ [.mk (aQ h 3) []] else acc)=r:=⟨_,rfl⟩;have hR1l:R1.length≤an+1:=by rw[←hR1];have:=HAN.out;split<;>simp<;>omega
 rw[hR1]at hadd;simp only[ae,pv]at hadd;have HADD:Hid (Calls Tryz.prog 172 #[.slice va an vc,.agg #[.int .i64 3,.int .i64 yl,.int .i64 yn,.slice y1 y2 y3,.slice none 0 0,.slice z1 z2 z3,.string ⟨yo.toArray⟩,.slice u1 u2 u3,.bool yb,.bool ya]] W6.drew fun e w7=> ∃a' n' c',e= .returned (.slice a' n' c')∧Hid (w7.cell? ⟨w.heap.size,0,none⟩=some (.int .i64 m)∧w7.cell? ⟨w.heap.size,1,none⟩=some (.int .i64 (d:Int))∧w7.cell? ⟨w.heap.size,2,none⟩=some (.func (.func 98) #[] #[.pointer (some ⟨lb,0,none⟩)])∧w7.cell? ⟨w.heap.size+1,4,none⟩=some (.slice k1 k2 k3)∧w7.cell? ⟨gy,0,none⟩=some (.int .i64 3)∧w7.cell? ⟨gy,1,none⟩=some (.int .i64 yl)∧w7.cell? ⟨gy,2,none⟩=some (.int .i64 yn)∧w7.cell? ⟨gy,3,none⟩=some (.slice y1 y2 y3)∧w7.cell? ⟨gy,4,none⟩=some (.slice none 0 0)∧w7.cell? ⟨gy,5,none⟩=some (.slice z1 z2 z3)∧w7.cell? ⟨gy,6,none⟩=some (.string ⟨yo.toArray⟩)∧w7.cell? ⟨gy,7,none⟩=some (.slice u1 u2 u3)∧w7.cell? ⟨gy,8,none⟩=some (.bool yb)∧w7.cell? ⟨gy,9,none⟩=some (.bool ya))∧
   Hid (Calls Tryz.prog 99 #[.agg #[.int .i64 m,.int .i64 (d:Int),.func (.func 98) #[] #[.pointer (some ⟨lb,0,none⟩)]],.slice a' n' c',.slice k1 k2 k3] w7 fun e w8=> ∃v8,e= .returned v8∧Hid (w8.cell? ⟨w.heap.size,0,none⟩=some (.int .i64 m)∧w8.cell? ⟨w.heap.size,1,none⟩=some (.int .i64 (d:Int))∧w8.cell? ⟨w.heap.size,2,none⟩=some (.func (.func 98) #[] #[.pointer (some ⟨lb,0,none⟩)])∧w8.cell? ⟨w.heap.size+1,4,none⟩=some (.slice k1 k2 k3)∧w8.cell? ⟨gy,0,none⟩=some (.int .i64 3)∧w8.cell? ⟨gy,1,none⟩=some (.int .i64 yl)∧w8.cell? ⟨gy,2,none⟩=some (.int .i64 yn)∧w8.cell? ⟨gy,3,none⟩=some (.slice y1 y2 y3)∧w8.cell? ⟨gy,4,none⟩=some (.slice none 0 0)∧w8.cell? ⟨gy,5,none⟩=some (.slice z1 z2 z3)∧w8.cell? ⟨gy,6,none⟩=some (.string ⟨yo.toArray⟩)∧w8.cell? ⟨gy,7,none⟩=some (.slice u1 u2 u3)∧w8.cell? ⟨gy,8,none⟩=some (.bool yb)∧w8.cell? ⟨gy,9,none⟩=some (.bool ya))∧Hid (dL FS base w8 v8 R∧Blk w8 lb 3 [.int .i64 (KL:Int)]∧PF lb base w w8∧Ow lb (.slice va an vc) w v8 w8))):=
  zH (hadd.mono fun e w7 hq=>by
   obtain⟨v7,he,hN7,hb7,ho7,hq7⟩:=hq;obtain⟨a',c',hv7⟩:=hN7.len;subst hv7;have hlo: ∀b,w.heap.size≤b→(Value.slice va an vc).ownBlock≠some b:=fun b hb e=>by obtain⟨L,S,hL,-⟩:=HN.out.own;have:=hL.blt e;omega
   have hP7:Blk w7 w.heap.size 157 (gH m d lb):=(ho7 _ HTD.out.bp.lt (hlo _ (OW _))).trans HTD.out.bp;have hX7:Blk w7 (w.heap.size+1) 58 _:=(ho7 _ HTD.out.bx.lt (hlo _ (QV _))).trans HTD.out.bx;have hY7:Blk w7 gy 58 _:=(ho7 _ HTD.out.gz (hlo _ (by omega))).trans HTD.out.by';have hB7:Blk w7 lb 3 [.int .i64 (left:Int)]:=(ho7 lb HBD.out.lt (hN6.own_ge HBA.out)).trans HBD.out;have hF7:PF lb base w w7:=(PF.exc HTD.out.exc).trans (Dq.pf (lb:=lb) hN6 hb7 ho7);have hO7:Ow lb (.slice va an vc) w (.slice a' R1.length c') w7:=(Ow.exc HTD.out.exc).trans (fun b h1 _ h3=>⟨ho7 b h1 h3,hq7 b h1 h3⟩) HTD.out.exc.size;have hbw7:Below w0.heap.size w0 w7:=(HBL.out _ (Exc.refl _ _)).trans (hF7.below (HBL.out _ (Exc.refl _ _)).size HLB.out HBA.out);have hput:=HPX.out (.slice k1 k2 k3) (.slice a' R1.length c') R1 base m d left w7 HK.out hbw7 HBA.out hN7 hB7 (by omega) hl2 (by omega) (by omega);rw[←hR1,Ha HKA.out HIN.out HMK.out acc HFU.out HFE.out,HR.out,HKL.out]at hput;rw[hR1]at hput;refine⟨a',R1.length,c',he,zH ⟨hP7.cell 0,hP7.cell 1,hP7.cell 2,hX7.cell 4,hY7.cell 0,hY7.cell 1,hY7.cell 2,hY7.cell 3,hY7.cell 4,hY7.cell 5,hY7.cell 6,hY7.cell 7,hY7.cell 8,hY7.cell 9⟩,zH (hput.mono fun e w8 hq=>?_)⟩;obtain⟨v8,he8,hN8,hB8,hF8,hO8⟩:=hq;have hlb':=HTD.out.lb';have hP8:Blk w8 w.heap.size 157 (gH m d lb):=(hO8 _ hP7.lt (by omega) (hq7 _ HTD.out.bp.lt (hlo _ (OW _)))).1.trans hP7;have hX8:Blk w8 (w.heap.size+1) 58 _:=(hO8 _ hX7.lt (by omega) (hq7 _ HTD.out.bx.lt (hlo _ (QV _)))).1.trans hX7;have hY8:Blk w8 gy 58 _:=(hO8 _ hY7.lt (by omega) (hq7 _ HTD.out.gz (hlo _ (by omega)))).1.trans hY7;exact⟨v8,he8,zH ⟨hP8.cell 0,hP8.cell 1,hP8.cell 2,hX8.cell 4,hY8.cell 0,hY8.cell 1,hY8.cell 2,hY8.cell 3,hY8.cell 4,hY8.cell 5,hY8.cell 6,hY8.cell 7,hY8.cell 8,hY8.cell 9⟩,zH ⟨hN8,hB8,hF7.trans hF8,hO7.trans hO8 hF7.size⟩⟩)
 have HSD:Hid (W6.drew.cell? ⟨w.heap.size,0,none⟩=some (.int .i64 m)∧W6.drew.cell? ⟨w.heap.size,1,none⟩=some (.int .i64 (d:Int))∧W6.drew.cell? ⟨w.heap.size,2,none⟩=some (.func (.func 98) #[] #[.pointer (some ⟨lb,0,none⟩)])∧W6.drew.cell? ⟨w.heap.size+1,4,none⟩=some (.slice k1 k2 k3)∧W6.drew.cell? ⟨gy,0,none⟩=some (.int .i64 3)∧W6.drew.cell? ⟨gy,1,none⟩=some (.int .i64 yl)∧W6.drew.cell? ⟨gy,2,none⟩=some (.int .i64 yn)∧W6.drew.cell? ⟨gy,3,none⟩=some (.slice y1 y2 y3)∧W6.drew.cell? ⟨gy,4,none⟩=some (.slice none 0 0)∧W6.drew.cell? ⟨gy,5,none⟩=some (.slice z1 z2 z3)∧W6.drew.cell? ⟨gy,6,none⟩=some (.string ⟨yo.toArray⟩)∧W6.drew.cell? ⟨gy,7,none⟩=some (.slice u1 u2 u3)∧W6.drew.cell? ⟨gy,8,none⟩=some (.bool yb)∧W6.drew.cell? ⟨gy,9,none⟩=some (.bool ya)):=zH ⟨HTD.out.bp.cell 0,HTD.out.bp.cell 1,HTD.out.bp.cell 2,HTD.out.bx.cell 4,HTD.out.by'.cell 0,HTD.out.by'.cell 1,HTD.out.by'.cell 2,HTD.out.by'.cell 3,HTD.out.by'.cell 4,HTD.out.by'.cell 5,HTD.out.by'.cell 6,HTD.out.by'.cell 7,HTD.out.by'.cell 8,HTD.out.by'.cell 9⟩;subst hW6;clear hadd hN6 hg1 hg2 hR1l hR1;go_wp2_with fail
 try clear HPX
 try clear HK
 try clear HSI
 try clear HLB
 try clear HBL
 try clear HR
 try clear HKL
 try clear HED
 try clear HHK
 try clear HAN
 try clear HN
 try clear HB
 try clear HB3
 try clear HB3'
 try clear HT3
 try clear HT5
 try clear HB5
 try clear HKD
 try clear HMK
 try clear HKA
 try clear HIN
 try clear HFU
 try clear HFE
 try clear HFB
 try clear HTD
 try clear HBD
 try clear HT6
 try clear HBA
 try clear HGY
 try clear HW3
 try clear HB1
 try clear w1d
 try clear f0
 try clear g0
 try clear hc
 try clear hl2
 try clear hd
 try clear ha
 try clear hl
 go_region_held3 (fun W'=>W'.cell? ⟨w.heap.size,0,none⟩=some (.int .i64 m)∧W'.cell? ⟨w.heap.size,1,none⟩=some (.int .i64 (d:Int))∧W'.cell? ⟨w.heap.size,2,none⟩=some (.func (.func 98) #[] #[.pointer (some ⟨lb,0,none⟩)])∧W'.cell? ⟨w.heap.size+1,4,none⟩=some (.slice k1 k2 k3)∧W'.cell? ⟨gy,0,none⟩=some (.int .i64 3)∧W'.cell? ⟨gy,1,none⟩=some (.int .i64 yl)∧W'.cell? ⟨gy,2,none⟩=some (.int .i64 yn)∧W'.cell? ⟨gy,3,none⟩=some (.slice y1 y2 y3)∧W'.cell? ⟨gy,4,none⟩=some (.slice none 0 0)∧W'.cell? ⟨gy,5,none⟩=some (.slice z1 z2 z3)∧W'.cell? ⟨gy,6,none⟩=some (.string ⟨yo.toArray⟩)∧W'.cell? ⟨gy,7,none⟩=some (.slice u1 u2 u3)∧W'.cell? ⟨gy,8,none⟩=some (.bool yb)∧W'.cell? ⟨gy,9,none⟩=some (.bool ya)) (first | exact HSD.out | exact HS7.out | exact HS8.out) ((first | (go_at_call 172;(with_reducible refine HADD.out.mono ?_);rintro e w7 ⟨a7,n7,m7,rfl,HS7,HQ⟩)| (go_at_call 99;(with_reducible refine HQ.out.mono ?_);rintro e w8 ⟨v8,rfl,HS8,HFIN⟩)))
 all_goals
  go_wp2_with fail
  go_ret;exact⟨_,rfl,HFIN.out.1,HFIN.out.2.1,HFIN.out.2.2.1,HFIN.out.2.2.2⟩):P:=h
theorem QUc {P:Prop}(h:P:=by
 have hadd:=lQ base (.slice va an vc) acc ⟨yk,yl,yn,(y1,y2,y3),(ca,cn,cc),(z1,z2,z3),yo,(u1,u2,u3),yb,ya⟩ (aQ h yk) kl (fun b=>w.heap.size+1<b∧b<W7.heap.size) W7 (HN.out.exc HBA.out HT7.out.exc) (fun b q=>⟨by have:=HN.out.sz;omega,q.2,fun e=>by obtain⟨L,S,hL,-⟩:=HN.out.own;have:=hL.blt e;omega⟩) (HT7.out.hd.mono (fun b q=>⟨q.1,by omega⟩)) (hNK.mono (fun b q=>by rcases q with q | q;exact q.elim;exact⟨by omega,by omega⟩)) (by have:=HAN.out;omega);rw[←hkl,L8 HKA.out HIN.out acc,HR.out]at hadd;simp only[ae,pv]at hadd;have HADD:=zH hadd;have HB7:Hid (Blk W7 lb 3 [.int .i64 (KL:Int)]):=zH (by rw[hW7];exact hB6.other (by have:=HT7.out.lb';omega) _ _);have j0:W7.cell? ⟨gy,0,none⟩=some (.int .i64 yk):=HT7.out.by'.cell 0;have j1:W7.cell? ⟨gy,1,none⟩=some (.int .i64 yl):=HT7.out.by'.cell 1;have j2:W7.cell? ⟨gy,2,none⟩=some (.int .i64 yn):=HT7.out.by'.cell 2;have j3:W7.cell? ⟨gy,3,none⟩=some (.slice y1 y2 y3):=HT7.out.by'.cell 3;have j4:W7.cell? ⟨gy,4,none⟩=some (.slice ca cn cc):=HT7.out.by'.cell 4;have j5:W7.cell? ⟨gy,5,none⟩=some (.slice z1 z2 z3):=HT7.out.by'.cell 5;have j6:W7.cell? ⟨gy,6,none⟩=some (.string ⟨yo.toArray⟩):=HT7.out.by'.cell 6;have j7:W7.cell? ⟨gy,7,none⟩=some (.slice u1 u2 u3):=HT7.out.by'.cell 7;have j8:W7.cell? ⟨gy,8,none⟩=some (.bool yb):=HT7.out.by'.cell 8;have j9:W7.cell? ⟨gy,9,none⟩=some (.bool ya):=HT7.out.by'.cell 9;subst hW7;clear hadd hNK hN6 hB6 hF6 hE6 hkl hcn hg1 hg2 hg3 hg4 hsz7 HPUT HT6;go_wp2_with fail
 refine HADD.out.mono ?_;rintro e w8 ⟨v8,rfl,hN8,hb8,ho8,hq8⟩;have HN7:=zH (HN.out.exc HBA.out HT7.out.exc);have HFIN:=zH (And.intro hN8 (And.intro (show Blk w8 lb 3 [.int .i64 (KL:Int)] from(ho8 lb HB7.out.lt (HN7.out.own_ge HBA.out)).trans HB7.out) (And.intro ((PF.exc HT7.out.exc).trans (Dq.pf (lb:=lb) HN7.out hb8 ho8)) ((Ow.exc (v:= .slice va an vc) HT7.out.exc).trans (fun b h1 _ h3=>⟨ho8 b h1 h3,hq8 b h1 h3⟩) HT7.out.exc.size))));clear hN8 hb8 ho8 hq8 HADD;go_wp2_with fail
 go_ret;exact⟨_,rfl,HFIN.out.1,HFIN.out.2.1,HFIN.out.2.2.1,HFIN.out.2.2.2⟩):P:=h
theorem Ik (SI:Nat→Prop) (w0:World) (lb:Nat) (hlb:w0.heap.size≤lb) (hSI: ∀b,SI b→b<w0.heap.size) (hU:U8 w0) (x:NV) (h:Hd) (ks:List Nd) (hh:bV SI w0 x h) (hK:NsS SI w0 (pv x.kids) ks) (hl:hdl h≤90000) (HPO:J3 w0 lb SI ks)
  (v:Value) (acc:List Nd) (base:Nat) (m:Int) (d left:Nat) (w:World) (hbw:Below w0.heap.size w0 w) (hbase:lb<base) (hN:dL FS base w v acc) (hB:Blk w lb 3 [.int .i64 (left:Int)]) (hc:aG ks≤left) (hl2:left≤20000) (hd:d<20) (ha:acc.length+1+aG ks≤40000):
  Calls Tryz.prog 135 #[.agg (gH m d lb).toArray,v,.agg (ae x).toArray] w (GK lb base v (acc++tfN (.mk h ks) m d) (left-aG ks) w):=by
 obtain⟨W1,hW1⟩: ∃W,W=(w.alloc (.cells (gH m d lb).toArray 157)).alloc (.cells (ae x).toArray 58):=⟨_,rfl⟩;obtain⟨b1,hP1,hX1⟩:=rO w _ _ W1 hW1;have hz1:W1.heap.size=w.heap.size+1+1:=by rw[hW1,Pf,Pf]
 have hb01:=hbw.trans (b1.mono hbw.size);have HMD:=zH (zJ SI x h W1 (hU.below hb01) (hh.keep (Kp.below hb01 hSI)) hl (fun b hb=>O0 (hSI b hb) hb01.size));have HST:Hid (∀w2 (y:NV),Below W1.heap.size W1 w2→bV (fun b=>W1.heap.size≤b∧b<w2.heap.size) w2 y (aQ h h.kind)→
   TO lb w m d x w2.heap.size y (aQ h h.kind) (w2.alloc (.cells (ae y).toArray 58))):=zH (fun w2 y hb hy=>by
  have b3:=af w2 (.cells (ae y).toArray 58);refine⟨(Exc.of b1).then ((Exc.of hb).then (Exc.of b3)),(hP1.below hb).below b3,(hX1.below hb).below b3,O9 w2 _,(hy.mono (fun b q=>⟨by omega,q.2⟩)).keep (fun b q=>b3.block b q.2),by have:=hb.size;omega,hB.lt⟩)
 have HB1:=zH b1;have HBL:=zH (fun W (hE:Exc (· =lb) w W)=>(hbw.trans (hE.below hbw.size (fun b hb e=>by omega)):Below w0.heap.size w0 W));obtain⟨R,hR⟩: ∃R,acc++tfN (.mk h ks) m d=R:=⟨_,rfl⟩;obtain⟨KL,hKL⟩: ∃K,left-aG ks=K:=⟨_,rfl⟩;rw[hR,hKL];have HR:=zH hR;have HKL:=zH hKL;have HPX:=zH HPO;have HK:=zH hK;have HN:=zH hN;have HB:=zH hB;have HW1:=zH hW1;have HSI:=zH hSI;have HLB:=zH hlb;have HBA:=zH hbase;have HHK:=zH (hh.kind:x.kind=h.kind);have w1d:IntKind.i64.wrap ((d:Int)+1)=(d:Int)+1:=IntWalk.i64_in _ (by omega);have ed1:((d+1:Nat):Int)=(d:Int)+1:=by omega
 have HED:=zH ed1;obtain⟨va,vc,rfl⟩:=hN.len;obtain⟨an,han⟩: ∃n,acc.length=n:=⟨_,rfl⟩;rw[han]at HN ha ⊢;have HAN:=zH han;obtain⟨xk,xl,xn,⟨t1,t2,t3⟩,⟨k1,k2,k3⟩,⟨r1,r2,r3⟩,xc,⟨q1,q2,q3⟩,xb,xa⟩:=x;unfold GK;simp only[ae,pv,gH,cntF]at HMD HW1 ⊢;clear hh hK hN hB hW1 hSI hlb hbase hR hKL HPO b1 hP1 hX1 hb01 hbw hU hz1 ed1 han;go_enter Tryz.func135,Tryz.ntmps135
 go_wp2_with fail
 rw[←HW1.out];refine HMD.out.mono ?_;rintro e w2 ⟨⟨yk,yl,yn,⟨y1,y2,y3⟩,⟨c1,c2,c3⟩,⟨z1,z2,z3⟩,yo,⟨u1,u2,u3⟩,yb,ya⟩,rfl,hky,hhy,b2⟩;simp only at hky;injection hky with e1 e2
 injection e2 with e2 e3
 subst e1 e2 e3;have hyk:yk=xk:=by have h1:=hhy.kind;have h2:=HHK.out;exact h1.trans h2.symm
 subst hyk;simp only[ae,pv];obtain⟨W3,hW3⟩: ∃W,W=w2.alloc (.cells (ae ⟨yk,yl,yn,(y1,y2,y3),aj,(z1,z2,z3),yo,(u1,u2,u3),yb,ya⟩).toArray 58):=⟨_,rfl⟩;have HT3:Hid (TO lb w m d ⟨yk,xl,xn,(t1,t2,t3),(k1,k2,k3),(r1,r2,r3),xc,(q1,q2,q3),xb,xa⟩ w2.heap.size ⟨yk,yl,yn,(y1,y2,y3),aj,(z1,z2,z3),yo,(u1,u2,u3),yb,ya⟩ (aQ h h.kind) W3):=zH (by rw[hW3];exact HST.out w2 _ b2 hhy);have p0:W3.cell? ⟨w.heap.size,0,none⟩=some (.int .i64 m):=HT3.out.bp.cell 0;have p1:W3.cell? ⟨w.heap.size,1,none⟩=some (.int .i64 (d:Int)):=HT3.out.bp.cell 1;have p2:W3.cell? ⟨w.heap.size,2,none⟩=some (cntF lb):=HT3.out.bp.cell 2;have x0:W3.cell? ⟨w.heap.size+1,0,none⟩=some (.int .i64 yk):=HT3.out.bx.cell 0;have x4:W3.cell? ⟨w.heap.size+1,4,none⟩=some (.slice k1 k2 k3):=HT3.out.bx.cell 4;obtain⟨gy,hgy⟩: ∃g,w2.heap.size=g:=⟨_,rfl⟩;rw[hgy]at HT3;have HGY:=zH hgy;simp only[cntF]at p2;simp only[ae,pv]at hW3;have HW3:=zH hW3;have E0:=p0;have E1:=p1;have E2:=p2;have X0:=x0;have X4:=x4;rw[hW3]at E0 E1 E2 X0 X4;have HB3':Hid (Blk W3 lb 3 [.int .i64 (left:Int)]):=zH (by rw[hW3];exact((HB.out.below HB1.out).below b2).below (af _ _));clear hW3 hhy b2 hgy HST HMD;have HB3:Hid (Blk W3 lb 3 [.int .i64 (left:Int)]):=zH HB3'.out
 by_cases h12:yk=1∨yk=2
 ·have HK2:=zH h12
  have hnb:(yk==1)=true∨((yk==1)=false∧(yk==2)=true):=by rcases h12 with rfl | rfl<;>simp
  clear h12;rcases hnb with n1 | ⟨n1,n2⟩
  all_goals
   have HKD:Hid (h.kind=yk):=zH HHK.out.symm;rw[HKD.out]at HT3;have HMK:Hid (fI h.kind=true):=zH (by rw[HKD.out];rcases HK2.out with e | e<;>rw[e]<;>rfl);have hst0:=zD m yk W3;rw[BS HK2.out]at hst0
   by_cases hst:stands yk m=true
   ·rw[hst]at hst0
    have HST:=zH hst0;have HKA:Hid (aB h.kind m=yk):=zH (by rw[HKD.out];exact kt1 HK2.out hst);have j0:W3.cell? ⟨gy,0,none⟩=some (.int .i64 yk):=HT3.out.by'.cell 0;have j1:W3.cell? ⟨gy,1,none⟩=some (.int .i64 yl):=HT3.out.by'.cell 1;have j2:W3.cell? ⟨gy,2,none⟩=some (.int .i64 yn):=HT3.out.by'.cell 2;have j3:W3.cell? ⟨gy,3,none⟩=some (.slice y1 y2 y3):=HT3.out.by'.cell 3;have j4:W3.cell? ⟨gy,4,none⟩=some (.slice none 0 0):=HT3.out.by'.cell 4;have j5:W3.cell? ⟨gy,5,none⟩=some (.slice z1 z2 z3):=HT3.out.by'.cell 5;have j6:W3.cell? ⟨gy,6,none⟩=some (.string ⟨yo.toArray⟩):=HT3.out.by'.cell 6;have j7:W3.cell? ⟨gy,7,none⟩=some (.slice u1 u2 u3):=HT3.out.by'.cell 7;have j8:W3.cell? ⟨gy,8,none⟩=some (.bool yb):=HT3.out.by'.cell 8;have j9:W3.cell? ⟨gy,9,none⟩=some (.bool ya):=HT3.out.by'.cell 9;have hLK:=tL ⟨yk,yl,yn,(y1,y2,y3),aj,(z1,z2,z3),yo,(u1,u2,u3),yb,ya⟩ W3;rw[full_of HT3.out.hd]at hLK;simp only at hLK;rw[show decide (0<0)=false from rfl]at hLK;obtain⟨fb,hfb⟩: ∃b,aV (aQ h yk) false=b:=⟨_,rfl⟩;rw[hfb]at hLK;simp only[ae,pv]at hLK;have HLK:=zH hLK;have HFB:=zH hfb;clear hst0 hst hLK hfb;go_wp2_with fail
    rw[HGY.out,←HW3.out];refine HST.out.mono ?_;rintro e w4 ⟨rfl,rfl⟩;clear HST E0 E1 E2 X0 X4;go_wp2_with fail
    refine HLK.out.mono ?_;rintro e w5 ⟨rfl,b5⟩;have HT5:=zH (HT3.out.keep b5);have HB5:=zH (HB3.out.below b5);clear b5 HLK p0 p1 p2 x0 x4 j0 j1 j2 j3 j4 j5 j6 j7 j8 j9;have p0:w5.cell? ⟨w.heap.size,0,none⟩=some (.int .i64 m):=HT5.out.bp.cell 0;have p1:w5.cell? ⟨w.heap.size,1,none⟩=some (.int .i64 (d:Int)):=HT5.out.bp.cell 1;have p2:w5.cell? ⟨w.heap.size,2,none⟩=some (cntF lb):=HT5.out.bp.cell 2;have x0:w5.cell? ⟨w.heap.size+1,0,none⟩=some (.int .i64 yk):=HT5.out.bx.cell 0;have x4:w5.cell? ⟨w.heap.size+1,4,none⟩=some (.slice k1 k2 k3):=HT5.out.bx.cell 4;simp only[cntF]at p2
    cases fb
    ·have HIN:Hid (dA h m=false):=zH (by unfold dA;rw[HKA.out,HFB.out,HKD.out];rcases HK2.out with e | e<;>subst e<;>simp)
     have HFU:Hid (aV (aQ h 3) false=aV (aQ h yk) false):=zH (CJ HK2.out);have HFE:Hid (aV (aQ h 3) false=true→(3:Int)=yk):=zH (fun q=>by rw[HFU.out,HFB.out]at q;cases q);clear p0 p1 p2 x0 x4;obtain⟨W6,hW6⟩: ∃W,W=w5.setCell ⟨gy,0,none⟩ (.int .i64 3):=⟨_,rfl⟩;have f0:w5.frozen? ⟨gy,0,none⟩=false:=HT5.out.by'.frozen (by simp[ae]);have g0:w5.cell? ⟨gy,0,none⟩=some (.int .i64 yk):=HT5.out.by'.cell 0;have HT6:Hid (TO lb w m d ⟨yk,xl,xn,(t1,t2,t3),(k1,k2,k3),(r1,r2,r3),xc,(q1,q2,q3),xb,xa⟩ gy ⟨3,yl,yn,(y1,y2,y3),aj,(z1,z2,z3),yo,(u1,u2,u3),yb,ya⟩ (aQ h 3) W6):=zH (by rw[hW6];exact HT5.out.set 0 _ rfl (fun W q=>NQ HK2.out q));have HTD:=zH (HT6.out.keep (OX W6.heap.size W6).drew);have HBD:Hid (Blk W6.drew lb 3 [.int .i64 (left:Int)]):=zH (by rw[hW6];exact(HB5.out.other (by have:=HT5.out.lt;have:=HT5.out.lb';omega) _ _));exact QUb
    ·have HIN:Hid (dA h m=true):=zH (by unfold dA;rw[HKA.out,HFB.out,HKD.out];rcases HK2.out with e | e<;>subst e<;>rfl)
     have hput:=HPX.out (.slice k1 k2 k3) (.slice none 0 0) [] w5.heap.size yk (d+1) left w5 HK.out (HBL.out _ HT5.out.exc) (by have:=HT5.out.lb';have:=HT5.out.exc.size;omega) (dL.nil (fun b q=>q.elim) (OW _)) HB5.out (by omega) hl2 (by omega) (by simp;omega);rw[Qa,HKL.out]at hput;simp only[gH,cntF,HED.out]at hput;have HPUT:=zH hput;clear hput;go_wp2_with fail
     refine HPUT.out.mono ?_;rintro e w6 ⟨v6,rfl,hN6,hB6,hF6,-⟩;obtain⟨ca,cc,hv6⟩:=hN6.len;obtain⟨kl,hkl⟩: ∃l,tfL ks yk (d+1)=l:=⟨_,rfl⟩;rw[hkl]at hN6 hv6;subst hv6;obtain⟨cn,hcn⟩: ∃n,kl.length=n:=⟨_,rfl⟩;rw[hcn]at hN6 ⊢;have hE6:Exc (· =lb) w5 w6:=⟨hF6.os,hF6.tape,hF6.output,hF6.size,fun b h1 h2=>hF6.low b h1 h2 h1⟩;have HT6:=zH (HT5.out.exc' hE6);have f4:w6.frozen? ⟨gy,4,none⟩=false:=HT6.out.by'.frozen (by simp[ae]);have g4:w6.cell? ⟨gy,4,none⟩=some (.slice none 0 0):=HT6.out.by'.cell 4;obtain⟨W7,hW7⟩: ∃W,W=w6.setCell ⟨gy,4,none⟩ (.slice ca cn cc):=⟨_,rfl⟩;have HT7:Hid (TO lb w m d ⟨yk,xl,xn,(t1,t2,t3),(k1,k2,k3),(r1,r2,r3),xc,(q1,q2,q3),xb,xa⟩ gy ⟨yk,yl,yn,(y1,y2,y3),(ca,cn,cc),(z1,z2,z3),yo,(u1,u2,u3),yb,ya⟩ (aQ h yk) W7):=zH (by rw[hW7];exact HT6.out.set 4 _ rfl (fun W q=>⟨q.kind,q.line,q.n,q.text,q.rows,q.cols,q.trows,q.box,q.all⟩));have hNK:=hN6.nss.keep (w':=W7) (fun b q=>by rw[hW7,O8 _ _ _ _ (show b≠gy by have:=HT5.out.gz;rcases q with q | q;exact q.elim;omega)]);have hsz7:W7.heap.size=w6.heap.size:=by rw[hW7,fF]
     have hg1:=HT7.out.lt;have hg2:=HT7.out.gz;have hg3:=HT5.out.gz;have hg4:=HT5.out.exc.size;exact QUc
   ·have hst':stands yk m=false:=by simpa using hst
    rw[hst']at hst0;have HST:=zH hst0;have HKA:Hid (aB h.kind m=3):=zH (by rw[HKD.out];exact kt3 HK2.out hst');have HIN:Hid (dA h m=false):=zH (by unfold dA;rw[HKA.out,HKD.out];rcases HK2.out with e | e<;>subst e<;>simp);clear hst0 hst hst';go_wp2_with fail
    rw[HGY.out,←HW3.out];refine HST.out.mono ?_;rintro e w4 ⟨rfl,rfl⟩;clear HST E0 E1 E2 X0 X4 p0 p1 p2 x0 x4;have HFU:Hid (aV (aQ h 3) false=aV (aQ h 3) false):=zH rfl;have HFE:Hid (aV (aQ h 3) false=true→(3:Int)=3):=zH (fun _=>rfl);obtain⟨W6,hW6⟩: ∃W,W=W3.setCell ⟨gy,0,none⟩ (.int .i64 3):=⟨_,rfl⟩;have f0:W3.frozen? ⟨gy,0,none⟩=false:=HT3.out.by'.frozen (by simp[ae]);have g0:W3.cell? ⟨gy,0,none⟩=some (.int .i64 yk):=HT3.out.by'.cell 0;have HT6:Hid (TO lb w m d ⟨yk,xl,xn,(t1,t2,t3),(k1,k2,k3),(r1,r2,r3),xc,(q1,q2,q3),xb,xa⟩ gy ⟨3,yl,yn,(y1,y2,y3),aj,(z1,z2,z3),yo,(u1,u2,u3),yb,ya⟩ (aQ h 3) W6):=zH (by rw[hW6];exact HT3.out.set 0 _ rfl (fun W q=>NQ HK2.out q));have HTD:=zH (HT6.out.keep (OX W6.heap.size W6).drew);have HBD:Hid (Blk W6.drew lb 3 [.int .i64 (left:Int)]):=zH (by rw[hW6];exact(HB3.out.other (by have:=HT3.out.lt;have:=HT3.out.lb';omega) _ _));exact QUb
 have h1: ¬yk=1:=fun e=>h12 (.inl e)
 have h2: ¬yk=2:=fun e=>h12 (.inr e)
 clear h12
 by_cases h45:yk=4∨yk=5
 ·have HK2:=zH h45
  clear h1 h2;have hnb:((yk==1)=false∧(yk==2)=false∧(yk==4)=true)∨((yk==1)=false∧(yk==2)=false∧(yk==4)=false∧(yk==5)=true):=by rcases h45 with rfl | rfl<;>simp
  clear h45;rcases hnb with⟨n1,n2,n4⟩| ⟨n1,n2,n4,n5⟩
  all_goals
   have HKD:Hid (h.kind=yk):=zH HHK.out.symm;rw[HKD.out]at HT3;have HMK:Hid (fI h.kind=true):=zH (by rw[HKD.out];rcases HK2.out with e | e<;>rw[e]<;>rfl);have HKA:Hid (aB h.kind m=yk):=zH (by rw[HKD.out];rcases HK2.out with e | e<;>subst e<;>exact kt0 (by decide) (by decide));have HIN:Hid (dA h m=true):=zH (by unfold dA;rw[HKA.out,HKD.out];rcases HK2.out with e | e<;>subst e<;>first | rfl | (rw[CK (by rfl) _];rfl));have hput:=HPX.out (.slice k1 k2 k3) (.slice none 0 0) [] W3.heap.size yk (d+1) left W3 HK.out (HBL.out _ HT3.out.exc) (by have:=HT3.out.lb';have:=HT3.out.exc.size;omega) (dL.nil (fun b q=>q.elim) (OW _)) HB3.out (by omega) hl2 (by omega) (by simp;omega);rw[Qa,HKL.out]at hput;simp only[gH,cntF,HED.out]at hput;have HPUT:=zH hput;clear hput;clear p0 p1 p2 x0 x4;go_wp2_with fail
   rw[HGY.out,←HW3.out];clear E0 E1 E2 X0 X4;refine HPUT.out.mono ?_;rintro e w6 ⟨v6,rfl,hN6,hB6,hF6,-⟩;obtain⟨ca,cc,hv6⟩:=hN6.len;obtain⟨kl,hkl⟩: ∃l,tfL ks yk (d+1)=l:=⟨_,rfl⟩;rw[hkl]at hN6 hv6;subst hv6;obtain⟨cn,hcn⟩: ∃n,kl.length=n:=⟨_,rfl⟩;rw[hcn]at hN6 ⊢;have hE6:Exc (· =lb) W3 w6:=⟨hF6.os,hF6.tape,hF6.output,hF6.size,fun b h1 h2=>hF6.low b h1 h2 h1⟩;have HT6:=zH (HT3.out.exc' hE6);have f4:w6.frozen? ⟨gy,4,none⟩=false:=HT6.out.by'.frozen (by simp[ae]);have g4:w6.cell? ⟨gy,4,none⟩=some (.slice none 0 0):=HT6.out.by'.cell 4;obtain⟨W7,hW7⟩: ∃W,W=w6.setCell ⟨gy,4,none⟩ (.slice ca cn cc):=⟨_,rfl⟩;have HT7:Hid (TO lb w m d ⟨yk,xl,xn,(t1,t2,t3),(k1,k2,k3),(r1,r2,r3),xc,(q1,q2,q3),xb,xa⟩ gy ⟨yk,yl,yn,(y1,y2,y3),(ca,cn,cc),(z1,z2,z3),yo,(u1,u2,u3),yb,ya⟩ (aQ h yk) W7):=zH (by rw[hW7];exact HT6.out.set 4 _ rfl (fun W q=>⟨q.kind,q.line,q.n,q.text,q.rows,q.cols,q.trows,q.box,q.all⟩));have hNK:=hN6.nss.keep (w':=W7) (fun b q=>by rw[hW7,O8 _ _ _ _ (show b≠gy by have:=HT3.out.gz;rcases q with q | q;exact q.elim;omega)]);have hsz7:W7.heap.size=w6.heap.size:=by rw[hW7,fF]
   have hg1:=HT7.out.lt;have hg2:=HT7.out.gz;have hg3:=HT3.out.gz;have hg4:=HT3.out.exc.size;exact QUc
 have h4: ¬yk=4:=fun e=>h45 (.inl e)
 have h5: ¬yk=5:=fun e=>h45 (.inr e)
 clear h45;have n1:(yk==1)=false:=by simpa using h1
 have n2:(yk==2)=false:=by simpa using h2
 have n4:(yk==4)=false:=by simpa using h4
 have n5:(yk==5)=false:=by simpa using h5
 have HKD:Hid (h.kind=yk):=zH HHK.out.symm;rw[HKD.out]at HT3;have HMK:Hid (fI h.kind=false):=zH (by rw[HKD.out];unfold fI;rw[n1,n2,n4,n5];rfl);have HKA:Hid (aB h.kind m=yk):=zH (by rw[HKD.out];exact kt0 h1 h2);have hlv:=tJ SI w0 lb HLB.out HSI.out m d (aG ks) ks rfl left (.slice k1 k2 k3) W3 hc hl2 HK.out (HBL.out _ HT3.out.exc) HB3.out;rw[HKL.out]at hlv;simp only[gH,cntF]at hlv;have HLV:=zH hlv;clear hlv h1 h2 h4 h5 p0 p1 p2 x0 x4;go_wp2_with fail
 rw[HGY.out,←HW3.out];clear E0 E1 E2 X0 X4;refine HLV.out.mono ?_;rintro e w4 ⟨rfl,hB4,hE4⟩;have HT4:=zH (HT3.out.exc' hE4);have HB4:=zH hB4;have hg1:=HT4.out.lt;have hg2:=HT4.out.gz;have hadd:=lQ base (.slice va an vc) acc ⟨yk,yl,yn,(y1,y2,y3),aj,(z1,z2,z3),yo,(u1,u2,u3),yb,ya⟩ (aQ h yk) [] (fun b=>w.heap.size+1<b∧b<w4.heap.size) w4 (HN.out.exc HBA.out HT4.out.exc) (fun b q=>⟨by have:=HN.out.sz;omega,q.2,fun e=>by obtain⟨L,S,hL,-⟩:=HN.out.own;have:=hL.blt e;omega⟩) (HT4.out.hd.mono (fun b q=>⟨q.1,by omega⟩)) (NsS.nil _ _) (by have:=HAN.out;omega);rw[NN (ks:=ks) (m:=m) (d:=d) HKA.out HMK.out acc,HR.out]at hadd;simp only[ae,pv]at hadd;have HADD:=zH hadd;have j0:w4.cell? ⟨gy,0,none⟩=some (.int .i64 yk):=HT4.out.by'.cell 0;have j1:w4.cell? ⟨gy,1,none⟩=some (.int .i64 yl):=HT4.out.by'.cell 1;have j2:w4.cell? ⟨gy,2,none⟩=some (.int .i64 yn):=HT4.out.by'.cell 2;have j3:w4.cell? ⟨gy,3,none⟩=some (.slice y1 y2 y3):=HT4.out.by'.cell 3;have j4:w4.cell? ⟨gy,4,none⟩=some (.slice none 0 0):=HT4.out.by'.cell 4;have j5:w4.cell? ⟨gy,5,none⟩=some (.slice z1 z2 z3):=HT4.out.by'.cell 5;have j6:w4.cell? ⟨gy,6,none⟩=some (.string ⟨yo.toArray⟩):=HT4.out.by'.cell 6;have j7:w4.cell? ⟨gy,7,none⟩=some (.slice u1 u2 u3):=HT4.out.by'.cell 7;have j8:w4.cell? ⟨gy,8,none⟩=some (.bool yb):=HT4.out.by'.cell 8;have j9:w4.cell? ⟨gy,9,none⟩=some (.bool ya):=HT4.out.by'.cell 9;clear hadd hg1 hg2 hB4 hE4 HLV;go_wp2_with fail
 refine HADD.out.mono ?_;rintro e w8 ⟨v8,rfl,hN8,hb8,ho8,hq8⟩;have HN7:=zH (HN.out.exc HBA.out HT4.out.exc);have HFIN:=zH (And.intro hN8 (And.intro (show Blk w8 lb 3 [.int .i64 (KL:Int)] from(ho8 lb HB4.out.lt (HN7.out.own_ge HBA.out)).trans HB4.out) (And.intro ((PF.exc HT4.out.exc).trans (Dq.pf (lb:=lb) HN7.out hb8 ho8)) ((Ow.exc (v:= .slice va an vc) HT4.out.exc).trans (fun b h1 _ h3=>⟨ho8 b h1 h3,hq8 b h1 h3⟩) HT4.out.exc.size))));clear hN8 hb8 ho8 hq8 HADD;go_wp2_with fail
 go_ret;exact⟨_,rfl,HFIN.out.1,HFIN.out.2.1,HFIN.out.2.2.1,HFIN.out.2.2.2⟩
section
open Go.RowKit
theorem Ii (SI:Nat→Prop) (w0:World) (lb:Nat) (hlb:w0.heap.size≤lb) (hSI: ∀b,SI b→b<w0.heap.size) (hU:U8 w0): ∀(n:Nat) (l:List Nd),aG l=n→nlL l≤90000→J3 w0 lb SI l:=by
 intro n
 induction n using Nat.strongRecOn with
 | _ n IH=>
  intro l hn hnl lv v acc base m d left w hv hbw hbase hN hB hc hl2 hd ha;subst hn;have HPO:Hid (∀(q:List Nd),aG q<aG l→nlL q≤90000→J3 w0 lb SI q):=zH (fun q hq hq2=>IH (aG q) hq q rfl hq2);have hll:=mW l;obtain⟨W1,hW1⟩: ∃W,W=w.alloc (.cells (gH m d lb).toArray 157):=⟨_,rfl⟩;have b1:Below w.heap.size w W1:=by rw[hW1];exact af _ _
  have HP1:Hid (Blk W1 w.heap.size 157 (gH m d lb)):=zH (by rw[hW1];exact O9 w _);have HN1:=zH (hN.keep b1);have HB1:=zH (hB.below b1);have HZ:Hid (lb<w.heap.size):=zH hB.lt;have HBW1:=zH (hbw.trans (b1.mono hbw.size));have HPF1:Hid (PF lb base w W1):=zH (PF.of b1);have HOW1:Hid (Ow lb v w v W1):=zH (fun b h1 _ h3=>⟨b1.block b h1,h3⟩);have HV:=zH hv;have HSI:=zH hSI;have HLB:=zH hlb;have HBA:=zH hbase;have HU:=zH hU;have HSZ1:=zH b1.size;obtain⟨va,vc,rfl⟩:=hN.len;obtain⟨la,lc,rfl⟩:=hv.len;unfold GK;simp only[gH,cntF]at hW1 ⊢;have HW1:=zH hW1;have HOV:=zH (fun(b:Nat) (hb:w.heap.size≤b) (e:(Value.slice va acc.length vc).ownBlock=some b)=>(by obtain⟨L,S,hL,-⟩:=hN.own;have:=hL.blt e;omega:False));clear hv hbw hbase hN hB hlb hSI hU hW1 b1 IH;go_enter Tryz.func99,Tryz.ntmps99
  go_wp2_with fail
  rw[←HW1.out];go_loopw [1,11] (fun u i wr=> ∃(p:Nat),i= .int .i64 (p:Int)∧p≤l.length∧Hid (dL FS base wr u (acc++tfL (l.take p) m d))∧Hid (Blk wr lb 3 [.int .i64 ((left-aG (l.take p):Nat):Int)])∧Hid (PF lb base W1 wr)∧Hid (Ow lb (.slice va acc.length vc) W1 u wr)) (fun _ i _=>l.length-(intOf i).toNat)
  case atStart=>exact⟨0,rfl,by omega,by simpa[mo] using HN1,by simpa[aG] using HB1,zH (PF.refl _ _ _),zH (Ow.refl _ _ _)⟩
  case round=>
   obtain⟨p,rfl,hp,HN,HBK,HPF,HOW⟩:=hrel;clear HN1 HB1;obtain⟨ua,uc,rfl⟩:=HN.out.len;obtain⟨un,hun⟩: ∃n,(acc++tfL (l.take p) m d).length=n:=⟨_,rfl⟩;rw[hun]at HN HOW ⊢;have HUN:=zH hun
   by_cases hlt:p<l.length
   ·obtain⟨y,hy⟩: ∃y,l[p]? =some y:=⟨l[p],OU hlt⟩
    have HCN:=zH (uG hy);have hle:=uH hy;have hnle:=wu hy;have hul:un≤acc.length+aG (l.take p):=by have:=xq (l.take p) m d;rw[←hun,Pb];omega
    have hlt':(p:Int)<(l.length:Int):=by omega
    have hp0:(0:Int)≤(p:Int):=by omega
    have hbr:Below w0.heap.size w0 wr:=HBW1.out.trans (HPF.out.below HBW1.out.size HLB.out HBA.out);obtain⟨g,off,x,rfl,hC,hH,hK⟩:=HV.out.atK (Kp.below hbr HSI.out) hy;obtain⟨yh,yks⟩:=y;have hNX:Hid (¬20≤d→tfL (l.take (p+1)) m d=tfL (l.take p) m d++tfN (.mk yh yks) m d):=zH (fun h=>Kk hy m d h);simp only[Nd.hd,Nd.kids]at HCN hle hnle hH hK;obtain⟨wb,hwb⟩: ∃wb,wb=wr.alloc (.cells (ae x).toArray 58):=⟨_,rfl⟩;have bb:Below wr.heap.size wr wb:=by rw[hwb];exact af _ _
    have hPr:Blk wr w.heap.size 157 (gH m d lb):=HPF.out.blk HP1.out (by have:=HZ.out;omega) (by decide);have hPb:=hPr.below bb;have q2:wb.cell? ⟨w.heap.size,2,none⟩=some (cntF lb):=hPb.cell 2;have HC1:=zH (qA lb (left-aG (l.take p)) wb (HBK.out.below bb) (by omega) (by omega));have HXN:Hid (Blk wb wr.heap.size 58 (ae x)):=zH (by rw[hwb];exact O9 wr _);have HZN:Hid (wr.heap.size≠lb):=zH (fun e=>by have:=HBK.out.lt;omega);have HPB:=zH hPb;have HNB:=zH (HN.out.keep bb);have HPFb:=zH (HPF.out.trans (PF.of bb));have HOWb:Hid (Ow lb (.slice va acc.length vc) W1 (.slice ua un uc) wb):=zH (HOW.out.trans (Ow.exc (Exc.of bb)) HPF.out.size);have HKK:=zH hK;have HHH:=zH hH;obtain⟨xk,xl,xn,⟨t1,t2,t3⟩,⟨k1,k2,k3⟩,⟨r1,r2,r3⟩,xc,⟨q1,q2',q3⟩,xb,xa⟩:=x;have c0:=hC.c0;have c1:=hC.c1;have c2:=hC.c2;have c3:=hC.c3;have c4:=hC.c4;have c5:=hC.c5;have c6:=hC.c6;have c7:=hC.c7;have c8:=hC.c8;have c9:=hC.c9;simp only[ae,pv,cntF]at hwb q2 HKK;subst hwb;clear hy hC hK hH bb hPr hPb hbr hun;go_wp2_with fail
    refine HC1.out.mono ?_;rintro e w3 ⟨rfl,hB3,hE3⟩;have HB3:=zH hB3;have HN3:=zH (HNB.out.exc HBA.out hE3);have HPF3:Hid (PF lb base W1 w3):=zH (HPFb.out.trans (PF.exc hE3));have HOW3:Hid (Ow lb (.slice va acc.length vc) W1 (.slice ua un uc) w3):=zH (HOWb.out.trans (Ow.exc hE3) HPFb.out.size);have hP3:=hE3.blk HPB.out (by have:=HZ.out;omega);have p0:w3.cell? ⟨w.heap.size,0,none⟩=some (.int .i64 m):=hP3.cell 0;have p1:w3.cell? ⟨w.heap.size,1,none⟩=some (.int .i64 (d:Int)):=hP3.cell 1;have p2:w3.cell? ⟨w.heap.size,2,none⟩=some (cntF lb):=hP3.cell 2;have hX3:=hE3.blk HXN.out HZN.out;have x4:w3.cell? ⟨wr.heap.size,4,none⟩=some (.slice k1 k2 k3):=hX3.cell 4;have hb3:Below w0.heap.size w0 w3:=HBW1.out.trans (HPF3.out.below HBW1.out.size HLB.out HBA.out);simp only[cntF]at p2
    by_cases hdd:d=20
    ·have HDD:=zH hdd
     have HLV:=tJ SI w0 lb HLB.out HSI.out m d (aG yks) yks rfl (left-aG (l.take p)-1) (.slice k1 k2 k3) w3 (by omega) (by omega) HKK.out hb3 HB3.out;simp only[gH,cntF]at HLV;have HLV:=zH HLV;have e20:((d:Int)==20)=true:=by simp;omega
     clear hB3 hE3 hP3 hX3 hb3 HC1 c0 c1 c2 c3 c4 c5 c6 c7 c8 c9 q2 hdd;go_wp2_with fail
     refine HLV.out.mono ?_;rintro e w5 ⟨rfl,hB5,hE5⟩;have HB5:=zH hB5;have HN5:=zH (HN3.out.exc HBA.out hE5);have HPF5:Hid (PF lb base W1 w5):=zH (HPF3.out.trans (PF.exc hE5));have HOW5:Hid (Ow lb (.slice va acc.length vc) W1 (.slice ua un uc) w5):=zH (HOW3.out.trans (Ow.exc hE5) HPF3.out.size);clear hB5 hE5 HLV p0 p1 p2 x4;go_wp2_with fail
     go_roundw
     case rel=>exact⟨p+1,by go_num,by omega,zH (by have h:=HN5.out;have e:=HDD.out;rw[za _ m d (by omega)]at h ⊢;exact h),zH (by rw[HCN.out,show left-(aG (l.take p)+(1+aG yks))=left-aG (l.take p)-1-aG yks by omega];exact HB5.out),HPF5,HOW5⟩
     case measure=>(simp[intOf];try omega)
    ·have HON:=Ik SI w0 lb HLB.out HSI.out HU.out ⟨xk,xl,xn,(t1,t2,t3),(k1,k2,k3),(r1,r2,r3),xc,(q1,q2',q3),xb,xa⟩ yh yks HHH.out HKK.out (by omega) (HPO.out yks (by omega) (by omega)) (.slice ua un uc) (acc++tfL (l.take p) m d) base m d (left-aG (l.take p)-1) w3 hb3 HBA.out HN3.out HB3.out (by omega) (by omega) (by omega) (by have:=HUN.out;omega)
     unfold GK at HON;simp only[gH,cntF,ae,pv]at HON;have HON:=zH HON;have e20:((d:Int)==20)=false:=by simp;omega
     have HDD:Hid (¬20≤d):=zH (by omega);have x0:w3.cell? ⟨wr.heap.size,0,none⟩=some (.int .i64 xk):=hX3.cell 0;have x1:w3.cell? ⟨wr.heap.size,1,none⟩=some (.int .i64 xl):=hX3.cell 1;have x2:w3.cell? ⟨wr.heap.size,2,none⟩=some (.int .i64 xn):=hX3.cell 2;have x3:w3.cell? ⟨wr.heap.size,3,none⟩=some (.slice t1 t2 t3):=hX3.cell 3;have x5:w3.cell? ⟨wr.heap.size,5,none⟩=some (.slice r1 r2 r3):=hX3.cell 5;have x6:w3.cell? ⟨wr.heap.size,6,none⟩=some (.string ⟨xc.toArray⟩):=hX3.cell 6;have x7:w3.cell? ⟨wr.heap.size,7,none⟩=some (.slice q1 q2' q3):=hX3.cell 7;have x8:w3.cell? ⟨wr.heap.size,8,none⟩=some (.bool xb):=hX3.cell 8;have x9:w3.cell? ⟨wr.heap.size,9,none⟩=some (.bool xa):=hX3.cell 9;clear hB3 hE3 hP3 hX3 hb3 HC1 c0 c1 c2 c3 c4 c5 c6 c7 c8 c9 q2 hdd;go_wp2_with fail
     refine HON.out.mono ?_;rintro e w5 ⟨v5,rfl,hN5,hB5,hF5,hO5⟩;have HB5:=zH hB5;have HN5:=zH hN5;have HPF5:Hid (PF lb base W1 w5):=zH (HPF3.out.trans hF5);have HOW5:Hid (Ow lb (.slice va acc.length vc) W1 v5 w5):=zH (HOW3.out.trans hO5 HPF3.out.size);clear hN5 hB5 hF5 hO5 HON p0 p1 p2 x0 x1 x2 x3 x4 x5 x6 x7 x8 x9;go_wp2_with fail
     go_roundw
     case rel=>exact⟨p+1,by go_num,by omega,zH (by rw[hNX.out HDD.out,←Pw];exact HN5.out),zH (by rw[HCN.out,show left-(aG (l.take p)+(1+aG yks))=left-aG (l.take p)-1-aG yks by omega];exact HB5.out),HPF5,HOW5⟩
     case measure=>(simp[intOf];try omega)
   ·obtain rfl:p=l.length:=by omega
    have hlt': ¬(l.length:Int)<(l.length:Int):=by omega
    rw[PG]at HN HBK;clear hun HUN;go_wp2_with fail
    go_ret;refine⟨_,rfl,HN.out,HBK.out,HPF1.out.trans HPF.out,fun b h1 h2 h3=>?_⟩;obtain⟨q1,q2⟩:=HOW.out b (O0 h1 HSZ1.out) h2 h3;exact⟨q1.trans (HOW1.out b h1 h2 h3).1,q2⟩
end
section
def JY (m:Nm) (l:List Nd) (w:World) (e:Ending) (w':World):Prop:= ∃s:PV,e= .returned (uC m (pv s))∧NsS (fun b=>w.heap.size≤b∧b<w'.heap.size) w' (pv s) l∧Below w.heap.size w w'
theorem EY (S:Nat→Prop) (m:Nm) (l:List Nd) (v:Value) (w:World) (hU:U8 w) (hb:nlL l≤60000) (hv:NsS S w v l) (hS: ∀x,S x→x<w.heap.size):
  Calls Tryz.prog 65 #[uC m v] w (JY m (qx l) w):=by
 have hcl:=mV l;obtain⟨k1,z1,rfl⟩:=hv.len;obtain⟨w0,hw0⟩: ∃w0,w0=(w.alloc (.cells (qX m (.slice k1 l.length z1)).toArray 38)).alloc (.cells ([.string ⟨#[]⟩,.string ⟨#[]⟩,.string ⟨#[]⟩,.string ⟨#[]⟩,.slice none 0 0]:List Value).toArray 38):=⟨_,rfl⟩;obtain⟨bl,hbA,hbB⟩:=rO w _ _ w0 hw0;have hz0:w0.heap.size=w.heap.size+1+1:=by rw[hw0,Pf,Pf]
 obtain⟨W3,hW3⟩: ∃W,W=w0.alloc (.cells #[.int .i64 20000] 3):=⟨_,rfl⟩;have b3:Below w0.heap.size w0 W3:=by rw[hW3];exact af _ _
 have hz3:W3.heap.size=w.heap.size+1+1+1:=by rw[hW3,Pf,hz0]
 have hL:Blk W3 (w.heap.size+1+1) 3 [.int .i64 ((20000:Nat):Int)]:=by
  have:=O9 w0 (.cells #[.int .i64 20000] 3);rw[hz0,←hW3]at this;exact this
 have bw3:Below w.heap.size w W3:=bl.trans (b3.mono bl.size);have hput:=Ii S w (w.heap.size+1+1) (by omega) hS hU (aG l) l rfl (by omega) (.slice k1 l.length z1) (.slice none 0 0) [] W3.heap.size 0 0 20000 W3 hv bw3 (by omega) (dL.nil (fun b q=>q.elim) (OW _)) hL (by omega) (OW _) (by omega) (by simp;omega);rw[Qa,Kj (by omega)]at hput;unfold GK at hput;simp only[gH,cntF]at hput;rw[show((0:Nat):Int)=0 from rfl]at hput;have HPUT:=zH hput;obtain⟨TL,hTL⟩: ∃T,qx l=T:=⟨_,rfl⟩;rw[hTL]at HPUT ⊢;have HA:=zH (hbA.below b3);have HB:=zH (hbB.below b3);have BW3:=zH bw3;have HZ3:=zH hz3;have c4:W3.cell? ⟨w.heap.size,4,none⟩=some (.slice k1 l.length z1):=HA.out.cell 4;unfold uC;unfold qX at hw0 ⊢;subst hw0;have C4:=c4;rw[hW3]at C4;have HW3:=zH hW3;clear hv hS hU bl hbA hbB hz0 hz3 b3 hL bw3 hput hTL hW3 hcl c4;go_enter Tryz.func65,Tryz.ntmps65
 go_wp2_with fail
 rw[←HW3.out];refine HPUT.out.mono ?_;rintro e w1 ⟨v1,rfl,hN1,hB1,hF1,-⟩;obtain⟨c1,c3,rfl⟩:=hN1.len;obtain⟨c2,hc2⟩: ∃n,TL.length=n:=⟨_,rfl⟩;rw[hc2]at hN1 ⊢;have A1:=hF1.blk HA.out (by omega) (by decide);have B1:=hF1.blk HB.out (by omega) (by decide);have f4:w1.frozen? ⟨w.heap.size,4,none⟩=false:=A1.frozen (by simp[qX]);have g4:w1.cell? ⟨w.heap.size,4,none⟩=some (.slice k1 l.length z1):=A1.cell 4;have A2:=A1.set 4 (.slice c1 c2 c3);have B2:=Blk.other B1 (show w.heap.size+1≠w.heap.size by omega) 4 (.slice c1 c2 c3);have x0:(w1.setCell ⟨w.heap.size,4,none⟩ (.slice c1 c2 c3)).cell? ⟨w.heap.size,0,none⟩=some (.string ⟨m.a.toArray⟩):=A2.cell 0;have x1:(w1.setCell ⟨w.heap.size,4,none⟩ (.slice c1 c2 c3)).cell? ⟨w.heap.size,1,none⟩=some (.string ⟨m.b.toArray⟩):=A2.cell 1;have x2:(w1.setCell ⟨w.heap.size,4,none⟩ (.slice c1 c2 c3)).cell? ⟨w.heap.size,2,none⟩=some (.string ⟨m.c.toArray⟩):=A2.cell 2;have x3:(w1.setCell ⟨w.heap.size,4,none⟩ (.slice c1 c2 c3)).cell? ⟨w.heap.size,3,none⟩=some (.string ⟨m.d.toArray⟩):=A2.cell 3;have x4:(w1.setCell ⟨w.heap.size,4,none⟩ (.slice c1 c2 c3)).cell? ⟨w.heap.size,4,none⟩=some (.slice c1 c2 c3):=A2.cell 4;have z0:(w1.setCell ⟨w.heap.size,4,none⟩ (.slice c1 c2 c3)).cell? ⟨w.heap.size+1,0,none⟩=some (.string ⟨#[]⟩):=B2.cell 0;have z1':(w1.setCell ⟨w.heap.size,4,none⟩ (.slice c1 c2 c3)).cell? ⟨w.heap.size+1,1,none⟩=some (.string ⟨#[]⟩):=B2.cell 1;have z2:(w1.setCell ⟨w.heap.size,4,none⟩ (.slice c1 c2 c3)).cell? ⟨w.heap.size+1,2,none⟩=some (.string ⟨#[]⟩):=B2.cell 2;have z3:(w1.setCell ⟨w.heap.size,4,none⟩ (.slice c1 c2 c3)).cell? ⟨w.heap.size+1,3,none⟩=some (.string ⟨#[]⟩):=B2.cell 3;have z4:(w1.setCell ⟨w.heap.size,4,none⟩ (.slice c1 c2 c3)).cell? ⟨w.heap.size+1,4,none⟩=some (.slice none 0 0):=B2.cell 4;have v0:(w1.setCell ⟨w.heap.size,4,none⟩ (.slice c1 c2 c3)).frozen? ⟨w.heap.size+1,0,none⟩=false:=B2.frozen (by simp);have v1:(w1.setCell ⟨w.heap.size,4,none⟩ (.slice c1 c2 c3)).frozen? ⟨w.heap.size+1,1,none⟩=false:=B2.frozen (by simp);have v2:(w1.setCell ⟨w.heap.size,4,none⟩ (.slice c1 c2 c3)).frozen? ⟨w.heap.size+1,2,none⟩=false:=B2.frozen (by simp);have v3:(w1.setCell ⟨w.heap.size,4,none⟩ (.slice c1 c2 c3)).frozen? ⟨w.heap.size+1,3,none⟩=false:=B2.frozen (by simp);have v4:(w1.setCell ⟨w.heap.size,4,none⟩ (.slice c1 c2 c3)).frozen? ⟨w.heap.size+1,4,none⟩=false:=B2.frozen (by simp);have B7:=((((B2.set 0 (.string ⟨m.a.toArray⟩)).set 1 (.string ⟨m.b.toArray⟩)).set 2 (.string ⟨m.c.toArray⟩)).set 3 (.string ⟨m.d.toArray⟩)).set 4 (.slice c1 c2 c3);have H7:=zH B7;have HSS:=zH hN1.nss;have HF1:=zH hF1;clear A1 B1 A2 B2 B7 hN1 hB1 hF1 HPUT HA HB C4 hc2;go_wp2_with fail
 have B7:=H7.out;have k0:=B7.cell 0;have k1:=B7.cell 1;have k2:=B7.cell 2;have k3:=B7.cell 3;have k4:=B7.cell 4;simp at k0 k1 k2 k3 k4;refine Pq (v:= .agg #[.string ⟨m.a.toArray⟩,.string ⟨m.b.toArray⟩,.string ⟨m.c.toArray⟩,.string ⟨m.d.toArray⟩,.slice c1 c2 c3]) (by simp[results,Tryz.results65,go_sem,k0,k1,k2,k3,k4]) rfl ?_;have hz:=HZ3.out;have h1:=HF1.out.size;have hbel:Below w.heap.size w w1:=BW3.out.trans (HF1.out.below BW3.out.size (by omega) (by omega));refine⟨(c1,c2,c3),rfl,?_,?_⟩
 ·refine(HSS.out.keep (fun b q=>?_)).mono (fun b q=>?_)
  ·have hb:b≠w.heap.size∧b≠w.heap.size+1:=by
    rcases q with q | q
    ·exact q.elim
    ·omega
   simp only[O8 _ (⟨w.heap.size,_,none⟩:Addr) _ b hb.1,O8 _ (⟨w.heap.size+1,_,none⟩:Addr) _ b hb.2]
  ·simp only[fF]
   rcases q with q | q
   ·exact q.elim
   ·exact⟨by omega,by omega⟩
 ·refine((((hbel.setCell ?_ _).setCell ?_ _).setCell ?_ _).setCell ?_ _).setCell ?_ _ |>.setCell ?_ _<;>simp<;>omega
end
section
noncomputable def Jt (x hi mx:Value):Sem Value:=Instr.slice 36 x none (some hi) (some mx)
theorem zk (x hi mx:Value):Instr.slice 36 x none (some hi) (some mx)=Jt x hi mx:=rfl
theorem Gt (a:Option Addr) (n c:Nat) (h:n≤c) (W:World):(Jt (.slice a n c) (.int .i64 (n:Int)) (.int .i64 (n:Int))).run Tryz.prog W= .ok (.slice a n n) W:=by
 obtain⟨i0,hi,hz0,hz1,hz2⟩:=PU kJ;unfold Jt;simp[Instr.slice,Instr.sliceBounds,Instr.sliceBound,asIntOf,PZ Tryz.underlying36,h,sizeOf,typeInfo,hi];intro _
 cases a<;>rfl
attribute [local go_sem ↓ high] zk
theorem wP (a:Option Addr) (n c:Nat) (h:n≤c) (w:World):Calls Tryz.prog 62 #[.slice a n c] w fun e w'=>e= .returned (.slice a n n)∧w=w':=by
 have f1:=fun W=>Gt a n c h W
 go_enter Tryz.func62,Tryz.ntmps62
 go_wp2_with fail
 go_ret;exact⟨rfl,rfl⟩
def pG (x:NV):NV:=x.wkids (x.kids.1,x.kids.2.1,x.kids.2.1)
def fM (j:Nat) (L:List NV):List NV:=(L.take j).map pG++L.drop j
theorem CX (j:Nat) (L:List NV):(fM j L).length=L.length:=by unfold fM;simp;omega
theorem AQ (L:List NV):fM 0 L=L:=by simp[fM]
theorem Gr {j:Nat} {L:List NV} {x:NV} (h:L[j]? =some x):(fM j L)[j]? =some x:=by
 have hj:=(OV.1 h).1;unfold fM;rw[Ps (by simp;omega)];simp only[Qe,Pg,Rc (Nat.le_of_lt hj),QW,Qn,PW];exact h
theorem CW {j:Nat} {L:List NV} {x:NV} (h:L[j]? =some x):(fM j L).set j (pG x)=fM (j+1) L:=by
 have hj:=(OV.1 h).1;have e:L.drop j=x::L.drop (j+1):=by
  rw[PX hj]
  congr 1
  rw[OU hj]at h;exact Ph h
 have hl:((L.take j).map pG).length=j:=by simp;omega
 unfold fM;rw[Q9 _ _ (by omega),hl,QW,e,PD,h];simp
theorem CY (L:List NV):fM L.length L=L.map pG:=by simp[fM]
theorem BM.copy {X R:Nat→Prop} {w:World} {b:Nat} {t:Bt} (h:BM true X R w b t):
  ∃ka kc oa oc pa,∃LO:List NV,w.cell? ⟨b,0,none⟩=some (.string ⟨t.nm.a.toArray⟩)∧w.cell? ⟨b,1,none⟩=some (.string ⟨t.nm.b.toArray⟩)∧w.cell? ⟨b,2,none⟩=some (.string ⟨t.nm.c.toArray⟩)∧w.cell? ⟨b,3,none⟩=some (.string ⟨t.nm.d.toArray⟩)∧
   w.cell? ⟨b,4,none⟩=some (.slice ka t.kids.length kc)∧w.cell? ⟨b,5,none⟩=some (.slice oa t.opn.length oc)∧w.cell? ⟨b,6,none⟩=some (.pointer pa)∧t.kids.length≤kc∧LO.length=t.opn.length∧Fs 10 ae w (.slice oa t.opn.length oc) LO∧
   (∀(i:Nat) x,LO[i]? =some x→x.kids.2.1≤x.kids.2.2)∧
   ∀W o ob oc',Below w.heap.size w W→w.heap.size≤o→Blk W o 116 (bM t.nm (ka,t.kids.length,t.kids.length) (ob,t.opn.length,oc') (.pointer pa))→ag 58 10 ae w.heap.size W (.slice ob t.opn.length oc') (LO.map pG)→(Value.slice ob t.opn.length oc').ownBlock≠some o→
    ∃X',BM false X' (fun k=>R k∨X k) W o t∧ ∀k,X' k→w.heap.size≤k:=by
 have hlt:=h.lt;obtain⟨kv,ov,pa,LO,lab,h1,h2⟩:=h;obtain⟨ka,kc,ek,hkc⟩:=h1.kids.len;obtain⟨oa,oc,eo,hoc⟩:=h1.olen;obtain⟨pa',hpa⟩: ∃q,pa= .pointer q:=by
  rcases h1.para with⟨-,q,-⟩| ⟨-,g,tv,q,-⟩
  ·exact⟨_,q⟩
  ·exact⟨_,q⟩
 have hRX: ∀k,R k→R k∨X k:=fun k q=> .inl q
 have hLX: ∀z,z≠0→ ∀k,(R k∨lab k=z)→R k∨X k:=fun z hz k q=>q.imp id (fun q=>(h2 k).2 (by omega))
 refine⟨ka,kc,oa,oc,pa',LO,h1.box.cell 0,h1.box.cell 1,h1.box.cell 2,h1.box.cell 3,by rw[h1.box.cell 4,←ek];rfl,by rw[h1.box.cell 5,←eo];rfl,by rw[h1.box.cell 6,←hpa];rfl,hkc,h1.ol,by rw[←eo];exact ag.sl ay h1.opn,fun i x hx=>?_,fun W o ob oc' hb ho hbox hown hne=>?_⟩
 ·have hi:i<t.opn.length:=by rw[←h1.ol];exact(OV.1 hx).1
  obtain⟨a,c,e,hc⟩:=(h1.on i x _ hx (OU hi)).2.len;rw[oD e];exact hc
 have kW:Kp (fun k=>R k∨X k) w W:=Kp.below hb (fun k q=>hlt k q.symm);have hoblt: ∀k,(Value.slice ob t.opn.length oc').ownBlock=some k→w.heap.size≤k∧k<W.heap.size:=fun k e=>⟨(hown.ty e).1,hown.ltb e⟩
 have hk:RwN (fun k=>R k∨X k) (fun k=>(if k=o then 1 else if(Value.slice ob t.opn.length oc').ownBlock=some k then 3 else 0)=2) W (.slice ka t.kids.length t.kids.length) t.kids:=by
  obtain⟨a,c,e,q⟩:=h1.kids.clip (O':=fun _=>False);rw[ek]at e;injection e with e1
  subst e1;exact((q.mono (hLX 2 (by decide)) (fun _ z=>z)).keep kW (fun _ z=>z.elim)).mono (fun _ z=>z) (fun _ z=>z.elim)
 refine⟨fun k=>(if k=o then 1 else if(Value.slice ob t.opn.length oc').ownBlock=some k then 3 else 0)≠0,⟨(ka,t.kids.length,t.kids.length),(ob,t.opn.length,oc'),.pointer pa',LO.map pG,fun k=>if k=o then 1 else if(Value.slice ob t.opn.length oc').ownBlock=some k then 3 else 0,⟨fun k q=>?_,fun k q=>O0 (hlt k q.symm) hb.size,fun k q=>?_,by simp,hbox,hk,hown.z,fun k e=>?_,by rw[Qe];exact h1.ol,fun i x y p q=>?_,?_⟩,fun k=>Ri⟩,fun k q=>?_⟩
 ·by_cases e:k=o
  ·rw[e];exact hbox.lt
  ·by_cases e2:(Value.slice ob t.opn.length oc').ownBlock=some k
   ·exact(hoblt k e2).2
   ·simp[e,e2]at q
 ·have hkl:=hlt k q.symm
  have e1:k≠o:=by omega
  have e2:(Value.slice ob t.opn.length oc').ownBlock≠some k:=fun e=>by have:=(hoblt k e).1;omega
  simp only[Pd e1,Pd e2]
 ·have e':(Value.slice ob t.opn.length oc').ownBlock=some k:=e
  have e1:k≠o:=fun e1=>hne (by rw[←e1];exact e')
  simp only[Pd e1,Pk e']
 ·rw[Qf]at p
  cases hx:LO[i]? with
  | none=>rw[hx]at p;cases p
  | some x0=>
   rw[hx]at p;obtain rfl:=Ph p;obtain⟨q1,q2⟩:=h1.on i x0 y hx q;refine⟨((q1.mono hRX).keep kW).wkids _,?_⟩;obtain⟨a,c,e,q3⟩:=q2.clip (O':=fun _=>False);have e2:pv (pG x0).kids= .slice a y.kids.length y.kids.length:=by
    have:=oD e;unfold pG NV.wkids;simp only[this];rfl
   rw[e2];exact((q3.mono (hLX _ (by omega)) (fun _ z=>z)).keep kW (fun _ z=>z.elim)).mono (fun _ z=>z) (fun _ z=>z.elim)
 ·rcases h1.para with⟨z1,z2,z3⟩| ⟨z1,g,tv,z2,z3,z4⟩
  ·exact .inl ⟨z1,by rw[←hpa];exact z2,z3⟩
  ·obtain⟨hg4,hto,htb⟩:lab g=4∧ag 35 2 aX 0 w (pv tv) t.text∧ ∀k,(pv tv).ownBlock=some k→lab k=5:=by
    rcases z4 with⟨-,q⟩| ⟨q,-⟩
    ·exact q
    ·cases q
   refine .inr ⟨z1,g,tv,by rw[←hpa];exact z2,(hb.block g z3.lt).trans z3,.inr ⟨rfl,.inr ((h2 g).2 (by omega)),?_⟩⟩;exact((oK ah hto).mono (fun k e=> .inr ((h2 k).2 (by rw[htb k e];decide)))).keep kW
 ·by_cases e:k=o
  ·omega
  ·by_cases e2:(Value.slice ob t.opn.length oc').ownBlock=some k
   ·exact(hoblt k e2).1
   ·simp[e,e2]at q
theorem BM.fin {m:Bool} {X R:Nat→Prop} {w:World} {b:Nat} {t:Bt} (h:BM m X R w b t) (ho:t.opn=[]): ∃a c,(∀(i:Nat) u,(qX t.nm (.slice a t.kids.length c))[i]? =some u→w.cell? ⟨b,i,none⟩=some u)∧NsS (fun k=>R k∨X k) w (.slice a t.kids.length c) (lh t):=by
 obtain⟨kv,ov,pa,LO,lab,h1,h2⟩:=h;obtain⟨a,c,e,hc⟩:=h1.kids.len;refine⟨a,c,fun i u hu=>?_,?_⟩
 ·rw[←e]at hu
  match i,hu with
  | 0,hu=>rw[h1.box.cell 0];exact hu
  | 1,hu=>rw[h1.box.cell 1];exact hu
  | 2,hu=>rw[h1.box.cell 2];exact hu
  | 3,hu=>rw[h1.box.cell 3];exact hu
  | 4,hu=>rw[h1.box.cell 4];exact hu
  | n+5,hu=>simp[qX]at hu
 ·have q:=h1.kids.nss
  rw[e]at q;have eb:lh t=t.kids:=by unfold lh;rw[ho];simp[lu]
  rw[eb];exact q.mono (fun k z=>z.imp id (fun z=>(h2 k).2 (by omega)))
def OQ (w1:World) (nm:Nm) (LO:List NV) (ka:Option Addr) (kn kc on:Nat) (pa:Option Addr) (wx:World) (s:Value):Prop:=
 ∃o oa oc,s= .pointer (some ⟨o,0,none⟩)∧Below w1.heap.size w1 wx∧w1.heap.size≤o∧Blk wx o 116 (bM nm (ka,kn,kc) (oa,on,oc) (.pointer pa))∧ag 58 10 ae w1.heap.size wx (.slice oa on oc) LO∧(Value.slice oa on oc).ownBlock≠some o
theorem JD {X R:Nat→Prop} {w:World} {b:Nat} {t:Bt} (h:BM true X R w b t) (hU:U8 w) (hb:btl t≤50000):
  Calls Tryz.prog 31 #[dW b] w (JY t.nm (nu t) w):=by
 obtain⟨W1,hW1⟩: ∃W,W=w.alloc (.cells ([.string ⟨#[]⟩,.string ⟨#[]⟩,.string ⟨#[]⟩,.string ⟨#[]⟩,.slice none 0 0]:List Value).toArray 38):=⟨_,rfl⟩;have b1:Below w.heap.size w W1:=by rw[hW1];exact af _ _
 have kr:Blk W1 w.heap.size 38 [.string ⟨#[]⟩,.string ⟨#[]⟩,.string ⟨#[]⟩,.string ⟨#[]⟩,.slice none 0 0]:=by rw[hW1];exact O9 w _
 have hlt:=h.lt;have hB1:=h.keep (Kp.below b1 (fun k q=>hlt k (.inl q))) (Kp.below b1 (fun k q=>hlt k (.inr q))) b1.size;have hlt1:=hB1.lt;have hsm:=eO hb;obtain⟨ka,kc,oa,oc,pa,LO,c0,c1,c2,c3,c4,c5,c6,hkc,hLl,hLv,hLk,hCP⟩:=hB1.copy;have HCL:=zH (fun W (hW:Below W1.heap.size W1 W)=>uJ LO _ W (Fs.below hLv hW) (by omega));have HCP:=zH hCP;have HLL:=zH hLl;have HLK:=zH hLk;have HU:Hid (∀W,Below w.heap.size w W→U8 W):=zH (fun W hW=>hU.below hW);have hz1:W1.heap.size=w.heap.size+1:=by rw[hW1,Pf]
 have HB1:=zH b1;have HKR:=zH kr;have HW1:=zH hW1;have HZ1:=zH hz1;have hbe:=eP t;have HBE:Hid (btl (bH t)≤50003):=zH (by omega);have HBT:Hid (btl t≤50000):=zH hb;obtain⟨kn,hkn⟩: ∃n,t.kids.length=n:=⟨_,rfl⟩;obtain⟨on,hon⟩: ∃n,t.opn.length=n:=⟨_,rfl⟩;obtain⟨nm,hnm⟩: ∃n,t.nm=n:=⟨_,rfl⟩;rw[hkn]at c4 HCP hkc;rw[hon]at c5 HCL HCP HLL;rw[hnm]at c0 c1 c2 c3 HCP ⊢;have HON:=zH hon;have HNM:=zH hnm;have hon9:on≤50000:=by omega
 have hblt:b<W1.heap.size:=hB1.lt b (.inl hB1.self);have HLT:Hid (∀k,(R k∨X k)→k<W1.heap.size):=zH (fun k q=>hlt1 k q.symm);clear h hU hb hW1 b1 kr hlt hB1 hlt1 hsm hCP hLl hLv hLk hz1 hbe hkn hon hnm;go_enter Tryz.func31,Tryz.ntmps31
 go_upto_region 1 with fail
 rw[←HW1.out];clear HW1;go_upto_region 3 with fail
 go_cut [3] (fun s wx=>OQ W1 nm LO ka kn kc on pa wx s)
 case first=>
  have HSX:Hid (∀W:World,Below W1.heap.size W1 W→W.cell? ⟨b,0,none⟩=some (.string ⟨nm.a.toArray⟩)∧W.cell? ⟨b,1,none⟩=some (.string ⟨nm.b.toArray⟩)∧W.cell? ⟨b,2,none⟩=some (.string ⟨nm.c.toArray⟩)∧W.cell? ⟨b,3,none⟩=some (.string ⟨nm.d.toArray⟩)∧W.cell? ⟨b,4,none⟩=some (.slice ka kn kc)∧W.cell? ⟨b,5,none⟩=some (.slice oa on oc)∧W.cell? ⟨b,6,none⟩=some (.pointer pa)):=zH (fun W hW=>⟨aD hW c0,aD hW c1,aD hW c2,aD hW c3,aD hW c4,aD hW c5,aD hW c6⟩);refine wp_region_held_drew (S:=(fun W'=>W'.cell? ⟨b,0,none⟩=some (.string ⟨nm.a.toArray⟩)∧W'.cell? ⟨b,1,none⟩=some (.string ⟨nm.b.toArray⟩)∧W'.cell? ⟨b,2,none⟩=some (.string ⟨nm.c.toArray⟩)∧W'.cell? ⟨b,3,none⟩=some (.string ⟨nm.d.toArray⟩)∧W'.cell? ⟨b,4,none⟩=some (.slice ka kn kc)∧W'.cell? ⟨b,5,none⟩=some (.slice oa on oc)∧W'.cell? ⟨b,6,none⟩=some (.pointer pa))) (by kernel_rfl) ?_ (fun hHeld=>?_)
  ·exact HSX.out _ (OX W1.heap.size W1).drew
  refine zK (i:=0) (v:=dW b) rfl ?_;simp only[zT,zS,zZ,Act.put,yT,yZ,yS];refine zK (i:=1) (v:=dW b) rfl ?_;simp only[zT,zS,zZ,Act.put,yT,yZ,yS];refine zK (i:=2) (v:= .pointer (some ⟨b,0,none⟩)) rfl ?_;simp only[zT,zS,zZ,Act.put,yT,yZ,yS];refine zK (i:=3) (v:= .agg #[.string ⟨nm.a.toArray⟩,.string ⟨nm.b.toArray⟩,.string ⟨nm.c.toArray⟩,.string ⟨nm.d.toArray⟩,.slice ka kn kc]) rfl ?_;simp only[zT,zS,zZ,Act.put,yT,yZ,yS];refine zK (i:=4) (v:=dW b) rfl ?_;simp only[zT,zS,zZ,Act.put,yT,yZ,yS];refine zK (i:=5) (v:=dW b) rfl ?_;simp only[zT,zS,zZ,Act.put,yT,yZ,yS];refine zK (i:=6) (v:= .pointer (some ⟨b,5,none⟩)) rfl ?_;simp only[zT,zS,zZ,Act.put,yT,yZ,yS];refine zK (i:=7) (v:= .slice oa on oc) rfl ?_;simp only[zT,zS,zZ,Act.put,yT,yZ,yS];refine zK (i:=9) (v:=dW b) rfl ?_;simp only[zT,zS,zZ,Act.put,yT,yZ,yS];refine zK (i:=10) (v:=dW b) rfl ?_;simp only[zT,zS,zZ,Act.put,yT,yZ,yS];refine zK (i:=11) (v:= .pointer (some ⟨b,6,none⟩)) rfl ?_;simp only[zT,zS,zZ,Act.put,yT,yZ,yS];refine zK (i:=12) (v:= .pointer pa) rfl ?_;simp only[zT,zS,zZ,Act.put,yT,yZ,yS];refine wpAnyH_ready (rs:=[8,14]) (by kernel_rfl) (by simp) ?_;refine AllReadyH.cons rfl (fun K hK=>?_) (AllReadyH.cons rfl (fun K hK=>?_) AllReadyH.nil)
  ·try simp only[zT,zS,zZ]
   go_simp;go_at_call 61
   refine(HCL.out _ (OX W1.heap.size W1).drew).mono ?_;rintro e w2 ⟨u,rfl,ho,hb2⟩;obtain⟨ob,oc',rfl⟩:=(ag.sl ay ho).len;rw[HLL.out]at ho ⊢;have hbx:Below W1.heap.size W1 w2:=(OX W1.heap.size W1).drew.trans hb2;have HBX:=zH hbx;have ho':ag 58 10 ae W1.heap.size w2 (.slice ob on oc') LO:=ho;have HO:=zH ho';clear ho ho' hb2 hbx;go_wp2_with fail
   refine hK.out _ _ ?_ (fun hHeld=>?_)
   ·exact HSX.out _ HBX.out
   clear hK K
   try simp only[zT,zS,zZ,Act.put,yT,yZ,yS]
   refine zK (i:=13) (v:= .agg #[.string ⟨nm.a.toArray⟩,.string ⟨nm.b.toArray⟩,.string ⟨nm.c.toArray⟩,.string ⟨nm.d.toArray⟩,.slice ka kn kc,.slice ob on oc',.pointer pa]) rfl ?_;simp only[zT,zS,zZ,Act.put,yT,yZ,yS];refine wpAnyH_ready (rs:=[14]) (by kernel_rfl) (by simp) ?_;refine AllReadyH.cons rfl (fun K hK=>?_) AllReadyH.nil
   try simp only[zT,zS,zZ]
   go_simp;refine hK.out _ _ ?_ (fun hHeld=>?_)
   ·exact HSX.out _ (HBX.out.trans ((af w2 _).mono HBX.out.size))
   clear hK K
   try simp only[zT,zS,zZ,Act.put,yT,yZ,yS]
   have kz:Blk (w2.alloc (.cells #[.string ⟨#[]⟩,.string ⟨#[]⟩,.string ⟨#[]⟩,.string ⟨#[]⟩,.slice none 0 0,.slice none 0 0,.pointer none] 116)) w2.heap.size 116 [.string ⟨#[]⟩,.string ⟨#[]⟩,.string ⟨#[]⟩,.string ⟨#[]⟩,.slice none 0 0,.slice none 0 0,.pointer none]:=O9 w2 _;have z0:=kz.cell 0;have z1:=kz.cell 1;have z2:=kz.cell 2;have z3:=kz.cell 3;have z4:=kz.cell 4;have z5:=kz.cell 5;have z6:=kz.cell 6;simp only[OY,OZ]at z0 z1 z2 z3 z4 z5 z6;have g0:(w2.alloc (.cells #[.string ⟨#[]⟩,.string ⟨#[]⟩,.string ⟨#[]⟩,.string ⟨#[]⟩,.slice none 0 0,.slice none 0 0,.pointer none] 116)).frozen? ⟨w2.heap.size,0,none⟩=false:=kz.frozen (by simp);have g1:(w2.alloc (.cells #[.string ⟨#[]⟩,.string ⟨#[]⟩,.string ⟨#[]⟩,.string ⟨#[]⟩,.slice none 0 0,.slice none 0 0,.pointer none] 116)).frozen? ⟨w2.heap.size,1,none⟩=false:=kz.frozen (by simp);have g2:(w2.alloc (.cells #[.string ⟨#[]⟩,.string ⟨#[]⟩,.string ⟨#[]⟩,.string ⟨#[]⟩,.slice none 0 0,.slice none 0 0,.pointer none] 116)).frozen? ⟨w2.heap.size,2,none⟩=false:=kz.frozen (by simp);have g3:(w2.alloc (.cells #[.string ⟨#[]⟩,.string ⟨#[]⟩,.string ⟨#[]⟩,.string ⟨#[]⟩,.slice none 0 0,.slice none 0 0,.pointer none] 116)).frozen? ⟨w2.heap.size,3,none⟩=false:=kz.frozen (by simp);have g4:(w2.alloc (.cells #[.string ⟨#[]⟩,.string ⟨#[]⟩,.string ⟨#[]⟩,.string ⟨#[]⟩,.slice none 0 0,.slice none 0 0,.pointer none] 116)).frozen? ⟨w2.heap.size,4,none⟩=false:=kz.frozen (by simp);have g5:(w2.alloc (.cells #[.string ⟨#[]⟩,.string ⟨#[]⟩,.string ⟨#[]⟩,.string ⟨#[]⟩,.slice none 0 0,.slice none 0 0,.pointer none] 116)).frozen? ⟨w2.heap.size,5,none⟩=false:=kz.frozen (by simp);have g6:(w2.alloc (.cells #[.string ⟨#[]⟩,.string ⟨#[]⟩,.string ⟨#[]⟩,.string ⟨#[]⟩,.slice none 0 0,.slice none 0 0,.pointer none] 116)).frozen? ⟨w2.heap.size,6,none⟩=false:=kz.frozen (by simp);have hws:=HBX.out.size;have hbz:Below W1.heap.size W1 (w2.alloc (.cells #[.string ⟨#[]⟩,.string ⟨#[]⟩,.string ⟨#[]⟩,.string ⟨#[]⟩,.slice none 0 0,.slice none 0 0,.pointer none] 116)):=HBX.out.trans ((af w2 _).mono hws);have HBL:Hid (Below W1.heap.size W1 (w2.alloc (.cells #[.string ⟨nm.a.toArray⟩,.string ⟨nm.b.toArray⟩,.string ⟨nm.c.toArray⟩,.string ⟨nm.d.toArray⟩,.slice ka kn kc,.slice ob on oc',.pointer pa] 116))):=zH (HBX.out.trans ((af w2 _).mono hws));have HKB:Hid (Blk (w2.alloc (.cells #[.string ⟨nm.a.toArray⟩,.string ⟨nm.b.toArray⟩,.string ⟨nm.c.toArray⟩,.string ⟨nm.d.toArray⟩,.slice ka kn kc,.slice ob on oc',.pointer pa] 116)) w2.heap.size 116 [.string ⟨nm.a.toArray⟩,.string ⟨nm.b.toArray⟩,.string ⟨nm.c.toArray⟩,.string ⟨nm.d.toArray⟩,.slice ka kn kc,.slice ob on oc',.pointer pa]):=zH (O9 w2 _);have HOW:Hid (ag 58 10 ae W1.heap.size (w2.alloc (.cells #[.string ⟨nm.a.toArray⟩,.string ⟨nm.b.toArray⟩,.string ⟨nm.c.toArray⟩,.string ⟨nm.d.toArray⟩,.slice ka kn kc,.slice ob on oc',.pointer pa] 116)) (.slice ob on oc') LO):=zH (HO.out.kp (fun k e=>Ql w2 _ (HO.out.ltb e)))
   have HNE:Hid ((Value.slice ob on oc').ownBlock≠some w2.heap.size):=zH (fun e=>by have:=HO.out.ltb e;omega);have HWS:=zH hws;clear kz hbz hws;refine wpAnyH_ready (rs:=[15]) (by kernel_rfl) (by simp) ?_;refine AllReadyH.cons rfl (fun K hK=>?_) AllReadyH.nil
   try simp only[zT,zS,zZ]
   go_simp;refine hK.out _ _ ?_ (fun hHeld=>?_)
   ·exact HSX.out _ HBL.out
   clear hK K
   try simp only[zT,zS,zZ,Act.put,yT,yZ,yS]
   refine PK (by kernel_rfl) ?_ _;go_wp2_with fail
   go_meet
   exact⟨_,_,_,rfl,HBL.out,HWS.out,HKB.out,HOW.out,HNE.out⟩
  ·try simp only[zT,zS,zZ]
   go_simp;refine hK.out _ _ ?_ (fun hHeld=>?_)
   ·exact HSX.out _ (af W1 _).drew
   clear hK K
   try simp only[zT,zS,zZ,Act.put,yT,yZ,yS]
   refine wpAnyH_ready (rs:=[8]) (by kernel_rfl) (by simp) ?_;refine AllReadyH.cons rfl (fun K hK=>?_) AllReadyH.nil
   try simp only[zT,zS,zZ]
   go_simp;go_at_call 61
   refine(HCL.out (W1.alloc (.cells #[.string ⟨#[]⟩,.string ⟨#[]⟩,.string ⟨#[]⟩,.string ⟨#[]⟩,.slice none 0 0,.slice none 0 0,.pointer none] 116)).drew (af W1 _).drew).mono ?_;rintro e w2 ⟨u,rfl,ho,hb2⟩;obtain⟨ob,oc',rfl⟩:=(ag.sl ay ho).len;rw[HLL.out]at ho ⊢;have hz:(W1.alloc (.cells #[.string ⟨#[]⟩,.string ⟨#[]⟩,.string ⟨#[]⟩,.string ⟨#[]⟩,.slice none 0 0,.slice none 0 0,.pointer none] 116)).drew.heap.size=W1.heap.size+1:=Pf _ _;have kz:Blk w2 W1.heap.size 116 [.string ⟨#[]⟩,.string ⟨#[]⟩,.string ⟨#[]⟩,.string ⟨#[]⟩,.slice none 0 0,.slice none 0 0,.pointer none]:=Blk.below (W:=(W1.alloc (.cells #[.string ⟨#[]⟩,.string ⟨#[]⟩,.string ⟨#[]⟩,.string ⟨#[]⟩,.slice none 0 0,.slice none 0 0,.pointer none] 116)).drew) (O9 W1 _) hb2;have hbx:Below W1.heap.size W1 w2:=(af W1 (.cells #[.string ⟨#[]⟩,.string ⟨#[]⟩,.string ⟨#[]⟩,.string ⟨#[]⟩,.slice none 0 0,.slice none 0 0,.pointer none] 116)).drew.trans (hb2.mono (by rw[hz];omega));have HBX:=zH hbx;have ho':ag 58 10 ae (W1.heap.size+1) w2 (.slice ob on oc') LO:=by rw[←hz];exact ho
   have HO:=zH ho';have z0:=kz.cell 0;have z1:=kz.cell 1;have z2:=kz.cell 2;have z3:=kz.cell 3;have z4:=kz.cell 4;have z5:=kz.cell 5;have z6:=kz.cell 6;simp only[OY,OZ]at z0 z1 z2 z3 z4 z5 z6;have g0:w2.frozen? ⟨W1.heap.size,0,none⟩=false:=kz.frozen (by simp);have g1:w2.frozen? ⟨W1.heap.size,1,none⟩=false:=kz.frozen (by simp);have g2:w2.frozen? ⟨W1.heap.size,2,none⟩=false:=kz.frozen (by simp);have g3:w2.frozen? ⟨W1.heap.size,3,none⟩=false:=kz.frozen (by simp);have g4:w2.frozen? ⟨W1.heap.size,4,none⟩=false:=kz.frozen (by simp);have g5:w2.frozen? ⟨W1.heap.size,5,none⟩=false:=kz.frozen (by simp);have g6:w2.frozen? ⟨W1.heap.size,6,none⟩=false:=kz.frozen (by simp);have HBL:Hid (Below W1.heap.size W1 (((((((w2.setCell ⟨W1.heap.size,0,none⟩ (.string ⟨nm.a.toArray⟩)).setCell ⟨W1.heap.size,1,none⟩ (.string ⟨nm.b.toArray⟩)).setCell ⟨W1.heap.size,2,none⟩ (.string ⟨nm.c.toArray⟩)).setCell ⟨W1.heap.size,3,none⟩ (.string ⟨nm.d.toArray⟩)).setCell ⟨W1.heap.size,4,none⟩ (.slice ka kn kc)).setCell ⟨W1.heap.size,5,none⟩ (.slice ob on oc')).setCell ⟨W1.heap.size,6,none⟩ (.pointer pa))):=zH ((((((((hbx.setCell (OW _) _).setCell (OW _) _).setCell (OW _) _).setCell (OW _) _).setCell (OW _) _).setCell (OW _) _).setCell (OW _) _));have HKB:Hid (Blk (((((((w2.setCell ⟨W1.heap.size,0,none⟩ (.string ⟨nm.a.toArray⟩)).setCell ⟨W1.heap.size,1,none⟩ (.string ⟨nm.b.toArray⟩)).setCell ⟨W1.heap.size,2,none⟩ (.string ⟨nm.c.toArray⟩)).setCell ⟨W1.heap.size,3,none⟩ (.string ⟨nm.d.toArray⟩)).setCell ⟨W1.heap.size,4,none⟩ (.slice ka kn kc)).setCell ⟨W1.heap.size,5,none⟩ (.slice ob on oc')).setCell ⟨W1.heap.size,6,none⟩ (.pointer pa)) W1.heap.size 116 [.string ⟨nm.a.toArray⟩,.string ⟨nm.b.toArray⟩,.string ⟨nm.c.toArray⟩,.string ⟨nm.d.toArray⟩,.slice ka kn kc,.slice ob on oc',.pointer pa]):=zH ((((((((kz.set 0 _).set 1 _).set 2 _).set 3 _).set 4 _).set 5 _).set 6 _));have HOW:Hid (ag 58 10 ae W1.heap.size (((((((w2.setCell ⟨W1.heap.size,0,none⟩ (.string ⟨nm.a.toArray⟩)).setCell ⟨W1.heap.size,1,none⟩ (.string ⟨nm.b.toArray⟩)).setCell ⟨W1.heap.size,2,none⟩ (.string ⟨nm.c.toArray⟩)).setCell ⟨W1.heap.size,3,none⟩ (.string ⟨nm.d.toArray⟩)).setCell ⟨W1.heap.size,4,none⟩ (.slice ka kn kc)).setCell ⟨W1.heap.size,5,none⟩ (.slice ob on oc')).setCell ⟨W1.heap.size,6,none⟩ (.pointer pa)) (.slice ob on oc') LO):=zH (by
    refine(HO.out.kp (fun k e=>?_)).mono (QV _);have hk:=(HO.out.ty e).1;have hne:k≠W1.heap.size:=by omega
    simp only[O8 _ (⟨W1.heap.size,_,none⟩:Addr) _ k hne])
   have HNE:Hid ((Value.slice ob on oc').ownBlock≠some W1.heap.size):=zH (fun e=>by have:=(HO.out.ty e).1;omega);clear ho ho' hb2 hbx kz hz;go_wp2_with fail
   refine hK.out _ _ ?_ (fun hHeld=>?_)
   ·exact HSX.out _ HBX.out
   clear hK K
   try simp only[zT,zS,zZ,Act.put,yT,yZ,yS]
   refine zK (i:=13) (v:= .agg #[.string ⟨nm.a.toArray⟩,.string ⟨nm.b.toArray⟩,.string ⟨nm.c.toArray⟩,.string ⟨nm.d.toArray⟩,.slice ka kn kc,.slice ob on oc',.pointer pa]) rfl ?_;simp only[zT,zS,zZ,Act.put,yT,yZ,yS];refine wpAnyH_ready (rs:=[15]) (by kernel_rfl) (by simp) ?_;refine AllReadyH.cons rfl (fun K hK=>?_) AllReadyH.nil
   try simp only[zT,zS,zZ]
   go_simp;refine hK.out _ _ ?_ (fun hHeld=>?_)
   ·exact HSX.out _ HBL.out
   clear hK K
   try simp only[zT,zS,zZ,Act.put,yT,yZ,yS]
   refine PK (by kernel_rfl) ?_ _;go_wp2_with fail
   go_meet
   exact⟨_,_,_,rfl,HBL.out,OW _,HKB.out,HOW.out,HNE.out⟩
 case rest=>
 obtain⟨o,ob,oc',rfl,hbx,ho,hbox,hown,hne⟩:=hcut;obtain⟨W2,hW2⟩: ∃W,wc=W:=⟨_,rfl⟩;rw[hW2]at hbx hbox hown ⊢;clear hW2 c0 c1 c2 c3 c4 c5 c6 HCL;have d4:=hbox.cell 4;have f4:W2.frozen? ⟨o,4,none⟩=false:=hbox.frozen (by simp[bM]);simp only[bM,pv,OY,OZ]at d4;have HC4:=zH (wP ka kn kc hkc W2);have box2:=hbox.set 4 (.slice ka kn kn);have eb:(bM nm (ka,kn,kc) (ob,on,oc') (.pointer pa)).set 4 (.slice ka kn kn)=bM nm (ka,kn,kn) (ob,on,oc') (.pointer pa):=rfl;rw[eb]at box2;obtain⟨W3,hW3⟩: ∃W,W2.setCell ⟨o,4,none⟩ (.slice ka kn kn)=W:=⟨_,rfl⟩;have HBX:Hid (Below W1.heap.size W1 W3):=zH (by rw[←hW3];exact hbx.setCell ho _);have HBOX:Hid (Blk W3 o 116 (bM nm (ka,kn,kn) (ob,on,oc') (.pointer pa))):=zH (by rw[←hW3];exact box2);have HOWN:Hid (ag 58 10 ae W1.heap.size W3 (.slice ob on oc') (fM 0 LO)):=zH (by
  rw[AQ];refine hown.kp (fun k e=>?_);rw[←hW3];exact O8 _ ⟨o,4,none⟩ _ k (fun e2=>hne (by have e3:k=o:=e2;rw[←e3];exact e)))
 have HNE:=zH hne;have HO:=zH ho;have HW3:=zH hW3;have z5:=HBOX.out.cell 5;simp only[bM,pv,OY,OZ]at z5;clear hbx hbox hown hne box2 eb hW3;go_wp2_with fail
 refine HC4.out.mono ?_;rintro e w4 ⟨rfl,rfl⟩;clear HC4;go_upto_region 5 with fail
 rw[HW3.out];clear HW3 d4 f4;go_wp2_with fail
 go_loopw [4,5,32] (fun _ _ i wr=> ∃j:Nat,j≤on∧i= .int .i64 (j:Int)∧Hid (Below W1.heap.size W1 wr)∧Hid (Blk wr o 116 (bM nm (ka,kn,kn) (ob,on,oc') (.pointer pa)))∧Hid (ag 58 10 ae W1.heap.size wr (.slice ob on oc') (fM j LO))) (fun _ _ i _=>on-(intOf i).toNat)
 case atStart=>exact⟨0,by omega,rfl,HBX,HBOX,HOWN⟩
 case round=>
  obtain⟨j,hj,rfl,HBW,HBB,HOO⟩:=hrel;clear HBX HBOX HOWN z5
  by_cases hlt:j<on
  ·obtain⟨x,hx⟩: ∃x,LO[j]? =some x:=⟨LO[j]'(by rw[HLL.out];exact hlt),OU _⟩
   have hxk:=HLK.out j x hx;have hxj:=Gr hx;have hxs:=CW hx;obtain⟨g,c,e,hgc,hg,cur,hcur,-⟩:=HOO.out.place ay (by rw[CX,HLL.out];omega);injection e with e1 e2 e3
   subst e1 e3;have hoo:=HOO.out;have hgl:g<wr.heap.size:=hoo.ltb rfl;have hgo:g≠o:=fun e=>HNE.out (by rw[e];rfl)
   have hcel: ∀(i:Nat) u,(ae x)[i]? =some u→wr.cell? ⟨g,j*10+i,none⟩=some u∧wr.frozen? ⟨g,j*10+i,none⟩=false:=fun i u hu=>hoo.slotA ay hxj hu
   obtain⟨V1,hV1⟩: ∃W,W=wr.alloc (.cells (ae x).toArray 58):=⟨_,rfl⟩;have hbV:Below wr.heap.size wr V1:=by rw[hV1];exact af _ _
   have kV:Blk V1 wr.heap.size 58 (ae x):=by rw[hV1];exact O9 wr _
   have boxV:=HBB.out.below hbV;have jZ:=hoo.kp (W':=V1) (fun k e=>hbV.block k (hoo.ltb e));have own2:=jZ.set1 ay (s':=pG x) hxj (i:=4) (u:= .slice x.kids.1 x.kids.2.1 x.kids.2.1) (by decide) rfl;rw[hxs]at own2;have z5:=boxV.cell 5;simp only[bM,pv,OY,OZ]at z5;have x5:=HBB.out.cell 5;simp only[bM,pv,OY,OZ]at x5;have v4:=kV.cell 4;have g4:V1.cell? ⟨g,j*10+4,none⟩=some (pv x.kids):=aD hbV (hcel 4 _ rfl).1;have e4:V1.frozen? ⟨g,j*10+4,none⟩=false:=(hbV.frozen (p:=⟨g,j*10+4,none⟩) hgl).trans (hcel 4 _ rfl).2;have HN1:Hid (Below W1.heap.size W1 (V1.drew.setCell ⟨g,j*10+4,none⟩ (.slice x.kids.1 x.kids.2.1 x.kids.2.1))):=zH ((HBW.out.trans (hbV.mono HBW.out.size)).drew.setCell hg _);have HN2:Hid (Blk (V1.drew.setCell ⟨g,j*10+4,none⟩ (.slice x.kids.1 x.kids.2.1 x.kids.2.1)) o 116 (bM nm (ka,kn,kn) (some ⟨g,0,none⟩,on,oc') (.pointer pa))):=zH (Blk.other (W:=V1.drew) boxV (fun e=>hgo e.symm) _ _);have HN3:Hid (ag 58 10 ae W1.heap.size (V1.drew.setCell ⟨g,j*10+4,none⟩ (.slice x.kids.1 x.kids.2.1 x.kids.2.1)) (.slice (some ⟨g,0,none⟩) on oc') (fM (j+1) LO)):=zH (own2.kp (fun k e=>rfl));have hi0:(j:Int)<(on:Int):=by omega
   have hi1:(0:Int)≤(j:Int):=by omega
   obtain⟨xk,xl,xn,⟨t1,t2,t3⟩,⟨k1,k2,k3⟩,⟨r1,r2,r3⟩,xc,⟨q1,q2,q3⟩,xb,xa⟩:=x;simp only[ae,pv,OY,OZ]at hcel hV1 kV v4 g4 HN1 HN2 HN3 hxk;have HC:=zH (wP k1 k2 k3 hxk V1.drew);have s0:=(hcel 0 _ rfl).1;have s1:=(hcel 1 _ rfl).1;have s2:=(hcel 2 _ rfl).1;have s3:=(hcel 3 _ rfl).1;have s4:=(hcel 4 _ rfl).1;have s5:=(hcel 5 _ rfl).1;have s6:=(hcel 6 _ rfl).1;have s7:=(hcel 7 _ rfl).1;have s8:=(hcel 8 _ rfl).1;have s9:=(hcel 9 _ rfl).1
   try simp only[PW]at s0
   have HV1:=zH hV1;have HVO:Hid (wr.heap.size≠g∧o≠g):=zH ⟨by omega,fun e=>hgo e.symm⟩;clear hx hxk hxj hxs hgc hg hcur hoo hgl hgo hcel hbV kV boxV jZ own2 hV1 HBW HBB HOO e2;go_upto_region 8 with fail
   rw[←HV1.out];clear HV1 x5 s0 s1 s2 s3 s4 s5 s6 s7 s8 s9;refine wp_region_held_drew (S:=(fun W'=>W'.cell? ⟨o,5,none⟩=some (.slice (some ⟨g,0,none⟩) on oc')∧W'.cell? ⟨wr.heap.size,4,none⟩=some (.slice k1 k2 k3))) (by kernel_rfl) ?_ (fun hHeld=>?_)
   ·exact⟨z5,v4⟩
   refine zK (i:=0) (v:= .pointer (some ⟨o,5,none⟩)) rfl ?_;simp only[zT,zS,zZ,Act.put,yT,yZ,yS];refine zK (i:=1) (v:= .slice (some ⟨g,0,none⟩) on oc') rfl ?_;simp only[zT,zS,zZ,Act.put,yT,yZ,yS];refine zK (i:=2) (v:= .int .i64 (j:Int)) rfl ?_;simp only[zT,zS,zZ,Act.put,yT,yZ,yS];refine zK (i:=3) (v:= .pointer (some ⟨wr.heap.size,4,none⟩)) rfl ?_;simp only[zT,zS,zZ,Act.put,yT,yZ,yS];refine zK (i:=4) (v:= .slice k1 k2 k3) rfl ?_;simp only[zT,zS,zZ,Act.put,yT,yZ,yS];refine wpAnyH_ready (rs:=[5]) (by kernel_rfl) (by simp) ?_;refine AllReadyH.cons rfl (fun K hK=>?_) AllReadyH.nil
   try simp only[zT,zS,zZ]
   go_simp;go_at_call 62
   refine HC.out.mono ?_;rintro e w6 ⟨rfl,rfl⟩;go_wp2_with fail
   refine hK.out _ _ ?_ (fun hHeld=>?_)
   ·exact⟨z5,v4⟩
   clear hK K
   try simp only[zT,zS,zZ,Act.put,yT,yZ,yS]
   refine zK (i:=6) (v:= .pointer (some ⟨g,j*10,none⟩)) rfl ?_;simp only[zT,zS,zZ,Act.put,yT,yZ,yS];refine zK (i:=7) (v:= .pointer (some ⟨g,j*10+4,none⟩)) rfl ?_;simp only[zT,zS,zZ,Act.put,yT,yZ,yS];refine wpAnyH_ready (rs:=[8]) (by kernel_rfl) (by simp) ?_;refine AllReadyH.cons rfl (fun K hK=>?_) AllReadyH.nil
   try simp only[zT,zS,zZ]
   go_simp;refine hK.out _ _ ?_ (fun hHeld=>?_)
   ·exact⟨(aR (O8 V1 ⟨g,_,none⟩ _ o (fun e=>HVO.out.2 e))).trans z5,(aR (O8 V1 ⟨g,_,none⟩ _ wr.heap.size (fun e=>HVO.out.1 e))).trans v4⟩
   clear hK K
   try simp only[zT,zS,zZ,Act.put,yT,yZ,yS]
   refine PK (by kernel_rfl) ?_ _;go_wp2_with fail
   go_roundw
   case rel=>exact⟨j+1,by omega,by go_num,HN1,HN2,HN3⟩
   case measure=>(simp[intOf];try omega)
  ·obtain rfl:j=on:=by omega
   have hlt': ¬(j:Int)<(j:Int):=by omega
   have hoo:=HOO.out;rw[←HLL.out,CY,HLL.out]at hoo;obtain⟨X2,hB2,hX2⟩:=HCP.out wr o ob oc' HBW.out HO.out HBB.out hoo HNE.out;have HEN:=zH (jQ hB2 (by have:=HBT.out;omega));have HW1R:=zH HBW.out;have HX2:=zH hX2;clear hoo hB2 hX2 HBW HBB HOO;go_wp2_with fail
   refine HEN.out.mono ?_;rintro e w5 ⟨rfl,X3,R3,hB3,hE3,hX3,hR3⟩;have HCT:=zH (kZ hB3 0 (by have:=HBE.out;omega) (by omega));simp only[Int.natCast_zero,Int.cast_ofNat_Int,Nat.sub_zero]at HCT;have HB5:Hid (Below W1.heap.size W1 w5∧wr.heap.size≤w5.heap.size):=zH ⟨HW1R.out.trans (hE3.below HW1R.out.size (fun k q z=>by have:=HX2.out k z;omega)),hE3.size⟩;have HX3:Hid (∀k,X3 k→W1.heap.size≤k):=zH (fun k q=>(hX3 k q).elim (HX2.out k) (fun z=>Pp HW1R.out.size z));clear hB3 hE3 hX3 hR3 HEN;go_wp2_with fail
   refine HCT.out.mono ?_;rintro e w6 ⟨rfl,X4,R4,hB4,hE4,hX4,hR4⟩;have hsp:=tC (bH t).opn.length (bH t);have hall:=zF (bH t).opn.length (bH t);have hnl:=tF (bH t).opn.length (bH t);have hbl:=tH (bH t).opn.length (bH t);obtain⟨tz,htz⟩: ∃q,jE (bH t).opn.length (bH t)=q:=⟨_,rfl⟩;rw[htz]at hB4 hsp hall hnl hbl;have hoz:tz.opn=[]:=PH (by omega);have hnz:tz.nm=nm:=by
    rw[hsp.1,←HNM.out];unfold bH l8
    split
    ·rfl
    ·exact(qb t _).1
   obtain⟨fa,fc,hcells,hns⟩:=hB4.fin hoz;rw[hnz]at hcells;have hb6:Below W1.heap.size W1 w6:=HB5.out.1.trans (hE4.below HB5.out.1.size (fun k q z=>by have:=HX3.out k z;omega));have hbw:Below w.heap.size w w6:=HB1.out.trans (hb6.mono HB1.out.size);have hlt4:=hB4.lt;have hdoc:nu t=qx (lh tz):=by unfold nu;rw[←hall]
   have hnlz:nlL (lh tz)≤60000:=by
    have h1:=Ep tz;have h2:=HBE.out;omega
   have HTD:=zH (EY (fun k=>R4 k∨X4 k) nm (lh tz) (.slice fa tz.kids.length fc) w6 (HU.out _ hbw) hnlz hns (fun k q=>hlt4 k q.symm));rw[←hdoc]at HTD;have kr:=HKR.out.below (W':=w6) (hb6.mono (OW _));have hwz:w.heap.size<W1.heap.size:=by rw[HZ1.out];omega
   have HKR6:=zH kr;have HBW6:=zH hbw;have x0:=hcells 0 _ rfl;have x1:=hcells 1 _ rfl;have x2:=hcells 2 _ rfl;have x3:=hcells 3 _ rfl;have x4:=hcells 4 _ rfl;obtain⟨tn,htn⟩: ∃n,tz.kids.length=n:=⟨_,rfl⟩;rw[htn]at HTD x4;unfold uC qX at HTD;clear hB4 hE4 hX4 hR4 hsp hall hnl hbl htz hoz hnz hcells hns hb6 hbw hlt4 hdoc hnlz kr htn HCT;go_wp2_with fail
   refine HTD.out.mono ?_;rintro e w7 ⟨⟨s1,s2,s3⟩,rfl,hs,hb7⟩;unfold uC qX;simp only[pv]at hs ⊢;have kr7:=HKR6.out.below hb7;have z0:=kr7.cell 0;have z1:=kr7.cell 1;have z2:=kr7.cell 2;have z3:=kr7.cell 3;have z4:=kr7.cell 4;simp only[OY,OZ]at z0 z1 z2 z3 z4;have f0:w7.frozen? ⟨w.heap.size,0,none⟩=false:=kr7.frozen (by simp);have f1:w7.frozen? ⟨w.heap.size,1,none⟩=false:=kr7.frozen (by simp);have f2:w7.frozen? ⟨w.heap.size,2,none⟩=false:=kr7.frozen (by simp);have f3:w7.frozen? ⟨w.heap.size,3,none⟩=false:=kr7.frozen (by simp);have f4:w7.frozen? ⟨w.heap.size,4,none⟩=false:=kr7.frozen (by simp);have hb7w:Below w.heap.size w w7:=HBW6.out.trans (hb7.mono HBW6.out.size);have hs67:=HBW6.out.size;have hs16:W1.heap.size≤w6.heap.size:=by have:=HKR6.out.lt;have:=HZ1.out;omega
   obtain⟨F,hF⟩: ∃F,((((w7.setCell ⟨w.heap.size,0,none⟩ (.string ⟨nm.a.toArray⟩)).setCell ⟨w.heap.size,1,none⟩ (.string ⟨nm.b.toArray⟩)).setCell ⟨w.heap.size,2,none⟩ (.string ⟨nm.c.toArray⟩)).setCell ⟨w.heap.size,3,none⟩ (.string ⟨nm.d.toArray⟩)).setCell ⟨w.heap.size,4,none⟩ (.slice s1 s2 s3)=F:=⟨_,rfl⟩;have kF:Blk F w.heap.size 38 [.string ⟨nm.a.toArray⟩,.string ⟨nm.b.toArray⟩,.string ⟨nm.c.toArray⟩,.string ⟨nm.d.toArray⟩,.slice s1 s2 s3]:=by
    rw[←hF];exact((((kr7.set 0 _).set 1 _).set 2 _).set 3 _).set 4 _
   have HFIN:Hid (JY nm (nu t) w (.returned (.agg #[.string ⟨nm.a.toArray⟩,.string ⟨nm.b.toArray⟩,.string ⟨nm.c.toArray⟩,.string ⟨nm.d.toArray⟩,.slice s1 s2 s3])) F):=zH (by
    have hFs:F.heap.size=w7.heap.size:=by rw[←hF];simp only[fF]
    refine⟨(s1,s2,s3),rfl,(hs.keep (fun k q=>?_)).mono (fun k q=>⟨by omega,by rw[hFs];exact q.2⟩),?_⟩
    ·have hne:k≠w.heap.size:=by have:=HKR6.out.lt;omega
     rw[←hF];simp only[O8 _ (⟨w.heap.size,_,none⟩:Addr) _ k hne]
    ·rw[←hF]
     exact((((hb7w.setCell (OW _) _).setCell (OW _) _).setCell (OW _) _).setCell (OW _) _).setCell (OW _) _)
   have HKF:=zH kF;have HFF:=zH hF;clear hs kr7 hb7 hb7w hs67 hs16 kF hF HTD x0 x1 x2 x3 x4;go_wp2_with fail
   rw[HFF.out];have e0:=HKF.out.cell 0;have e1:=HKF.out.cell 1;have e2:=HKF.out.cell 2;have e3:=HKF.out.cell 3;have e4:=HKF.out.cell 4;simp only[OY,OZ]at e0 e1 e2 e3 e4;refine Pq (v:= .agg #[.string ⟨nm.a.toArray⟩,.string ⟨nm.b.toArray⟩,.string ⟨nm.c.toArray⟩,.string ⟨nm.d.toArray⟩,.slice s1 s2 s3]) (by simp[results,Tryz.results31,go_sem,e0,e1,e2,e3,e4]) rfl ?_;exact HFIN.out
end
theorem Exc.exq {X:Nat→Prop} {w w':World} (h:Exc X w w'):Exq X w w':=⟨h.os,h.tape,h.output,h.size,h.block⟩
abbrev BIM:BIT:=fun X R w b t=>BM true X R w b t
theorem AfC.aft {X R S:Nat→Prop} {b:Nat} {t':Bt} {w w':World} (h:AfC true X R b t' w w'):Aft BIM X R S w b t' w':=by
 obtain⟨X',R',h1,h2,h3,h4⟩:=h;exact⟨X',R',h1,h2.exq,h3,fun k q=>(h4 k q).imp id (fun z=> .inr z)⟩
theorem Db:bI BIM U8 where
 lt:=fun h=>h.lt
 keep:=fun h hX hR hs=>h.keep hX hR hs
 sep:=fun h=>h.sep
 more:=fun h h1 h2=>BM.more h h1 h2
 new:=fun w=>(JC w).mono fun e w' ⟨h1,h2,h3⟩=>⟨_,_,h1,h2,h3,fun k q=>Q7 q.symm⟩
 title:=fun n0 n1 n2 n3 h _=>(Dc h ⟨n0,n1,n2,n3⟩).mono fun e w' ⟨h1,h2,h3⟩=>⟨h1,_,_,h2,h3.exq,fun k q=> .inl q,fun k q=> .inl q⟩
 opn:=fun h _ hx hS hb=>(Gx h hx hS (by omega)).mono fun e w' ⟨h1,h2⟩=>⟨h1,h2.aft⟩
 add:=fun h _ hx hS hb=>(JE h hx hS (by omega)).mono fun e w' ⟨h1,h2⟩=>⟨h1,h2.aft⟩
 close:=fun k h _ hb=>(Di h k (by omega)).mono fun e w' ⟨h1,h2⟩=>⟨h1,h2.aft⟩
 shut:=fun K h _ hv hS hK hb=>(Gw h K _ hv hS (by omega) (by omega)).mono fun e w' ⟨h1,h2⟩=>⟨h1,h2.aft⟩
 text:=fun g i h _ hv hS hb=>(Gv h g i hv hS (by omega)).mono fun e w' ⟨h1,h2⟩=>⟨h1,h2.aft⟩
 nd:=fun h _ hb=>(jQ h (by omega)).mono fun e w' ⟨h1,h2⟩=>⟨h1,h2.aft⟩
 depth:=fun h _=>(kY h).mono fun e w' ⟨h1,h2⟩=>⟨h1,by rw[←h2];exact OX _ _⟩
 doc:=fun h hT hb=>(JD h hT (by omega)).mono fun e w' ⟨s,h1,h2,h3⟩=>⟨s,h1,h2,h3⟩
 tb:=fun h hb=>h.below hb
end Go.Proofs.YtebabjnngdjceaaGreatDoor
