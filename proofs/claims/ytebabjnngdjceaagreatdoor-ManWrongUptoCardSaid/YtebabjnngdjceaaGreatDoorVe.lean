/- man.Inline. A table's re -/
import Derived.Test.YtebabjnngdjceaaGreatDoorVa
import Derived.Test.YtebabjnngdjceaaGreatDoorKH
set_option linter.unusedVariables false
set_option linter.unusedSimpArgs false
set_option maxRecDepth 100000
set_option maxHeartbeats 4000000
namespace Go.Proofs.YtebabjnngdjceaaGreatDoor
open Go.RowKit
structure iO (w:World)(x:RV)(r:aI):Prop where
 line:x.1=r.line
 mac:x.2.1=r.mac
 text:x.2.2.2=r.text
 args:Ss w (bE x.2.2.1) r.args
structure fJ (r:aI):Prop where
 text:r.text.length≤2000
 args:lnT r.args≤40000
 each:∀s∈r.args,s.length≤2000
theorem iO.below {w w':World}{x:RV}{r:aI}(h:iO w x r)(hb:Below w.heap.size w w'):iO w' x r:=⟨h.line,h.mac,h.text,h.args.below hb⟩
def fK (w:World)(r:aI)(e:Ending)(w':World):Prop:=
 ∃x d,e=.returned (.tuple #[x,d,.bool (fP r).isSome])∧aW w.heap.size w' x ((fP r).getD ([],[])).1∧bG w.heap.size w' d (aY r.line ((fP r).getD ([],[])).2)∧Below w.heap.size w w'
theorem sw {w w2 w3:World}{q:List Gly×List (Int×Int)}{ln:Int}{x d:Value}(h1:aW w.heap.size w2 x q.1)(h2:bG w.heap.size w2 d (bv q.2))(hb:Below w.heap.size w w2)(h3:bG w.heap.size w3 d (atL ln (bv q.2)))(hE:Exc (fun k=>d.ownBlock=some k) w2 w3):
  aW w.heap.size w3 x q.1∧bG w.heap.size w3 d (aY ln q.2)∧Below w.heap.size w w3:=by
 refine⟨h1.kp (fun k e=>hE.block k (h1.ltb e) (fun e2=>?_)),by rw[←MW];exact h3,hb.trans (hE.below hb.size (fun k hk e=>by have:=(h2.ty e).1;omega))⟩;rcases dO h1 h2 (by decide)with z | z
 ·rw[z]at e;cases e
 ·exact z (e.trans e2.symm)
theorem fK.none {w:World}{r:aI}(h:fP r=none){w':World}(hb:Below w.heap.size w w'):fK w r (.returned (.tuple #[.slice none 0 0,.slice none 0 0,.bool false])) w':=by
 refine⟨.slice .none 0 0,.slice .none 0 0,?_,?_,?_,hb⟩
 ·rw[h];rfl
 ·rw[h];exact ag.nil _ _
 ·rw[h];exact ag.nil _ _
theorem GH (ln:Int)(args:List Txt)(text:Txt)(av:Option Addr×Nat×Nat)(w:World)(ha:Ss w (bE av) args)(hl:fJ ⟨ln,[],args,text⟩):
  Calls Tryz.prog 15 #[.agg (ai (ln,[],av,text)).toArray] w (fK w ⟨ln,[],args,text⟩):=by
 obtain⟨W1,hW1⟩:∃W,w.alloc (.cells (ai (ln,[],av,text)).toArray 33)=W:=⟨_,rfl⟩;have b1:Below w.heap.size w W1:=by rw[←hW1];exact ae _ _
 have kx:Blk W1 w.heap.size 33 (ai (ln,[],av,text)):=by rw[←hW1];exact PK w _
 have hz1:=b1.size;obtain⟨q,hq⟩:∃q,lgF text=q:=⟨_,rfl⟩;have hin:fP ⟨ln,[],args,text⟩=some q:=by rw[←hq];rfl
 have hql:q.2.length≤80000:=by rw[←hq];have h1:=mY 0 text;have h2:=hl.text;simp only at h2;show(lgS 0 text).2.length≤_;omega
 have HC:Hid (∀V,Below W1.heap.size W1 V→Calls Tryz.prog 33 #[.agg #[.int .u8 0,.int .u8 0],.string ⟨text.toArray⟩] V fun e w'=> ∃x f1 f2 d,e=.returned (.tuple #[x,.agg #[.int .u8 f1,.int .u8 f2],d])∧w'.cell? ⟨w.heap.size,0,none⟩=some (.int .i64 ln)∧w'.cell? ⟨w.heap.size,2,none⟩=some (.slice av.1 av.2.1 av.2.2)∧Hid (aW w.heap.size w' x q.1∧bG w.heap.size w' d (bv q.2)∧Below w.heap.size w w')):=zH (fun V hV=>by
  have hb:=b1.trans (hV.mono hz1);refine(pu 0 0 text V hl.text).mono ?_;rintro e w' ⟨x,d,rfl,o1,o2,o3⟩;refine⟨x,_,_,d,rfl,(kx.below (hV.trans (o3.mono hV.size))).cell 0,(kx.below (hV.trans (o3.mono hV.size))).cell 2,zH ⟨?_,?_,hb.trans (o3.mono hb.size)⟩⟩
  ·rw[←hq];exact o1.mono hb.size
  ·rw[←hq]
   have:=yQ 0 text;rw[this]at o2;exact o2.mono hb.size)
 have HA:Hid (∀V d,bG w.heap.size V d (bv q.2)→Calls Tryz.prog 37 #[.int .i64 ln,d] V fun e w'=>e=.returned d∧bG w.heap.size w' d (atL ln (bv q.2))∧Exc (fun k=>d.ownBlock=some k) V w'):=zH (fun V d h=>rZ ln V h (by unfold bv;simp;omega));have HK:Hid (∀V,Below W1.heap.size W1 V→ ∀(i:Nat) u,(ai (ln,[],av,text))[i]? =some u→V.cell? ⟨w.heap.size,i,none⟩=some u):=zH (fun V hV i u hu=>by rw[(kx.below hV).cell i];exact hu);have HI:Hid (∀x d V,aW w.heap.size V x q.1→bG w.heap.size V d (aY ln q.2)→Below w.heap.size w V→fK w ⟨ln,[],args,text⟩ (.returned (.tuple #[x,d,.bool true])) V):=zH (fun x d V h1 h2 h3=>by
  unfold fK;rw[hin];exact⟨x,d,rfl,h1,h2,h3⟩)
 have x0:=kx.cell 0;have x1:=kx.cell 1;have x2:=kx.cell 2;have x3:=kx.cell 3;obtain⟨va,vn,vc⟩:=av;simp only[ai,bE,PD,PE]at hW1 HC HK HI x0 x1 x2 x3⊢;have HB1:=zH b1;clear ha hl b1 kx hz1 hq hin hql;go_enter Tryz.func15,Tryz.ntmps15
 go_wp2_with fail
 refine(HC.out W1 (PG _ _)).mono ?_;rintro e w2 ⟨x,f1,f2,d,rfl,hc0,hc2,HC2⟩;clear x0 x1 x2 x3 HC HK hc2;obtain⟨q1,q2,q3⟩:=HC2.out;have HA1:=zH (HA.out _ _ q2);have HFN:=zH (fun w3 h1 h2=>sw (w3:=w3) (ln:=ln) q1 q2 q3 h1 h2);clear q1 q2 q3 HC2 HA;go_wp2_with fail
 refine HA1.out.mono ?_;rintro e w4 ⟨rfl,m1,m2⟩;obtain⟨p1,p2,p3⟩:=HFN.out w4 m1 m2;have HI2:=zH (HI.out _ _ w4 p1 p2 p3);clear m1 m2 p1 p2 p3 HFN HA1 HI;go_wp2_with fail
 go_ret3;exact HI2.out
theorem QT5 {P:Prop}(h:P:=by
 simp only[zA,Act.put];refine Qd (by kernel_rfl) ?_ _;clear x0 x1 x2 x3 HC HK hc2 HSC HX;obtain⟨q1,q2,q3⟩:=HC2.out;have HA1:=zH (HA.out _ _ q2);have HFN:=zH (fun w3 h1 h2=>sw (w3:=w3) (ln:=ln) q1 q2 q3 h1 h2);clear q1 q2 q3 HC2 HA;go_wp2_with fail
 refine HA1.out.mono ?_;rintro e w4 ⟨rfl,m1,m2⟩;obtain⟨p1,p2,p3⟩:=HFN.out w4 m1 m2;have HI2:=zH (HI.out _ _ w4 p1 p2 p3);clear m1 m2 p1 p2 p3 HFN HA1 HI;go_wp2_with fail
 go_ret3;exact HI2.out):P:=h
theorem QT6 {P:Prop}(h:P:=by
 rintro e w' ⟨x,d,rfl,o1,o2,o3⟩;refine⟨x,d,rfl,(kx.below (hV.trans (o3.mono hV.size))).cell 0,(kx.below (hV.trans (o3.mono hV.size))).cell 2,zH ⟨?_,?_,hb.trans (o3.mono hb.size)⟩⟩
 ·rw[←hq];exact o1.mono hb.size
 ·rw[←hq];exact o2.mono hb.size):P:=h
theorem JA (c:UInt8)(a:Int)(ln:Int)(args:List Txt)(text:Txt)(av:Option Addr×Nat×Nat)(w:World)(ha:Ss w (bE av) args)(hl:fJ ⟨ln,[c],args,text⟩)(hi0:fP ⟨ln,[c],args,text⟩=some (dE a args))(hS1:∀w,Calls Tryz.prog 35 #[.int .u8 (c.toNat:Int)] w fun e w'=>e=.returned (.int .u8 a)∧w=w')(hc:[c]∈([[66],[73]]:List Txt)):
  Calls Tryz.prog 15 #[.agg (ai (ln,[c],av,text)).toArray] w (fK w ⟨ln,[c],args,text⟩):=by
 obtain⟨W1,hW1⟩:∃W,w.alloc (.cells (ai (ln,[c],av,text)).toArray 33)=W:=⟨_,rfl⟩;have b1:Below w.heap.size w W1:=by rw[←hW1];exact ae _ _
 have kx:Blk W1 w.heap.size 33 (ai (ln,[c],av,text)):=by rw[←hW1];exact PK w _
 have hz1:=b1.size;obtain⟨q,hq⟩:∃q,dE a args=q:=⟨_,rfl⟩;have hin:fP ⟨ln,[c],args,text⟩=some q:=by rw[←hq];exact hi0
 have hql:q.2.length≤80000:=by rw[←hq];have h1:=(eZ a args ([],[])).2;have h2:=hl.args;simp only[PQ]at h1 h2;rw[jr];unfold dI;omega
 have HC:Hid (∀V,Below W1.heap.size W1 V→Calls Tryz.prog 34 #[.int .u8 a,.slice av.1 av.2.1 av.2.2] V fun e w'=> ∃x d,e=.returned (.tuple #[x,d])∧w'.cell? ⟨w.heap.size,0,none⟩=some (.int .i64 ln)∧w'.cell? ⟨w.heap.size,2,none⟩=some (.slice av.1 av.2.1 av.2.2)∧Hid (aW w.heap.size w' x q.1∧bG w.heap.size w' d (bv q.2)∧Below w.heap.size w w')):=zH (fun V hV=>by
  have hb:=b1.trans (hV.mono hz1);refine(tJ a args (bE av) V (ha.below hb) hl.args hl.each).mono ?_;exact QT6)
 have HA:Hid (∀V d,bG w.heap.size V d (bv q.2)→Calls Tryz.prog 37 #[.int .i64 ln,d] V fun e w'=>e=.returned d∧bG w.heap.size w' d (atL ln (bv q.2))∧Exc (fun k=>d.ownBlock=some k) V w'):=zH (fun V d h=>rZ ln V h (by unfold bv;simp;omega));have HK:Hid (∀V,Below W1.heap.size W1 V→ ∀(i:Nat) u,(ai (ln,[c],av,text))[i]? =some u→V.cell? ⟨w.heap.size,i,none⟩=some u):=zH (fun V hV i u hu=>by rw[(kx.below hV).cell i];exact hu);have HI:Hid (∀x d V,aW w.heap.size V x q.1→bG w.heap.size V d (aY ln q.2)→Below w.heap.size w V→fK w ⟨ln,[c],args,text⟩ (.returned (.tuple #[x,d,.bool true])) V):=zH (fun x d V h1 h2 h3=>by
  unfold fK;rw[hin];exact⟨x,d,rfl,h1,h2,h3⟩)
 have x0:=kx.cell 0;have x1:=kx.cell 1;have x2:=kx.cell 2;have x3:=kx.cell 3;obtain⟨va,vn,vc⟩:=av;simp only[ai,bE,PD,PE]at hW1 HC HK HI x0 x1 x2 x3⊢;have HB1:=zH b1;have d0:([c]==([]:List UInt8))=false:=rfl;have HS1:=zH hS1;have hE:([c]==([66]:List UInt8))=true∨(([c]==([66]:List UInt8))=false∧([c]==([73]:List UInt8))=true):=by
  simp only[Qn,R7,and_true,Qs,Ri]at hc;rcases hc with rfl | rfl<;>decide
 clear hi0 hS1 hc;clear ha hl b1 kx hz1 hq hin hql;go_enter Tryz.func15,Tryz.ntmps15
 rcases hE with e0 | ⟨e0,e1⟩
 all_goals
  go_wp2_with fail
  have HSC:Hid (∀W,Below W1.heap.size W1 W→W.cell? ⟨w.heap.size,2,none⟩=some (.slice va vn vc)):=zH (fun W hW=>HK.out W hW 2 _ rfl);have HX:Hid (Below W1.heap.size W1 W1.drew):=zH (PG _ W1).drew;refine wp_region_held_drew (S:=(fun W=>W.cell? ⟨w.heap.size,2,none⟩=some (.slice va vn vc))) (by kernel_rfl) ?_ (fun hHeld=>?_)
  ·exact HSC.out _ HX.out
  refine zK (i:=0) (v:= .string ⟨#[c]⟩) rfl ?_;simp only[zA,Act.put];refine Qv (i:=1) (v:= .int .u8 (c.toNat:Int)) rfl (by kernel_rfl) (by kernel_rfl) (by kernel_rfl) (fun _ _ _ h=>h) (Or.inl ⟨by rfl,fun w' hSw=>by(try dsimp only at hSw);go_simp;try rfl⟩) (by assumption) ?_;simp only[zA,Act.put];refine zK (i:=3) (v:= .pointer (some ⟨w.heap.size,2,none⟩)) rfl ?_;simp only[zA,Act.put];refine zK (i:=4) (v:= .slice va vn vc) rfl ?_;simp only[zA,Act.put];refine wpAnyH_ready (rs:=[2]) (by kernel_rfl) (by simp) ?_;refine AllReadyH.cons rfl (fun K hK=>?_) AllReadyH.nil
  try simp only[zG]
  go_simp;go_at_call 35
  refine(HS1.out _).mono ?_;rintro e w7 ⟨rfl,rfl⟩;go_wp2_with fail
  refine hK.out _ _ ?_ (fun hHeld=>?_)
  ·exact HSC.out _ HX.out
  clear hK K
  try simp only[zA,Act.put]
  refine wpAnyH_ready (rs:=[5]) (by kernel_rfl) (by simp) ?_;refine AllReadyH.cons rfl (fun K hK=>?_) AllReadyH.nil
  try simp only[zG]
  go_simp;go_at_call 34
  refine(HC.out _ HX.out).mono ?_;rintro e w2 ⟨x,d,rfl,hc0,hc2,HC2⟩;go_wp2_with fail
  refine hK.out _ _ ?_ (fun hHeld=>?_)
  ·exact hc2
  clear hK K
  try simp only[zA,Act.put]
  refine zK (i:=6) (v:= .tuple #[x,d]) rfl ?_;simp only[zA,Act.put];refine zK (i:=7) (v:=x) rfl ?_;simp only[zA,Act.put];refine zK (i:=8) (v:=d) rfl ?_;simp only[zA,Act.put];refine zK (i:=9) (v:=x) rfl ?_;simp only[zA,Act.put];refine zK (i:=10) (v:=d) rfl ?_;exact QT5
theorem qp (c1 c2:UInt8)(a b:Int)(ln:Int)(args:List Txt)(text:Txt)(av:Option Addr×Nat×Nat)(w:World)(ha:Ss w (bE av) args)(hl:fJ ⟨ln,[c1,c2],args,text⟩)(hi0:fP ⟨ln,[c1,c2],args,text⟩=some (rG a b args))(hS1:∀w,Calls Tryz.prog 35 #[.int .u8 (c1.toNat:Int)] w fun e w'=>e=.returned (.int .u8 a)∧w=w')(hS2:∀w,Calls Tryz.prog 35 #[.int .u8 (c2.toNat:Int)] w fun e w'=>e=.returned (.int .u8 b)∧w=w')(hc:[c1,c2]∈([[66,73],[66,82],[73,66],[73,82],[82,66],[82,73]]:List Txt)):
  Calls Tryz.prog 15 #[.agg (ai (ln,[c1,c2],av,text)).toArray] w (fK w ⟨ln,[c1,c2],args,text⟩):=by
 obtain⟨W1,hW1⟩:∃W,w.alloc (.cells (ai (ln,[c1,c2],av,text)).toArray 33)=W:=⟨_,rfl⟩;have b1:Below w.heap.size w W1:=by rw[←hW1];exact ae _ _
 have kx:Blk W1 w.heap.size 33 (ai (ln,[c1,c2],av,text)):=by rw[←hW1];exact PK w _
 have hz1:=b1.size;obtain⟨q,hq⟩:∃q,rG a b args=q:=⟨_,rfl⟩;have hin:fP ⟨ln,[c1,c2],args,text⟩=some q:=by rw[←hq];exact hi0
 have hql:q.2.length≤80000:=by rw[←hq];have h1:=(mQ a b args 0).2;have h2:=hl.args;simp only at h2;rw[(oK args a b 0).1 rfl];omega
 have HC:Hid (∀V,Below W1.heap.size W1 V→Calls Tryz.prog 36 #[.int .u8 a,.int .u8 b,.slice av.1 av.2.1 av.2.2] V fun e w'=> ∃x d,e=.returned (.tuple #[x,d])∧w'.cell? ⟨w.heap.size,0,none⟩=some (.int .i64 ln)∧w'.cell? ⟨w.heap.size,2,none⟩=some (.slice av.1 av.2.1 av.2.2)∧Hid (aW w.heap.size w' x q.1∧bG w.heap.size w' d (bv q.2)∧Below w.heap.size w w')):=zH (fun V hV=>by
  have hb:=b1.trans (hV.mono hz1);refine(Cq a b args (bE av) V (ha.below hb) hl.args hl.each).mono ?_;exact QT6)
 have HA:Hid (∀V d,bG w.heap.size V d (bv q.2)→Calls Tryz.prog 37 #[.int .i64 ln,d] V fun e w'=>e=.returned d∧bG w.heap.size w' d (atL ln (bv q.2))∧Exc (fun k=>d.ownBlock=some k) V w'):=zH (fun V d h=>rZ ln V h (by unfold bv;simp;omega));have HK:Hid (∀V,Below W1.heap.size W1 V→ ∀(i:Nat) u,(ai (ln,[c1,c2],av,text))[i]? =some u→V.cell? ⟨w.heap.size,i,none⟩=some u):=zH (fun V hV i u hu=>by rw[(kx.below hV).cell i];exact hu);have HI:Hid (∀x d V,aW w.heap.size V x q.1→bG w.heap.size V d (aY ln q.2)→Below w.heap.size w V→fK w ⟨ln,[c1,c2],args,text⟩ (.returned (.tuple #[x,d,.bool true])) V):=zH (fun x d V h1 h2 h3=>by
  unfold fK;rw[hin];exact⟨x,d,rfl,h1,h2,h3⟩)
 have x0:=kx.cell 0;have x1:=kx.cell 1;have x2:=kx.cell 2;have x3:=kx.cell 3;obtain⟨va,vn,vc⟩:=av;simp only[ai,bE,PD,PE]at hW1 HC HK HI x0 x1 x2 x3⊢;have HB1:=zH b1;have d0:([c1,c2]==([]:List UInt8))=false:=rfl;have d1:([c1,c2]==([66]:List UInt8))=false:=by simp
 have d2:([c1,c2]==([73]:List UInt8))=false:=by simp
 have HS1:=zH hS1;have HS2:=zH hS2;have hE:(([c1,c2]==([66,73]:List UInt8))=true)∨(([c1,c2]==([66,73]:List UInt8))=false∧([c1,c2]==([66,82]:List UInt8))=true)∨(([c1,c2]==([66,73]:List UInt8))=false∧([c1,c2]==([66,82]:List UInt8))=false∧([c1,c2]==([73,66]:List UInt8))=true)∨(([c1,c2]==([66,73]:List UInt8))=false∧([c1,c2]==([66,82]:List UInt8))=false∧([c1,c2]==([73,66]:List UInt8))=false∧([c1,c2]==([73,82]:List UInt8))=true)∨(([c1,c2]==([66,73]:List UInt8))=false∧([c1,c2]==([66,82]:List UInt8))=false∧([c1,c2]==([73,66]:List UInt8))=false∧([c1,c2]==([73,82]:List UInt8))=false∧([c1,c2]==([82,66]:List UInt8))=true)∨(([c1,c2]==([66,73]:List UInt8))=false∧([c1,c2]==([66,82]:List UInt8))=false∧([c1,c2]==([73,66]:List UInt8))=false∧([c1,c2]==([73,82]:List UInt8))=false∧([c1,c2]==([82,66]:List UInt8))=false∧([c1,c2]==([82,73]:List UInt8))=true):=by
  simp only[Qn,R7,and_true,Qs,Ri]at hc;rcases hc with⟨rfl,rfl⟩| ⟨rfl,rfl⟩| ⟨rfl,rfl⟩| ⟨rfl,rfl⟩| ⟨rfl,rfl⟩| ⟨rfl,rfl⟩<;>decide
 clear hi0 hS1 hS2 hc;clear ha hl b1 kx hz1 hq hin hql;go_enter Tryz.func15,Tryz.ntmps15
 rcases hE with e0 | ⟨e0,e1⟩| ⟨e0,e1,e2⟩| ⟨e0,e1,e2,e3⟩| ⟨e0,e1,e2,e3,e4⟩| ⟨e0,e1,e2,e3,e4,e5⟩
 all_goals
  go_wp2_with fail
  have HSC:Hid (∀W,Below W1.heap.size W1 W→W.cell? ⟨w.heap.size,2,none⟩=some (.slice va vn vc)):=zH (fun W hW=>HK.out W hW 2 _ rfl);have HX:Hid (Below W1.heap.size W1 W1.drew):=zH (PG _ W1).drew;refine wp_region_held_drew (S:=(fun W=>W.cell? ⟨w.heap.size,2,none⟩=some (.slice va vn vc))) (by kernel_rfl) ?_ (fun hHeld=>?_)
  ·exact HSC.out _ HX.out
  refine zK (i:=0) (v:= .string ⟨#[c1,c2]⟩) rfl ?_;simp only[zA,Act.put];refine Qv (i:=1) (v:= .int .u8 (c1.toNat:Int)) rfl (by kernel_rfl) (by kernel_rfl) (by kernel_rfl) (fun _ _ _ h=>h) (Or.inl ⟨by rfl,fun w' hSw=>by(try dsimp only at hSw);go_simp;try rfl⟩) (by assumption) ?_;simp only[zA,Act.put];refine zK (i:=3) (v:= .string ⟨#[c1,c2]⟩) rfl ?_;simp only[zA,Act.put];refine Qv (i:=4) (v:= .int .u8 (c2.toNat:Int)) rfl (by kernel_rfl) (by kernel_rfl) (by kernel_rfl) (fun _ _ _ h=>h) (Or.inl ⟨by rfl,fun w' hSw=>by(try dsimp only at hSw);go_simp;try rfl⟩) (by assumption) ?_;simp only[zA,Act.put];refine zK (i:=6) (v:= .pointer (some ⟨w.heap.size,2,none⟩)) rfl ?_;simp only[zA,Act.put];refine zK (i:=7) (v:= .slice va vn vc) rfl ?_;simp only[zA,Act.put];refine wpAnyH_ready (rs:=[2]) (by kernel_rfl) (by simp) ?_;refine AllReadyH.cons rfl (fun K hK=>?_) AllReadyH.nil
  try simp only[zG]
  go_simp;go_at_call 35
  refine(HS1.out _).mono ?_;rintro e w7 ⟨rfl,rfl⟩;go_wp2_with fail
  refine hK.out _ _ ?_ (fun hHeld=>?_)
  ·exact HSC.out _ HX.out
  clear hK K
  try simp only[zA,Act.put]
  refine wpAnyH_ready (rs:=[5]) (by kernel_rfl) (by simp) ?_;refine AllReadyH.cons rfl (fun K hK=>?_) AllReadyH.nil
  try simp only[zG]
  go_simp;go_at_call 35
  refine(HS2.out _).mono ?_;rintro e w7 ⟨rfl,rfl⟩;go_wp2_with fail
  refine hK.out _ _ ?_ (fun hHeld=>?_)
  ·exact HSC.out _ HX.out
  clear hK K
  try simp only[zA,Act.put]
  refine wpAnyH_ready (rs:=[8]) (by kernel_rfl) (by simp) ?_;refine AllReadyH.cons rfl (fun K hK=>?_) AllReadyH.nil
  try simp only[zG]
  go_simp;go_at_call 36
  refine(HC.out _ HX.out).mono ?_;rintro e w2 ⟨x,d,rfl,hc0,hc2,HC2⟩;go_wp2_with fail
  refine hK.out _ _ ?_ (fun hHeld=>?_)
  ·exact hc2
  clear hK K
  try simp only[zA,Act.put]
  refine zK (i:=9) (v:= .tuple #[x,d]) rfl ?_;simp only[zA,Act.put];refine zK (i:=10) (v:=x) rfl ?_;simp only[zA,Act.put];refine zK (i:=11) (v:=d) rfl ?_;simp only[zA,Act.put];refine zK (i:=12) (v:=x) rfl ?_;simp only[zA,Act.put];refine zK (i:=13) (v:=d) rfl ?_;exact QT5
theorem GI (x:RV)(r:aI)(w:World)(h:x.2.1=r.mac)(hn:fP r=none):
  Calls Tryz.prog 15 #[.agg (ai x).toArray] w (fK w r):=by
 have hne:x.2.1≠ []∧x.2.1≠ [66]∧x.2.1≠ [73]∧x.2.1≠ [66,73]∧x.2.1≠ [66,82]∧x.2.1≠ [73,66]∧x.2.1≠ [73,82]∧x.2.1≠ [82,66]∧x.2.1≠ [82,73]:=by
  rw[h];refine⟨fun e=>?_,fun e=>?_,fun e=>?_,fun e=>?_,fun e=>?_,fun e=>?_,fun e=>?_,fun e=>?_,fun e=>?_⟩<;>(unfold fP at hn;rw[e]at hn;simp at hn)
 have b1:=ae w (.cells (ai x).toArray 33);have kx:Blk (w.alloc (.cells (ai x).toArray 33)) w.heap.size 33 (ai x):=PK w _;obtain⟨ln,b,⟨va,vn,vc⟩,text⟩:=x;simp only at hne;obtain⟨c0,c1,c2,c3,c4,c5,c6,c7,c8⟩:=hne;have d0:=cO c0;have d1:=cO c1;have d2:=cO c2;have d3:=cO c3;have d4:=cO c4;have d5:=cO c5;have d6:=cO c6;have d7:=cO c7;have d8:=cO c8;have x1:=kx.cell 1;obtain⟨W1,hW1⟩:∃W,w.alloc (.cells (ai (ln,b,(va,vn,vc),text)).toArray 33)=W:=⟨_,rfl⟩;rw[hW1]at x1 b1;simp only[ai,bE,PD,PE]at hW1 x1⊢;have HI:=zH (fK.none hn b1);clear hn h b1 kx c1 c2 c3 c4 c5 c6 c7 c8;go_enter Tryz.func15,Tryz.ntmps15
 go_wp2_with fail
 go_ret3;exact HI.out
theorem qW (x:RV)(r:aI)(w:World)(hx:iO w x r)(hl:fJ r):Calls Tryz.prog 15 #[.agg (ai x).toArray] w (fK w r):=by
 cases hn:fP r with
 | none=>exact GI x r w hx.mac hn
 | some q=>
  obtain⟨ln,m,args,text⟩:=r;obtain⟨xl,xm,av,xt⟩:=x;obtain⟨h1,h2,h3,h4⟩:=hx;simp only at h1 h2 h3 h4;subst h1 h2 h3
  by_cases c:xm∈ [[],[66],[73],[66,73],[66,82],[73,66],[73,82],[82,66],[82,73]]
  ·simp only[Qn,Qs,Ri]at c
   rcases c with rfl | rfl | rfl | rfl | rfl | rfl | rfl | rfl | rfl
   ·exact GH _ _ _ av w h4 hl
   ·exact JA 66 1 _ _ _ av w h4 hl rfl uK (by simp)
   ·exact JA 73 2 _ _ _ av w h4 hl rfl uJ (by simp)
   ·exact qp 66 73 1 2 _ _ _ av w h4 hl rfl uK uJ (by simp)
   ·exact qp 66 82 1 0 _ _ _ av w h4 hl rfl uK yK (by simp)
   ·exact qp 73 66 2 1 _ _ _ av w h4 hl rfl uJ uK (by simp)
   ·exact qp 73 82 2 0 _ _ _ av w h4 hl rfl uJ yK (by simp)
   ·exact qp 82 66 0 1 _ _ _ av w h4 hl rfl yK uK (by simp)
   ·exact qp 82 73 0 2 _ _ _ av w h4 hl rfl yK uJ (by simp)
  ·simp only[Qn,Qs,Ri,not_or]at c
   obtain⟨c0,c1,c2,c3,c4,c5,c6,c7,c8⟩:=c;unfold fP at hn;simp only at hn;rw[PO c0,PO (by rintro(h | h);exact c1 h;exact c2 h),PO (by rintro(h | h | h | h | h | h);exact c3 h;exact c4 h;exact c5 h;exact c6 h;exact c7 h;exact c8 h)]at hn
   cases hn
structure RS where
 k:Nat
 cols:Txt
 rows:List bT
 bx:Bool
 al:Bool
 d:List Dgn
abbrev rdC (line:Int)(vl:Value)(s:RS)(vr vd:Value):List Value:=[.int .i64 (w6 line),vl,.int .i64 (s.k:Int),.string ⟨s.cols.toArray⟩,vr,.bool s.bx,.bool s.al,vd]
structure RI (w:World)(B:Nat)(line:Int)(vl:Value)(s:RS)(W:World):Prop where
 sz:w.heap.size≤B
 bel:Below w.heap.size w W
 val:∃vr vd,Blk W B 185 (rdC line vl s vr vd)∧fV w.heap.size W vr s.rows∧bG w.heap.size W vd (s.d.map wD)
structure FrR (W W':World):Prop where
 size:W.heap.size≤W'.heap.size
 same:∀(g:Nat) (o:Obj),W.heap[g]? =some o→(∀cur fz,o≠Obj.cells cur 185 fz)→(∀cur fz,o≠Obj.cells cur 46 fz)→W'.heap[g]? =some o
 rw4:∀(B:Nat) (x:Value),W.cell? ⟨B,4,none⟩=some x→(∃cur fz,W.heap[B]? =some (Obj.cells cur 185 fz))→W'.cell? ⟨B,4,none⟩=some x∧ ∃cur fz,W'.heap[B]? =some (Obj.cells cur 185 fz)
theorem FrR.refl (W:World):FrR W W:=⟨Px _,fun _ _ h _ _=>h,fun B x h1 h2=>⟨h1,h2⟩⟩
theorem FrR.trans {a b c:World}(h:FrR a b)(k:FrR b c):FrR a c:=⟨PY h.size k.size,fun g o ho h1 h2=>k.same g o (h.same g o ho h1 h2) h1 h2,fun B x h1 h2=>k.rw4 B x (h.rw4 B x h1 h2).1 (h.rw4 B x h1 h2).2⟩
theorem FrR.below {W W':World}(h:Below W.heap.size W W'):FrR W W':=⟨h.size,fun g o ho _ _=>(h.block g (Py.1 ho).1).trans ho,fun B x h1 ⟨cur,fz,h2⟩=>⟨(h.cell (p:=⟨B,4,none⟩) (Py.1 h2).1).trans h1,cur,fz,(h.block B (Py.1 h2).1).trans h2⟩⟩
theorem FrR.set {W:World}{B:Nat}{L:List Value}(h:Blk W B 185 L)(j:Nat)(v:Value)(hj:j≠4:=by decide):FrR W (W.setCell ⟨B,j,none⟩ v):=by
 refine⟨(PG 0 W).setCell (p:=⟨B,j,none⟩) (P6 _) v |>.size,fun g o ho h1 _=>?_,fun B' x h1 h2=>?_⟩
 ·rw[PN _ _ _ _ (fun e=>by
   have e:g=B:=e;have k:W.heap[B]? =some (.cells L.toArray 185 (0,0)):=h;rw[←e,ho]at k;injection k with k
   exact h1 _ _ k)]
  exact ho
 ·by_cases e:B'=B
  ·subst e
   have h3:=h.set j v;refine⟨?_,_,_,h3⟩;rw[h3.cell 4,←h1,h.cell 4,QY hj]
  ·obtain⟨cur,fz,h2⟩:=h2
   have h3:(W.setCell ⟨B,j,none⟩ v).heap[B']? =W.heap[B']? :=PN _ _ _ _ (fun q=>e q);exact⟨(Qh h3).trans h1,cur,fz,h3.trans h2⟩
theorem FrR.grown {W W':World}{row:Option Nat}(hg:W.grownBy W' row)(hr:∀g,row=some g→ ∃cur fz,W.heap[g]? =some (.cells cur 46 fz)):FrR W W':=
 ⟨hg.size,fun g o ho _ h2=>(hg.block g (Py.1 ho).1 (fun e=>by
  obtain⟨cur,fz,hc⟩:=hr g e.symm;rw[ho]at hc;injection hc with hc
  exact h2 _ _ hc)).trans ho,fun B x h1 ⟨cur,fz,h2⟩=>by
  have h3:W'.heap[B]? =W.heap[B]? :=hg.block B (Py.1 h2).1 (fun e=>by
   obtain⟨cur',fz',hc⟩:=hr B e.symm;rw[h2]at hc;injection hc with hc
   injection hc with _ hc
   exact absurd hc (by decide))
  exact⟨(Qh h3).trans h1,cur,fz,h3.trans h2⟩⟩
theorem FrR.sam {W W':World}(h:FrR W W'){e:TypeId}(base:Nat)(h1:e≠185)(h2:e≠46):aF e base W W':=fun g cur fz _ hg=>
 h.same g _ hg (fun c f q=>by injection q with _ q;exact h1 q) (fun c f q=>by injection q with _ q;exact h2 q)
theorem FrR.blk {W W':World}(h:FrR W W'){g e:Nat}{L:List Value}(hb:Blk W g e L)(h1:e≠185)(h2:e≠46):Blk W' g e L:=hb.sam (P6 _) (h.sam 0 h1 h2)
theorem FrR.ko {W W':World}(h:FrR W W'):KeepsOthers W W':=⟨h.size,fun k o hk ho=>h.same k o hk (fun c f q=>by subst q;cases ho) (fun c f q=>by subst q;cases ho)⟩
theorem aF.others {e:TypeId}{base B:Nat}{A A':World}{row:Option Nat}(hg:A.grownBy A' row)(hr:∀r,row=some r→B≤r∧ ∃o:Obj,A.heap[r]? =some o∧o.isCells=false):aF e base A A':=fun g cur fz _ h=>
 (hg.block g (Py.1 h).1 (fun q=>by
  obtain⟨-,o,ho,hc⟩:=hr g q.symm;rw[h]at ho
  cases ho
  cases hc)).trans h
section
variable {w W W':World}{B:Nat}{line:Int}{vl:Value}{s:RS}
theorem RI.lt (h:RI w B line vl s W):B<W.heap.size:=by
 obtain⟨vr,vd,hb,-,-⟩:=h.val;exact(Py.1 hb).1
theorem RI.keep (h:RI w B line vl s W)(hb:Below W.heap.size W W'):RI w B line vl s W':=by
 obtain⟨vr,vd,h1,h2,h3⟩:=h.val;exact⟨h.sz,h.bel.trans (hb.mono h.bel.size),vr,vd,h1.below hb,h2.keep hb,h3.keep hb⟩
theorem RI.fr0 {B':Nat}(hB:w.heap.size≤B'):Fr0 B' (RI w B line vl s):=by
 intro A A' row h hg hr;obtain⟨vr,vd,h1,h2,h3⟩:=h.val;exact⟨h.sz,h.bel.grown hg h.bel.size (fun k e=>PY hB (hr k e).1),vr,vd,h1.sam (P6 _) (aF.others hg hr),h2.sam (aF.others hg hr) (aF.others hg hr) (aF.others hg hr),h3.sam (aF.others hg hr)⟩
theorem RI.put (h:RI w B line vl s W){s':RS}(j:Nat)(v:Value)(hr:s'.rows=s.rows)(hd:s'.d=s.d)(hl:∀vr vd,(rdC line vl s vr vd).set j v=rdC line vl s' vr vd):RI w B line vl s' (W.setCell ⟨B,j,none⟩ v):=by
 obtain⟨vr,vd,h1,h2,h3⟩:=h.val;refine⟨h.sz,h.bel.setCell (p:=⟨B,j,none⟩) h.sz _,vr,vd,hl vr vd▸h1.set j v,?_,?_⟩
 ·rw[hr];exact h2.sam (aF.set h1 (by decide) _ _) (aF.set h1 (by decide) _ _) (aF.set h1 (by decide) _ _)
 ·rw[hd];exact h3.sam (aF.set h1 (by decide) _ _)
theorem RI.frp (h:RI w B line vl s W)(j:Nat)(v:Value)(hj:j≠4:=by decide):FrR W (W.setCell ⟨B,j,none⟩ v):=by
 obtain⟨vr,vd,h1,h2,h3⟩:=h.val;exact FrR.set h1 j v hj
theorem RI.tell (h:RI w B line vl s W)(x:Dgn)(hD:s.d.length≤500000):
  ∃a c a' c' w2,W.cell? ⟨B,7,none⟩=some (.slice a s.d.length c)∧(gQ #[.slice a s.d.length c,.slice (some ⟨W.heap.size,0,none⟩) 1 1]).run Tryz.prog (W.alloc (.cells (fT (wD x)).toArray 46))=.ok (.value (.slice a' (s.d.length+1) c')) w2∧w2.cell? ⟨B,7,none⟩=some (.slice a s.d.length c)∧w2.frozen? ⟨B,7,none⟩=false∧
   RI w B line vl {s with d:=s.d++ [x] } (w2.setCell ⟨B,7,none⟩ (.slice a' (s.d.length+1) c'))∧FrR W (w2.setCell ⟨B,7,none⟩ (.slice a' (s.d.length+1) c'))∧
   ∀h,h<W.heap.size→h≠B→(Value.slice a s.d.length c).ownBlock≠some h→(w2.setCell ⟨B,7,none⟩ (.slice a' (s.d.length+1) c')).heap[h]? =W.heap[h]? ∧(Value.slice a' (s.d.length+1) c').ownBlock≠some h:=by
 have b1:=ae W (.cells (fT (wD x)).toArray 46);have hb0:=h.bel.size;obtain⟨vr,vd,h1,h2,h3⟩:=h.val;obtain⟨a,c,rfl⟩:∃a c,vd=.slice a s.d.length c:=by
  have:=(ag.sl ax h3).len
  rwa [Qy]at this
 have k1:=h1.below b1;have k3:=h3.keep b1;have hsz:(W.alloc (.cells (fT (wD x)).toArray 46)).heap.size=W.heap.size+1:=PS ..;obtain⟨vd',w2,hrun,ho,hg,hown⟩:=gX k3 (dM ax W 46 [wD x]) (by omega) (by simp;omega);obtain⟨a',c',rfl⟩:=(ag.sl ax ho).len;have hl:(s.d.map wD++ [wD x]).length=s.d.length+1:=by simp
 rw[hl]at hrun ho;have hmap:(s.d++ [x]).map wD=s.d.map wD++ [wD x]:=by simp
 have hty:∀g,(Value.slice a s.d.length c).ownBlock=some g→ ∃cur fz,(W.alloc (.cells (fT (wD x)).toArray 46)).heap[g]? =some (.cells cur 46 fz):=fun g hg'=>by
  obtain⟨-,cur,hc⟩:=k3.ty hg';exact⟨cur,_,hc⟩
 have f1:FrR W w2:=(FrR.below b1).trans (FrR.grown hg hty);have sm:∀{e:TypeId},e≠46→aF e w.heap.size (W.alloc (.cells (fT (wD x)).toArray 46)) w2:=fun he=>aF.grown hg hty he
 have blk2:Blk w2 B 185 (rdC line vl s vr (.slice a s.d.length c)):=k1.sam h.sz (sm (by decide));refine⟨a,c,a',c',w2,h1.cell 7,?_,blk2.cell 7,blk2.frozen (by simp),?_,f1.trans (FrR.set blk2 7 _),?_⟩
 ·exact hrun
 ·refine⟨h.sz,(((h.bel.trans (b1.mono hb0)).grown hg (by omega) (fun j e=>(k3.ty e).1)).setCell (p:=⟨B,7,none⟩) h.sz _),vr,_,blk2.set 7 _,?_,by rw[hmap];exact ho.sam (aF.set blk2 (by decide) _ _)⟩
  exact(((h2.keep b1).sam (sm (by decide)) (sm (by decide)) (sm (by decide))).sam (aF.set blk2 (by decide) _ _) (aF.set blk2 (by decide) _ _) (aF.set blk2 (by decide) _ _))
 ·intro h hlt hne hoe
  refine⟨?_,?_⟩
  ·rw[PN _ _ _ _ (fun e=>hne e),hg.block h (by omega) (fun e=>hoe e.symm)]
   exact b1.block h hlt
  ·rw[hl]at hown
   rcases hown with e | e
   ·rw[e];exact hoe
   ·rw[e,hsz];intro q;injection q with q;omega
end
section
attribute [local go_sem ↓ high] bH
theorem pY {w:World}{B:Nat}{line:Int}{vl:Value}{s:RS}(W:World)(h:RI w B line vl s W)(hk:s.k≤1000000):
  Calls Tryz.prog 159 #[.pointer (some ⟨B,0,none⟩)] W fun e W'=>e=.returned (.int .i64 (w6 (line+s.k-1)))∧Below W.heap.size W W':=by
 obtain⟨vr,vd,hb,-,-⟩:=h.val;have c0:W.cell? ⟨B,0,none⟩=some (.int .i64 (w6 line)):=hb.cell 0;have c2:W.cell? ⟨B,2,none⟩=some (.int .i64 (s.k:Int)):=hb.cell 2;obtain⟨k,hk'⟩:∃k:Int,(s.k:Int)=k:=⟨_,rfl⟩;rw[hk']at c2⊢;have e1:=IG line k;have e2:=IG (line+k) (-1);rw[show line+k+ -1=line+k-1 by omega]at e2;obtain⟨l0,hl0⟩:∃x,w6 line=x:=⟨_,rfl⟩;obtain⟨l1,hl1⟩:∃x,w6 (line+k)=x:=⟨_,rfl⟩;obtain⟨l2,hl2⟩:∃x,w6 (line+k-1)=x:=⟨_,rfl⟩;rw[hl0]at c0 e1;rw[hl1]at e1 e2;rw[hl2]at e2⊢;have w1:IntKind.i64.wrap (l0+k)=l1:=e1;have w2:IntKind.i64.wrap (l1-1)=l2:=by rw[show l1-1=l1+ -1 by omega];exact e2
 clear e1 e2 hl0 hl1 hl2;have HB:=zH (fun m=>below_drewN (PG W.heap.size W) m);clear hb h hk' hk;go_enter Tryz.func159,Tryz.ntmps159
 go_wp2_with fail
 go_quiet (fail)
 go_wp2_with fail
 go_ret;exact⟨rfl,HB.out _⟩
theorem jN {w:World}{B:Nat}{line:Int}{vl:Value}{s:RS}(W:World)(h:RI w B line vl s W)(k ln:Int)(hD:s.d.length≤500000):
  Calls Tryz.prog 158 #[.pointer (some ⟨B,0,none⟩),.int .i64 k,.int .i64 (w6 ln)] W fun e W'=>e=.returned (.tuple #[])∧RI w B line vl {s with d:=s.d++ [(k,ln,0)] } W'∧FrR W W':=by
 obtain⟨a,c,a',c',w2,c7,hr,q7,f7,hRI,hF,-⟩:=h.tell (k,ln,0) hD;have hr':(gQ #[.slice a s.d.length c,.slice (some ⟨W.heap.size,0,none⟩) 1 1]).run Tryz.prog (W.alloc (.cells #[.int .i64 k,.int .i64 (w6 ln),.int .i64 0] 46))=.ok (.value (.slice a' (s.d.length+1) c')) w2:=hr;obtain⟨m,hm⟩:∃m,s.d.length=m:=⟨_,rfl⟩;rw[hm]at c7 hr' q7 hRI hF;have HR:=zH hRI;have HF:=zH hF;clear hr hRI hF h hm hD;go_enter Tryz.func158,Tryz.ntmps158
 go_wp2_with fail
 go_end0;exact⟨rfl,HR.out,HF.out⟩
end
theorem qx (B:Nat)(W:World):Calls Tryz.prog 130 #[.pointer (some ⟨B,0,none⟩)] W fun e w'=>
  e=.returned (.func (.func 161) #[] #[.pointer (some ⟨W.heap.size,0,none⟩)])∧W.alloc (.cells #[.pointer (some ⟨B,0,none⟩)] 183)=w':=by
 have hmf:∀(fn:Fn) (first cap:Array Value) (w:World),(Instr.makeFunc fn first cap).run Tryz.prog w=.ok (.func fn first cap) w:=fun _ _ _ _=>rfl
 go_enter Tryz.func130,Tryz.ntmps130
 go_wp2_with fail
 go_ret;exact⟨rfl,rfl⟩
section
attribute [local go_sem] QX
def rdK (B:Nat)(W:World):Nat:=match W.cell? ⟨B,2,none⟩with
 | some (.int .i64 k)=>k.toNat
 | _=>0
theorem ul {w:World}{B:Nat}{line:Int}{vl:Value}{s:RS}{W:World}(h:RI w B line vl s W):rdK B W=s.k:=by
 obtain⟨vr,vd,hb,-,-⟩:=h.val;have c2:W.cell? ⟨B,2,none⟩=some (.int .i64 (s.k:Int)):=hb.cell 2;unfold rdK;rw[c2];simp
def RS.next (s:RS):RS:={s with k:=s.k+1}
theorem RI.next {w:World}{B:Nat}{line:Int}{vl:Value}{s:RS}{W:World}(h:RI w B line vl s W):RI w B line vl s.next (W.setCell ⟨B,2,none⟩ (.int .i64 ((s.k:Int)+1))):=
 h.put 2 _ rfl rfl (fun vr vd=>by simp[RS.next,rdC])
theorem uP (m C B:Nat)(w:World)(line:Int)(L:List Txt)(a0:Option Addr)(c0:Nat)(st:RS→Txt→RS)(J:RS→World→Prop)(J1:RS→Txt→World→Prop)(hL:L.length≤1000000)(hS:Ss w (.slice a0 L.length c0) L)
  (hst:∀s x,s.k<(st s x).k)
  (hJr:∀s W,J s W→RI w B line (.slice a0 L.length c0) s W∧s.k≤L.length∧Blk W C 183 [.pointer (some ⟨B,0,none⟩)])
  (hJb:∀s A A',J s A→Below A.heap.size A A'→J s A')
  (hJn:∀s A x,J s A→L[s.k]? =some x→J1 s x (A.setCell ⟨B,2,none⟩ (.int .i64 ((s.k:Int)+1))))
  (hJ1b:∀s x A A',J1 s x A→Below A.heap.size A A'→J1 s x A')
  (hJ1r:∀s x W,J1 s x W→RI w B line (.slice a0 L.length c0) s.next W∧Blk W C 183 [.pointer (some ⟨B,0,none⟩)]) (s0:RS):
  Ov Fence.wide m Tryz.prog 161 #[.pointer (some ⟨C,0,none⟩)] zk (fun _ _=>True) st J J1 (fun W=> ∃s,J s W∧s.k=L.length) s0:=by
 intro l K Kx W1 hK hY h0 hk0;have HR:=zH hJr;have HB:=zH hJb;have HN:=zH hJn;have HB1:=zH hJ1b;have HR1:=zH hJ1r;have H0:=zH h0;have HK0:=zH hk0;have HK:=zH hK;have HY:=zH hY;have HST:=zH hst;have HS:=zH hS;have kob:Hid (∀A A',K A→Below A.heap.size A A'→K A'):=zH fun A A' h q=>hK A A' h ⟨q.size,fun k o hk _=>(q.block k (Py.1 hk).1).trans hk⟩
 clear hJr hJb hJn hJ1b hJ1r h0 hk0 hK hY hst hS;refine callsIn_of_wp Tryz.func161 rfl trivial ?_ rfl;simp only[Tryz.ntmps161,Q0,PI,PQ,Nat.reduceAdd,Nat.reduceSub,QT,QS,Q5,QU,Qt,Qe]
 gi_wp2_with fail
 gi_loopw [3] (fun _ wr=> ∃s,Hid (J s wr)∧Hid (K wr)) (fun _ wr=>L.length-rdK B wr)
 case atStart=>exact⟨s0,H0,HK0⟩
 case round=>
  obtain⟨s,HJ,HKW⟩:=hrel;obtain⟨r0,r1,r2⟩:=HR.out _ _ HJ.out;have HRI:=zH r0;obtain⟨vr,vd,hb,-,-⟩:=r0.val;have q0:wr.cell? ⟨C,0,none⟩=some (.pointer (some ⟨B,0,none⟩)):=r2.cell 0;have q1:wr.cell? ⟨B,1,none⟩=some (.slice a0 L.length c0):=hb.cell 1;have q2:wr.cell? ⟨B,2,none⟩=some (.int .i64 (s.k:Int)):=hb.cell 2;have hfz:wr.frozen? ⟨B,2,none⟩=false:=hb.frozen (by simp);clear r0 r2 hb
  by_cases hlt:s.k<L.length
  ·have hlt':(s.k:Int)<(L.length:Int):=by omega
   obtain⟨x,hx⟩:∃x,L[s.k]? =some x:=⟨L[s.k],Pz hlt⟩;have f2:wr.frozen? ⟨B,2,none⟩=false:=hfz
   gi_wp2_with fail
   gi_quiet (fail)
   gi_wp2_with fail
   have hbd:=zH (below_drewN (PG wr.heap.size wr) nq);have HJd:=zH (HB.out _ _ _ HJ.out hbd.out);have HKd:=zH (kob.out _ _ HKW.out hbd.out);have HV:=zH (HN.out s (wr.drewN nq) x HJd.out hx);have HKV:=zH (HK.out _ _ HKd.out (KeepsOthers.setCell (wr.drewN nq) ⟨B,2,none⟩ (.int .i64 ((s.k:Int)+1))));obtain⟨V,hV⟩:∃V,(wr.drewN nq).setCell ⟨B,2,none⟩ (.int .i64 ((s.k:Int)+1))=V:=⟨_,rfl⟩;rw[hV]at HV HKV⊢;have hbv:=zH (PG V.heap.size V).drew;have HVd:=zH (HB1.out _ _ _ _ HV.out hbv.out);have HKVd:=zH (kob.out _ _ HKV.out hbv.out);obtain⟨t0,t2⟩:=HR1.out _ _ _ HV.out;have HSV:=zH (HS.out.below t0.bel);obtain⟨vr',vd',hb',-,-⟩:=t0.val;have q0':V.cell? ⟨C,0,none⟩=some (.pointer (some ⟨B,0,none⟩)):=t2.cell 0;have q1':V.cell? ⟨B,1,none⟩=some (.slice a0 L.length c0):=hb'.cell 1;have q2':V.cell? ⟨B,2,none⟩=some (.int .i64 ((s.k:Int)+1)):=by
    have h:V.cell? ⟨B,2,none⟩=some (.int .i64 (((s.k+1:Nat)):Int)):=hb'.cell 2;rw[h,R8];rfl
   obtain⟨g,off,rfl,hx0⟩:=Ss.at HSV.out hx;obtain⟨fn,tmps,assign,body,hy,hRd⟩:=HY.out s x V.drew HVd.out HKVd.out;have hy':(Instr.yield l #[.string ⟨x.toArray⟩]).run Tryz.prog V.drew=.ok (.round l fn tmps assign body) V.drew:=hy;have HRR:=zH (hRd.mono (R':=fun e W'=> ∃z,e=.returned (.bool z)∧((z=true∧J (st s x) W'∧K W')∨(z=false∧Kx W'))) (by
    rintro e W3 (⟨rfl,h1,h2,-⟩| ⟨rfl,h1⟩)
    ·exact⟨true,rfl,.inl ⟨rfl,h1,h2⟩⟩
    ·exact⟨false,rfl,.inr ⟨rfl,h1⟩⟩))
   have w1:IntKind.i64.wrap ((s.k:Int)+1-1)=(s.k:Int):=by rw[show(s.k:Int)+1-1=(s.k:Int) by omega];exact gU (by omega) (by omega)
   have hk0:(0:Int)≤(s.k:Int):=by omega
   have w0:IntKind.i64.wrap (s.k:Int)=(s.k:Int):=gU (by omega) (by omega);have d1:decide ((s.k:Int)<(L.length:Int))=true:=Qz hlt';have d2:decide (0≤(s.k:Int))=true:=Qz hk0;have HRK:=zH (ul HRI.out);clear t0 t2 hb' hy hRd hV hx q0 q1 q2 f2 hbd HJd HKd;refine jI ?_
   gi_region_with (refine⟨fun h=>(by cases h),?_⟩;refine HRR.out.mono ?_;rintro e W3 ⟨z,rfl,hz⟩)
   all_goals
    have HZ:=zH hz;clear hz HRR HY hy' HB1 HB HN
    cases z
    ·have HX3:Hid (Kx W3):=zH (by rcases HZ.out with⟨q,-⟩| ⟨-,q⟩<;>first | exact q | cases q)
     clear HZ
     gi_wp2_with fail
     refine Qi (RP rfl _ _ _) rfl ?_;exact⟨⟨_,rfl⟩,.inr HX3.out⟩
    ·have HX3:Hid (J (st s x) W3∧K W3):=zH (by rcases HZ.out with⟨-,q⟩| ⟨q,-⟩<;>first | exact q | cases q)
     clear HZ
     gi_wp2_with fail
     go_simp;go_roundw
     case rel=>exact⟨⟨st s x,zH HX3.out.1⟩,zH HX3.out.2⟩
     case measure=>
      have h1:=ul (HR.out _ _ HX3.out.1).1;have h2:=HST.out s x;rw[h1,HRK.out];omega
  ·have he:s.k=L.length:=by omega
   have hge:¬(s.k:Int)<(L.length:Int):=by omega
   gi_wp2_with fail
   gi_quiet (fail)
   gi_wp2_with fail
   go_end0;have hbd:=below_drewN (PG wr.heap.size wr) nq;exact⟨⟨_,rfl⟩,.inl ⟨⟨s,HB.out _ _ _ HJ.out hbd,he⟩,kob.out _ _ HKW.out hbd⟩⟩
end
section
attribute [local go_sem] QX
attribute [local go_sem ↓ high] bg bK
structure LkJ (w:World)(b:Txt)(ok:Bool)(bx al:Bool)(W:World):Prop where
 bel:Below w.heap.size w W
 ok:Blk W w.heap.size 4 [.bool ok]
 bx:Blk W (w.heap.size+1) 4 [.bool bx]
 al:Blk W (w.heap.size+2) 4 [.bool al]
 st:Blk W (w.heap.size+3) 9 [.string ⟨b.toArray⟩]
 fn:Blk W (w.heap.size+4) 110 [.func (.func 223) #[] #[]]
theorem LkJ.keep {w:World}{b:Txt}{ok bx al:Bool}{A A':World}(h:LkJ w b ok bx al A)(hb:Below A.heap.size A A'):LkJ w b ok bx al A':=
 ⟨h.bel.trans (hb.mono h.bel.size),h.ok.below hb,h.bx.below hb,h.al.below hb,h.st.below hb,h.fn.below hb⟩
theorem Blk.fr0 {g e B:Nat}{L:List Value}:Fr0 B (fun W=>Blk W g e L):=fun A A' row h hg hr=>by
 refine(hg.block g (Py.1 h).1 (fun q=>?_)).trans h;obtain⟨-,o,ho,hc⟩:=hr g q.symm;have k:A.heap[g]? =_:=h;rw[k]at ho
 cases ho
 cases hc
theorem LkJ.fr0 {w:World}{b:Txt}{ok bx al:Bool}{B:Nat}(hB:w.heap.size≤B):Fr0 B (LkJ w b ok bx al):=fun A A' row h hg hr=>
 ⟨h.bel.grown hg h.bel.size (fun k e=>PY hB (hr k e).1),Blk.fr0 A A' row h.ok hg hr,Blk.fr0 A A' row h.bx hg hr,Blk.fr0 A A' row h.al hg hr,Blk.fr0 A A' row h.st hg hr,Blk.fr0 A A' row h.fn hg hr⟩
theorem LkJ.set {w:World}{b:Txt}{ok bx al:Bool}{A:World}(h:LkJ w b ok bx al A):
  (∀v,LkJ w b v bx al (A.setCell ⟨w.heap.size,0,none⟩ (.bool v)))∧(∀v,LkJ w b ok v al (A.setCell ⟨w.heap.size+1,0,none⟩ (.bool v)))∧(∀v,LkJ w b ok bx v (A.setCell ⟨w.heap.size+2,0,none⟩ (.bool v))):=by
 refine⟨fun v=>⟨h.bel.setCell (p:=⟨w.heap.size,0,none⟩) (Px _) _,h.ok.set 0 _,h.bx.other (by omega) _ _,h.al.other (by omega) _ _,h.st.other (by omega) _ _,h.fn.other (by omega) _ _⟩,
  fun v=>⟨h.bel.setCell (p:=⟨w.heap.size+1,0,none⟩) (by simp) _,h.ok.other (by omega) _ _,h.bx.set 0 _,h.al.other (by omega) _ _,h.st.other (by omega) _ _,h.fn.other (by omega) _ _⟩,
  fun v=>⟨h.bel.setCell (p:=⟨w.heap.size+2,0,none⟩) (by simp) _,h.ok.other (by omega) _ _,h.bx.other (by omega) _ _,h.al.set 0 _,h.st.other (by omega) _ _,h.fn.other (by omega) _ _⟩⟩
theorem wL {α:Type}(l:List α)(x:α)(r:List α)(h:l++ [x]<+:r):r[l.length]? =some x∧r.take l.length=l:=by
 obtain⟨t,rfl⟩:=h;simp
theorem qi (b:Txt)(c:UInt8):(jy b c).length≤b.length:=by
 unfold jy
 split
 ·rw[List.length_dropLast];omega
 ·exact Px _
def lkR (ok:Bool)(o:Option (Bool×Bool)):Bool×Bool×Bool:=match o with
 | some (x,y)=>(ok&&x,ok&&y,ok)
 | none=>(false,false,false)
theorem JL (b:Txt):gP b=lkR (dV b 59) (lookW (dz (jy b 59))):=by
 unfold gP jy lkR
 cases dV b 59
 ·rw[PO (by simp),PO (by simp)]
  cases lookW (dz b)<;>rfl
 ·rw[PZ rfl,PZ rfl]
  cases lookW (dz b.dropLast)<;>rfl
theorem Mm (b:Txt)(w:World)(hU:U8 w)(hb:b.length≤100000):
  CallsIn Fence.wide 9 Tryz.prog 157 #[.string ⟨b.toArray⟩] w fun e w'=>e=.returned (.tuple #[.bool (gP b).1,.bool (gP b).2.1,.bool (gP b).2.2])∧Below w.heap.size w w':=by
 obtain⟨a,ha⟩:∃a,jy b 59=a:=⟨_,rfl⟩;obtain⟨ok0,hok⟩:∃ok0,dV b 59=ok0:=⟨_,rfl⟩;have hal:a.length≤100000:=by
  have:=qi b 59;rw[ha]at this;omega
 have HLB:Hid (gP b=lkR ok0 (lookW (dz a))):=zH (by rw[←hok,←ha];exact JL b);have C1:Hid (∀W,CallsIn Fence.wide 8 Tryz.prog 194 #[.string ⟨b.toArray⟩,.string ⟨#[59]⟩] W fun e w'=>e=.returned (.tuple #[.string ⟨a.toArray⟩,.bool ok0])∧W=w'):=zH fun W=>by
  have h:=D8 b 59 W hb;rw[ha,hok]at h;exact Qb.2 h
 have W1:Hid (∀W,CallsIn Fence.wide 8 Tryz.prog 195 #[.string ⟨a.toArray⟩] W fun e w'=>e=.returned (.func (.func 240) #[] #[.pointer (some ⟨W.heap.size,0,none⟩),.pointer (some ⟨W.heap.size+1,0,none⟩)])∧
  ((W.alloc (.cells #[.string ⟨a.toArray⟩] 9)).alloc (.cells #[.func (.func 223) #[] #[]] 110))=w'):=zH fun W=>Qb.2 (wG a W)
 have HU:=zH hU;clear hok ha hU;refine callsIn_of_wp_marks Tryz.func157 rfl trivial ?_ rfl;simp only[Tryz.ntmps157,Q0,PI,PQ,Nat.reduceAdd,Nat.reduceSub,QT,QS,Q5,QU,Qt,Qe]
 gi_wp2_with fail
 refine iG ?_
 gi_wp2_with (refine⟨trivial,?_⟩;gi_at_call 194;refine(C1.out _).mono ?_;rintro e w' ⟨rfl,rfl⟩)
 refine wpIn_label ?_
 gi_wp2_with (refine⟨trivial,?_⟩;gi_at_call 195;refine(W1.out _).mono ?_;rintro e w' ⟨rfl,rfl⟩)
 obtain⟨W0,hW0⟩:∃W0,(((((w.alloc (.cells #[.bool ok0] 4)).alloc (.cells #[.bool false] 4)).alloc (.cells #[.bool false] 4)).alloc (.cells #[.string ⟨a.toArray⟩] 9)).alloc (.cells #[.func (.func 223) #[] #[]] 110))=W0:=⟨_,rfl⟩;have hsz:W0.heap.size=w.heap.size+5:=by rw[←hW0];simp
 have hJ0:LkJ w a ok0 false false W0:=by
  have n0:=PK w (.cells #[.bool ok0] 4);have n1:=PK (w.alloc (.cells #[.bool ok0] 4)) (.cells #[.bool false] 4);have n2:=PK ((w.alloc (.cells #[.bool ok0] 4)).alloc (.cells #[.bool false] 4)) (.cells #[.bool false] 4);have n3:=PK (((w.alloc (.cells #[.bool ok0] 4)).alloc (.cells #[.bool false] 4)).alloc (.cells #[.bool false] 4)) (.cells #[.string ⟨a.toArray⟩] 9);have n4:=PK ((((w.alloc (.cells #[.bool ok0] 4)).alloc (.cells #[.bool false] 4)).alloc (.cells #[.bool false] 4)).alloc (.cells #[.string ⟨a.toArray⟩] 9)) (.cells #[.func (.func 223) #[] #[]] 110);simp only[PS]at n1 n2 n3 n4;refine⟨?_,?_,?_,?_,?_,?_⟩
  ·rw[←hW0]
   exact(((((PG _ w).alloc (Px _) _).alloc (by simp) _).alloc (by simp<;>omega) _).alloc (by simp<;>omega) _).alloc (by simp<;>omega) _
  ·rw[←hW0]
   exact(Qk _ _ (by simp<;>omega)).trans ((Qk _ _ (by simp<;>omega)).trans ((Qk _ _ (by simp<;>omega)).trans ((Qk _ _ (by simp<;>omega)).trans n0)))
  ·rw[←hW0]
   exact(Qk _ _ (by simp<;>omega)).trans ((Qk _ _ (by simp<;>omega)).trans ((Qk _ _ (by simp<;>omega)).trans n1))
  ·rw[←hW0]
   exact(Qk _ _ (by simp<;>omega)).trans ((Qk _ _ (by simp<;>omega)).trans n2)
  ·rw[←hW0]
   exact(Qk _ _ (by simp<;>omega)).trans n3
  ·rw[←hW0]
   exact n4
 rw[hW0];have HSZ:=zH hsz;clear hW0 C1 W1;refine lV rfl (by decide) (gf:=240) (lb:= #[.pointer (some ⟨w.heap.size+3,0,none⟩),.pointer (some ⟨w.heap.size+3+1,0,none⟩)]) rfl trivial (enters_of Tryz.func240 (by kernel_rfl) rfl)
  (uZ 8 (w.heap.size+3) a (fun p W=> ∃bx al,lookW p=some (bx,al)∧LkJ w a ok0 bx al W) hal (fun p A A' ⟨x,y,h1,h2⟩ hb=>⟨x,y,h1,h2.keep hb⟩) (fun p W ⟨x,y,h1,h2⟩=>⟨h2.st,h2.fn,HU.out.below h2.bel⟩))
  (fun _ _=>trivial) (fun _ _ _ _ _ _ _=>trivial) (fun _=>rfl)
  (fun c W=>c=.exit 0∧lookW (dz a)=none∧ ∃bx al,LkJ w a false bx al W)
  (fun p=>Fr0.ex fun bx=>Fr0.ex fun al=>(Fr0.pure _ _).and (LkJ.fr0 (by omega)))
  (fun p x=>(Fr0.ex fun bx=>Fr0.ex fun al=>(Fr0.pure _ _).and (LkJ.fr0 (by omega))).and (Fr0.pure _ _))
  (fun c=>(Fr0.pure _ _).and ((Fr0.pure _ _).and (Fr0.ex fun bx=>Fr0.ex fun al=>LkJ.fr0 (by omega))))
  (Fr0.ex fun bx=>Fr0.ex fun al=>(Fr0.pure _ _).and (LkJ.fr0 (by omega)))
  ⟨false,false,rfl,hJ0⟩
  (fun x=>{tmps:= #[.string ⟨b.toArray⟩,undef,.bool false,.bool false,.bool false,.string ⟨a.toArray⟩,.pointer (some ⟨w.heap.size,0,none⟩),.pointer (some ⟨w.heap.size+1,0,none⟩),.pointer (some ⟨w.heap.size+1+1,0,none⟩),.string ⟨x.toArray⟩,.tuple #[.string ⟨a.toArray⟩,.bool ok0],.string ⟨b.toArray⟩,.tuple #[.string ⟨a.toArray⟩,.bool ok0],.string ⟨a.toArray⟩,.bool ok0,.string ⟨a.toArray⟩,.func (.func 240) #[] #[.pointer (some ⟨w.heap.size+1+1+1,0,none⟩),.pointer (some ⟨w.heap.size+1+1+1+1,0,none⟩)],.string ⟨x.toArray⟩,undef,undef,undef,undef,undef,undef,undef,undef,undef,undef,undef,undef,undef,undef],defers:=[] }) ?assign ?body ?done ?stop
 case assign=>
  intro l x W K hK;simp only[zk]
  gi_wp2
  exact hK
 case body=>
  rintro l pre x W ⟨⟨bx,al,hL,hJ⟩,hpre⟩;obtain⟨hx1,hx2⟩:=wL _ _ _ hpre;have hAt:iF (dz a) pre.length bx al:=by unfold iF;rw[hx2];exact hL
  have hnx:(dz a).take (pre.length+1)=pre++ [x]:=by rw[dQ hx1,hx2]
  have HJ:=zH hJ;clear hJ0 hJ hL hsz
  by_cases h1:x=lD
  ·subst h1
   have HN:Hid (lookW (pre++ [lD])=some (true,true)):=zH (by rw[←hnx];exact hAt.all hx1 rfl);have E1:∀W,(iE (.string ⟨lD.toArray⟩) (.string ⟨#[97,108,108,98,111,120]⟩)).run Tryz.prog W=.ok (.bool true) W:=dC lD lD;have q1:W.cell? ⟨w.heap.size+1,0,none⟩=some (.bool bx):=HJ.out.bx.cell 0;have q2:W.cell? ⟨w.heap.size+1+1,0,none⟩=some (.bool al):=HJ.out.al.cell 0;have f1:W.frozen? ⟨w.heap.size+1,0,none⟩=false:=HJ.out.bx.frozen (by simp);have f2:W.frozen? ⟨w.heap.size+1+1,0,none⟩=false:=HJ.out.al.frozen (by simp);obtain⟨z,hz⟩:∃z,lD=z:=⟨_,rfl⟩;rw[hz]at E1 HN⊢;clear hx1 hx2 hAt hnx hpre hz
   gi_wp2_with fail
   exact⟨((KeepsOthers.setCell _ _ _).trans (KeepsOthers.setCell _ _ _)).from _,trivial,true,true,HN.out,((HJ.out.set.2.2 true).set.2.1 true)⟩
  ·by_cases h2:x=mH
   ·subst h2
    have HN:Hid (lookW (pre++ [mH])=some (true,al)):=zH (by rw[←hnx];exact hAt.box hx1 rfl);have E1:∀W,(iE (.string ⟨mH.toArray⟩) (.string ⟨#[97,108,108,98,111,120]⟩)).run Tryz.prog W=.ok (.bool false) W:=dC mH lD;have E2:∀W,(iE (.string ⟨mH.toArray⟩) (.string ⟨#[98,111,120]⟩)).run Tryz.prog W=.ok (.bool true) W:=dC mH mH;have q1:W.cell? ⟨w.heap.size+1,0,none⟩=some (.bool bx):=HJ.out.bx.cell 0;have f1:W.frozen? ⟨w.heap.size+1,0,none⟩=false:=HJ.out.bx.frozen (by simp);obtain⟨z,hz⟩:∃z,mH=z:=⟨_,rfl⟩;rw[hz]at E1 E2 HN⊢;clear hx1 hx2 hAt hnx hpre hz h1
    gi_wp2_with fail
    exact⟨(KeepsOthers.setCell _ _ _).from _,trivial,true,al,HN.out,HJ.out.set.2.1 true⟩
   ·have HN:Hid (lookW (dz a)=none):=zH (hAt.bad hx1 h2 h1)
    have E1:∀W,(iE (.string ⟨x.toArray⟩) (.string ⟨#[97,108,108,98,111,120]⟩)).run Tryz.prog W=.ok (.bool false) W:=fun W=>by
     have h:=dC x lD W;rw[P8 h1]at h;exact h
    have E2:∀W,(iE (.string ⟨x.toArray⟩) (.string ⟨#[98,111,120]⟩)).run Tryz.prog W=.ok (.bool false) W:=fun W=>by
     have h:=dC x mH W;rw[P8 h2]at h;exact h
    have q1:W.cell? ⟨w.heap.size,0,none⟩=some (.bool ok0):=HJ.out.ok.cell 0;have f1:W.frozen? ⟨w.heap.size,0,none⟩=false:=HJ.out.ok.frozen (by simp);clear hx1 hx2 hAt hnx hpre h1 h2
    gi_wp2_with fail
    exact⟨(KeepsOthers.setCell _ _ _).from _,rfl,HN.out,bx,al,HJ.out.set.1 false⟩
 case done=>
  rintro D W hD ⟨bx,al,hL,hJ⟩ hdef;have HR:Hid (gP b=(ok0&&bx,ok0&&al,ok0)):=zH (by rw[HLB.out,hL];rfl);have q0:W.cell? ⟨w.heap.size,0,none⟩=some (.bool ok0):=hJ.ok.cell 0;have q1:W.cell? ⟨w.heap.size+1,0,none⟩=some (.bool bx):=hJ.bx.cell 0;have q2:W.cell? ⟨w.heap.size+1+1,0,none⟩=some (.bool al):=hJ.al.cell 0;have HD:=zH hdef;have HB:Hid (∀m,Below w.heap.size w ((W.drewN m).putObj D (.deferred none))):=zH (fun m=>(below_drewN hJ.bel m).trans ⟨rfl,rfl,rfl,by simp,fun k hk=>World.putObj_heap_other (by omega)⟩);clear hJ0 hJ hL hsz hdef HU
  cases ok0
  all_goals
   gi_wp2_with fail
   gi_quiet (fail)
   gi_wp2_with fail
   rw[QJ];refine⟨by simp,.inl ⟨_,_,rfl,run_takeDeferred (w:=W.drewN nq) HD.out,?_⟩⟩;refine⟨_,results_tmp3 (by rfl) _ _ _,?_,HB.out _⟩;rw[HR.out];rfl
 case stop=>
  rintro D c W hD ⟨rfl,hL,bx,al,hJ⟩ hdef;have HR:Hid (gP b=(false,false,false)):=zH (by rw[HLB.out,hL];rfl);have q0:W.cell? ⟨w.heap.size,0,none⟩=some (.bool false):=hJ.ok.cell 0;have HD:=zH hdef;have HB:Hid (∀m,Below w.heap.size w ((W.drewN m).putObj D (.deferred none))):=zH (fun m=>(below_drewN hJ.bel m).trans ⟨rfl,rfl,rfl,by simp,fun k hk=>World.putObj_heap_other (by omega)⟩);have q1:W.cell? ⟨w.heap.size+1,0,none⟩=some (.bool bx):=hJ.bx.cell 0;have q2:W.cell? ⟨w.heap.size+1+1,0,none⟩=some (.bool al):=hJ.al.cell 0;clear hJ0 hJ hL hsz hdef HU
  gi_wp2_with fail
  gi_quiet (fail)
  gi_wp2_with fail
  rw[QJ];refine⟨by simp,.inl ⟨_,_,rfl,run_takeDeferred (w:=W.drewN nq) HD.out,?_⟩⟩;refine⟨_,results_tmp3 (by rfl) _ _ _,?_,HB.out _⟩;rw[HR.out];rfl
theorem JK (b:Txt)(w:World)(hU:U8 w)(hb:b.length≤100000):
  Calls Tryz.prog 157 #[.string ⟨b.toArray⟩] w fun e w'=>e=.returned (.tuple #[.bool (gP b).1,.bool (gP b).2.1,.bool (gP b).2.2])∧Below w.heap.size w w':=Qb.1 (Mm b w hU hb)
end
section
attribute [local go_sem] QX
attribute [local go_sem ↓ high] bg bK
abbrev Bd9 (B b:Nat)(tx:List UInt8)(W:World):Prop:=Lib.IsBuilderF 129 5 B b (Lib.byteCells tx) W
theorem Bd9.new (w:World):Bd9 w.heap.size w.heap.size [] (w.alloc (.cells #[.pointer none,.slice none 0 0] 129)):=
 .inl ⟨Px _,.slice none 0 0,PK w _,⟨rfl,.inl ⟨rfl,rfl⟩⟩,by simp[Value.ownBlock]⟩
theorem Bd9.grown {B b:Nat}{tx:List UInt8}{W W':World}{row:Option Nat}(h:Bd9 B b tx W)(hg:W.grownBy W' row)(hr:∀r,row=some r→r≠b∧ ∃o:Obj,W.heap[r]? =some o∧ ∀c fz,o≠Obj.cells c 5 fz):Bd9 B b tx W':=by
 have key:∀p,Lib.BuilderAtF 129 5 B b p (Lib.byteCells tx) W→Lib.BuilderAtF 129 5 B b p (Lib.byteCells tx) W':=fun p h=>by
  have hlt:=h.lt;obtain⟨hB,v,h0,hown,hne⟩:=h;refine⟨hB,v,(hg.block b hlt (fun e=>(hr b e.symm).1 rfl)).trans h0,hown.kept hg ?_,hne⟩;rcases hown.2 with⟨rfl,-⟩| ⟨g,cap,cur,fz,rfl,-,hgg,-⟩
  ·exact .inl rfl
  ·refine .inr (fun e=>?_)
   obtain⟨-,o,ho,hc⟩:=hr g e.symm;rw[hgg]at ho
   cases ho
   exact hc _ _ rfl
 rcases h with h | h
 ·exact .inl (key _ h)
 ·exact .inr (key _ h)
theorem Bd9.keep {B b:Nat}{tx:List UInt8}{W W':World}(h:Bd9 B b tx W)(hb:Below W.heap.size W W'):Bd9 B b tx W':=
 h.grown (row:=none) ⟨hb.os,hb.tape,hb.output,hb.size,fun k hk _=>hb.block k hk⟩ (fun r e=>by cases e)
theorem DL (W:World)(g j:Nat)(v:Value):W.grownBy (W.setCell ⟨g,j,none⟩ v) (some g):=
 have h:=(PG 0 W).setCell (p:=⟨g,j,none⟩) (P6 _) v
 ⟨h.os,h.tape,h.output,h.size,fun k _ hk=>PN _ _ _ _ (fun e=>hk (by rw[e]))⟩
theorem Bd9.set {B b g:Nat}{tx:List UInt8}{W:World}{e:TypeId}{L:List Value}(h:Bd9 B b tx W)(hb:Blk W g e L)(he:e≠5)(hne:g≠b)(j:Nat)(v:Value):Bd9 B b tx (W.setCell ⟨g,j,none⟩ v):=
 h.grown (DL W g j v) (fun r q=>by
  cases q
  exact⟨hne,_,hb,fun c fz q=>by injection q with _ q;exact he q⟩)
theorem Bd9.fr0 {B b B':Nat}{tx:List UInt8}(hB:b<B'):Fr0 B' (Bd9 B b tx):=fun A A' row h hg hr=>h.grown hg (fun r q=>by
 obtain⟨h1,o,h2,h3⟩:=hr r q;exact⟨by omega,o,h2,fun c fz q=>by subst q;cases h3⟩)
theorem OL {e:TypeId}{b B:Nat}{W W':World}(h:Lib.OthersKept e (some b) W W')(hb:Below B W W'){T:TypeId}{L:List Value}(hk:Blk W b T L):KeepsOthers W W':=
 ⟨hb.size,fun k o hk' ho=>h k o hk' (fun q=>by
  cases q
  have:W.heap[b]? =_:=hk;rw[this]at hk'
  cases hk'
  cases ho) (fun c fz q=>by subst q;cases ho)⟩
theorem CS {e:TypeId}{b:Nat}{W W':World}(h:Lib.OthersKept e (some b) W W'){g T:Nat}{L:List Value}(hk:Blk W g T L)(hne:g≠b)(ht:T≠e):Blk W' g T L:=
 h g _ hk (fun q=>by cases q;exact hne rfl) (fun c fz q=>by injection q with _ q;exact ht q)
theorem Bd9.blk {B b:Nat}{tx:List UInt8}{W:World}(h:Bd9 B b tx W):∃L,Blk W b 129 L:=by
 rcases h with⟨-,v,h,-⟩| ⟨-,v,h,-⟩
 ·exact⟨[_,v],h⟩
 ·exact⟨[_,v],h⟩
structure CoJ (w:World)(a cs:Txt)(ok:Bool)(W:World):Prop where
 bel:Below w.heap.size w W
 bd:Bd9 w.heap.size w.heap.size cs W
 ok:Blk W (w.heap.size+1) 4 [.bool ok]
 st:Blk W (w.heap.size+2) 9 [.string ⟨a.toArray⟩]
 fn:Blk W (w.heap.size+3) 110 [.func (.func 223) #[] #[]]
section
variable {w:World}{a cs:Txt}{ok:Bool}{A A':World}
theorem CoJ.keep (h:CoJ w a cs ok A)(hb:Below A.heap.size A A'):CoJ w a cs ok A':=
 ⟨h.bel.trans (hb.mono h.bel.size),h.bd.keep hb,h.ok.below hb,h.st.below hb,h.fn.below hb⟩
theorem CoJ.fr0 {B:Nat}(hB:w.heap.size<B):Fr0 B (CoJ w a cs ok):=fun A A' row h hg hr=>
 ⟨h.bel.grown hg h.bel.size (fun k e=>by have:=(hr k e).1;omega),Bd9.fr0 hB A A' row h.bd hg hr,Blk.fr0 A A' row h.ok hg hr,Blk.fr0 A A' row h.st hg hr,Blk.fr0 A A' row h.fn hg hr⟩
theorem CoJ.no (h:CoJ w a cs ok A):CoJ w a cs false (A.setCell ⟨w.heap.size+1,0,none⟩ (.bool false)):=
 ⟨h.bel.setCell (p:=⟨w.heap.size+1,0,none⟩) (by simp) _,h.bd.set h.ok (by decide) (by omega) _ _,h.ok.set 0 _,h.st.other (by omega) _ _,h.fn.other (by omega) _ _⟩
theorem CoJ.more (h:CoJ w a cs ok A){cs':Txt}(hd:Bd9 w.heap.size w.heap.size cs' A')(hb:Below w.heap.size A A')(hk:Lib.OthersKept 5 (some w.heap.size) A A'):CoJ w a cs' ok A'∧KeepsOthers A A':=by
 obtain⟨L,hL⟩:=h.bd.blk;exact⟨⟨h.bel.trans hb,hd,CS hk h.ok (by omega) (by decide),CS hk h.st (by omega) (by decide),CS hk h.fn (by omega) (by decide)⟩,OL hk hb hL⟩
end
theorem QT2 {P:Prop}(h:P:=by
 have HN:Hid (fQ (pre++ [x])=(cs++ [114],ok)):=zH (by rw[hst];simp);have HWK:Hid (∀m,CallsIn (Fence.wide.inRound l) m Tryz.prog 225 #[.pointer (some ⟨w.heap.size,0,none⟩),.int .u8 114] W fun e w'=>e=.returned .nilIface∧CoJ w a (cs++ [114]) ok w'∧KeepsOthers W w'):=zH fun m=>HWB.out 114 ok W m HJ.out
 clear hst k0
 gi_wp2_with (refine⟨trivial,?_⟩;gi_at_call 225;refine(HWK.out _).mono ?_;rintro e w' ⟨rfl,h1,h2⟩)
 refine⟨h2.from _,trivial,?_⟩;rw[HN.out];exact h1):P:=h
theorem QT3 {P:Prop}(h:P:=by
 have HN:Hid (fQ (pre++ [x])=(cs++ [108],ok)):=zH (by rw[hst];simp);have HWK:Hid (∀m,CallsIn (Fence.wide.inRound l) m Tryz.prog 225 #[.pointer (some ⟨w.heap.size,0,none⟩),.int .u8 108] W fun e w'=>e=.returned .nilIface∧CoJ w a (cs++ [108]) ok w'∧KeepsOthers W w'):=zH fun m=>HWB.out 108 ok W m HJ.out
 clear hst k0
 gi_wp2_with (refine⟨trivial,?_⟩;gi_at_call 225;refine(HWK.out _).mono ?_;rintro e w' ⟨rfl,h1,h2⟩)
 refine⟨h2.from _,trivial,?_⟩;rw[HN.out];exact h1):P:=h
theorem QT4 {P:Prop}(h:P:=by
 have HN:Hid (fQ (pre++ [x])=(cs++ [99],ok)):=zH (by rw[hst];simp);have HWK:Hid (∀m,CallsIn (Fence.wide.inRound l) m Tryz.prog 225 #[.pointer (some ⟨w.heap.size,0,none⟩),.int .u8 99] W fun e w'=>e=.returned .nilIface∧CoJ w a (cs++ [99]) ok w'∧KeepsOthers W w'):=zH fun m=>HWB.out 99 ok W m HJ.out
 clear hst k0
 gi_wp2_with (refine⟨trivial,?_⟩;gi_at_call 225;refine(HWK.out _).mono ?_;rintro e w' ⟨rfl,h1,h2⟩)
 refine⟨h2.from _,trivial,?_⟩;rw[HN.out];exact h1):P:=h
theorem D9 (b:Txt)(w:World)(hU:U8 w)(hb:b.length≤100000):
  CallsIn Fence.wide 9 Tryz.prog 196 #[.string ⟨b.toArray⟩] w fun e w'=>e=.returned (.tuple #[.string ⟨(aS b).1.toArray⟩,.bool (aS b).2])∧Below w.heap.size w w':=by
 obtain⟨a,ha⟩:∃a,jy b 46=a:=⟨_,rfl⟩;have hal:a.length≤100000:=by
  have:=qi b 46;rw[ha]at this;omega
 have HCB:Hid (aS b=fQ (dz a)):=zH (by rw[←ha];exact BJ b);have C1:Hid (∀W,CallsIn Fence.wide 8 Tryz.prog 74 #[.string ⟨b.toArray⟩,.string ⟨#[46]⟩] W fun e w'=>e=.returned (.string ⟨a.toArray⟩)∧W=w'):=zH fun W=>by
  have h:=zP b 46 W hb;rw[ha]at h;exact Qb.2 h
 have W1:Hid (∀W,CallsIn Fence.wide 8 Tryz.prog 195 #[.string ⟨a.toArray⟩] W fun e w'=>e=.returned (.func (.func 240) #[] #[.pointer (some ⟨W.heap.size,0,none⟩),.pointer (some ⟨W.heap.size+1,0,none⟩)])∧
  ((W.alloc (.cells #[.string ⟨a.toArray⟩] 9)).alloc (.cells #[.func (.func 223) #[] #[]] 110))=w'):=zH fun W=>Qb.2 (wG a W)
 have HU:=zH hU;have HWN:=zH (sK a);clear ha hU;refine callsIn_of_wp_marks Tryz.func196 rfl trivial ?_ rfl;simp only[Tryz.ntmps196,Q0,PI,PQ,Nat.reduceAdd,Nat.reduceSub,QT,QS,Q5,QU,Qt,Qe]
 gi_wp2_with (first
  | (refine⟨trivial,?_⟩;gi_at_call 74;refine(C1.out _).mono ?_;rintro e w' ⟨rfl,rfl⟩)
  | (refine⟨trivial,?_⟩;gi_at_call 195;refine(W1.out _).mono ?_;rintro e w' ⟨rfl,rfl⟩))
 obtain⟨W0,hW0⟩:∃W0,((((w.alloc (.cells #[.pointer none,.slice none 0 0] 129)).alloc (.cells #[.bool true] 4)).alloc (.cells #[.string ⟨a.toArray⟩] 9)).alloc (.cells #[.func (.func 223) #[] #[]] 110))=W0:=⟨_,rfl⟩;have hsz:W0.heap.size=w.heap.size+4:=by rw[←hW0];simp
 have hJ0:CoJ w a [] true W0:=by
  obtain⟨V1,hV1⟩:∃V1,w.alloc (.cells #[.pointer none,.slice none 0 0] 129)=V1:=⟨_,rfl⟩;obtain⟨V2,hV2⟩:∃V2,V1.alloc (.cells #[.bool true] 4)=V2:=⟨_,rfl⟩;obtain⟨V3,hV3⟩:∃V3,V2.alloc (.cells #[.string ⟨a.toArray⟩] 9)=V3:=⟨_,rfl⟩;rw[hV1,hV2,hV3]at hW0;have z1:V1.heap.size=w.heap.size+1:=by rw[←hV1];simp
  have z2:V2.heap.size=w.heap.size+2:=by rw[←hV2];simp[z1]
  have z3:V3.heap.size=w.heap.size+3:=by rw[←hV3];simp[z2]
  have b1:Below w.heap.size w V1:=by rw[←hV1];exact ae w _
  have b2:Below V1.heap.size V1 V2:=by rw[←hV2];exact ae V1 _
  have b3:Below V2.heap.size V2 V3:=by rw[←hV3];exact ae V2 _
  have b4:Below V3.heap.size V3 W0:=by rw[←hW0];exact ae V3 _
  have d1:=Bd9.new w;rw[hV1]at d1;have n2:Blk V2 (w.heap.size+1) 4 [.bool true]:=by rw[←hV2,←z1];exact PK V1 _
  have n3:Blk V3 (w.heap.size+2) 9 [.string ⟨a.toArray⟩]:=by rw[←hV3,←z2];exact PK V2 _
  have n4:Blk W0 (w.heap.size+3) 110 [.func (.func 223) #[] #[]]:=by rw[←hW0,←z3];exact PK V3 _
  exact⟨b1.trans ((b2.mono b1.size).trans ((b3.mono (by omega)).trans (b4.mono (by omega)))),((d1.keep b2).keep b3).keep b4,(n2.below b3).below b4,n3.below b4,n4⟩
 rw[hW0];have HSZ:=zH hsz;clear hW0 C1 W1;refine lV rfl (by decide) (gf:=240) (lb:= #[.pointer (some ⟨w.heap.size+2,0,none⟩),.pointer (some ⟨w.heap.size+2+1,0,none⟩)]) rfl trivial (enters_of Tryz.func240 (by kernel_rfl) rfl)
  (uZ 8 (w.heap.size+2) a (fun p W=>CoJ w a (fQ p).1 (fQ p).2 W) hal (fun p A A' h hb=>h.keep hb) (fun p W h=>⟨h.st,h.fn,HU.out.below h.bel⟩))
  (fun _ _=>trivial) (fun _ _ _ _ _ _ _=>trivial) (fun _=>rfl)
  (fun c W=>False)
  (fun p=>CoJ.fr0 (by omega))
  (fun p x=>(CoJ.fr0 (by omega)).and (Fr0.pure _ _))
  (fun c=>Fr0.pure _ _)
  (CoJ.fr0 (by omega))
  hJ0
  (fun x=>{tmps:= #[.string ⟨b.toArray⟩,undef,.string ⟨#[]⟩,.bool false,.pointer (some ⟨w.heap.size,0,none⟩),.pointer (some ⟨w.heap.size+1,0,none⟩),.string ⟨x.toArray⟩,.string ⟨b.toArray⟩,.string ⟨a.toArray⟩,.func (.func 240) #[] #[.pointer (some ⟨w.heap.size+1+1,0,none⟩),.pointer (some ⟨w.heap.size+1+1+1,0,none⟩)],.string ⟨x.toArray⟩,undef,undef,undef,undef,undef,undef,undef,undef,undef,undef,undef,undef,undef,undef,undef,undef],defers:=[] }) ?assign ?body ?done ?stop
 case assign=>
  intro l x W K hK;simp only[zk]
  gi_wp2
  exact hK
 case body=>
  rintro l pre x W ⟨hJ,hpre⟩;obtain⟨hx1,hx2⟩:=wL _ _ _ hpre;have hst:=Eb hx1;have hnx:(dz a).take (pre.length+1)=pre++ [x]:=by rw[dQ hx1,hx2]
  rw[hnx,hx2]at hst;have hxne:x≠ []:=IE a x (Qq hx1);obtain⟨y,hy⟩:∃y,x[0]? =some y:=by
   cases x with
   | nil=>exact absurd rfl hxne
   | cons y r=>exact⟨y,rfl⟩
  have hlen:(fQ pre).1.length≤100000000:=by
   have h1:=HWN.out;have h2:=(Pw.1 hx1).1;have h3:(fQ pre).1.length=pre.length:=by simp[fQ]
   omega
  rw[MO hy]at hst;have k0:∀W,(Instr.index 9 (.string ⟨x.toArray⟩) (.int .i64 0)).run Tryz.prog W=.ok (.int .u8 (y.toNat:Int)) W:=gZ x 0 y hy;obtain⟨cs,hcs⟩:∃cs,(fQ pre).1=cs:=⟨_,rfl⟩;obtain⟨ok,hok⟩:∃ok,(fQ pre).2=ok:=⟨_,rfl⟩;rw[hcs,hok]at hst hJ;rw[hcs]at hlen;have HJ:=zH hJ;have HWB:Hid (∀(k:UInt8) (ok':Bool) (V:World) m,CoJ w a cs ok' V→CallsIn (Fence.wide.inRound l) m Tryz.prog 225 #[.pointer (some ⟨w.heap.size,0,none⟩),.int .u8 (k.toNat:Int)] V fun e w'=>e=.returned .nilIface∧CoJ w a (cs++ [k]) ok' w'∧KeepsOthers V w'):=zH fun k ok' V m hV=>
   CallsIn.inRound l (Qb.2 ((FJ w.heap.size w.heap.size cs k V hV.bd hlen hV.bel.size).mono fun e w' ⟨h1,h2,h3,h4⟩=>⟨h1,hV.more h2 h3 h4⟩))
  clear hJ0 hJ hsz hx1 hx2 hpre hnx hxne hcs hok hy hlen
  by_cases e99:y=99
  ·subst e99
   have k0':∀W,(Instr.index 9 (.string ⟨x.toArray⟩) (.int .i64 0)).run Tryz.prog W=.ok (.int .u8 99) W:=k0;exact QT4
  by_cases e67:y=67
  ·subst e67
   have k0':∀W,(Instr.index 9 (.string ⟨x.toArray⟩) (.int .i64 0)).run Tryz.prog W=.ok (.int .u8 67) W:=k0;exact QT4
  by_cases e114:y=114
  ·subst e114
   have k0':∀W,(Instr.index 9 (.string ⟨x.toArray⟩) (.int .i64 0)).run Tryz.prog W=.ok (.int .u8 114) W:=k0;exact QT2
  by_cases e82:y=82
  ·subst e82
   have k0':∀W,(Instr.index 9 (.string ⟨x.toArray⟩) (.int .i64 0)).run Tryz.prog W=.ok (.int .u8 82) W:=k0;exact QT2
  by_cases e108:y=108
  ·subst e108
   have k0':∀W,(Instr.index 9 (.string ⟨x.toArray⟩) (.int .i64 0)).run Tryz.prog W=.ok (.int .u8 108) W:=k0;exact QT3
  by_cases e76:y=76
  ·subst e76
   have k0':∀W,(Instr.index 9 (.string ⟨x.toArray⟩) (.int .i64 0)).run Tryz.prog W=.ok (.int .u8 76) W:=k0;exact QT3
  have n1:=iK e99;have n2:=iK e67;have n3:=iK e114;have n4:=iK e82;have n5:=iK e108;have n6:=iK e76;have n1':((y.toNat:Int)==99)=false:=n1;have n2':((y.toNat:Int)==67)=false:=n2;have n3':((y.toNat:Int)==114)=false:=n3;have n4':((y.toNat:Int)==82)=false:=n4;have n5':((y.toNat:Int)==108)=false:=n5;have n6':((y.toNat:Int)==76)=false:=n6;have HN:Hid (fQ (pre++ [x])=(cs++ [108],false)):=zH (by rw[hst];simp[e99,e67,e114,e82,e108,e76]);have q1:W.cell? ⟨w.heap.size+1,0,none⟩=some (.bool ok):=HJ.out.ok.cell 0;have f1:W.frozen? ⟨w.heap.size+1,0,none⟩=false:=HJ.out.ok.frozen (by simp);have HWK:Hid (∀m,CallsIn (Fence.wide.inRound l) m Tryz.prog 225 #[.pointer (some ⟨w.heap.size,0,none⟩),.int .u8 108] (W.setCell ⟨w.heap.size+1,0,none⟩ (.bool false)) fun e w'=>e=.returned .nilIface∧CoJ w a (cs++ [108]) false w'∧KeepsOthers (W.setCell ⟨w.heap.size+1,0,none⟩ (.bool false)) w'):=zH fun m=>HWB.out 108 false _ m HJ.out.no
  clear hst n1 n2 n3 n4 n5 n6 e99 e67 e114 e82 e108 e76
  gi_wp2_with (refine⟨trivial,?_⟩;gi_at_call 225;refine(HWK.out _).mono ?_;rintro e w' ⟨rfl,h1,h2⟩)
  refine⟨((KeepsOthers.setCell _ _ _).trans h2).from _,trivial,?_⟩;rw[HN.out];exact h1
 case done=>
  rintro D W hD hJ hdef;obtain⟨R,hR⟩:∃R,fQ (dz a)=R:=⟨_,rfl⟩;rw[hR]at hJ;have HR:Hid (aS b=R):=zH (by rw[HCB.out,hR]);obtain⟨R1,R2⟩:=R;simp only at hJ;have q1:W.cell? ⟨w.heap.size+1,0,none⟩=some (.bool R2):=hJ.ok.cell 0;have HJ:=zH hJ;have HD:=zH hdef;have S1:Hid (∀W' m,Below W.heap.size W W'→CallsIn Fence.wide m Tryz.prog 111 #[.pointer (some ⟨w.heap.size,0,none⟩)] W' fun e w'=>e=.returned (.string ⟨R1.toArray⟩)∧(CoJ w a R1 R2 w'∧KeepsOthers W' w')):=zH fun W' m hW'=>Qb.2 ((BS w.heap.size w.heap.size R1 W' (HJ.out.keep hW').bd (HJ.out.keep hW').bel.size).mono fun e w' ⟨h1,h2,h3,h4⟩=>⟨h1,(HJ.out.keep hW').more h2 h3 h4⟩)
  clear hJ0 hJ hsz hdef HU hR
  gi_wp2_with fail
  refine jI ?_;refine wpIn_wide.2 ?_;go_region_with (go_at_call 111;refine(Qb.1 (S1.out _ 0 ((PG _ W).drew))).mono ?_;rintro e w' ⟨rfl,hj',ko'⟩;have q1':w'.cell? ⟨w.heap.size+1,0,none⟩=some (.bool R2):=hj'.ok.cell 0)
  all_goals
   gi_wp2_with fail
   have hd2:w'.heap[D]? =some (.deferred (some [])):=ko'.same _ _ HD.out rfl;have hz:=HSZ.out;refine⟨by simp[Act.put],.inl ⟨_,_,rfl,run_takeDeferred (w:=w') hd2,?_⟩⟩;refine⟨_,results_tmp2 (by rfl) _ _ _,?_,(hj'.bel).trans ⟨rfl,rfl,rfl,by simp,fun k hk=>World.putObj_heap_other (by omega)⟩⟩;rw[HR.out];rfl
 case stop=>
  intro D c W _ h _;exact h.elim
theorem BF (b:Txt)(w:World)(hU:U8 w)(hb:b.length≤100000):
  Calls Tryz.prog 196 #[.string ⟨b.toArray⟩] w fun e w'=>e=.returned (.tuple #[.string ⟨(aS b).1.toArray⟩,.bool (aS b).2])∧Below w.heap.size w w':=Qb.1 (D9 b w hU hb)
end
section
attribute [local go_sem ↓ high] bg bK
def RS.col (line:Int)(s:RS)(x:Txt):RS:={s with cols:=(if(aS x).1=[] then s.cols else(aS x).1.take 20),d:=s.d++(if(aS x).2 then [] else [(10,line+s.k-1,0)])++(if 20<(aS x).1.length then [(11,line+s.k-1,0)] else []) }
def tu (s:RS)(b:Bool)(x:Dgn):RS:=if b then {s with d:=s.d++ [x] } else s
def setCols (s:RS)(c:Txt):RS:={s with cols:=(if c=[] then s.cols else c) }
theorem Om (line:Int)(s:RS)(x:Txt):s.col line x=setCols (tu (tu s (!(aS x).2) (10,line+s.k-1,0)) (decide (20<(aS x).1.length)) (11,line+s.k-1,0)) ((aS x).1.take 20):=by
 unfold RS.col setCols tu;have h:((aS x).1.take 20=[])↔((aS x).1=[]):=by
  cases(aS x).1<;>simp
 by_cases h1:(aS x).1=[]
 ·rw[PZ h1,PZ (h.2 h1)]
  rw[h1]
  cases(aS x).2<;>simp
 ·rw[PO h1,PO (fun e=>h1 (h.1 e))]
  cases(aS x).2<;>by_cases h2:20<(aS x).1.length<;>simp[h2]
theorem RI.setCols {w:World}{B:Nat}{line:Int}{vl:Value}{s:RS}{W:World}(h:RI w B line vl s W){c:Txt}(hc:c≠ []):RI w B line vl (setCols s c) (W.setCell ⟨B,3,none⟩ (.string ⟨c.toArray⟩)):=
 h.put 3 _ (by unfold Go.Proofs.YtebabjnngdjceaaGreatDoor.setCols;rfl) (by unfold Go.Proofs.YtebabjnngdjceaaGreatDoor.setCols;rfl) (fun vr vd=>by unfold Go.Proofs.YtebabjnngdjceaaGreatDoor.setCols;rw[PO hc];rfl)
theorem RI.c3 {w:World}{B:Nat}{line:Int}{vl:Value}{s:RS}{W:World}(h:RI w B line vl s W):W.cell? ⟨B,3,none⟩=some (.string ⟨s.cols.toArray⟩)∧W.frozen? ⟨B,3,none⟩=false:=by
 obtain⟨vr,vd,h1,-,-⟩:=h.val;exact⟨h1.cell 3,h1.frozen (by simp)⟩
theorem QT1 {P:Prop}(h:P:=by
 cases ok
 all_goals
  go_enter Tryz.func160,Tryz.ntmps160
  go_wp2_with (first
  | (go_at_call 196;refine HC.out.mono ?_;rintro e w1 ⟨rfl,b1⟩;have R1:=zH (HRI.out.keep b1);have F1:=zH (FrR.below b1);obtain⟨p1,p2⟩:=R1.out.c3;clear b1)
  | (go_at_call 159;(with_reducible refine(A1.out _ _ R3.out rfl).mono ?_);rintro e w4 ⟨rfl,r,f⟩;have R4:=zH r;have F4:=zH (F3.out.trans f);clear r f)
  | (go_at_call 159;(with_reducible refine(A1.out _ _ R1.out rfl).mono ?_);rintro e w2 ⟨rfl,r,f⟩;have R2:=zH r;have F2:=zH (F1.out.trans f);clear r f)
  | (go_at_call 158;(with_reducible refine(T1.out _ _ 11 R4.out (hdl _)).mono ?_);rintro e w5 ⟨rfl,r,f⟩;have R5:=zH r;have F5:=zH (F4.out.trans f);obtain⟨y1,y2⟩:=R5.out.c3;clear r f)
  | (go_at_call 158;(with_reducible refine(T1.out _ _ _ R2.out hds).mono ?_);rintro e w3 ⟨rfl,r,f⟩;have R3:=zH r;have F3:=zH (F2.out.trans f);obtain⟨x1,x2⟩:=R3.out.c3;clear r f))
  go_end0
  first
  | exact⟨rfl,(HFIN.out _ _ _ hcc R5.out).1,F5.out.trans (HFIN.out _ _ _ hcc R5.out).2⟩
  | exact⟨rfl,(HFIN.out _ _ _ hcc R3.out).1,F3.out.trans (HFIN.out _ _ _ hcc R3.out).2⟩
  | exact⟨rfl,(HFIN.out _ _ _ hcc R1.out).1,F1.out.trans (HFIN.out _ _ _ hcc R1.out).2⟩
  | exact⟨rfl,R3.out,F3.out⟩
  | exact⟨rfl,R1.out,F1.out⟩):P:=h
theorem Ea {w:World}{B:Nat}{line:Int}{vl:Value}{s:RS}(x:Txt)(W:World)(hRI:RI w B line vl s W)(hU:U8 w)(hb:x.length≤2000)(hk:s.k≤1000000)(hd:s.d.length≤400000):
  Calls Tryz.prog 160 #[.pointer (some ⟨B,0,none⟩),.string ⟨x.toArray⟩] W fun e W'=>e=.returned (.tuple #[])∧RI w B line vl (s.col line x) W'∧FrR W W':=by
 rw[Om];obtain⟨ln,hln⟩:∃ln,line+(s.k:Int)-1=ln:=⟨_,rfl⟩;rw[hln];have HC:=zH (BF x W (hU.below hRI.bel) (by omega));obtain⟨c,hc⟩:∃c,(aS x).1=c:=⟨_,rfl⟩;obtain⟨ok,hok⟩:∃ok,(aS x).2=ok:=⟨_,rfl⟩;rw[hc,hok]at HC⊢;have hcl:c.length≤100000:=by
  rw[←hc,BJ];have h2:=sK (jy x 46);have h3:=qi x 46;show(List.map _ (dz (jy x 46))).length≤_;rw[Qy];omega
 have hsc:=az c;have A1:Hid (∀V s',RI w B line vl s' V→s'.k=s.k→Calls Tryz.prog 159 #[.pointer (some ⟨B,0,none⟩)] V fun e V'=>e=.returned (.int .i64 (w6 ln))∧RI w B line vl s' V'∧FrR V V'):=zH fun V s' hV hk'=>by
  have h:=pY V hV (by omega);rw[hk',hln]at h;exact h.mono fun e V' ⟨q1,q2⟩=>⟨q1,hV.keep q2,FrR.below q2⟩
 have T1:Hid (∀V s' (k:Int),RI w B line vl s' V→s'.d.length≤500000→Calls Tryz.prog 158 #[.pointer (some ⟨B,0,none⟩),.int .i64 k,.int .i64 (w6 ln)] V fun e V'=>e=.returned (.tuple #[])∧RI w B line vl {s' with d:=s'.d++ [(k,ln,0)] } V'∧FrR V V'):=zH fun V s' k hV hd'=>jN V hV k ln hd'
 have HRI:=zH hRI;have hdl:∀(q:Dgn),(s.d++ [q]).length≤500000:=fun q=>by simp;omega
 have HFIN:Hid (∀V s' (cc:Txt),cc≠ []→RI w B line vl s' V→RI w B line vl (setCols s' cc) (V.setCell ⟨B,3,none⟩ (.string ⟨cc.toArray⟩))∧FrR V (V.setCell ⟨B,3,none⟩ (.string ⟨cc.toArray⟩))):=zH fun V s' cc hcc hV=>⟨hV.setCols hcc,hV.frp 3 _⟩
 clear hRI hU hc hok hln;have hds:s.d.length≤500000:=by omega
 by_cases h20:20<c.length
 ·have hb20:decide (20<c.length)=true:=Qz h20
  have h20':(20:Int)<(c.length:Int):=by omega
  have KT:∀W,(Instr.slice 9 (.string ⟨c.toArray⟩) none (some (.int .i64 20)) none).run Tryz.prog W=.ok (.string ⟨(c.take 20).toArray⟩) W:=iC c 20 (by omega);obtain⟨cc,hce⟩:∃cc,c.take 20=cc:=⟨_,rfl⟩;have hcc:cc≠ []:=fun e=>by
   have:=PR List.length hce;rw[PW,e,PQ]at this;omega
  have hlc:=PW (l:=c) (i:=20);rw[hce]at KT hlc⊢;have N1:∀W,(rJ (.string ⟨cc.toArray⟩) (.string ⟨#[]⟩)).run Tryz.prog W=.ok (.bool true) W:=uG hcc;have hlc':cc.length=20:=by omega
  have hsc':=az cc;rw[hb20];clear hb20 hce hlc;exact QT1
 ·have hb20:decide (20<c.length)=false:=P8 h20
  have h20':¬(20:Int)<(c.length:Int):=by omega
  have hce:c.take 20=c:=QN (by omega);rw[hb20,hce];clear hb20 hce
  by_cases hcc:c=[]
  ·subst hcc
   have N1:∀W,(rJ (.string ⟨([]:Txt).toArray⟩) (.string ⟨#[]⟩)).run Tryz.prog W=.ok (.bool false) W:=Gp [];exact QT1
  ·have N1:∀W,(rJ (.string ⟨c.toArray⟩) (.string ⟨#[]⟩)).run Tryz.prog W=.ok (.bool true) W:=uG hcc
   exact QT1
end
theorem FrR.fr0 {W0:World}{B:Nat}(hB:W0.heap.size≤B):Fr0 B (FrR W0):=fun A A' row h hg hr=>
 ⟨PY h.size hg.size,fun g o ho h1 h2=>(hg.block g (Py.1 (h.same g o ho h1 h2)).1 (fun q=>by
  have:=(hr g q.symm).1;have:=(Py.1 ho).1;omega)).trans (h.same g o ho h1 h2),fun Q x h1 h2=>by
  obtain⟨k1,cur,fz,k2⟩:=h.rw4 Q x h1 h2;have k3:=aF.others hg hr Q cur fz (P6 _) k2;exact⟨(Qh (k3.trans k2.symm)).trans k1,cur,fz,k3⟩⟩
def RS.lk (line:Int)(s:RS)(x:Txt):RS:={k:=1,cols:=s.cols,rows:=s.rows,bx:=(gP x).1,al:=(gP x).2.1,d:=s.d++(if(gP x).2.2 then [] else [(10,line,0)]) }
def s00:RS:=⟨0,[],[],false,false,[]⟩
def dJ (line:Int)(L:List Txt):RS:=match L with
 | []=>s00
 | x::_=>if dV x 59 then s00.lk line x else s00
theorem CG {w:World}{B:Nat}{line:Int}{a0:Option Addr}{c0:Nat}(L:List Txt)(W:World)(hRI:RI w B line (.slice a0 L.length c0) s00 W)(hS:Ss w (.slice a0 L.length c0) L)(hU:U8 w)(hL:∀x∈L,x.length≤2000)(hl:L.length≤40000):
  Calls Tryz.prog 128 #[.pointer (some ⟨B,0,none⟩)] W fun e W'=>e=.returned (.tuple #[])∧RI w B line (.slice a0 L.length c0) (dJ line L) W'∧FrR W W':=by
 obtain⟨vr,vd,hbk,-,-⟩:=hRI.val;have c1:W.cell? ⟨B,1,none⟩=some (.slice a0 L.length c0):=hbk.cell 1;rcases L with _ | ⟨x,r⟩
 ·have HR:=zH hRI
  clear hRI hbk hS;simp only[PQ]at c1 HR⊢;go_enter Tryz.func128,Tryz.ntmps128
  go_wp2_with fail
  refine Qi (RP rfl _ _ _) rfl ?_;exact⟨rfl,HR.out,FrR.refl _⟩
 ·have hx:=hL x (by simp)
  have hSW:=hS.below hRI.bel;obtain⟨g,off,rfl,k0⟩:=Ss.at hSW (j:=0) (x:=x) rfl;rw[Qr]at k0;obtain⟨n,hn⟩:∃n,(x::r).length=n:=⟨_,rfl⟩;have hn1:0<n:=by rw[←hn];simp
  have hn0:((n:Int)==0)=false:=by simp;omega
  have hn2:(0:Int)<(n:Int):=by omega
  have hlk:dJ line (x::r)=if dV x 59 then s00.lk line x else s00:=rfl
  rw[hlk];rw[hn]at hRI c1⊢;have HS1:Hid (∀V,Calls Tryz.prog 156 #[.string ⟨x.toArray⟩,.string ⟨#[59]⟩] V fun e w'=>e=.returned (.bool (dV x 59))∧V=w'):=zH fun V=>uU x 59 V (by omega)
  have HR:=zH hRI
  cases he:dV x 59
  ·rw[he]at HS1
   rw[PO (by simp)];clear hRI hbk hS hSW hlk;go_enter Tryz.func128,Tryz.ntmps128
   go_wp2_with (go_at_call 156;refine(HS1.out _).mono ?_;rintro e w1 ⟨rfl,rfl⟩)
   refine Qi (RP rfl _ _ _) rfl ?_;exact⟨rfl,HR.out,FrR.refl _⟩
  ·rw[he]at HS1
   rw[PZ rfl];have HK:=zH (JK x W (hU.below hRI.bel) (by omega));obtain⟨⟨q1,q2,q3⟩,hq⟩:∃q,gP x=q:=⟨_,rfl⟩;have hlke:s00.lk line x={tu {s00 with k:=1} (!q3) (10,line,0)with bx:=q1,al:=q2}:=by
    unfold RS.lk tu;rw[hq]
    cases q3<;>rfl
   rw[hq]at HK;rw[hlke];have A1:Hid (∀V s',RI w B line (.slice (some ⟨g,off,none⟩) n c0) s' V→s'.k=1→Calls Tryz.prog 159 #[.pointer (some ⟨B,0,none⟩)] V fun e V'=>e=.returned (.int .i64 (w6 line))∧RI w B line (.slice (some ⟨g,off,none⟩) n c0) s' V'∧FrR V V'):=zH fun V s' hV hk'=>by
    have h:=pY V hV (by omega);have e:line+((s'.k:Nat):Int)-1=line:=by rw[hk'];omega
    rw[e]at h;exact h.mono fun e V' ⟨q1,q2⟩=>⟨q1,hV.keep q2,FrR.below q2⟩
   have T1:Hid (∀V s' (k:Int),RI w B line (.slice (some ⟨g,off,none⟩) n c0) s' V→s'.d.length≤500000→Calls Tryz.prog 158 #[.pointer (some ⟨B,0,none⟩),.int .i64 k,.int .i64 (w6 line)] V fun e V'=>e=.returned (.tuple #[])∧RI w B line (.slice (some ⟨g,off,none⟩) n c0) {s' with d:=s'.d++ [(k,line,0)] } V'∧FrR V V'):=zH fun V s' k hV hd'=>jN V hV k line hd'
   have HC:Hid (∀s' V,RI w B line (.slice (some ⟨g,off,none⟩) n c0) s' V→(V.cell? ⟨B,2,none⟩=some (.int .i64 (s'.k:Int))∧V.frozen? ⟨B,2,none⟩=false)∧(V.cell? ⟨B,5,none⟩=some (.bool s'.bx)∧V.frozen? ⟨B,5,none⟩=false)∧(V.cell? ⟨B,6,none⟩=some (.bool s'.al)∧V.frozen? ⟨B,6,none⟩=false)):=zH fun s' V hV=>by
    obtain⟨vr,vd,h1,-,-⟩:=hV.val;exact⟨⟨h1.cell 2,h1.frozen (by simp)⟩,⟨h1.cell 5,h1.frozen (by simp)⟩,⟨h1.cell 6,h1.frozen (by simp)⟩⟩
   have HN:Hid (∀V,RI w B line (.slice (some ⟨g,off,none⟩) n c0) s00 V→RI w B line (.slice (some ⟨g,off,none⟩) n c0) {s00 with k:=1} (V.setCell ⟨B,2,none⟩ (.int .i64 1))∧FrR V (V.setCell ⟨B,2,none⟩ (.int .i64 1))):=zH fun V hV=>⟨hV.put 2 _ rfl rfl (fun vr vd=>rfl),hV.frp 2 _⟩
   have HB2:Hid (∀V s',RI w B line (.slice (some ⟨g,off,none⟩) n c0) s' V→RI w B line (.slice (some ⟨g,off,none⟩) n c0) {s' with bx:=q1,al:=q2} ((V.setCell ⟨B,5,none⟩ (.bool q1)).setCell ⟨B,6,none⟩ (.bool q2))∧FrR V ((V.setCell ⟨B,5,none⟩ (.bool q1)).setCell ⟨B,6,none⟩ (.bool q2))):=zH fun V s' hV=>by
    have h5:RI w B line (.slice (some ⟨g,off,none⟩) n c0) {s' with bx:=q1} (V.setCell ⟨B,5,none⟩ (.bool q1)):=hV.put 5 _ rfl rfl (fun vr vd=>rfl);exact⟨h5.put 6 _ rfl rfl (fun vr vd=>rfl),(hV.frp 5 _).trans (h5.frp 6 _)⟩
   clear hRI hbk hS hSW hlk hq hlke hU hL
   cases q3
   all_goals
    go_enter Tryz.func128,Tryz.ntmps128
    go_wp2_with (first
     | (go_at_call 156;refine(HS1.out _).mono ?_;rintro e w1 ⟨rfl,rfl⟩)
     | (go_at_call 157;refine HK.out.mono ?_;rintro e w1 ⟨rfl,b1⟩;have R1:=zH (HR.out.keep b1);have F1:=zH (FrR.below b1);obtain⟨⟨p1,p2⟩,-,-⟩:=HC.out _ _ R1.out;replace p1:w1.cell? ⟨B,2,none⟩=some (.int .i64 0):=p1;have R2:=zH (HN.out _ R1.out).1;have F2:=zH (F1.out.trans (HN.out _ R1.out).2);obtain⟨-,⟨p3,p4⟩,⟨p5,p6⟩⟩:=HC.out _ _ R2.out;clear b1)
     | (go_at_call 159;(with_reducible refine(A1.out _ _ R2.out rfl).mono ?_);rintro e w3 ⟨rfl,r,f⟩;have R3:=zH r;have F3:=zH (F2.out.trans f);clear r f)
     | (go_at_call 158;(with_reducible refine(T1.out _ _ _ R3.out (by decide)).mono ?_);rintro e w4 ⟨rfl,r,f⟩;have R4:=zH r;have F4:=zH (F3.out.trans f);obtain⟨-,⟨p3',p4'⟩,⟨p5',p6'⟩⟩:=HC.out _ _ R4.out;clear r f))
    go_end0
    first
     | exact⟨rfl,(HB2.out _ _ R4.out).1,F4.out.trans (HB2.out _ _ R4.out).2⟩
     | exact⟨rfl,(HB2.out _ _ R2.out).1,F2.out.trans (HB2.out _ _ R2.out).2⟩
section
attribute [local go_sem] QX
abbrev Nf:=Txt×Bool×List Dgn×List Txt×Int
structure CoK (L:List Txt)(line:Int)(s0:RS)(T:Nf)(s:RS):Prop where
 kl:s.k≤L.length
 dl:s.d.length≤1+2*s.k
 rows:s.rows=s0.rows
 bx:s.bx=s0.bx
 al:s.al=s0.al
 inv:∃mc:Txt,s.cols=(if mc=[] then [108] else mc)∧dY (L.drop s.k) (line+s.k) mc s.d=T
structure CoE (L:List Txt)(line:Int)(s0:RS)(T:Nf)(s:RS):Prop where
 kl:s.k≤L.length
 dl:s.d.length≤2+2*s.k
 rows:s.rows=s0.rows
 bx:s.bx=s0.bx
 al:s.al=s0.al
 cols:s.cols=(if T.1=[] then [108] else T.1)
 d:s.d=T.2.2.1++(if T.2.1 then [] else [(7,line,0)])
 rest:L.drop s.k=T.2.2.2.1
 ln:T.2.2.2.2=line+s.k
theorem Nn (line:Int)(s:RS)(x:Txt):(s.next.col line x).k=s.k+1:=rfl
theorem CoK.step {L:List Txt}{line:Int}{s0:RS}{T:Nf}{s:RS}(h:CoK L line s0 T s){x:Txt}(hx:L[s.k]? =some x):
  (dV x 46=false→CoK L line s0 T (s.next.col line x))∧(dV x 46=true→CoE L line s0 T (s.next.col line x)):=by
 obtain⟨mc,h1,h2⟩:=h.inv;have hlt:=(Pw.1 hx).1;rw[fo hx]at h2;unfold dY at h2;simp only at h2;have hk:=Nn line s x;have hkk:((s.next.k:Nat):Int)=(s.k:Int)+1:=by show((s.k+1:Nat):Int)=_;omega
 have hln:line+((s.next.k:Nat):Int)-1=line+s.k:=by rw[hkk];omega
 have hd:(s.next.col line x).d=s.d++(if(aS x).2 then [] else [(10,line+(s.k:Int),0)])++(if 20<(aS x).1.length then [(11,line+(s.k:Int),0)] else []):=by
  show s.d++(if(aS x).2 then [] else [(10,line+((s.next.k:Nat):Int)-1,0)])++(if 20<(aS x).1.length then [(11,line+((s.next.k:Nat):Int)-1,0)] else [])=_;rw[hln]
 have hc:(s.next.col line x).cols=(if(if(aS x).1=[] then mc else(aS x).1.take 20)=[] then [108] else(if(aS x).1=[] then mc else(aS x).1.take 20)):=by
  show(if(aS x).1=[] then s.cols else(aS x).1.take 20)=_
  by_cases q:(aS x).1=[]
  ·rw[PZ q,PZ q,h1]
  ·rw[PO q,PO q,PO]
   intro e;apply q
   cases hcc:(aS x).1 with
   | nil=>rfl
   | cons a b=>rw[hcc]at e;simp at e
 have hdl:(s.next.col line x).d.length≤s.d.length+2:=by
  rw[hd];simp only[PL]
  split<;>split<;>simp
 have h3:=h.dl;rw[←hd]at h2;refine⟨fun he=>?_,fun he=>?_⟩
 ·rw[PO (by rw[he];simp)]at h2
  refine⟨by rw[hk];omega,by rw[hk];omega,h.rows,h.bx,h.al,_,hc,?_⟩;rw[hk,←h2,R8,←Int.add_assoc];rfl
 ·rw[PZ he]at h2
  subst h2;refine⟨by rw[hk];omega,by rw[hk];omega,h.rows,h.bx,h.al,hc,by simp,rfl,?_⟩;show line+(s.k:Int)+1=line+((s.k+1:Nat):Int);omega
theorem CoK.fin {L:List Txt}{line:Int}{s0:RS}{T:Nf}{s:RS}(h:CoK L line s0 T s)(hk:s.k=L.length):CoE L line s0 T {s with d:=s.d++ [(7,line,0)] }:=by
 obtain⟨mc,h1,h2⟩:=h.inv;rw[hk,Rk]at h2;unfold dY at h2;subst h2;have h3:=h.dl;refine⟨h.kl,by simp;omega,h.rows,h.bx,h.al,h1,by simp,?_,?_⟩
 ·show L.drop s.k=[]
  rw[hk,Rk]
 ·show line+(L.length:Int)=line+(s.k:Int)
  rw[hk]
structure CoM (w W0:World)(B C:Nat)(line:Int)(vl:Value)(s:RS)(W:World):Prop where
 ri:RI w B line vl s W
 fr:FrR W0 W
 b1:Blk W C 183 [.pointer (some ⟨B,0,none⟩)]
 b2:Blk W (C+1) 183 [.pointer (some ⟨B,0,none⟩)]
theorem CoM.keep {w W0:World}{B C:Nat}{line:Int}{vl:Value}{s:RS}{A A':World}(h:CoM w W0 B C line vl s A)(hb:Below A.heap.size A A'):CoM w W0 B C line vl s A':=
 ⟨h.ri.keep hb,h.fr.trans (FrR.below hb),h.b1.below hb,h.b2.below hb⟩
theorem CoM.go {w W0:World}{B C:Nat}{line:Int}{vl:Value}{s s':RS}{A A':World}(h:CoM w W0 B C line vl s A)(hr:RI w B line vl s' A')(hf:FrR A A'):CoM w W0 B C line vl s' A':=
 ⟨hr,h.fr.trans hf,hf.blk h.b1 (by decide) (by decide),hf.blk h.b2 (by decide) (by decide)⟩
theorem CoM.fr0 {w W0:World}{B C:Nat}{line:Int}{vl:Value}{s:RS}{B':Nat}(h1:w.heap.size≤B')(h2:W0.heap.size≤B'):Fr0 B' (CoM w W0 B C line vl s):=fun A A' row h hg hr=>
 ⟨RI.fr0 h1 A A' row h.ri hg hr,FrR.fr0 h2 A A' row h.fr hg hr,Blk.fr0 A A' row h.b1 hg hr,Blk.fr0 A A' row h.b2 hg hr⟩
theorem yB {w:World}{B:Nat}{line:Int}{a0:Option Addr}{c0:Nat}(L:List Txt)(s0:RS)(W:World)(hRI:RI w B line (.slice a0 L.length c0) s0 W)(hS:Ss w (.slice a0 L.length c0) L)(hU:U8 w)(hL:∀x∈L,x.length≤2000)(hl:L.length≤40000)
  (hk0:s0.k≤L.length) (hd0:s0.d.length≤1+2*s0.k):
  CallsIn Fence.wide 9 Tryz.prog 129 #[.pointer (some ⟨B,0,none⟩)] W fun e W'=>e=.returned (.tuple #[])∧ ∃s,RI w B line (.slice a0 L.length c0) s W'∧FrR W W'∧CoE L line s0 (dY (L.drop s0.k) (line+s0.k) [] s0.d) s:=by
 obtain⟨T,hT⟩:∃T,dY (L.drop s0.k) (line+s0.k) [] s0.d=T:=⟨_,rfl⟩;rw[hT];have HC3:=zH hRI.c3;have hlt:=hRI.lt;have L1:Hid (∀V,CallsIn Fence.wide 8 Tryz.prog 130 #[.pointer (some ⟨B,0,none⟩)] V fun e w'=>e=.returned (.func (.func 161) #[] #[.pointer (some ⟨V.heap.size,0,none⟩)])∧V.alloc (.cells #[.pointer (some ⟨B,0,none⟩)] 183)=w'):=zH fun V=>Qb.2 (qx B V)
 have bA:=ae W (.cells #[.pointer (some ⟨B,0,none⟩)] 183);have kA:=PK W (.cells #[.pointer (some ⟨B,0,none⟩)] 183);have hRA:=hRI.keep bA;obtain⟨q3,f3⟩:=hRA.c3;refine callsIn_of_wp_marks Tryz.func129 rfl trivial ?_ rfl;simp only[Tryz.ntmps129,Q0,PI,PQ,Nat.reduceAdd,Nat.reduceSub,QT,QS,Q5,QU,Qt,Qe]
 gi_wp2_with (refine⟨trivial,?_⟩;gi_at_call 130;refine(L1.out _).mono ?_;rintro e w' ⟨rfl,rfl⟩)
 have hpos:∀(A:World) (s:RS) x,L[s.k]? =some x→x.length≤2000:=fun A s x hx=>hL x (Qq hx)
 have hst0:RI w B line (.slice a0 L.length c0) {s0 with cols:=[108] } (W.setCell ⟨B,3,none⟩ (.string ⟨#[108]⟩)):=hRI.put 3 _ rfl rfl (fun vr vd=>rfl);have hK0:CoK L line s0 T {s0 with cols:=[108] }:=⟨hk0,hd0,rfl,rfl,rfl,[],rfl,hT⟩;obtain⟨VA,hVA⟩:∃VA,W.setCell ⟨B,3,none⟩ (.string ⟨#[108]⟩)=VA:=⟨_,rfl⟩;have hzA:VA.heap.size=W.heap.size:=by rw[←hVA];simp
 have hFA:FrR W VA:=by rw[←hVA];exact hRI.frp 3 _
 rw[hVA]at hst0⊢;obtain⟨VB,hVB⟩:∃VB,VA.alloc (.cells #[.pointer (some ⟨B,0,none⟩)] 183)=VB:=⟨_,rfl⟩;obtain⟨VC,hVC⟩:∃VC,VB.alloc (.cells #[.pointer (some ⟨B,0,none⟩)] 183)=VC:=⟨_,rfl⟩;rw[hVB,hVC];have hzB:VB.heap.size=W.heap.size+1:=by rw[←hVB];simp[hzA]
 have hzC:VC.heap.size=W.heap.size+2:=by rw[←hVC];simp[hzB]
 have bB:Below VA.heap.size VA VB:=by rw[←hVB];exact ae VA _
 have bC:Below VB.heap.size VB VC:=by rw[←hVC];exact ae VB _
 have kB:Blk VB W.heap.size 183 [.pointer (some ⟨B,0,none⟩)]:=by rw[←hVB,←hzA];exact PK VA _
 have kC:Blk VC (W.heap.size+1) 183 [.pointer (some ⟨B,0,none⟩)]:=by rw[←hVC,←hzB];exact PK VB _
 have hM0:CoM w W B W.heap.size line (.slice a0 L.length c0) {s0 with cols:=[108] } VC:=⟨(hst0.keep bB).keep bC,(hFA.trans (FrR.below bB)).trans (FrR.below bC),kB.below bC,kC⟩;have hWs:=hRI.bel.size;have HRI:=zH hRI;have HU:=zH hU;have HCOL:Hid (∀(s:RS) x V l m,CoM w W B W.heap.size line (.slice a0 L.length c0) s V→s.k≤L.length→s.d.length≤1+2*s.k→x.length≤2000→CallsIn (Fence.wide.inRound l) m Tryz.prog 160 #[.pointer (some ⟨B,0,none⟩),.string ⟨x.toArray⟩] V fun e V'=>e=.returned (.tuple #[])∧CoM w W B W.heap.size line (.slice a0 L.length c0) (s.col line x) V'∧FrR V V'):=zH fun s x V l m hV hk hd hx=>
  CallsIn.inRound l (Qb.2 ((Ea x V hV.ri hU hx (by omega) (by omega)).mono fun e V' ⟨q1,q2,q3⟩=>⟨q1,hV.go q2 q3,q3⟩))
 clear hVA hVB hVC bB bC kB kC hst0 hFA hRA q3 f3 kA bA L1 HC3;refine lV rfl (by decide) (gf:=161) (lb:= #[.pointer (some ⟨W.heap.size+1,0,none⟩)]) rfl trivial (enters_of Tryz.func161 (by kernel_rfl) rfl)
  (uP 8 (W.heap.size+1) B w line L a0 c0 (fun s x=>s.next.col line x) (fun s V=>CoM w W B W.heap.size line (.slice a0 L.length c0) s V∧CoK L line s0 T s) (fun s x V=>CoM w W B W.heap.size line (.slice a0 L.length c0) s.next V∧(L[s.k]? =some x∧CoK L line s0 T s)) (by omega) hS
   (fun s x=>by rw[Nn];omega)
   (fun s V h=>⟨h.1.ri,h.2.kl,h.1.b2⟩)
   (fun s A A' h hb=>⟨h.1.keep hb,h.2⟩)
   (fun s A x h hx=>⟨h.1.go h.1.ri.next (h.1.ri.frp 2 _),hx,h.2⟩)
   (fun s x A A' h hb=>⟨h.1.keep hb,h.2⟩)
   (fun s x V h=>⟨h.1.ri,h.1.b2⟩) {s0 with cols:=[108] })
  (fun _ _=>trivial) (fun _ _ _ _ _ _ _=>trivial) (fun _=>rfl)
  (fun c V=>c=.ret∧ ∃s,CoE L line s0 T s∧CoM w W B W.heap.size line (.slice a0 L.length c0) s V)
  (fun s=>(CoM.fr0 (by omega) (by omega)).and (Fr0.pure _ _))
  (fun s x=>(CoM.fr0 (by omega) (by omega)).and (Fr0.pure _ _))
  (fun c=>(Fr0.pure _ _).and (Fr0.ex fun s=>(Fr0.pure _ _).and (CoM.fr0 (by omega) (by omega))))
  (Fr0.ex fun s=>((CoM.fr0 (by omega) (by omega)).and (Fr0.pure _ _)).and (Fr0.pure _ _))
  ⟨hM0,hK0⟩
  (fun x=>{tmps:= #[.pointer (some ⟨B,0,none⟩),.pointer (some ⟨W.heap.size,0,none⟩),.string ⟨x.toArray⟩,.pointer (some ⟨B,0,none⟩),.pointer (some ⟨B,0,none⟩),.pointer (some ⟨B,3,none⟩),.pointer (some ⟨B,3,none⟩),.pointer (some ⟨B,0,none⟩),.func (.func 161) #[] #[.pointer (some ⟨W.heap.size+1,0,none⟩)],.string ⟨x.toArray⟩,undef,undef,undef,undef,undef,undef,undef,undef,undef,undef,undef],defers:=[] }) ?assign ?body ?done ?stop
 case assign=>
  intro l x V K hK;simp only[zk]
  gi_wp2
  exact hK
 case body=>
  rintro l s x V ⟨hM,hx,hK⟩;have hst:=hK.step hx;have hxl:=hpos V s x hx;have hkl:=(Pw.1 hx).1;have hdl:=hK.dl;have q1:V.cell? ⟨W.heap.size,0,none⟩=some (.pointer (some ⟨B,0,none⟩)):=hM.b1.cell 0;have HC1:Hid (∀m,CallsIn (Fence.wide.inRound l) m Tryz.prog 160 #[.pointer (some ⟨B,0,none⟩),.string ⟨x.toArray⟩] V fun e V'=>e=.returned (.tuple #[])∧CoM w W B W.heap.size line (.slice a0 L.length c0) (s.next.col line x) V'∧FrR V V'):=zH fun m=>HCOL.out s.next x V l m hM (by show s.k+1≤_;omega) (by show s.d.length≤1+2*(s.k+1);omega) hxl
  obtain⟨b46,hb⟩:∃b46,dV x 46=b46:=⟨_,rfl⟩;have HE:Hid (∀V' m,CallsIn (Fence.wide.inRound l) m Tryz.prog 156 #[.string ⟨x.toArray⟩,.string ⟨#[46]⟩] V' fun e w'=>e=.returned (.bool b46)∧V'=w'):=zH fun V' m=>by
   have h:=uU x 46 V' (by omega);rw[hb]at h;exact CallsIn.inRound l (Qb.2 h)
  rw[hb]at hst;have HST:=zH hst;clear hM hK hst hx HCOL hM0 hK0 hb hRI hS hU hpos hL hT
  cases b46
  all_goals
   gi_wp2_with (first
    | (refine⟨trivial,?_⟩;gi_at_call 160;refine(HC1.out _).mono ?_;rintro e V1 ⟨rfl,m1,f1⟩;have M1:=zH m1;have F1:=zH f1;clear m1 f1)
    | (refine⟨trivial,?_⟩;gi_at_call 156;refine(HE.out _ _).mono ?_;rintro e V2 ⟨rfl,rfl⟩))
   have HKO:Hid (KeepsOthers V V1):=zH F1.out.ko
   first
    | exact⟨HKO.out.from _,rfl,_,HST.out.2 (by simp),M1.out⟩
    | exact⟨HKO.out.from _,trivial,M1.out,HST.out.1 (by simp)⟩
 case done=>
  rintro D V hD ⟨s,⟨hM,hK⟩,hk⟩ hdef;have q1:V.cell? ⟨W.heap.size,0,none⟩=some (.pointer (some ⟨B,0,none⟩)):=hM.b1.cell 0;obtain⟨vr,vd,hbk,-,-⟩:=hM.ri.val;have q2:V.cell? ⟨B,0,none⟩=some (.int .i64 (w6 line)):=hbk.cell 0;have hdl:=hK.dl;have T1:=zH (jN V.drew (hM.ri.keep (PG V.heap.size V).drew) 7 line (by omega));have HF:=zH (hM.fr.trans (FrR.below (PG V.heap.size V).drew));have HE:=zH (hK.fin hk);have HD:=zH hdef;clear hbk hM hK hdef HCOL hM0 hK0 hRI hS hU hpos hL hT
  gi_wp2_with fail
  refine wpIn_wide.2 ?_;go_still_tail 5,(by kernel_rfl)
  change wpList _ _ _ _ _ V.drew;go_wp2_with (go_at_call 158;refine T1.out.mono ?_;rintro e V1 ⟨rfl,r1,f1⟩;have R1:=zH r1;have F1:=zH f1;clear r1 f1)
  have hd2:V1.heap[D]? =some (.deferred (some [])):=F1.out.ko.same _ _ HD.out rfl;refine⟨by simp,.inl ⟨_,_,rfl,run_takeDeferred (w:=V1) hd2,?_⟩⟩;refine⟨_,RP rfl _ _ _,rfl,_,?_,?_,HE.out⟩
  ·exact(RI.fr0 (Px _)).put _ R1.out (by omega) hd2 rfl
  ·exact(FrR.fr0 (Px _)).put _ (HF.out.trans F1.out) (by omega) hd2 rfl
 case stop=>
  rintro D c V hD ⟨rfl,s,hE,hM⟩ hdef;have HM:=zH hM;have HE:=zH hE;have HD:=zH hdef;clear hM hE hdef HCOL hM0 hK0 hRI hS hU hpos hL hT
  gi_wp2_with fail
  refine⟨by simp,.inl ⟨_,_,rfl,run_takeDeferred (w:=V) HD.out,?_⟩⟩;refine⟨_,RP rfl _ _ _,rfl,_,?_,?_,HE.out⟩
  ·exact(RI.fr0 (Px _)).put _ HM.out.ri (by omega) HD.out rfl
  ·exact(FrR.fr0 (Px _)).put _ HM.out.fr (by omega) HD.out rfl
theorem vV {w:World}{B:Nat}{line:Int}{a0:Option Addr}{c0:Nat}(L:List Txt)(s0:RS)(W:World)(hRI:RI w B line (.slice a0 L.length c0) s0 W)(hS:Ss w (.slice a0 L.length c0) L)(hU:U8 w)(hL:∀x∈L,x.length≤2000)(hl:L.length≤40000)
  (hk0:s0.k≤L.length) (hd0:s0.d.length≤1+2*s0.k):
  Calls Tryz.prog 129 #[.pointer (some ⟨B,0,none⟩)] W fun e W'=>e=.returned (.tuple #[])∧ ∃s,RI w B line (.slice a0 L.length c0) s W'∧FrR W W'∧CoE L line s0 (dY (L.drop s0.k) (line+s0.k) [] s0.d) s:=Qb.1 (yB L s0 W hRI hS hU hL hl hk0 hd0)
end
end Go.Proofs.YtebabjnngdjceaaGreatDoor
