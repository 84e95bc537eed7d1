/- man.Inline. -/
import Derived.Test.YtebabjnngdjceaaGreatDoorJI
import Derived.Test.YtebabjnngdjceaaGreatDoorKH
import Derived.Deep.RegionHeld3
import Derived.Test.YtebabjnngdjceaaGreatDoorZ0
set_option linter.unusedVariables false
set_option linter.unusedSimpArgs false
set_option maxRecDepth 100000
set_option maxHeartbeats 4000000
namespace Go.Proofs.YtebabjnngdjceaaGreatDoor
open Go.RowKit
structure iB (w:World) (x:RV) (r:bu):Prop where
 line:x.1=r.line
 mac:x.2.1=r.mac
 text:x.2.2.2=r.text
 args:Ss w (bG x.2.2.1) r.args
structure gT (r:bu):Prop where
 text:r.text.length≤2000
 args:lnT r.args≤40000
 each: ∀s∈r.args,s.length≤2000
theorem iB.below {w w':World} {x:RV} {r:bu} (h:iB w x r) (hb:Below w.heap.size w w'):iB w' x r:=⟨h.line,h.mac,h.text,h.args.below hb⟩
def dQ (w:World) (r:bu) (e:Ending) (w':World):Prop:=
 ∃x d,e= .returned (.tuple #[x,d,.bool (fD r).isSome])∧aI w.heap.size w' x ((fD r).getD ([],[])).1∧aL w.heap.size w' d (cK r.line ((fD r).getD ([],[])).2)∧Below w.heap.size w w'
theorem oW {w w2 w3:World} {q:List Gly×List (Int×Int)} {ln:Int} {x d:Value} (h1:aI w.heap.size w2 x q.1) (h2:aL w.heap.size w2 d (bC q.2)) (hb:Below w.heap.size w w2) (h3:aL w.heap.size w3 d (atL ln (bC q.2))) (hE:Exc (fun k=>d.ownBlock=some k) w2 w3):
  aI w.heap.size w3 x q.1∧aL w.heap.size w3 d (cK ln q.2)∧Below w.heap.size w w3:=by
 refine⟨h1.kp (fun k e=>hE.block k (h1.ltb e) (fun e2=>?_)),by rw[←LP];exact h3,hb.trans (hE.below hb.size (fun k hk e=>by have:=(h2.ty e).1;omega))⟩;rcases bE h1 h2 (by decide)with z | z
 ·rw[z]at e;cases e
 ·exact z (e.trans e2.symm)
theorem dQ.none {w:World} {r:bu} (h:fD r=none) {w':World} (hb:Below w.heap.size w w'):dQ w r (.returned (.tuple #[.slice none 0 0,.slice none 0 0,.bool false])) w':=by
 refine⟨.slice .none 0 0,.slice .none 0 0,?_,?_,?_,hb⟩
 ·rw[h];rfl
 ·rw[h];exact ag.nil _ _
 ·rw[h];exact ag.nil _ _
theorem QTW {P:Prop}(h:P:=by
 obtain⟨q1,q2,q3⟩:=HC2.out;have HA1:=zH (HA.out _ _ q2);have HFN:=zH (fun w3 h1 h2=>oW (w3:=w3) (ln:=ln) q1 q2 q3 h1 h2);clear q1 q2 q3 HC2 HA;go_wp2_with fail
 refine HA1.out.mono ?_;rintro e w4 ⟨rfl,m1,m2⟩;obtain⟨p1,p2,p3⟩:=HFN.out w4 m1 m2;have HI2:=zH (HI.out _ _ w4 p1 p2 p3);clear m1 m2 p1 p2 p3 HFN HA1 HI;go_wp2_with fail
 go_ret3;exact HI2.out):P:=h
theorem FC (ln:Int) (args:List Txt) (text:Txt) (av:Option Addr×Nat×Nat) (w:World) (ha:Ss w (bG av) args) (hl:gT ⟨ln,[],args,text⟩):
  Calls Tryz.prog 15 #[.agg (ak (ln,[],av,text)).toArray] w (dQ w ⟨ln,[],args,text⟩):=by
 obtain⟨W1,hW1⟩: ∃W,w.alloc (.cells (ak (ln,[],av,text)).toArray 33)=W:=⟨_,rfl⟩;have b1:Below w.heap.size w W1:=by rw[←hW1];exact af _ _
 have kx:Blk W1 w.heap.size 33 (ak (ln,[],av,text)):=by rw[←hW1];exact O9 w _
 have hz1:=b1.size;obtain⟨q,hq⟩: ∃q,lgF text=q:=⟨_,rfl⟩;have hin:fD ⟨ln,[],args,text⟩=some q:=by rw[←hq];rfl
 have hql:q.2.length≤80000:=by rw[←hq];have h1:=mJ 0 text;have h2:=hl.text;simp only at h2;show(lgS 0 text).2.length≤_;omega
 have HC:Hid (∀V,Below W1.heap.size W1 V→Calls Tryz.prog 33 #[.agg #[.int .u8 0,.int .u8 0],.string ⟨text.toArray⟩] V fun e w'=> ∃x f1 f2 d,e= .returned (.tuple #[x,.agg #[.int .u8 f1,.int .u8 f2],d])∧w'.cell? ⟨w.heap.size,0,none⟩=some (.int .i64 ln)∧w'.cell? ⟨w.heap.size,2,none⟩=some (.slice av.1 av.2.1 av.2.2)∧Hid (aI w.heap.size w' x q.1∧aL w.heap.size w' d (bC q.2)∧Below w.heap.size w w')):=zH (fun V hV=>by
  have hb:=b1.trans (hV.mono hz1);refine(ui 0 0 text V hl.text).mono ?_;rintro e w' ⟨x,d,rfl,o1,o2,o3⟩;refine⟨x,_,_,d,rfl,(kx.below (hV.trans (o3.mono hV.size))).cell 0,(kx.below (hV.trans (o3.mono hV.size))).cell 2,zH ⟨?_,?_,hb.trans (o3.mono hb.size)⟩⟩
  ·rw[←hq];exact o1.mono hb.size
  ·rw[←hq]
   have:=ym 0 text;rw[this]at o2;exact o2.mono hb.size)
 have HA:Hid (∀V d,aL w.heap.size V d (bC q.2)→Calls Tryz.prog 37 #[.int .i64 ln,d] V fun e w'=>e= .returned d∧aL w.heap.size w' d (atL ln (bC q.2))∧Exc (fun k=>d.ownBlock=some k) V w'):=zH (fun V d h=>oQ ln V h (by unfold bC;simp;omega));have HK:Hid (∀V,Below W1.heap.size W1 V→ ∀(i:Nat) u,(ak (ln,[],av,text))[i]? =some u→V.cell? ⟨w.heap.size,i,none⟩=some u):=zH (fun V hV i u hu=>by rw[(kx.below hV).cell i];exact hu);have HI:Hid (∀x d V,aI w.heap.size V x q.1→aL w.heap.size V d (cK ln q.2)→Below w.heap.size w V→dQ w ⟨ln,[],args,text⟩ (.returned (.tuple #[x,d,.bool true])) V):=zH (fun x d V h1 h2 h3=>by
  unfold dQ;rw[hin];exact⟨x,d,rfl,h1,h2,h3⟩)
 have x0:=kx.cell 0;have x1:=kx.cell 1;have x2:=kx.cell 2;have x3:=kx.cell 3;obtain⟨va,vn,vc⟩:=av;simp only[ak,bG,OY,OZ]at hW1 HC HK HI x0 x1 x2 x3 ⊢;have HB1:=zH b1;clear ha hl b1 kx hz1 hq hin hql;go_enter Tryz.func15,Tryz.ntmps15
 go_wp2_with fail
 refine(HC.out W1 (OX _ _)).mono ?_;rintro e w2 ⟨x,f1,f2,d,rfl,hc0,hc2,HC2⟩;clear x0 x1 x2 x3 HC HK hc2;exact QTW
theorem QTV {P:Prop}(h:P:=by
 rintro e w7 ⟨rfl,rfl⟩;go_wp2_with fail
 refine hK.out _ _ ?_ (fun hHeld=>?_)
 ·exact HSC.out _ HX.out
 clear hK K
 try simp only[zT,zS,zZ,Act.put,yT,yZ,yS]
 refine wpAnyH_ready (rs:=[5]) (by kernel_rfl) (by simp) ?_;refine AllReadyH.cons rfl (fun K hK=>?_) AllReadyH.nil
 try simp only[zT,zS,zZ]
 go_simp;go_at_call 34
 refine(HC.out _ HX.out).mono ?_;rintro e w2 ⟨x,d,rfl,hc0,hc2,HC2⟩;go_wp2_with fail
 refine hK.out _ _ ?_ (fun hHeld=>?_)
 ·exact hc2
 clear hK K
 try simp only[zT,zS,zZ,Act.put,yT,yZ,yS]
 refine zK (i:=6) (v:= .tuple #[x,d]) rfl ?_;simp only[zT,zS,zZ,Act.put,yT,yZ,yS];refine zK (i:=7) (v:=x) rfl ?_;simp only[zT,zS,zZ,Act.put,yT,yZ,yS];refine zK (i:=8) (v:=d) rfl ?_;simp only[zT,zS,zZ,Act.put,yT,yZ,yS];refine zK (i:=9) (v:=x) rfl ?_;simp only[zT,zS,zZ,Act.put,yT,yZ,yS];refine zK (i:=10) (v:=d) rfl ?_;simp only[zT,zS,zZ,Act.put,yT,yZ,yS];refine PK (by kernel_rfl) ?_ _;clear x0 x1 x2 x3 HC HK hc2 HSC HX;obtain⟨q1,q2,q3⟩:=HC2.out;have HA1:=zH (HA.out _ _ q2);have HFN:=zH (fun w3 h1 h2=>oW (w3:=w3) (ln:=ln) q1 q2 q3 h1 h2);clear q1 q2 q3 HC2 HA;go_wp2_with fail
 refine HA1.out.mono ?_;rintro e w4 ⟨rfl,m1,m2⟩;obtain⟨p1,p2,p3⟩:=HFN.out w4 m1 m2;have HI2:=zH (HI.out _ _ w4 p1 p2 p3);clear m1 m2 p1 p2 p3 HFN HA1 HI;go_wp2_with fail
 go_ret3;exact HI2.out):P:=h
theorem MX (ln:Int) (args:List Txt) (text:Txt) (av:Option Addr×Nat×Nat) (w:World) (ha:Ss w (bG av) args) (hl:gT ⟨ln,[66],args,text⟩):
  Calls Tryz.prog 15 #[.agg (ak (ln,[66],av,text)).toArray] w (dQ w ⟨ln,[66],args,text⟩):=by
 obtain⟨W1,hW1⟩: ∃W,w.alloc (.cells (ak (ln,[66],av,text)).toArray 33)=W:=⟨_,rfl⟩;have b1:Below w.heap.size w W1:=by rw[←hW1];exact af _ _
 have kx:Blk W1 w.heap.size 33 (ak (ln,[66],av,text)):=by rw[←hW1];exact O9 w _
 have hz1:=b1.size;obtain⟨q,hq⟩: ∃q,df 1 args=q:=⟨_,rfl⟩;have hin:fD ⟨ln,[66],args,text⟩=some q:=by rw[←hq];rfl
 have hql:q.2.length≤80000:=by rw[←hq];have h1:=(dR 1 args ([],[])).2;have h2:=hl.args;simp only[Pm]at h1 h2;rw[ig];unfold dC;omega
 have HC:Hid (∀V,Below W1.heap.size W1 V→Calls Tryz.prog 34 #[.int .u8 1,.slice av.1 av.2.1 av.2.2] V fun e w'=> ∃x d,e= .returned (.tuple #[x,d])∧w'.cell? ⟨w.heap.size,0,none⟩=some (.int .i64 ln)∧w'.cell? ⟨w.heap.size,2,none⟩=some (.slice av.1 av.2.1 av.2.2)∧Hid (aI w.heap.size w' x q.1∧aL w.heap.size w' d (bC q.2)∧Below w.heap.size w w')):=zH (fun V hV=>by
  have hb:=b1.trans (hV.mono hz1);refine(nG 1 args (bG av) V (ha.below hb) hl.args hl.each).mono ?_;rintro e w' ⟨x,d,rfl,o1,o2,o3⟩;refine⟨x,d,rfl,(kx.below (hV.trans (o3.mono hV.size))).cell 0,(kx.below (hV.trans (o3.mono hV.size))).cell 2,zH ⟨?_,?_,hb.trans (o3.mono hb.size)⟩⟩
  ·rw[←hq];exact o1.mono hb.size
  ·rw[←hq];exact o2.mono hb.size)
 have HA:Hid (∀V d,aL w.heap.size V d (bC q.2)→Calls Tryz.prog 37 #[.int .i64 ln,d] V fun e w'=>e= .returned d∧aL w.heap.size w' d (atL ln (bC q.2))∧Exc (fun k=>d.ownBlock=some k) V w'):=zH (fun V d h=>oQ ln V h (by unfold bC;simp;omega));have HK:Hid (∀V,Below W1.heap.size W1 V→ ∀(i:Nat) u,(ak (ln,[66],av,text))[i]? =some u→V.cell? ⟨w.heap.size,i,none⟩=some u):=zH (fun V hV i u hu=>by rw[(kx.below hV).cell i];exact hu);have HI:Hid (∀x d V,aI w.heap.size V x q.1→aL w.heap.size V d (cK ln q.2)→Below w.heap.size w V→dQ w ⟨ln,[66],args,text⟩ (.returned (.tuple #[x,d,.bool true])) V):=zH (fun x d V h1 h2 h3=>by
  unfold dQ;rw[hin];exact⟨x,d,rfl,h1,h2,h3⟩)
 have x0:=kx.cell 0;have x1:=kx.cell 1;have x2:=kx.cell 2;have x3:=kx.cell 3;obtain⟨va,vn,vc⟩:=av;simp only[ak,bG,OY,OZ]at hW1 HC HK HI x0 x1 x2 x3 ⊢;have HB1:=zH b1;clear ha hl b1 kx hz1 hq hin hql;go_enter Tryz.func15,Tryz.ntmps15
 go_wp2_with fail
 have HSC:Hid (∀W,Below W1.heap.size W1 W→W.cell? ⟨w.heap.size,2,none⟩=some (.slice va vn vc)):=zH (fun W hW=>HK.out W hW 2 _ rfl);have HX:Hid (Below W1.heap.size W1 W1.drew):=zH (OX _ W1).drew;refine wp_region_held_drew (S:=(fun W=>W.cell? ⟨w.heap.size,2,none⟩=some (.slice va vn vc))) (by kernel_rfl) ?_ (fun hHeld=>?_)
 ·exact HSC.out _ HX.out
 refine zK (i:=0) (v:= .string ⟨#[66]⟩) rfl ?_;simp only[zT,zS,zZ,Act.put,yT,yZ,yS];refine P9 (i:=1) (v:= .int .u8 66) rfl (by kernel_rfl) (by kernel_rfl) (by kernel_rfl) (fun _ _ _ h=>h) (Or.inl ⟨by rfl,fun w' hSw=>by(try dsimp only at hSw);go_simp;try rfl⟩) (by assumption) ?_;simp only[zT,zS,zZ,Act.put,yT,yZ,yS];refine zK (i:=3) (v:= .pointer (some ⟨w.heap.size,2,none⟩)) rfl ?_;simp only[zT,zS,zZ,Act.put,yT,yZ,yS];refine zK (i:=4) (v:= .slice va vn vc) rfl ?_;simp only[zT,zS,zZ,Act.put,yT,yZ,yS];refine wpAnyH_ready (rs:=[2]) (by kernel_rfl) (by simp) ?_;refine AllReadyH.cons rfl (fun K hK=>?_) AllReadyH.nil
 try simp only[zT,zS,zZ]
 go_simp;go_at_call 35
 refine(tZ _).mono ?_;exact QTV
theorem MW (ln:Int) (args:List Txt) (text:Txt) (av:Option Addr×Nat×Nat) (w:World) (ha:Ss w (bG av) args) (hl:gT ⟨ln,[73],args,text⟩):
  Calls Tryz.prog 15 #[.agg (ak (ln,[73],av,text)).toArray] w (dQ w ⟨ln,[73],args,text⟩):=by
 obtain⟨W1,hW1⟩: ∃W,w.alloc (.cells (ak (ln,[73],av,text)).toArray 33)=W:=⟨_,rfl⟩;have b1:Below w.heap.size w W1:=by rw[←hW1];exact af _ _
 have kx:Blk W1 w.heap.size 33 (ak (ln,[73],av,text)):=by rw[←hW1];exact O9 w _
 have hz1:=b1.size;obtain⟨q,hq⟩: ∃q,df 2 args=q:=⟨_,rfl⟩;have hin:fD ⟨ln,[73],args,text⟩=some q:=by rw[←hq];rfl
 have hql:q.2.length≤80000:=by rw[←hq];have h1:=(dR 2 args ([],[])).2;have h2:=hl.args;simp only[Pm]at h1 h2;rw[ig];unfold dC;omega
 have HC:Hid (∀V,Below W1.heap.size W1 V→Calls Tryz.prog 34 #[.int .u8 2,.slice av.1 av.2.1 av.2.2] V fun e w'=> ∃x d,e= .returned (.tuple #[x,d])∧w'.cell? ⟨w.heap.size,0,none⟩=some (.int .i64 ln)∧w'.cell? ⟨w.heap.size,2,none⟩=some (.slice av.1 av.2.1 av.2.2)∧Hid (aI w.heap.size w' x q.1∧aL w.heap.size w' d (bC q.2)∧Below w.heap.size w w')):=zH (fun V hV=>by
  have hb:=b1.trans (hV.mono hz1);refine(nG 2 args (bG av) V (ha.below hb) hl.args hl.each).mono ?_;rintro e w' ⟨x,d,rfl,o1,o2,o3⟩;refine⟨x,d,rfl,(kx.below (hV.trans (o3.mono hV.size))).cell 0,(kx.below (hV.trans (o3.mono hV.size))).cell 2,zH ⟨?_,?_,hb.trans (o3.mono hb.size)⟩⟩
  ·rw[←hq];exact o1.mono hb.size
  ·rw[←hq];exact o2.mono hb.size)
 have HA:Hid (∀V d,aL w.heap.size V d (bC q.2)→Calls Tryz.prog 37 #[.int .i64 ln,d] V fun e w'=>e= .returned d∧aL w.heap.size w' d (atL ln (bC q.2))∧Exc (fun k=>d.ownBlock=some k) V w'):=zH (fun V d h=>oQ ln V h (by unfold bC;simp;omega));have HK:Hid (∀V,Below W1.heap.size W1 V→ ∀(i:Nat) u,(ak (ln,[73],av,text))[i]? =some u→V.cell? ⟨w.heap.size,i,none⟩=some u):=zH (fun V hV i u hu=>by rw[(kx.below hV).cell i];exact hu);have HI:Hid (∀x d V,aI w.heap.size V x q.1→aL w.heap.size V d (cK ln q.2)→Below w.heap.size w V→dQ w ⟨ln,[73],args,text⟩ (.returned (.tuple #[x,d,.bool true])) V):=zH (fun x d V h1 h2 h3=>by
  unfold dQ;rw[hin];exact⟨x,d,rfl,h1,h2,h3⟩)
 have x0:=kx.cell 0;have x1:=kx.cell 1;have x2:=kx.cell 2;have x3:=kx.cell 3;obtain⟨va,vn,vc⟩:=av;simp only[ak,bG,OY,OZ]at hW1 HC HK HI x0 x1 x2 x3 ⊢;have HB1:=zH b1;clear ha hl b1 kx hz1 hq hin hql;go_enter Tryz.func15,Tryz.ntmps15
 go_wp2_with fail
 have HSC:Hid (∀W,Below W1.heap.size W1 W→W.cell? ⟨w.heap.size,2,none⟩=some (.slice va vn vc)):=zH (fun W hW=>HK.out W hW 2 _ rfl);have HX:Hid (Below W1.heap.size W1 W1.drew):=zH (OX _ W1).drew;refine wp_region_held_drew (S:=(fun W=>W.cell? ⟨w.heap.size,2,none⟩=some (.slice va vn vc))) (by kernel_rfl) ?_ (fun hHeld=>?_)
 ·exact HSC.out _ HX.out
 refine zK (i:=0) (v:= .string ⟨#[73]⟩) rfl ?_;simp only[zT,zS,zZ,Act.put,yT,yZ,yS];refine P9 (i:=1) (v:= .int .u8 73) rfl (by kernel_rfl) (by kernel_rfl) (by kernel_rfl) (fun _ _ _ h=>h) (Or.inl ⟨by rfl,fun w' hSw=>by(try dsimp only at hSw);go_simp;try rfl⟩) (by assumption) ?_;simp only[zT,zS,zZ,Act.put,yT,yZ,yS];refine zK (i:=3) (v:= .pointer (some ⟨w.heap.size,2,none⟩)) rfl ?_;simp only[zT,zS,zZ,Act.put,yT,yZ,yS];refine zK (i:=4) (v:= .slice va vn vc) rfl ?_;simp only[zT,zS,zZ,Act.put,yT,yZ,yS];refine wpAnyH_ready (rs:=[2]) (by kernel_rfl) (by simp) ?_;refine AllReadyH.cons rfl (fun K hK=>?_) AllReadyH.nil
 try simp only[zT,zS,zZ]
 go_simp;go_at_call 35
 refine(tY _).mono ?_;exact QTV
theorem p9 (c1 c2:UInt8) (a b:Int) (ln:Int) (args:List Txt) (text:Txt) (av:Option Addr×Nat×Nat) (w:World) (ha:Ss w (bG av) args) (hl:gT ⟨ln,[c1,c2],args,text⟩) (hi0:fD ⟨ln,[c1,c2],args,text⟩=some (uU a b args)) (hS1: ∀w,Calls Tryz.prog 35 #[.int .u8 (c1.toNat:Int)] w fun e w'=>e= .returned (.int .u8 a)∧w=w') (hS2: ∀w,Calls Tryz.prog 35 #[.int .u8 (c2.toNat:Int)] w fun e w'=>e= .returned (.int .u8 b)∧w=w') (hc:[c1,c2]∈([[66,73],[66,82],[73,66],[73,82],[82,66],[82,73]]:List Txt)):
  Calls Tryz.prog 15 #[.agg (ak (ln,[c1,c2],av,text)).toArray] w (dQ w ⟨ln,[c1,c2],args,text⟩):=by
 obtain⟨W1,hW1⟩: ∃W,w.alloc (.cells (ak (ln,[c1,c2],av,text)).toArray 33)=W:=⟨_,rfl⟩;have b1:Below w.heap.size w W1:=by rw[←hW1];exact af _ _
 have kx:Blk W1 w.heap.size 33 (ak (ln,[c1,c2],av,text)):=by rw[←hW1];exact O9 w _
 have hz1:=b1.size;obtain⟨q,hq⟩: ∃q,uU a b args=q:=⟨_,rfl⟩;have hin:fD ⟨ln,[c1,c2],args,text⟩=some q:=by rw[←hq];exact hi0
 have hql:q.2.length≤80000:=by rw[←hq];have h1:=(mi a b args 0).2;have h2:=hl.args;simp only at h2;rw[(nV args a b 0).1 rfl];omega
 have HC:Hid (∀V,Below W1.heap.size W1 V→Calls Tryz.prog 36 #[.int .u8 a,.int .u8 b,.slice av.1 av.2.1 av.2.2] V fun e w'=> ∃x d,e= .returned (.tuple #[x,d])∧w'.cell? ⟨w.heap.size,0,none⟩=some (.int .i64 ln)∧w'.cell? ⟨w.heap.size,2,none⟩=some (.slice av.1 av.2.1 av.2.2)∧Hid (aI w.heap.size w' x q.1∧aL w.heap.size w' d (bC q.2)∧Below w.heap.size w w')):=zH (fun V hV=>by
  have hb:=b1.trans (hV.mono hz1);refine(Bv a b args (bG av) V (ha.below hb) hl.args hl.each).mono ?_;rintro e w' ⟨x,d,rfl,o1,o2,o3⟩;refine⟨x,d,rfl,(kx.below (hV.trans (o3.mono hV.size))).cell 0,(kx.below (hV.trans (o3.mono hV.size))).cell 2,zH ⟨?_,?_,hb.trans (o3.mono hb.size)⟩⟩
  ·rw[←hq];exact o1.mono hb.size
  ·rw[←hq];exact o2.mono hb.size)
 have HA:Hid (∀V d,aL w.heap.size V d (bC q.2)→Calls Tryz.prog 37 #[.int .i64 ln,d] V fun e w'=>e= .returned d∧aL w.heap.size w' d (atL ln (bC q.2))∧Exc (fun k=>d.ownBlock=some k) V w'):=zH (fun V d h=>oQ ln V h (by unfold bC;simp;omega));have HK:Hid (∀V,Below W1.heap.size W1 V→ ∀(i:Nat) u,(ak (ln,[c1,c2],av,text))[i]? =some u→V.cell? ⟨w.heap.size,i,none⟩=some u):=zH (fun V hV i u hu=>by rw[(kx.below hV).cell i];exact hu);have HI:Hid (∀x d V,aI w.heap.size V x q.1→aL w.heap.size V d (cK ln q.2)→Below w.heap.size w V→dQ w ⟨ln,[c1,c2],args,text⟩ (.returned (.tuple #[x,d,.bool true])) V):=zH (fun x d V h1 h2 h3=>by
  unfold dQ;rw[hin];exact⟨x,d,rfl,h1,h2,h3⟩)
 have x0:=kx.cell 0;have x1:=kx.cell 1;have x2:=kx.cell 2;have x3:=kx.cell 3;obtain⟨va,vn,vc⟩:=av;simp only[ak,bG,OY,OZ]at hW1 HC HK HI x0 x1 x2 x3 ⊢;have HB1:=zH b1;have d0:([c1,c2]==([]:List UInt8))=false:=rfl;have d1:([c1,c2]==([66]:List UInt8))=false:=by simp
 have d2:([c1,c2]==([73]:List UInt8))=false:=by simp
 have HS1:=zH hS1;have HS2:=zH hS2;have hE:(([c1,c2]==([66,73]:List UInt8))=true)∨(([c1,c2]==([66,73]:List UInt8))=false∧([c1,c2]==([66,82]:List UInt8))=true)∨(([c1,c2]==([66,73]:List UInt8))=false∧([c1,c2]==([66,82]:List UInt8))=false∧([c1,c2]==([73,66]:List UInt8))=true)∨(([c1,c2]==([66,73]:List UInt8))=false∧([c1,c2]==([66,82]:List UInt8))=false∧([c1,c2]==([73,66]:List UInt8))=false∧([c1,c2]==([73,82]:List UInt8))=true)∨(([c1,c2]==([66,73]:List UInt8))=false∧([c1,c2]==([66,82]:List UInt8))=false∧([c1,c2]==([73,66]:List UInt8))=false∧([c1,c2]==([73,82]:List UInt8))=false∧([c1,c2]==([82,66]:List UInt8))=true)∨(([c1,c2]==([66,73]:List UInt8))=false∧([c1,c2]==([66,82]:List UInt8))=false∧([c1,c2]==([73,66]:List UInt8))=false∧([c1,c2]==([73,82]:List UInt8))=false∧([c1,c2]==([82,66]:List UInt8))=false∧([c1,c2]==([82,73]:List UInt8))=true):=by
  simp only[P6,List.cons.injEq,and_true,P8,QN]at hc;rcases hc with⟨rfl,rfl⟩| ⟨rfl,rfl⟩| ⟨rfl,rfl⟩| ⟨rfl,rfl⟩| ⟨rfl,rfl⟩| ⟨rfl,rfl⟩<;>decide
 clear hi0 hS1 hS2 hc;clear ha hl b1 kx hz1 hq hin hql;go_enter Tryz.func15,Tryz.ntmps15
 rcases hE with e0 | ⟨e0,e1⟩| ⟨e0,e1,e2⟩| ⟨e0,e1,e2,e3⟩| ⟨e0,e1,e2,e3,e4⟩| ⟨e0,e1,e2,e3,e4,e5⟩
 all_goals
  go_wp2_with fail
  have HSC:Hid (∀W,Below W1.heap.size W1 W→W.cell? ⟨w.heap.size,2,none⟩=some (.slice va vn vc)):=zH (fun W hW=>HK.out W hW 2 _ rfl);have HX:Hid (Below W1.heap.size W1 W1.drew):=zH (OX _ W1).drew;refine wp_region_held_drew (S:=(fun W=>W.cell? ⟨w.heap.size,2,none⟩=some (.slice va vn vc))) (by kernel_rfl) ?_ (fun hHeld=>?_)
  ·exact HSC.out _ HX.out
  refine zK (i:=0) (v:= .string ⟨#[c1,c2]⟩) rfl ?_;simp only[zT,zS,zZ,Act.put,yT,yZ,yS];refine P9 (i:=1) (v:= .int .u8 (c1.toNat:Int)) rfl (by kernel_rfl) (by kernel_rfl) (by kernel_rfl) (fun _ _ _ h=>h) (Or.inl ⟨by rfl,fun w' hSw=>by(try dsimp only at hSw);go_simp;try rfl⟩) (by assumption) ?_;simp only[zT,zS,zZ,Act.put,yT,yZ,yS];refine zK (i:=3) (v:= .string ⟨#[c1,c2]⟩) rfl ?_;simp only[zT,zS,zZ,Act.put,yT,yZ,yS];refine P9 (i:=4) (v:= .int .u8 (c2.toNat:Int)) rfl (by kernel_rfl) (by kernel_rfl) (by kernel_rfl) (fun _ _ _ h=>h) (Or.inl ⟨by rfl,fun w' hSw=>by(try dsimp only at hSw);go_simp;try rfl⟩) (by assumption) ?_;simp only[zT,zS,zZ,Act.put,yT,yZ,yS];refine zK (i:=6) (v:= .pointer (some ⟨w.heap.size,2,none⟩)) rfl ?_;simp only[zT,zS,zZ,Act.put,yT,yZ,yS];refine zK (i:=7) (v:= .slice va vn vc) rfl ?_;simp only[zT,zS,zZ,Act.put,yT,yZ,yS];refine wpAnyH_ready (rs:=[2]) (by kernel_rfl) (by simp) ?_;refine AllReadyH.cons rfl (fun K hK=>?_) AllReadyH.nil
  try simp only[zT,zS,zZ]
  go_simp;go_at_call 35
  refine(HS1.out _).mono ?_;rintro e w7 ⟨rfl,rfl⟩;go_wp2_with fail
  refine hK.out _ _ ?_ (fun hHeld=>?_)
  ·exact HSC.out _ HX.out
  clear hK K
  try simp only[zT,zS,zZ,Act.put,yT,yZ,yS]
  refine wpAnyH_ready (rs:=[5]) (by kernel_rfl) (by simp) ?_;refine AllReadyH.cons rfl (fun K hK=>?_) AllReadyH.nil
  try simp only[zT,zS,zZ]
  go_simp;go_at_call 35
  refine(HS2.out _).mono ?_;rintro e w7 ⟨rfl,rfl⟩;go_wp2_with fail
  refine hK.out _ _ ?_ (fun hHeld=>?_)
  ·exact HSC.out _ HX.out
  clear hK K
  try simp only[zT,zS,zZ,Act.put,yT,yZ,yS]
  refine wpAnyH_ready (rs:=[8]) (by kernel_rfl) (by simp) ?_;refine AllReadyH.cons rfl (fun K hK=>?_) AllReadyH.nil
  try simp only[zT,zS,zZ]
  go_simp;go_at_call 36
  refine(HC.out _ HX.out).mono ?_;rintro e w2 ⟨x,d,rfl,hc0,hc2,HC2⟩;go_wp2_with fail
  refine hK.out _ _ ?_ (fun hHeld=>?_)
  ·exact hc2
  clear hK K
  try simp only[zT,zS,zZ,Act.put,yT,yZ,yS]
  refine zK (i:=9) (v:= .tuple #[x,d]) rfl ?_;simp only[zT,zS,zZ,Act.put,yT,yZ,yS];refine zK (i:=10) (v:=x) rfl ?_;simp only[zT,zS,zZ,Act.put,yT,yZ,yS];refine zK (i:=11) (v:=d) rfl ?_;simp only[zT,zS,zZ,Act.put,yT,yZ,yS];refine zK (i:=12) (v:=x) rfl ?_;simp only[zT,zS,zZ,Act.put,yT,yZ,yS];refine zK (i:=13) (v:=d) rfl ?_;simp only[zT,zS,zZ,Act.put,yT,yZ,yS];refine PK (by kernel_rfl) ?_ _;clear x0 x1 x2 x3 HC HK hc2 HSC HX;exact QTW
theorem FD (x:RV) (r:bu) (w:World) (h:x.2.1=r.mac) (hn:fD r=none):
  Calls Tryz.prog 15 #[.agg (ak x).toArray] w (dQ w r):=by
 have hne:x.2.1≠ []∧x.2.1≠ [66]∧x.2.1≠ [73]∧x.2.1≠ [66,73]∧x.2.1≠ [66,82]∧x.2.1≠ [73,66]∧x.2.1≠ [73,82]∧x.2.1≠ [82,66]∧x.2.1≠ [82,73]:=by
  rw[h];refine⟨fun e=>?_,fun e=>?_,fun e=>?_,fun e=>?_,fun e=>?_,fun e=>?_,fun e=>?_,fun e=>?_,fun e=>?_⟩<;>(unfold fD at hn;rw[e]at hn;simp at hn)
 have b1:=af w (.cells (ak x).toArray 33);have kx:Blk (w.alloc (.cells (ak x).toArray 33)) w.heap.size 33 (ak x):=O9 w _;obtain⟨ln,b,⟨va,vn,vc⟩,text⟩:=x;simp only at hne;obtain⟨c0,c1,c2,c3,c4,c5,c6,c7,c8⟩:=hne;have d0:=bU c0;have d1:=bU c1;have d2:=bU c2;have d3:=bU c3;have d4:=bU c4;have d5:=bU c5;have d6:=bU c6;have d7:=bU c7;have d8:=bU c8;have x1:=kx.cell 1;obtain⟨W1,hW1⟩: ∃W,w.alloc (.cells (ak (ln,b,(va,vn,vc),text)).toArray 33)=W:=⟨_,rfl⟩;rw[hW1]at x1 b1;simp only[ak,bG,OY,OZ]at hW1 x1 ⊢;have HI:=zH (dQ.none hn b1);clear hn h b1 kx c1 c2 c3 c4 c5 c6 c7 c8;go_enter Tryz.func15,Tryz.ntmps15
 go_wp2_with fail
 go_ret3;exact HI.out
theorem qE (x:RV) (r:bu) (w:World) (hx:iB w x r) (hl:gT r):Calls Tryz.prog 15 #[.agg (ak x).toArray] w (dQ w r):=by
 cases hn:fD r with
 | none=>exact FD x r w hx.mac hn
 | some q=>
  obtain⟨ln,m,args,text⟩:=r;obtain⟨xl,xm,av,xt⟩:=x;obtain⟨h1,h2,h3,h4⟩:=hx;simp only at h1 h2 h3 h4;subst h1 h2 h3
  by_cases c:xm∈ [[],[66],[73],[66,73],[66,82],[73,66],[73,82],[82,66],[82,73]]
  ·simp only[P6,P8,QN]at c
   rcases c with rfl | rfl | rfl | rfl | rfl | rfl | rfl | rfl | rfl
   ·exact FC _ _ _ av w h4 hl
   ·exact MX _ _ _ av w h4 hl
   ·exact MW _ _ _ av w h4 hl
   ·exact p9 66 73 1 2 _ _ _ av w h4 hl rfl tZ tY (by simp)
   ·exact p9 66 82 1 0 _ _ _ av w h4 hl rfl tZ xU (by simp)
   ·exact p9 73 66 2 1 _ _ _ av w h4 hl rfl tY tZ (by simp)
   ·exact p9 73 82 2 0 _ _ _ av w h4 hl rfl tY xU (by simp)
   ·exact p9 82 66 0 1 _ _ _ av w h4 hl rfl xU tZ (by simp)
   ·exact p9 82 73 0 2 _ _ _ av w h4 hl rfl xU tY (by simp)
  ·simp only[P6,P8,QN,not_or]at c
   obtain⟨c0,c1,c2,c3,c4,c5,c6,c7,c8⟩:=c;unfold fD at hn;simp only at hn;rw[Pd c0,Pd (by rintro(h | h);exact c1 h;exact c2 h),Pd (by rintro(h | h | h | h | h | h);exact c3 h;exact c4 h;exact c5 h;exact c6 h;exact c7 h;exact c8 h)]at hn
   cases hn
end Go.Proofs.YtebabjnngdjceaaGreatDoor
