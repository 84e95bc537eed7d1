/- man.Inline. -/
import Derived.Test.YtebabjnngdjceaaGreatDoorY4
import Derived.Test.YtebabjnngdjceaaGreatDoorKK
import Derived.Deep.RegionHeld3
import Derived.Test.YtebabjnngdjceaaGreatDoorZ0
set_option linter.unusedVariables false
set_option linter.unusedSimpArgs false
set_option maxRecDepth 100000
set_option maxHeartbeats 4000000
namespace Go.Proofs.YtebabjnngdjceaaGreatDoor
open Go.RowKit
structure iJ (w:World) (x:RV) (r:aW):Prop where
 line:x.1=r.line
 mac:x.2.1=r.mac
 text:x.2.2.2=r.text
 args:Ss w (aO x.2.2.1) r.args
structure fe (r:aW):Prop where
 text:r.text.length≤2000
 args:lnT r.args≤40000
 each: ∀s∈r.args,s.length≤2000
theorem iJ.below {w w':World} {x:RV} {r:aW} (h:iJ w x r) (hb:Below w.heap.size w w'):iJ w' x r:=⟨h.line,h.mac,h.text,h.args.below hb⟩
def bg (w:World) (r:aW) (e:Ending) (w':World):Prop:=
 ∃x d,e= .returned (.tuple #[x,d,.bool (dY r).isSome])∧aV w.heap.size w' x ((dY r).getD ([],[])).1∧aP w.heap.size w' d (bB r.line ((dY r).getD ([],[])).2)∧Below w.heap.size w w'
theorem gu {w w2 w3:World} {q:List Gly×List (Int×Int)} {ln:Int} {x d:Value} (h1:aV w.heap.size w2 x q.1) (h2:aP w.heap.size w2 d (aM q.2)) (hb:Below w.heap.size w w2) (h3:aP w.heap.size w3 d (atL ln (aM q.2))) (hE:Exc (fun k=>d.ownBlock=some k) w2 w3):
  aV w.heap.size w3 x q.1∧aP w.heap.size w3 d (bB ln q.2)∧Below w.heap.size w w3:=by
 refine⟨h1.kp (fun k e=>hE.block k (h1.ltb e) (fun e2=>?_)),by rw[←JF];exact h3,hb.trans (hE.below hb.size (fun k hk e=>by have:=(h2.ty e).1;omega))⟩;rcases dF h1 h2 (by decide)with z | z
 ·rw[z]at e;cases e
 ·exact z (e.trans e2.symm)
theorem bg.none {w:World} {r:aW} (h:dY r=none) {w':World} (hb:Below w.heap.size w w'):bg w r (.returned (.tuple #[.slice none 0 0,.slice none 0 0,.bool false])) w':=by
 refine⟨.slice .none 0 0,.slice .none 0 0,?_,?_,?_,hb⟩
 ·rw[h];rfl
 ·rw[h];exact ag.nil _ _
 ·rw[h];exact ag.nil _ _
theorem Dv (ln:Int) (args:List Txt) (text:Txt) (av:Option Addr×Nat×Nat) (w:World) (ha:Ss w (aO av) args) (hl:fe ⟨ln,[],args,text⟩):
  Calls Tryz.prog 15 #[.agg (ah (ln,[],av,text)).toArray] w (bg w ⟨ln,[],args,text⟩):=by
 obtain⟨W1,hW1⟩: ∃W,w.alloc (.cells (ah (ln,[],av,text)).toArray 33)=W:=⟨_,rfl⟩;have b1:Below w.heap.size w W1:=by rw[←hW1];exact af _ _
 have kx:Blk W1 w.heap.size 33 (ah (ln,[],av,text)):=by rw[←hW1];exact Mw w _
 have hz1:=b1.size;obtain⟨q,hq⟩: ∃q,lgF text=q:=⟨_,rfl⟩;have hin:dY ⟨ln,[],args,text⟩=some q:=by rw[←hq];rfl
 have hql:q.2.length≤80000:=by rw[←hq];have h1:=lD 0 text;have h2:=hl.text;simp only at h2;show(lgS 0 text).2.length≤_;omega
 have HC:Hid (∀V,Below W1.heap.size W1 V→Calls Tryz.prog 33 #[.agg #[.int .u8 0,.int .u8 0],.string ⟨text.toArray⟩] V fun e w'=> ∃x f1 f2 d,e= .returned (.tuple #[x,.agg #[.int .u8 f1,.int .u8 f2],d])∧w'.cell? ⟨w.heap.size,0,none⟩=some (.int .i64 ln)∧w'.cell? ⟨w.heap.size,2,none⟩=some (.slice av.1 av.2.1 av.2.2)∧Hid (aV w.heap.size w' x q.1∧aP w.heap.size w' d (aM q.2)∧Below w.heap.size w w')):=zH (fun V hV=>by
  have hb:=b1.trans (hV.mono hz1);refine(ry 0 0 text V hl.text).mono ?_;rintro e w' ⟨x,d,rfl,o1,o2,o3⟩;refine⟨x,_,_,d,rfl,(kx.below (hV.trans (o3.mono hV.size))).cell 0,(kx.below (hV.trans (o3.mono hV.size))).cell 2,zH ⟨?_,?_,hb.trans (o3.mono hb.size)⟩⟩
  ·rw[←hq];exact o1.mono hb.size
  ·rw[←hq]
   have:=vX 0 text;rw[this]at o2;exact o2.mono hb.size)
 have HA:Hid (∀V d,aP w.heap.size V d (aM q.2)→Calls Tryz.prog 37 #[.int .i64 ln,d] V fun e w'=>e= .returned d∧aP w.heap.size w' d (atL ln (aM q.2))∧Exc (fun k=>d.ownBlock=some k) V w'):=zH (fun V d h=>gp ln V h (by unfold aM;simp;omega));have HK:Hid (∀V,Below W1.heap.size W1 V→ ∀(i:Nat) u,(ah (ln,[],av,text))[i]? =some u→V.cell? ⟨w.heap.size,i,none⟩=some u):=zH (fun V hV i u hu=>by rw[(kx.below hV).cell i];exact hu);have HI:Hid (∀x d V,aV w.heap.size V x q.1→aP w.heap.size V d (bB ln q.2)→Below w.heap.size w V→bg w ⟨ln,[],args,text⟩ (.returned (.tuple #[x,d,.bool true])) V):=zH (fun x d V h1 h2 h3=>by
  unfold bg;rw[hin];exact⟨x,d,rfl,h1,h2,h3⟩)
 have x0:=kx.cell 0;have x1:=kx.cell 1;have x2:=kx.cell 2;have x3:=kx.cell 3;obtain⟨va,vn,vc⟩:=av;simp only[ah,aO,Ml,Mk]at hW1 HC HK HI x0 x1 x2 x3 ⊢;have HB1:=zH b1;clear ha hl b1 kx hz1 hq hin hql;go_enter Tryz.func15,Tryz.ntmps15
 go_wp2_with fail
 refine(HC.out W1 (Mr _ _)).mono ?_;rintro e w2 ⟨x,f1,f2,d,rfl,hc0,hc2,HC2⟩;clear x0 x1 x2 x3 HC HK hc2;obtain⟨q1,q2,q3⟩:=HC2.out;have HA1:=zH (HA.out _ _ q2);have HFN:=zH (fun w3 h1 h2=>gu (w3:=w3) (ln:=ln) q1 q2 q3 h1 h2);clear q1 q2 q3 HC2 HA;go_wp2_with fail
 refine HA1.out.mono ?_;rintro e w4 ⟨rfl,m1,m2⟩;obtain⟨p1,p2,p3⟩:=HFN.out w4 m1 m2;have HI2:=zH (HI.out _ _ w4 p1 p2 p3);clear m1 m2 p1 p2 p3 HFN HA1 HI;go_wp2_with fail
 go_ret3;exact HI2.out
theorem QTY {P:Prop}(h:P:=by
 rintro e w7 ⟨rfl,rfl⟩;go_wp2_with fail
 refine hK.out _ _ ?_ (fun hHeld=>?_)
 ·exact HSC.out _ HX.out
 clear hK K
 try simp only[zT,zS,zZ,Act.put,yT,yZ,yS]
 refine wpAnyH_ready (rs:=[5]) (by kernel_rfl) (by simp) ?_;refine AllReadyH.cons rfl (fun K hK=>?_) AllReadyH.nil
 try simp only[zT,zS,zZ]
 go_simp;go_at_call 34
 refine(HC.out _ HX.out).mono ?_;rintro e w2 ⟨x,d,rfl,hc0,hc2,HC2⟩;go_wp2_with fail
 refine hK.out _ _ ?_ (fun hHeld=>?_)
 ·exact hc2
 clear hK K
 try simp only[zT,zS,zZ,Act.put,yT,yZ,yS]
 refine zK (i:=6) (v:= .tuple #[x,d]) rfl ?_;simp only[zT,zS,zZ,Act.put,yT,yZ,yS];refine zK (i:=7) (v:=x) rfl ?_;simp only[zT,zS,zZ,Act.put,yT,yZ,yS];refine zK (i:=8) (v:=d) rfl ?_;simp only[zT,zS,zZ,Act.put,yT,yZ,yS];refine zK (i:=9) (v:=x) rfl ?_;simp only[zT,zS,zZ,Act.put,yT,yZ,yS];refine zK (i:=10) (v:=d) rfl ?_;simp only[zT,zS,zZ,Act.put,yT,yZ,yS];refine MU (by kernel_rfl) ?_ _;clear x0 x1 x2 x3 HC HK hc2 HSC HX;obtain⟨q1,q2,q3⟩:=HC2.out;have HA1:=zH (HA.out _ _ q2);have HFN:=zH (fun w3 h1 h2=>gu (w3:=w3) (ln:=ln) q1 q2 q3 h1 h2);clear q1 q2 q3 HC2 HA;go_wp2_with fail
 refine HA1.out.mono ?_;rintro e w4 ⟨rfl,m1,m2⟩;obtain⟨p1,p2,p3⟩:=HFN.out w4 m1 m2;have HI2:=zH (HI.out _ _ w4 p1 p2 p3);clear m1 m2 p1 p2 p3 HFN HA1 HI;go_wp2_with fail
 go_ret3;exact HI2.out):P:=h
theorem Km (ln:Int) (args:List Txt) (text:Txt) (av:Option Addr×Nat×Nat) (w:World) (ha:Ss w (aO av) args) (hl:fe ⟨ln,[66],args,text⟩):
  Calls Tryz.prog 15 #[.agg (ah (ln,[66],av,text)).toArray] w (bg w ⟨ln,[66],args,text⟩):=by
 obtain⟨W1,hW1⟩: ∃W,w.alloc (.cells (ah (ln,[66],av,text)).toArray 33)=W:=⟨_,rfl⟩;have b1:Below w.heap.size w W1:=by rw[←hW1];exact af _ _
 have kx:Blk W1 w.heap.size 33 (ah (ln,[66],av,text)):=by rw[←hW1];exact Mw w _
 have hz1:=b1.size;obtain⟨q,hq⟩: ∃q,bT 1 args=q:=⟨_,rfl⟩;have hin:dY ⟨ln,[66],args,text⟩=some q:=by rw[←hq];rfl
 have hql:q.2.length≤80000:=by rw[←hq];have h1:=(di 1 args ([],[])).2;have h2:=hl.args;simp only[MK]at h1 h2;rw[fA];unfold bY;omega
 have HC:Hid (∀V,Below W1.heap.size W1 V→Calls Tryz.prog 34 #[.int .u8 1,.slice av.1 av.2.1 av.2.2] V fun e w'=> ∃x d,e= .returned (.tuple #[x,d])∧w'.cell? ⟨w.heap.size,0,none⟩=some (.int .i64 ln)∧w'.cell? ⟨w.heap.size,2,none⟩=some (.slice av.1 av.2.1 av.2.2)∧Hid (aV w.heap.size w' x q.1∧aP w.heap.size w' d (aM q.2)∧Below w.heap.size w w')):=zH (fun V hV=>by
  have hb:=b1.trans (hV.mono hz1);refine(lY 1 args (aO av) V (ha.below hb) hl.args hl.each).mono ?_;rintro e w' ⟨x,d,rfl,o1,o2,o3⟩;refine⟨x,d,rfl,(kx.below (hV.trans (o3.mono hV.size))).cell 0,(kx.below (hV.trans (o3.mono hV.size))).cell 2,zH ⟨?_,?_,hb.trans (o3.mono hb.size)⟩⟩
  ·rw[←hq];exact o1.mono hb.size
  ·rw[←hq];exact o2.mono hb.size)
 have HA:Hid (∀V d,aP w.heap.size V d (aM q.2)→Calls Tryz.prog 37 #[.int .i64 ln,d] V fun e w'=>e= .returned d∧aP w.heap.size w' d (atL ln (aM q.2))∧Exc (fun k=>d.ownBlock=some k) V w'):=zH (fun V d h=>gp ln V h (by unfold aM;simp;omega));have HK:Hid (∀V,Below W1.heap.size W1 V→ ∀(i:Nat) u,(ah (ln,[66],av,text))[i]? =some u→V.cell? ⟨w.heap.size,i,none⟩=some u):=zH (fun V hV i u hu=>by rw[(kx.below hV).cell i];exact hu);have HI:Hid (∀x d V,aV w.heap.size V x q.1→aP w.heap.size V d (bB ln q.2)→Below w.heap.size w V→bg w ⟨ln,[66],args,text⟩ (.returned (.tuple #[x,d,.bool true])) V):=zH (fun x d V h1 h2 h3=>by
  unfold bg;rw[hin];exact⟨x,d,rfl,h1,h2,h3⟩)
 have x0:=kx.cell 0;have x1:=kx.cell 1;have x2:=kx.cell 2;have x3:=kx.cell 3;obtain⟨va,vn,vc⟩:=av;simp only[ah,aO,Ml,Mk]at hW1 HC HK HI x0 x1 x2 x3 ⊢;have HB1:=zH b1;clear ha hl b1 kx hz1 hq hin hql;go_enter Tryz.func15,Tryz.ntmps15
 go_wp2_with fail
 have HSC:Hid (∀W,Below W1.heap.size W1 W→W.cell? ⟨w.heap.size,2,none⟩=some (.slice va vn vc)):=zH (fun W hW=>HK.out W hW 2 _ rfl);have HX:Hid (Below W1.heap.size W1 W1.drew):=zH (Mr _ W1).drew;refine wp_region_held_drew (S:=(fun W=>W.cell? ⟨w.heap.size,2,none⟩=some (.slice va vn vc))) (by kernel_rfl) ?_ (fun hHeld=>?_)
 ·exact HSC.out _ HX.out
 refine zK (i:=0) (v:= .string ⟨#[66]⟩) rfl ?_;simp only[zT,zS,zZ,Act.put,yT,yZ,yS];refine MZ (i:=1) (v:= .int .u8 66) rfl (by kernel_rfl) (by kernel_rfl) (by kernel_rfl) (fun _ _ _ h=>h) (Or.inl ⟨by rfl,fun w' hSw=>by(try dsimp only at hSw);go_simp;try rfl⟩) (by assumption) ?_;simp only[zT,zS,zZ,Act.put,yT,yZ,yS];refine zK (i:=3) (v:= .pointer (some ⟨w.heap.size,2,none⟩)) rfl ?_;simp only[zT,zS,zZ,Act.put,yT,yZ,yS];refine zK (i:=4) (v:= .slice va vn vc) rfl ?_;simp only[zT,zS,zZ,Act.put,yT,yZ,yS];refine wpAnyH_ready (rs:=[2]) (by kernel_rfl) (by simp) ?_;refine AllReadyH.cons rfl (fun K hK=>?_) AllReadyH.nil
 try simp only[zT,zS,zZ]
 go_simp;go_at_call 35
 refine(qY _).mono ?_;exact QTY
theorem Kl (ln:Int) (args:List Txt) (text:Txt) (av:Option Addr×Nat×Nat) (w:World) (ha:Ss w (aO av) args) (hl:fe ⟨ln,[73],args,text⟩):
  Calls Tryz.prog 15 #[.agg (ah (ln,[73],av,text)).toArray] w (bg w ⟨ln,[73],args,text⟩):=by
 obtain⟨W1,hW1⟩: ∃W,w.alloc (.cells (ah (ln,[73],av,text)).toArray 33)=W:=⟨_,rfl⟩;have b1:Below w.heap.size w W1:=by rw[←hW1];exact af _ _
 have kx:Blk W1 w.heap.size 33 (ah (ln,[73],av,text)):=by rw[←hW1];exact Mw w _
 have hz1:=b1.size;obtain⟨q,hq⟩: ∃q,bT 2 args=q:=⟨_,rfl⟩;have hin:dY ⟨ln,[73],args,text⟩=some q:=by rw[←hq];rfl
 have hql:q.2.length≤80000:=by rw[←hq];have h1:=(di 2 args ([],[])).2;have h2:=hl.args;simp only[MK]at h1 h2;rw[fA];unfold bY;omega
 have HC:Hid (∀V,Below W1.heap.size W1 V→Calls Tryz.prog 34 #[.int .u8 2,.slice av.1 av.2.1 av.2.2] V fun e w'=> ∃x d,e= .returned (.tuple #[x,d])∧w'.cell? ⟨w.heap.size,0,none⟩=some (.int .i64 ln)∧w'.cell? ⟨w.heap.size,2,none⟩=some (.slice av.1 av.2.1 av.2.2)∧Hid (aV w.heap.size w' x q.1∧aP w.heap.size w' d (aM q.2)∧Below w.heap.size w w')):=zH (fun V hV=>by
  have hb:=b1.trans (hV.mono hz1);refine(lY 2 args (aO av) V (ha.below hb) hl.args hl.each).mono ?_;rintro e w' ⟨x,d,rfl,o1,o2,o3⟩;refine⟨x,d,rfl,(kx.below (hV.trans (o3.mono hV.size))).cell 0,(kx.below (hV.trans (o3.mono hV.size))).cell 2,zH ⟨?_,?_,hb.trans (o3.mono hb.size)⟩⟩
  ·rw[←hq];exact o1.mono hb.size
  ·rw[←hq];exact o2.mono hb.size)
 have HA:Hid (∀V d,aP w.heap.size V d (aM q.2)→Calls Tryz.prog 37 #[.int .i64 ln,d] V fun e w'=>e= .returned d∧aP w.heap.size w' d (atL ln (aM q.2))∧Exc (fun k=>d.ownBlock=some k) V w'):=zH (fun V d h=>gp ln V h (by unfold aM;simp;omega));have HK:Hid (∀V,Below W1.heap.size W1 V→ ∀(i:Nat) u,(ah (ln,[73],av,text))[i]? =some u→V.cell? ⟨w.heap.size,i,none⟩=some u):=zH (fun V hV i u hu=>by rw[(kx.below hV).cell i];exact hu);have HI:Hid (∀x d V,aV w.heap.size V x q.1→aP w.heap.size V d (bB ln q.2)→Below w.heap.size w V→bg w ⟨ln,[73],args,text⟩ (.returned (.tuple #[x,d,.bool true])) V):=zH (fun x d V h1 h2 h3=>by
  unfold bg;rw[hin];exact⟨x,d,rfl,h1,h2,h3⟩)
 have x0:=kx.cell 0;have x1:=kx.cell 1;have x2:=kx.cell 2;have x3:=kx.cell 3;obtain⟨va,vn,vc⟩:=av;simp only[ah,aO,Ml,Mk]at hW1 HC HK HI x0 x1 x2 x3 ⊢;have HB1:=zH b1;clear ha hl b1 kx hz1 hq hin hql;go_enter Tryz.func15,Tryz.ntmps15
 go_wp2_with fail
 have HSC:Hid (∀W,Below W1.heap.size W1 W→W.cell? ⟨w.heap.size,2,none⟩=some (.slice va vn vc)):=zH (fun W hW=>HK.out W hW 2 _ rfl);have HX:Hid (Below W1.heap.size W1 W1.drew):=zH (Mr _ W1).drew;refine wp_region_held_drew (S:=(fun W=>W.cell? ⟨w.heap.size,2,none⟩=some (.slice va vn vc))) (by kernel_rfl) ?_ (fun hHeld=>?_)
 ·exact HSC.out _ HX.out
 refine zK (i:=0) (v:= .string ⟨#[73]⟩) rfl ?_;simp only[zT,zS,zZ,Act.put,yT,yZ,yS];refine MZ (i:=1) (v:= .int .u8 73) rfl (by kernel_rfl) (by kernel_rfl) (by kernel_rfl) (fun _ _ _ h=>h) (Or.inl ⟨by rfl,fun w' hSw=>by(try dsimp only at hSw);go_simp;try rfl⟩) (by assumption) ?_;simp only[zT,zS,zZ,Act.put,yT,yZ,yS];refine zK (i:=3) (v:= .pointer (some ⟨w.heap.size,2,none⟩)) rfl ?_;simp only[zT,zS,zZ,Act.put,yT,yZ,yS];refine zK (i:=4) (v:= .slice va vn vc) rfl ?_;simp only[zT,zS,zZ,Act.put,yT,yZ,yS];refine wpAnyH_ready (rs:=[2]) (by kernel_rfl) (by simp) ?_;refine AllReadyH.cons rfl (fun K hK=>?_) AllReadyH.nil
 try simp only[zT,zS,zZ]
 go_simp;go_at_call 35
 refine(qX _).mono ?_;exact QTY
theorem QTV {P:Prop}(h:P:=by
 rintro e w7 ⟨rfl,rfl⟩;go_wp2_with fail
 refine hK.out _ _ ?_ (fun hHeld=>?_)
 ·exact HSC.out _ HX.out
 clear hK K
 try simp only[zT,zS,zZ,Act.put,yT,yZ,yS]
 refine wpAnyH_ready (rs:=[5]) (by kernel_rfl) (by simp) ?_;refine AllReadyH.cons rfl (fun K hK=>?_) AllReadyH.nil
 try simp only[zT,zS,zZ]
 go_simp;go_at_call 35
 refine(qX _).mono ?_;rintro e w7 ⟨rfl,rfl⟩;go_wp2_with fail
 refine hK.out _ _ ?_ (fun hHeld=>?_)
 ·exact HSC.out _ HX.out
 clear hK K
 try simp only[zT,zS,zZ,Act.put,yT,yZ,yS]
 refine wpAnyH_ready (rs:=[8]) (by kernel_rfl) (by simp) ?_;refine AllReadyH.cons rfl (fun K hK=>?_) AllReadyH.nil
 try simp only[zT,zS,zZ]
 go_simp;go_at_call 36
 refine(HC.out _ HX.out).mono ?_;rintro e w2 ⟨x,d,rfl,hc0,hc2,HC2⟩;go_wp2_with fail
 refine hK.out _ _ ?_ (fun hHeld=>?_)
 ·exact hc2
 clear hK K
 try simp only[zT,zS,zZ,Act.put,yT,yZ,yS]
 refine zK (i:=9) (v:= .tuple #[x,d]) rfl ?_;simp only[zT,zS,zZ,Act.put,yT,yZ,yS];refine zK (i:=10) (v:=x) rfl ?_;simp only[zT,zS,zZ,Act.put,yT,yZ,yS];refine zK (i:=11) (v:=d) rfl ?_;simp only[zT,zS,zZ,Act.put,yT,yZ,yS];refine zK (i:=12) (v:=x) rfl ?_;simp only[zT,zS,zZ,Act.put,yT,yZ,yS];refine zK (i:=13) (v:=d) rfl ?_;simp only[zT,zS,zZ,Act.put,yT,yZ,yS];refine MU (by kernel_rfl) ?_ _;clear x0 x1 x2 x3 HC HK hc2 HSC HX;obtain⟨q1,q2,q3⟩:=HC2.out;have HA1:=zH (HA.out _ _ q2);have HFN:=zH (fun w3 h1 h2=>gu (w3:=w3) (ln:=ln) q1 q2 q3 h1 h2);clear q1 q2 q3 HC2 HA;go_wp2_with fail
 refine HA1.out.mono ?_;rintro e w4 ⟨rfl,m1,m2⟩;obtain⟨p1,p2,p3⟩:=HFN.out w4 m1 m2;have HI2:=zH (HI.out _ _ w4 p1 p2 p3);clear m1 m2 p1 p2 p3 HFN HA1 HI;go_wp2_with fail
 go_ret3;exact HI2.out):P:=h
theorem IX (ln:Int) (args:List Txt) (text:Txt) (av:Option Addr×Nat×Nat) (w:World) (ha:Ss w (aO av) args) (hl:fe ⟨ln,[66,73],args,text⟩):
  Calls Tryz.prog 15 #[.agg (ah (ln,[66,73],av,text)).toArray] w (bg w ⟨ln,[66,73],args,text⟩):=by
 obtain⟨W1,hW1⟩: ∃W,w.alloc (.cells (ah (ln,[66,73],av,text)).toArray 33)=W:=⟨_,rfl⟩;have b1:Below w.heap.size w W1:=by rw[←hW1];exact af _ _
 have kx:Blk W1 w.heap.size 33 (ah (ln,[66,73],av,text)):=by rw[←hW1];exact Mw w _
 have hz1:=b1.size;obtain⟨q,hq⟩: ∃q,mI 1 2 args=q:=⟨_,rfl⟩;have hin:dY ⟨ln,[66,73],args,text⟩=some q:=by rw[←hq];rfl
 have hql:q.2.length≤80000:=by rw[←hq];have h1:=(dW 1 2 args 0).2;have h2:=hl.args;simp only at h2;rw[(fZ args 1 2 0).1 rfl];omega
 have HC:Hid (∀V,Below W1.heap.size W1 V→Calls Tryz.prog 36 #[.int .u8 1,.int .u8 2,.slice av.1 av.2.1 av.2.2] V fun e w'=> ∃x d,e= .returned (.tuple #[x,d])∧w'.cell? ⟨w.heap.size,0,none⟩=some (.int .i64 ln)∧w'.cell? ⟨w.heap.size,2,none⟩=some (.slice av.1 av.2.1 av.2.2)∧Hid (aV w.heap.size w' x q.1∧aP w.heap.size w' d (aM q.2)∧Below w.heap.size w w')):=zH (fun V hV=>by
  have hb:=b1.trans (hV.mono hz1);refine(fP 1 2 args (aO av) V (ha.below hb) hl.args hl.each).mono ?_;rintro e w' ⟨x,d,rfl,o1,o2,o3⟩;refine⟨x,d,rfl,(kx.below (hV.trans (o3.mono hV.size))).cell 0,(kx.below (hV.trans (o3.mono hV.size))).cell 2,zH ⟨?_,?_,hb.trans (o3.mono hb.size)⟩⟩
  ·rw[←hq];exact o1.mono hb.size
  ·rw[←hq];exact o2.mono hb.size)
 have HA:Hid (∀V d,aP w.heap.size V d (aM q.2)→Calls Tryz.prog 37 #[.int .i64 ln,d] V fun e w'=>e= .returned d∧aP w.heap.size w' d (atL ln (aM q.2))∧Exc (fun k=>d.ownBlock=some k) V w'):=zH (fun V d h=>gp ln V h (by unfold aM;simp;omega));have HK:Hid (∀V,Below W1.heap.size W1 V→ ∀(i:Nat) u,(ah (ln,[66,73],av,text))[i]? =some u→V.cell? ⟨w.heap.size,i,none⟩=some u):=zH (fun V hV i u hu=>by rw[(kx.below hV).cell i];exact hu);have HI:Hid (∀x d V,aV w.heap.size V x q.1→aP w.heap.size V d (bB ln q.2)→Below w.heap.size w V→bg w ⟨ln,[66,73],args,text⟩ (.returned (.tuple #[x,d,.bool true])) V):=zH (fun x d V h1 h2 h3=>by
  unfold bg;rw[hin];exact⟨x,d,rfl,h1,h2,h3⟩)
 have x0:=kx.cell 0;have x1:=kx.cell 1;have x2:=kx.cell 2;have x3:=kx.cell 3;obtain⟨va,vn,vc⟩:=av;simp only[ah,aO,Ml,Mk]at hW1 HC HK HI x0 x1 x2 x3 ⊢;have HB1:=zH b1;clear ha hl b1 kx hz1 hq hin hql;go_enter Tryz.func15,Tryz.ntmps15
 go_wp2_with fail
 have HSC:Hid (∀W,Below W1.heap.size W1 W→W.cell? ⟨w.heap.size,2,none⟩=some (.slice va vn vc)):=zH (fun W hW=>HK.out W hW 2 _ rfl);have HX:Hid (Below W1.heap.size W1 W1.drew):=zH (Mr _ W1).drew;refine wp_region_held_drew (S:=(fun W=>W.cell? ⟨w.heap.size,2,none⟩=some (.slice va vn vc))) (by kernel_rfl) ?_ (fun hHeld=>?_)
 ·exact HSC.out _ HX.out
 refine zK (i:=0) (v:= .string ⟨#[66,73]⟩) rfl ?_;simp only[zT,zS,zZ,Act.put,yT,yZ,yS];refine MZ (i:=1) (v:= .int .u8 66) rfl (by kernel_rfl) (by kernel_rfl) (by kernel_rfl) (fun _ _ _ h=>h) (Or.inl ⟨by rfl,fun w' hSw=>by(try dsimp only at hSw);go_simp;try rfl⟩) (by assumption) ?_;simp only[zT,zS,zZ,Act.put,yT,yZ,yS];refine zK (i:=3) (v:= .string ⟨#[66,73]⟩) rfl ?_;simp only[zT,zS,zZ,Act.put,yT,yZ,yS];refine MZ (i:=4) (v:= .int .u8 73) rfl (by kernel_rfl) (by kernel_rfl) (by kernel_rfl) (fun _ _ _ h=>h) (Or.inl ⟨by rfl,fun w' hSw=>by(try dsimp only at hSw);go_simp;try rfl⟩) (by assumption) ?_;simp only[zT,zS,zZ,Act.put,yT,yZ,yS];refine zK (i:=6) (v:= .pointer (some ⟨w.heap.size,2,none⟩)) rfl ?_;simp only[zT,zS,zZ,Act.put,yT,yZ,yS];refine zK (i:=7) (v:= .slice va vn vc) rfl ?_;simp only[zT,zS,zZ,Act.put,yT,yZ,yS];refine wpAnyH_ready (rs:=[2]) (by kernel_rfl) (by simp) ?_;refine AllReadyH.cons rfl (fun K hK=>?_) AllReadyH.nil
 try simp only[zT,zS,zZ]
 go_simp;go_at_call 35
 refine(qY _).mono ?_;exact QTV
theorem QTW {P:Prop}(h:P:=by
 rintro e w7 ⟨rfl,rfl⟩;go_wp2_with fail
 refine hK.out _ _ ?_ (fun hHeld=>?_)
 ·exact HSC.out _ HX.out
 clear hK K
 try simp only[zT,zS,zZ,Act.put,yT,yZ,yS]
 refine wpAnyH_ready (rs:=[5]) (by kernel_rfl) (by simp) ?_;refine AllReadyH.cons rfl (fun K hK=>?_) AllReadyH.nil
 try simp only[zT,zS,zZ]
 go_simp;go_at_call 35
 refine(vR _).mono ?_;rintro e w7 ⟨rfl,rfl⟩;go_wp2_with fail
 refine hK.out _ _ ?_ (fun hHeld=>?_)
 ·exact HSC.out _ HX.out
 clear hK K
 try simp only[zT,zS,zZ,Act.put,yT,yZ,yS]
 refine wpAnyH_ready (rs:=[8]) (by kernel_rfl) (by simp) ?_;refine AllReadyH.cons rfl (fun K hK=>?_) AllReadyH.nil
 try simp only[zT,zS,zZ]
 go_simp;go_at_call 36
 refine(HC.out _ HX.out).mono ?_;rintro e w2 ⟨x,d,rfl,hc0,hc2,HC2⟩;go_wp2_with fail
 refine hK.out _ _ ?_ (fun hHeld=>?_)
 ·exact hc2
 clear hK K
 try simp only[zT,zS,zZ,Act.put,yT,yZ,yS]
 refine zK (i:=9) (v:= .tuple #[x,d]) rfl ?_;simp only[zT,zS,zZ,Act.put,yT,yZ,yS];refine zK (i:=10) (v:=x) rfl ?_;simp only[zT,zS,zZ,Act.put,yT,yZ,yS];refine zK (i:=11) (v:=d) rfl ?_;simp only[zT,zS,zZ,Act.put,yT,yZ,yS];refine zK (i:=12) (v:=x) rfl ?_;simp only[zT,zS,zZ,Act.put,yT,yZ,yS];refine zK (i:=13) (v:=d) rfl ?_;simp only[zT,zS,zZ,Act.put,yT,yZ,yS];refine MU (by kernel_rfl) ?_ _;clear x0 x1 x2 x3 HC HK hc2 HSC HX;obtain⟨q1,q2,q3⟩:=HC2.out;have HA1:=zH (HA.out _ _ q2);have HFN:=zH (fun w3 h1 h2=>gu (w3:=w3) (ln:=ln) q1 q2 q3 h1 h2);clear q1 q2 q3 HC2 HA;go_wp2_with fail
 refine HA1.out.mono ?_;rintro e w4 ⟨rfl,m1,m2⟩;obtain⟨p1,p2,p3⟩:=HFN.out w4 m1 m2;have HI2:=zH (HI.out _ _ w4 p1 p2 p3);clear m1 m2 p1 p2 p3 HFN HA1 HI;go_wp2_with fail
 go_ret3;exact HI2.out):P:=h
theorem IW (ln:Int) (args:List Txt) (text:Txt) (av:Option Addr×Nat×Nat) (w:World) (ha:Ss w (aO av) args) (hl:fe ⟨ln,[66,82],args,text⟩):
  Calls Tryz.prog 15 #[.agg (ah (ln,[66,82],av,text)).toArray] w (bg w ⟨ln,[66,82],args,text⟩):=by
 obtain⟨W1,hW1⟩: ∃W,w.alloc (.cells (ah (ln,[66,82],av,text)).toArray 33)=W:=⟨_,rfl⟩;have b1:Below w.heap.size w W1:=by rw[←hW1];exact af _ _
 have kx:Blk W1 w.heap.size 33 (ah (ln,[66,82],av,text)):=by rw[←hW1];exact Mw w _
 have hz1:=b1.size;obtain⟨q,hq⟩: ∃q,mI 1 0 args=q:=⟨_,rfl⟩;have hin:dY ⟨ln,[66,82],args,text⟩=some q:=by rw[←hq];rfl
 have hql:q.2.length≤80000:=by rw[←hq];have h1:=(dW 1 0 args 0).2;have h2:=hl.args;simp only at h2;rw[(fZ args 1 0 0).1 rfl];omega
 have HC:Hid (∀V,Below W1.heap.size W1 V→Calls Tryz.prog 36 #[.int .u8 1,.int .u8 0,.slice av.1 av.2.1 av.2.2] V fun e w'=> ∃x d,e= .returned (.tuple #[x,d])∧w'.cell? ⟨w.heap.size,0,none⟩=some (.int .i64 ln)∧w'.cell? ⟨w.heap.size,2,none⟩=some (.slice av.1 av.2.1 av.2.2)∧Hid (aV w.heap.size w' x q.1∧aP w.heap.size w' d (aM q.2)∧Below w.heap.size w w')):=zH (fun V hV=>by
  have hb:=b1.trans (hV.mono hz1);refine(fP 1 0 args (aO av) V (ha.below hb) hl.args hl.each).mono ?_;rintro e w' ⟨x,d,rfl,o1,o2,o3⟩;refine⟨x,d,rfl,(kx.below (hV.trans (o3.mono hV.size))).cell 0,(kx.below (hV.trans (o3.mono hV.size))).cell 2,zH ⟨?_,?_,hb.trans (o3.mono hb.size)⟩⟩
  ·rw[←hq];exact o1.mono hb.size
  ·rw[←hq];exact o2.mono hb.size)
 have HA:Hid (∀V d,aP w.heap.size V d (aM q.2)→Calls Tryz.prog 37 #[.int .i64 ln,d] V fun e w'=>e= .returned d∧aP w.heap.size w' d (atL ln (aM q.2))∧Exc (fun k=>d.ownBlock=some k) V w'):=zH (fun V d h=>gp ln V h (by unfold aM;simp;omega));have HK:Hid (∀V,Below W1.heap.size W1 V→ ∀(i:Nat) u,(ah (ln,[66,82],av,text))[i]? =some u→V.cell? ⟨w.heap.size,i,none⟩=some u):=zH (fun V hV i u hu=>by rw[(kx.below hV).cell i];exact hu);have HI:Hid (∀x d V,aV w.heap.size V x q.1→aP w.heap.size V d (bB ln q.2)→Below w.heap.size w V→bg w ⟨ln,[66,82],args,text⟩ (.returned (.tuple #[x,d,.bool true])) V):=zH (fun x d V h1 h2 h3=>by
  unfold bg;rw[hin];exact⟨x,d,rfl,h1,h2,h3⟩)
 have x0:=kx.cell 0;have x1:=kx.cell 1;have x2:=kx.cell 2;have x3:=kx.cell 3;obtain⟨va,vn,vc⟩:=av;simp only[ah,aO,Ml,Mk]at hW1 HC HK HI x0 x1 x2 x3 ⊢;have HB1:=zH b1;clear ha hl b1 kx hz1 hq hin hql;go_enter Tryz.func15,Tryz.ntmps15
 go_wp2_with fail
 have HSC:Hid (∀W,Below W1.heap.size W1 W→W.cell? ⟨w.heap.size,2,none⟩=some (.slice va vn vc)):=zH (fun W hW=>HK.out W hW 2 _ rfl);have HX:Hid (Below W1.heap.size W1 W1.drew):=zH (Mr _ W1).drew;refine wp_region_held_drew (S:=(fun W=>W.cell? ⟨w.heap.size,2,none⟩=some (.slice va vn vc))) (by kernel_rfl) ?_ (fun hHeld=>?_)
 ·exact HSC.out _ HX.out
 refine zK (i:=0) (v:= .string ⟨#[66,82]⟩) rfl ?_;simp only[zT,zS,zZ,Act.put,yT,yZ,yS];refine MZ (i:=1) (v:= .int .u8 66) rfl (by kernel_rfl) (by kernel_rfl) (by kernel_rfl) (fun _ _ _ h=>h) (Or.inl ⟨by rfl,fun w' hSw=>by(try dsimp only at hSw);go_simp;try rfl⟩) (by assumption) ?_;simp only[zT,zS,zZ,Act.put,yT,yZ,yS];refine zK (i:=3) (v:= .string ⟨#[66,82]⟩) rfl ?_;simp only[zT,zS,zZ,Act.put,yT,yZ,yS];refine MZ (i:=4) (v:= .int .u8 82) rfl (by kernel_rfl) (by kernel_rfl) (by kernel_rfl) (fun _ _ _ h=>h) (Or.inl ⟨by rfl,fun w' hSw=>by(try dsimp only at hSw);go_simp;try rfl⟩) (by assumption) ?_;simp only[zT,zS,zZ,Act.put,yT,yZ,yS];refine zK (i:=6) (v:= .pointer (some ⟨w.heap.size,2,none⟩)) rfl ?_;simp only[zT,zS,zZ,Act.put,yT,yZ,yS];refine zK (i:=7) (v:= .slice va vn vc) rfl ?_;simp only[zT,zS,zZ,Act.put,yT,yZ,yS];refine wpAnyH_ready (rs:=[2]) (by kernel_rfl) (by simp) ?_;refine AllReadyH.cons rfl (fun K hK=>?_) AllReadyH.nil
 try simp only[zT,zS,zZ]
 go_simp;go_at_call 35
 refine(qY _).mono ?_;exact QTW
theorem QTX {P:Prop}(h:P:=by
 rintro e w7 ⟨rfl,rfl⟩;go_wp2_with fail
 refine hK.out _ _ ?_ (fun hHeld=>?_)
 ·exact HSC.out _ HX.out
 clear hK K
 try simp only[zT,zS,zZ,Act.put,yT,yZ,yS]
 refine wpAnyH_ready (rs:=[5]) (by kernel_rfl) (by simp) ?_;refine AllReadyH.cons rfl (fun K hK=>?_) AllReadyH.nil
 try simp only[zT,zS,zZ]
 go_simp;go_at_call 35
 refine(qY _).mono ?_;rintro e w7 ⟨rfl,rfl⟩;go_wp2_with fail
 refine hK.out _ _ ?_ (fun hHeld=>?_)
 ·exact HSC.out _ HX.out
 clear hK K
 try simp only[zT,zS,zZ,Act.put,yT,yZ,yS]
 refine wpAnyH_ready (rs:=[8]) (by kernel_rfl) (by simp) ?_;refine AllReadyH.cons rfl (fun K hK=>?_) AllReadyH.nil
 try simp only[zT,zS,zZ]
 go_simp;go_at_call 36
 refine(HC.out _ HX.out).mono ?_;rintro e w2 ⟨x,d,rfl,hc0,hc2,HC2⟩;go_wp2_with fail
 refine hK.out _ _ ?_ (fun hHeld=>?_)
 ·exact hc2
 clear hK K
 try simp only[zT,zS,zZ,Act.put,yT,yZ,yS]
 refine zK (i:=9) (v:= .tuple #[x,d]) rfl ?_;simp only[zT,zS,zZ,Act.put,yT,yZ,yS];refine zK (i:=10) (v:=x) rfl ?_;simp only[zT,zS,zZ,Act.put,yT,yZ,yS];refine zK (i:=11) (v:=d) rfl ?_;simp only[zT,zS,zZ,Act.put,yT,yZ,yS];refine zK (i:=12) (v:=x) rfl ?_;simp only[zT,zS,zZ,Act.put,yT,yZ,yS];refine zK (i:=13) (v:=d) rfl ?_;simp only[zT,zS,zZ,Act.put,yT,yZ,yS];refine MU (by kernel_rfl) ?_ _;clear x0 x1 x2 x3 HC HK hc2 HSC HX;obtain⟨q1,q2,q3⟩:=HC2.out;have HA1:=zH (HA.out _ _ q2);have HFN:=zH (fun w3 h1 h2=>gu (w3:=w3) (ln:=ln) q1 q2 q3 h1 h2);clear q1 q2 q3 HC2 HA;go_wp2_with fail
 refine HA1.out.mono ?_;rintro e w4 ⟨rfl,m1,m2⟩;obtain⟨p1,p2,p3⟩:=HFN.out w4 m1 m2;have HI2:=zH (HI.out _ _ w4 p1 p2 p3);clear m1 m2 p1 p2 p3 HFN HA1 HI;go_wp2_with fail
 go_ret3;exact HI2.out):P:=h
theorem IV (ln:Int) (args:List Txt) (text:Txt) (av:Option Addr×Nat×Nat) (w:World) (ha:Ss w (aO av) args) (hl:fe ⟨ln,[73,66],args,text⟩):
  Calls Tryz.prog 15 #[.agg (ah (ln,[73,66],av,text)).toArray] w (bg w ⟨ln,[73,66],args,text⟩):=by
 obtain⟨W1,hW1⟩: ∃W,w.alloc (.cells (ah (ln,[73,66],av,text)).toArray 33)=W:=⟨_,rfl⟩;have b1:Below w.heap.size w W1:=by rw[←hW1];exact af _ _
 have kx:Blk W1 w.heap.size 33 (ah (ln,[73,66],av,text)):=by rw[←hW1];exact Mw w _
 have hz1:=b1.size;obtain⟨q,hq⟩: ∃q,mI 2 1 args=q:=⟨_,rfl⟩;have hin:dY ⟨ln,[73,66],args,text⟩=some q:=by rw[←hq];rfl
 have hql:q.2.length≤80000:=by rw[←hq];have h1:=(dW 2 1 args 0).2;have h2:=hl.args;simp only at h2;rw[(fZ args 2 1 0).1 rfl];omega
 have HC:Hid (∀V,Below W1.heap.size W1 V→Calls Tryz.prog 36 #[.int .u8 2,.int .u8 1,.slice av.1 av.2.1 av.2.2] V fun e w'=> ∃x d,e= .returned (.tuple #[x,d])∧w'.cell? ⟨w.heap.size,0,none⟩=some (.int .i64 ln)∧w'.cell? ⟨w.heap.size,2,none⟩=some (.slice av.1 av.2.1 av.2.2)∧Hid (aV w.heap.size w' x q.1∧aP w.heap.size w' d (aM q.2)∧Below w.heap.size w w')):=zH (fun V hV=>by
  have hb:=b1.trans (hV.mono hz1);refine(fP 2 1 args (aO av) V (ha.below hb) hl.args hl.each).mono ?_;rintro e w' ⟨x,d,rfl,o1,o2,o3⟩;refine⟨x,d,rfl,(kx.below (hV.trans (o3.mono hV.size))).cell 0,(kx.below (hV.trans (o3.mono hV.size))).cell 2,zH ⟨?_,?_,hb.trans (o3.mono hb.size)⟩⟩
  ·rw[←hq];exact o1.mono hb.size
  ·rw[←hq];exact o2.mono hb.size)
 have HA:Hid (∀V d,aP w.heap.size V d (aM q.2)→Calls Tryz.prog 37 #[.int .i64 ln,d] V fun e w'=>e= .returned d∧aP w.heap.size w' d (atL ln (aM q.2))∧Exc (fun k=>d.ownBlock=some k) V w'):=zH (fun V d h=>gp ln V h (by unfold aM;simp;omega));have HK:Hid (∀V,Below W1.heap.size W1 V→ ∀(i:Nat) u,(ah (ln,[73,66],av,text))[i]? =some u→V.cell? ⟨w.heap.size,i,none⟩=some u):=zH (fun V hV i u hu=>by rw[(kx.below hV).cell i];exact hu);have HI:Hid (∀x d V,aV w.heap.size V x q.1→aP w.heap.size V d (bB ln q.2)→Below w.heap.size w V→bg w ⟨ln,[73,66],args,text⟩ (.returned (.tuple #[x,d,.bool true])) V):=zH (fun x d V h1 h2 h3=>by
  unfold bg;rw[hin];exact⟨x,d,rfl,h1,h2,h3⟩)
 have x0:=kx.cell 0;have x1:=kx.cell 1;have x2:=kx.cell 2;have x3:=kx.cell 3;obtain⟨va,vn,vc⟩:=av;simp only[ah,aO,Ml,Mk]at hW1 HC HK HI x0 x1 x2 x3 ⊢;have HB1:=zH b1;clear ha hl b1 kx hz1 hq hin hql;go_enter Tryz.func15,Tryz.ntmps15
 go_wp2_with fail
 have HSC:Hid (∀W,Below W1.heap.size W1 W→W.cell? ⟨w.heap.size,2,none⟩=some (.slice va vn vc)):=zH (fun W hW=>HK.out W hW 2 _ rfl);have HX:Hid (Below W1.heap.size W1 W1.drew):=zH (Mr _ W1).drew;refine wp_region_held_drew (S:=(fun W=>W.cell? ⟨w.heap.size,2,none⟩=some (.slice va vn vc))) (by kernel_rfl) ?_ (fun hHeld=>?_)
 ·exact HSC.out _ HX.out
 refine zK (i:=0) (v:= .string ⟨#[73,66]⟩) rfl ?_;simp only[zT,zS,zZ,Act.put,yT,yZ,yS];refine MZ (i:=1) (v:= .int .u8 73) rfl (by kernel_rfl) (by kernel_rfl) (by kernel_rfl) (fun _ _ _ h=>h) (Or.inl ⟨by rfl,fun w' hSw=>by(try dsimp only at hSw);go_simp;try rfl⟩) (by assumption) ?_;simp only[zT,zS,zZ,Act.put,yT,yZ,yS];refine zK (i:=3) (v:= .string ⟨#[73,66]⟩) rfl ?_;simp only[zT,zS,zZ,Act.put,yT,yZ,yS];refine MZ (i:=4) (v:= .int .u8 66) rfl (by kernel_rfl) (by kernel_rfl) (by kernel_rfl) (fun _ _ _ h=>h) (Or.inl ⟨by rfl,fun w' hSw=>by(try dsimp only at hSw);go_simp;try rfl⟩) (by assumption) ?_;simp only[zT,zS,zZ,Act.put,yT,yZ,yS];refine zK (i:=6) (v:= .pointer (some ⟨w.heap.size,2,none⟩)) rfl ?_;simp only[zT,zS,zZ,Act.put,yT,yZ,yS];refine zK (i:=7) (v:= .slice va vn vc) rfl ?_;simp only[zT,zS,zZ,Act.put,yT,yZ,yS];refine wpAnyH_ready (rs:=[2]) (by kernel_rfl) (by simp) ?_;refine AllReadyH.cons rfl (fun K hK=>?_) AllReadyH.nil
 try simp only[zT,zS,zZ]
 go_simp;go_at_call 35
 refine(qX _).mono ?_;exact QTX
theorem IU (ln:Int) (args:List Txt) (text:Txt) (av:Option Addr×Nat×Nat) (w:World) (ha:Ss w (aO av) args) (hl:fe ⟨ln,[73,82],args,text⟩):
  Calls Tryz.prog 15 #[.agg (ah (ln,[73,82],av,text)).toArray] w (bg w ⟨ln,[73,82],args,text⟩):=by
 obtain⟨W1,hW1⟩: ∃W,w.alloc (.cells (ah (ln,[73,82],av,text)).toArray 33)=W:=⟨_,rfl⟩;have b1:Below w.heap.size w W1:=by rw[←hW1];exact af _ _
 have kx:Blk W1 w.heap.size 33 (ah (ln,[73,82],av,text)):=by rw[←hW1];exact Mw w _
 have hz1:=b1.size;obtain⟨q,hq⟩: ∃q,mI 2 0 args=q:=⟨_,rfl⟩;have hin:dY ⟨ln,[73,82],args,text⟩=some q:=by rw[←hq];rfl
 have hql:q.2.length≤80000:=by rw[←hq];have h1:=(dW 2 0 args 0).2;have h2:=hl.args;simp only at h2;rw[(fZ args 2 0 0).1 rfl];omega
 have HC:Hid (∀V,Below W1.heap.size W1 V→Calls Tryz.prog 36 #[.int .u8 2,.int .u8 0,.slice av.1 av.2.1 av.2.2] V fun e w'=> ∃x d,e= .returned (.tuple #[x,d])∧w'.cell? ⟨w.heap.size,0,none⟩=some (.int .i64 ln)∧w'.cell? ⟨w.heap.size,2,none⟩=some (.slice av.1 av.2.1 av.2.2)∧Hid (aV w.heap.size w' x q.1∧aP w.heap.size w' d (aM q.2)∧Below w.heap.size w w')):=zH (fun V hV=>by
  have hb:=b1.trans (hV.mono hz1);refine(fP 2 0 args (aO av) V (ha.below hb) hl.args hl.each).mono ?_;rintro e w' ⟨x,d,rfl,o1,o2,o3⟩;refine⟨x,d,rfl,(kx.below (hV.trans (o3.mono hV.size))).cell 0,(kx.below (hV.trans (o3.mono hV.size))).cell 2,zH ⟨?_,?_,hb.trans (o3.mono hb.size)⟩⟩
  ·rw[←hq];exact o1.mono hb.size
  ·rw[←hq];exact o2.mono hb.size)
 have HA:Hid (∀V d,aP w.heap.size V d (aM q.2)→Calls Tryz.prog 37 #[.int .i64 ln,d] V fun e w'=>e= .returned d∧aP w.heap.size w' d (atL ln (aM q.2))∧Exc (fun k=>d.ownBlock=some k) V w'):=zH (fun V d h=>gp ln V h (by unfold aM;simp;omega));have HK:Hid (∀V,Below W1.heap.size W1 V→ ∀(i:Nat) u,(ah (ln,[73,82],av,text))[i]? =some u→V.cell? ⟨w.heap.size,i,none⟩=some u):=zH (fun V hV i u hu=>by rw[(kx.below hV).cell i];exact hu);have HI:Hid (∀x d V,aV w.heap.size V x q.1→aP w.heap.size V d (bB ln q.2)→Below w.heap.size w V→bg w ⟨ln,[73,82],args,text⟩ (.returned (.tuple #[x,d,.bool true])) V):=zH (fun x d V h1 h2 h3=>by
  unfold bg;rw[hin];exact⟨x,d,rfl,h1,h2,h3⟩)
 have x0:=kx.cell 0;have x1:=kx.cell 1;have x2:=kx.cell 2;have x3:=kx.cell 3;obtain⟨va,vn,vc⟩:=av;simp only[ah,aO,Ml,Mk]at hW1 HC HK HI x0 x1 x2 x3 ⊢;have HB1:=zH b1;clear ha hl b1 kx hz1 hq hin hql;go_enter Tryz.func15,Tryz.ntmps15
 go_wp2_with fail
 have HSC:Hid (∀W,Below W1.heap.size W1 W→W.cell? ⟨w.heap.size,2,none⟩=some (.slice va vn vc)):=zH (fun W hW=>HK.out W hW 2 _ rfl);have HX:Hid (Below W1.heap.size W1 W1.drew):=zH (Mr _ W1).drew;refine wp_region_held_drew (S:=(fun W=>W.cell? ⟨w.heap.size,2,none⟩=some (.slice va vn vc))) (by kernel_rfl) ?_ (fun hHeld=>?_)
 ·exact HSC.out _ HX.out
 refine zK (i:=0) (v:= .string ⟨#[73,82]⟩) rfl ?_;simp only[zT,zS,zZ,Act.put,yT,yZ,yS];refine MZ (i:=1) (v:= .int .u8 73) rfl (by kernel_rfl) (by kernel_rfl) (by kernel_rfl) (fun _ _ _ h=>h) (Or.inl ⟨by rfl,fun w' hSw=>by(try dsimp only at hSw);go_simp;try rfl⟩) (by assumption) ?_;simp only[zT,zS,zZ,Act.put,yT,yZ,yS];refine zK (i:=3) (v:= .string ⟨#[73,82]⟩) rfl ?_;simp only[zT,zS,zZ,Act.put,yT,yZ,yS];refine MZ (i:=4) (v:= .int .u8 82) rfl (by kernel_rfl) (by kernel_rfl) (by kernel_rfl) (fun _ _ _ h=>h) (Or.inl ⟨by rfl,fun w' hSw=>by(try dsimp only at hSw);go_simp;try rfl⟩) (by assumption) ?_;simp only[zT,zS,zZ,Act.put,yT,yZ,yS];refine zK (i:=6) (v:= .pointer (some ⟨w.heap.size,2,none⟩)) rfl ?_;simp only[zT,zS,zZ,Act.put,yT,yZ,yS];refine zK (i:=7) (v:= .slice va vn vc) rfl ?_;simp only[zT,zS,zZ,Act.put,yT,yZ,yS];refine wpAnyH_ready (rs:=[2]) (by kernel_rfl) (by simp) ?_;refine AllReadyH.cons rfl (fun K hK=>?_) AllReadyH.nil
 try simp only[zT,zS,zZ]
 go_simp;go_at_call 35
 refine(qX _).mono ?_;exact QTW
theorem IR (ln:Int) (args:List Txt) (text:Txt) (av:Option Addr×Nat×Nat) (w:World) (ha:Ss w (aO av) args) (hl:fe ⟨ln,[82,66],args,text⟩):
  Calls Tryz.prog 15 #[.agg (ah (ln,[82,66],av,text)).toArray] w (bg w ⟨ln,[82,66],args,text⟩):=by
 obtain⟨W1,hW1⟩: ∃W,w.alloc (.cells (ah (ln,[82,66],av,text)).toArray 33)=W:=⟨_,rfl⟩;have b1:Below w.heap.size w W1:=by rw[←hW1];exact af _ _
 have kx:Blk W1 w.heap.size 33 (ah (ln,[82,66],av,text)):=by rw[←hW1];exact Mw w _
 have hz1:=b1.size;obtain⟨q,hq⟩: ∃q,mI 0 1 args=q:=⟨_,rfl⟩;have hin:dY ⟨ln,[82,66],args,text⟩=some q:=by rw[←hq];rfl
 have hql:q.2.length≤80000:=by rw[←hq];have h1:=(dW 0 1 args 0).2;have h2:=hl.args;simp only at h2;rw[(fZ args 0 1 0).1 rfl];omega
 have HC:Hid (∀V,Below W1.heap.size W1 V→Calls Tryz.prog 36 #[.int .u8 0,.int .u8 1,.slice av.1 av.2.1 av.2.2] V fun e w'=> ∃x d,e= .returned (.tuple #[x,d])∧w'.cell? ⟨w.heap.size,0,none⟩=some (.int .i64 ln)∧w'.cell? ⟨w.heap.size,2,none⟩=some (.slice av.1 av.2.1 av.2.2)∧Hid (aV w.heap.size w' x q.1∧aP w.heap.size w' d (aM q.2)∧Below w.heap.size w w')):=zH (fun V hV=>by
  have hb:=b1.trans (hV.mono hz1);refine(fP 0 1 args (aO av) V (ha.below hb) hl.args hl.each).mono ?_;rintro e w' ⟨x,d,rfl,o1,o2,o3⟩;refine⟨x,d,rfl,(kx.below (hV.trans (o3.mono hV.size))).cell 0,(kx.below (hV.trans (o3.mono hV.size))).cell 2,zH ⟨?_,?_,hb.trans (o3.mono hb.size)⟩⟩
  ·rw[←hq];exact o1.mono hb.size
  ·rw[←hq];exact o2.mono hb.size)
 have HA:Hid (∀V d,aP w.heap.size V d (aM q.2)→Calls Tryz.prog 37 #[.int .i64 ln,d] V fun e w'=>e= .returned d∧aP w.heap.size w' d (atL ln (aM q.2))∧Exc (fun k=>d.ownBlock=some k) V w'):=zH (fun V d h=>gp ln V h (by unfold aM;simp;omega));have HK:Hid (∀V,Below W1.heap.size W1 V→ ∀(i:Nat) u,(ah (ln,[82,66],av,text))[i]? =some u→V.cell? ⟨w.heap.size,i,none⟩=some u):=zH (fun V hV i u hu=>by rw[(kx.below hV).cell i];exact hu);have HI:Hid (∀x d V,aV w.heap.size V x q.1→aP w.heap.size V d (bB ln q.2)→Below w.heap.size w V→bg w ⟨ln,[82,66],args,text⟩ (.returned (.tuple #[x,d,.bool true])) V):=zH (fun x d V h1 h2 h3=>by
  unfold bg;rw[hin];exact⟨x,d,rfl,h1,h2,h3⟩)
 have x0:=kx.cell 0;have x1:=kx.cell 1;have x2:=kx.cell 2;have x3:=kx.cell 3;obtain⟨va,vn,vc⟩:=av;simp only[ah,aO,Ml,Mk]at hW1 HC HK HI x0 x1 x2 x3 ⊢;have HB1:=zH b1;clear ha hl b1 kx hz1 hq hin hql;go_enter Tryz.func15,Tryz.ntmps15
 go_wp2_with fail
 have HSC:Hid (∀W,Below W1.heap.size W1 W→W.cell? ⟨w.heap.size,2,none⟩=some (.slice va vn vc)):=zH (fun W hW=>HK.out W hW 2 _ rfl);have HX:Hid (Below W1.heap.size W1 W1.drew):=zH (Mr _ W1).drew;refine wp_region_held_drew (S:=(fun W=>W.cell? ⟨w.heap.size,2,none⟩=some (.slice va vn vc))) (by kernel_rfl) ?_ (fun hHeld=>?_)
 ·exact HSC.out _ HX.out
 refine zK (i:=0) (v:= .string ⟨#[82,66]⟩) rfl ?_;simp only[zT,zS,zZ,Act.put,yT,yZ,yS];refine MZ (i:=1) (v:= .int .u8 82) rfl (by kernel_rfl) (by kernel_rfl) (by kernel_rfl) (fun _ _ _ h=>h) (Or.inl ⟨by rfl,fun w' hSw=>by(try dsimp only at hSw);go_simp;try rfl⟩) (by assumption) ?_;simp only[zT,zS,zZ,Act.put,yT,yZ,yS];refine zK (i:=3) (v:= .string ⟨#[82,66]⟩) rfl ?_;simp only[zT,zS,zZ,Act.put,yT,yZ,yS];refine MZ (i:=4) (v:= .int .u8 66) rfl (by kernel_rfl) (by kernel_rfl) (by kernel_rfl) (fun _ _ _ h=>h) (Or.inl ⟨by rfl,fun w' hSw=>by(try dsimp only at hSw);go_simp;try rfl⟩) (by assumption) ?_;simp only[zT,zS,zZ,Act.put,yT,yZ,yS];refine zK (i:=6) (v:= .pointer (some ⟨w.heap.size,2,none⟩)) rfl ?_;simp only[zT,zS,zZ,Act.put,yT,yZ,yS];refine zK (i:=7) (v:= .slice va vn vc) rfl ?_;simp only[zT,zS,zZ,Act.put,yT,yZ,yS];refine wpAnyH_ready (rs:=[2]) (by kernel_rfl) (by simp) ?_;refine AllReadyH.cons rfl (fun K hK=>?_) AllReadyH.nil
 try simp only[zT,zS,zZ]
 go_simp;go_at_call 35
 refine(vR _).mono ?_;exact QTX
theorem IQ (ln:Int) (args:List Txt) (text:Txt) (av:Option Addr×Nat×Nat) (w:World) (ha:Ss w (aO av) args) (hl:fe ⟨ln,[82,73],args,text⟩):
  Calls Tryz.prog 15 #[.agg (ah (ln,[82,73],av,text)).toArray] w (bg w ⟨ln,[82,73],args,text⟩):=by
 obtain⟨W1,hW1⟩: ∃W,w.alloc (.cells (ah (ln,[82,73],av,text)).toArray 33)=W:=⟨_,rfl⟩;have b1:Below w.heap.size w W1:=by rw[←hW1];exact af _ _
 have kx:Blk W1 w.heap.size 33 (ah (ln,[82,73],av,text)):=by rw[←hW1];exact Mw w _
 have hz1:=b1.size;obtain⟨q,hq⟩: ∃q,mI 0 2 args=q:=⟨_,rfl⟩;have hin:dY ⟨ln,[82,73],args,text⟩=some q:=by rw[←hq];rfl
 have hql:q.2.length≤80000:=by rw[←hq];have h1:=(dW 0 2 args 0).2;have h2:=hl.args;simp only at h2;rw[(fZ args 0 2 0).1 rfl];omega
 have HC:Hid (∀V,Below W1.heap.size W1 V→Calls Tryz.prog 36 #[.int .u8 0,.int .u8 2,.slice av.1 av.2.1 av.2.2] V fun e w'=> ∃x d,e= .returned (.tuple #[x,d])∧w'.cell? ⟨w.heap.size,0,none⟩=some (.int .i64 ln)∧w'.cell? ⟨w.heap.size,2,none⟩=some (.slice av.1 av.2.1 av.2.2)∧Hid (aV w.heap.size w' x q.1∧aP w.heap.size w' d (aM q.2)∧Below w.heap.size w w')):=zH (fun V hV=>by
  have hb:=b1.trans (hV.mono hz1);refine(fP 0 2 args (aO av) V (ha.below hb) hl.args hl.each).mono ?_;rintro e w' ⟨x,d,rfl,o1,o2,o3⟩;refine⟨x,d,rfl,(kx.below (hV.trans (o3.mono hV.size))).cell 0,(kx.below (hV.trans (o3.mono hV.size))).cell 2,zH ⟨?_,?_,hb.trans (o3.mono hb.size)⟩⟩
  ·rw[←hq];exact o1.mono hb.size
  ·rw[←hq];exact o2.mono hb.size)
 have HA:Hid (∀V d,aP w.heap.size V d (aM q.2)→Calls Tryz.prog 37 #[.int .i64 ln,d] V fun e w'=>e= .returned d∧aP w.heap.size w' d (atL ln (aM q.2))∧Exc (fun k=>d.ownBlock=some k) V w'):=zH (fun V d h=>gp ln V h (by unfold aM;simp;omega));have HK:Hid (∀V,Below W1.heap.size W1 V→ ∀(i:Nat) u,(ah (ln,[82,73],av,text))[i]? =some u→V.cell? ⟨w.heap.size,i,none⟩=some u):=zH (fun V hV i u hu=>by rw[(kx.below hV).cell i];exact hu);have HI:Hid (∀x d V,aV w.heap.size V x q.1→aP w.heap.size V d (bB ln q.2)→Below w.heap.size w V→bg w ⟨ln,[82,73],args,text⟩ (.returned (.tuple #[x,d,.bool true])) V):=zH (fun x d V h1 h2 h3=>by
  unfold bg;rw[hin];exact⟨x,d,rfl,h1,h2,h3⟩)
 have x0:=kx.cell 0;have x1:=kx.cell 1;have x2:=kx.cell 2;have x3:=kx.cell 3;obtain⟨va,vn,vc⟩:=av;simp only[ah,aO,Ml,Mk]at hW1 HC HK HI x0 x1 x2 x3 ⊢;have HB1:=zH b1;clear ha hl b1 kx hz1 hq hin hql;go_enter Tryz.func15,Tryz.ntmps15
 go_wp2_with fail
 have HSC:Hid (∀W,Below W1.heap.size W1 W→W.cell? ⟨w.heap.size,2,none⟩=some (.slice va vn vc)):=zH (fun W hW=>HK.out W hW 2 _ rfl);have HX:Hid (Below W1.heap.size W1 W1.drew):=zH (Mr _ W1).drew;refine wp_region_held_drew (S:=(fun W=>W.cell? ⟨w.heap.size,2,none⟩=some (.slice va vn vc))) (by kernel_rfl) ?_ (fun hHeld=>?_)
 ·exact HSC.out _ HX.out
 refine zK (i:=0) (v:= .string ⟨#[82,73]⟩) rfl ?_;simp only[zT,zS,zZ,Act.put,yT,yZ,yS];refine MZ (i:=1) (v:= .int .u8 82) rfl (by kernel_rfl) (by kernel_rfl) (by kernel_rfl) (fun _ _ _ h=>h) (Or.inl ⟨by rfl,fun w' hSw=>by(try dsimp only at hSw);go_simp;try rfl⟩) (by assumption) ?_;simp only[zT,zS,zZ,Act.put,yT,yZ,yS];refine zK (i:=3) (v:= .string ⟨#[82,73]⟩) rfl ?_;simp only[zT,zS,zZ,Act.put,yT,yZ,yS];refine MZ (i:=4) (v:= .int .u8 73) rfl (by kernel_rfl) (by kernel_rfl) (by kernel_rfl) (fun _ _ _ h=>h) (Or.inl ⟨by rfl,fun w' hSw=>by(try dsimp only at hSw);go_simp;try rfl⟩) (by assumption) ?_;simp only[zT,zS,zZ,Act.put,yT,yZ,yS];refine zK (i:=6) (v:= .pointer (some ⟨w.heap.size,2,none⟩)) rfl ?_;simp only[zT,zS,zZ,Act.put,yT,yZ,yS];refine zK (i:=7) (v:= .slice va vn vc) rfl ?_;simp only[zT,zS,zZ,Act.put,yT,yZ,yS];refine wpAnyH_ready (rs:=[2]) (by kernel_rfl) (by simp) ?_;refine AllReadyH.cons rfl (fun K hK=>?_) AllReadyH.nil
 try simp only[zT,zS,zZ]
 go_simp;go_at_call 35
 refine(vR _).mono ?_;exact QTV
theorem Dw (x:RV) (r:aW) (w:World) (h:x.2.1=r.mac) (hn:dY r=none):
  Calls Tryz.prog 15 #[.agg (ah x).toArray] w (bg w r):=by
 have hne:x.2.1≠ []∧x.2.1≠ [66]∧x.2.1≠ [73]∧x.2.1≠ [66,73]∧x.2.1≠ [66,82]∧x.2.1≠ [73,66]∧x.2.1≠ [73,82]∧x.2.1≠ [82,66]∧x.2.1≠ [82,73]:=by
  rw[h];refine⟨fun e=>?_,fun e=>?_,fun e=>?_,fun e=>?_,fun e=>?_,fun e=>?_,fun e=>?_,fun e=>?_,fun e=>?_⟩<;>(unfold dY at hn;rw[e]at hn;simp at hn)
 have b1:=af w (.cells (ah x).toArray 33);have kx:Blk (w.alloc (.cells (ah x).toArray 33)) w.heap.size 33 (ah x):=Mw w _;obtain⟨ln,b,⟨va,vn,vc⟩,text⟩:=x;simp only at hne;obtain⟨c0,c1,c2,c3,c4,c5,c6,c7,c8⟩:=hne;have d0:=bR c0;have d1:=bR c1;have d2:=bR c2;have d3:=bR c3;have d4:=bR c4;have d5:=bR c5;have d6:=bR c6;have d7:=bR c7;have d8:=bR c8;have x1:=kx.cell 1;obtain⟨W1,hW1⟩: ∃W,w.alloc (.cells (ah (ln,b,(va,vn,vc),text)).toArray 33)=W:=⟨_,rfl⟩;rw[hW1]at x1 b1;simp only[ah,aO,Ml,Mk]at hW1 x1 ⊢;have HI:=zH (bg.none hn b1);clear hn h b1 kx c1 c2 c3 c4 c5 c6 c7 c8;go_enter Tryz.func15,Tryz.ntmps15
 go_wp2_with fail
 go_ret3;exact HI.out
theorem oQ (x:RV) (r:aW) (w:World) (hx:iJ w x r) (hl:fe r):Calls Tryz.prog 15 #[.agg (ah x).toArray] w (bg w r):=by
 cases hn:dY r with
 | none=>exact Dw x r w hx.mac hn
 | some q=>
  obtain⟨ln,m,args,text⟩:=r;obtain⟨xl,xm,av,xt⟩:=x;obtain⟨h1,h2,h3,h4⟩:=hx;simp only at h1 h2 h3 h4;subst h1 h2 h3
  by_cases c:xm∈ [[],[66],[73],[66,73],[66,82],[73,66],[73,82],[82,66],[82,73]]
  ·simp only[Nr,Nj,Ob]at c
   rcases c with rfl | rfl | rfl | rfl | rfl | rfl | rfl | rfl | rfl
   ·exact Dv _ _ _ av w h4 hl
   ·exact Km _ _ _ av w h4 hl
   ·exact Kl _ _ _ av w h4 hl
   ·exact IX _ _ _ av w h4 hl
   ·exact IW _ _ _ av w h4 hl
   ·exact IV _ _ _ av w h4 hl
   ·exact IU _ _ _ av w h4 hl
   ·exact IR _ _ _ av w h4 hl
   ·exact IQ _ _ _ av w h4 hl
  ·simp only[Nr,Nj,Ob,not_or]at c
   obtain⟨c0,c1,c2,c3,c4,c5,c6,c7,c8⟩:=c;unfold dY at hn;simp only at hn;rw[ME c0,ME (by rintro(h | h);exact c1 h;exact c2 h),ME (by rintro(h | h | h | h | h | h);exact c3 h;exact c4 h;exact c5 h;exact c6 h;exact c7 h;exact c8 h)]at hn
   cases hn
end Go.Proofs.YtebabjnngdjceaaGreatDoor
