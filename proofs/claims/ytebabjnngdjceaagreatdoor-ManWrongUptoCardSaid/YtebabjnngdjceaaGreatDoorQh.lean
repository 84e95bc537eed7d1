/- The program's own for do -/
import Derived.Test.YtebabjnngdjceaaGreatDoorQc
set_option linter.unusedVariables false
set_option linter.unusedSimpArgs false
set_option maxRecDepth 100000
set_option maxHeartbeats 8000000
namespace Go.Proofs.YtebabjnngdjceaaGreatDoor
open Go.RowKit
section
attribute [local go_sem ↓ high] gM
structure PM (w:World)(cols C:List UInt8)(rv:Value)(gb ga al:Bool)(o:Nat)(W:World)(v:Value)(rows:List bT):Prop where
 bel:Below w.heap.size w W
 box:Blk W w.heap.size 56 [.string ⟨cols.toArray⟩,rv,.bool gb,.bool ga]
 res:Blk W (w.heap.size+1) 56 [.string ⟨#[]⟩,.slice none 0 0,.bool false,.bool false]
 out:Blk W o 56 [.string ⟨C.toArray⟩,v,.bool gb,.bool al]
 rows:fV w.heap.size W v rows
 lt:w.heap.size+1<o
section
variable {w W W':World}{cols C:List UInt8}{rv v:Value}{gb ga al:Bool}{o:Nat}{rows:List bT}
theorem PM.start {W0:World}(h1:Below w.heap.size w W0)(h2:Blk W0 w.heap.size 56 [.string ⟨cols.toArray⟩,rv,.bool gb,.bool ga])(h3:Blk W0 (w.heap.size+1) 56 [.string ⟨#[]⟩,.slice none 0 0,.bool false,.bool false]):
  PM w cols C rv gb ga al W0.heap.size (W0.alloc (.cells #[.string ⟨C.toArray⟩,.slice none 0 0,.bool gb,.bool al] 56)) (.slice none 0 0) []:=by
 have b:=ae W0 (.cells #[.string ⟨C.toArray⟩,.slice none 0 0,.bool gb,.bool al] 56);exact⟨h1.trans (b.mono h1.size),h2.below b,h3.below b,PK W0 _,fV.nil _ _,h3.lt⟩
theorem PM.keep (h:PM w cols C rv gb ga al o W v rows)(hb:Below W.heap.size W W'):PM w cols C rv gb ga al o W' v rows:=
 ⟨h.bel.trans (hb.mono h.bel.size),h.box.below hb,h.res.below hb,h.out.below hb,h.rows.keep hb,h.lt⟩
theorem PM.push (h:PM w cols C rv gb ga al o W v rows)(hl:rows.length≤500000)(b:Bool)(s:PV)(r:List (List Gly))
  (hs:GrS (fun b=>w.heap.size≤b∧ ∃cur e fz,W.heap[b]? =some (.cells cur e fz)∧(e=26∨e=35)) W (pv s) r):
  ∃a' c' w',(appW #[v,.slice (some ⟨W.heap.size,0,none⟩) 1 1]).run Tryz.prog (W.alloc (.cells #[.bool b,pv s] 90))=.ok (.value (.slice a' (rows.length+1) c')) w'∧
   w'.frozen? ⟨o,1,none⟩=false∧w'.cell? ⟨o,1,none⟩=some v∧PM w cols C rv gb ga al o (w'.setCell ⟨o,1,none⟩ (.slice a' (rows.length+1) c')) (.slice a' (rows.length+1) c') (rows++ [(b,r)]):=by
 obtain⟨a',c',w',hr,hi,hb,hsam⟩:=h.rows.push h.bel.size hl b s r hs;have st:=hsam 56 (by decide);have hlt:=h.lt;have hbox:=h.box.sam (Px _) st;have hres:=h.res.sam (Nat.le_add_right _ _) st;have hout:=h.out.sam (by omega) st;refine⟨a',c',w',hr,hout.frozen (by simp),hout.cell 1,?_⟩;refine⟨(h.bel.trans hb).setCell (show w.heap.size≤o by omega) _,hbox.other (by omega) _ _,hres.other (by omega) _ _,hout.set 1 _,?_,hlt⟩;exact hi.sam (aF.set hout (by decide) _ _) (aF.set hout (by decide) _ _) (aF.set hout (by decide) _ _)
theorem PM.fin (h:PM w cols C rv gb ga al o W v rows)(x0 x1 x2 x3:Value):
  Blk ((((W.setCell ⟨w.heap.size+1,0,none⟩ x0).setCell ⟨w.heap.size+1,1,none⟩ x1).setCell ⟨w.heap.size+1,2,none⟩ x2).setCell ⟨w.heap.size+1,3,none⟩ x3) (w.heap.size+1) 56 [x0,x1,x2,x3]∧
  fV w.heap.size ((((W.setCell ⟨w.heap.size+1,0,none⟩ x0).setCell ⟨w.heap.size+1,1,none⟩ x1).setCell ⟨w.heap.size+1,2,none⟩ x2).setCell ⟨w.heap.size+1,3,none⟩ x3) v rows∧
  Below w.heap.size w ((((W.setCell ⟨w.heap.size+1,0,none⟩ x0).setCell ⟨w.heap.size+1,1,none⟩ x1).setCell ⟨w.heap.size+1,2,none⟩ x2).setCell ⟨w.heap.size+1,3,none⟩ x3):=by
 have r1:=h.res.set 0 x0;have r2:=r1.set 1 x1;have r3:=r2.set 2 x2;have r4:=r3.set 3 x3;have i1:=h.rows.sam (aF.set h.res (by decide) 0 x0) (aF.set h.res (by decide) 0 x0) (aF.set h.res (by decide) 0 x0);have i2:=i1.sam (aF.set r1 (by decide) 1 x1) (aF.set r1 (by decide) 1 x1) (aF.set r1 (by decide) 1 x1);have i3:=i2.sam (aF.set r2 (by decide) 2 x2) (aF.set r2 (by decide) 2 x2) (aF.set r2 (by decide) 2 x2);have i4:=i3.sam (aF.set r3 (by decide) 3 x3) (aF.set r3 (by decide) 3 x3) (aF.set r3 (by decide) 3 x3);exact⟨r4,i4,(((h.bel.setCell (by simp) _).setCell (by simp) _).setCell (by simp) _).setCell (by simp) _⟩
end
theorem KW {W W':World}{args:Array Value}{v:Value}(h:(appW args).run Tryz.prog W=.ok (.value v) W'):(Builtin.append_ #[54,54] 54 args).run Tryz.prog W=.ok v W':=by
 unfold appW at h;rw[QD]at h
 cases k:(Builtin.append_ #[54,54] 54 args).run Tryz.prog W with
 | ok u w1=>
  rw[k,Qm,QG]at h;injection h with h1 h2
  injection h1 with h1
  rw[h1,h2]
 | _=>rw[k]at h;cases h
def StP (w:World)(cols C:List UInt8)(rv:Value)(gb ga al:Bool)(c:Value)(W:World):Prop:= ∃o,c=.pointer (some ⟨o,0,none⟩)∧PM w cols C rv gb ga al o W (.slice none 0 0) []
def Nr (t:Tab)(w:World)(e:Ending)(w':World):Prop:= ∃s:PV,e=.returned (tH t s)∧fV w.heap.size w' (pv s) t.rows∧Below w.heap.size w w'
theorem QUs {P:Prop}(h:P:=by
 clear hK K
 try simp only[zA,Act.put]
 refine Qd (by kernel_rfl) ?_ _;go_wp2_with fail;go_meet;first | exact⟨_,rfl,HST.out w1 _ B1.out⟩| exact⟨_,rfl,(HST2.out _ _ w1 rfl HB1.out).2.2⟩):P:=h
theorem wU (S:Nat→Prop)(t:Tab)(r:PV)(w:World)(hU:U8 w)(hv:TrS S w (pv r) t.rows)(hb:t.cols.length≤90000)(hl:cZ t.rows≤90000)(hS:∀x,S x→x<w.heap.size):
  Calls Tryz.prog 132 #[tH t r] w (Nr (mend t) w):=by
 obtain⟨cols,rows,gb,ga⟩:=t;obtain⟨r1,r2,r3⟩:=r;simp only at hv hb hl;obtain⟨ra,rc,er⟩:=hv.len;have er':=oQ er;injection er' with e1 e2
 injection e2 with e2 e3
 subst e1 e2 e3;unfold mend;simp only;have hcl:=Ba cols;obtain⟨C,hC⟩:∃C,lH cols=C:=⟨_,rfl⟩;obtain⟨W1,hW1⟩:∃W,W=(w.alloc (.cells ([.string ⟨cols.toArray⟩,.slice r1 rows.length r3,.bool gb,.bool ga]:List Value).toArray 56)).alloc (.cells ([.string ⟨#[]⟩,.slice none 0 0,.bool false,.bool false]:List Value).toArray 56):=⟨_,rfl⟩;have b2:=Oo w (.cells ([.string ⟨cols.toArray⟩,.slice r1 rows.length r3,.bool gb,.bool ga]:List Value).toArray 56) (.cells ([.string ⟨#[]⟩,.slice none 0 0,.bool false,.bool false]:List Value).toArray 56);rw[←hW1]at b2;have hX:Blk W1 w.heap.size 56 [.string ⟨cols.toArray⟩,.slice r1 rows.length r3,.bool gb,.bool ga]:=by rw[hW1];exact(Qk _ _ (by simp)).trans (PK w _)
 have hR:Blk W1 (w.heap.size+1) 56 [.string ⟨#[]⟩,.slice none 0 0,.bool false,.bool false]:=by
  have:=PK (w.alloc (.cells ([.string ⟨cols.toArray⟩,.slice r1 rows.length r3,.bool gb,.bool ga]:List Value).toArray 56)) (.cells ([.string ⟨#[]⟩,.slice none 0 0,.bool false,.bool false]:List Value).toArray 56);rw[PS,←hW1]at this;exact this
 have HC:Hid (∀W,Below W1.heap.size W1 W→Calls Tryz.prog 165 #[.string ⟨cols.toArray⟩] W fun e w'=>e=.returned (.string ⟨C.toArray⟩)∧Below W.heap.size W w'):=zH (fun W h=>hC▸yE cols W (hU.below (b2.trans (h.mono b2.size))) hb);have HX:Hid (∀W,Below W1.heap.size W1 W→W.cell? ⟨w.heap.size,0,none⟩=some (.string ⟨cols.toArray⟩)∧W.cell? ⟨w.heap.size,2,none⟩=some (.bool gb)∧W.cell? ⟨w.heap.size,3,none⟩=some (.bool ga)):=zH (fun W h=>⟨(hX.below h).cell 0,(hX.below h).cell 2,(hX.below h).cell 3⟩);have HST:Hid (∀W (al:Bool),Below W1.heap.size W1 W→PM w cols C (.slice r1 rows.length r3) gb ga al W.heap.size (W.alloc (.cells #[.string ⟨C.toArray⟩,.slice none 0 0,.bool gb,.bool al] 56)) (.slice none 0 0) []):=zH (fun W al h=>PM.start (b2.trans (h.mono b2.size)) (hX.below h) (hR.below h));have HV:=zH (fun W (h:Below w.heap.size w W)=>hv.keep (Kp.below h hS));have HS:=zH hS;rw[hC]at hcl⊢;simp only[tH,pv];have HAL:Hid ((ga&&gb)=(gb&&ga)):=zH (Bool.and_comm _ _);rw[HAL.out];have hz1:W1.heap.size=w.heap.size+1+1:=by rw[hW1,PS,PS]
 have b0:=zH (PG W1.heap.size W1).drew;obtain⟨d0,d2,d3⟩:=HX.out _ b0.out;have HST2:Hid (∀(o:Obj) (al:Bool) W,o=.cells #[.string ⟨#[]⟩,.slice none 0 0,.bool false,.bool false] 56→Below (W1.alloc o).drew.heap.size (W1.alloc o).drew W→
   (Blk W W1.heap.size 56 [.string ⟨#[]⟩,.slice none 0 0,.bool false,.bool false])∧Below W1.heap.size W1 W∧
   PM w cols C (.slice r1 rows.length r3) gb ga al W1.heap.size ((((W.setCell ⟨W1.heap.size,0,none⟩ (.string ⟨C.toArray⟩)).setCell ⟨W1.heap.size,1,none⟩ (.slice none 0 0)).setCell ⟨W1.heap.size,2,none⟩ (.bool gb)).setCell ⟨W1.heap.size,3,none⟩ (.bool al)) (.slice none 0 0) []):=zH (fun o al W ho hb=>by
  have k1:Below W1.heap.size W1 W:=(ae W1 o).drew.trans (hb.mono (by show _≤(W1.alloc o).heap.size;rw[PS];exact Rl _));have kB:Blk W W1.heap.size 56 [.string ⟨#[]⟩,.slice none 0 0,.bool false,.bool false]:=Blk.below (by subst ho;exact PK W1 _) hb;have x:=hX.below k1;have y:=hR.below k1;refine⟨kB,k1,?_⟩;refine⟨?_,?_,?_,(((kB.set 0 _).set 1 _).set 2 _).set 3 _,fV.nil _ _,by omega⟩
  ·exact((((b2.trans (k1.mono b2.size)).setCell (show w.heap.size≤W1.heap.size by omega) _).setCell (show w.heap.size≤W1.heap.size by omega) _).setCell (show w.heap.size≤W1.heap.size by omega) _).setCell (show w.heap.size≤W1.heap.size by omega) _
  ·exact(((x.other (by omega) _ _).other (by omega) _ _).other (by omega) _ _).other (by omega) _ _
  ·exact(((y.other (by omega) _ _).other (by omega) _ _).other (by omega) _ _).other (by omega) _ _)
 have HW1:=zH hW1;clear HAL hX hR b2 hv hS hU hC er hW1 hz1;go_enter Tryz.func132,Tryz.ntmps132
 go_upto_region 1 with fail
 rw[←HW1.out];go_cut [3] (fun c wx=>StP w cols C (.slice r1 rows.length r3) gb ga (gb&&ga) c wx)
 case first=>
  clear HW1
  cases gb
  ·go_wp2_with fail
   refine wp_region_held_drew (S:=(fun W'=>W'.cell? ⟨w.heap.size,0,none⟩=some (.string ⟨cols.toArray⟩)∧W'.cell? ⟨w.heap.size,2,none⟩=some (.bool false))) (by kernel_rfl) ?_ (fun hHeld=>?_)
   ·exact⟨d0,d2⟩
   refine zK (i:=0) (v:= .pointer (some ⟨w.heap.size,0,none⟩)) rfl ?_;simp only[zA,Act.put];refine zK (i:=1) (v:= .string ⟨cols.toArray⟩) rfl ?_;simp only[zA,Act.put];refine zK (i:=3) (v:= .pointer (some ⟨w.heap.size,2,none⟩)) rfl ?_;simp only[zA,Act.put];refine zK (i:=4) (v:= .bool false) rfl ?_;simp only[zA,Act.put];refine zK (i:=5) (v:= .pointer (some ⟨w.heap.size,2,none⟩)) rfl ?_;simp only[zA,Act.put];refine zK (i:=6) (v:= .bool false) rfl ?_;simp only[zA,Act.put];refine wpAnyH_ready (rs:=[2,12]) (by kernel_rfl) (by simp) ?_;refine AllReadyH.cons rfl (fun K hK=>?_) (AllReadyH.cons rfl (fun K hK=>?_) AllReadyH.nil)
   ·try simp only[zG]
    go_simp;go_at_call 165;(with_reducible refine(HC.out _ b0.out).mono ?_);rintro e w1 ⟨rfl,b1⟩;have B1:=zH (Below.trans b0.out (b1.mono b0.out.size));clear b1
    go_wp2_with fail
    refine hK.out _ _ ?_ (fun hHeld=>?_)
    ·exact⟨(HX.out _ B1.out).1,(HX.out _ B1.out).2.1⟩
    clear hK K
    try simp only[zA,Act.put]
    refine zK (i:=7) (v:= .bool false) rfl ?_;simp only[zA,Act.put];refine Qv (i:=8) (v:=undef) rfl (by kernel_rfl) (by kernel_rfl) (by kernel_rfl) (fun _ _ _ h=>h) (Or.inr ⟨by rfl,rfl⟩) (by assumption) ?_;simp only[zA,Act.put];refine Qv (i:=9) (v:=undef) rfl (by kernel_rfl) (by kernel_rfl) (by kernel_rfl) (fun _ _ _ h=>h) (Or.inr ⟨by rfl,rfl⟩) (by assumption) ?_;simp only[zA,Act.put];refine zK (i:=10) (v:= .bool false) rfl ?_;simp only[zA,Act.put];refine zK (i:=11) (v:= .agg #[.string ⟨C.toArray⟩,.slice none 0 0,.bool false,.bool false]) rfl ?_;simp only[zA,Act.put];refine wpAnyH_ready (rs:=[12]) (by kernel_rfl) (by simp) ?_;refine AllReadyH.cons rfl (fun K hK=>?_) AllReadyH.nil
    try simp only[zG]
    go_simp;refine hK.out _ _ ?_ (fun hHeld=>?_)
    ·exact⟨(HX.out _ (RL B1.out B1.out.size _)).1,(HX.out _ (RL B1.out B1.out.size _)).2.1⟩
    clear hK K
    try simp only[zA,Act.put]
    refine wpAnyH_ready (rs:=[13]) (by kernel_rfl) (by simp) ?_;refine AllReadyH.cons rfl (fun K hK=>?_) AllReadyH.nil
    try simp only[zG]
    go_simp;refine hK.out _ _ ?_ (fun hHeld=>?_)
    ·exact⟨(HX.out _ (RL B1.out B1.out.size _)).1,(HX.out _ (RL B1.out B1.out.size _)).2.1⟩
    exact QUs
   ·try simp only[zG]
    go_simp;refine hK.out _ _ ?_ (fun hHeld=>?_)
    ·exact⟨(HX.out _ (Below.drew (RL (PG _ W1) (Px _) _))).1,(HX.out _ (Below.drew (RL (PG _ W1) (Px _) _))).2.1⟩
    clear hK K
    try simp only[zA,Act.put]
    refine wpAnyH_ready (rs:=[2]) (by kernel_rfl) (by simp) ?_;refine AllReadyH.cons rfl (fun K hK=>?_) AllReadyH.nil
    try simp only[zG]
    go_simp;go_at_call 165;(with_reducible refine(HC.out _ (Below.drew (RL (PG _ W1) (Px _) _))).mono ?_);rintro e w1 ⟨rfl,b1⟩;obtain⟨kB,B1',-⟩:=HST2.out _ false w1 rfl b1;have HB1:=zH b1;have B1:=zH B1';have y0:=kB.cell 0;have y1:=kB.cell 1;have y2:=kB.cell 2;have y3:=kB.cell 3;have z0:=kB.frozen (j:=0) (by simp);have z1:=kB.frozen (j:=1) (by simp);have z2:=kB.frozen (j:=2) (by simp);have z3:=kB.frozen (j:=3) (by simp);clear b1 kB B1'
    go_wp2_with fail
    refine hK.out _ _ ?_ (fun hHeld=>?_)
    ·exact⟨(HX.out _ B1.out).1,(HX.out _ B1.out).2.1⟩
    clear hK K
    try simp only[zA,Act.put]
    refine zK (i:=7) (v:= .bool false) rfl ?_;simp only[zA,Act.put];refine Qv (i:=8) (v:=undef) rfl (by kernel_rfl) (by kernel_rfl) (by kernel_rfl) (fun _ _ _ h=>h) (Or.inr ⟨by rfl,rfl⟩) (by assumption) ?_;simp only[zA,Act.put];refine Qv (i:=9) (v:=undef) rfl (by kernel_rfl) (by kernel_rfl) (by kernel_rfl) (fun _ _ _ h=>h) (Or.inr ⟨by rfl,rfl⟩) (by assumption) ?_;simp only[zA,Act.put];refine zK (i:=10) (v:= .bool false) rfl ?_;simp only[zA,Act.put];refine zK (i:=11) (v:= .agg #[.string ⟨C.toArray⟩,.slice none 0 0,.bool false,.bool false]) rfl ?_;simp only[zA,Act.put];refine wpAnyH_ready (rs:=[13]) (by kernel_rfl) (by simp) ?_;refine AllReadyH.cons rfl (fun K hK=>?_) AllReadyH.nil
    try simp only[zG]
    go_simp;refine hK.out _ _ ?_ (fun hHeld=>?_)
    ·exact⟨(HX.out _ ((((B1.out.setCell (Px _) _).setCell (Px _) _).setCell (Px _) _).setCell (Px _) _)).1,(HX.out _ ((((B1.out.setCell (Px _) _).setCell (Px _) _).setCell (Px _) _).setCell (Px _) _)).2.1⟩
    exact QUs
  ·go_wp2_with fail
   first | (go_region_held3 (fun W'=>W'.cell? ⟨w.heap.size,0,none⟩=some (.string ⟨cols.toArray⟩)∧W'.cell? ⟨w.heap.size,2,none⟩=some (.bool true)∧W'.cell? ⟨w.heap.size,3,none⟩=some (.bool ga)) (first | exact HX.out _ b0.out | exact HX.out _ (Below.drew (RL (PG _ W1) (Px _) _))| exact HX.out _ B1.out | exact HX.out _ (RL B1.out B1.out.size _)| exact HX.out _ ((((B1.out.setCell (Px _) _).setCell (Px _) _).setCell (Px _) _).setCell (Px _) _)) ((first | (go_at_call 165;(with_reducible refine(HC.out _ b0.out).mono ?_);rintro e w1 ⟨rfl,b1⟩;have B1:=zH (Below.trans b0.out (b1.mono b0.out.size));clear b1)| (go_at_call 165;(with_reducible refine(HC.out _ (Below.drew (RL (PG _ W1) (Px _) _))).mono ?_);rintro e w1 ⟨rfl,b1⟩;obtain⟨kB,B1',-⟩:=HST2.out _ false w1 rfl b1;have HB1:=zH b1;have B1:=zH B1';have y0:=kB.cell 0;have y1:=kB.cell 1;have y2:=kB.cell 2;have y3:=kB.cell 3;have z0:=kB.frozen (j:=0) (by simp);have z1:=kB.frozen (j:=1) (by simp);have z2:=kB.frozen (j:=2) (by simp);have z3:=kB.frozen (j:=3) (by simp);clear b1 kB B1'))))| skip
   all_goals(go_wp2_with fail;go_meet;first | exact⟨_,rfl,HST.out w1 _ B1.out⟩| exact⟨_,rfl,(HST2.out _ _ w1 rfl HB1.out).2.2⟩)
 case rest=>
 obtain⟨o,rfl,hPM⟩:=hcut;obtain⟨al,hal⟩:∃al,(gb&&ga)=al:=⟨_,rfl⟩;rw[hal]at hPM;have HAL:=zH hal;have x1:wc.cell? ⟨w.heap.size,1,none⟩=some (.slice r1 rows.length r3):=hPM.box.cell 1;have HP0:=zH hPM;have HLT:=zH hPM.lt;have hrl:=oL rows;clear hPM HC HX HST HST2 b0 d0 d2 d3 hal;go_wp2_with fail
 go_loopw [21] (fun i wr=> ∃(j:Nat) (v:Value),j≤rows.length∧i=.int .i64 j∧Hid (PM w cols C (.slice r1 rows.length r3) gb ga al o wr v ((rows.take j).map (iZ C.length)))) (fun i _=>rows.length-(intOf i).toNat)
 case atStart=>exact⟨0,_,by omega,rfl,HP0⟩
 case round=>
  obtain⟨j,v,hj,rfl,HP⟩:=hrel;clear HP0 x1;obtain⟨va,vc,rfl⟩:=HP.out.rows.len;have hml:((rows.take j).map (iZ C.length)).length=j:=by rw[Qy,PW];omega
  rw[hml]at HP
  by_cases hlt:j<rows.length
  ·obtain⟨r,hr⟩:∃r,rows[j]? =some r:=⟨rows[j],Pz hlt⟩
   have lr:=rT hr;have tr:trl r=1+r.2.length+lens r.2:=rfl;have HTS:Hid ((rows.take (j+1)).map (iZ C.length)=(rows.take j).map (iZ C.length)++ [(r.1,(iZ C.length r).2)]):=zH (by rw[take_snoc' hr,Rn];rfl);obtain⟨g,off,b,c,hra,-,c0,c1,hG⟩:=(HV.out wr HP.out.bel).at hr;simp only[pv]at hra;subst hra;have hi0:(j:Int)<(rows.length:Int):=by omega
   have hi1:(0:Int)≤(j:Int):=by omega
   obtain⟨wb,hwb⟩:∃wb,wb=wr.alloc (.cells #[.bool r.1,.slice b r.2.length c] 90):=⟨_,rfl⟩;have b1:Below wr.heap.size wr wb:=by rw[hwb];exact ae _ _
   have hPb:=HP.out.keep b1;have z0:wb.cell? ⟨o,0,none⟩=some (.string ⟨C.toArray⟩):=hPb.out.cell 0;have z1:wb.cell? ⟨o,1,none⟩=some (.slice va j vc):=hPb.out.cell 1;have hXB:Blk wb wr.heap.size 90 [.bool r.1,.slice b r.2.length c]:=by rw[hwb];exact PK wr _
   have y0:wb.cell? ⟨wr.heap.size,0,none⟩=some (.bool r.1):=hXB.cell 0;have y1:wb.cell? ⟨wr.heap.size,1,none⟩=some (.slice b r.2.length c):=hXB.cell 1;have hSw:∀x,S x→x<wb.heap.size:=fun x hx=>PH (HS.out x hx) hPb.bel.size
   have hGb:=(hG.keep (Kp.below b1 (fun x hx=>PH (HS.out x hx) HP.out.bel.size)));have hGd:=hGb.keep (w':=wb.drew) (Kp.below (PG wb.heap.size wb).drew hSw);have hPd:=hPb.keep (PG wb.heap.size wb).drew;have HM:Hid (Calls Tryz.prog 166 #[.agg #[.bool r.1,.slice b r.2.length c],.int .i64 (C.length:Int)] wb.drew fun e w6=> ∃s1 s2 s3 a' c' w7,e=.returned (.agg #[.bool r.1,.slice s1 s2 s3])∧w6.cell? ⟨o,0,none⟩=some (.string ⟨C.toArray⟩)∧w6.cell? ⟨o,1,none⟩=some (.slice va j vc)∧
    (Builtin.append_ #[54,54] 54 #[.slice va j vc,.slice (some ⟨w6.heap.size,0,none⟩) 1 1]).run Tryz.prog (w6.alloc (.cells #[.bool r.1,.slice s1 s2 s3] 90))=.ok (.slice a' (j+1) c') w7∧
    (w6.alloc (.cells #[.bool r.1,.slice s1 s2 s3] 90)).cell? ⟨o,1,none⟩=some (.slice va j vc)∧w7.frozen? ⟨o,1,none⟩=false∧w7.cell? ⟨o,1,none⟩=some (.slice va j vc)∧
    Hid (PM w cols C (.slice (some ⟨g,off,none⟩) rows.length r3) gb ga al o (w7.setCell ⟨o,1,none⟩ (.slice a' (j+1) c')) (.slice a' (j+1) c') ((rows.take (j+1)).map (iZ C.length)))):=
    zH ((yC S (r.1,(b,r.2.length,c)) r C.length wb.drew rfl hGd hSw (by omega) (by omega) (by omega)).mono fun e w6 h=>by
     obtain⟨⟨s1,s2,s3⟩,he,hci,b6⟩:=h;have hP6:=hPd.keep b6;have hlt6:w.heap.size≤wb.drew.heap.size:=hPb.bel.size;obtain⟨a',c',w7,hr7,hf7,hc7,hp7⟩:=hP6.push (by rw[hml];omega) r.1 (s1,s2,s3) (iZ C.length r).2 (hci.grs.mono (fun b q=>⟨PY hlt6 q.1,q.2⟩));rw[hml]at hr7 hp7;refine⟨s1,s2,s3,a',c',w7,he,hP6.out.cell 0,hP6.out.cell 1,KW hr7,(hP6.out.below (ae w6 _)).cell 1,hf7,hc7,zH ?_⟩;rw[HTS.out];exact hp7)
   have e0:wb.drew.cell? ⟨o,0,none⟩=some (.string ⟨C.toArray⟩):=hPd.out.cell 0;have e1:wb.drew.cell? ⟨o,1,none⟩=some (.slice va j vc):=hPd.out.cell 1;have e2:wb.drew.cell? ⟨wr.heap.size,0,none⟩=some (.bool r.1):=(hXB.below (PG wb.heap.size wb).drew).cell 0;have e3:wb.drew.cell? ⟨wr.heap.size,1,none⟩=some (.slice b r.2.length c):=(hXB.below (PG wb.heap.size wb).drew).cell 1;have hCs:=bsz C;have HWB:=zH hwb;clear hr hG hGb hGd hPb hPd b1 hXB hSw hwb hml tr lr HTS;go_wp2_with fail
   rw[←HWB.out];go_region_law ((first | (refine bI rfl (.tmp 26) (.tmp 32) 54 54 rfl _ _ rfl rfl kk ?_)| (go_simp;go_at_call 166;(with_reducible refine HM.out.mono ?_);rintro e w6 ⟨s1,s2,s3,a',c',w7,rfl,u0,u1,kk,v1,f1,g1,HP7⟩)))
   all_goals
    go_wp2_with fail
    go_roundw
    case rel=>exact⟨j+1,_,by omega,by go_num,HP7⟩
    case measure=>(simp[intOf];try omega)
  ·obtain rfl:j=rows.length:=by omega
   have hlt':¬(rows.length:Int)<(rows.length:Int):=by omega
   rw[Qa]at HP;have p:=HP.out;have c0:wr.cell? ⟨o,0,none⟩=some (.string ⟨C.toArray⟩):=p.out.cell 0;have c1:wr.cell? ⟨o,1,none⟩=some (.slice va rows.length vc):=p.out.cell 1;have c2:wr.cell? ⟨o,2,none⟩=some (.bool gb):=p.out.cell 2;have c3:wr.cell? ⟨o,3,none⟩=some (.bool al):=p.out.cell 3;have q0:wr.cell? ⟨w.heap.size+1,0,none⟩=some (.string ⟨#[]⟩):=p.res.cell 0;have q1:wr.cell? ⟨w.heap.size+1,1,none⟩=some (.slice none 0 0):=p.res.cell 1;have q2:wr.cell? ⟨w.heap.size+1,2,none⟩=some (.bool false):=p.res.cell 2;have q3:wr.cell? ⟨w.heap.size+1,3,none⟩=some (.bool false):=p.res.cell 3;have v0:wr.frozen? ⟨w.heap.size+1,0,none⟩=false:=p.res.frozen (by simp);have v1:wr.frozen? ⟨w.heap.size+1,1,none⟩=false:=p.res.frozen (by simp);have v2:wr.frozen? ⟨w.heap.size+1,2,none⟩=false:=p.res.frozen (by simp);have v3:wr.frozen? ⟨w.heap.size+1,3,none⟩=false:=p.res.frozen (by simp);have HF:=zH (p.fin (.string ⟨C.toArray⟩) (.slice va rows.length vc) (.bool gb) (.bool al));clear p hml HP;go_wp2_with fail
   have hF:=HF.out;have k0:=hF.1.cell 0;have k1:=hF.1.cell 1;have k2:=hF.1.cell 2;have k3:=hF.1.cell 3;simp at k0 k1 k2 k3;refine Qi (v:= .agg #[.string ⟨C.toArray⟩,.slice va rows.length vc,.bool gb,.bool al]) (by simp[results,Tryz.results132,go_sem,k0,k1,k2,k3]) rfl ?_;refine⟨(va,rows.length,vc),?_,hF.2.1,hF.2.2⟩;rw[HAL.out];rfl
end
section
attribute [local go_sem ↓ high] mG iy
structure MD (w:World)(x:NV)(o:Nat)(W:World)(y:NV):Prop where
 bel:Below w.heap.size w W
 box:Blk W w.heap.size 58 (af x)
 res:Blk W (w.heap.size+1) 58 zNd
 y:Blk W o 58 (af y)
 lt:w.heap.size+1<o
section
variable {w W W':World}{x y y':NV}{o:Nat}
theorem MD.keep (h:MD w x o W y)(hb:Below W.heap.size W W'):MD w x o W' y:=⟨h.bel.trans (hb.mono h.bel.size),h.box.below hb,h.res.below hb,h.y.below hb,h.lt⟩
theorem MD.set (h:MD w x o W y)(j:Nat)(v:Value)(hy:(af y).set j v=af y'):MD w x o (W.setCell ⟨o,j,none⟩ v) y':=
 have:=h.lt
 ⟨h.bel.setCell (by show w.heap.size≤o;omega) _,h.box.other (by omega) _ _,h.res.other (by omega) _ _,hy▸h.y.set j v,h.lt⟩
theorem MD.fin (h:MD w x o W y):Below w.heap.size w (iH W (w.heap.size+1) y)∧Blk (iH W (w.heap.size+1) y) (w.heap.size+1) 58 (af y)∧
  (∀b,b≠w.heap.size+1→(iH W (w.heap.size+1) y).heap[b]? =W.heap[b]?)∧(iH W (w.heap.size+1) y).heap.size=W.heap.size:=
 ⟨Af h.bel (by omega) _,FZ h.res _,fun b hb=>Cx _ _ _ hb,Cw _ _ _⟩
abbrev Bh (o:Nat)(W:World)(b:Nat):Prop:=o<b∧b<W.heap.size
theorem Bh.kp (hb:Below W.heap.size W W'):Kp (Bh o W) W W':=fun b hb'=>hb.block b hb'.2
theorem Bh.up (hb:W.heap.size≤W'.heap.size):∀b,Bh o W b→Bh o W' b:=fun b h=>⟨h.1,PH h.2 hb⟩
theorem Bh.set (j:Nat)(v:Value):Kp (Bh o W) W (W.setCell ⟨o,j,none⟩ v):=fun b hb=>PN W ⟨o,j,none⟩ v b (by have:=hb.1;show b≠o;omega)
theorem FsS.bh {α:Type}{n:Nat}{f:α→List Value}{v:Value}{l:List α}(h:FsS (Bh o W) n f W v l)(hb:Below W.heap.size W W'):FsS (Bh o W') n f W' v l:=(h.keep (Bh.kp hb)).mono (Bh.up hb.size)
theorem FsS.bhs {α:Type}{n:Nat}{f:α→List Value}{v:Value}{l:List α}(h:FsS (Bh o W) n f W v l)(j:Nat)(u:Value):FsS (Bh o (W.setCell ⟨o,j,none⟩ u)) n f (W.setCell ⟨o,j,none⟩ u) v l:=(h.keep (Bh.set j u)).mono (fun b q=>⟨q.1,by rw[gH];exact q.2⟩)
theorem GrS.bh {v:Value}{l:List (List Gly)}(h:GrS (Bh o W) W v l)(hb:Below W.heap.size W W'):GrS (Bh o W') W' v l:=(h.keep (Bh.kp hb)).mono (Bh.up hb.size)
theorem GrS.bhs {v:Value}{l:List (List Gly)}(h:GrS (Bh o W) W v l)(j:Nat)(u:Value):GrS (Bh o (W.setCell ⟨o,j,none⟩ u)) (W.setCell ⟨o,j,none⟩ u) v l:=(h.keep (Bh.set j u)).mono (fun b q=>⟨q.1,by rw[gH];exact q.2⟩)
theorem TrS.bhs {v:Value}{l:List bT}(h:TrS (Bh o W) W v l)(j:Nat)(u:Value):TrS (Bh o (W.setCell ⟨o,j,none⟩ u)) (W.setCell ⟨o,j,none⟩ u) v l:=(h.keep (Bh.set j u)).mono (fun b q=>⟨q.1,by rw[gH];exact q.2⟩)
end
theorem xC (lo hi x:Int)(h:lo≤hi):(if hi<(if lo>x then lo else x) then hi else(if lo>x then lo else x))=nP lo hi x:=by unfold nP;split<;>split<;>omega
theorem Gm (h:Hd):bN h h.kind=⟨h.kind,nP 0 1099511627775 (lL h).line,nP 0 200 (lL h).n,sqz (lL h).text,(lL h).rows,if h.kind=7 then mend (lL h).grid else bS⟩:=by
 unfold bN lL;simp only
 congr 1
 ·split
  ·rfl
  ·rfl
 ·split
  ·rfl
  ·exact EC.symm
 ·split<;>simp_all
def Pb (h:Hd)(w:World)(e:Ending)(w':World):Prop:= ∃y:NV,e=.returned (.agg (af y).toArray)∧y.kids=aj∧df (fun b=>w.heap.size≤b∧b<w'.heap.size) w' y (bN h h.kind)∧Below w.heap.size w w'
theorem Ap (S:Nat→Prop)(x:NV)(h:Hd)(w:World)(hU:U8 w)(hh:df S w x h)(hl:hdl h≤90000)(hS:∀b,S b→b<w.heap.size):
  Calls Tryz.prog 169 #[.agg (af x).toArray] w (Pb h w):=by
 have hdd:hdl h=3+h.text.length+h.grid.cols.length+(h.rows.length+lens h.rows)+cZ h.grid.rows:=rfl;have HO:=hh.own;have hk:=hh.kind;have hlt:(lL h).text.length≤90000:=by unfold lL;simp only;split;omega;simp
 have hlr:(lL h).rows.length+lens (lL h).rows≤90000:=by unfold lL;simp only;split;omega;simp[lens]
 have hlg:(lL h).grid.cols.length≤90000∧cZ (lL h).grid.rows≤90000:=by unfold lL;simp only;split;omega;exact⟨by simp[bS],by simp[bS,cZ]⟩
 have hOK:(lL h).kind=h.kind:=rfl;unfold Pb;rw[Gm h];have hxk:x.kind=(kG x).kind:=rfl;have hkd:(kG x).kids=if mf x.kind then x.kids else aj:=rfl
 have HOWN:=zH (Jo x ((w.alloc (.cells (af x).toArray 58)).alloc (.cells zNd.toArray 58)));obtain⟨W1,hW1⟩:∃W,W=(w.alloc (.cells (af x).toArray 58)).alloc (.cells zNd.toArray 58):=⟨_,rfl⟩;obtain⟨b1,hX,hR⟩:=sP w _ _ W1 hW1;rw[←hW1]at HOWN;have hz1:W1.heap.size=w.heap.size+1+1:=by rw[hW1,PS,PS]
 obtain⟨Q,hQ⟩:∃Q,lL h=Q:=⟨_,rfl⟩;rw[hQ]at HO hlt hlr hlg⊢;obtain⟨Y,hY⟩:∃Y,kG x=Y:=⟨_,rfl⟩;have HYY:=zH hY;rw[hY]at HO HOWN hxk;rw[←hk,hxk]at⊢;have HDS:Hid (∀w1,Below W1.heap.size W1 w1→df S w1 Y Q):=zH (fun w1 hb=>HO.keep (Kp.below (b1.trans (hb.mono b1.size)) hS));have HB1:=zH b1;have HX:=zH hX;have HR:=zH hR;have HU:=zH hU;have HS:=zH hS;have HW1:=zH hW1;have HZ1:=zH hz1;have HXK:=zH (hxk:x.kind=Y.kind);have hYl:=HO.line;have hYn:=HO.n;have HTL:=zH HO.text;have e0:Hid (x.kind=Y.kind):=zH hxk;have HNG0:Hid (¬x.kind=7→Y.cols=[]∧Y.trows=aj∧Y.box=false∧Y.all=false):=zH (fun h7=>by rw[←HYY.out];unfold kG;simp only[PO h7];exact⟨trivial,trivial,trivial,trivial⟩);obtain⟨xk,xl,xn,⟨t1,t2,t3⟩,⟨k1,k2,k3⟩,⟨r1,r2,r3⟩,xc,⟨q1,q2,q3⟩,xb,xa⟩:=x;obtain⟨yk,yl,yn,⟨t1',t2',t3'⟩,⟨k1',k2',k3'⟩,⟨r1',r2',r3'⟩,yc,⟨q1',q2',q3'⟩,yb,ya⟩:=Y;simp only at hYl hYn HXK hxk⊢;subst hxk;rw[←hYl,←hYn];have mx1:=fun w=>rY yl 0 _ rfl w
 have mn1:=fun w=>yM (if(0:Int)>yl then(0:Int) else yl) 1099511627775 (nP 0 1099511627775 yl) (xC _ _ _ (by decide)) w
 have mx2:=fun w=>rY yn 0 _ rfl w
 have mn2:=fun w=>yM (if(0:Int)>yn then(0:Int) else yn) 200 (nP 0 200 yn) (xC _ _ _ (by decide)) w
 obtain⟨M1,hM1⟩:∃M,(if(0:Int)>yl then(0:Int) else yl)=M:=⟨_,rfl⟩;obtain⟨M2,hM2⟩:∃M,(if(0:Int)>yn then(0:Int) else yn)=M:=⟨_,rfl⟩;rw[hM1]at mx1 mn1;rw[hM2]at mx2 mn2;obtain⟨CL,hCL⟩:∃M,nP 0 1099511627775 yl=M:=⟨_,rfl⟩;obtain⟨CN,hCN⟩:∃M,nP 0 200 yn=M:=⟨_,rfl⟩;rw[hCL]at mn1⊢;rw[hCN]at mn2⊢;obtain⟨GR,hGR⟩:∃G,(if xk=7 then mend Q.grid else bS)=G:=⟨_,rfl⟩;rw[hGR];have HGR:=zH hGR;have HNG:Hid (¬xk=7→yc=[]∧((q1',q2',q3'):PV)=aj∧yb=false∧ya=false):=zH (fun h7=>HNG0.out h7);simp only[af,pv,zNd]at HOWN HW1⊢;clear HO hk hdd hl hQ hY hkd b1 hX hR hU hS hW1 hz1 hYl hYn hM1 hM2 hCL hCN hOK hh HXK hGR HNG0;go_enter Tryz.func169,Tryz.ntmps169
 go_wp2_with fail
 rw[←HW1.out];refine HOWN.out.mono ?_;rintro e w1 ⟨rfl,b1⟩;have HD1:=zH (HDS.out w1 b1);obtain⟨W3,hW3⟩:∃W,W=w1.alloc (.cells (af ⟨xk,CL,CN,(t1',t2',t3'),aj,(r1',r2',r3'),yc,(q1',q2',q3'),yb,ya⟩).toArray 58):=⟨_,rfl⟩;have b3:Below w1.heap.size w1 W3:=by rw[hW3];exact ae _ _
 have HM3:Hid (MD w ⟨xk,xl,xn,(t1,t2,t3),(k1,k2,k3),(r1,r2,r3),xc,(q1,q2,q3),xb,xa⟩ w1.heap.size W3 ⟨xk,CL,CN,(t1',t2',t3'),aj,(r1',r2',r3'),yc,(q1',q2',q3'),yb,ya⟩):=zH
  ⟨(HB1.out.trans (b1.mono HB1.out.size)).trans (b3.mono (PY HB1.out.size b1.size)),(HX.out.below b1).below b3,(HR.out.below b1).below b3,by rw[hW3];exact PK w1 _,by have:=HZ1.out;have:=b1.size;omega⟩
 obtain⟨o,ho⟩:∃o,w1.heap.size=o:=⟨_,rfl⟩;rw[ho]at HM3;have hoz:W3.heap.size=o+1:=by rw[hW3,PS,ho]
 have HOZ:=zH hoz;have hS3:∀b,S b→b<W3.heap.size:=fun b hb=>PH (HS.out b hb) HM3.out.bel.size
 have HD3:=HD1.out.keep (Kp.below b3 (fun b hb=>PH (HS.out b hb) (PY HB1.out.size b1.size)));have HSQ:=zH (oU Q.text _ W3 HD3.text.1 hlt);have HD3':=zH HD3;have HS3:=zH hS3;have HHO:=zH ho;simp only[af,pv,aj]at hW3;have HW3:=zH hW3;simp only[pv]at HSQ;clear HD3 hS3 hoz b3 b1 HD1 HDS HX HR HOWN ho hW3;go_wp2_with fail
 rw[HHO.out,←HW3.out];refine HSQ.out.mono ?_;rintro e w4 ⟨u,rfl,hu,b4⟩;obtain⟨ua,uc,hue⟩:=(ag.sl ah hu).len;obtain⟨um,hum⟩:∃m,(sqz Q.text).length=m:=⟨_,rfl⟩;rw[hum]at hue;subst hue;have HM4:=zH (HM3.out.keep b4);have HT4:Hid (FsS (Bh o w4) 2 aR w4 (.slice ua um uc) (sqz Q.text)):=zH ((iX ah hu).mono (fun b q=>⟨by have:=HOZ.out;omega,by obtain⟨-,cur,fz,hc⟩:=q;exact(Py.1 hc).1⟩));have f3:w4.frozen? ⟨o,3,none⟩=false:=HM4.out.y.frozen (by simp[af]);have g3:w4.cell? ⟨o,3,none⟩=some (.slice t1' t2' t3'):=HM4.out.y.cell 3;obtain⟨W5,hW5⟩:∃W,W=w4.setCell ⟨o,3,none⟩ (.slice ua um uc):=⟨_,rfl⟩;have HM5:Hid (MD w ⟨xk,xl,xn,(t1,t2,t3),(k1,k2,k3),(r1,r2,r3),xc,(q1,q2,q3),xb,xa⟩ o W5 ⟨xk,CL,CN,(ua,um,uc),aj,(r1',r2',r3'),yc,(q1',q2',q3'),yb,ya⟩):=zH (by rw[hW5];exact HM4.out.set 3 _ rfl);have HT5:Hid (FsS (Bh o W5) 2 aR W5 (.slice ua um uc) (sqz Q.text)):=zH (by rw[hW5];exact HT4.out.bhs 3 _);have hkS:Kp S W3 W5:=fun b hb=>by
  rw[hW5,PN _ _ _ _ (show b≠o by have:=HS.out b hb;have:=HM3.out.lt;omega)];exact b4.block b (HS3.out b hb)
 have hS5:∀b,S b→b<W5.heap.size:=fun b hb=>PH (HS.out b hb) HM5.out.bel.size
 have HCP:=zH (Au S Q.rows _ W5 (HD3'.out.rows.keep hkS) hlr hS5);have HKS:=zH hkS;have HS5:=zH hS5;have HSZ5:Hid (o<W5.heap.size):=zH HM5.out.y.lt;have g5:W5.cell? ⟨o,5,none⟩=some (.slice r1' r2' r3'):=HM5.out.y.cell 5;simp only[pv]at HCP;clear hu hum b4 hkS hS5 HSQ HM3 HM4 HT4;subst hW5;go_wp2_with fail
 refine HCP.out.mono ?_;rintro e w6 ⟨u6,rfl,hu6,b6⟩;obtain⟨va,vc,hue⟩:=hu6.len;obtain⟨vm,hvm⟩:∃m,Q.rows.length=m:=⟨_,rfl⟩;rw[hvm]at hue;subst hue;have HM6:=zH (HM5.out.keep b6);have HT6:=zH (HT5.out.bh b6);have HR6:Hid (GrS (Bh o w6) w6 (.slice va vm vc) Q.rows):=zH (hu6.grs.mono (fun b q=>⟨by have:=HSZ5.out;omega,by obtain⟨-,cur,e,fz,hc,-⟩:=q;exact(Py.1 hc).1⟩));have f5:w6.frozen? ⟨o,5,none⟩=false:=HM6.out.y.frozen (by simp[af]);have g5':w6.cell? ⟨o,5,none⟩=some (.slice r1' r2' r3'):=HM6.out.y.cell 5;obtain⟨W7,hW7⟩:∃W,W=w6.setCell ⟨o,5,none⟩ (.slice va vm vc):=⟨_,rfl⟩;have HM7:Hid (MD w ⟨xk,xl,xn,(t1,t2,t3),(k1,k2,k3),(r1,r2,r3),xc,(q1,q2,q3),xb,xa⟩ o W7 ⟨xk,CL,CN,(ua,um,uc),aj,(va,vm,vc),yc,(q1',q2',q3'),yb,ya⟩):=zH (by rw[hW7];exact HM6.out.set 5 _ rfl);have HT7:Hid (FsS (Bh o W7) 2 aR W7 (.slice ua um uc) (sqz Q.text)):=zH (by rw[hW7];exact HT6.out.bhs 5 _);have HR7:Hid (GrS (Bh o W7) W7 (.slice va vm vc) Q.rows):=zH (by rw[hW7];exact HR6.out.bhs 5 _);have hkS7:Kp S W3 W7:=fun b hb=>by
  rw[hW7,PN _ _ _ _ (show b≠o by have:=HS.out b hb;have:=HM6.out.lt;omega)];exact(b6.block b (HS5.out b hb)).trans (HKS.out b hb)
 have HKS7:=zH hkS7;have c0:W7.cell? ⟨w.heap.size,0,none⟩=some (.int .i64 xk):=HM7.out.box.cell 0;clear hu6 hvm b6 hkS7 HCP HM5 HM6 HT5 HT6 HR6 g5 HKS HSZ5
 by_cases h7:xk=7
 ·subst h7
  have HG:Hid (Calls Tryz.prog 132 #[.agg #[.string ⟨yc.toArray⟩,.slice q1' q2' q3',.bool yb,.bool ya]] W7 (Nr (mend Q.grid) W7)):=zH (by
   have hh:=HD3'.out.keep HKS7.out;have hU7:=HU.out.below HM7.out.bel;have:=wU S Q.grid (q1',q2',q3') W7 hU7 hh.trows hlg.1 hlg.2 (fun b hb=>PH (HS.out b hb) HM7.out.bel.size);unfold tH at this;rw[←hh.cols,←hh.box,←hh.all]at this;exact this)
  have g6:W7.cell? ⟨o,6,none⟩=some (.string ⟨yc.toArray⟩):=HM7.out.y.cell 6;have g7:W7.cell? ⟨o,7,none⟩=some (.slice q1' q2' q3'):=HM7.out.y.cell 7;have g8:W7.cell? ⟨o,8,none⟩=some (.bool yb):=HM7.out.y.cell 8;have g9:W7.cell? ⟨o,9,none⟩=some (.bool ya):=HM7.out.y.cell 9;have HSZ7:Hid (o<W7.heap.size):=zH HM7.out.y.lt;rw[show mend Q.grid=GR by have:=HGR.out;rwa [PZ rfl]at this]at HG;subst hW7;go_wp2_with fail
  refine HG.out.mono ?_;rintro e w8 ⟨⟨ga,gm,gc⟩,rfl,hg8,b8⟩;simp only[tH,pv];have HM8:=zH (HM7.out.keep b8);have HT8:=zH (HT7.out.bh b8);have HR8:=zH (HR7.out.bh b8);have HG8:Hid (TrS (Bh o w8) w8 (.slice ga gm gc) GR.rows):=zH (hg8.trs.mono (fun b q=>⟨by have:=HSZ7.out;omega,q.2⟩));have f6:w8.frozen? ⟨o,6,none⟩=false:=HM8.out.y.frozen (by simp[af]);have f7:w8.frozen? ⟨o,7,none⟩=false:=HM8.out.y.frozen (by simp[af]);have f8:w8.frozen? ⟨o,8,none⟩=false:=HM8.out.y.frozen (by simp[af]);have f9:w8.frozen? ⟨o,9,none⟩=false:=HM8.out.y.frozen (by simp[af]);have j6:w8.cell? ⟨o,6,none⟩=some (.string ⟨yc.toArray⟩):=HM8.out.y.cell 6;have j7:w8.cell? ⟨o,7,none⟩=some (.slice q1' q2' q3'):=HM8.out.y.cell 7;have j8:w8.cell? ⟨o,8,none⟩=some (.bool yb):=HM8.out.y.cell 8;have j9:w8.cell? ⟨o,9,none⟩=some (.bool ya):=HM8.out.y.cell 9;obtain⟨W9,hW9⟩:∃W,W=(((w8.setCell ⟨o,6,none⟩ (.string ⟨GR.cols.toArray⟩)).setCell ⟨o,7,none⟩ (.slice ga gm gc)).setCell ⟨o,8,none⟩ (.bool GR.box)).setCell ⟨o,9,none⟩ (.bool GR.all):=⟨_,rfl⟩;have HM9:Hid (MD w ⟨7,xl,xn,(t1,t2,t3),(k1,k2,k3),(r1,r2,r3),xc,(q1,q2,q3),xb,xa⟩ o W9 ⟨7,CL,CN,(ua,um,uc),aj,(va,vm,vc),GR.cols,(ga,gm,gc),GR.box,GR.all⟩):=zH (by
   rw[hW9];exact(((HM8.out.set (y':=⟨7,CL,CN,(ua,um,uc),aj,(va,vm,vc),GR.cols,(q1',q2',q3'),yb,ya⟩) 6 _ rfl).set (y':=⟨7,CL,CN,(ua,um,uc),aj,(va,vm,vc),GR.cols,(ga,gm,gc),yb,ya⟩) 7 _ rfl).set (y':=⟨7,CL,CN,(ua,um,uc),aj,(va,vm,vc),GR.cols,(ga,gm,gc),GR.box,ya⟩) 8 _ rfl).set 9 _ rfl)
  have HTF:Hid (FsS (Bh o W9) 2 aR W9 (.slice ua um uc) (sqz Q.text)):=zH (by rw[hW9];exact(((HT8.out.bhs 6 _).bhs 7 _).bhs 8 _).bhs 9 _);have HRF:Hid (GrS (Bh o W9) W9 (.slice va vm vc) Q.rows):=zH (by rw[hW9];exact(((HR8.out.bhs 6 _).bhs 7 _).bhs 8 _).bhs 9 _);have HGF:Hid (TrS (Bh o W9) W9 (.slice ga gm gc) GR.rows):=zH (by rw[hW9];exact(((HG8.out.bhs 6 _).bhs 7 _).bhs 8 _).bhs 9 _);clear hg8 b8 HM8 HT8 HR8 HG8 HM7 HT7 HR7 g6 g7 g8 g9 HG c0;have y0:W9.cell? ⟨o,0,none⟩=some (.int .i64 7):=HM9.out.y.cell 0;have z0:W9.cell? ⟨w.heap.size+1,0,none⟩=some (.int .i64 0):=HM9.out.res.cell 0;have v0:W9.frozen? ⟨w.heap.size+1,0,none⟩=false:=HM9.out.res.frozen (by simp[zNd]);have y1:W9.cell? ⟨o,1,none⟩=some (.int .i64 CL):=HM9.out.y.cell 1;have z1:W9.cell? ⟨w.heap.size+1,1,none⟩=some (.int .i64 0):=HM9.out.res.cell 1;have v1:W9.frozen? ⟨w.heap.size+1,1,none⟩=false:=HM9.out.res.frozen (by simp[zNd]);have y2:W9.cell? ⟨o,2,none⟩=some (.int .i64 CN):=HM9.out.y.cell 2;have z2:W9.cell? ⟨w.heap.size+1,2,none⟩=some (.int .i64 0):=HM9.out.res.cell 2;have v2:W9.frozen? ⟨w.heap.size+1,2,none⟩=false:=HM9.out.res.frozen (by simp[zNd]);have y3:W9.cell? ⟨o,3,none⟩=some (.slice ua um uc):=HM9.out.y.cell 3;have z3:W9.cell? ⟨w.heap.size+1,3,none⟩=some (.slice none 0 0):=HM9.out.res.cell 3;have v3:W9.frozen? ⟨w.heap.size+1,3,none⟩=false:=HM9.out.res.frozen (by simp[zNd]);have y4:W9.cell? ⟨o,4,none⟩=some (.slice none 0 0):=HM9.out.y.cell 4;have z4:W9.cell? ⟨w.heap.size+1,4,none⟩=some (.slice none 0 0):=HM9.out.res.cell 4;have v4:W9.frozen? ⟨w.heap.size+1,4,none⟩=false:=HM9.out.res.frozen (by simp[zNd]);have y5:W9.cell? ⟨o,5,none⟩=some (.slice va vm vc):=HM9.out.y.cell 5;have z5:W9.cell? ⟨w.heap.size+1,5,none⟩=some (.slice none 0 0):=HM9.out.res.cell 5;have v5:W9.frozen? ⟨w.heap.size+1,5,none⟩=false:=HM9.out.res.frozen (by simp[zNd]);have y6:W9.cell? ⟨o,6,none⟩=some (.string ⟨GR.cols.toArray⟩):=HM9.out.y.cell 6;have z6:W9.cell? ⟨w.heap.size+1,6,none⟩=some (.string ⟨#[]⟩):=HM9.out.res.cell 6;have v6:W9.frozen? ⟨w.heap.size+1,6,none⟩=false:=HM9.out.res.frozen (by simp[zNd]);have y7:W9.cell? ⟨o,7,none⟩=some (.slice ga gm gc):=HM9.out.y.cell 7;have z7:W9.cell? ⟨w.heap.size+1,7,none⟩=some (.slice none 0 0):=HM9.out.res.cell 7;have v7:W9.frozen? ⟨w.heap.size+1,7,none⟩=false:=HM9.out.res.frozen (by simp[zNd]);have y8:W9.cell? ⟨o,8,none⟩=some (.bool GR.box):=HM9.out.y.cell 8;have z8:W9.cell? ⟨w.heap.size+1,8,none⟩=some (.bool false):=HM9.out.res.cell 8;have v8:W9.frozen? ⟨w.heap.size+1,8,none⟩=false:=HM9.out.res.frozen (by simp[zNd]);have y9:W9.cell? ⟨o,9,none⟩=some (.bool GR.all):=HM9.out.y.cell 9;have z9:W9.cell? ⟨w.heap.size+1,9,none⟩=some (.bool false):=HM9.out.res.cell 9;have v9:W9.frozen? ⟨w.heap.size+1,9,none⟩=false:=HM9.out.res.frozen (by simp[zNd]);have HF:=zH HM9.out.fin;subst hW9;go_wp2_with fail
  have hblk:=HF.out.2.1;have k0':=hblk.cell 0;have k1':=hblk.cell 1;have k2':=hblk.cell 2;have k3':=hblk.cell 3;have k4':=hblk.cell 4;have k5':=hblk.cell 5;have k6':=hblk.cell 6;have k7':=hblk.cell 7;have k8':=hblk.cell 8;have k9':=hblk.cell 9;unfold iH at k0' k1' k2' k3' k4' k5' k6' k7' k8' k9';simp[af,pv]at k0' k1' k2' k3' k4' k5' k6' k7' k8' k9';refine Qi (v:= .agg #[.int .i64 7,.int .i64 CL,.int .i64 CN,.slice ua um uc,.slice none 0 0,.slice va vm vc,.string ⟨GR.cols.toArray⟩,.slice ga gm gc,.bool GR.box,.bool GR.all]) (by simp[results,Tryz.results169,go_sem,k0',k1',k2',k3',k4',k5',k6',k7',k8',k9']) rfl ?_;have hlt:=HM9.out.lt;have hsz:=HF.out.2.2.2;obtain⟨W9,hWW⟩:∃W,W=(((w8.setCell ⟨o,6,none⟩ (.string ⟨GR.cols.toArray⟩)).setCell ⟨o,7,none⟩ (.slice ga gm gc)).setCell ⟨o,8,none⟩ (.bool GR.box)).setCell ⟨o,9,none⟩ (.bool GR.all):=⟨_,rfl⟩;rw[←hWW]at HF HTF HRF hsz HGF⊢;have kF:Kp (Bh o W9) W9 (iH W9 (w.heap.size+1) ⟨7,CL,CN,(ua,um,uc),aj,(va,vm,vc),GR.cols,(ga,gm,gc),GR.box,GR.all⟩):=fun b hb=>HF.out.2.2.1 b (by have:=hb.1;omega)
  have mF:∀b,Bh o W9 b→(w.heap.size≤b∧b<(iH W9 (w.heap.size+1) ⟨7,CL,CN,(ua,um,uc),aj,(va,vm,vc),GR.cols,(ga,gm,gc),GR.box,GR.all⟩).heap.size):=fun b hb=>⟨by have:=hb.1;omega,by rw[hsz];exact hb.2⟩
  exact⟨⟨7,CL,CN,(ua,um,uc),aj,(va,vm,vc),GR.cols,(ga,gm,gc),GR.box,GR.all⟩,rfl,rfl,⟨rfl,rfl,rfl,(HTF.out.keep kF).mono mF,(HRF.out.keep kF).mono mF,rfl,(HGF.out.keep kF).mono mF,rfl,rfl⟩,HF.out.1⟩
 ·have n7:(xk==7)=false:=by simpa using h7
  have HGN:Hid (GR=bS):=zH (by have:=HGR.out;rw[PO h7]at this;exact this.symm);have HM9:Hid (MD w ⟨xk,xl,xn,(t1,t2,t3),(k1,k2,k3),(r1,r2,r3),xc,(q1,q2,q3),xb,xa⟩ o W7 ⟨xk,CL,CN,(ua,um,uc),aj,(va,vm,vc),[],aj,false,false⟩):=zH (by
   obtain⟨a1,a2,a3,a4⟩:=HNG.out h7;injection a2 with a2 a5
   injection a5 with a5 a6
   have:=HM7.out;rw[a1,a2,a3,a4,a5,a6]at this;exact this)
  have HTF:=HT7;have HRF:=HR7;clear HM7 h7;have y0:W7.cell? ⟨o,0,none⟩=some (.int .i64 xk):=HM9.out.y.cell 0;have z0:W7.cell? ⟨w.heap.size+1,0,none⟩=some (.int .i64 0):=HM9.out.res.cell 0;have v0:W7.frozen? ⟨w.heap.size+1,0,none⟩=false:=HM9.out.res.frozen (by simp[zNd]);have y1:W7.cell? ⟨o,1,none⟩=some (.int .i64 CL):=HM9.out.y.cell 1;have z1:W7.cell? ⟨w.heap.size+1,1,none⟩=some (.int .i64 0):=HM9.out.res.cell 1;have v1:W7.frozen? ⟨w.heap.size+1,1,none⟩=false:=HM9.out.res.frozen (by simp[zNd]);have y2:W7.cell? ⟨o,2,none⟩=some (.int .i64 CN):=HM9.out.y.cell 2;have z2:W7.cell? ⟨w.heap.size+1,2,none⟩=some (.int .i64 0):=HM9.out.res.cell 2;have v2:W7.frozen? ⟨w.heap.size+1,2,none⟩=false:=HM9.out.res.frozen (by simp[zNd]);have y3:W7.cell? ⟨o,3,none⟩=some (.slice ua um uc):=HM9.out.y.cell 3;have z3:W7.cell? ⟨w.heap.size+1,3,none⟩=some (.slice none 0 0):=HM9.out.res.cell 3;have v3:W7.frozen? ⟨w.heap.size+1,3,none⟩=false:=HM9.out.res.frozen (by simp[zNd]);have y4:W7.cell? ⟨o,4,none⟩=some (.slice none 0 0):=HM9.out.y.cell 4;have z4:W7.cell? ⟨w.heap.size+1,4,none⟩=some (.slice none 0 0):=HM9.out.res.cell 4;have v4:W7.frozen? ⟨w.heap.size+1,4,none⟩=false:=HM9.out.res.frozen (by simp[zNd]);have y5:W7.cell? ⟨o,5,none⟩=some (.slice va vm vc):=HM9.out.y.cell 5;have z5:W7.cell? ⟨w.heap.size+1,5,none⟩=some (.slice none 0 0):=HM9.out.res.cell 5;have v5:W7.frozen? ⟨w.heap.size+1,5,none⟩=false:=HM9.out.res.frozen (by simp[zNd]);have y6:W7.cell? ⟨o,6,none⟩=some (.string ⟨#[]⟩):=HM9.out.y.cell 6;have z6:W7.cell? ⟨w.heap.size+1,6,none⟩=some (.string ⟨#[]⟩):=HM9.out.res.cell 6;have v6:W7.frozen? ⟨w.heap.size+1,6,none⟩=false:=HM9.out.res.frozen (by simp[zNd]);have y7:W7.cell? ⟨o,7,none⟩=some (.slice none 0 0):=HM9.out.y.cell 7;have z7:W7.cell? ⟨w.heap.size+1,7,none⟩=some (.slice none 0 0):=HM9.out.res.cell 7;have v7:W7.frozen? ⟨w.heap.size+1,7,none⟩=false:=HM9.out.res.frozen (by simp[zNd]);have y8:W7.cell? ⟨o,8,none⟩=some (.bool false):=HM9.out.y.cell 8;have z8:W7.cell? ⟨w.heap.size+1,8,none⟩=some (.bool false):=HM9.out.res.cell 8;have v8:W7.frozen? ⟨w.heap.size+1,8,none⟩=false:=HM9.out.res.frozen (by simp[zNd]);have y9:W7.cell? ⟨o,9,none⟩=some (.bool false):=HM9.out.y.cell 9;have z9:W7.cell? ⟨w.heap.size+1,9,none⟩=some (.bool false):=HM9.out.res.cell 9;have v9:W7.frozen? ⟨w.heap.size+1,9,none⟩=false:=HM9.out.res.frozen (by simp[zNd]);have HF:=zH HM9.out.fin;subst hW7;go_wp2_with fail
  have hblk:=HF.out.2.1;have k0':=hblk.cell 0;have k1':=hblk.cell 1;have k2':=hblk.cell 2;have k3':=hblk.cell 3;have k4':=hblk.cell 4;have k5':=hblk.cell 5;have k6':=hblk.cell 6;have k7':=hblk.cell 7;have k8':=hblk.cell 8;have k9':=hblk.cell 9;unfold iH at k0' k1' k2' k3' k4' k5' k6' k7' k8' k9';simp[af,pv]at k0' k1' k2' k3' k4' k5' k6' k7' k8' k9';refine Qi (v:= .agg #[.int .i64 xk,.int .i64 CL,.int .i64 CN,.slice ua um uc,.slice none 0 0,.slice va vm vc,.string ⟨#[]⟩,.slice none 0 0,.bool false,.bool false]) (by simp[results,Tryz.results169,go_sem,k0',k1',k2',k3',k4',k5',k6',k7',k8',k9']) rfl ?_;have hlt:=HM9.out.lt;have hsz:=HF.out.2.2.2;obtain⟨W7,hWW⟩:∃W,W=w6.setCell ⟨o,5,none⟩ (.slice va vm vc):=⟨_,rfl⟩;rw[←hWW]at HF HTF HRF hsz⊢;have kF:Kp (Bh o W7) W7 (iH W7 (w.heap.size+1) ⟨xk,CL,CN,(ua,um,uc),aj,(va,vm,vc),[],aj,false,false⟩):=fun b hb=>HF.out.2.2.1 b (by have:=hb.1;omega)
  have mF:∀b,Bh o W7 b→(w.heap.size≤b∧b<(iH W7 (w.heap.size+1) ⟨xk,CL,CN,(ua,um,uc),aj,(va,vm,vc),[],aj,false,false⟩).heap.size):=fun b hb=>⟨by have:=hb.1;omega,by rw[hsz];exact hb.2⟩
  rw[HGN.out];exact⟨⟨xk,CL,CN,(ua,um,uc),aj,(va,vm,vc),[],aj,false,false⟩,rfl,rfl,⟨rfl,rfl,rfl,(HTF.out.keep kF).mono mF,(HRF.out.keep kF).mono mF,rfl,TrS.nil _ _,rfl,rfl⟩,HF.out.1⟩
end
section
open Go.RowKit
mutual
def tfN:Nd→Int→Nat→List Nd
 | .mk h ks,w,d=>
  if eH h w then
   (if bY (bN h (aN h.kind w)) (ow (tfL ks (aN h.kind w) (d+1))) then [.mk (bN h (aN h.kind w)) (tfL ks (aN h.kind w) (d+1))] else [])
  else
   (if bY (bN h (aN h.kind w)) false then [.mk (bN h (aN h.kind w)) []] else [])++(if mf h.kind then tfL ks w d else [])
def tfL:List Nd→Int→Nat→List Nd
 | [],_,_=>[]
 | x::l,w,d=>if 20≤d then [] else tfN x w d++tfL l w d
end
theorem mR (w:Int)(d:Nat):tfL [] w d=[]:=by simp[tfL]
theorem jM (x:Nd)(l:List Nd)(w:Int)(d:Nat):tfL (x::l) w d=if 20≤d then [] else tfN x w d++tfL l w d:=by
 conv=>lhs;unfold tfL
theorem sZ (h:Hd)(ks:List Nd)(w:Int)(d:Nat):tfN (.mk h ks) w d=if eH h w then
   (if bY (bN h (aN h.kind w)) (ow (tfL ks (aN h.kind w) (d+1))) then [.mk (bN h (aN h.kind w)) (tfL ks (aN h.kind w) (d+1))] else [])
  else
   (if bY (bN h (aN h.kind w)) false then [.mk (bN h (aN h.kind w)) []] else [])++(if mf h.kind then tfL ks w d else []):=by
 conv=>lhs;unfold tfN
theorem zW (l:List Nd)(w:Int)(d:Nat)(h:20≤d):tfL l w d=[]:=by
 cases l with
 | nil=>exact mR w d
 | cons x l=>rw[jM,PZ h]
theorem Ey:∀(a b:List Nd) (w:Int) (d:Nat),tfL (a++b) w d=tfL a w d++tfL b w d
 | [],b,w,d=>by rw[mR];simp
 | x::a,b,w,d=>by
  rw[Qe,jM,jM x a]
  by_cases h:20≤d
  ·rw[PZ h,PZ h,zW b w d h];rfl
  ·rw[PO h,PO h,Ey a b,Qx]
theorem Lt {l:List Nd}{p:Nat}{y:Nd}(hy:l[p]? =some y)(w:Int)(d:Nat)(h:¬20≤d):tfL (l.take (p+1)) w d=tfL (l.take p) w d++tfN y w d:=by
 rw[take_snoc' hy,Ey,jM,PO h,mR,Qc]
mutual
theorem NB:∀(x:Nd) (w:Int) (d n:Nat),lu x≤n+1→(tdN x w d n).1=tfN x w d∧n+1≤(tdN x w d n).2+lu x
 | .mk h ks,w,d,n,hn=>by
  rw[ND,sZ];have hc:lu (.mk h ks)=1+aP ks:=by simp[lu]
  rw[hc]at hn⊢
  by_cases hi:eH h w=true
  ·rw[PZ hi,PZ hi]
   obtain⟨h1,h2⟩:=yg ks (aN h.kind w) (d+1) n (by omega);simp only;rw[h1];exact⟨rfl,by omega⟩
  ·rw[PO hi,PO hi]
   obtain⟨h1,h2⟩:=yg ks w d n (by omega);simp only;rw[h1];refine⟨rfl,?_⟩
   split<;>omega
theorem yg:∀(l:List Nd) (w:Int) (d n:Nat),aP l≤n→(tdL l w d n).1=tfL l w d∧n≤(tdL l w d n).2+aP l
 | [],w,d,n,_=>by rw[Lx,mR];exact⟨rfl,by simp⟩
 | x::l,w,d,n,hn=>by
  rw[IZ,jM];have hc:aP (x::l)=lu x+aP l:=by simp[aP]
  have hp:=nD x;rw[hc]at hn⊢
  by_cases hd:20≤d
  ·rw[PZ (.inr hd),PZ hd]
   exact⟨rfl,by simp only;omega⟩
  ·rw[PO (by omega),PO hd]
   obtain⟨h1,h2⟩:=NB x w d (n-1) (by omega);obtain⟨h3,h4⟩:=yg l w d (tdN x w d (n-1)).2 (by omega);simp only;rw[h1,h3];exact⟨rfl,by omega⟩
end
theorem Ls {l:List Nd}(h:aP l≤20000):tfL l 0 0=zV l:=((yg l 0 0 20000 h).1).symm
mutual
theorem Lu:∀(x:Nd) (w:Int) (d:Nat),(tfN x w d).length≤lu x
 | .mk h ks,w,d=>by
  rw[sZ];have hc:lu (.mk h ks)=1+aP ks:=by simp[lu]
  rw[hc];have:=xZ ks w d
  split
  ·split<;>simp
  ·rw[PL]
   split<;>split<;>simp<;>omega
theorem xZ:∀(l:List Nd) (w:Int) (d:Nat),(tfL l w d).length≤aP l
 | [],w,d=>by rw[mR];simp
 | x::l,w,d=>by
  rw[jM];have hc:aP (x::l)=lu x+aP l:=by simp[aP]
  rw[hc];have h1:=Lu x w d;have h2:=xZ l w d
  split
  ·simp
  ·rw[PL];omega
end
theorem NsS.atK {S:Nat→Prop}{w w':World}{a:Option Addr}{k cap:Nat}{l:List Nd}(h:NsS S w (.slice a k cap) l)(hk:Kp S w w'){j:Nat}{y:Nd}(hy:l[j]? =some y):
  ∃g off x,a=some ⟨g,off,none⟩∧NC w' g (off+j*10) x∧df S w x y.hd∧NsS S w (pv x.kids) y.kids:=by
 obtain⟨g,off,x,e,hg,hc,hh,hK⟩:=h.atR hy;have c:∀(i:Nat) c,(af x)[i]? =some c→w'.cell? ⟨g,off+j*10+i,none⟩=some c:=fun i c hi=>(Qh (hk g hg)).trans (hc i c hi)
 exact⟨g,off,x,e,⟨c 0 _ rfl,c 1 _ rfl,c 2 _ rfl,c 3 _ rfl,c 4 _ rfl,c 5 _ rfl,c 6 _ rfl,c 7 _ rfl,c 8 _ rfl,c 9 _ rfl⟩,hh,hK⟩
abbrev cntF (lb:Nat):Value:= .func (.func 98) #[] #[.pointer (some ⟨lb,0,none⟩)]
theorem qV (lb k:Nat)(w:World)(hB:Blk w lb 3 [.int .i64 (k:Int)])(h1:1≤k)(hk:k≤1000000000):
  Calls Tryz.prog 98 #[.pointer (some ⟨lb,0,none⟩)] w fun e w'=>e=.returned (.bool true)∧Blk w' lb 3 [.int .i64 ((k-1:Nat):Int)]∧Exc (· =lb) w w':=by
 have c0:w.cell? ⟨lb,0,none⟩=some (.int .i64 (k:Int)):=hB.cell 0;have f0:w.frozen? ⟨lb,0,none⟩=false:=hB.frozen (by simp);have e:((k-1:Nat):Int)=(k:Int)-1:=by omega
 have h2:=hB.set 0 (.int .i64 ((k:Int)-1));have c1:(w.setCell ⟨lb,0,none⟩ (.int .i64 ((k:Int)-1))).cell? ⟨lb,0,none⟩=some (.int .i64 ((k:Int)-1)):=h2.cell 0;have H2:=zH h2;have HX:=zH ((Exc.refl (· =lb) w).set (g:=lb) 0 (.int .i64 ((k:Int)-1)) (fun _=>rfl));have w1:IntKind.i64.wrap ((k:Int)-1)=(k:Int)-1:=IntWalk.i64_in _ (by omega);have p0:(0:Int)≤(k:Int)-1:=by omega
 have p0':(1:Int)≤(k:Int):=by omega
 rw[e];clear h2 hB e;go_enter Tryz.func98,Tryz.ntmps98
 go_wp2_with fail
 go_ret;exact⟨aH (by simp),H2.out,HX.out⟩
abbrev ig (m:Int)(d lb:Nat):List Value:=[.int .i64 m,.int .i64 (d:Int),cntF lb]
theorem uz (SI:Nat→Prop)(w0:World)(lb:Nat)(hlb:w0.heap.size≤lb)(hSI:∀b,SI b→b<w0.heap.size)(m:Int)(d:Nat):∀(n:Nat) (l:List Nd),aP l=n→ ∀(k:Nat) (v:Value) (w:World),n≤k→k≤20000→NsS SI w0 v l→Below w0.heap.size w0 w→Blk w lb 3 [.int .i64 (k:Int)]→
  Calls Tryz.prog 134 #[.agg (ig m d lb).toArray,v] w fun e w'=>e=.returned (.tuple #[])∧Blk w' lb 3 [.int .i64 ((k-aP l:Nat):Int)]∧Exc (· =lb) w w':=by
 intro n
 induction n using Nat.strongRecOn with
 | _ n IH=>
  intro l hn k v w hk hk2 hv hbw hB;subst hn;have HV:=zH hv;have HS:=zH hSI;have HLB:=zH hlb;obtain⟨aa,ca,rfl⟩:=hv.len;have HI:Hid (∀(q:List Nd),aP q<aP l→ ∀(k:Nat) (v:Value) (w:World),aP q≤k→k≤20000→NsS SI w0 v q→Below w0.heap.size w0 w→Blk w lb 3 [.int .i64 (k:Int)]→
   Calls Tryz.prog 134 #[.agg (ig m d lb).toArray,v] w fun e w'=>e=.returned (.tuple #[])∧Blk w' lb 3 [.int .i64 ((k-aP q:Nat):Int)]∧Exc (· =lb) w w'):=zH (fun q hq=>IH (aP q) hq q rfl)
  have hll:=pU l;have HBW:=zH hbw;obtain⟨W1,hW1⟩:∃W,W=w.alloc (.cells (ig m d lb).toArray 157):=⟨_,rfl⟩;have b1:Below w.heap.size w W1:=by rw[hW1];exact ae _ _
  have HX1:Hid (Blk W1 w.heap.size 157 (ig m d lb)):=zH (by rw[hW1];exact PK w _);have HB1:=zH (hB.below b1);have HZ:Hid (w.heap.size≠lb):=zH (fun e=>by have:=hB.lt;omega);have HE1:Hid (Exc (· =lb) w W1):=zH (Exc.of b1);simp only[ig,cntF]at hW1⊢;have HW1:=zH hW1;have HSZ:=zH b1.size;have HPX:Hid (w.heap.size<W1.heap.size):=zH HX1.out.lt;clear hv hSI IH hB hbw hlb hW1 b1;go_enter Tryz.func134,Tryz.ntmps134
  go_wp2_with fail
  rw[←HW1.out];go_loopw [8] (fun i wr=> ∃(p:Nat),Hid (Exc (· =lb) W1 wr)∧i=.int .i64 (p:Int)∧p≤l.length∧Hid (Blk wr lb 3 [.int .i64 ((k-aP (l.take p):Nat):Int)])) (fun i _=>l.length-(intOf i).toNat)
  case atStart=>exact⟨0,zH (Exc.refl _ _),rfl,by omega,by simpa[aP] using HB1⟩
  case round=>
   obtain⟨p,HE,rfl,hp,HBK⟩:=hrel;clear HB1
   by_cases hlt:p<l.length
   ·obtain⟨y,hy⟩:∃y,l[p]? =some y:=⟨l[p],Pz hlt⟩
    have HN:=zH (vD hy);have hle:=zo hy;have hlt':(p:Int)<(l.length:Int):=by omega
    have hp0:(0:Int)≤(p:Int):=by omega
    have hbr:Below w0.heap.size w0 wr:=HBW.out.trans ((HE1.out.then HE.out).below HBW.out.size (fun b hb e=>by have:=HLB.out;omega));obtain⟨g,off,x,rfl,hC,-,hK⟩:=HV.out.atK (Kp.below hbr HS.out) hy;obtain⟨wb,hwb⟩:∃wb,wb=wr.alloc (.cells (af x).toArray 58):=⟨_,rfl⟩;have bb:Below wr.heap.size wr wb:=by rw[hwb];exact ae _ _
    have hX2:Blk wb w.heap.size 157 (ig m d lb):=(HE.out.blk HX1.out HZ.out).below bb;have q2:wb.cell? ⟨w.heap.size,2,none⟩=some (cntF lb):=hX2.cell 2;have HC1:=zH (qV lb (k-aP (l.take p)) wb (HBK.out.below bb) (by omega) (by omega));have HXP:=zH hX2;have HXN:Hid (Blk wb wr.heap.size 58 (af x)):=zH (by rw[hwb];exact PK wr _);have HZN:Hid (wr.heap.size≠lb):=zH (fun e=>by have:=HBK.out.lt;omega);have HEb:Hid (Exc (· =lb) W1 wb):=zH (HE.out.then (Exc.of bb));have HKK:=zH hK;obtain⟨xk,xl,xn,⟨t1,t2,t3⟩,⟨k1,k2,k3⟩,⟨r1,r2,r3⟩,xc,⟨q1,q2',q3⟩,xb,xa⟩:=x;have c0:=hC.c0;have c1:=hC.c1;have c2:=hC.c2;have c3:=hC.c3;have c4:=hC.c4;have c5:=hC.c5;have c6:=hC.c6;have c7:=hC.c7;have c8:=hC.c8;have c9:=hC.c9;have q2w:wr.cell? ⟨w.heap.size,2,none⟩=some (cntF lb):=(HE.out.blk HX1.out HZ.out).cell 2;simp only[af,pv,cntF]at hwb q2 q2w HKK;subst hwb;clear hy hC hK bb hX2 hbr q2w;go_wp2_with fail
    refine HC1.out.mono ?_;rintro e w3 ⟨rfl,hB3,hE3⟩;have HE3:=zH (HEb.out.then hE3);have z3:=hE3.blk HXP.out HZ.out;have z0:w3.cell? ⟨w.heap.size,0,none⟩=some (.int .i64 m):=z3.cell 0;have z1:w3.cell? ⟨w.heap.size,1,none⟩=some (.int .i64 (d:Int)):=z3.cell 1;have z2:w3.cell? ⟨w.heap.size,2,none⟩=some (cntF lb):=z3.cell 2;have x4:w3.cell? ⟨wr.heap.size,4,none⟩=some (.slice k1 k2 k3):=(hE3.blk HXN.out HZN.out).cell 4;have hb3:Below w0.heap.size w0 w3:=HBW.out.trans ((HE1.out.then HE3.out).below HBW.out.size (fun b hb e=>by have:=HLB.out;omega));have HR:=zH (HI.out y.kids (by omega) (k-aP (l.take p)-1) (.slice k1 k2 k3) w3 (by omega) (by omega) HKK.out hb3 hB3);simp only[cntF,ig]at z2 HR;clear hB3 hE3 z3 hb3 HC1 c0 c1 c2 c3 c4 c5 c6 c7 c8 c9 q2;go_wp2_with fail
    refine HR.out.mono ?_;rintro e w5 ⟨rfl,hB5,hE5⟩;have HE5:=zH (HE3.out.then hE5);have HB5:=zH hB5;clear hB5 hE5 HR z0 z1 z2 x4;go_wp2_with fail
    go_roundw
    case rel=>exact⟨p+1,HE5,by go_num,by omega,zH (by rw[HN.out,show k-(aP (l.take p)+(1+aP y.kids))=k-aP (l.take p)-1-aP y.kids by omega];exact HB5.out)⟩
    case measure=>(simp[intOf];try omega)
   ·obtain rfl:p=l.length:=by omega
    have hlt':¬(l.length:Int)<(l.length:Int):=by omega
    rw[Qa]at HBK;go_wp2_with fail
    go_end0;exact⟨rfl,HBK.out,HE1.out.then HE.out⟩
end
section
attribute [local go_sem ↓ high] fA
abbrev FS:Nat→Prop:=fun _=>False
structure PF (lb base:Nat)(w w':World):Prop where
 os:w'.os=w.os
 tape:w'.tape=w.tape
 output:w'.output=w.output
 size:w.heap.size≤w'.heap.size
 low:∀b,b<base→b≠lb→b<w.heap.size→w'.heap[b]? =w.heap[b]?
 oth:∀b cur e fz,b≠lb→w.heap[b]? =some (.cells cur e fz)→e≠58→w'.heap[b]? =some (.cells cur e fz)
theorem PF.refl (lb base:Nat)(w:World):PF lb base w w:=⟨rfl,rfl,rfl,Px _,fun _ _ _ _=>rfl,fun _ _ _ _ _ h _=>h⟩
theorem PF.trans {lb base:Nat}{a b c:World}(h:PF lb base a b)(k:PF lb base b c):PF lb base a c:=
 ⟨k.os.trans h.os,k.tape.trans h.tape,k.output.trans h.output,PY h.size k.size,fun i h1 h2 h3=>(k.low i h1 h2 (PH h3 h.size)).trans (h.low i h1 h2 h3),fun i cur e fz h1 h2 h3=>k.oth i cur e fz h1 (h.oth i cur e fz h1 h2 h3) h3⟩
theorem PF.exc {lb base:Nat}{w w':World}(h:Exc (· =lb) w w'):PF lb base w w':=
 ⟨h.os,h.tape,h.output,h.size,fun b _ h2 h3=>h.block b h3 h2,fun b cur e fz h1 h2 _=>(h.block b (Py.1 h2).1 h1).trans h2⟩
theorem PF.of {lb base:Nat}{w w':World}(h:Below w.heap.size w w'):PF lb base w w':=PF.exc (Exc.of h)
theorem PF.below {lb base D:Nat}{w w':World}(h:PF lb base w w')(hD:D≤w.heap.size)(h1:D≤lb)(h2:lb<base):Below D w w':=
 ⟨h.os,h.tape,h.output,h.size,fun k hk=>h.low k (by omega) (by omega) (by omega)⟩
theorem PF.blk {lb base:Nat}{w w':World}(h:PF lb base w w'){g:Nat}{e:TypeId}{L:List Value}(hb:Blk w g e L)(hg:g≠lb)(he:e≠58):Blk w' g e L:=h.oth g _ _ _ hg hb he
section
variable {SI:Nat→Prop}{base:Nat}{W:World}{v:Value}{l:List Nd}
theorem dN.own_node (h:dN SI base W v l){b:Nat}{cur:Array Value}{e:TypeId}{fz:Nat×Nat}(hb:W.heap[b]? =some (.cells cur e fz))(he:e≠58):v.ownBlock≠some b:=by
 obtain⟨L,S,hL,-⟩:=h.own;intro e1;obtain⟨-,cur',hc⟩:=hL.ty e1;rw[hb]at hc;injection hc with hc
 injection hc with _ h2
 exact he h2
theorem dN.own_ge (h:dN SI base W v l){b:Nat}(hb:b<base):v.ownBlock≠some b:=by
 obtain⟨L,S,hL,-⟩:=h.own;intro e1;obtain⟨h1,-⟩:=hL.ty e1;omega
variable {W':World}
theorem dN.app2 (h:dN SI base W v l){u:Value}{M:List NV}{m:List Nd}{T:Nat→Prop}(hu:Fs 10 af W u M)(hM:M.length=m.length)(hT:∀b,T b→SI b∨(base≤b∧b<W.heap.size∧v.ownBlock≠some b))
  (hm:∀(i:Nat) x y,M[i]? =some x→m[i]? =some y→df T W x y.hd∧NsS T W (pv x.kids) y.kids) (hd:l.length+m.length≤1000000):
  ∃a' c' w',(zD #[v,u]).run Tryz.prog W=.ok (.value (.slice a' (l.length+m.length) c')) w'∧dN SI base w' (.slice a' (l.length+m.length) c') (l++m)∧Below base W w'∧(∀b,b<W.heap.size→v.ownBlock≠some b→w'.heap[b]? =W.heap[b]?)∧((Value.slice a' (l.length+m.length) c').ownBlock=v.ownBlock∨(Value.slice a' (l.length+m.length) c').ownBlock=some W.heap.size):=by
 obtain⟨L,S,hL,hl,hS,hE⟩:=h.own;obtain⟨i0,hi,hz0,hz1,hz2⟩:=Ql kY;obtain⟨x',w',hr,ho,hg,hq⟩:=lM (P:=Tryz.prog) (t:=36) ay jS (by decide) Tryz.underlying36 hi hz0 hz1 hz2 rfl (by decide) hL hu h.sz (by rw[hl,hM];exact hd);obtain⟨a',c',e⟩:=(ag.sl ay ho).len;rw[PL,hl,hM]at e;subst e;have kp:∀T:Nat→Prop,(∀b,T b→SI b∨(base≤b∧b<W.heap.size∧v.ownBlock≠some b))→Kp T W w':=fun T hT=>Kp.grown hg fun b hb=>by
  rcases hT b hb with q | q
  ·refine⟨PH (h.lt b q) h.sz,fun e=>?_⟩
   have:=(hL.ty e.symm).1;have:=h.lt b q;omega
  ·exact⟨q.2.1,fun e=>q.2.2 e.symm⟩
 have k1:=kp S hS;have k2:=kp T hT;have hsz:=hg.size;have step:∀T:Nat→Prop,(∀b,T b→SI b∨(base≤b∧b<W.heap.size∧v.ownBlock≠some b))→ ∀b,T b→SI b∨(base≤b∧b<w'.heap.size∧(Value.slice a' (l.length+m.length) c').ownBlock≠some b):=fun T hT b hb=>by
  rcases hT b hb with q | q
  ·exact .inl q
  ·refine .inr ⟨q.1,by omega,?_⟩
   rcases hq with e | e
   ·rw[e];exact q.2.2
   ·rw[e]
    intro e2;injection e2 with e2
    omega
 refine⟨a',c',w',?_,⟨h.lt,PY h.sz hsz,⟨L++M,fun b=>S b∨T b,ho,by simp[hl,hM],fun b hb=>hb.elim (step S hS b) (step T hT b),fun i x y hx hy=>?_⟩⟩,hL.below (PG _ _) h.sz hg,fun b hb hn=>hg.block b hb (fun e=>hn e.symm),hq⟩
 ·unfold zD
  simp only[QD,QG,Qm,hr]
 ·by_cases hil:i<l.length
  ·rw[P7 (by omega)]at hx hy
   obtain⟨q1,q2⟩:=hE i x y hx hy;exact⟨(q1.keep k1).mono fun b hb=> .inl hb,(q2.keep k1).mono fun b hb=> .inl hb⟩
  ·rw[P5 (by omega),hl]at hx
   rw[P5 (by omega)]at hy;obtain⟨q1,q2⟩:=hm _ x y hx hy;exact⟨(q1.keep k2).mono fun b hb=> .inr hb,(q2.keep k2).mono fun b hb=> .inr hb⟩
theorem dN.push2 (h:dN SI base W v l){x:NV}{y:Nd}{T:Nat→Prop}(hT:∀b,T b→SI b∨(base≤b∧b<W.heap.size∧v.ownBlock≠some b))(hx:df T W x y.hd)(hk:NsS T W (pv x.kids) y.kids)(hd:l.length≤500000):
  ∃a' c' w',(zD #[v,.slice (some ⟨W.heap.size,0,none⟩) 1 1]).run Tryz.prog (W.alloc (.cells (af x).toArray 58))=.ok (.value (.slice a' (l.length+1) c')) w'∧dN SI base w' (.slice a' (l.length+1) c') (l++ [y])∧Below base W w'∧(∀b,b<W.heap.size→v.ownBlock≠some b→w'.heap[b]? =W.heap[b]?)∧ ∀b,b<W.heap.size→v.ownBlock≠some b→(Value.slice a' (l.length+1) c').ownBlock≠some b:=by
 have b1:=ae W (.cells (af x).toArray 58);have hkp:Kp T W (W.alloc (.cells (af x).toArray 58)):=fun b hb=>b1.block b (by
  rcases hT b hb with q | q
  ·exact PH (h.lt b q) h.sz
  ·exact q.2.1)
 have hu:Fs 10 af (W.alloc (.cells (af x).toArray 58)) (.slice (some ⟨W.heap.size,0,none⟩) 1 1) [x]:=by
  have:=dM ay W 58 [x];rw[dU]at this;exact this
 obtain⟨a',c',w',hr,hi,hb,ho,hq⟩:=(h.keep b1).app2 (m:=[y]) hu rfl (fun b hb=>(hT b hb).imp id fun q=>⟨q.1,PH q.2.1 b1.size,q.2.2⟩) (fun i x' y' hx' hy'=>by
  match i,hx',hy' with
  | 0,hx',hy'=>
   simp at hx' hy';subst hx' hy';exact⟨hx.keep hkp,hk.keep hkp⟩
  | i+1,hx',_=>simp at hx') (by simp;omega)
 exact⟨a',c',w',hr,hi,(b1.mono h.sz).trans hb,fun b hb' hn=>(ho b (PH hb' b1.size) hn).trans (b1.block b hb'),fun b hb' hn e=>by
  rcases hq with q | q
  ·exact hn (q▸e)
  ·have e2:=q.symm.trans e
   rw[PS]at e2;injection e2 with e2
   omega⟩
theorem dN.exc (h:dN FS base W v l){lb:Nat}(hl:lb<base){W':World}(hE:Exc (· =lb) W W'):dN FS base W' v l:=by
 obtain⟨L,S,hL,hLl,hS,hE'⟩:=h.own;have hk:Kp S W W':=fun b hb=>by
  rcases hS b hb with q | q
  ·exact q.elim
  ·exact hE.block b q.2.1 (by omega)
 have hs:aF 58 base W W':=fun g cur fz hg hgg=>(hE.block g (Py.1 hgg).1 (by omega)).trans hgg
 refine⟨h.lt,PY h.sz hE.size,⟨L,S,hL.sam hs,hLl,fun b hb=>?_,fun i x y a c=>⟨(hE' i x y a c).1.keep hk,(hE' i x y a c).2.keep hk⟩⟩⟩;rcases hS b hb with q | q
 ·exact q.elim
 ·exact .inr ⟨q.1,PH q.2.1 hE.size,q.2.2⟩
end
def Ow (lb:Nat)(v:Value)(w:World)(v':Value)(w':World):Prop:= ∀b,b<w.heap.size→b≠lb→v.ownBlock≠some b→w'.heap[b]? =w.heap[b]? ∧v'.ownBlock≠some b
theorem Ow.refl (lb:Nat)(v:Value)(w:World):Ow lb v w v w:=fun _ _ _ h=>⟨rfl,h⟩
theorem Ow.trans {lb:Nat}{v v' v'':Value}{a b c:World}(h:Ow lb v a v' b)(k:Ow lb v' b v'' c)(hs:a.heap.size≤b.heap.size):Ow lb v a v'' c:=fun i h1 h2 h3=>by
 obtain⟨q1,q2⟩:=h i h1 h2 h3;obtain⟨q3,q4⟩:=k i (PH h1 hs) h2 q2;exact⟨q3.trans q1,q4⟩
theorem Ow.exc {lb:Nat}{v:Value}{w w':World}(h:Exc (· =lb) w w'):Ow lb v w v w':=fun b h1 h2 h3=>⟨h.block b h1 h2,h3⟩
def Ev (base:Nat)(v:Value)(r:List Nd)(w:World)(e:Ending)(w':World):Prop:= ∃v',e=.returned v'∧dN FS base w' v' r∧Below base w w'∧(∀b,b<w.heap.size→v.ownBlock≠some b→w'.heap[b]? =w.heap[b]?)∧ ∀b,b<w.heap.size→v.ownBlock≠some b→v'.ownBlock≠some b
theorem Ev.pf {base lb:Nat}{v:Value}{l:List Nd}{w w':World}(h:dN FS base w v l)(hb:Below base w w')(ho:∀b,b<w.heap.size→v.ownBlock≠some b→w'.heap[b]? =w.heap[b]?):PF lb base w w':=
 ⟨hb.os,hb.tape,hb.output,hb.size,fun b h1 _ h3=>ho b h3 (h.own_ge h1),fun b cur e fz _ h2 h3=>(ho b (Py.1 h2).1 (h.own_node h2 h3)).trans h2⟩
theorem lZ (base:Nat)(v:Value)(acc:List Nd)(x:NV)(hy:Hd)(kl:List Nd)(T:Nat→Prop)(w:World)(hN:dN FS base w v acc)(hT:∀b,T b→base≤b∧b<w.heap.size∧v.ownBlock≠some b)(hx:df T w x hy)(hk:NsS T w (pv x.kids) kl)(hl:acc.length≤500000):
  Calls Tryz.prog 172 #[v,.agg (af x).toArray] w (Ev base v (if bY hy (ow kl) then acc++ [.mk hy kl] else acc) w):=by
 obtain⟨ka,kc,ek⟩:=hk.len;have ek':=oQ ek;have hk2:x.kids.2.1=kl.length:=by rw[ek']
 have b1:=ae w (.cells (af x).toArray 58);have hLK:=uA x (w.alloc (.cells (af x).toArray 58));rw[full_of hx,hk2,J4]at hLK;have HLK:=zH hLK;have HX:=zH (show Blk (w.alloc (.cells (af x).toArray 58)) w.heap.size 58 (af x) from PK w _);have HB1:=zH b1;obtain⟨va,vc,rfl⟩:=hN.len;have HPU:=zH (fun w2 (hb:Below w.heap.size w w2)=>(hN.keep hb).push2 (x:=x) (y:= .mk hy kl) (T:=T) (fun b q=> .inr ⟨(hT b q).1,PH (hT b q).2.1 hb.size,(hT b q).2.2⟩) (hx.keep (fun b q=>hb.block b (hT b q).2.1)) (hk.keep (fun b q=>hb.block b (hT b q).2.1)) hl);have HN:=zH hN;obtain⟨xk,xl,xn,⟨t1,t2,t3⟩,⟨k1,k2,k3⟩,⟨r1,r2,r3⟩,xc,⟨q1,q2,q3⟩,xb,xa⟩:=x;obtain⟨p,hp⟩:∃p,bY hy (ow kl)=p:=⟨_,rfl⟩;rw[hp]at HLK⊢;obtain⟨R,hR⟩:∃R,(if p=true then acc++ [Nd.mk hy kl] else acc)=R:=⟨_,rfl⟩;rw[hR];have HR:=zH hR;simp only[af,pv]at HLK HX HB1 HPU⊢;clear hLK hx hk hT hN b1 ek ek' hk2 hp hR;go_enter Tryz.func172,Tryz.ntmps172
 go_wp2_with fail
 refine HLK.out.mono ?_;rintro e w2 ⟨rfl,b2⟩;have HB2:=zH (HB1.out.trans (b2.mono HB1.out.size))
 cases p
 ·clear b2 HLK
  go_wp2_with fail
  go_ret;exact⟨_,rfl,HR.out▸HN.out.keep HB2.out,HB2.out.mono HN.out.sz,fun b hb _=>HB2.out.block b hb,fun _ _ h=>h⟩
 ·have hX2:=HX.out.below b2
  have c0:w2.cell? ⟨w.heap.size,0,none⟩=some (.int .i64 xk):=hX2.cell 0;have c1:w2.cell? ⟨w.heap.size,1,none⟩=some (.int .i64 xl):=hX2.cell 1;have c2:w2.cell? ⟨w.heap.size,2,none⟩=some (.int .i64 xn):=hX2.cell 2;have c3:w2.cell? ⟨w.heap.size,3,none⟩=some (.slice t1 t2 t3):=hX2.cell 3;have c4:w2.cell? ⟨w.heap.size,4,none⟩=some (.slice k1 k2 k3):=hX2.cell 4;have c5:w2.cell? ⟨w.heap.size,5,none⟩=some (.slice r1 r2 r3):=hX2.cell 5;have c6:w2.cell? ⟨w.heap.size,6,none⟩=some (.string ⟨xc.toArray⟩):=hX2.cell 6;have c7:w2.cell? ⟨w.heap.size,7,none⟩=some (.slice q1 q2 q3):=hX2.cell 7;have c8:w2.cell? ⟨w.heap.size,8,none⟩=some (.bool xb):=hX2.cell 8;have c9:w2.cell? ⟨w.heap.size,9,none⟩=some (.bool xa):=hX2.cell 9;obtain⟨a',c',w',hr,hI,hb3,ho3,hq3⟩:=HPU.out w2 HB2.out;have HI:=zH hI;have HB3:=zH ((HB2.out.mono HN.out.sz).trans hb3);have HO3:Hid (∀b,b<w.heap.size→(Value.slice va acc.length vc).ownBlock≠some b→w'.heap[b]? =w.heap[b]?):=zH (fun b hb hn=>(ho3 b (PH hb HB2.out.size) hn).trans (HB2.out.block b hb));have HQ3:Hid (∀b,b<w.heap.size→(Value.slice va acc.length vc).ownBlock≠some b→(Value.slice a' (acc.length+1) c').ownBlock≠some b):=zH (fun b hb hn=>hq3 b (PH hb HB2.out.size) hn);clear b2 HLK hX2 hI hb3 ho3 hq3;go_wp2_with fail
  go_ret;exact⟨_,rfl,HR.out▸HI.out,HB3.out,HO3.out,HQ3.out⟩
end
def Iz (lb base:Nat)(v:Value)(r:List Nd)(k:Nat)(w:World)(e:Ending)(w':World):Prop:= ∃v',e=.returned v'∧dN FS base w' v' r∧Blk w' lb 3 [.int .i64 (k:Int)]∧PF lb base w w'∧Ow lb v w v' w'
def Lg (w0:World)(lb:Nat)(SI:Nat→Prop)(l:List Nd):Prop:=
 ∀(lv v:Value) (acc:List Nd) (base:Nat) (m:Int) (d left:Nat) (w:World),NsS SI w0 lv l→Below w0.heap.size w0 w→lb<base→dN FS base w v acc→Blk w lb 3 [.int .i64 (left:Int)]→aP l≤left→left≤20000→d≤20→acc.length+aP l≤40000→
  Calls Tryz.prog 99 #[.agg (ig m d lb).toArray,v,lv] w (Iz lb base v (acc++tfL l m d) (left-aP l) w)
structure TO (lb:Nat)(w:World)(m:Int)(d:Nat)(x:NV)(gy:Nat)(y:NV)(hy:Hd)(W:World):Prop where
 exc:Exc (· =lb) w W
 bp:Blk W w.heap.size 157 (ig m d lb)
 bx:Blk W (w.heap.size+1) 58 (af x)
 by':Blk W gy 58 (af y)
 hd:df (fun b=>w.heap.size+1<b∧b<gy) W y hy
 lt:w.heap.size+1<gy
 lb':lb<w.heap.size
section
variable {lb:Nat}{w:World}{m:Int}{d:Nat}{x:NV}{gy:Nat}{y:NV}{hy:Hd}{W W':World}
theorem TO.gz (h:TO lb w m d x gy y hy W):gy<W.heap.size:=h.by'.lt
theorem TO.exc' (h:TO lb w m d x gy y hy W)(hE:Exc (· =lb) W W'):TO lb w m d x gy y hy W':=by
 have h1:=h.lt;have h2:=h.lb';exact⟨h.exc.then hE,hE.blk h.bp (by omega),hE.blk h.bx (by omega),hE.blk h.by' (by omega),h.hd.keep (fun b hb=>hE.block b (by have:=h.gz;omega) (by omega)),h.lt,h.lb'⟩
theorem TO.keep (h:TO lb w m d x gy y hy W)(hb:Below W.heap.size W W'):TO lb w m d x gy y hy W':=h.exc' (Exc.of hb)
theorem TO.set {y':NV}{hy':Hd}(h:TO lb w m d x gy y hy W)(j:Nat)(v:Value)(e:(af y).set j v=af y')(k:∀W,df (fun b=>w.heap.size+1<b∧b<gy) W y hy→df (fun b=>w.heap.size+1<b∧b<gy) W y' hy'):TO lb w m d x gy y' hy' (W.setCell ⟨gy,j,none⟩ v):=by
 have h1:=h.lt;have h2:=h.lb';exact⟨h.exc.set j v (fun hg=>by omega),h.bp.other (by omega) _ _,h.bx.other (by omega) _ _,e▸h.by'.set j v,k _ (h.hd.keep (fun b hb=>PN W ⟨gy,j,none⟩ v b (by show b≠gy;omega))),h.lt,h.lb'⟩
end
theorem CP {m k:Int}(h:k=1∨k=2):pst m k=stands k m:=by
 unfold pst stands;rcases h with rfl | rfl<;>simp
theorem DT {h:Hd}{k:Int}(hk:k=1∨k=2):bY (bN h 3) false=bY (bN h k) false:=by
 rcases hk with rfl | rfl<;>simp[bY,bN]
theorem OJ {S:Nat→Prop}{W:World}{h:Hd}{k:Int}{y:NV}(hk:k=1∨k=2)(q:df S W y (bN h k)):df S W ⟨3,y.line,y.n,y.text,y.kids,y.rows,y.cols,y.trows,y.box,y.all⟩ (bN h 3):=by
 rcases hk with rfl | rfl<;>exact⟨rfl,q.line,q.n,q.text,q.rows,q.cols,q.trows,q.box,q.all⟩
theorem Ni {h:Hd}{ks:List Nd}{m:Int}{d:Nat}{k:Int}(hk:aN h.kind m=k)(hi:eH h m=true)(acc:List Nd):(if bY (bN h k) (ow (tfL ks k (d+1))) then acc++ [.mk (bN h k) (tfL ks k (d+1))] else acc)=acc++tfN (.mk h ks) m d:=by
 rw[sZ,PZ hi,hk]
 split<;>simp
theorem IY {h:Hd}{ks:List Nd}{m:Int}{d:Nat}{k k':Int}(hk:aN h.kind m=k)(hi:eH h m=false)(hm:mf h.kind=true)(acc:List Nd)(hf:bY (bN h k') false=bY (bN h k) false)(he:bY (bN h k') false=true→k'=k):
  (if bY (bN h k') (ow ([]:List Nd)) then acc++ [.mk (bN h k') []] else acc)++tfL ks m d=acc++tfN (.mk h ks) m d:=by
 have e:tfN (.mk h ks) m d=(if bY (bN h k) false then [.mk (bN h k) []] else [])++tfL ks m d:=by rw[sZ,PO (by rw[hi];simp),hk,PZ hm]
 rw[e,show ow ([]:List Nd)=false from rfl,←hf]
 by_cases h1:bY (bN h k') false=true
 ·rw[PZ h1,PZ h1,he h1];simp
 ·rw[PO h1,PO h1];simp
theorem OH {h:Hd}{ks:List Nd}{m:Int}{d:Nat}{k:Int}(hk:aN h.kind m=k)(hm:mf h.kind=false)(acc:List Nd):
  (if bY (bN h k) (ow ([]:List Nd)) then acc++ [.mk (bN h k) []] else acc)=acc++tfN (.mk h ks) m d:=by
 have hi:eH h m=false:=by unfold eH;rw[hm];rfl
 have e:tfN (.mk h ks) m d=(if bY (bN h k) false then [.mk (bN h k) []] else [])++ []:=by rw[sZ,PO (by rw[hi];simp),hk,hm];rfl
 rw[e,show ow ([]:List Nd)=false from rfl]
 split<;>simp
theorem QUq {P:Prop}(h:P:=by
 have hN6:=HN.out.exc HBA.out HTD.out.exc;have hg1:=HTD.out.lt;have hg2:=HTD.out.gz;have hadd:=lZ base (.slice va an vc) acc ⟨3,yl,yn,(y1,y2,y3),aj,(z1,z2,z3),yo,(u1,u2,u3),yb,ya⟩ (bN h 3) [] (fun b=>w.heap.size+1<b∧b<W6.drew.heap.size) W6.drew hN6 (fun b q=>⟨by have:=HN.out.sz;omega,q.2,fun e=>by obtain⟨L,S,hL,-⟩:=HN.out.own;have:=hL.blt e;omega⟩) (HTD.out.hd.mono (fun b q=>⟨q.1,by omega⟩)) (NsS.nil _ _) (by have:=HAN.out;omega);obtain⟨R1,hR1⟩:∃r,(if bY (bN h 3) (ow ([]:List Nd)) then acc++ [.mk (bN h 3) []] else acc)=r:=⟨_,rfl⟩;have hR1l:R1.length≤an+1:=by rw[←hR1];have:=HAN.out;split<;>simp<;>omega
 rw[hR1]at hadd;simp only[af,pv]at hadd;have HADD:Hid (Calls Tryz.prog 172 #[.slice va an vc,.agg #[.int .i64 3,.int .i64 yl,.int .i64 yn,.slice y1 y2 y3,.slice none 0 0,.slice z1 z2 z3,.string ⟨yo.toArray⟩,.slice u1 u2 u3,.bool yb,.bool ya]] W6.drew fun e w7=> ∃a' n' c',e=.returned (.slice a' n' c')∧Hid (w7.cell? ⟨w.heap.size,0,none⟩=some (.int .i64 m)∧w7.cell? ⟨w.heap.size,1,none⟩=some (.int .i64 (d:Int))∧w7.cell? ⟨w.heap.size,2,none⟩=some (.func (.func 98) #[] #[.pointer (some ⟨lb,0,none⟩)])∧w7.cell? ⟨w.heap.size+1,4,none⟩=some (.slice k1 k2 k3)∧w7.cell? ⟨gy,0,none⟩=some (.int .i64 3)∧w7.cell? ⟨gy,1,none⟩=some (.int .i64 yl)∧w7.cell? ⟨gy,2,none⟩=some (.int .i64 yn)∧w7.cell? ⟨gy,3,none⟩=some (.slice y1 y2 y3)∧w7.cell? ⟨gy,4,none⟩=some (.slice none 0 0)∧w7.cell? ⟨gy,5,none⟩=some (.slice z1 z2 z3)∧w7.cell? ⟨gy,6,none⟩=some (.string ⟨yo.toArray⟩)∧w7.cell? ⟨gy,7,none⟩=some (.slice u1 u2 u3)∧w7.cell? ⟨gy,8,none⟩=some (.bool yb)∧w7.cell? ⟨gy,9,none⟩=some (.bool ya))∧
   Hid (Calls Tryz.prog 99 #[.agg #[.int .i64 m,.int .i64 (d:Int),.func (.func 98) #[] #[.pointer (some ⟨lb,0,none⟩)]],.slice a' n' c',.slice k1 k2 k3] w7 fun e w8=> ∃v8,e=.returned v8∧Hid (w8.cell? ⟨w.heap.size,0,none⟩=some (.int .i64 m)∧w8.cell? ⟨w.heap.size,1,none⟩=some (.int .i64 (d:Int))∧w8.cell? ⟨w.heap.size,2,none⟩=some (.func (.func 98) #[] #[.pointer (some ⟨lb,0,none⟩)])∧w8.cell? ⟨w.heap.size+1,4,none⟩=some (.slice k1 k2 k3)∧w8.cell? ⟨gy,0,none⟩=some (.int .i64 3)∧w8.cell? ⟨gy,1,none⟩=some (.int .i64 yl)∧w8.cell? ⟨gy,2,none⟩=some (.int .i64 yn)∧w8.cell? ⟨gy,3,none⟩=some (.slice y1 y2 y3)∧w8.cell? ⟨gy,4,none⟩=some (.slice none 0 0)∧w8.cell? ⟨gy,5,none⟩=some (.slice z1 z2 z3)∧w8.cell? ⟨gy,6,none⟩=some (.string ⟨yo.toArray⟩)∧w8.cell? ⟨gy,7,none⟩=some (.slice u1 u2 u3)∧w8.cell? ⟨gy,8,none⟩=some (.bool yb)∧w8.cell? ⟨gy,9,none⟩=some (.bool ya))∧Hid (dN FS base w8 v8 R∧Blk w8 lb 3 [.int .i64 (KL:Int)]∧PF lb base w w8∧Ow lb (.slice va an vc) w v8 w8))):=
  zH (hadd.mono fun e w7 hq=>by
   obtain⟨v7,he,hN7,hb7,ho7,hq7⟩:=hq;obtain⟨a',c',hv7⟩:=hN7.len;subst hv7;have hlo:∀b,w.heap.size≤b→(Value.slice va an vc).ownBlock≠some b:=fun b hb e=>by obtain⟨L,S,hL,-⟩:=HN.out.own;have:=hL.blt e;omega
   have hP7:Blk w7 w.heap.size 157 (ig m d lb):=(ho7 _ HTD.out.bp.lt (hlo _ (Px _))).trans HTD.out.bp;have hX7:Blk w7 (w.heap.size+1) 58 _:=(ho7 _ HTD.out.bx.lt (hlo _ (Rl _))).trans HTD.out.bx;have hY7:Blk w7 gy 58 _:=(ho7 _ HTD.out.gz (hlo _ (by omega))).trans HTD.out.by';have hB7:Blk w7 lb 3 [.int .i64 (left:Int)]:=(ho7 lb HBD.out.lt (hN6.own_ge HBA.out)).trans HBD.out;have hF7:PF lb base w w7:=(PF.exc HTD.out.exc).trans (Ev.pf (lb:=lb) hN6 hb7 ho7);have hO7:Ow lb (.slice va an vc) w (.slice a' R1.length c') w7:=(Ow.exc HTD.out.exc).trans (fun b h1 _ h3=>⟨ho7 b h1 h3,hq7 b h1 h3⟩) HTD.out.exc.size;have hbw7:Below w0.heap.size w0 w7:=(HBL.out _ (Exc.refl _ _)).trans (hF7.below (HBL.out _ (Exc.refl _ _)).size HLB.out HBA.out);have hput:=HPX.out (.slice k1 k2 k3) (.slice a' R1.length c') R1 base m d left w7 HK.out hbw7 HBA.out hN7 hB7 (by omega) hl2 (by omega) (by omega);rw[←hR1,IY HKA.out HIN.out HMK.out acc HFU.out HFE.out,HR.out,HKL.out]at hput;rw[hR1]at hput;refine⟨a',R1.length,c',he,zH ⟨hP7.cell 0,hP7.cell 1,hP7.cell 2,hX7.cell 4,hY7.cell 0,hY7.cell 1,hY7.cell 2,hY7.cell 3,hY7.cell 4,hY7.cell 5,hY7.cell 6,hY7.cell 7,hY7.cell 8,hY7.cell 9⟩,zH (hput.mono fun e w8 hq=>?_)⟩;obtain⟨v8,he8,hN8,hB8,hF8,hO8⟩:=hq;have hlb':=HTD.out.lb';have hP8:Blk w8 w.heap.size 157 (ig m d lb):=(hO8 _ hP7.lt (by omega) (hq7 _ HTD.out.bp.lt (hlo _ (Px _)))).1.trans hP7;have hX8:Blk w8 (w.heap.size+1) 58 _:=(hO8 _ hX7.lt (by omega) (hq7 _ HTD.out.bx.lt (hlo _ (Rl _)))).1.trans hX7;have hY8:Blk w8 gy 58 _:=(hO8 _ hY7.lt (by omega) (hq7 _ HTD.out.gz (hlo _ (by omega)))).1.trans hY7;exact⟨v8,he8,zH ⟨hP8.cell 0,hP8.cell 1,hP8.cell 2,hX8.cell 4,hY8.cell 0,hY8.cell 1,hY8.cell 2,hY8.cell 3,hY8.cell 4,hY8.cell 5,hY8.cell 6,hY8.cell 7,hY8.cell 8,hY8.cell 9⟩,zH ⟨hN8,hB8,hF7.trans hF8,hO7.trans hO8 hF7.size⟩⟩)
 have HSD:Hid (W6.drew.cell? ⟨w.heap.size,0,none⟩=some (.int .i64 m)∧W6.drew.cell? ⟨w.heap.size,1,none⟩=some (.int .i64 (d:Int))∧W6.drew.cell? ⟨w.heap.size,2,none⟩=some (.func (.func 98) #[] #[.pointer (some ⟨lb,0,none⟩)])∧W6.drew.cell? ⟨w.heap.size+1,4,none⟩=some (.slice k1 k2 k3)∧W6.drew.cell? ⟨gy,0,none⟩=some (.int .i64 3)∧W6.drew.cell? ⟨gy,1,none⟩=some (.int .i64 yl)∧W6.drew.cell? ⟨gy,2,none⟩=some (.int .i64 yn)∧W6.drew.cell? ⟨gy,3,none⟩=some (.slice y1 y2 y3)∧W6.drew.cell? ⟨gy,4,none⟩=some (.slice none 0 0)∧W6.drew.cell? ⟨gy,5,none⟩=some (.slice z1 z2 z3)∧W6.drew.cell? ⟨gy,6,none⟩=some (.string ⟨yo.toArray⟩)∧W6.drew.cell? ⟨gy,7,none⟩=some (.slice u1 u2 u3)∧W6.drew.cell? ⟨gy,8,none⟩=some (.bool yb)∧W6.drew.cell? ⟨gy,9,none⟩=some (.bool ya)):=zH ⟨HTD.out.bp.cell 0,HTD.out.bp.cell 1,HTD.out.bp.cell 2,HTD.out.bx.cell 4,HTD.out.by'.cell 0,HTD.out.by'.cell 1,HTD.out.by'.cell 2,HTD.out.by'.cell 3,HTD.out.by'.cell 4,HTD.out.by'.cell 5,HTD.out.by'.cell 6,HTD.out.by'.cell 7,HTD.out.by'.cell 8,HTD.out.by'.cell 9⟩;subst hW6;clear hadd hN6 hg1 hg2 hR1l hR1;go_wp2_with fail
 try clear HPX
 try clear HK
 try clear HSI
 try clear HLB
 try clear HBL
 try clear HR
 try clear HKL
 try clear HED
 try clear HHK
 try clear HAN
 try clear HN
 try clear HB
 try clear HB3
 try clear HB3'
 try clear HT3
 try clear HT5
 try clear HB5
 try clear HKD
 try clear HMK
 try clear HKA
 try clear HIN
 try clear HFU
 try clear HFE
 try clear HFB
 try clear HTD
 try clear HBD
 try clear HT6
 try clear HBA
 try clear HGY
 try clear HW3
 try clear HB1
 try clear w1d
 try clear f0
 try clear g0
 try clear hc
 try clear hl2
 try clear hd
 try clear ha
 try clear hl
 go_region_held3 (fun W'=>W'.cell? ⟨w.heap.size,0,none⟩=some (.int .i64 m)∧W'.cell? ⟨w.heap.size,1,none⟩=some (.int .i64 (d:Int))∧W'.cell? ⟨w.heap.size,2,none⟩=some (.func (.func 98) #[] #[.pointer (some ⟨lb,0,none⟩)])∧W'.cell? ⟨w.heap.size+1,4,none⟩=some (.slice k1 k2 k3)∧W'.cell? ⟨gy,0,none⟩=some (.int .i64 3)∧W'.cell? ⟨gy,1,none⟩=some (.int .i64 yl)∧W'.cell? ⟨gy,2,none⟩=some (.int .i64 yn)∧W'.cell? ⟨gy,3,none⟩=some (.slice y1 y2 y3)∧W'.cell? ⟨gy,4,none⟩=some (.slice none 0 0)∧W'.cell? ⟨gy,5,none⟩=some (.slice z1 z2 z3)∧W'.cell? ⟨gy,6,none⟩=some (.string ⟨yo.toArray⟩)∧W'.cell? ⟨gy,7,none⟩=some (.slice u1 u2 u3)∧W'.cell? ⟨gy,8,none⟩=some (.bool yb)∧W'.cell? ⟨gy,9,none⟩=some (.bool ya)) (first | exact HSD.out | exact HS7.out | exact HS8.out) ((first | (go_at_call 172;(with_reducible refine HADD.out.mono ?_);rintro e w7 ⟨a7,n7,m7,rfl,HS7,HQ⟩)| (go_at_call 99;(with_reducible refine HQ.out.mono ?_);rintro e w8 ⟨v8,rfl,HS8,HFIN⟩)))
 all_goals
  go_wp2_with fail
  go_ret;exact⟨_,rfl,HFIN.out.1,HFIN.out.2.1,HFIN.out.2.2.1,HFIN.out.2.2.2⟩):P:=h
theorem QUr {P:Prop}(h:P:=by
 have hadd:=lZ base (.slice va an vc) acc ⟨yk,yl,yn,(y1,y2,y3),(ca,cn,cc),(z1,z2,z3),yo,(u1,u2,u3),yb,ya⟩ (bN h yk) kl (fun b=>w.heap.size+1<b∧b<W7.heap.size) W7 (HN.out.exc HBA.out HT7.out.exc) (fun b q=>⟨by have:=HN.out.sz;omega,q.2,fun e=>by obtain⟨L,S,hL,-⟩:=HN.out.own;have:=hL.blt e;omega⟩) (HT7.out.hd.mono (fun b q=>⟨q.1,by omega⟩)) (hNK.mono (fun b q=>by rcases q with q | q;exact q.elim;exact⟨by omega,by omega⟩)) (by have:=HAN.out;omega);rw[←hkl,Ni HKA.out HIN.out acc,HR.out]at hadd;simp only[af,pv]at hadd;have HADD:=zH hadd;have HB7:Hid (Blk W7 lb 3 [.int .i64 (KL:Int)]):=zH (by rw[hW7];exact hB6.other (by have:=HT7.out.lb';omega) _ _);have j0:W7.cell? ⟨gy,0,none⟩=some (.int .i64 yk):=HT7.out.by'.cell 0;have j1:W7.cell? ⟨gy,1,none⟩=some (.int .i64 yl):=HT7.out.by'.cell 1;have j2:W7.cell? ⟨gy,2,none⟩=some (.int .i64 yn):=HT7.out.by'.cell 2;have j3:W7.cell? ⟨gy,3,none⟩=some (.slice y1 y2 y3):=HT7.out.by'.cell 3;have j4:W7.cell? ⟨gy,4,none⟩=some (.slice ca cn cc):=HT7.out.by'.cell 4;have j5:W7.cell? ⟨gy,5,none⟩=some (.slice z1 z2 z3):=HT7.out.by'.cell 5;have j6:W7.cell? ⟨gy,6,none⟩=some (.string ⟨yo.toArray⟩):=HT7.out.by'.cell 6;have j7:W7.cell? ⟨gy,7,none⟩=some (.slice u1 u2 u3):=HT7.out.by'.cell 7;have j8:W7.cell? ⟨gy,8,none⟩=some (.bool yb):=HT7.out.by'.cell 8;have j9:W7.cell? ⟨gy,9,none⟩=some (.bool ya):=HT7.out.by'.cell 9;subst hW7;clear hadd hNK hN6 hB6 hF6 hE6 hkl hcn hg1 hg2 hg3 hg4 hsz7 HPUT HT6;go_wp2_with fail
 refine HADD.out.mono ?_;rintro e w8 ⟨v8,rfl,hN8,hb8,ho8,hq8⟩;have HN7:=zH (HN.out.exc HBA.out HT7.out.exc);have HFIN:=zH (And.intro hN8 (And.intro (show Blk w8 lb 3 [.int .i64 (KL:Int)] from(ho8 lb HB7.out.lt (HN7.out.own_ge HBA.out)).trans HB7.out) (And.intro ((PF.exc HT7.out.exc).trans (Ev.pf (lb:=lb) HN7.out hb8 ho8)) ((Ow.exc (v:= .slice va an vc) HT7.out.exc).trans (fun b h1 _ h3=>⟨ho8 b h1 h3,hq8 b h1 h3⟩) HT7.out.exc.size))));clear hN8 hb8 ho8 hq8 HADD;go_wp2_with fail
 go_ret;exact⟨_,rfl,HFIN.out.1,HFIN.out.2.1,HFIN.out.2.2.1,HFIN.out.2.2.2⟩):P:=h
theorem Jp (SI:Nat→Prop)(w0:World)(lb:Nat)(hlb:w0.heap.size≤lb)(hSI:∀b,SI b→b<w0.heap.size)(hU:U8 w0)(x:NV)(h:Hd)(ks:List Nd)(hh:df SI w0 x h)(hK:NsS SI w0 (pv x.kids) ks)(hl:hdl h≤90000)(HPO:Lg w0 lb SI ks)
  (v:Value) (acc:List Nd) (base:Nat) (m:Int) (d left:Nat) (w:World) (hbw:Below w0.heap.size w0 w) (hbase:lb<base) (hN:dN FS base w v acc) (hB:Blk w lb 3 [.int .i64 (left:Int)]) (hc:aP ks≤left) (hl2:left≤20000) (hd:d<20) (ha:acc.length+1+aP ks≤40000):
  Calls Tryz.prog 135 #[.agg (ig m d lb).toArray,v,.agg (af x).toArray] w (Iz lb base v (acc++tfN (.mk h ks) m d) (left-aP ks) w):=by
 obtain⟨W1,hW1⟩:∃W,W=(w.alloc (.cells (ig m d lb).toArray 157)).alloc (.cells (af x).toArray 58):=⟨_,rfl⟩;obtain⟨b1,hP1,hX1⟩:=sP w _ _ W1 hW1;have hz1:W1.heap.size=w.heap.size+1+1:=by rw[hW1,PS,PS]
 have hb01:=hbw.trans (b1.mono hbw.size);have HMD:=zH (Ap SI x h W1 (hU.below hb01) (hh.keep (Kp.below hb01 hSI)) hl (fun b hb=>PH (hSI b hb) hb01.size));have HST:Hid (∀w2 (y:NV),Below W1.heap.size W1 w2→df (fun b=>W1.heap.size≤b∧b<w2.heap.size) w2 y (bN h h.kind)→
   TO lb w m d x w2.heap.size y (bN h h.kind) (w2.alloc (.cells (af y).toArray 58))):=zH (fun w2 y hb hy=>by
  have b3:=ae w2 (.cells (af y).toArray 58);refine⟨(Exc.of b1).then ((Exc.of hb).then (Exc.of b3)),(hP1.below hb).below b3,(hX1.below hb).below b3,PK w2 _,(hy.mono (fun b q=>⟨by omega,q.2⟩)).keep (fun b q=>b3.block b q.2),by have:=hb.size;omega,hB.lt⟩)
 have HB1:=zH b1;have HBL:=zH (fun W (hE:Exc (· =lb) w W)=>(hbw.trans (hE.below hbw.size (fun b hb e=>by omega)):Below w0.heap.size w0 W));obtain⟨R,hR⟩:∃R,acc++tfN (.mk h ks) m d=R:=⟨_,rfl⟩;obtain⟨KL,hKL⟩:∃K,left-aP ks=K:=⟨_,rfl⟩;rw[hR,hKL];have HR:=zH hR;have HKL:=zH hKL;have HPX:=zH HPO;have HK:=zH hK;have HN:=zH hN;have HB:=zH hB;have HW1:=zH hW1;have HSI:=zH hSI;have HLB:=zH hlb;have HBA:=zH hbase;have HHK:=zH (hh.kind:x.kind=h.kind);have w1d:IntKind.i64.wrap ((d:Int)+1)=(d:Int)+1:=IntWalk.i64_in _ (by omega);have ed1:((d+1:Nat):Int)=(d:Int)+1:=by omega
 have HED:=zH ed1;obtain⟨va,vc,rfl⟩:=hN.len;obtain⟨an,han⟩:∃n,acc.length=n:=⟨_,rfl⟩;rw[han]at HN ha⊢;have HAN:=zH han;obtain⟨xk,xl,xn,⟨t1,t2,t3⟩,⟨k1,k2,k3⟩,⟨r1,r2,r3⟩,xc,⟨q1,q2,q3⟩,xb,xa⟩:=x;unfold Iz;simp only[af,pv,ig,cntF]at HMD HW1⊢;clear hh hK hN hB hW1 hSI hlb hbase hR hKL HPO b1 hP1 hX1 hb01 hbw hU hz1 ed1 han;go_enter Tryz.func135,Tryz.ntmps135
 go_wp2_with fail
 rw[←HW1.out];refine HMD.out.mono ?_;rintro e w2 ⟨⟨yk,yl,yn,⟨y1,y2,y3⟩,⟨c1,c2,c3⟩,⟨z1,z2,z3⟩,yo,⟨u1,u2,u3⟩,yb,ya⟩,rfl,hky,hhy,b2⟩;simp only at hky;injection hky with e1 e2
 injection e2 with e2 e3
 subst e1 e2 e3;have hyk:yk=xk:=by have h1:=hhy.kind;have h2:=HHK.out;exact h1.trans h2.symm
 subst hyk;simp only[af,pv];obtain⟨W3,hW3⟩:∃W,W=w2.alloc (.cells (af ⟨yk,yl,yn,(y1,y2,y3),aj,(z1,z2,z3),yo,(u1,u2,u3),yb,ya⟩).toArray 58):=⟨_,rfl⟩;have HT3:Hid (TO lb w m d ⟨yk,xl,xn,(t1,t2,t3),(k1,k2,k3),(r1,r2,r3),xc,(q1,q2,q3),xb,xa⟩ w2.heap.size ⟨yk,yl,yn,(y1,y2,y3),aj,(z1,z2,z3),yo,(u1,u2,u3),yb,ya⟩ (bN h h.kind) W3):=zH (by rw[hW3];exact HST.out w2 _ b2 hhy);have p0:W3.cell? ⟨w.heap.size,0,none⟩=some (.int .i64 m):=HT3.out.bp.cell 0;have p1:W3.cell? ⟨w.heap.size,1,none⟩=some (.int .i64 (d:Int)):=HT3.out.bp.cell 1;have p2:W3.cell? ⟨w.heap.size,2,none⟩=some (cntF lb):=HT3.out.bp.cell 2;have x0:W3.cell? ⟨w.heap.size+1,0,none⟩=some (.int .i64 yk):=HT3.out.bx.cell 0;have x4:W3.cell? ⟨w.heap.size+1,4,none⟩=some (.slice k1 k2 k3):=HT3.out.bx.cell 4;obtain⟨gy,hgy⟩:∃g,w2.heap.size=g:=⟨_,rfl⟩;rw[hgy]at HT3;have HGY:=zH hgy;simp only[cntF]at p2;simp only[af,pv]at hW3;have HW3:=zH hW3;have E0:=p0;have E1:=p1;have E2:=p2;have X0:=x0;have X4:=x4;rw[hW3]at E0 E1 E2 X0 X4;have HB3':Hid (Blk W3 lb 3 [.int .i64 (left:Int)]):=zH (by rw[hW3];exact((HB.out.below HB1.out).below b2).below (ae _ _));clear hW3 hhy b2 hgy HST HMD;have HB3:Hid (Blk W3 lb 3 [.int .i64 (left:Int)]):=zH HB3'.out
 by_cases h12:yk=1∨yk=2
 ·have HK2:=zH h12
  have hnb:(yk==1)=true∨((yk==1)=false∧(yk==2)=true):=by rcases h12 with rfl | rfl<;>simp
  clear h12;rcases hnb with n1 | ⟨n1,n2⟩
  all_goals
   have HKD:Hid (h.kind=yk):=zH HHK.out.symm;rw[HKD.out]at HT3;have HMK:Hid (mf h.kind=true):=zH (by rw[HKD.out];rcases HK2.out with e | e<;>rw[e]<;>rfl);have hst0:=Al m yk W3;rw[CP HK2.out]at hst0
   by_cases hst:stands yk m=true
   ·rw[hst]at hst0
    have HST:=zH hst0;have HKA:Hid (aN h.kind m=yk):=zH (by rw[HKD.out];exact kt1 HK2.out hst);have j0:W3.cell? ⟨gy,0,none⟩=some (.int .i64 yk):=HT3.out.by'.cell 0;have j1:W3.cell? ⟨gy,1,none⟩=some (.int .i64 yl):=HT3.out.by'.cell 1;have j2:W3.cell? ⟨gy,2,none⟩=some (.int .i64 yn):=HT3.out.by'.cell 2;have j3:W3.cell? ⟨gy,3,none⟩=some (.slice y1 y2 y3):=HT3.out.by'.cell 3;have j4:W3.cell? ⟨gy,4,none⟩=some (.slice none 0 0):=HT3.out.by'.cell 4;have j5:W3.cell? ⟨gy,5,none⟩=some (.slice z1 z2 z3):=HT3.out.by'.cell 5;have j6:W3.cell? ⟨gy,6,none⟩=some (.string ⟨yo.toArray⟩):=HT3.out.by'.cell 6;have j7:W3.cell? ⟨gy,7,none⟩=some (.slice u1 u2 u3):=HT3.out.by'.cell 7;have j8:W3.cell? ⟨gy,8,none⟩=some (.bool yb):=HT3.out.by'.cell 8;have j9:W3.cell? ⟨gy,9,none⟩=some (.bool ya):=HT3.out.by'.cell 9;have hLK:=uA ⟨yk,yl,yn,(y1,y2,y3),aj,(z1,z2,z3),yo,(u1,u2,u3),yb,ya⟩ W3;rw[full_of HT3.out.hd]at hLK;simp only at hLK;rw[show decide (0<0)=false from rfl]at hLK;obtain⟨fb,hfb⟩:∃b,bY (bN h yk) false=b:=⟨_,rfl⟩;rw[hfb]at hLK;simp only[af,pv]at hLK;have HLK:=zH hLK;have HFB:=zH hfb;clear hst0 hst hLK hfb;go_wp2_with fail
    rw[HGY.out,←HW3.out];refine HST.out.mono ?_;rintro e w4 ⟨rfl,rfl⟩;clear HST E0 E1 E2 X0 X4;go_wp2_with fail
    refine HLK.out.mono ?_;rintro e w5 ⟨rfl,b5⟩;have HT5:=zH (HT3.out.keep b5);have HB5:=zH (HB3.out.below b5);clear b5 HLK p0 p1 p2 x0 x4 j0 j1 j2 j3 j4 j5 j6 j7 j8 j9;have p0:w5.cell? ⟨w.heap.size,0,none⟩=some (.int .i64 m):=HT5.out.bp.cell 0;have p1:w5.cell? ⟨w.heap.size,1,none⟩=some (.int .i64 (d:Int)):=HT5.out.bp.cell 1;have p2:w5.cell? ⟨w.heap.size,2,none⟩=some (cntF lb):=HT5.out.bp.cell 2;have x0:w5.cell? ⟨w.heap.size+1,0,none⟩=some (.int .i64 yk):=HT5.out.bx.cell 0;have x4:w5.cell? ⟨w.heap.size+1,4,none⟩=some (.slice k1 k2 k3):=HT5.out.bx.cell 4;simp only[cntF]at p2
    cases fb
    ·have HIN:Hid (eH h m=false):=zH (by unfold eH;rw[HKA.out,HFB.out,HKD.out];rcases HK2.out with e | e<;>subst e<;>simp)
     have HFU:Hid (bY (bN h 3) false=bY (bN h yk) false):=zH (DT HK2.out);have HFE:Hid (bY (bN h 3) false=true→(3:Int)=yk):=zH (fun q=>by rw[HFU.out,HFB.out]at q;cases q);clear p0 p1 p2 x0 x4;obtain⟨W6,hW6⟩:∃W,W=w5.setCell ⟨gy,0,none⟩ (.int .i64 3):=⟨_,rfl⟩;have f0:w5.frozen? ⟨gy,0,none⟩=false:=HT5.out.by'.frozen (by simp[af]);have g0:w5.cell? ⟨gy,0,none⟩=some (.int .i64 yk):=HT5.out.by'.cell 0;have HT6:Hid (TO lb w m d ⟨yk,xl,xn,(t1,t2,t3),(k1,k2,k3),(r1,r2,r3),xc,(q1,q2,q3),xb,xa⟩ gy ⟨3,yl,yn,(y1,y2,y3),aj,(z1,z2,z3),yo,(u1,u2,u3),yb,ya⟩ (bN h 3) W6):=zH (by rw[hW6];exact HT5.out.set 0 _ rfl (fun W q=>OJ HK2.out q));have HTD:=zH (HT6.out.keep (PG W6.heap.size W6).drew);have HBD:Hid (Blk W6.drew lb 3 [.int .i64 (left:Int)]):=zH (by rw[hW6];exact(HB5.out.other (by have:=HT5.out.lt;have:=HT5.out.lb';omega) _ _));exact QUq
    ·have HIN:Hid (eH h m=true):=zH (by unfold eH;rw[HKA.out,HFB.out,HKD.out];rcases HK2.out with e | e<;>subst e<;>rfl)
     have hput:=HPX.out (.slice k1 k2 k3) (.slice none 0 0) [] w5.heap.size yk (d+1) left w5 HK.out (HBL.out _ HT5.out.exc) (by have:=HT5.out.lb';have:=HT5.out.exc.size;omega) (dN.nil (fun b q=>q.elim) (Px _)) HB5.out (by omega) hl2 (by omega) (by simp;omega);rw[Qt,HKL.out]at hput;simp only[ig,cntF,HED.out]at hput;have HPUT:=zH hput;clear hput;go_wp2_with fail
     refine HPUT.out.mono ?_;rintro e w6 ⟨v6,rfl,hN6,hB6,hF6,-⟩;obtain⟨ca,cc,hv6⟩:=hN6.len;obtain⟨kl,hkl⟩:∃l,tfL ks yk (d+1)=l:=⟨_,rfl⟩;rw[hkl]at hN6 hv6;subst hv6;obtain⟨cn,hcn⟩:∃n,kl.length=n:=⟨_,rfl⟩;rw[hcn]at hN6⊢;have hE6:Exc (· =lb) w5 w6:=⟨hF6.os,hF6.tape,hF6.output,hF6.size,fun b h1 h2=>hF6.low b h1 h2 h1⟩;have HT6:=zH (HT5.out.exc' hE6);have f4:w6.frozen? ⟨gy,4,none⟩=false:=HT6.out.by'.frozen (by simp[af]);have g4:w6.cell? ⟨gy,4,none⟩=some (.slice none 0 0):=HT6.out.by'.cell 4;obtain⟨W7,hW7⟩:∃W,W=w6.setCell ⟨gy,4,none⟩ (.slice ca cn cc):=⟨_,rfl⟩;have HT7:Hid (TO lb w m d ⟨yk,xl,xn,(t1,t2,t3),(k1,k2,k3),(r1,r2,r3),xc,(q1,q2,q3),xb,xa⟩ gy ⟨yk,yl,yn,(y1,y2,y3),(ca,cn,cc),(z1,z2,z3),yo,(u1,u2,u3),yb,ya⟩ (bN h yk) W7):=zH (by rw[hW7];exact HT6.out.set 4 _ rfl (fun W q=>⟨q.kind,q.line,q.n,q.text,q.rows,q.cols,q.trows,q.box,q.all⟩));have hNK:=hN6.nss.keep (w':=W7) (fun b q=>by rw[hW7,PN _ _ _ _ (show b≠gy by have:=HT5.out.gz;rcases q with q | q;exact q.elim;omega)]);have hsz7:W7.heap.size=w6.heap.size:=by rw[hW7,gH]
     have hg1:=HT7.out.lt;have hg2:=HT7.out.gz;have hg3:=HT5.out.gz;have hg4:=HT5.out.exc.size;exact QUr
   ·have hst':stands yk m=false:=by simpa using hst
    rw[hst']at hst0;have HST:=zH hst0;have HKA:Hid (aN h.kind m=3):=zH (by rw[HKD.out];exact kt3 HK2.out hst');have HIN:Hid (eH h m=false):=zH (by unfold eH;rw[HKA.out,HKD.out];rcases HK2.out with e | e<;>subst e<;>simp);clear hst0 hst hst';go_wp2_with fail
    rw[HGY.out,←HW3.out];refine HST.out.mono ?_;rintro e w4 ⟨rfl,rfl⟩;clear HST E0 E1 E2 X0 X4 p0 p1 p2 x0 x4;have HFU:Hid (bY (bN h 3) false=bY (bN h 3) false):=zH rfl;have HFE:Hid (bY (bN h 3) false=true→(3:Int)=3):=zH (fun _=>rfl);obtain⟨W6,hW6⟩:∃W,W=W3.setCell ⟨gy,0,none⟩ (.int .i64 3):=⟨_,rfl⟩;have f0:W3.frozen? ⟨gy,0,none⟩=false:=HT3.out.by'.frozen (by simp[af]);have g0:W3.cell? ⟨gy,0,none⟩=some (.int .i64 yk):=HT3.out.by'.cell 0;have HT6:Hid (TO lb w m d ⟨yk,xl,xn,(t1,t2,t3),(k1,k2,k3),(r1,r2,r3),xc,(q1,q2,q3),xb,xa⟩ gy ⟨3,yl,yn,(y1,y2,y3),aj,(z1,z2,z3),yo,(u1,u2,u3),yb,ya⟩ (bN h 3) W6):=zH (by rw[hW6];exact HT3.out.set 0 _ rfl (fun W q=>OJ HK2.out q));have HTD:=zH (HT6.out.keep (PG W6.heap.size W6).drew);have HBD:Hid (Blk W6.drew lb 3 [.int .i64 (left:Int)]):=zH (by rw[hW6];exact(HB3.out.other (by have:=HT3.out.lt;have:=HT3.out.lb';omega) _ _));exact QUq
 have h1:¬yk=1:=fun e=>h12 (.inl e)
 have h2:¬yk=2:=fun e=>h12 (.inr e)
 clear h12
 by_cases h45:yk=4∨yk=5
 ·have HK2:=zH h45
  clear h1 h2;have hnb:((yk==1)=false∧(yk==2)=false∧(yk==4)=true)∨((yk==1)=false∧(yk==2)=false∧(yk==4)=false∧(yk==5)=true):=by rcases h45 with rfl | rfl<;>simp
  clear h45;rcases hnb with⟨n1,n2,n4⟩| ⟨n1,n2,n4,n5⟩
  all_goals
   have HKD:Hid (h.kind=yk):=zH HHK.out.symm;rw[HKD.out]at HT3;have HMK:Hid (mf h.kind=true):=zH (by rw[HKD.out];rcases HK2.out with e | e<;>rw[e]<;>rfl);have HKA:Hid (aN h.kind m=yk):=zH (by rw[HKD.out];rcases HK2.out with e | e<;>subst e<;>exact kt0 (by decide) (by decide));have HIN:Hid (eH h m=true):=zH (by unfold eH;rw[HKA.out,HKD.out];rcases HK2.out with e | e<;>subst e<;>first | rfl | (rw[DU (by rfl) _];rfl));have hput:=HPX.out (.slice k1 k2 k3) (.slice none 0 0) [] W3.heap.size yk (d+1) left W3 HK.out (HBL.out _ HT3.out.exc) (by have:=HT3.out.lb';have:=HT3.out.exc.size;omega) (dN.nil (fun b q=>q.elim) (Px _)) HB3.out (by omega) hl2 (by omega) (by simp;omega);rw[Qt,HKL.out]at hput;simp only[ig,cntF,HED.out]at hput;have HPUT:=zH hput;clear hput;clear p0 p1 p2 x0 x4;go_wp2_with fail
   rw[HGY.out,←HW3.out];clear E0 E1 E2 X0 X4;refine HPUT.out.mono ?_;rintro e w6 ⟨v6,rfl,hN6,hB6,hF6,-⟩;obtain⟨ca,cc,hv6⟩:=hN6.len;obtain⟨kl,hkl⟩:∃l,tfL ks yk (d+1)=l:=⟨_,rfl⟩;rw[hkl]at hN6 hv6;subst hv6;obtain⟨cn,hcn⟩:∃n,kl.length=n:=⟨_,rfl⟩;rw[hcn]at hN6⊢;have hE6:Exc (· =lb) W3 w6:=⟨hF6.os,hF6.tape,hF6.output,hF6.size,fun b h1 h2=>hF6.low b h1 h2 h1⟩;have HT6:=zH (HT3.out.exc' hE6);have f4:w6.frozen? ⟨gy,4,none⟩=false:=HT6.out.by'.frozen (by simp[af]);have g4:w6.cell? ⟨gy,4,none⟩=some (.slice none 0 0):=HT6.out.by'.cell 4;obtain⟨W7,hW7⟩:∃W,W=w6.setCell ⟨gy,4,none⟩ (.slice ca cn cc):=⟨_,rfl⟩;have HT7:Hid (TO lb w m d ⟨yk,xl,xn,(t1,t2,t3),(k1,k2,k3),(r1,r2,r3),xc,(q1,q2,q3),xb,xa⟩ gy ⟨yk,yl,yn,(y1,y2,y3),(ca,cn,cc),(z1,z2,z3),yo,(u1,u2,u3),yb,ya⟩ (bN h yk) W7):=zH (by rw[hW7];exact HT6.out.set 4 _ rfl (fun W q=>⟨q.kind,q.line,q.n,q.text,q.rows,q.cols,q.trows,q.box,q.all⟩));have hNK:=hN6.nss.keep (w':=W7) (fun b q=>by rw[hW7,PN _ _ _ _ (show b≠gy by have:=HT3.out.gz;rcases q with q | q;exact q.elim;omega)]);have hsz7:W7.heap.size=w6.heap.size:=by rw[hW7,gH]
   have hg1:=HT7.out.lt;have hg2:=HT7.out.gz;have hg3:=HT3.out.gz;have hg4:=HT3.out.exc.size;exact QUr
 have h4:¬yk=4:=fun e=>h45 (.inl e)
 have h5:¬yk=5:=fun e=>h45 (.inr e)
 clear h45;have n1:(yk==1)=false:=by simpa using h1
 have n2:(yk==2)=false:=by simpa using h2
 have n4:(yk==4)=false:=by simpa using h4
 have n5:(yk==5)=false:=by simpa using h5
 have HKD:Hid (h.kind=yk):=zH HHK.out.symm;rw[HKD.out]at HT3;have HMK:Hid (mf h.kind=false):=zH (by rw[HKD.out];unfold mf;rw[n1,n2,n4,n5];rfl);have HKA:Hid (aN h.kind m=yk):=zH (by rw[HKD.out];exact kt0 h1 h2);have hlv:=uz SI w0 lb HLB.out HSI.out m d (aP ks) ks rfl left (.slice k1 k2 k3) W3 hc hl2 HK.out (HBL.out _ HT3.out.exc) HB3.out;rw[HKL.out]at hlv;simp only[ig,cntF]at hlv;have HLV:=zH hlv;clear hlv h1 h2 h4 h5 p0 p1 p2 x0 x4;go_wp2_with fail
 rw[HGY.out,←HW3.out];clear E0 E1 E2 X0 X4;refine HLV.out.mono ?_;rintro e w4 ⟨rfl,hB4,hE4⟩;have HT4:=zH (HT3.out.exc' hE4);have HB4:=zH hB4;have hg1:=HT4.out.lt;have hg2:=HT4.out.gz;have hadd:=lZ base (.slice va an vc) acc ⟨yk,yl,yn,(y1,y2,y3),aj,(z1,z2,z3),yo,(u1,u2,u3),yb,ya⟩ (bN h yk) [] (fun b=>w.heap.size+1<b∧b<w4.heap.size) w4 (HN.out.exc HBA.out HT4.out.exc) (fun b q=>⟨by have:=HN.out.sz;omega,q.2,fun e=>by obtain⟨L,S,hL,-⟩:=HN.out.own;have:=hL.blt e;omega⟩) (HT4.out.hd.mono (fun b q=>⟨q.1,by omega⟩)) (NsS.nil _ _) (by have:=HAN.out;omega);rw[OH (ks:=ks) (m:=m) (d:=d) HKA.out HMK.out acc,HR.out]at hadd;simp only[af,pv]at hadd;have HADD:=zH hadd;have j0:w4.cell? ⟨gy,0,none⟩=some (.int .i64 yk):=HT4.out.by'.cell 0;have j1:w4.cell? ⟨gy,1,none⟩=some (.int .i64 yl):=HT4.out.by'.cell 1;have j2:w4.cell? ⟨gy,2,none⟩=some (.int .i64 yn):=HT4.out.by'.cell 2;have j3:w4.cell? ⟨gy,3,none⟩=some (.slice y1 y2 y3):=HT4.out.by'.cell 3;have j4:w4.cell? ⟨gy,4,none⟩=some (.slice none 0 0):=HT4.out.by'.cell 4;have j5:w4.cell? ⟨gy,5,none⟩=some (.slice z1 z2 z3):=HT4.out.by'.cell 5;have j6:w4.cell? ⟨gy,6,none⟩=some (.string ⟨yo.toArray⟩):=HT4.out.by'.cell 6;have j7:w4.cell? ⟨gy,7,none⟩=some (.slice u1 u2 u3):=HT4.out.by'.cell 7;have j8:w4.cell? ⟨gy,8,none⟩=some (.bool yb):=HT4.out.by'.cell 8;have j9:w4.cell? ⟨gy,9,none⟩=some (.bool ya):=HT4.out.by'.cell 9;clear hadd hg1 hg2 hB4 hE4 HLV;go_wp2_with fail
 refine HADD.out.mono ?_;rintro e w8 ⟨v8,rfl,hN8,hb8,ho8,hq8⟩;have HN7:=zH (HN.out.exc HBA.out HT4.out.exc);have HFIN:=zH (And.intro hN8 (And.intro (show Blk w8 lb 3 [.int .i64 (KL:Int)] from(ho8 lb HB4.out.lt (HN7.out.own_ge HBA.out)).trans HB4.out) (And.intro ((PF.exc HT4.out.exc).trans (Ev.pf (lb:=lb) HN7.out hb8 ho8)) ((Ow.exc (v:= .slice va an vc) HT4.out.exc).trans (fun b h1 _ h3=>⟨ho8 b h1 h3,hq8 b h1 h3⟩) HT4.out.exc.size))));clear hN8 hb8 ho8 hq8 HADD;go_wp2_with fail
 go_ret;exact⟨_,rfl,HFIN.out.1,HFIN.out.2.1,HFIN.out.2.2.1,HFIN.out.2.2.2⟩
end Go.Proofs.YtebabjnngdjceaaGreatDoor
