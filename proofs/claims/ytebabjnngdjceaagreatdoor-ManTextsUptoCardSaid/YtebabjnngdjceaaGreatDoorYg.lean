/- A reader's block ends: what is its own in the midst of that. A reader's block ends: add. A reader's macros: ends; and its end. A reader's macros: the title. A reader's macros: headings. -/
import Derived.Test.YtebabjnngdjceaaGreatDoorYb
import Derived.Test.YtebabjnngdjceaaGreatDoorZ0
import Derived.StillTailTactics
import Derived.BigQuiet
import Derived.Laws.CopyRow
import Derived.Laws.IdiomCopy
set_option linter.unusedVariables false
set_option linter.unusedSimpArgs false
set_option maxRecDepth 100000
set_option maxHeartbeats 16000000
namespace Go.Proofs.YtebabjnngdjceaaGreatDoor
open Go.RowKit
structure MC0 (BI:BIT) (X R:Nat→Prop) (lo:Nat→Nat) (w:World) (B b:Nat) (th:Bool) (t:Bt) (D:List Dgn) (T:List Txt) (tv dv:Value):Prop where
 ll: ∀k,lo k≠0→k<w.heap.size
 lx: ∀k,X k→lo k=0
 lr: ∀k,R k→lo k=0
 bi:BI X R w b t
 lb:lo B=2
 box:Blk w B 79 (mnC b th (.pointer none) 0 0 eY tv dv)
 dg:aL 0 w dv D
 dgb: ∀k,dv.ownBlock=some k→lo k=3
 tx:jr 0 w tv T
 txb: ∀k,tv.ownBlock=some k→lo k=4
def MM0 (BI:BIT) (w0:World) (Y Q:Nat→Prop) (w:World) (B:Nat) (th:Bool) (t:Bt) (D:List Dgn) (T:List Txt):Prop:=
 Below w0.heap.size w0 w∧(∀k,Y k→w0.heap.size≤k)∧ ∃X R lo b tv dv,MC0 BI X R lo w B b th t D T tv dv∧(∀k,Y k↔X k∨lo k≠0)∧ ∀k,Q k→k<w.heap.size∧ ¬X k∧ ¬R k∧lo k=0
section
variable {BI:BIT} {TB:World→Prop} {X R:Nat→Prop} {lo:Nat→Nat} {w w' w0:World} {B b:Nat} {s:Md} {th:Bool} {t:Bt} {D:List Dgn} {T:List Txt} {tv dv:Value} {Y Q:Nat→Prop}
theorem MC0.lt (I:bI BI TB) (h:MC0 BI X R lo w B b th t D T tv dv): ∀k,X k∨R k∨lo k≠0→k<w.heap.size:=fun k q=>
 q.elim (fun q=>I.lt h.bi k (.inl q)) (fun q=>q.elim (fun q=>I.lt h.bi k (.inr q)) (h.ll k))
theorem MC0.keepK (I:bI BI TB) (h:MC0 BI X R lo w B b th t D T tv dv) (hX:Kp X w w') (hR:Kp R w w') (hL:Kp (fun k=>lo k≠0) w w') (hs:w.heap.size≤w'.heap.size):MC0 BI X R lo w' B b th t D T tv dv:=
 have kz: ∀z,z≠0→Kp (fun k=>lo k=z) w w':=fun z hz k e=>hL k (show lo k≠0 by rw[show lo k=z from e];exact hz)
 ⟨fun k q=>O0 (h.ll k q) hs,h.lx,h.lr,I.keep h.bi hX hR hs,h.lb,(hL B (show lo B≠0 by rw[h.lb];decide)).trans h.box,h.dg.kp (fun k e=>kz 3 (by decide) k (h.dgb k e)),h.dgb,h.tx.kp (fun k e=>kz 4 (by decide) k (h.txb k e)),h.txb⟩
theorem MC0.keep (I:bI BI TB) (h:MC0 BI X R lo w B b th t D T tv dv) (hb:Below w.heap.size w w'):MC0 BI X R lo w' B b th t D T tv dv:=
 h.keepK I (Kp.below hb (fun k q=>h.lt I k (.inl q))) (Kp.below hb (fun k q=>h.lt I k (.inr (.inl q)))) (Kp.below hb (fun k q=>h.lt I k (.inr (.inr q)))) hb.size
theorem MM0.keep (I:bI BI TB) (h:MM0 BI w0 Y Q w B th t D T) (hb:Below w.heap.size w w'):MM0 BI w0 Y Q w' B th t D T:=by
 obtain⟨h1,h2,X,R,lo,b,tv,dv,h3,h4,h5⟩:=h;exact⟨h1.trans (hb.mono h1.size),h2,X,R,lo,b,tv,dv,h3.keep I hb,h4,fun k q=>⟨O0 (h5 k q).1 hb.size,(h5 k q).2⟩⟩
theorem MM0.lt (I:bI BI TB) (h:MM0 BI w0 Y Q w B th t D T): ∀k,Y k→k<w.heap.size:=by
 obtain⟨h1,h2,X,R,lo,b,tv,dv,h3,h4,h5⟩:=h;intro k hk;rcases(h4 k).1 hk with q | q
 ·exact h3.lt I k (.inl q)
 ·exact h3.lt I k (.inr (.inr q))
theorem MM0.at (h:MM0 BI w0 Y Q w B th t D T): ∃b tv dv,B<w.heap.size∧Y B∧Blk w B 79 (mnC b th (.pointer none) 0 0 eY tv dv)∧Ss w tv T∧(∃a c,tv= .slice a T.length c)∧ ∃a c,dv= .slice a D.length c:=by
 obtain⟨h1,h2,X,R,lo,b,tv,dv,h3,h4,h5⟩:=h;exact⟨b,tv,dv,h3.box.lt,(h4 B).2 (.inr (by rw[h3.lb];decide)),h3.box,ag.sl dh h3.tx,(ag.sl dh h3.tx).len,(ag.sl ai h3.dg).len⟩
theorem MM0.dgs (I:bI BI TB) (h:MM0 BI w0 Y Q w B th t D T) {u:Value} {m:List Dgn} (hu:Ds w u m) (hl:D.length+m.length≤1000000):
  ∃dv dv' w2 Y',w.cell? ⟨B,14,none⟩=some dv∧(ic #[dv,u]).run Tryz.prog w= .ok (.value dv') w2∧w2.cell? ⟨B,14,none⟩=some dv∧w2.frozen? ⟨B,14,none⟩=false∧MM0 BI w0 Y' Q (w2.setCell ⟨B,14,none⟩ dv') B th t (D++m) T∧
   Exc Y w (w2.setCell ⟨B,14,none⟩ dv')∧(∀k,Y' k→Y k∨w.heap.size≤k)∧(∃a c,dv= .slice a D.length c)∧ ∃a c,dv'= .slice a (D++m).length c:=by
 obtain⟨h1,h2,X,R,lo,b,tv,dv,h3,h4,h5⟩:=h;obtain⟨dv',w2,hr,ho,hg,hown⟩:=gG h3.dg hu (Qr _) hl;have ho4: ∀k,dv'.ownBlock=some k→lo k=3∨w.heap.size≤k:=fun k e=>by
  rcases hown with q | q
  ·exact .inl (h3.dgb k (by rw[←q];exact e))
  ·rw[q]at e
   obtain rfl:=Ph e;exact .inr (OW _)
 have hE2:Exc (fun k=>dv.ownBlock=some k) w w2:=⟨hg.os,hg.tape,hg.output,hg.size,fun k hk hx=>hg.block k hk (fun e=>hx e.symm)⟩;have hB3: ¬dv.ownBlock=some B:=fun e=>by have:=h3.dgb B e;rw[h3.lb]at this;omega
 have box2:Blk w2 B 79 (mnC b th (.pointer none) 0 0 eY tv dv):=hE2.blk h3.box hB3;have hE3:Exc (fun k=>dv.ownBlock=some k∨k=B) w (w2.setCell ⟨B,14,none⟩ dv'):=(hE2.mono (fun k _ q=> .inl q)).set 14 _ (fun _=> .inr rfl);have hBs: ∀k,dv'.ownBlock=some k→k≠B:=fun k e q=>by
  subst q;rcases ho4 _ e with q | q
  ·rw[h3.lb]at q;omega
  ·have:=h3.ll k (by rw[h3.lb];decide);omega
 have hdF:aL 0 (w2.setCell ⟨B,14,none⟩ dv') dv' (D++m):=ho.kp (fun k e=>O8 _ ⟨B,14,none⟩ _ _ (hBs k e));have hbx:=box2.set 14 dv';have hne: ∀k,lo k≠3→lo k≠2→ ¬(dv.ownBlock=some k∨k=B):=fun k q1 q2 q=>q.elim (fun e=>q1 (h3.dgb k e)) (fun e=>q2 (by rw[e];exact h3.lb))
 have hFs:=hE3.size;have kp: ∀S:Nat→Prop,(∀k,S k→k<w.heap.size∧lo k≠3∧lo k≠2)→Kp S w (w2.setCell ⟨B,14,none⟩ dv'):=fun S hS k q=>hE3.block k (hS k q).1 (hne k (hS k q).2.1 (hS k q).2.2)
 have hltF: ∀k,jw lo 3 dv'.ownBlock k≠0→k<(w2.setCell ⟨B,14,none⟩ dv').heap.size:=fun k q=>wZ (fun k q=>by have:=h3.ll k q;omega) (fun k e=>hdF.ltb e) q
 have kX:Kp X w (w2.setCell ⟨B,14,none⟩ dv'):=kp X (fun k q=>⟨h3.lt I k (.inl q),by rw[h3.lx k q];decide,by rw[h3.lx k q];decide⟩);have kR:Kp R w (w2.setCell ⟨B,14,none⟩ dv'):=kp R (fun k q=>⟨h3.lt I k (.inr (.inl q)),by rw[h3.lr k q];decide,by rw[h3.lr k q];decide⟩);have kz: ∀z,z≠0→z≠2→z≠3→Kp (fun k=>lo k=z) w (w2.setCell ⟨B,14,none⟩ dv'):=fun z q0 q2 q3=>kp _ (fun k q=>⟨h3.ll k (by omega),by omega,by omega⟩)
 have hsh1:=(ag.sl ai h3.dg).len;have hsh2:=(ag.sl ai ho).len;obtain⟨F,hF⟩: ∃F,w2.setCell ⟨B,14,none⟩ dv'=F:=⟨_,rfl⟩;rw[hF]at hE3 hdF hbx hFs kX kR kz hltF;have hEY:Exc Y w F:=hE3.mono (Y:=Y) (fun k hk q=>(h4 k).2 (.inr (by
  rcases q with q | q
  ·rw[h3.dgb k q];decide
  ·rw[q,h3.lb];decide)))
 have lab: ∀{k:Nat} z,z≠3→z≠0→lo k=z→jw lo 3 dv'.ownBlock k=z:=fun {k} z q0 q1 q=>by rw[jv ho4 (h3.ll k (by omega)) (by omega),q]
 have l0: ∀{k:Nat},k<w.heap.size→lo k=0→jw lo 3 dv'.ownBlock k=0:=fun {k} hk q=>by rw[jv ho4 hk (by omega),q]
 have hY: ∀k,X k∨jw lo 3 dv'.ownBlock k≠0→Y k∨w.heap.size≤k:=fun k q=>q.elim (fun z=> .inl ((h4 k).2 (.inl z))) (fun z=>(wY ho4 (by decide) z).imp (fun z=>(h4 k).2 (.inr z)) id)
 have hs0:=h1.size;refine⟨dv,dv',w2,fun k=>X k∨jw lo 3 dv'.ownBlock k≠0,h3.box.cell 14,hr,box2.cell 14,box2.frozen (by simp[mnC]),?_,by rw[hF];exact hEY,hY,hsh1,hsh2⟩;rw[hF];refine⟨h1.trans (hEY.below hs0 (fun k hk q=>by have:=h2 k q;omega)),fun k q=>(hY k q).elim (h2 k) (fun z=>by omega),X,R,jw lo 3 dv'.ownBlock,b,tv,dv',⟨?_,fun k q=>l0 (h3.lt I k (.inl q)) (h3.lx k q),fun k q=>l0 (h3.lt I k (.inr (.inl q))) (h3.lr k q),I.keep h3.bi kX kR hFs,lab 2 (by decide) (by decide) h3.lb,hbx,hdF,fun k e=>rM e,h3.tx.kp (fun k e=>kz 4 (by decide) (by decide) (by decide) k (h3.txb k e)),fun k e=>lab 4 (by decide) (by decide) (h3.txb k e)⟩,fun k=>Ri,fun k q=>⟨O0 (h5 k q).1 hFs,(h5 k q).2.1,(h5 k q).2.2.1,l0 (h5 k q).1 (h5 k q).2.2.2⟩⟩;intro k q;exact hltF k q
theorem MM0.fin (I:bI BI TB) (h:MM0 BI w0 Y Q w B th t D T) {V:World} (hV:Exc (fun k=>k=B∨Q k∨w.heap.size≤k) w V) (hQ: ∀k,Q k→w0.heap.size≤k) (hbx: ∀b tv dv,Blk w B 79 (mnC b th (.pointer none) 0 0 eY tv dv)→Blk V B 79 (mnC b th (.pointer none) 0 0 eY eY dv)): ∃Y',MM BI w0 Y' V B ⟨t,D,th,none,none,none⟩∧Exc (fun k=>Y k∨Q k) w V∧ ∀k,Y' k→Y k:=by
 obtain⟨h1,h2,X,R,lo,b,tv,dv,h3,h4,h5⟩:=h;have lab: ∀{k:Nat} z,z≠4→lo k=z→(if lo k=4 then 0 else lo k)=z:=fun {k} z hz q=>by rw[Pd (by omega),q]
 have hlo: ∀k,(if lo k=4 then 0 else lo k)≠0→lo k≠0:=fun k q e=>q (lab 0 (by decide) e)
 have hBV: ∀k,k<w.heap.size→k≠B→ ¬Q k→V.heap[k]? =w.heap[k]? :=fun k q1 q2 q3=>hV.block k q1 (fun z=>z.elim q2 (fun z=>z.elim q3 (fun z=>by omega)))
 have kX:Kp X w V:=fun k q=>hBV k (h3.lt I k (.inl q)) (fun e=>by have:=h3.lx k q;rw[e,h3.lb]at this;omega) (fun z=>(h5 k z).2.1 q)
 have kR:Kp R w V:=fun k q=>hBV k (h3.lt I k (.inr (.inl q))) (fun e=>by have:=h3.lr k q;rw[e,h3.lb]at this;omega) (fun z=>(h5 k z).2.2.1 q)
 have hEY:Exc (fun k=>Y k∨Q k) w V:=⟨hV.os,hV.tape,hV.output,hV.size,fun k q1 q2=>hV.block k q1 (fun z=>z.elim (fun z=>q2 (.inl ((h4 k).2 (.inr (by rw[z,h3.lb];decide))))) (fun z=>z.elim (fun z=>q2 (.inr z)) (fun z=>by omega)))⟩;have hs:=hEY.size;have kz: ∀k,lo k≠0→lo k≠2→V.heap[k]? =w.heap[k]? :=fun k q1 q2=>hBV k (h3.ll k q1) (fun e=>q2 (by rw[e,h3.lb])) (fun z=>q1 (h5 k z).2.2.2)
 refine⟨fun k=>X k∨(if lo k=4 then 0 else lo k)≠0,⟨h1.trans (hEY.below h1.size (fun k hk q=>q.elim (fun q=>by have:=h2 k q;omega) (fun q=>by have:=hQ k q;omega))),fun k q=>h2 k ((h4 k).2 (q.imp id (hlo k))),X,R,_,b,.pointer none,eY,eY,dv,⟨⟨.inl rfl,fun _=>rfl,fun _=>rfl⟩,fun k q=>O0 (h3.ll k (hlo k q)) hs,fun k q=>lab 0 (by decide) (h3.lx k q),fun k q=>lab 0 (by decide) (h3.lr k q),I.keep h3.bi kX kR hs,lab 2 (by decide) h3.lb,hbx b tv dv h3.box,h3.dg.kp (fun k e=>kz k (by rw[h3.dgb k e];decide) (by rw[h3.dgb k e];decide)),fun k e=>lab 3 (by decide) (h3.dgb k e),ag.nil _ _,fun k e=>(by cases e),⟨[],rfl,ag.nil _ _,fun i p r a c=>by simp at a⟩,fun k e=>(by cases e),fun _=>rfl,fun _=>rfl,rfl⟩,fun k=>Ri⟩,hEY,fun k q=>(h4 k).2 (q.imp id (hlo k))⟩
theorem MM.toG (I:bI BI TB) (h:MM BI w0 Y w B s) {g0:Int×List Txt} (hg:s.g=some g0) {W2 W3:World} (hb:Below w.heap.size w W2) (hE:Exc (fun k=>k=B) W2 W3) (hq:w.heap.size<W2.heap.size)
  (hbx: ∀b tv dv,Blk W2 B 79 (mnC b s.th (.pointer none) 7 g0.1 eY tv dv)→Blk W3 B 79 (mnC b s.th (.pointer none) 0 0 eY tv dv)):MM0 BI w0 Y (fun k=>k=w.heap.size) W3 B s.th s.b s.d g0.2∧Exc Y w W3:=by
 obtain⟨h1,h2,X,R,lo,b,wv,rv,tv,dv,h3,h4⟩:=h;have hM:=h3.keep I hb;have hv:s.v=none:=h3.ok.vg.resolve_right (by rw[hg];simp);have hw:s.w=none:=h3.ok.gw (by rw[hg];simp);have hwt:=h3.wt;rw[hw]at hwt;obtain rfl:wv= .pointer none:=hwt;obtain rfl:=h3.rn hv;have hkd:kdM s=7:=by unfold kdM;rw[hv,hg]
 have hln:lnM s=g0.1:=by unfold lnM;rw[hv,hg]
 have htx:txM s=g0.2:=by unfold txM;rw[hg]
 have hB:=hM.box;rw[hkd,hln]at hB;have hB3:=hbx b tv dv hB;have hs1:=hb.size;have hs2:=hE.size;have hne: ∀k,k<w.heap.size→k≠B→W3.heap[k]? =W2.heap[k]? :=fun k q1 q2=>hE.block k (by omega) q2
 have kX:Kp X W2 W3:=fun k q=>hne k (h3.lt I k (.inl q)) (fun e=>by have:=h3.lx k q;rw[e,h3.lb]at this;omega)
 have kR:Kp R W2 W3:=fun k q=>hne k (h3.lt I k (.inr (.inl q))) (fun e=>by have:=h3.lr k q;rw[e,h3.lb]at this;omega)
 have hT:=hM.tx;rw[htx]at hT;have hEY:Exc Y w W3:=(Exc.of (X:=Y) hb).trans (hE.mono (Y:=Y) (fun k _ q=>(h4 k).2 (.inr (by rw[q,h3.lb];decide)))) (fun _ _ q=>q);exact⟨⟨h1.trans (hEY.below h1.size (fun k hk q=>by have:=h2 k q;omega)),h2,X,R,lo,b,tv,dv,⟨fun k q=>by have:=h3.ll k q;omega,h3.lx,h3.lr,I.keep hM.bi kX kR hs2,h3.lb,hB3,hM.dg.kp (fun k e=>hne k (h3.dg.ltb e) (fun e2=>by have:=h3.dgb k e;rw[e2,h3.lb]at this;omega)),h3.dgb,hT.kp (fun k e=>hne k (h3.tx.ltb e) (fun e2=>by have:=h3.txb k e;rw[e2,h3.lb]at this;omega)),h3.txb⟩,h4,fun k q=>⟨by omega,fun z=>by have:=h3.lt I k (.inl z);omega,fun z=>by have:=h3.lt I k (.inr (.inl z));omega,Qj fun z=>by have:=h3.ll k z;omega⟩⟩,hEY⟩
theorem MM.toV (I:bI BI TB) (h:MM BI w0 Y w B s) {v0:Int×List (List Gly)} (hv:s.v=some v0): ∃ra rc,(∀W,Below w.heap.size w W→ ∃b wv tv dv,Blk W B 79 (mnC b s.th wv 6 v0.1 (.slice ra v0.2.length rc) tv dv))∧ ∀W2 W3 V,Below w.heap.size w W2→Exc (fun k=>k=B) W2 W3→
  (∀b wv tv dv,Blk W2 B 79 (mnC b s.th wv 6 v0.1 (.slice ra v0.2.length rc) tv dv)→Blk W3 B 79 (mnC b s.th wv 0 0 eY tv dv))→Exc (fun k=>w.heap.size≤k) W3 V→
  ∃Y' S,MM BI w0 Y' V B {s with v:=none}∧Exc Y w V∧(∀k,Y' k→Y k)∧GrS S V (.slice ra v0.2.length rc) v0.2∧ ∀k,S k→k<w.heap.size∧ ¬Y' k:=by
 obtain⟨h1,h2,X,R,lo,b,wv,rv,tv,dv,h3,h4⟩:=h;have hg:s.g=none:=h3.ok.vg.resolve_left (by rw[hv];simp);have hw:s.w=none:=h3.ok.vw (by rw[hv];simp);have hkd:kdM s=6:=by unfold kdM;rw[hv]
 have hln:lnM s=v0.1:=by unfold lnM;rw[hv]
 have hrw:rwM s=v0.2:=by unfold rwM;rw[hv]
 obtain⟨ra,rc,e⟩:=h3.rg.len;rw[hrw]at e;subst e;have hbox: ∀W,Below w.heap.size w W→Blk W B 79 (mnC b s.th wv 6 v0.1 (.slice ra v0.2.length rc) tv dv):=fun W hW=>by
  have:=h3.box.below hW;rw[hkd,hln]at this;exact this
 refine⟨ra,rc,fun W hW=>⟨b,wv,tv,dv,hbox W hW⟩,fun W2 W3 V hb hE hbx hV=>?_⟩;have hM:=h3.keep I hb;have lab: ∀{k:Nat} z,z≠5→lo k=z→(if lo k=5 then 0 else lo k)=z:=fun {k} z hz q=>by rw[Pd (by omega),q]
 have hlo: ∀k,(if lo k=5 then 0 else lo k)≠0→lo k≠0:=fun k q e=>q (lab 0 (by decide) e)
 have hs1:=hb.size;have hs2:=hE.size;have hP:=hM.put I (s':={s with v:=none}) (lo':=fun k=>if lo k=5 then 0 else lo k) (wv':=wv) (rv':=eY) (tv':=tv) hE (by
   have e1:kdM {s with v:=none}=0:=by unfold kdM;simp[hg]
   have e2:lnM {s with v:=none}=0:=by unfold lnM;simp[hg]
   rw[e1,e2];exact hbx b wv tv dv (hbox W2 hb)) rfl rfl ⟨.inl rfl,fun _=>hw,fun _=>hw⟩ (fun k q=>by have:=h3.ll k (hlo k q);omega) (fun k q=>lab 0 (by decide) (h3.lx k q)) (fun k q=>lab 0 (by decide) (h3.lr k q)) (fun k q=>by rw[Pd (by omega)]) hM.tx (fun k e=>lab 4 (by decide) (h3.txb k e)) ⟨[],rfl,ag.nil _ _,fun i p r a c=>by simp at a⟩ (fun k e=>by cases e) (fun _=>rfl) h3.tn (by rw[hw];have:=h3.wt;rw[hw]at this;exact this)
 have kk: ∀S:Nat→Prop,(∀k,S k→k<w.heap.size)→Kp S W3 V:=fun S hS k q=>hV.block k (by have:=hS k q;omega) (fun z=>by have:=hS k q;omega)
 have hF:=hP.keepK I (kk X (fun k q=>h3.lt I k (.inl q))) (kk R (fun k q=>h3.lt I k (.inr (.inl q)))) (kk _ (fun k q=>h3.ll k (hlo k q))) hV.size;have hEY:Exc Y w V:=((Exc.of (X:=Y) hb).trans (hE.mono (Y:=Y) (fun k _ q=>(h4 k).2 (.inr (by rw[q,h3.lb];decide)))) (fun _ _ q=>q)).trans hV (fun k hk q=>by omega);have hkV: ∀k,k<w.heap.size→k≠B→V.heap[k]? =w.heap[k]? :=fun k q1 q2=>((hV.block k (by omega) (by omega)).trans (hE.block k (by omega) q2)).trans (hb.block k q1)
 obtain⟨L,hL,hLo,hLg⟩:=h3.rg;rw[hrw]at hL hLg;refine⟨fun k=>X k∨(if lo k=5 then 0 else lo k)≠0,fun k=>R k∨(Value.slice ra v0.2.length rc).ownBlock=some k,⟨h1.trans (hEY.below h1.size (fun k hk q=>by have:=h2 k q;omega)),fun k q=>h2 k ((h4 k).2 (q.imp id (hlo k))),X,R,_,b,wv,eY,tv,dv,hF,fun k=>Ri⟩,hEY,fun k q=>(h4 k).2 (q.imp id (hlo k)),⟨L,hL,?_,fun i p r a c=>?_⟩,fun k q=>?_⟩
 ·exact(wG bO (hLo.kp (fun k e=>hkV k (hLo.ltb e) (fun e2=>by have:=h3.rgb k e;rw[e2,h3.lb]at this;omega)))).mono (fun k q=> .inr q)
 ·exact((hLg i p r a c).keep (fun k q=>hkV k (h3.lt I k (.inr (.inl q))) (fun e2=>by have:=h3.lr k q;rw[e2,h3.lb]at this;omega))).mono (fun k q=> .inl q)
 ·rcases q with q | q
  ·refine⟨h3.lt I k (.inr (.inl q)),fun z=>z.elim (fun z=>I.sep h3.bi k q z) (fun z=>z (lab 0 (by decide) (h3.lr k q)))⟩
  ·refine⟨hLo.ltb q,fun z=>z.elim (fun z=>by have:=h3.lx k z;have:=h3.rgb k q;omega) (fun z=>z (by rw[Pk (h3.rgb k q)]))⟩
end
section
variable {BI:BIT} {TB:World→Prop} {w w0:World} {B:Nat} {s:Md} {Y Q:Nat→Prop} {th:Bool} {t:Bt} {D:List Dgn} {T:List Txt}
attribute [local go_sem ↓ high] aM
theorem xP (ln:Int) (l:List (List Gly)):nlN (.mk ⟨6,ln,0,[],l,aW⟩ [])=3+(l.length+lens l):=by simp[nlN,nlL,hdl,aW,bX]
theorem wy (I:bI BI TB) (h:MM BI w0 Y w B s) (hT:TB w0) {v0:Int×List (List Gly)} (hv:s.v=some v0) (hb:btl s.b+(v0.2.length+lens v0.2)+10≤30000):
  Calls Tryz.prog 60 #[ax B] w (dH BI w0 Y w B (.tuple #[]) (qW s v0)):=by
 obtain⟨ra,rc,hbx,hW⟩:=MM.toV I h hv;obtain⟨W2,hW2⟩: ∃W2,(w.alloc (.cells #[.int .i64 6,.int .i64 v0.1,.int .i64 0,.slice none 0 0,.slice none 0 0,.slice ra v0.2.length rc,.string ⟨#[]⟩,.slice none 0 0,.bool false,.bool false] 58))=W2:=⟨_,rfl⟩;have b2:Below w.heap.size w W2:=by rw[←hW2];exact af w _
 have kx:Blk W2 w.heap.size 58 (ae ⟨6,v0.1,0,aj,aj,(ra,v0.2.length,rc),[],aj,false,false⟩):=by rw[←hW2];exact O9 w _
 obtain⟨b0,wv,tv,dv,hB0⟩:=hbx w (OX _ _);have hlt:B<w.heap.size:=hB0.lt;have hB2:=hB0.below b2;have hne:w.heap.size≠B:=by omega
 obtain⟨W3,hW3⟩: ∃W3,((((((((((W2).setCell ⟨B,3,none⟩ (.int .i64 0)).setCell ⟨B,4,none⟩ (.int .i64 0)).setCell ⟨B,5,none⟩ (.int .i64 0)).setCell ⟨B,6,none⟩ (.slice none 0 0)).setCell ⟨B,7,none⟩ (.slice none 0 0)).setCell ⟨B,8,none⟩ (.slice none 0 0)).setCell ⟨B,9,none⟩ (.string ⟨#[]⟩)).setCell ⟨B,10,none⟩ (.slice none 0 0)).setCell ⟨B,11,none⟩ (.bool false)).setCell ⟨B,12,none⟩ (.bool false)=W3:=⟨_,rfl⟩;have hE3:Exc (fun k=>k=B) W2 W3:=by rw[←hW3];exact(((((((((((Exc.refl (fun k=>k=B) W2).set 3 _ (fun _=>rfl)).set 4 _ (fun _=>rfl)).set 5 _ (fun _=>rfl)).set 6 _ (fun _=>rfl)).set 7 _ (fun _=>rfl)).set 8 _ (fun _=>rfl)).set 9 _ (fun _=>rfl)).set 10 _ (fun _=>rfl)).set 11 _ (fun _=>rfl)).set 12 _ (fun _=>rfl))
 have kx3:=hE3.blk kx hne;obtain⟨Y',S,hM,hE,hY',hG,hS⟩:=hW W2 W3 W3.drew b2 hE3 (fun b wv tv dv hB=>by rw[←hW3];exact(((((((((hB.set 3 (.int .i64 0)).set 4 (.int .i64 0)).set 5 (.int .i64 0)).set 6 (.slice none 0 0)).set 7 (.slice none 0 0)).set 8 (.slice none 0 0)).set 9 (.string ⟨#[]⟩)).set 10 (.slice none 0 0)).set 11 (.bool false)).set 12 (.bool false)) (Exc.of (OX _ W3).drew);obtain⟨b,X,R,c0,hXY,hBI,hAF⟩:=hM.call I hT;have HA:Hid (Calls Tryz.prog 94 #[ax b,.agg #[.int .i64 6,.int .i64 v0.1,.int .i64 0,.slice none 0 0,.slice none 0 0,.slice ra v0.2.length rc,.string ⟨#[]⟩,.slice none 0 0,.bool false,.bool false]] W3.drew fun e w'=>e= .returned (.tuple #[])∧bB BI w0 Y w B (qW s v0) w'):=zH (by
  have hnd:qo S W3.drew ⟨6,v0.1,0,aj,aj,(ra,v0.2.length,rc),[],aj,false,false⟩ (.mk ⟨6,v0.1,0,[],v0.2,aW⟩ []):=⟨⟨rfl,rfl,rfl,FsS.nil _ _ _ _,hG,rfl,TrS.nil _ _,rfl,rfl⟩,NsS.nil _ _⟩;have hs:=hE.size;refine(I.add (S:=S) (hBI _ (OX _ _)).1 (hBI _ (OX _ _)).2.1 hnd (fun k q=>⟨by have:=(hS k q).1;omega,fun e=>(hS k q).2 (hXY k e)⟩) (by rw[xP];show btl s.b+_≤_;omega)).mono ?_;rintro e w' ⟨rfl,ha⟩;exact⟨rfl,bB.trans hE (fun k q=> .inl (hY' k q)) (hAF S _ _ w' (OX _ _) (fun k q=>(hS k q).2) ha)⟩)
 have c0':W3.cell? ⟨B,0,none⟩=some (ax b):=c0;have a0:=hB0.cell 3;have e0:=hB2.cell 3;have f0:W2.frozen? ⟨B,3,none⟩=false:=hB2.frozen (by simp[mnC]);have y0:=kx3.cell 0;have a1:=hB0.cell 4;have e1:=hB2.cell 4;have f1:W2.frozen? ⟨B,4,none⟩=false:=hB2.frozen (by simp[mnC]);have y1:=kx3.cell 1;have a2:=hB0.cell 5;have e2:=hB2.cell 5;have f2:W2.frozen? ⟨B,5,none⟩=false:=hB2.frozen (by simp[mnC]);have y2:=kx3.cell 2;have a3:=hB0.cell 6;have e3:=hB2.cell 6;have f3:W2.frozen? ⟨B,6,none⟩=false:=hB2.frozen (by simp[mnC]);have y3:=kx3.cell 3;have a4:=hB0.cell 7;have e4:=hB2.cell 7;have f4:W2.frozen? ⟨B,7,none⟩=false:=hB2.frozen (by simp[mnC]);have y4:=kx3.cell 4;have a5:=hB0.cell 8;have e5:=hB2.cell 8;have f5:W2.frozen? ⟨B,8,none⟩=false:=hB2.frozen (by simp[mnC]);have y5:=kx3.cell 5;have a6:=hB0.cell 9;have e6:=hB2.cell 9;have f6:W2.frozen? ⟨B,9,none⟩=false:=hB2.frozen (by simp[mnC]);have y6:=kx3.cell 6;have a7:=hB0.cell 10;have e7:=hB2.cell 10;have f7:W2.frozen? ⟨B,10,none⟩=false:=hB2.frozen (by simp[mnC]);have y7:=kx3.cell 7;have a8:=hB0.cell 11;have e8:=hB2.cell 11;have f8:W2.frozen? ⟨B,11,none⟩=false:=hB2.frozen (by simp[mnC]);have y8:=kx3.cell 8;have a9:=hB0.cell 12;have e9:=hB2.cell 12;have f9:W2.frozen? ⟨B,12,none⟩=false:=hB2.frozen (by simp[mnC]);have y9:=kx3.cell 9;simp only[mnC,ae,pv,aj,eY,OY,OZ]at a0 e0 y0 a1 e1 y1 a2 e2 y2 a3 e3 y3 a4 e4 y4 a5 e5 y5 a6 e6 y6 a7 e7 y7 a8 e8 y8 a9 e9 y9;have HW2:=zH hW2;have HW3:=zH hW3;clear h hv hb hbx hW b2 kx hB0 hB2 hE3 kx3 hM hE hY' hG hS c0 hXY hBI hAF hW2 hW3;go_enter Tryz.func60,Tryz.ntmps60
 go_upto_region 1 with fail
 rw[HW2.out];have hW3:=HW3.out;go_wp2_with fail
 go_still_tail 5,(by kernel_rfl)
 change wpList _ _ _ _ _ W3.drew;go_wp2_with fail
 refine HA.out.mono ?_;rintro e w2 ⟨rfl,m2⟩;have M2:=zH m2;clear m2;go_wp2_with fail
 go_end0;exact⟨rfl,M2.out⟩
def Dp (TB:World→Prop) (tab:Int→List Txt→Tab×List Dgn) (okl:Int→Prop):Prop:= ∀(ln:Int) (L:List Txt) (v:Value) (V:World),okl ln→TB V→Ss V v L→lnT L≤40000→(∀s∈L,s.length≤2000)→
 Calls Tryz.prog 93 #[.int .i64 (IntKind.i64.wrap (ln+1)),v] V fun e w'=> ∃(r:PV) (vd:Value),e= .returned (.tuple #[uW (tab ln L).1 r,vd])∧TrS (fun b=>V.heap.size≤b∧b<w'.heap.size) w' (pv r) (tab ln L).1.rows∧aL V.heap.size w' vd (tab ln L).2∧Below V.heap.size V w'
theorem KO (ln:Int) (t:Tab):nlN (.mk ⟨7,ln,0,[],[],t⟩ [])=3+t.cols.length+bX t.rows:=by simp[nlN,nlL,hdl,lens]
theorem MM0.cells (h:MM0 BI w0 Y Q w B th t D T): ∃b tv dv,B<w.heap.size∧Y B∧ ∀W,Below w.heap.size w W→Blk W B 79 (mnC b th (.pointer none) 0 0 eY tv dv):=by
 obtain⟨b,tv,dv,h1,h2,h3,-⟩:=h.at;exact⟨b,tv,dv,h1,h2,fun W hW=>h3.below hW⟩
theorem QT0 {P:Prop}(h:P:=by
 obtain⟨F,hF⟩: ∃W,w6.setCell ⟨B,14,none⟩ (.slice fa fn fc)=W:=⟨_,rfl⟩;rw[hF];obtain⟨V7,hV7⟩: ∃W,((((F).setCell ⟨w.heap.size,6,none⟩ (.string ⟨T.1.cols.toArray⟩)).setCell ⟨w.heap.size,7,none⟩ (.slice r1 rn rc)).setCell ⟨w.heap.size,8,none⟩ (.bool T.1.box)).setCell ⟨w.heap.size,9,none⟩ (.bool T.1.all)=W:=⟨_,rfl⟩;obtain⟨V8,hV8⟩: ∃W,V7.setCell ⟨B,13,none⟩ (.slice none 0 0)=W:=⟨_,rfl⟩;obtain⟨p1,p2,⟨p3,p4⟩,p5,b,p6,HA⟩:=HX.out F V7 V8 hF hV7 hV8;simp only[ae,pv,aj]at HA;have HV7:=zH hV7;have HV8:=zH hV8;clear hF hV7 hV8 HX;obtain⟨x13,u13⟩:=Pv.1 p3;have t0:=p1 0 _ rfl;have t1:=p1 1 _ rfl;have t2:=p1 2 _ rfl;have t3:=p1 3 _ rfl;obtain⟨x6,u6⟩:=Pv.1 (p2 6 (by decide)).1;have v6:=(p2 6 (by decide)).2;obtain⟨x7,u7⟩:=Pv.1 (p2 7 (by decide)).1;have v7:=(p2 7 (by decide)).2;obtain⟨x8,u8⟩:=Pv.1 (p2 8 (by decide)).1;have v8:=(p2 8 (by decide)).2;obtain⟨x9,u9⟩:=Pv.1 (p2 9 (by decide)).1;have v9:=(p2 9 (by decide)).2;have hV7:=HV7.out;have hV8:=HV8.out;go_upto_region 8 with fail
 clear hV7 hV8;have n0:=p5 0 _ rfl;have n1:=p5 1 _ rfl;have n2:=p5 2 _ rfl;have n3:=p5 3 _ rfl;have n4:=p5 4 _ rfl;have n5:=p5 5 _ rfl;have n6:=p5 6 _ rfl;have n7:=p5 7 _ rfl;have n8:=p5 8 _ rfl;have n9:=p5 9 _ rfl;simp only[pv,aj]at n0 n1 n2 n3 n4 n5 n6 n7 n8 n9;clear t0 t1 t2 t3 u6 u7 u8 u9 v6 v7 v8 v9 u13 p1 p2 p3 p4 p5;go_still_tail 5,(by kernel_rfl)
 change wpList _ _ _ _ _ V8.drew;go_wp2_with fail
 refine HA.out.mono ?_;rintro e w9 ⟨rfl,m2⟩;have M2:=zH m2;clear m2;go_wp2_with fail
 go_end0;exact⟨rfl,M2.out⟩):P:=h
theorem wB (I:bI BI TB) (h:MM BI w0 Y w B s) (hT:TB w0) {tab:Int→List Txt→Tab×List Dgn} {okl:Int→Prop} (hTab:Dp TB tab okl) {g0:Int×List Txt} (hg:s.g=some g0) (hok:okl g0.1) (hl:lnT g0.2≤40000) (hL: ∀x∈g0.2,x.length≤2000)
  (hb:btl s.b+((tab g0.1 g0.2).1.cols.length+bX (tab g0.1 g0.2).1.rows)+10≤30000) (hD:s.d.length+(tab g0.1 g0.2).2.length≤900000):
  Calls Tryz.prog 60 #[ax B] w (dH BI w0 Y w B (.tuple #[]) {s with b:=vH s.b (.mk ⟨7,g0.1,0,[],[],(tab g0.1 g0.2).1⟩ []),d:=s.d++(tab g0.1 g0.2).2,g:=none}):=by
 have hvn:s.v=none:=by obtain⟨-,-,X,R,lo,b,wv,rv,tv,dv,h3,-⟩:=h;exact h3.ok.vg.resolve_right (by rw[hg];simp)
 have hwn:s.w=none:=by obtain⟨-,-,X,R,lo,b,wv,rv,tv,dv,h3,-⟩:=h;exact h3.ok.gw (by rw[hg];simp)
 obtain⟨b0,wv,rv,tv,dv,hlt,hrn,hbx⟩:=h.box_at I;have hkd:kdM s=7:=by unfold kdM;rw[hvn,hg]
 have hln:lnM s=g0.1:=by unfold lnM;rw[hvn,hg]
 obtain rfl:=hrn hvn;rw[hkd,hln]at hbx;obtain⟨W2,hW2⟩: ∃W2,(w.alloc (.cells #[.int .i64 7,.int .i64 g0.1,.int .i64 0,.slice none 0 0,.slice none 0 0,.slice none 0 0,.string ⟨#[]⟩,.slice none 0 0,.bool false,.bool false] 58))=W2:=⟨_,rfl⟩;have b2:Below w.heap.size w W2:=by rw[←hW2];exact af w _
 have hz2:W2.heap.size=w.heap.size+1:=by rw[←hW2,Pf]
 have kx:Blk W2 w.heap.size 58 (ae ⟨7,g0.1,0,aj,aj,aj,[],aj,false,false⟩):=by rw[←hW2];exact O9 w _
 have hB0:=hbx w (OX _ _);have hB2:=hB0.below b2;have hne:w.heap.size≠B:=by omega
 obtain⟨W3,hW3⟩: ∃W3,((((((((((W2).setCell ⟨B,3,none⟩ (.int .i64 0)).setCell ⟨B,4,none⟩ (.int .i64 0)).setCell ⟨B,5,none⟩ (.int .i64 0)).setCell ⟨B,6,none⟩ (.slice none 0 0)).setCell ⟨B,7,none⟩ (.slice none 0 0)).setCell ⟨B,8,none⟩ (.slice none 0 0)).setCell ⟨B,9,none⟩ (.string ⟨#[]⟩)).setCell ⟨B,10,none⟩ (.slice none 0 0)).setCell ⟨B,11,none⟩ (.bool false)).setCell ⟨B,12,none⟩ (.bool false)=W3:=⟨_,rfl⟩;have hE3:Exc (fun k=>k=B) W2 W3:=by rw[←hW3];exact(((((((((((Exc.refl (fun k=>k=B) W2).set 3 _ (fun _=>rfl)).set 4 _ (fun _=>rfl)).set 5 _ (fun _=>rfl)).set 6 _ (fun _=>rfl)).set 7 _ (fun _=>rfl)).set 8 _ (fun _=>rfl)).set 9 _ (fun _=>rfl)).set 10 _ (fun _=>rfl)).set 11 _ (fun _=>rfl)).set 12 _ (fun _=>rfl))
 have kx3:=hE3.blk kx hne;have hz3:w.heap.size<W3.heap.size:=by have:=hE3.size;omega
 obtain⟨hM3,hEY3⟩:=h.toG I hg b2 hE3 (by omega) (fun b tv dv hB=>by rw[←hW3];exact(((((((((hB.set 3 (.int .i64 0)).set 4 (.int .i64 0)).set 5 (.int .i64 0)).set 6 (.slice none 0 0)).set 7 (.slice none 0 0)).set 8 (.slice none 0 0)).set 9 (.string ⟨#[]⟩)).set 10 (.slice none 0 0)).set 11 (.bool false)).set 12 (.bool false));have hT3: ∀V,Below W3.heap.size W3 V→TB V:=fun V hV=>I.tb hT (hM3.1.trans (hV.mono hM3.1.size))
 obtain⟨bq,tq,dq,hBq,hYB,hboxq,hSq,⟨ta,tc,rfl⟩,-⟩:=hM3.at;have hw0:=h.1.size;obtain⟨T,hTT⟩: ∃T,tab g0.1 g0.2=T:=⟨_,rfl⟩;rw[hTT]at hb hD ⊢;have HP:Hid (∀V,Below W3.heap.size W3 V→Calls Tryz.prog 93 #[.int .i64 (IntKind.i64.wrap (g0.1+1)),.slice ta g0.2.length tc] V fun e w'=> ∃r1 rn rc da dn dc,e= .returned (.tuple #[.agg #[.string ⟨T.1.cols.toArray⟩,.slice r1 rn rc,.bool T.1.box,.bool T.1.all],.slice da dn dc])∧Below V.heap.size V w'∧Hid (TrS (fun b=>V.heap.size≤b∧b<w'.heap.size) w' (.slice r1 rn rc) T.1.rows∧aL V.heap.size w' (.slice da dn dc) T.2)):=zH (fun V hV=>by
  refine(hTab g0.1 g0.2 (.slice ta g0.2.length tc) V hok (hT3 V hV) (Fs.below hSq hV) hl hL).mono ?_;rintro e w' ⟨⟨r1,rn,rc⟩,vd,rfl,q1,q2,q3⟩;obtain⟨da,dc,rfl⟩:=(ag.sl ai q2).len;rw[hTT]at q1 q2 ⊢;exact⟨r1,rn,rc,da,_,dc,rfl,q3,zH ⟨q1,q2⟩⟩)
 have HR:Hid (∀(Vf:World) (P:Nat) (S:Nat→Prop) r1 rn rc da dn dc,Below W3.heap.size W3 Vf→W3.heap.size≤P→P<Vf.heap.size→Blk Vf P 56 [.string ⟨T.1.cols.toArray⟩,.slice r1 rn rc,.bool T.1.box,.bool T.1.all]→TrS S Vf (.slice r1 rn rc) T.1.rows→(∀k,S k→W3.heap.size≤k∧k<Vf.heap.size∧k≠P)→Ds Vf (.slice da dn dc) T.2→
   ∃ea en ec fa fn fc w6,Vf.cell? ⟨B,14,none⟩=some (.slice ea en ec)∧(ic #[.slice ea en ec,.slice da dn dc]).run Tryz.prog Vf= .ok (.value (.slice fa fn fc)) w6∧w6.cell? ⟨B,14,none⟩=some (.slice ea en ec)∧w6.frozen? ⟨B,14,none⟩=false∧
   ∀F V7 V8,w6.setCell ⟨B,14,none⟩ (.slice fa fn fc)=F→((((F).setCell ⟨w.heap.size,6,none⟩ (.string ⟨T.1.cols.toArray⟩)).setCell ⟨w.heap.size,7,none⟩ (.slice r1 rn rc)).setCell ⟨w.heap.size,8,none⟩ (.bool T.1.box)).setCell ⟨w.heap.size,9,none⟩ (.bool T.1.all)=V7→V7.setCell ⟨B,13,none⟩ (.slice none 0 0)=V8→
    (∀j u,([.string ⟨T.1.cols.toArray⟩,.slice r1 rn rc,.bool T.1.box,.bool T.1.all]:List Value)[j]? =some u→F.cell? ⟨P,j,none⟩=some u)∧(∀j,j<10→(F.cell? ⟨w.heap.size,j,none⟩).isSome=true∧F.frozen? ⟨w.heap.size,j,none⟩=false)∧
    ((V7.cell? ⟨B,13,none⟩).isSome=true∧V7.frozen? ⟨B,13,none⟩=false)∧(∀j u,(ae ⟨7,g0.1,0,aj,aj,aj,T.1.cols,(r1,rn,rc),T.1.box,T.1.all⟩)[j]? =some u→V8.cell? ⟨w.heap.size,j,none⟩=some u)∧
    ∃b,V8.cell? ⟨B,0,none⟩=some (ax b)∧Hid (Calls Tryz.prog 94 #[ax b,.agg (ae ⟨7,g0.1,0,aj,aj,aj,T.1.cols,(r1,rn,rc),T.1.box,T.1.all⟩).toArray] V8.drew fun e w'=>e= .returned (.tuple #[])∧bB BI w0 Y w B {s with b:=vH s.b (.mk ⟨7,g0.1,0,[],[],T.1⟩ []),d:=s.d++T.2,g:=none} w')):=zH (by
  intro Vf P S r1 rn rc da dn dc hVf hP1 hP2 hPB hTr hS hDs;have hMf:=hM3.keep I hVf;have hsf:=hVf.size;obtain⟨ev,fv,w6,Y6,p1,p2,p3,p4,hM6,hE6,hY6,⟨ea,ec,rfl⟩,⟨fa,fc,rfl⟩⟩:=hMf.dgs I hDs (by omega);refine⟨ea,_,ec,fa,_,fc,w6,p1,p2,p3,p4,?_⟩;rintro F V7 V8 rfl rfl rfl;obtain⟨F,hF⟩: ∃F,w6.setCell ⟨B,14,none⟩ (.slice fa (s.d++T.2).length fc)=F:=⟨_,rfl⟩;rw[hF]at hM6 hE6 ⊢;have hYl3:=hM3.lt I;have hP6:=hE6.blk hPB (fun e=>by have:=hYl3 P e;omega);have hYw: ¬Y w.heap.size:=fun e=>by have:=h.lt I _ e;omega
  have hN6:=hE6.blk (kx3.below hVf) hYw;obtain⟨b6,t6,d6,hB6l,hYB6,hB6⟩:=hM6.cells;have hB6':=hB6 F (OX _ _);have hs6:=hE6.size;obtain⟨V7,hV7⟩: ∃V7,((((F).setCell ⟨w.heap.size,6,none⟩ (.string ⟨T.1.cols.toArray⟩)).setCell ⟨w.heap.size,7,none⟩ (.slice r1 rn rc)).setCell ⟨w.heap.size,8,none⟩ (.bool T.1.box)).setCell ⟨w.heap.size,9,none⟩ (.bool T.1.all)=V7:=⟨_,rfl⟩;have hE7:Exc (fun k=>k=w.heap.size) F V7:=by rw[←hV7];exact(((((Exc.refl (fun k=>k=w.heap.size) F).set 6 _ (fun _=>rfl)).set 7 _ (fun _=>rfl)).set 8 _ (fun _=>rfl)).set 9 _ (fun _=>rfl))
  have hN7:Blk V7 w.heap.size 58 (ae ⟨7,g0.1,0,aj,aj,aj,T.1.cols,(r1,rn,rc),T.1.box,T.1.all⟩):=by rw[←hV7];exact((((hN6.set 6 (.string ⟨T.1.cols.toArray⟩)).set 7 (.slice r1 rn rc)).set 8 (.bool T.1.box)).set 9 (.bool T.1.all))
  have hB7: ∀L,Blk F B 79 L→Blk V7 B 79 L:=fun L q=>hE7.blk q (fun e=>hne e.symm)
  rw[hV7];obtain⟨V8,hV8⟩: ∃V8,V7.setCell ⟨B,13,none⟩ (.slice none 0 0)=V8:=⟨_,rfl⟩;have hE8:Exc (fun k=>k=B) V7 V8:=by rw[←hV8];exact(Exc.refl (fun k=>k=B) V7).set 13 _ (fun _=>rfl)
  have hN8:=hE8.blk hN7 hne;rw[hV8];have hEF:Exc (fun k=>k=B∨k=w.heap.size∨F.heap.size≤k) F V8:=(hE7.mono (fun k _ q=> .inr (.inl q))).trans (hE8.mono (fun k _ q=> .inl q)) (fun _ _ q=>q);obtain⟨Y8,hM8,hE9,hY8⟩:=hM6.fin I hEF (fun k q=>by omega) (fun b tv dv hB=>by rw[←hV8];exact(hB7 _ hB).set 13 eY);obtain⟨b,X,R,c0,hXY,hBI,hAF⟩:=hM8.call I hT;have hs8:=hE9.size;have hYF: ∀k,Y8 k→Y k∨Vf.heap.size≤k:=fun k q=>hY6 k (hY8 k q)
  have hEw:Exc Y w V8:=((hEY3.trans (Exc.of (X:=Y) hVf) (fun _ _ q=>q)).trans hE6 (fun _ _ q=>q)).trans hE9 (fun k hk q=>q.elim (fun q=>(hY6 k q).elim id (fun z=>by omega)) (fun z=>by omega));have kS:Kp S Vf V8:=fun k q=>by
   have h1:=hS k q;have e1:F.heap[k]? =Vf.heap[k]? :=hE6.block k h1.2.1 (fun e=>by have:=hYl3 k e;omega);have e2:V8.heap[k]? =F.heap[k]? :=hEF.block k (by omega) (fun z=>by rcases z with z | z | z<;>omega);exact e2.trans e1
  refine⟨fun j u hu=>by rw[hP6.cell j];exact hu,fun j hj=>⟨by rw[hN6.cell j];simp[ae,hj],hN6.frozen (by simp[ae];omega)⟩,⟨by rw[(hB7 _ hB6').cell 13];rfl,(hB7 _ hB6').frozen (by simp[mnC])⟩,fun j u hu=>by rw[hN8.cell j];exact hu,b,c0,zH ?_⟩;have hnd:qo S V8.drew ⟨7,g0.1,0,aj,aj,aj,T.1.cols,(r1,rn,rc),T.1.box,T.1.all⟩ (.mk ⟨7,g0.1,0,[],[],T.1⟩ []):=⟨⟨rfl,rfl,rfl,FsS.nil _ _ _ _,GrS.nil _ _,rfl,hTr.keep kS,rfl,rfl⟩,NsS.nil _ _⟩;have hdr:Below V8.heap.size V8 V8.drew:=(OX _ _).drew;refine(I.add (S:=S) (hBI _ hdr).1 (hBI _ hdr).2.1 hnd (fun k q=>⟨by have:=(hS k q).2.1;show k<V8.heap.size;omega,fun e=>by have h1:=hS k q;rcases hYF k (hXY k e)with z | z;have:=hYl3 k z;omega;omega⟩) (by rw[KO];show btl s.b+_≤_;omega)).mono ?_;rintro e w' ⟨rfl,ha⟩;have hm:=bB.trans hEw (fun k q=>(hYF k q).imp id (fun z=>by omega)) (hAF S _ _ w' hdr (fun k q e=>by have h1:=hS k q;rcases hYF k e with z | z;have:=hYl3 k z;omega;omega) ha);rw[hvn,hwn];exact⟨rfl,hm⟩)
 have HC1:Hid (∀V,Below W3.heap.size W3 V→V.cell? ⟨w.heap.size,1,none⟩=some (.int .i64 g0.1)∧V.cell? ⟨B,13,none⟩=some (.slice ta g0.2.length tc)):=zH (fun V hV=>⟨(kx3.below hV).cell 1,(hboxq.below hV).cell 13⟩);have a0:=hB0.cell 3;have e0:=hB2.cell 3;have f0:W2.frozen? ⟨B,3,none⟩=false:=hB2.frozen (by simp[mnC]);have y0:=kx3.cell 0;have a1:=hB0.cell 4;have e1:=hB2.cell 4;have f1:W2.frozen? ⟨B,4,none⟩=false:=hB2.frozen (by simp[mnC]);have y1:=kx3.cell 1;have a2:=hB0.cell 5;have e2:=hB2.cell 5;have f2:W2.frozen? ⟨B,5,none⟩=false:=hB2.frozen (by simp[mnC]);have y2:=kx3.cell 2;have a3:=hB0.cell 6;have e3:=hB2.cell 6;have f3:W2.frozen? ⟨B,6,none⟩=false:=hB2.frozen (by simp[mnC]);have y3:=kx3.cell 3;have a4:=hB0.cell 7;have e4:=hB2.cell 7;have f4:W2.frozen? ⟨B,7,none⟩=false:=hB2.frozen (by simp[mnC]);have y4:=kx3.cell 4;have a5:=hB0.cell 8;have e5:=hB2.cell 8;have f5:W2.frozen? ⟨B,8,none⟩=false:=hB2.frozen (by simp[mnC]);have y5:=kx3.cell 5;have a6:=hB0.cell 9;have e6:=hB2.cell 9;have f6:W2.frozen? ⟨B,9,none⟩=false:=hB2.frozen (by simp[mnC]);have y6:=kx3.cell 6;have a7:=hB0.cell 10;have e7:=hB2.cell 10;have f7:W2.frozen? ⟨B,10,none⟩=false:=hB2.frozen (by simp[mnC]);have y7:=kx3.cell 7;have a8:=hB0.cell 11;have e8:=hB2.cell 11;have f8:W2.frozen? ⟨B,11,none⟩=false:=hB2.frozen (by simp[mnC]);have y8:=kx3.cell 8;have a9:=hB0.cell 12;have e9:=hB2.cell 12;have f9:W2.frozen? ⟨B,12,none⟩=false:=hB2.frozen (by simp[mnC]);have y9:=kx3.cell 9;simp only[mnC,ae,pv,aj,eY,OY,OZ]at a0 e0 y0 a1 e1 y1 a2 e2 y2 a3 e3 y3 a4 e4 y4 a5 e5 y5 a6 e6 y6 a7 e7 y7 a8 e8 y8 a9 e9 y9;have HW2:=zH hW2;have HW3:=zH hW3;clear h hg hok hl hL hb hD hvn hwn hrn hbx hkd hln hlt b2 hz2 kx hB0 hB2 hne hE3 kx3 hz3 hM3 hEY3 hT3 hBq hYB hboxq hSq hw0 hTab hTT hW2 hW3;go_enter Tryz.func60,Tryz.ntmps60
 go_upto_region 1 with fail
 rw[HW2.out];have hW3:=HW3.out;go_upto_region 5 with fail
 clear hW3 a0 e0 f0 a1 e1 f1 a2 e2 f2 a3 e3 f3 a4 e4 f4 a5 e5 f5 a6 e6 f6 a7 e7 f7 a8 e8 f8 a9 e9 f9;obtain⟨W4,hW4⟩: ∃W,W3.drew=W:=⟨_,rfl⟩;have b4:Below W3.heap.size W3 W4:=by rw[←hW4];exact(OX _ W3).drew
 have HB4:=zH b4;refine wp_region_held_drew (S:=(fun V=>Below W3.heap.size W3 V)) (by kernel_rfl) ?_ (fun hHeld=>?_)
 ·exact(OX _ W3).drew
 rw[hW4];clear hW4 b4;refine zK (i:=0) (v:= .pointer (some ⟨w.heap.size,1,none⟩)) rfl ?_;simp only[zT,zS,zZ,Act.put,yT,yZ,yS];refine P9 (i:=1) (v:= .int .i64 g0.1) rfl (by kernel_rfl) (by kernel_rfl) (by kernel_rfl) (fun _ _ _ h=>h) (Or.inl ⟨by rfl,fun w' hSw=>by(try dsimp only at hSw);have q1:=(HC1.out _ hSw).1;clear hSw;go_simp⟩) (by assumption) ?_;simp only[zT,zS,zZ,Act.put,yT,yZ,yS];refine zK (i:=2) (v:= .int .i64 (IntKind.i64.wrap (g0.1+1))) rfl ?_;simp only[zT,zS,zZ,Act.put,yT,yZ,yS];refine zK (i:=3) (v:= .pointer (some ⟨B,0,none⟩)) rfl ?_;simp only[zT,zS,zZ,Act.put,yT,yZ,yS];refine zK (i:=4) (v:= .pointer (some ⟨B,0,none⟩)) rfl ?_;simp only[zT,zS,zZ,Act.put,yT,yZ,yS];refine zK (i:=5) (v:= .pointer (some ⟨B,13,none⟩)) rfl ?_;simp only[zT,zS,zZ,Act.put,yT,yZ,yS];refine P9 (i:=6) (v:= .slice ta g0.2.length tc) rfl (by kernel_rfl) (by kernel_rfl) (by kernel_rfl) (fun _ _ _ h=>h) (Or.inl ⟨by rfl,fun w' hSw=>by(try dsimp only at hSw);have q1:=(HC1.out _ hSw).2;clear hSw;go_simp⟩) (by assumption) ?_;simp only[zT,zS,zZ,Act.put,yT,yZ,yS];refine wpAnyH_ready (rs:=[7,11]) (by kernel_rfl) (by simp) ?_;refine AllReadyH.cons rfl (fun K hK=>?_) (AllReadyH.cons rfl (fun K hK=>?_) AllReadyH.nil)
 ·try simp only[zT,zS,zZ]
  go_simp;go_at_call 93
  refine(HP.out W4 HB4.out).mono ?_;rintro e w5 ⟨r1,rn,rc,da,dn,dc,rfl,b5,HK⟩;have HB5:=zH b5;clear b5;go_wp2_with fail
  refine hK.out _ _ ?_ (fun hHeld=>?_)
  ·exact HB4.out.trans (HB5.out.mono HB4.out.size)
  clear hK K
  try simp only[zT,zS,zZ,Act.put,yT,yZ,yS]
  refine zK (i:=8) (v:= .tuple #[.agg #[.string ⟨T.1.cols.toArray⟩,.slice r1 rn rc,.bool T.1.box,.bool T.1.all],.slice da dn dc]) rfl ?_;simp only[zT,zS,zZ,Act.put,yT,yZ,yS];refine zK (i:=9) (v:= .agg #[.string ⟨T.1.cols.toArray⟩,.slice r1 rn rc,.bool T.1.box,.bool T.1.all]) rfl ?_;simp only[zT,zS,zZ,Act.put,yT,yZ,yS];refine zK (i:=10) (v:= .slice da dn dc) rfl ?_;simp only[zT,zS,zZ,Act.put,yT,yZ,yS];refine wpAnyH_ready (rs:=[11]) (by kernel_rfl) (by simp) ?_;refine AllReadyH.cons rfl (fun K hK=>?_) AllReadyH.nil
  try simp only[zT,zS,zZ]
  go_simp;refine hK.out _ _ ?_ (fun hHeld=>?_)
  ·exact(HB4.out.trans (HB5.out.mono HB4.out.size)).alloc (HB4.out.trans (HB5.out.mono HB4.out.size)).size _
  clear hK K
  try simp only[zT,zS,zZ,Act.put,yT,yZ,yS]
  refine wpAnyH_ready (rs:=[12]) (by kernel_rfl) (by simp) ?_;refine AllReadyH.cons rfl (fun K hK=>?_) AllReadyH.nil
  try simp only[zT,zS,zZ]
  go_simp;refine hK.out _ _ ?_ (fun hHeld=>?_)
  ·exact(HB4.out.trans (HB5.out.mono HB4.out.size)).alloc (HB4.out.trans (HB5.out.mono HB4.out.size)).size _
  clear hK K
  try simp only[zT,zS,zZ,Act.put,yT,yZ,yS]
  refine zK (i:=13) (v:= .slice da dn dc) rfl ?_;simp only[zT,zS,zZ,Act.put,yT,yZ,yS];refine PK (by kernel_rfl) ?_ _;obtain⟨Vf,hVf⟩: ∃W,w5.alloc (.cells #[.string ⟨T.1.cols.toArray⟩,.slice r1 rn rc,.bool T.1.box,.bool T.1.all] 56)=W:=⟨_,rfl⟩;have g4:=HB4.out;have g5:=HB5.out;have hBf:Below w5.heap.size w5 Vf:=by rw[←hVf];exact af w5 _
  have hKf:Blk Vf w5.heap.size 56 [.string ⟨T.1.cols.toArray⟩,.slice r1 rn rc,.bool T.1.box,.bool T.1.all]:=by rw[←hVf];exact O9 w5 _
  have s4:=g4.size;have s5:=g5.size;have b3f:Below W3.heap.size W3 Vf:=(g4.trans (g5.mono s4)).trans (hBf.mono (by omega));obtain⟨ea,en,ec,fa,fn,fc,w6,z1,hr,z2,z3,HX⟩:=HR.out Vf w5.heap.size (fun b=>W4.heap.size≤b∧b<w5.heap.size) r1 rn rc da dn dc b3f (by omega) hKf.lt hKf (HK.out.1.keep (fun k q=>hBf.block k q.2)) (fun k q=>⟨by omega,by have:=hKf.lt;omega,by omega⟩) (ag.sl ai (HK.out.2.keep hBf));rw[hVf];have HX:=zH HX;clear hVf hKf hBf b3f s4 s5 g4 g5 HK HB4 HB5;go_upto_region 7 with fail
  exact QT0
 ·try simp only[zT,zS,zZ]
  go_simp;obtain⟨W5,hW5⟩: ∃W,W4.alloc (.cells #[.string ⟨#[]⟩,.slice none 0 0,.bool false,.bool false] 56)=W:=⟨_,rfl⟩;rw[hW5];have HB6:Hid (Below W3.heap.size W3 W5):=zH (by rw[←hW5];exact HB4.out.alloc HB4.out.size _);have HK5:Hid (Blk W5 W4.heap.size 56 [.string ⟨#[]⟩,.slice none 0 0,.bool false,.bool false]):=zH (by rw[←hW5];exact O9 W4 (.cells #[.string ⟨#[]⟩,.slice none 0 0,.bool false,.bool false] 56));have HSZ:Hid (W5.heap.size=W4.heap.size+1):=zH (by rw[←hW5];exact Pf _ _);clear hW5;refine hK.out _ _ ?_ (fun hHeld=>?_)
  ·exact HB6.out
  clear hK K
  try simp only[zT,zS,zZ,Act.put,yT,yZ,yS]
  refine wpAnyH_ready (rs:=[7]) (by kernel_rfl) (by simp) ?_;refine AllReadyH.cons rfl (fun K hK=>?_) AllReadyH.nil;go_simp;go_at_call 93
  refine(HP.out W5 HB6.out).mono ?_;rintro e w5 ⟨r1,rn,rc,da,dn,dc,rfl,b5,HK⟩;have HB5:=zH b5;clear b5;go_wp2_with fail
  refine hK.out _ _ ?_ (fun hHeld=>?_)
  ·exact HB6.out.trans (HB5.out.mono HB6.out.size)
  clear hK K
  try simp only[zT,zS,zZ,Act.put,yT,yZ,yS]
  refine zK (i:=8) (v:= .tuple #[.agg #[.string ⟨T.1.cols.toArray⟩,.slice r1 rn rc,.bool T.1.box,.bool T.1.all],.slice da dn dc]) rfl ?_;simp only[zT,zS,zZ,Act.put,yT,yZ,yS];refine zK (i:=9) (v:= .agg #[.string ⟨T.1.cols.toArray⟩,.slice r1 rn rc,.bool T.1.box,.bool T.1.all]) rfl ?_;simp only[zT,zS,zZ,Act.put,yT,yZ,yS];refine zK (i:=10) (v:= .slice da dn dc) rfl ?_;simp only[zT,zS,zZ,Act.put,yT,yZ,yS];have HC5:Hid (Blk w5 W4.heap.size 56 [.string ⟨#[]⟩,.slice none 0 0,.bool false,.bool false]):=zH (HK5.out.below HB5.out);have o0:=HC5.out.cell 0;have o1:=HC5.out.cell 1;have o2:=HC5.out.cell 2;have o3:=HC5.out.cell 3;have r0:=HC5.out.frozen (j:=0) (by simp);have r1':=HC5.out.frozen (j:=1) (by simp);have r2:=HC5.out.frozen (j:=2) (by simp);have r3:=HC5.out.frozen (j:=3) (by simp);simp only[OY,OZ]at o0 o1 o2 o3;refine wpAnyH_ready (rs:=[12]) (by kernel_rfl) (by simp) ?_;refine AllReadyH.cons rfl (fun K hK=>?_) AllReadyH.nil
  try simp only[zT,zS,zZ]
  go_simp;refine hK.out _ _ ?_ (fun hHeld=>?_)
  ·exact(HB6.out.trans (HB5.out.mono HB6.out.size)).trans (Exc.below (((((Exc.refl (fun k=>k=W4.heap.size) w5).set 0 _ (fun _=>rfl)).set 1 _ (fun _=>rfl)).set 2 _ (fun _=>rfl)).set 3 _ (fun _=>rfl)) (by have:=HB6.out.size;have:=HB5.out.size;omega) (fun k hk e=>by have:=HB4.out.size;omega))
  clear o0 o1 o2 o3 r0 r1' r2 r3 HC5;clear hK K
  try simp only[zT,zS,zZ,Act.put,yT,yZ,yS]
  refine zK (i:=13) (v:= .slice da dn dc) rfl ?_;simp only[zT,zS,zZ,Act.put,yT,yZ,yS];refine PK (by kernel_rfl) ?_ _;obtain⟨Vf,hVf⟩: ∃W,((((w5).setCell ⟨W4.heap.size,0,none⟩ (.string ⟨T.1.cols.toArray⟩)).setCell ⟨W4.heap.size,1,none⟩ (.slice r1 rn rc)).setCell ⟨W4.heap.size,2,none⟩ (.bool T.1.box)).setCell ⟨W4.heap.size,3,none⟩ (.bool T.1.all)=W:=⟨_,rfl⟩;have g4:=HB4.out;have g5:=HB5.out;have hsz:=HSZ.out;have hE:Exc (fun k=>k=W4.heap.size) w5 Vf:=by rw[←hVf];exact(((((Exc.refl (fun k=>k=W4.heap.size) w5).set 0 _ (fun _=>rfl)).set 1 _ (fun _=>rfl)).set 2 _ (fun _=>rfl)).set 3 _ (fun _=>rfl))
  have hKf:Blk Vf W4.heap.size 56 [.string ⟨T.1.cols.toArray⟩,.slice r1 rn rc,.bool T.1.box,.bool T.1.all]:=by rw[←hVf];exact(((((HK5.out.below g5).set 0 (.string ⟨T.1.cols.toArray⟩)).set 1 (.slice r1 rn rc)).set 2 (.bool T.1.box)).set 3 (.bool T.1.all))
  have s4:=g4.size;have s5:=g5.size;have s6:=HB6.out.size;have s7:=hE.size;have b3f:Below W3.heap.size W3 Vf:=(HB6.out.trans (g5.mono s6)).trans (hE.below (by omega) (fun k hk e=>by omega));obtain⟨ea,en,ec,fa,fn,fc,w6,z1,hr,z2,z3,HX⟩:=HR.out Vf W4.heap.size (fun b=>W5.heap.size≤b∧b<w5.heap.size) r1 rn rc da dn dc b3f (by omega) hKf.lt hKf (HK.out.1.keep (fun k q=>hE.block k q.2 (fun e=>by omega))) (fun k q=>⟨by omega,by omega,by omega⟩) (ag.sl ai (HK.out.2.kp (fun k q=>hE.block k (HK.out.2.ltb q) (fun e=>by have:=(HK.out.2.ty q).1;omega))));rw[hVf];have HX:=zH HX;clear hVf hE hKf b3f s4 s5 s6 s7 g4 g5 HK HB4 HB5 HB6 HK5 HSZ;go_upto_region 7 with fail
  exact QT0
end
section
variable {BI:BIT} {TB:World→Prop} {w w0:World} {B:Nat} {s:Md} {Y:Nat→Prop}
theorem bB.seq {s1:Md} {w1:World} (h:bB BI w0 Y w B s1 w1): ∃Y1,MM BI w0 Y1 w1 B s1∧Exc Y w w1∧(∀k,Y1 k→Y k∨w.heap.size≤k)∧ ∀{s2:Md} {w2:World},bB BI w0 Y1 w1 B s2 w2→bB BI w0 Y w B s2 w2:=by
 obtain⟨Y1,h1,h2,h3⟩:=h;exact⟨Y1,h1,h2,h3,fun q=>bB.trans h2 h3 q⟩
theorem Ei (I:bI BI TB) (h:MM BI w0 Y w B s) {F1 F2:Nat} {kd:Int} (hF1:Blk w F1 74 [ax B]) (hF2:Blk w F2 3 [.int .i64 kd]) {x:RV} {W1:World} (b1:Below w.heap.size w W1) (kx:Blk W1 w.heap.size 33 (ak x)):
  ∀V,Below W1.heap.size W1 V→V.cell? ⟨w.heap.size,0,none⟩=some (.int .i64 x.1)∧V.cell? ⟨F1,0,none⟩=some (ax B)∧V.cell? ⟨F2,0,none⟩=some (.int .i64 kd)∧V.cell? ⟨B,3,none⟩=some (.int .i64 (kdM s)):=fun V hV=>by
 have b2:=b1.trans (hV.mono b1.size);exact⟨(kx.below hV).cell 0,(hF1.below b2).cell 0,(hF2.below b2).cell 0,h.kd I V b2⟩
theorem QT1 {P:Prop}(h:P:=by
 clear hW1;go_quiet (fail)
 have D1:Hid (Below W1.heap.size W1 (W1.drewN nq)):=zH (below_drewN (OX _ W1) nq);have HT2:=zH (HT.out (W1.drewN nq) D1.out);obtain⟨y0,y1,y2,y3⟩:=HC.out (W1.drewN nq) D1.out;clear HT HC z0 z1 z2 z3;go_wp2_with fail
 refine HT2.out.mono ?_;rintro e w2 ⟨rfl,m2⟩;have M2:=zH m2;clear m2;go_wp2_with fail
 go_end0;exact⟨rfl,M2.out⟩):P:=h
theorem IB (I:bI BI TB) (h:MM BI w0 Y w B s) (x:RV) (kd:Int) (hkd:kdM s≠kd) (F1 F2:Nat) (hF1:Blk w F1 74 [ax B]) (hF2:Blk w F2 3 [.int .i64 kd]) (hD:s.d.length≤500000):
  Calls Tryz.prog 90 #[.agg (ak x).toArray,.pointer (some ⟨F1,0,none⟩),.pointer (some ⟨F2,0,none⟩)] w (dH BI w0 Y w B (.tuple #[]) (aK s 6 x.1)):=by
 obtain⟨W1,hW1,b1,kx⟩:=aZ (x:=x) w;have HC:=zH (Ei I h hF1 hF2 b1 kx);have HT:Hid (∀V,Below W1.heap.size W1 V→Calls Tryz.prog 28 #[ax B,.int .i64 6,.int .i64 x.1] V fun e w'=>e= .returned (.tuple #[])∧bB BI w0 Y w B (aK s 6 x.1) w'):=zH (fun V hV=>by
  have b2:=b1.trans (hV.mono b1.size);refine(dG I (h.keep I b2) 6 x.1 hD).mono ?_;rintro e w' ⟨rfl,m⟩;exact⟨rfl,m.pre b2⟩)
 obtain⟨sf,hsf⟩: ∃sf,aK s 6 x.1=sf:=⟨_,rfl⟩;rw[hsf]at HT ⊢;obtain⟨z0,z1,z2,z3⟩:=HC.out W1 (OX _ _);have hk:=hkd;obtain⟨kq,hq⟩: ∃q,kdM s=q:=⟨_,rfl⟩;rw[hq]at HC z3 hk;obtain⟨xl,xm,⟨va,vn,vc⟩,xt⟩:=x;simp only[ak,bG]at hW1 HT HC z0 ⊢;clear h hkd hF1 hF2 hD b1 kx hsf hq;go_enter Tryz.func90,Tryz.ntmps90
 go_upto_region 1 with fail
 exact QT1
theorem FI (I:bI BI TB) (h:MM BI w0 Y w B s) (x:RV) (kd:Int) (hkd:kdM s=kd) (F1 F2:Nat) (hF1:Blk w F1 74 [ax B]) (hF2:Blk w F2 3 [.int .i64 kd]) {sf:Md}
  (hA: ∀V,MM BI w0 Y V B s→Calls Tryz.prog 60 #[ax B] V (dH BI w0 Y V B (.tuple #[]) sf)):
  Calls Tryz.prog 90 #[.agg (ak x).toArray,.pointer (some ⟨F1,0,none⟩),.pointer (some ⟨F2,0,none⟩)] w (dH BI w0 Y w B (.tuple #[]) sf):=by
 obtain⟨W1,hW1,b1,kx⟩:=aZ (x:=x) w;have HC:=zH (Ei I h hF1 hF2 b1 kx);have HT:Hid (∀V,Below W1.heap.size W1 V→Calls Tryz.prog 60 #[ax B] V fun e w'=>e= .returned (.tuple #[])∧bB BI w0 Y w B sf w'):=zH (fun V hV=>by
  have b2:=b1.trans (hV.mono b1.size);refine(hA V (h.keep I b2)).mono ?_;rintro e w' ⟨rfl,m⟩;exact⟨rfl,m.pre b2⟩)
 obtain⟨z0,z1,z2,z3⟩:=HC.out W1 (OX _ _);rw[hkd]at HC z3;obtain⟨xl,xm,⟨va,vn,vc⟩,xt⟩:=x;simp only[ak,bG]at hW1 HC z0 ⊢;clear h hkd hF1 hF2 b1 kx hA;go_enter Tryz.func90,Tryz.ntmps90
 go_upto_region 1 with fail
 exact QT1
theorem MM.ln (h:MM BI w0 Y w B s) (I:bI BI TB):w.cell? ⟨B,1,none⟩=some (.bool s.th)∧w.cell? ⟨B,3,none⟩=some (.int .i64 (kdM s))∧w.cell? ⟨B,4,none⟩=some (.int .i64 (lnM s)):=by
 obtain⟨b,wv,rv,tv,dv,h1,h2,h3⟩:=h.box_at I;have h4:=h3 w (OX _ _);exact⟨h4.cell 1,h4.cell 3,h4.cell 4⟩
theorem MZ (I:bI BI TB) (h:MM BI w0 Y w B s) {s1:Md} (hs1:upM s=s1) (hk:kdM s1=0) (hD:s.d.length≤400000) (hD1:s1.d.length≤500000):
  Calls Tryz.prog 30 #[ax B] w (dH BI w0 Y w B (.tuple #[]) (Av s1)):=by
 have HU:=zH (lV I h (by omega));rw[hs1]at HU;have HS:Hid (∀V,bB BI w0 Y w B s1 V→V.cell? ⟨B,1,none⟩=some (.bool s1.th)∧V.cell? ⟨B,3,none⟩=some (.int .i64 0)∧Calls Tryz.prog 28 #[ax B,.int .i64 12,.int .i64 0] V fun e w'=>e= .returned (.tuple #[])∧bB BI w0 Y w B (aK s1 12 0) w'):=zH (fun V m=>by
  obtain⟨Y1,hM,-,-,hseq⟩:=m.seq;obtain⟨q1,q2,q3⟩:=hM.ln I;rw[hk]at q2;refine⟨q1,q2,(dG I hM 12 0 hD1).mono ?_⟩;rintro e w' ⟨rfl,m2⟩;exact⟨rfl,hseq m2⟩)
 clear h hs1 hk hD hD1;unfold Av
 cases hth:s1.th with
 | true=>
  rw[Pk rfl];rw[hth]at HS;clear hth;go_enter Tryz.func30,Tryz.ntmps30
  go_wp2_with fail
  refine HU.out.mono ?_;rintro e w2 ⟨rfl,m2⟩;obtain⟨q1,q2,-⟩:=HS.out w2 m2;have M2:=zH m2;clear m2 HS HU;go_wp2_with fail
  go_end0;exact⟨rfl,M2.out⟩
 | false=>
  rw[Pd (by simp)];rw[hth]at HS;clear hth;go_enter Tryz.func30,Tryz.ntmps30
  go_wp2_with fail
  refine HU.out.mono ?_;rintro e w2 ⟨rfl,m2⟩;obtain⟨q1,q2,ht⟩:=HS.out w2 m2;have HT:=zH ht;clear m2 HS HU ht;go_wp2_with fail
  refine HT.out.mono ?_;rintro e w3 ⟨rfl,m3⟩;have M3:=zH m3;clear m3;go_wp2_with fail
  go_end0;exact⟨rfl,M3.out⟩
theorem IE (I:bI BI TB) (h:MM BI w0 Y w B s) {s1 s3:Md} (hs1:upM s=s1) (hk:kdM s1≠0) (hD:s.d.length≤400000) (hD1:s1.d.length≤500000) (hD3:s3.d.length≤500000)
  (hA: ∀V Y1,MM BI w0 Y1 V B (aK s1 7 (lnM s1))→Calls Tryz.prog 60 #[ax B] V (dH BI w0 Y1 V B (.tuple #[]) s3)):
  Calls Tryz.prog 30 #[ax B] w (dH BI w0 Y w B (.tuple #[]) (Av s3)):=by
 have HU:=zH (lV I h (by omega));rw[hs1]at HU;have H1:Hid (∀V,bB BI w0 Y w B s1 V→V.cell? ⟨B,3,none⟩=some (.int .i64 (kdM s1))∧V.cell? ⟨B,4,none⟩=some (.int .i64 (lnM s1))∧Hid (Calls Tryz.prog 28 #[ax B,.int .i64 7,.int .i64 (lnM s1)] V fun e w'=>e= .returned (.tuple #[])∧Hid (bB BI w0 Y w B (aK s1 7 (lnM s1)) w'))):=zH (fun V m=>by
  obtain⟨Y1,hM,-,-,hseq⟩:=m.seq;obtain⟨q1,q2,q3⟩:=hM.ln I;refine⟨q2,q3,zH ((dG I hM 7 (lnM s1) hD1).mono ?_)⟩;rintro e w' ⟨rfl,m2⟩;exact⟨rfl,zH (hseq m2)⟩)
 have H2:Hid (∀V,bB BI w0 Y w B (aK s1 7 (lnM s1)) V→Calls Tryz.prog 60 #[ax B] V fun e w'=>e= .returned (.tuple #[])∧Hid (bB BI w0 Y w B s3 w')):=zH (fun V m=>by
  obtain⟨Y1,hM,-,-,hseq⟩:=m.seq;refine(hA V Y1 hM).mono ?_;rintro e w' ⟨rfl,m2⟩;exact⟨rfl,zH (hseq m2)⟩)
 have HS:Hid (∀V,bB BI w0 Y w B s3 V→V.cell? ⟨B,1,none⟩=some (.bool s3.th)∧Hid (Calls Tryz.prog 28 #[ax B,.int .i64 12,.int .i64 0] V fun e w'=>e= .returned (.tuple #[])∧bB BI w0 Y w B (aK s3 12 0) w')):=zH (fun V m=>by
  obtain⟨Y1,hM,-,-,hseq⟩:=m.seq;obtain⟨q1,q2,q3⟩:=hM.ln I;refine⟨q1,zH ((dG I hM 12 0 hD3).mono ?_)⟩;rintro e w' ⟨rfl,m2⟩;exact⟨rfl,hseq m2⟩)
 obtain⟨kq,hq⟩: ∃q,kdM s1=q:=⟨_,rfl⟩;obtain⟨lq,hlq⟩: ∃q,lnM s1=q:=⟨_,rfl⟩;rw[hq]at H1 hk;rw[hlq]at H1 H2;clear h hs1 hD hD1 hD3 hA hq hlq;unfold Av
 cases hth:s3.th with
 | true=>
  rw[Pk rfl];rw[hth]at HS;clear hth;go_enter Tryz.func30,Tryz.ntmps30
  go_wp2_with fail
  refine HU.out.mono ?_;rintro e w2 ⟨rfl,m2⟩;obtain⟨q2,q3,HT⟩:=H1.out w2 m2;clear m2 HU H1;go_wp2_with fail
  refine HT.out.mono ?_;rintro e w3 ⟨rfl,m3⟩;have HA:=zH (H2.out w3 m3.out);clear HT H2 q2 q3 m3;go_wp2_with fail
  refine HA.out.mono ?_;rintro e w4 ⟨rfl,M4⟩;obtain⟨q1,-⟩:=HS.out w4 M4.out;clear HA HS;go_wp2_with fail
  go_end0;exact⟨rfl,M4.out⟩
 | false=>
  rw[Pd (by simp)];rw[hth]at HS;clear hth;go_enter Tryz.func30,Tryz.ntmps30
  go_wp2_with fail
  refine HU.out.mono ?_;rintro e w2 ⟨rfl,m2⟩;obtain⟨q2,q3,HT⟩:=H1.out w2 m2;clear m2 HU H1;go_wp2_with fail
  refine HT.out.mono ?_;rintro e w3 ⟨rfl,m3⟩;have HA:=zH (H2.out w3 m3.out);clear HT H2 q2 q3 m3;go_wp2_with fail
  refine HA.out.mono ?_;rintro e w4 ⟨rfl,M4⟩;obtain⟨q1,HT4⟩:=HS.out w4 M4.out;clear HA HS M4;go_wp2_with fail
  refine HT4.out.mono ?_;rintro e w5 ⟨rfl,m5⟩;have M5:=zH m5;clear m5;go_wp2_with fail
  go_end0;exact⟨rfl,M5.out⟩
end
theorem wp_copy_run {P:Program} {o:Oper} {a:Act} {w:World} {K:Act→World→Prop} {Q:Exit→Act→World→Prop}
  (d s:Operand) (t t':TypeId) (hop:o.op=Op.call {callee:=Callee.builtin Builtin.copy,args:= #[d,s],argTypes:= #[t,t'] })
  (vd vs:Value) (hd:a.eval d=vd) (hs:a.eval s=vs) {v':Value} {w':World} (hrun:(Builtin.copy_ #[t,t'] o.type #[vd,vs]).run P w= .ok v' w') (hK:K (a.put o.dst v') w'):Oper.wp P o a w K Q:=by
 unfold Oper.wp;have hb:builtin .copy #[t,t'] o.type=fun _ args=>(do pure (.value (←Builtin.copy_ #[t,t'] o.type args)):Sem Next):=rfl
 simp[execOp,hop,resolve,invoke,hb,hd,hs,hrun,Result.andThen];exact hK
theorem Jg {w:World} {g:Nat} (cs:Array Value):Exc (fun k=>k=g) w (w.setRow g cs):=by
 refine⟨rfl,rfl,rfl,by simp[World.setRow],fun k hk hx=>?_⟩;simp only[World.setRow,Array.getElem?_modify];rw[Pd (fun e=>hx e.symm)]
def four (L:List Txt):List Txt:=[(L[0]?).getD [],(L[1]?).getD [],(L[2]?).getD [],(L[3]?).getD []]
theorem Jb (L:List Txt):((L.take 4).map (fun t=>Value.string ⟨t.toArray⟩))++([Value.string ⟨#[]⟩,.string ⟨#[]⟩,.string ⟨#[]⟩,.string ⟨#[]⟩]:List Value).drop (((L.take 4).map (fun t=>Value.string ⟨t.toArray⟩)).length)=(four L).map (fun t=>Value.string ⟨t.toArray⟩):=by
 match L with
 | []=>rfl
 | [a]=>rfl
 | [a,b]=>rfl
 | [a,b,c]=>rfl
 | a::b::c::d::l=>simp[four]
theorem Ja {w:World} {L:List Txt} {va:Option Addr} {vc:Nat} (h:Ss w (.slice va L.length vc) L) {A:Nat} (hA:Blk w A 142 [.string ⟨#[]⟩,.string ⟨#[]⟩,.string ⟨#[]⟩,.string ⟨#[]⟩]):
  ∃w' n,(Builtin.copy_ #[22,22] 3 #[.slice (some ⟨A,0,none⟩) 4 4,.slice va L.length vc]).run Tryz.prog w= .ok (goInt n) w'∧Blk w' A 142 ((four L).map (fun t=>Value.string ⟨t.toArray⟩))∧Exc (fun k=>k=A) w w':=by
 by_cases h0:L=[]
 ·subst h0
  exact⟨w,_,run_copy_none w _ _ _ 9 _ _ _ _ _ _ (by kernel_rfl) (by kernel_rfl) rfl,hA,Exc.refl _ _⟩
 ·have hl:0<L.length:=by cases L with | nil=>exact absurd rfl h0 | cons a l=>simp
  obtain⟨x,hx⟩: ∃x,L[0]? =some x:=⟨L[0],OU hl⟩;obtain⟨g,off,rfl,-⟩:=Ss.at h hx;have hr:=run_copy_row Tryz.prog w 22 22 3 9 A 0 4 4 ⟨g,off,none⟩ L.length vc [Value.string ⟨#[]⟩,.string ⟨#[]⟩,.string ⟨#[]⟩,.string ⟨#[]⟩].toArray 142 ((L.take 4).map (fun t=>Value.string ⟨t.toArray⟩)) (by kernel_rfl) (by kernel_rfl) hA (by simp[Nat.min_comm]) (fun j v hj=>by
   rw[Qf]at hj
   cases ht:(L.take 4)[j]? with
   | none=>rw[ht]at hj;cases hj
   | some t=>
    rw[ht]at hj;obtain rfl:=Ph hj;have htl:L[j]? =some t:=by
     rw[List.getElem?_take]at ht
     split at ht
     ·exact ht
     ·cases ht
    obtain⟨g',off',e,c⟩:=Ss.at h htl;injection e with e
    injection e with e1 e2
    subst e1 e2;have:(⟨g,off,none⟩:Addr).add j=⟨g,off+j,none⟩:=by unfold Addr.add;split<;>simp_all
    rw[this];exact c) (by simp;omega) (fun v hv=>by
    obtain⟨t,-,rfl⟩:=QF.1 hv;rfl)
  refine⟨_,_,hr,?_,Jg _⟩;have hq:=setRow_heap w A _ (([Value.string ⟨#[]⟩,.string ⟨#[]⟩,.string ⟨#[]⟩,.string ⟨#[]⟩].toArray.toList.take 0++((L.take 4).map (fun t=>Value.string ⟨t.toArray⟩))++ [Value.string ⟨#[]⟩,.string ⟨#[]⟩,.string ⟨#[]⟩,.string ⟨#[]⟩].toArray.toList.drop (0+((L.take 4).map (fun t=>Value.string ⟨t.toArray⟩)).length)).toArray) _ _ hA;have e:=Jb L;have e2:([Value.string ⟨#[]⟩,.string ⟨#[]⟩,.string ⟨#[]⟩,.string ⟨#[]⟩].toArray.toList.take 0++((L.take 4).map (fun t=>Value.string ⟨t.toArray⟩))++ [Value.string ⟨#[]⟩,.string ⟨#[]⟩,.string ⟨#[]⟩,.string ⟨#[]⟩].toArray.toList.drop (0+((L.take 4).map (fun t=>Value.string ⟨t.toArray⟩)).length))=(four L).map (fun t=>Value.string ⟨t.toArray⟩):=by
   simpa using e
  rw[e2]at hq ⊢;exact hq
section
variable {BI:BIT} {TB:World→Prop} {w w0:World} {B:Nat} {s:Md} {Y:Nat→Prop}
def Ki (s:Md) (r:bu):Md:=if s.th then aK s 13 r.line else {s with th:=true,b:={s.b with nm:=⟨iA r 0,iA r 1,iA r 2,iA r 3⟩ } }
theorem Fj (I:bI BI TB) (h:MM BI w0 Y w B s) (x:RV) (hth:s.th=true) (hD:s.d.length≤500000):
  Calls Tryz.prog 50 #[ax B,.agg (ak x).toArray] w (dH BI w0 Y w B (.tuple #[]) (aK s 13 x.1)):=by
 obtain⟨W1,hW1,b1,kx⟩:=aZ (x:=x) w;have hM1:=h.keep I b1;obtain⟨q1,-,-⟩:=hM1.ln I;have z0:=kx.cell 0;have HT:Hid (Calls Tryz.prog 28 #[ax B,.int .i64 13,.int .i64 x.1] W1 fun e w'=>e= .returned (.tuple #[])∧bB BI w0 Y w B (aK s 13 x.1) w'):=zH (by
  refine(dG I hM1 13 x.1 hD).mono ?_;rintro e w' ⟨rfl,m⟩;exact⟨rfl,m.pre b1⟩)
 rw[hth]at q1;obtain⟨sf,hsf⟩: ∃sf,aK s 13 x.1=sf:=⟨_,rfl⟩;rw[hsf]at HT ⊢;obtain⟨xl,xm,⟨va,vn,vc⟩,xt⟩:=x;simp only[ak,bG,OY,OZ]at hW1 HT z0 ⊢;clear h hM1 hth hD b1 kx hsf;go_enter Tryz.func50,Tryz.ntmps50
 go_wp2_with fail
 refine HT.out.mono ?_;rintro e w2 ⟨rfl,m2⟩;have M2:=zH m2;clear m2;go_wp2_with fail
 go_end0;exact⟨rfl,M2.out⟩
theorem Cc (I:bI BI TB) (h:MM BI w0 Y w B s) (hT:TB w0) (x:RV) {r:bu} (hx:iB w0 x r) (hth:s.th=false):
  Calls Tryz.prog 50 #[ax B,.agg (ak x).toArray] w (dH BI w0 Y w B (.tuple #[]) {s with th:=true,b:={s.b with nm:=⟨iA r 0,iA r 1,iA r 2,iA r 3⟩ } }):=by
 obtain⟨W1,hW1,b1,kx⟩:=aZ (x:=x) w;obtain⟨bb,wv,rv,tv,dv,hBl,-,hbx⟩:=h.box_at I;have hB1:=hbx W1 b1;have q1:W1.cell? ⟨B,1,none⟩=some (.bool s.th):=hB1.cell 1;have q1':W1.frozen? ⟨B,1,none⟩=false:=hB1.frozen (by simp[mnC]);rw[hth]at hB1;obtain⟨W2,hW2⟩: ∃W,W1.setCell ⟨B,1,none⟩ (.bool true)=W:=⟨_,rfl⟩;have hE2:Exc (fun k=>k=B) W1 W2:=by rw[←hW2];exact(Exc.refl (fun k=>k=B) W1).set 1 _ (fun _=>rfl)
 obtain⟨W3,hW3⟩: ∃W,W2.alloc (.cells #[.string ⟨#[]⟩,.string ⟨#[]⟩,.string ⟨#[]⟩,.string ⟨#[]⟩] 142)=W:=⟨_,rfl⟩;have hb3:Below W2.heap.size W2 W3:=by rw[←hW3];exact af W2 _
 have kA:Blk W3 W2.heap.size 142 [.string ⟨#[]⟩,.string ⟨#[]⟩,.string ⟨#[]⟩,.string ⟨#[]⟩]:=by rw[←hW3];exact O9 W2 _
 have s1:=b1.size;have s2:=hE2.size;have s3:=hb3.size;have hxw:w.heap.size<W1.heap.size:=kx.lt;have hx2:=hE2.blk kx (by omega);have HX2:Hid (∀V,Below W2.heap.size W2 V→V.cell? ⟨w.heap.size,2,none⟩=some (bG x.2.2.1)):=zH (fun V hV=>(hx2.below hV).cell 2);have HP:=fun V hV=>h.putB I b1 hE2 (s':={s with th:=true}) rfl rfl rfl rfl rfl (by obtain⟨-,-,X,R,lo,b,wv,rv,tv,dv,h3,-⟩:=h;exact⟨h3.ok.vg,h3.ok.vw,h3.ok.gw⟩) id id (fun b wv rv tv dv hr hB=>by rw[←hW2];exact hB.set 1 (.bool true)) (V:=V) hV
 obtain⟨W4,hW4⟩: ∃W,W3.drew=W:=⟨_,rfl⟩;have hb4:Below W3.heap.size W3 W4:=by rw[←hW4];exact(OX _ W3).drew
 have b24:=hb3.trans (hb4.mono s3);have hM4:=(HP W4 (Exc.of (b24.mono (by omega)))).1;obtain⟨hx1,hx2',hx3,hx4⟩:=hx.below hM4.1;obtain⟨a',c',e4⟩:=hx4.len;obtain⟨xl,xm,⟨va,vn,vc⟩,xt⟩:=x;simp only[bG]at e4 hx4 HX2;injection e4 with e1 e2 e3
 subst e1 e2 e3;obtain⟨W5,n,hrun,kA5,hE5⟩:=Ja hx4 (kA.below hb4);have s4:=hb4.size;have s5:=hE5.size;have hb45:Below W2.heap.size W4 W5:=hE5.below (by omega) (fun k hk e=>by omega);have hb25:=b24.trans (hb45.mono (by omega));have hM5:=HP W5 (Exc.of (hb25.mono (by omega)));obtain⟨b,X,R,c0,hXY,hBI,hAF⟩:=hM5.1.call I hT;have HTI:Hid (∀V,Below W5.heap.size W5 V→V.cell? ⟨B,0,none⟩=some (ax b)∧(∀(i:Nat) u,((four r.args).map (fun t=>Value.string ⟨t.toArray⟩))[i]? =some u→V.cell? ⟨W2.heap.size,i,none⟩=some u)∧
   Hid (Calls Tryz.prog 82 #[ax b,.string ⟨(iA r 0).toArray⟩,.string ⟨(iA r 1).toArray⟩,.string ⟨(iA r 2).toArray⟩,.string ⟨(iA r 3).toArray⟩] V fun e w'=>e= .returned (.tuple #[])∧bB BI w0 Y w B {s with th:=true,b:={s.b with nm:=⟨iA r 0,iA r 1,iA r 2,iA r 3⟩ } } w')):=zH (fun V hV=>by
  refine⟨(hBI V hV).2.2,fun i u hu=>by rw[(kA5.below hV).cell i];exact hu,zH ?_⟩;refine(I.title _ _ _ _ (hBI V hV).1 (hBI V hV).2.1).mono ?_;rintro e w' ⟨rfl,ha⟩;exact⟨rfl,bB.trans hM5.2 (fun k q=> .inl q) (hAF _ _ V w' hV (fun k q=>q.elim) ha)⟩)
 have H4:Hid (W3.drew=W4):=zH hW4;have HR:=zH hrun;have x2:=HX2.out W4 b24;have HC4:Hid (∀V,Below W2.heap.size W2 V→V.cell? ⟨w.heap.size,2,none⟩=some (.slice va r.args.length vc)):=HX2;have HB24:=zH b24;have HB23:=zH hb3;have HB25:=zH hb25;have HB45:=zH hb45;rw[hth]at q1;simp only[four,PL,Qx]at HTI;obtain⟨n0,hn0⟩: ∃n,iA r 0=n:=⟨_,rfl⟩;obtain⟨n1,hn1⟩: ∃n,iA r 1=n:=⟨_,rfl⟩;obtain⟨n2,hn2⟩: ∃n,iA r 2=n:=⟨_,rfl⟩;obtain⟨n3,hn3⟩: ∃n,iA r 3=n:=⟨_,rfl⟩;have f0:(r.args[0]?).getD []=n0:=hn0;have f1:(r.args[1]?).getD []=n1:=hn1;have f2:(r.args[2]?).getD []=n2:=hn2;have f3:(r.args[3]?).getD []=n3:=hn3;rw[f0,f1,f2,f3,hn0,hn1,hn2,hn3]at HTI;rw[hn0,hn1,hn2,hn3];obtain⟨ln,hln⟩: ∃n,r.args.length=n:=⟨_,rfl⟩;rw[hln]at x2 HC4 HR;simp only[ak,bG]at hW1 ⊢;clear h hbx hBl hB1 hE2 hb3 kA hx hx2 HX2 hx1 hx2' hx3 hx4 HP hM4 hM5 hBI hAF hXY hrun kA5 hE5 hb4 b24 hb25 hb45 hW4 f0 f1 f2 f3 hn0 hn1 hn2 hn3 hln kx b1 c0 s1 s2 s3 s4 s5 hxw;go_enter Tryz.func50,Tryz.ntmps50
 go_upto_region 5 with fail
 refine wp_region_held_drew (S:=(fun V=>Below W2.heap.size W2 V)) (by kernel_rfl) ?_ (fun hHeld=>?_)
 ·exact(HB23.out.drew)
 rw[H4.out];refine zK (i:=0) (v:= .slice (some ⟨W2.heap.size,0,none⟩) 4 4) rfl ?_;simp only[zT,zS,zZ,Act.put,yT,yZ,yS];refine zK (i:=1) (v:= .pointer (some ⟨w.heap.size,2,none⟩)) rfl ?_;simp only[zT,zS,zZ,Act.put,yT,yZ,yS];refine P9 (i:=2) (v:= .slice va ln vc) rfl (by kernel_rfl) (by kernel_rfl) (by kernel_rfl) (fun _ _ _ h=>h) (Or.inl ⟨by rfl,fun w' hSw=>by(try dsimp only at hSw);have q1:=HC4.out _ hSw;clear hSw;go_simp⟩) (by assumption) ?_;simp only[zT,zS,zZ,Act.put,yT,yZ,yS];refine wpAnyH_ready (rs:=[3]) (by kernel_rfl) (by simp) ?_;refine AllReadyH.cons rfl (fun K hK=>?_) AllReadyH.nil
 try simp only[zT,zS,zZ]
 refine wp_copy_run (.tmp 16) (.tmp 18) 22 22 rfl _ _ rfl rfl HR.out ?_;refine hK.out _ _ ?_ (fun hHeld=>?_)
 ·exact HB25.out
 clear hK K
 try simp only[zT,zS,zZ,Act.put,yT,yZ,yS]
 refine PK (by kernel_rfl) ?_ _;clear HR HC4 H4 HB24 HB23 HB25 HB45 x2;go_upto_region 6 with fail
 obtain⟨y0,hy,-⟩:=HTI.out W5 (OX _ _);have y1:=hy 0 _ rfl;have y2:=hy 1 _ rfl;have y3:=hy 2 _ rfl;have y4:=hy 3 _ rfl;clear hy;go_still_tail 12,(by kernel_rfl)
 change wpList _ _ _ _ _ W5.drew;obtain⟨y0',hy',HT5⟩:=HTI.out W5.drew (OX _ _).drew;clear HTI hy' y0 y1 y2 y3 y4;go_wp2_with fail
 refine HT5.out.mono ?_;rintro e w6 ⟨rfl,m6⟩;have M6:=zH m6;clear m6;go_wp2_with fail
 go_end0;exact⟨rfl,M6.out⟩
end
def BIQ (BI:BIT) (Q:Nat→Prop):BIT:=fun X R w b t=>BI X R w b t∧ ∀k,R k→ ¬Q k
theorem dV.q {BI:BIT} (I:dV BI) (Q:Nat→Prop):dV (BIQ BI Q):=⟨fun h=>I.lt h.1,fun h a b c=>⟨I.keep h.1 a b c,h.2⟩⟩
section
variable {BI:BIT} {TB:World→Prop} {w w0:World} {B:Nat} {s:Md} {Y Q:Nat→Prop}
theorem MM.toQ (I:dV BI) (h:MM BI w0 Y w B s) (hQ: ∀k,Q k→w.heap.size≤k):MM (BIQ BI Q) w0 Y w B s:=by
 obtain⟨h1,h2,X,R,lo,b,wv,rv,tv,dv,h3,h4⟩:=h;exact⟨h1,h2,X,R,lo,b,wv,rv,tv,dv,⟨h3.ok,h3.ll,h3.lx,h3.lr,⟨h3.bi,fun k q e=>by have:=I.lt h3.bi k (.inr q);have:=hQ k e;omega⟩,h3.lb,h3.box,h3.dg,h3.dgb,h3.tx,h3.txb,h3.rg,h3.rgb,h3.rn,h3.tn,h3.wt⟩,h4⟩
theorem MM.offQ (I:dV BI) (h:MM (BIQ BI Q) w0 Y w B s) {V:World} (hV:Exc Q w V) (hQ: ∀k,Q k→w0.heap.size≤k∧ ¬Y k):MM BI w0 Y V B s:=by
 obtain⟨h1,h2,X,R,lo,b,wv,rv,tv,dv,h3,h4⟩:=h;have h5:MC BI X R lo w B b s wv rv tv dv:=⟨h3.ok,h3.ll,h3.lx,h3.lr,h3.bi.1,h3.lb,h3.box,h3.dg,h3.dgb,h3.tx,h3.txb,h3.rg,h3.rgb,h3.rn,h3.tn,h3.wt⟩;have kk: ∀S:Nat→Prop,(∀k,S k→k<w.heap.size∧ ¬Q k)→Kp S w V:=fun S hS k q=>hV.block k (hS k q).1 (hS k q).2
 refine⟨h1.trans (hV.below h1.size (fun k hk q=>by have:=(hQ k q).1;omega)),h2,X,R,lo,b,wv,rv,tv,dv,h5.keepK I (kk X (fun k q=>⟨I.lt h3.bi.1 k (.inl q),fun e=>(hQ k e).2 ((h4 k).2 (.inl q))⟩)) (kk R (fun k q=>⟨I.lt h3.bi.1 k (.inr q),h3.bi.2 k q⟩)) (kk _ (fun k q=>⟨h3.ll k q,fun e=>(hQ k e).2 ((h4 k).2 (.inr q))⟩)) hV.size,h4⟩
theorem MM.wait (I:dV BI) (h:MM BI w0 Y w B s) (hv:s.v=none) (hg:s.g=none) {m:MWt} {W1:World} {g:Nat} (hb:Below w.heap.size w W1) (hgl:w.heap.size≤g) (hk:Blk W1 g 58 (ae (vM m))):
  (∃v,W1.cell? ⟨B,2,none⟩=some v)∧W1.frozen? ⟨B,2,none⟩=false∧bB BI w0 Y w B {s with w:=some m} (W1.setCell ⟨B,2,none⟩ (ax g)):=by
 obtain⟨h1,h2,X,R,lo,b,wv,rv,tv,dv,h3,h4⟩:=h;have hM:=h3.keep I hb;have hlt: ∀k,lo k≠0→k≠g:=fun k q e=>by have:=h3.ll k q;omega
 have lab: ∀{k:Nat} z,z≠6→lo k=z→(z≠0∨k≠g)→(if k=g then 6 else if lo k=6 then 0 else lo k)=z:=fun {k} z hz q e=>by
  rw[Pd (fun e2=>e.elim (fun e3=>hlt k (by omega) e2) (fun e3=>e3 e2)),Pd (by omega),q]
 have hP:MC BI X R (fun k=>if k=g then 6 else if lo k=6 then 0 else lo k) (W1.setCell ⟨B,2,none⟩ (ax g)) B b {s with w:=some m} (ax g) rv tv dv:=by
  refine hM.put I ((Exc.refl _ W1).set 2 _ (fun _=>rfl)) (hM.box.set 2 (ax g)) rfl rfl ⟨h3.ok.vg,fun q=>absurd hv q,fun q=>absurd hg q⟩ (fun k q=>?_) (fun k q=>lab 0 (by decide) (h3.lx k q) (.inr (fun e=>by have:=h3.lt I k (.inl q);omega))) (fun k q=>lab 0 (by decide) (h3.lr k q) (.inr (fun e=>by have:=h3.lt I k (.inr (.inl q));omega))) (fun k q=>?_) hM.tx (fun k e=>lab 4 (by decide) (h3.txb k e) (.inl (by decide))) hM.rg (fun k e=>lab 5 (by decide) (h3.rgb k e) (.inl (by decide))) hM.rn hM.tn ⟨g,rfl,Pk rfl,hk⟩
  ·rw[dz]
   by_cases e:k=g
   ·rw[e];exact hk.lt
   ·have:lo k≠0:=fun z=>q (lab 0 (by decide) z (.inr e))
    exact hM.ll k this
  ·exact lab (lo k) (by omega) rfl (.inl (by omega))
 refine⟨⟨_,hM.box.cell 2⟩,hM.box.frozen (by simp[mnC]),MM.aft h1 h2 ((Exc.of (X:=Y) hb).trans ((Exc.refl (X:=Y) W1).set 2 (ax g) (g:=B) (fun _=>(h4 B).2 (.inr (by rw[h3.lb];decide)))) (fun _ _ q=>q)) hP (fun k q=> .inl ((h4 k).2 (.inl q))) (fun k q=>?_)⟩
 by_cases e:k=g
 ·exact .inr (by omega)
 ·have:lo k≠0:=fun z=>q (lab 0 (by decide) z (.inr e))
  exact .inl ((h4 k).2 (.inr this))
theorem CE {k ln n:Int} {g:List Gly}:nlN (.mk (bL k ln n g) [])=3+g.length:=by simp[nlN,nlL,hdl,bL,aW,lens,bX]
theorem vL (I:bI BI TB) (h:MM BI w0 Y w B s) {N:Nat} {k ln n:Int} {W:World} (hb:Below w.heap.size w W) (hN:w.heap.size≤N) (hk:Blk W N 58 (ae (dN k ln n aj))) (l2:Int) (L:List Txt) (v:Value) (hv: ∀V,Below w0.heap.size w0 V→Ss V v L) (hl:lnT L≤40000) (hL: ∀s∈L,s.length≤2000) (hD:s.d.length≤400000) (j:Bool):
  Calls Tryz.prog 85 #[ax B,.int .i64 l2,v] W fun e w'=> ∃p:PV,e= .returned (pv p)∧Blk w' N 58 (ae (dN k ln n aj))∧ ∃Y' S,MM (BIQ BI (fun k=>k=N)) w0 Y' w' B {s with d:=s.d++cK l2 (df 0 L).2}∧Exc Y W w'∧(∀k,Y' k→(Y k∨W.heap.size≤k)∧k≠N)∧FsS S 2 aX w' (pv p) (df 0 L).1∧(∀k,S k→W.heap.size≤k∧k<w'.heap.size∧ ¬Y' k):=by
 have hQ:=(h.toQ I.k (Q:=fun k=>k=N) (fun k q=>by omega)).keep (I.k.q _) hb;have hYl:=h.lt I;have hNl:=hk.lt;refine(Cb (I.k.q _) hQ l2 L v (hv W hQ.1) hl hL (by omega)).mono ?_;rintro e w' ⟨x,rfl,Y',S,m1,m2,m3,m4,m5⟩;obtain⟨a,c,e⟩:=m4.1.len;refine⟨(a,_,c),by rw[e];rfl,m2.blk hk (fun q=>by have:=hYl _ q;omega),Y',S,m1,m2,fun k q=>⟨m3 k q,fun e=>by rcases m3 k q with z | z;have:=hYl k z;omega;omega⟩,by rw[e]at m4;exact m4,m5⟩
theorem rH (I:bI BI TB) {w1 w':World} (hT:TB w0) {Y' S:Nat→Prop} {s2:Md} {N:Nat} {k ln n:Int} {g:List Gly} {p:PV} (hE:Exc Y w w1) (hY: ∀k,Y' k→(Y k∨w.heap.size≤k)∧k≠N) (hM:MM (BIQ BI (fun k=>k=N)) w0 Y' w1 B s2) (hN:w0.heap.size≤N) (hNw:w.heap.size≤N) (hS:FsS S 2 aX w1 (pv p) g) (hS2: ∀k,S k→k<w1.heap.size∧ ¬Y' k∧k≠N) (hb:btl s2.b+g.length+3≤30000) (hD:s2.d.length≤500000)
  (hE2:Exc (fun k=>k=N) w1 w') {V:World} (hV:Below w'.heap.size w' V):
  Calls Tryz.prog 86 #[ax B,.agg (ae (dN k ln n p)).toArray] V fun e w2=>e= .returned (.tuple #[])∧bB BI w0 Y w B (cz s2 (bL k ln n g)) w2:=by
 have hM':=hM.offQ I.k hE2 (fun k q=>⟨by rw[q];exact hN,fun e=>(hY k e).2 q⟩);have hM2:=hM'.keep I hV;have s1:=hE.size;have s2:=hE2.size;have s3:=hV.size;have hSV:FsS S 2 aX V (pv p) g:=hS.keep (fun k q=>(hV.block k (by have:=(hS2 k q).1;omega)).trans (hE2.block k (hS2 k q).1 (hS2 k q).2.2));refine(pY I hM2 hT (S:=S) (x:=dN k ln n p) (rq hSV) (fun k q=>⟨by have:=(hS2 k q).1;omega,(hS2 k q).2.1⟩) (by rw[CE];omega) hD).mono ?_;rintro e w2 ⟨rfl,m⟩;refine⟨rfl,bB.trans (Y1:=Y') ?_ (fun k q=>(hY k q).1) m⟩;exact((hE.trans hE2 (fun k hk q=>by omega)).trans (Exc.of (X:=Y) hV) (fun _ _ q=>q))
theorem IA (I:bI BI TB) (h:MM BI w0 Y w B s) (hT:TB w0) (hv:s.v=none) (hg:s.g=none) {x:RV} {r:bu} (hx:iB w0 x r) (ha:r.args=[]) (kd:Int) (K:List Int) (kv:Value) (F1 F2 F3:Nat) (hF1:Blk w F1 74 [ax B]) (hF2:Blk w F2 3 [.int .i64 kd]) (hF3:Blk w F3 144 [kv]) {Sk:Nat→Prop} (hkv:FsS Sk 1 gJ w kv K) (hSk: ∀k,Sk k→k<w.heap.size∧ ¬Y k) (hKl:K.length≤100) (hY1: ¬Y F1) (hY2: ¬Y F2) (hY3: ¬Y F3) (hb:btl s.b≤30000) (hD:s.d.length≤400000):
  Calls Tryz.prog 83 #[.agg (ak x).toArray,.pointer (some ⟨F1,0,none⟩),.pointer (some ⟨F3,0,none⟩),.pointer (some ⟨F2,0,none⟩)] w (dH BI w0 Y w B (.tuple #[]) {s with b:=aP s.b K,w:=some ⟨kd,x.1,0⟩ }):=by
 obtain⟨W1,hW1,b1,kx⟩:=aZ (x:=x) w;have hM1:=h.keep I b1;have hYl:=h.lt I;have hs1:=b1.size;obtain⟨b,hcb,hSH⟩:=hM1.shut I hT K hKl hb;have HW:Hid (∀V,bB BI w0 Y W1 B {s with b:=aP s.b K} V→V.cell? ⟨w.heap.size,0,none⟩=some (.int .i64 x.1)∧V.cell? ⟨F2,0,none⟩=some (.int .i64 kd)∧
   ∃V2,V.alloc (.cells #[.int .i64 kd,.int .i64 x.1,.int .i64 0,.slice none 0 0,.slice none 0 0,.slice none 0 0,.string ⟨#[]⟩,.slice none 0 0,.bool false,.bool false] 58)=V2∧V2.cell? ⟨w.heap.size,2,none⟩=some (bG x.2.2.1)∧V2.cell? ⟨F1,0,none⟩=some (ax B)∧(∃v,V2.cell? ⟨B,2,none⟩=some v)∧V2.frozen? ⟨B,2,none⟩=false∧Hid (bB BI w0 Y w B {s with b:=aP s.b K,w:=some ⟨kd,x.1,0⟩ } (V2.setCell ⟨B,2,none⟩ (ax V.heap.size)))):=zH (fun V m=>by
  obtain⟨Y1,hM,hE,hY,hseq⟩:=m.seq;have k1:=hE.blk kx (fun e=>by have:=hYl _ e;omega);have f1:=hE.blk (hF1.below b1) hY1;have f2:=hE.blk (hF2.below b1) hY2;have bA:=af V (.cells #[.int .i64 kd,.int .i64 x.1,.int .i64 0,.slice none 0 0,.slice none 0 0,.slice none 0 0,.string ⟨#[]⟩,.slice none 0 0,.bool false,.bool false] 58);obtain⟨c,fr,mw⟩:=hM.wait I.k hv hg (m:=⟨kd,x.1,0⟩) bA (OW _) (O9 V _);exact⟨k1.cell 0,f2.cell 0,_,rfl,(k1.below bA).cell 2,(f1.below bA).cell 0,c,fr,zH ((hseq mw).pre b1)⟩)
 have hdr:Below W1.heap.size W1 W1.drew:=(OX _ _).drew;have HS:=zH (hSH W1.drew kv Sk hdr (hkv.keep (fun k q=>(b1.trans (hdr.mono hs1)).block k (hSk k q).1)) (fun k q=>⟨by have:=(hSk k q).1;have:=hdr.size;omega,(hSk k q).2⟩));have c0:=hcb W1 (OX _ _);have z1:W1.cell? ⟨F1,0,none⟩=some (ax B):=(hF1.below b1).cell 0;have z3:W1.cell? ⟨F3,0,none⟩=some kv:=(hF3.below b1).cell 0;obtain⟨kva,kvc,rfl⟩:=hkv.1.len;obtain⟨-,-,-,hx4⟩:=hx;obtain⟨xl,xm,⟨va,vn,vc⟩,xt⟩:=x;simp only[bG]at hx4;obtain⟨a',c',e4⟩:=hx4.len;injection e4 with e1 e2 e3
 rw[ha]at e2;simp only[Pm]at e2;subst e1 e2 e3;obtain⟨sf,hsf⟩: ∃sf,({s with b:=aP s.b K,w:=some ⟨kd,xl,0⟩ }:Md)=sf:=⟨_,rfl⟩;simp only at HW ⊢;rw[hsf]at HW ⊢;obtain⟨kn,hkn⟩: ∃n,K.length=n:=⟨_,rfl⟩;rw[hkn]at HS z3;simp only[ak,bG]at hW1 HW ⊢;clear h hM1 hYl hs1 hcb hSH hkv hSk hKl hv hg hb hD hx4 ha hF1 hF2 hF3 hY1 hY2 hY3 hdr b1 kx hsf hkn;go_enter Tryz.func83,Tryz.ntmps83
 go_upto_region 1 with fail
 go_still_tail 5,(by kernel_rfl)
 change wpList _ _ _ _ _ W1.drew;clear hW1;go_wp2_with fail
 refine HS.out.mono ?_;rintro e w2 ⟨rfl,m2⟩;obtain⟨y0,y1,V2,hV2,y2,y3,⟨q,y4⟩,y5,M3⟩:=HW.out w2 m2;have HV2:=zH hV2;clear m2 HW HS c0 z1 z3 hV2;go_upto_region 3 with fail
 rw[HV2.out];go_wp2_with fail
 go_end0;exact⟨rfl,M3.out⟩
theorem FH (I:bI BI TB) (h:MM BI w0 Y w B s) (hT:TB w0) {x:RV} {r:bu} (hx:iB w0 x r) (hl:gT r) (ha:r.args≠ []) (kd:Int) (K:List Int) (kv:Value) (F1 F2 F3:Nat) (hF1:Blk w F1 74 [ax B]) (hF2:Blk w F2 3 [.int .i64 kd]) (hF3:Blk w F3 144 [kv]) {Sk:Nat→Prop} (hkv:FsS Sk 1 gJ w kv K) (hSk: ∀k,Sk k→k<w.heap.size∧ ¬Y k) (hKl:K.length≤100) (hY1: ¬Y F1) (hY2: ¬Y F2) (hY3: ¬Y F3) (hb:btl (aP s.b K)+(df 0 r.args).1.length+3≤30000) (hbs:btl s.b≤30000) (hD:s.d.length≤400000):
  Calls Tryz.prog 83 #[.agg (ak x).toArray,.pointer (some ⟨F1,0,none⟩),.pointer (some ⟨F3,0,none⟩),.pointer (some ⟨F2,0,none⟩)] w (dH BI w0 Y w B (.tuple #[]) (cz {s with b:=aP s.b K,d:=s.d++cK x.1 (df 0 r.args).2} (bL kd x.1 0 (df 0 r.args).1))):=by
 obtain⟨W1,hW1,b1,kx⟩:=aZ (x:=x) w;have hM1:=h.keep I b1;have hYl:=h.lt I;have hs1:=b1.size;obtain⟨b,hcb,hSH⟩:=hM1.shut I hT K hKl hbs;have hxw:w.heap.size<W1.heap.size:=kx.lt;obtain⟨q,hq⟩: ∃q,df 0 r.args=q:=⟨_,rfl⟩;have hq2:=(dR 0 r.args ([],[])).2;have hql:(df 0 r.args).2.length≤80000:=by rw[ig];unfold dC;simp only[Pm]at hq2;have:=hl.args;omega
 have hqd: ∀ln,(cK ln (df 0 r.args).2).length≤80000:=fun ln=>by unfold cK;simpa using hql
 have HW:Hid (∀V,bB BI w0 Y W1 B {s with b:=aP s.b K} V→V.cell? ⟨w.heap.size,0,none⟩=some (.int .i64 x.1)∧V.cell? ⟨F2,0,none⟩=some (.int .i64 kd)∧
   ∃V2,V.alloc (.cells #[.int .i64 kd,.int .i64 x.1,.int .i64 0,.slice none 0 0,.slice none 0 0,.slice none 0 0,.string ⟨#[]⟩,.slice none 0 0,.bool false,.bool false] 58)=V2∧V2.cell? ⟨w.heap.size,0,none⟩=some (.int .i64 x.1)∧V2.cell? ⟨w.heap.size,2,none⟩=some (bG x.2.2.1)∧V2.cell? ⟨F1,0,none⟩=some (ax B)∧
    Hid (Calls Tryz.prog 85 #[ax B,.int .i64 x.1,bG x.2.2.1] V2 fun e w'=> ∃p1 p2 p3,e= .returned (.slice p1 p2 p3)∧ ∃z,w'.cell? ⟨V.heap.size,3,none⟩=some z∧w'.frozen? ⟨V.heap.size,3,none⟩=false∧ ∃V5,w'.setCell ⟨V.heap.size,3,none⟩ (.slice p1 p2 p3)=V5∧V5.cell? ⟨F1,0,none⟩=some (ax B)∧(∀(i:Nat) u,(ae (dN kd x.1 0 (p1,p2,p3)))[i]? =some u→V5.cell? ⟨V.heap.size,i,none⟩=some u)∧
     Hid (Calls Tryz.prog 86 #[ax B,.agg (ae (dN kd x.1 0 (p1,p2,p3))).toArray] V5 fun e w2=>e= .returned (.tuple #[])∧bB BI w0 Y w B (cz {s with b:=aP s.b K,d:=s.d++cK x.1 (df 0 r.args).2} (bL kd x.1 0 (df 0 r.args).1)) w2))):=zH (fun V m=>by
  obtain⟨Y1,hM,hE,hY,hseq⟩:=m.seq;have hsE:=hE.size;have k1:=hE.blk kx (fun e=>by have:=hYl _ e;omega);have f1:=hE.blk (hF1.below b1) hY1;have f2:=hE.blk (hF2.below b1) hY2;have bA:=af V (.cells #[.int .i64 kd,.int .i64 x.1,.int .i64 0,.slice none 0 0,.slice none 0 0,.slice none 0 0,.string ⟨#[]⟩,.slice none 0 0,.bool false,.bool false] 58);have kN:Blk (V.alloc (.cells #[.int .i64 kd,.int .i64 x.1,.int .i64 0,.slice none 0 0,.slice none 0 0,.slice none 0 0,.string ⟨#[]⟩,.slice none 0 0,.bool false,.bool false] 58)) V.heap.size 58 (ae (dN kd x.1 0 aj)):=O9 V _;have hY1l:=hM.lt I;have hw0:=hM.1.size;have hzA:(V.alloc (.cells #[.int .i64 kd,.int .i64 x.1,.int .i64 0,.slice none 0 0,.slice none 0 0,.slice none 0 0,.string ⟨#[]⟩,.slice none 0 0,.bool false,.bool false] 58)).heap.size=V.heap.size+1:=Pf _ _;refine⟨k1.cell 0,f2.cell 0,_,rfl,(k1.below bA).cell 0,(k1.below bA).cell 2,(f1.below bA).cell 0,zH ?_⟩;refine(vL I hM bA (OW _) kN x.1 r.args (bG x.2.2.1) (fun V hV=>(hx.below hV).args) hl.args hl.each hD true).mono ?_;rintro e w' ⟨p,rfl,kN',Y',S,m1,m2,m3,m4,m5⟩;have f1':=m2.blk (f1.below bA) (fun e=>by rcases hY _ e with z | z;exact hY1 z;have:=(hF1.below b1).lt;omega);have hE5:Exc (fun k=>k=V.heap.size) w' (w'.setCell ⟨V.heap.size,3,none⟩ (pv p)):=(Exc.refl (fun k=>k=V.heap.size) w').set 3 _ (fun _=>rfl);have hne:F1≠V.heap.size:=fun e=>by have:=(hF1.below b1).lt;omega
  refine⟨p.1,p.2.1,p.2.2,rfl,_,kN'.cell 3,kN'.frozen (by simp[ae]),_,rfl,(hE5.blk f1' hne).cell 0,fun i u hu=>?_,zH ?_⟩
  ·have:=(Blk.set (L:=ae (dN kd x.1 0 aj)) kN' 3 (pv p)).cell i
   exact this.trans hu
  ·have:=rH I hT (s2:={s with b:=aP s.b K,d:=s.d++cK x.1 (df 0 r.args).2}) (w:=V) (w1:=w') (Y:=Y1) (Y':=Y') (S:=S) (N:=V.heap.size) (k:=kd) (ln:=x.1) (n:=0) (g:=(df 0 r.args).1) (p:=p) ((Exc.of (X:=Y1) bA).trans m2 (fun _ _ q=>q)) (fun k q=>⟨(m3 k q).1.imp id (fun z=>by omega),(m3 k q).2⟩) m1 hw0 (OW _) m4 (fun k q=>⟨(m5 k q).2.1,(m5 k q).2.2,fun e=>by have:=(m5 k q).1;omega⟩) (by omega) (by rw[Pb];have:=hqd x.1;omega) hE5 (OX _ _)
   refine this.mono ?_;rintro e w2 ⟨rfl,mm⟩;exact⟨rfl,(hseq mm).pre b1⟩)
 have hdr:Below W1.heap.size W1 W1.drew:=(OX _ _).drew;have HS:=zH (hSH W1.drew kv Sk hdr (hkv.keep (fun k q=>(b1.trans (hdr.mono hs1)).block k (hSk k q).1)) (fun k q=>⟨by have:=(hSk k q).1;have:=hdr.size;omega,(hSk k q).2⟩));have c0:=hcb W1 (OX _ _);have z1:W1.cell? ⟨F1,0,none⟩=some (ax B):=(hF1.below b1).cell 0;have z3:W1.cell? ⟨F3,0,none⟩=some kv:=(hF3.below b1).cell 0;obtain⟨kva,kvc,rfl⟩:=hkv.1.len;obtain⟨-,-,-,hx4⟩:=hx;obtain⟨xl,xm,⟨va,vn,vc⟩,xt⟩:=x;simp only[bG]at hx4;obtain⟨a',c',e4⟩:=hx4.len;injection e4 with e1 e2 e3
 subst e1 e2 e3;have hn0: ¬r.args.length=0:=fun e=>ha (PH e)
 simp only at HW ⊢;obtain⟨sf,hsf⟩: ∃sf,(cz {s with b:=aP s.b K,d:=s.d++cK xl (df 0 r.args).2} (bL kd xl 0 (df 0 r.args).1))=sf:=⟨_,rfl⟩;rw[hsf]at HW ⊢;obtain⟨kn,hkn⟩: ∃n,K.length=n:=⟨_,rfl⟩;rw[hkn]at HS z3;obtain⟨an,han⟩: ∃n,r.args.length=n:=⟨_,rfl⟩;rw[han]at hn0 hW1 HW ⊢;have hn1: ¬(an:Int)=0:=by omega
 simp only[ak,bG,ae,dN,pv,aj]at hW1 HW ⊢;clear h hM1 hYl hs1 hcb hSH hkv hSk hKl hb hbs hD hx4 ha hF1 hF2 hF3 hY1 hY2 hY3 hdr b1 kx hsf hkn hxw hl hq hq2 hql hqd han;go_enter Tryz.func83,Tryz.ntmps83
 go_upto_region 1 with fail
 go_still_tail 5,(by kernel_rfl)
 change wpList _ _ _ _ _ W1.drew;clear hW1;go_wp2_with fail
 refine HS.out.mono ?_;rintro e w2 ⟨rfl,m2⟩;obtain⟨y0,y1,V2,hV2,y2,y3,y4,HC⟩:=HW.out w2 m2;have HV2:=zH hV2;clear m2 HW HS c0 z1 z3 hV2;go_upto_region 3 with fail
 rw[HV2.out];go_wp2_with fail
 refine HC.out.mono ?_;rintro e w3 ⟨p1,p2,p3,rfl,z,u0,u1,V5,hV5,u2,u3,HO⟩;have d0:=u3 0 _ rfl;have d1:=u3 1 _ rfl;have d2:=u3 2 _ rfl;have d3:=u3 3 _ rfl;have d4:=u3 4 _ rfl;have d5:=u3 5 _ rfl;have d6:=u3 6 _ rfl;have d7:=u3 7 _ rfl;have d8:=u3 8 _ rfl;have d9:=u3 9 _ rfl;clear u3 HC y0 y1 y2 y3 y4;go_wp2_with fail
 refine HO.out.mono ?_;rintro e w4 ⟨rfl,m4⟩;have M4:=zH m4;clear m4;go_wp2_with fail
 go_end0;exact⟨rfl,M4.out⟩
end
end Go.Proofs.YtebabjnngdjceaaGreatDoor
