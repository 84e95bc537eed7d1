/- A table's reader: the glyphs of a text, and what is wrong in it. A reader's methods: words. A reader's own rows grow: rows of glyphs, texts. A reader's methods: glyphs. A reader's methods: line, here. A reader's macros: title, paragraph, outdent, begins. -/
import Derived.Test.YtebabjnngdjceaaGreatDoorDa
import Derived.RangeFuncNested
import Derived.RangeFuncBound
import Derived.RangeFuncCalls
import Derived.RangeFuncLeaves
import Derived.OwnWalkIn
import Derived.TacticsInMore
import Derived.LoopNIn
import Derived.LoopIn
import Derived.Test.YtebabjnngdjceaaGreatDoorJI
import Derived.Test.YtebabjnngdjceaaGreatDoorBs
import Derived.Test.YtebabjnngdjceaaGreatDoorJA
import Derived.Test.YtebabjnngdjceaaGreatDoorY3
import Derived.Test.YtebabjnngdjceaaGreatDoorK0
import Derived.BigQuiet
import Derived.Sort.QuietIn
import Derived.Test.YtebabjnngdjceaaGreatDoorHa
import Derived.Deep.RegionLaw
import Derived.BigRegion
import Derived.Test.YtebabjnngdjceaaGreatDoorZ0
import Derived.Test.YtebabjnngdjceaaGreatDoorY5
import Derived.Test.YtebabjnngdjceaaGreatDoorCc
import Derived.Deep.RegionWith
import Derived.StillTailTactics
import Derived.Test.YtebabjnngdjceaaGreatDoorBe
import Derived.Laws.CopyRow
import Derived.Laws.IdiomCopy
set_option linter.unusedVariables false
set_option linter.unusedSimpArgs false
set_option maxRecDepth 100000
set_option maxHeartbeats 8000000
namespace Go.Proofs.YtebabjnngdjceaaGreatDoor
open Go.RowKit
theorem qm {W W':World} {args:Array Value} {v:Value} (h:(ic args).run Tryz.prog W= .ok (.value v) W'):(Builtin.append_ #[29,29] 29 args).run Tryz.prog W= .ok v W':=by
 unfold ic at h;rw[Qh]at h
 cases k:(Builtin.append_ #[29,29] 29 args).run Tryz.prog W with
 | ok u w1=>
  rw[k,PT,Qm]at h;injection h with h1 h2
  injection h1 with h1
  rw[h1,h2]
 | _=>rw[k]at h;cases h
def LX (BI:BIT) (w0:World) (Y:Nat→Prop) (w:World) (B:Nat) (s':Md) (g:List Gly) (x:Value) (w':World):Prop:=
 ∃Y' S,MM BI w0 Y' w' B s'∧Exc Y w w'∧(∀k,Y' k→Y k∨w.heap.size≤k)∧FsS S 2 aX w' x g∧ ∀k,S k→w.heap.size≤k∧k<w'.heap.size∧ ¬Y' k
section
variable {BI:BIT} {TB:World→Prop} {w w0:World} {B:Nat} {s:Md} {Y:Nat→Prop}
attribute [local go_sem ↓ high] aM
theorem MM.more (I:dV BI) (h:MM BI w0 Y w B s) {W:World} (hb:Below w.heap.size w W) {u x:Value} {m:List Dgn} {g:List Gly} (hu:Ds W u m) (hx:aI w.heap.size W x g) (hl:s.d.length+m.length≤1000000):
  ∃dv dv' w2,W.cell? ⟨B,14,none⟩=some dv∧w.cell? ⟨B,14,none⟩=some dv∧(ic #[dv,u]).run Tryz.prog W= .ok (.value dv') w2∧w2.cell? ⟨B,14,none⟩=some dv∧w2.frozen? ⟨B,14,none⟩=false∧LX BI w0 Y w B {s with d:=s.d++m} g x (w2.setCell ⟨B,14,none⟩ dv')∧(∃a c,dv= .slice a s.d.length c)∧ ∃a c,dv'= .slice a (s.d++m).length c:=by
 obtain⟨h1,h2,X,R,lo,b,wv,rv,tv,dv,h3,h4⟩:=h;obtain⟨dv',w2,lo',hr,q7,f7,hM,hE,hL⟩:=h3.dgs I hb hu hl;have hY: ∀k,X k∨lo' k≠0→Y k∨W.heap.size≤k:=fun k q=>q.elim (fun z=> .inl ((h4 k).2 (.inl z))) (fun z=>(hL k z).imp (fun z=>(h4 k).2 (.inr z)) id)
 have hYl: ∀k,Y k→k<w.heap.size:=fun k q=>((h4 k).1 q).elim (fun z=>h3.lt I k (.inl z)) (fun z=>h3.ll k z)
 have hs:=hb.size;have hs0:=h1.size;have hgx: ∀k,x.ownBlock=some k→w.heap.size≤k∧k<W.heap.size:=fun k e=>⟨(hx.ty e).1,hx.ltb e⟩
 have hF:aI w.heap.size (w2.setCell ⟨B,14,none⟩ dv') x g:=by
  refine hx.kp (fun k e=>hE.block k (hgx k e).2 (fun q=>?_));have:=h3.ll k q;have:=(hgx k e).1;omega
 have hEY:Exc Y w (w2.setCell ⟨B,14,none⟩ dv'):=(Exc.of (X:=Y) hb).trans (hE.mono (Y:=Y) (fun k _ q=>(h4 k).2 (.inr q))) (fun _ _ q=>q);refine⟨dv,dv',w2,(h3.box.below hb).cell 14,h3.box.cell 14,hr,q7,f7,⟨fun k=>X k∨lo' k≠0,fun k=>x.ownBlock=some k,⟨h1.trans (hEY.below hs0 (fun k hk q=>by have:=h2 k q;omega)),fun k q=>(hY k q).elim (h2 k) (fun z=>by omega),X,R,lo',b,wv,rv,tv,dv',hM,fun k=>Ri⟩,hEY,fun k q=>(hY k q).imp id (fun z=>by omega),wG ah hF,fun k e=>⟨(hgx k e).1,hF.ltb e,fun q=>(hY k q).elim (fun z=>by have:=hYl k z;have:=(hgx k e).1;omega) (fun z=>by have:=(hgx k e).2;omega)⟩⟩,h3.d_at,hM.d_at⟩
theorem QTY {P:Prop}(h:P:=by
 refine hK.out _ _ ?_ (fun hHeld=>?_)
 ·exact trivial
 clear hK K
 try simp only[zT,zS,zZ,Act.put,yT,yZ,yS]
 refine wpAnyH_ready (rs:=[8]) (by kernel_rfl) (by simp) ?_;refine AllReadyH.cons rfl (fun K hK=>?_) AllReadyH.nil
 try simp only[zT,zS,zZ]
 rw[Pk (by kernel_rfl)];refine wp_append_run (.tmp 18) (.tmp 21) 29 29 rfl _ _ rfl rfl (qm hr) ?_;refine hK.out _ _ ?_ (fun hHeld=>?_)
 ·exact trivial
 clear hK K
 try simp only[zT,zS,zZ,Act.put,yT,yZ,yS]
 refine zK (i:=9) (v:= .pointer (some ⟨B,0,none⟩)) rfl ?_;simp only[zT,zS,zZ,Act.put,yT,yZ,yS];refine zK (i:=10) (v:= .pointer (some ⟨B,14,none⟩)) rfl ?_;simp only[zT,zS,zZ,Act.put,yT,yZ,yS];refine wpAnyH_ready (rs:=[11]) (by kernel_rfl) (by simp) ?_;refine AllReadyH.cons rfl (fun K hK=>?_) AllReadyH.nil
 try simp only[zT,zS,zZ]
 go_simp;refine hK.out _ _ ?_ (fun hHeld=>?_)
 ·exact trivial
 clear hK K
 try simp only[zT,zS,zZ,Act.put,yT,yZ,yS]
 refine PK (by kernel_rfl) ?_ _;go_wp2_with fail
 go_ret;exact⟨_,rfl,HG.out⟩):P:=h
theorem Cb (I:dV BI) (h:MM BI w0 Y w B s) (ln:Int) (L:List Txt) (v:Value) (hv:Ss w v L) (hl:lnT L≤40000) (hL: ∀s∈L,s.length≤2000) (hD:s.d.length≤500000):
  Calls Tryz.prog 85 #[ax B,.int .i64 ln,v] w fun e w'=> ∃x,e= .returned x∧LX BI w0 Y w B {s with d:=s.d++cK ln (df 0 L).2} (df 0 L).1 x w':=by
 have HW:=zH (nG 0 L v w hv hl hL);have hq2:=(dR 0 L ([],[])).2;have hql:(df 0 L).2.length≤80000:=by rw[ig];unfold dC;simp only[Pm]at hq2;omega
 obtain⟨q,hq⟩: ∃q,df 0 L=q:=⟨_,rfl⟩;rw[hq]at HW hql ⊢;have HA:Hid (∀V d,aL w.heap.size V d (bC q.2)→Calls Tryz.prog 37 #[.int .i64 ln,d] V fun e w'=>e= .returned d∧aL w.heap.size w' d (atL ln (bC q.2))∧Exc (fun k=>d.ownBlock=some k) V w'):=zH (fun V d h=>oQ ln V h (by unfold bC;simp;omega));have HM:Hid (∀W x d,aI w.heap.size W x q.1→aL w.heap.size W d (cK ln q.2)→Below w.heap.size w W→ ∃dv dv' w2,W.cell? ⟨B,14,none⟩=some dv∧w.cell? ⟨B,14,none⟩=some dv∧(ic #[dv,d]).run Tryz.prog W= .ok (.value dv') w2∧w2.cell? ⟨B,14,none⟩=some dv∧w2.frozen? ⟨B,14,none⟩=false∧LX BI w0 Y w B {s with d:=s.d++cK ln q.2} q.1 x (w2.setCell ⟨B,14,none⟩ dv')∧(∃a c,dv= .slice a s.d.length c)∧ ∃a c,dv'= .slice a (s.d++cK ln q.2).length c):=
  zH (fun W x d o1 o2 hb=>h.more I hb (ag.sl ai o2) o1 (by unfold cK;simp;omega))
 have HD0:Hid (∃a c,∀W,Below w.heap.size w W→W.cell? ⟨B,14,none⟩=some (.slice a s.d.length c)):=zH (by
  obtain⟨h1,h2,X,R,lo,b,wv,rv,tv,dv,h3,h4⟩:=h;obtain⟨a,c,e⟩:=h3.d_at;exact⟨a,c,fun W hb=>by rw[(h3.box.below hb).cell 14,←e];rfl⟩)
 clear hv hl hL hq hql hq2 hD h;go_enter Tryz.func85,Tryz.ntmps85
 go_wp2_with fail
 refine HW.out.mono ?_;rintro e w2 ⟨x,d,rfl,o1,o2,b2⟩;obtain⟨ea,ec,rfl⟩:=(ag.sl ai o2).len;obtain⟨xa,xc,rfl⟩:=(ag.sl ah o1).len;obtain⟨da,dc,hdc⟩:=HD0.out;have hd2:=hdc w2 b2;have HA2:Hid (∀V,Below w2.heap.size w2 V→Calls Tryz.prog 37 #[.int .i64 ln,.slice ea (bC q.2).length ec] V fun e w'=> ∃a' m' c' w4,e= .returned (.slice ea (bC q.2).length ec)∧w'.cell? ⟨B,14,none⟩=some (.slice da s.d.length dc)∧(ic #[.slice da s.d.length dc,.slice ea (bC q.2).length ec]).run Tryz.prog w'= .ok (.value (.slice a' m' c')) w4∧w4.cell? ⟨B,14,none⟩=some (.slice da s.d.length dc)∧w4.frozen? ⟨B,14,none⟩=false∧Hid (LX BI w0 Y w B {s with d:=s.d++cK ln q.2} q.1 (.slice xa q.1.length xc) (w4.setCell ⟨B,14,none⟩ (.slice a' m' c')))):=zH (fun V hV=>by
  have o1':=o1.keep hV;have o2':=o2.keep hV;refine(HA.out V _ o2').mono ?_;rintro e w3 ⟨rfl,m1,m2⟩;obtain⟨p1,p2,p3⟩:=oW (ln:=ln) o1' o2' (b2.trans (hV.mono b2.size)) m1 m2;obtain⟨dv,dv',w4,g1,g2,hr,g3,g4,hG,-,⟨a',c',rfl⟩⟩:=HM.out w3 _ _ p1 p2 p3;have e1:=hdc w3 p3;rw[g1]at e1;obtain rfl:=Ph e1;exact⟨a',_,c',w4,rfl,g1,hr,g3,g4,zH hG⟩)
 have HV2:Hid (Below w2.heap.size w2 w2.drew):=zH (OX _ w2).drew;clear HD0 HW hdc o1 o2 b2 HA HM;obtain⟨m,hm⟩: ∃m,s.d.length=m:=⟨_,rfl⟩;rw[hm]at hd2 HA2;obtain⟨n2,hn2⟩: ∃m,(bC q.2).length=m:=⟨_,rfl⟩;obtain⟨n1,hn1⟩: ∃m,q.1.length=m:=⟨_,rfl⟩;rw[hn2,hn1]at HA2;rw[hn2,hn1];clear hm hn2 hn1;go_wp2_with fail
 refine wp_region_held_drew (S:=(fun _=>True)) (by kernel_rfl) ?_ (fun hHeld=>?_)
 ·exact trivial
 refine zK (i:=0) (v:= .pointer (some ⟨B,0,none⟩)) rfl ?_;simp only[zT,zS,zZ,Act.put,yT,yZ,yS];refine zK (i:=1) (v:= .pointer (some ⟨B,0,none⟩)) rfl ?_;simp only[zT,zS,zZ,Act.put,yT,yZ,yS];refine zK (i:=2) (v:= .pointer (some ⟨B,0,none⟩)) rfl ?_;simp only[zT,zS,zZ,Act.put,yT,yZ,yS];refine zK (i:=3) (v:= .pointer (some ⟨B,14,none⟩)) rfl ?_;simp only[zT,zS,zZ,Act.put,yT,yZ,yS];refine zK (i:=5) (v:= .int .i64 ln) rfl ?_;simp only[zT,zS,zZ,Act.put,yT,yZ,yS];refine zK (i:=6) (v:= .slice ea n2 ec) rfl ?_;simp only[zT,zS,zZ,Act.put,yT,yZ,yS];refine wpAnyH_ready (rs:=[4,7]) (by kernel_rfl) (by simp) ?_;refine AllReadyH.cons rfl (fun K hK=>?_) (AllReadyH.cons rfl (fun K hK=>?_) AllReadyH.nil)
 ·try simp only[zT,zS,zZ]
  go_simp;refine hK.out _ _ ?_ (fun hHeld=>?_)
  ·exact trivial
  clear hK K
  try simp only[zT,zS,zZ,Act.put,yT,yZ,yS]
  refine wpAnyH_ready (rs:=[7]) (by kernel_rfl) (by simp) ?_;refine AllReadyH.cons rfl (fun K hK=>?_) AllReadyH.nil
  try simp only[zT,zS,zZ]
  go_simp;go_at_call 37
  refine(HA2.out _ HV2.out).mono ?_;rintro e w3 ⟨a',m',c',w4,rfl,c3,hr,c4,f4,HG⟩;go_wp2_with fail
  exact QTY
 ·try simp only[zT,zS,zZ]
  go_simp;go_at_call 37
  refine(HA2.out _ HV2.out).mono ?_;rintro e w3 ⟨a',m',c',w4,rfl,c3,hr,c4,f4,HG⟩;go_wp2_with fail
  refine hK.out _ _ ?_ (fun hHeld=>?_)
  ·exact trivial
  clear hK K
  try simp only[zT,zS,zZ,Act.put,yT,yZ,yS]
  refine wpAnyH_ready (rs:=[4]) (by kernel_rfl) (by simp) ?_;refine AllReadyH.cons rfl (fun K hK=>?_) AllReadyH.nil
  try simp only[zT,zS,zZ]
  go_simp;exact QTY
end
theorem Nz {base:Nat} {W:World} {x u:Value} {l m:List PV} (h:ag 26 1 aS base W x l) (hu:Fs 1 aS W u m) (hb:base≤W.heap.size) (hd:l.length+m.length≤1000000):
  ∃x' w',(Dn #[x,u]).run Tryz.prog W= .ok (.value x') w'∧ag 26 1 aS base w' x' (l++m)∧W.grownBy w' x.ownBlock∧(x'.ownBlock=x.ownBlock∨x'.ownBlock=some W.heap.size):=by
 obtain⟨i0,hi,hz0,hz1,hz2⟩:=PU yx;obtain⟨x',w',hr,r⟩:=lX bO pV (by decide) Tryz.underlying53 hi hz0 hz1 hz2 rfl (by decide) h hu hb hd;refine⟨x',w',?_,r⟩;unfold Dn;simp only[Qh,Qm,PT,hr]
section
variable {BI:BIT} {TB:World→Prop} {X R:Nat→Prop} {lo:Nat→Nat} {w w0:World} {B b:Nat} {s:Md} {wv rv tv dv:Value} {Y:Nat→Prop}
structure OP (BI:BIT) (X R:Nat→Prop) (lo lo':Nat→Nat) (w W W2 F:World) (B b:Nat) (s:Md) (wv rv tv dv:Value) (j z:Nat) (v':Value):Prop where
 box0:Blk W2 B 79 (mnC b s.th wv (kdM s) (lnM s) rv tv dv)
 box:Blk F B 79 ((mnC b s.th wv (kdM s) (lnM s) rv tv dv).set j v')
 own: ∀k,v'.ownBlock=some k→F.heap[k]? =W2.heap[k]?
 exc:Exc (fun k=>lo k≠0) W F
 kp: ∀S:Nat→Prop,(∀k,S k→k<w.heap.size∧lo k≠z∧lo k≠2)→Kp S W F
 lab: ∀{k:Nat} y,y≠z→y≠0→lo k=y→lo' k=y
 l0: ∀{k:Nat},k<w.heap.size→lo k=0→lo' k=0
 labo: ∀k,v'.ownBlock=some k→lo' k=z
 more: ∀k,lo' k≠0→lo k≠0∨W.heap.size≤k
 lt: ∀k,lo' k≠0→k<F.heap.size
 bi:BI X R F b s.b
theorem MC.grow (I:bI BI TB) (h:MC BI X R lo w B b s wv rv tv dv) {W W2:World} (hb:Below w.heap.size w W) (j z:Nat) (hz0:z≠0) (hz2:z≠2) {v v':Value} (hvb: ∀k,v.ownBlock=some k→lo k=z) (hg:W.grownBy W2 v.ownBlock) (hown:v'.ownBlock=v.ownBlock∨v'.ownBlock=some W.heap.size) (hlt: ∀k,v'.ownBlock=some k→k<W2.heap.size):
  OP BI X R lo (jw lo z v'.ownBlock) w W W2 (W2.setCell ⟨B,j,none⟩ v') B b s wv rv tv dv j z v':=by
 have hW:=h.keep I hb;have hs:=hb.size;have ho4: ∀k,v'.ownBlock=some k→lo k=z∨W.heap.size≤k:=fun k e=>by
  rcases hown with q | q
  ·exact .inl (hvb k (by rw[←q];exact e))
  ·rw[q]at e
   obtain rfl:=Ph e;exact .inr (OW _)
 have ho3: ∀k,v'.ownBlock=some k→lo k=z∨w.heap.size≤k:=fun k e=>(ho4 k e).imp id (fun z=>by omega)
 have hE2:Exc (fun k=>v.ownBlock=some k) W W2:=⟨hg.os,hg.tape,hg.output,hg.size,fun k hk hx=>hg.block k hk (fun e=>hx e.symm)⟩;have hBz: ¬v.ownBlock=some B:=fun e=>by have:=hvb B e;rw[h.lb]at this;omega
 have box2:Blk W2 B 79 (mnC b s.th wv (kdM s) (lnM s) rv tv dv):=hE2.blk hW.box hBz;have hE3:Exc (fun k=>v.ownBlock=some k∨k=B) W (W2.setCell ⟨B,j,none⟩ v'):=(hE2.mono (fun k _ q=> .inl q)).set j _ (fun _=> .inr rfl);have hBs: ∀k,v'.ownBlock=some k→k≠B:=fun k e q=>by
  subst q;rcases ho3 _ e with q | q
  ·rw[h.lb]at q;omega
  ·have:=h.ll k (by rw[h.lb];decide);omega
 have hne: ∀k,lo k≠z→lo k≠2→ ¬(v.ownBlock=some k∨k=B):=fun k q1 q2 q=>q.elim (fun e=>q1 (hvb k e)) (fun e=>q2 (by rw[e];exact h.lb))
 have kp: ∀S:Nat→Prop,(∀k,S k→k<w.heap.size∧lo k≠z∧lo k≠2)→Kp S W (W2.setCell ⟨B,j,none⟩ v'):=fun S hS k q=>hE3.block k (O0 (hS k q).1 hs) (hne k (hS k q).2.1 (hS k q).2.2)
 have hFs:=hE3.size;have hsz:(W2.setCell ⟨B,j,none⟩ v').heap.size=W2.heap.size:=dz _ _ _;refine⟨box2,box2.set j v',fun k e=>O8 _ ⟨B,j,none⟩ _ _ (hBs k e),?_,kp,fun {k} y q0 q1 q=>by rw[jv ho3 (h.ll k (by omega)) (by omega),q],fun {k} hk q=>by rw[jv ho3 hk (by omega),q],fun k e=>rM e,fun k q=>wY ho4 hz0 q,fun k q=>?_,?_⟩
 ·exact hE3.mono (Y:=fun k=>lo k≠0) (fun k hk q=>by
   rcases q with q | q
   ·rw[hvb k q];exact hz0
   ·rw[q,h.lb];decide)
 ·refine wZ (N:=(W2.setCell ⟨B,j,none⟩ v').heap.size) (fun k q=>by have:=h.ll k q;omega) (fun k e=>?_) q
  rw[hsz];exact hlt k e
 ·exact I.keep hW.bi (kp X (fun k q=>⟨h.lt I k (.inl q),by rw[h.lx k q];omega,by rw[h.lx k q];decide⟩)) (kp R (fun k q=>⟨h.lt I k (.inr (.inl q)),by rw[h.lr k q];omega,by rw[h.lr k q];decide⟩)) hFs
theorem MC.row (I:bI BI TB) (h:MC BI X R lo w B b s wv rv tv dv) {v0:Int×List (List Gly)} (hv:s.v=some v0) {W:World} (hb:Below w.heap.size w W) {S:Nat→Prop} {p:PV} {g:List Gly} (hp:FsS S 2 aX W (pv p) g) (hS: ∀k,S k→k<w.heap.size∧ ¬X k∧lo k=0) {u:Value} (hu:Fs 1 aS W u [p]) (hl:v0.2.length≤500000):
  ∃rv' w2 lo',(Dn #[rv,u]).run Tryz.prog W= .ok (.value rv') w2∧w2.cell? ⟨B,8,none⟩=some rv∧w2.frozen? ⟨B,8,none⟩=false∧MC BI X (fun k=>R k∨S k) lo' (w2.setCell ⟨B,8,none⟩ rv') B b {s with v:=some (v0.1,v0.2++ [g]) } wv rv' tv dv∧
   Exc (fun k=>lo k≠0) W (w2.setCell ⟨B,8,none⟩ rv')∧(∀k,lo' k≠0→lo k≠0∨W.heap.size≤k)∧(∃a c,rv= .slice a v0.2.length c)∧ ∃a c,rv'= .slice a (v0.2.length+1) c:=by
 have hW:=h.keep I hb;have hrw:rwM s=v0.2:=by unfold rwM;rw[hv]
 obtain⟨L,hL,hLo,hLg⟩:=hW.rg;rw[hrw]at hL hLg;obtain⟨rv',w2,hr,ho,hg,hown⟩:=Nz hLo hu (Qr _) (by simp;omega);have hs:=hb.size;have hG:=h.grow I hb 8 5 (by decide) (by decide) h.rgb hg hown (fun k e=>ho.ltb e);obtain⟨F,hF⟩: ∃F,w2.setCell ⟨B,8,none⟩ rv'=F:=⟨_,rfl⟩;rw[hF]at hG;have hrg:=h.rg.len;have kR:Kp R W F:=hG.kp R (fun k q=>⟨h.lt I k (.inr (.inl q)),by rw[h.lr k q];decide,by rw[h.lr k q];decide⟩);have kS:Kp S W F:=hG.kp S (fun k q=>⟨(hS k q).1,by rw[(hS k q).2.2];decide,by rw[(hS k q).2.2];decide⟩);have kz: ∀y,y≠0→y≠2→y≠5→Kp (fun k=>lo k=y) W F:=fun y q0 q2 q5=>hG.kp _ (fun k q=>⟨h.ll k (by omega),by omega,by omega⟩)
 have hkd:kdM {s with v:=some (v0.1,v0.2++ [g]) }=kdM s:=by unfold kdM;rw[hv]
 have hlm:lnM {s with v:=some (v0.1,v0.2++ [g]) }=lnM s:=by unfold lnM;rw[hv]
 have hgn:s.g=none:=h.ok.vg.resolve_left (by rw[hv];simp);refine⟨rv',w2,jw lo 5 rv'.ownBlock,hr,hG.box0.cell 8,hG.box0.frozen (by simp[mnC]),?_,by rw[hF];exact hG.exc,hG.more,?_,?_⟩
 ·rw[hF]
  refine⟨⟨.inr hgn,fun _=>h.ok.vw (by rw[hv];simp),h.ok.gw⟩,hG.lt,fun k q=>hG.l0 (h.lt I k (.inl q)) (h.lx k q),fun k q=>q.elim (fun q=>hG.l0 (h.lt I k (.inr (.inl q))) (h.lr k q)) (fun q=>hG.l0 (hS k q).1 (hS k q).2.2),?_,hG.lab 2 (by decide) (by decide) h.lb,?_,hW.dg.kp (fun k e=>kz 3 (by decide) (by decide) (by decide) k (h.dgb k e)),fun k e=>hG.lab 3 (by decide) (by decide) (h.dgb k e),
   hW.tx.kp (fun k e=>kz 4 (by decide) (by decide) (by decide) k (h.txb k e)),fun k e=>hG.lab 4 (by decide) (by decide) (h.txb k e),⟨L++ [p],by simp[rwM,hL],ho.kp (fun k e=>hG.own k e),fun i p' r a c=>?_⟩,fun k e=>hG.labo k e,fun e=>(by cases e),h.tn,(hW.wt.keep (kz 6 (by decide) (by decide) (by decide))).relab (fun k q=>hG.lab 6 (by decide) (by decide) q)⟩
  ·refine I.more hG.bi (fun k q=> .inl q) (fun k q=>q.imp id (fun q=>⟨?_,(hS k q).2.1⟩))
   have:=hG.exc.size;have:=(hS k q).1;omega
  ·rw[hkd,hlm];exact hG.box
  ·by_cases hi:i<L.length
   ·rw[PE hi]at a
    have c':v0.2[i]? =some r:=by
     have c2:(v0.2++ [g])[i]? =some r:=c;rw[PE (by omega)]at c2;exact c2
    exact((hLg i p' r a c').keep kR).mono (fun k q=> .inl q)
   ·rw[Ps (by omega)]at a
    have c':[g][i-v0.2.length]? =some r:=by
     have c2:(v0.2++ [g])[i]? =some r:=c;rw[Ps (by omega)]at c2;exact c2
    have hi0:i-L.length=0:=by
     have:=(OV.1 a).1;simp at this;omega
    rw[hi0]at a;rw[←hL,hi0]at c';simp at a c';subst a c';exact(hp.keep kS).mono (fun k q=> .inr q)
 ·rw[hrw]at hrg;exact hrg
 ·obtain⟨a,c,e⟩:=(ag.sl bO ho).len
  exact⟨a,c,by rw[e];simp[hL]⟩
theorem MC.txt (I:bI BI TB) (h:MC BI X R lo w B b s wv rv tv dv) {g0:Int×List Txt} (hv:s.g=some g0) {W:World} (hb:Below w.heap.size w W) {t:Txt} {u:Value} (hu:Ss W u [t]) (hl:g0.2.length≤500000):
  ∃tv' w2 lo',(qY #[tv,u]).run Tryz.prog W= .ok (.value tv') w2∧w2.cell? ⟨B,13,none⟩=some tv∧w2.frozen? ⟨B,13,none⟩=false∧MC BI X R lo' (w2.setCell ⟨B,13,none⟩ tv') B b {s with g:=some (g0.1,g0.2++ [t]) } wv rv tv' dv∧
   Exc (fun k=>lo k≠0) W (w2.setCell ⟨B,13,none⟩ tv')∧(∀k,lo' k≠0→lo k≠0∨W.heap.size≤k)∧(∃a c,tv= .slice a g0.2.length c)∧ ∃a c,tv'= .slice a (g0.2.length+1) c:=by
 have hW:=h.keep I hb;have htx:txM s=g0.2:=by unfold txM;rw[hv]
 have hTo:=hW.tx;rw[htx]at hTo;obtain⟨tv',w2,hr,ho,hg,hown⟩:=AZ hTo hu (Qr _) (by simp;omega);have hs:=hb.size;have hG:=h.grow I hb 13 4 (by decide) (by decide) h.txb hg hown (fun k e=>ho.ltb e);obtain⟨F,hF⟩: ∃F,w2.setCell ⟨B,13,none⟩ tv'=F:=⟨_,rfl⟩;rw[hF]at hG;have kR:Kp R W F:=hG.kp R (fun k q=>⟨h.lt I k (.inr (.inl q)),by rw[h.lr k q];decide,by rw[h.lr k q];decide⟩);have kz: ∀y,y≠0→y≠2→y≠4→Kp (fun k=>lo k=y) W F:=fun y q0 q2 q5=>hG.kp _ (fun k q=>⟨h.ll k (by omega),by omega,by omega⟩)
 have hvn:s.v=none:=h.ok.vg.resolve_right (by rw[hv];simp);have hkd:kdM {s with g:=some (g0.1,g0.2++ [t]) }=kdM s:=by unfold kdM;rw[hvn,hv]
 have hlm:lnM {s with g:=some (g0.1,g0.2++ [t]) }=lnM s:=by unfold lnM;rw[hvn,hv]
 refine⟨tv',w2,jw lo 4 tv'.ownBlock,hr,hG.box0.cell 13,hG.box0.frozen (by simp[mnC]),?_,by rw[hF];exact hG.exc,hG.more,?_,?_⟩
 ·rw[hF]
  refine⟨⟨.inl hvn,h.ok.vw,fun _=>h.ok.gw (by rw[hv];simp)⟩,hG.lt,fun k q=>hG.l0 (h.lt I k (.inl q)) (h.lx k q),fun k q=>hG.l0 (h.lt I k (.inr (.inl q))) (h.lr k q),hG.bi,hG.lab 2 (by decide) (by decide) h.lb,?_,hW.dg.kp (fun k e=>kz 3 (by decide) (by decide) (by decide) k (h.dgb k e)),fun k e=>hG.lab 3 (by decide) (by decide) (h.dgb k e),
   ho.kp (fun k e=>hG.own k e),fun k e=>hG.labo k e,hW.rg.keep kR (fun k e=>kz 5 (by decide) (by decide) (by decide) k (h.rgb k e)),fun k e=>hG.lab 5 (by decide) (by decide) (h.rgb k e),h.rn,fun e=>(by cases e),(hW.wt.keep (kz 6 (by decide) (by decide) (by decide))).relab (fun k q=>hG.lab 6 (by decide) (by decide) q)⟩
  rw[hkd,hlm];exact hG.box
 ·have:=(ag.sl dh h.tx).len
  rw[htx]at this;exact this
 ·obtain⟨a,c,e⟩:=(ag.sl dh ho).len
  exact⟨a,c,by rw[e];simp⟩
end
theorem rQ: ∀l:List Gly,bF l=0↔ink l=[]
 | []=>by simp[bF,ink]
 | g::l=>by
  have ih:=rQ l;unfold bF ink;rw[List.filter_cons]
  by_cases hg:g.1=32
  ·have e:(g.1 != 32)=false:=by simp[hg]
   rw[e]
   by_cases h0:bF l=0
   ·rw[Pk ⟨h0,hg⟩]
    have:=ih.1 h0;unfold ink at this;simp[this]
   ·rw[Pd (fun h=>h0 h.1)]
    have: ¬ink l=[]:=fun e=>h0 (ih.2 e)
    unfold ink at this;simp only[PO,QO]
    constructor
    ·intro h;omega
    ·intro h;exact absurd h this
  ·have e:(g.1 != 32)=true:=by simp[hg]
   rw[e,Pd (fun h=>hg h.2)];simp
def dN (k ln n:Int) (p:PV):NV:=⟨k,ln,n,p,aj,aj,[],aj,false,false⟩
theorem rq {S:Nat→Prop} {V:World} {k ln n:Int} {p:PV} {g:List Gly} (h:FsS S 2 aX V (pv p) g):qo S V (dN k ln n p) (.mk (bL k ln n g) []):=
 ⟨⟨rfl,rfl,rfl,h,GrS.nil S V,rfl,TrS.nil S V,rfl,rfl⟩,NsS.nil S V⟩
section
variable {BI:BIT} {TB:World→Prop} {w w0:World} {B:Nat} {s:Md} {Y:Nat→Prop}
attribute [local go_sem ↓ high] iy
def CG (s:Md) (r:bu) (g:List Gly):Md:=if r.mac≠ []∧r.args=[] then aK s 5 r.line else Aw s r g
theorem aZ {x:RV} (w:World): ∃W1,w.alloc (.cells (ak x).toArray 33)=W1∧Below w.heap.size w W1∧Blk W1 w.heap.size 33 (ak x):=
 ⟨_,rfl,af _ _,O9 w _⟩
theorem MM.kd (h:MM BI w0 Y w B s) (I:bI BI TB): ∀W,Below w.heap.size w W→W.cell? ⟨B,3,none⟩=some (.int .i64 (kdM s)):=by
 obtain⟨h1,h2,X,R,lo,b,wv,rv,tv,dv,h3,h4⟩:=h;exact fun W hb=>(h3.box.below hb).cell 3
theorem MM.wn (h:MM BI w0 Y w B s) (I:bI BI TB) (hw:s.w=none): ∀W,Below w.heap.size w W→W.cell? ⟨B,2,none⟩=some (.pointer none):=by
 obtain⟨h1,h2,X,R,lo,b,wv,rv,tv,dv,h3,h4⟩:=h;have hwt:=h3.wt;rw[hw]at hwt;obtain rfl:wv= .pointer none:=hwt;exact fun W hb=>(h3.box.below hb).cell 2
theorem MM.take (I:bI BI TB) (h:MM BI w0 Y w B s) {m:MWt} (hw:s.w=some m) {W1:World} (hb:Below w.heap.size w W1): ∃gq,W1.cell? ⟨B,2,none⟩=some (ax gq)∧(∀(i:Nat) c,(ae (vM m))[i]? =some c→W1.cell? ⟨gq,i,none⟩=some c)∧
  ∀W2,Below W1.heap.size W1 W2→W2.cell? ⟨B,2,none⟩=some (ax gq)∧W2.frozen? ⟨B,2,none⟩=false∧B<w.heap.size∧ ∀V,Exc (fun k=>w.heap.size≤k) (W2.setCell ⟨B,2,none⟩ (.pointer none)) V→ ∃Y',MM BI w0 Y' V B {s with w:=none}∧Exc Y w V∧ ∀k,Y' k→Y k:=by
 obtain⟨h1,h2,X,R,lo,b,wv,rv,tv,dv,h3,h4⟩:=h;have hwt:=h3.wt;rw[hw]at hwt;obtain⟨gq,rfl,hg6,hgb⟩:=hwt;refine⟨gq,(h3.box.below hb).cell 2,fun i c hc=>by rw[(hgb.below hb).cell i];exact hc,fun W2 hb2=>?_⟩;have hs1:=hb.size;have hb3:=hb.trans (hb2.mono hb.size);have hM:=h3.keep I hb3;have hN:=hM.noWait I;refine⟨hM.box.cell 2,hM.box.frozen (by simp[mnC]),h3.box.lt,fun V hV=>?_⟩;have kk: ∀S:Nat→Prop,(∀k,S k→k<w.heap.size)→Kp S (W2.setCell ⟨B,2,none⟩ (.pointer none)) V:=fun S hS k q=>hV.block k (by rw[dz];have:=hS k q;have:=hb3.size;omega) (fun z=>by have:=hS k q;omega)
 have hlo: ∀k,(if lo k=6 then 0 else lo k)≠0→lo k≠0:=fun k q e=>q (by rw[Pd (by omega),e])
 have hV2:=hN.keepK I (kk X (fun k q=>h3.lt I k (.inl q))) (kk R (fun k q=>h3.lt I k (.inr (.inl q)))) (kk _ (fun k q=>h3.ll k (hlo k q))) hV.size;have hE:Exc Y w V:=((Exc.of (X:=Y) hb3).trans ((Exc.refl (X:=Y) W2).set 2 (.pointer none) (g:=B) (fun _=>(h4 B).2 (.inr (by rw[h3.lb];decide)))) (fun _ _ q=>q)).trans hV (fun k hk q=>by omega);refine⟨fun k=>X k∨(if lo k=6 then 0 else lo k)≠0,⟨h1.trans (hE.below h1.size (fun k hk q=>by have:=h2 k q;omega)),fun k q=>h2 k ((h4 k).2 (q.imp id (hlo k))),X,R,_,b,_,rv,tv,dv,hV2,fun k=>Ri⟩,hE,fun k q=>(h4 k).2 (q.imp id (hlo k))⟩
theorem KX (I:bI BI TB) (h:MM BI w0 Y w B s) (hT:TB w0) {S:Nat→Prop} {ln:Int} {m text:Txt} {args:List Txt} {va:Option Addr} {vc:Nat} {ua:Option Addr} {uc:Nat} {g:List Gly} (hg:FsS S 2 aX w (.slice ua g.length uc) g) (hS: ∀k,S k→k<w.heap.size∧ ¬Y k) (hb:btl s.b+g.length+10≤30000) (hgl:g.length≤30000) (hD:s.d.length≤500000) (hr:(rwM s).length≤500000) (hm:m≠ []) (ha:args=[]):
  Calls Tryz.prog 59 #[ax B,.agg (ak (ln,m,(va,args.length,vc),text)).toArray,.slice ua g.length uc] w (dH BI w0 Y w B (.tuple #[]) (aK s 5 ln)):=by
 obtain⟨W1,hW1,b1,kx⟩:=aZ (x:=(ln,m,(va,args.length,vc),text)) w;have hM1:=h.keep I b1;have x0:=kx.cell 0;have x1:=kx.cell 1;have x2:=kx.cell 2;have HX0:Hid (∀V,Below W1.heap.size W1 V→V.cell? ⟨w.heap.size,0,none⟩=some (.int .i64 ln)):=zH (fun V hV=>(kx.below hV).cell 0);have HB1:=zH b1;have k3:=hM1.kd I W1 (OX _ _);have HKD:Hid (∀V,Below W1.heap.size W1 V→V.cell? ⟨B,3,none⟩=some (.int .i64 (kdM s))):=zH (hM1.kd I);have d1:=bU hm;have HT:=zH (dG I hM1 5 ln hD);subst ha;simp only[ak,bG,OY,OZ,Pm]at hW1 x0 x1 x2 ⊢;clear h hg hS hb hgl hD hr hM1 kx b1 k3 HKD hm;go_enter Tryz.func59,Tryz.ntmps59
 go_wp2_with fail
 refine HT.out.mono ?_;rintro e w2 ⟨rfl,m2⟩;have M2:=zH (m2.pre HB1.out);clear m2;go_wp2_with fail
 go_end0;exact⟨rfl,M2.out⟩
theorem Af (I:bI BI TB) (h:MM BI w0 Y w B s) (hT:TB w0) {S:Nat→Prop} {ln:Int} {m text:Txt} {args:List Txt} {va:Option Addr} {vc:Nat} {ua:Option Addr} {uc:Nat} {g:List Gly} (hg:FsS S 2 aX w (.slice ua g.length uc) g) (hS: ∀k,S k→k<w.heap.size∧ ¬Y k) (hb:btl s.b+g.length+10≤30000) (hgl:g.length≤30000) (hD:s.d.length≤500000) (hr:(rwM s).length≤500000) (hma:m=[]∨(m≠ []∧args≠ [])) {v0:Int×List (List Gly)} (hv:s.v=some v0):
  Calls Tryz.prog 59 #[ax B,.agg (ak (ln,m,(va,args.length,vc),text)).toArray,.slice ua g.length uc] w (dH BI w0 Y w B (.tuple #[]) ({s with v:=some (v0.1,v0.2++ [g]) })):=by
 obtain⟨W1,hW1,b1,kx⟩:=aZ (x:=(ln,m,(va,args.length,vc),text)) w;have hM1:=h.keep I b1;have x0:=kx.cell 0;have x1:=kx.cell 1;have x2:=kx.cell 2;have HX0:Hid (∀V,Below W1.heap.size W1 V→V.cell? ⟨w.heap.size,0,none⟩=some (.int .i64 ln)):=zH (fun V hV=>(kx.below hV).cell 0);have HB1:=zH b1;have k3:=hM1.kd I W1 (OX _ _);have HKD:Hid (∀V,Below W1.heap.size W1 V→V.cell? ⟨B,3,none⟩=some (.int .i64 (kdM s))):=zH (hM1.kd I);have hmf:m=[]∨((m== [])=false∧ ¬(args.length:Int)=0):=hma.imp id (fun⟨hm,ha⟩=>⟨bU hm,by have:=PS.2 ha;omega⟩);clear hma;rcases hmf with rfl | ⟨d1,hal⟩
 all_goals
  have hkd:kdM s=6:=by unfold kdM;rw[hv]
  rw[hkd]at k3;have hrl:v0.2.length≤500000:=by unfold rwM at hr;rw[hv]at hr;exact hr
  have HR:Hid (∃ra rc ra' rc' w2,W1.cell? ⟨B,8,none⟩=some (.slice ra v0.2.length rc)∧(W1.alloc (.cells #[.slice ua g.length uc] 26)).cell? ⟨B,8,none⟩=some (.slice ra v0.2.length rc)∧(Dn #[.slice ra v0.2.length rc,.slice (some ⟨W1.heap.size,0,none⟩) 1 1]).run Tryz.prog (W1.alloc (.cells #[.slice ua g.length uc] 26))= .ok (.value (.slice ra' (v0.2.length+1) rc')) w2∧w2.cell? ⟨B,8,none⟩=some (.slice ra v0.2.length rc)∧w2.frozen? ⟨B,8,none⟩=false∧Hid (bB BI w0 Y w B {s with v:=some (v0.1,v0.2++ [g]) } (w2.setCell ⟨B,8,none⟩ (.slice ra' (v0.2.length+1) rc')))):=zH (by
   obtain⟨h1,h2,X,R,lo,b,wv,rv,tv,dv,h3,h4⟩:=h;have bl:=af W1 (.cells #[.slice ua g.length uc] 26);have hb2:Below w.heap.size w (W1.alloc (.cells #[.slice ua g.length uc] 26)):=b1.trans (bl.mono b1.size);obtain⟨rv',w2,lo',q1,q2,q3,q4,q5,q6,⟨ra,rc,rfl⟩,⟨ra',rc',rfl⟩⟩:=h3.row I hv hb2 (p:=(ua,g.length,uc)) (hg.keep (Kp.below hb2 (fun k q=>(hS k q).1))) (fun k q=>⟨(hS k q).1,fun e=>(hS k q).2 ((h4 k).2 (.inl e)),Qj fun e=>(hS k q).2 ((h4 k).2 (.inr e))⟩) (bR bO W1 26 [(ua,g.length,uc)]) hrl;refine⟨ra,rc,ra',rc',w2,(h3.box.below b1).cell 8,(h3.box.below hb2).cell 8,q1,q2,q3,zH (MM.aft h1 h2 ?_ q4 (fun k q=> .inl ((h4 k).2 (.inl q))) (fun k q=>(q6 k q).imp (fun z=>(h4 k).2 (.inr z)) (fun z=>Pp hb2.size z)))⟩;exact(Exc.of (X:=Y) hb2).trans (q5.mono (Y:=Y) (fun k _ q=>(h4 k).2 (.inr q))) (fun _ _ q=>q))
  obtain⟨ra,rc,ra',rc',w2,c8,c8',hrun,q8,f8,HF⟩:=HR.out;obtain⟨nv,hnv⟩: ∃n,v0.2.length=n:=⟨_,rfl⟩;obtain⟨ng,hng⟩: ∃n,g.length=n:=⟨_,rfl⟩;rw[hnv]at c8 c8' hrun q8 HF;rw[hng]at c8' hrun;rw[hng];simp only[ak,bG,OY,OZ,Pm]at hW1 x0 x1 x2 ⊢;clear h hg hS hb hgl hD hr hM1 kx b1 HKD HR hkd hrl hnv hng;go_enter Tryz.func59,Tryz.ntmps59
  go_wp2_with fail
  go_end0;exact⟨rfl,HF.out⟩
theorem Ae (I:bI BI TB) (h:MM BI w0 Y w B s) (hT:TB w0) {S:Nat→Prop} {ln:Int} {m text:Txt} {args:List Txt} {va:Option Addr} {vc:Nat} {ua:Option Addr} {uc:Nat} {g:List Gly} (hg:FsS S 2 aX w (.slice ua g.length uc) g) (hS: ∀k,S k→k<w.heap.size∧ ¬Y k) (hb:btl s.b+g.length+10≤30000) (hgl:g.length≤30000) (hD:s.d.length≤500000) (hr:(rwM s).length≤500000) (hma:m=[]∨(m≠ []∧args≠ [])) (hv:s.v=none) (hv2:s.g=none) {m0:MWt} (hw:s.w=some m0):
  Calls Tryz.prog 59 #[ax B,.agg (ak (ln,m,(va,args.length,vc),text)).toArray,.slice ua g.length uc] w (dH BI w0 Y w B (.tuple #[]) (cz {s with w:=none} (bL m0.kind m0.line m0.n g))):=by
 obtain⟨W1,hW1,b1,kx⟩:=aZ (x:=(ln,m,(va,args.length,vc),text)) w;have hM1:=h.keep I b1;have x0:=kx.cell 0;have x1:=kx.cell 1;have x2:=kx.cell 2;have HX0:Hid (∀V,Below W1.heap.size W1 V→V.cell? ⟨w.heap.size,0,none⟩=some (.int .i64 ln)):=zH (fun V hV=>(kx.below hV).cell 0);have HB1:=zH b1;have k3:=hM1.kd I W1 (OX _ _);have HKD:Hid (∀V,Below W1.heap.size W1 V→V.cell? ⟨B,3,none⟩=some (.int .i64 (kdM s))):=zH (hM1.kd I);have hmf:m=[]∨((m== [])=false∧ ¬(args.length:Int)=0):=hma.imp id (fun⟨hm,ha⟩=>⟨bU hm,by have:=PS.2 ha;omega⟩);clear hma;rcases hmf with rfl | ⟨d1,hal⟩
 all_goals
  have hkd:kdM s=0:=by unfold kdM;rw[hv,hv2]
  rw[hkd]at k3;obtain⟨gq,c2,hcg,hW⟩:=h.take I hw b1;have hb2:=af W1 (.cells #[.int .i64 m0.kind,.int .i64 m0.line,.int .i64 m0.n,.slice none 0 0,.slice none 0 0,.slice none 0 0,.string ⟨#[]⟩,.slice none 0 0,.bool false,.bool false] 58);obtain⟨c2',f2',hBl,hV⟩:=hW _ hb2;have hBk:Blk (W1.alloc (.cells #[.int .i64 m0.kind,.int .i64 m0.line,.int .i64 m0.n,.slice none 0 0,.slice none 0 0,.slice none 0 0,.string ⟨#[]⟩,.slice none 0 0,.bool false,.bool false] 58)) W1.heap.size 58 (ae (vM m0)):=O9 W1 _;have hBne:W1.heap.size≠B:=fun e=>by have:=b1.size;omega
  have hs1:=b1.size;have hBk3:Blk (((W1.alloc (.cells #[.int .i64 m0.kind,.int .i64 m0.line,.int .i64 m0.n,.slice none 0 0,.slice none 0 0,.slice none 0 0,.string ⟨#[]⟩,.slice none 0 0,.bool false,.bool false] 58)).setCell ⟨B,2,none⟩ (.pointer none)).setCell ⟨W1.heap.size,3,none⟩ (.slice ua g.length uc)) W1.heap.size 58 (ae (dN m0.kind m0.line m0.n (ua,g.length,uc))):=
   Blk.set (L:=ae (vM m0)) (Exc.blk ((Exc.refl (X:=fun k=>k=B) (W1.alloc (.cells #[.int .i64 m0.kind,.int .i64 m0.line,.int .i64 m0.n,.slice none 0 0,.slice none 0 0,.slice none 0 0,.string ⟨#[]⟩,.slice none 0 0,.bool false,.bool false] 58))).set 2 (.pointer none) (g:=B) (fun _=>rfl)) hBk hBne) 3 (.slice ua g.length uc)
  obtain⟨Y',hM',hE',hY'⟩:=hV (((W1.alloc (.cells #[.int .i64 m0.kind,.int .i64 m0.line,.int .i64 m0.n,.slice none 0 0,.slice none 0 0,.slice none 0 0,.string ⟨#[]⟩,.slice none 0 0,.bool false,.bool false] 58)).setCell ⟨B,2,none⟩ (.pointer none)).setCell ⟨W1.heap.size,3,none⟩ (.slice ua g.length uc)) ((Exc.refl _ _).set 3 _ (fun _=>hs1));have HO:Hid (Calls Tryz.prog 86 #[ax B,.agg #[.int .i64 m0.kind,.int .i64 m0.line,.int .i64 m0.n,.slice ua g.length uc,.slice none 0 0,.slice none 0 0,.string ⟨#[]⟩,.slice none 0 0,.bool false,.bool false]] (((W1.alloc (.cells #[.int .i64 m0.kind,.int .i64 m0.line,.int .i64 m0.n,.slice none 0 0,.slice none 0 0,.slice none 0 0,.string ⟨#[]⟩,.slice none 0 0,.bool false,.bool false] 58)).setCell ⟨B,2,none⟩ (.pointer none)).setCell ⟨W1.heap.size,3,none⟩ (.slice ua g.length uc)) (dH BI w0 Y w B (.tuple #[]) (cz {s with w:=none} (bL m0.kind m0.line m0.n g)))):=zH (by
   have hbl:btl s.b+nlN (.mk (bL m0.kind m0.line m0.n g) [])≤30000:=by
    have:nlN (.mk (bL m0.kind m0.line m0.n g) [])=3+g.length:=by simp[nlN,nlL,hdl,bL,aW,lens,bX]
    omega
   have hgV:FsS S 2 aX (((W1.alloc (.cells #[.int .i64 m0.kind,.int .i64 m0.line,.int .i64 m0.n,.slice none 0 0,.slice none 0 0,.slice none 0 0,.string ⟨#[]⟩,.slice none 0 0,.bool false,.bool false] 58)).setCell ⟨B,2,none⟩ (.pointer none)).setCell ⟨W1.heap.size,3,none⟩ (.slice ua g.length uc)) (.slice ua g.length uc) g:=hg.keep (fun k q=>hE'.block k (hS k q).1 (hS k q).2);refine(pY I hM' hT (S:=S) (x:=dN m0.kind m0.line m0.n (ua,g.length,uc)) (rq hgV) (fun k q=>⟨O0 (hS k q).1 hE'.size,fun e=>(hS k q).2 (hY' k e)⟩) hbl hD).mono ?_;rintro e w' ⟨rfl,m1⟩;exact⟨rfl,bB.trans hE' (fun k q=> .inl (hY' k q)) m1⟩)
  have g0:=hcg 0 _ rfl;have g1:=hcg 1 _ rfl;have g2:=hcg 2 _ rfl;have g3:=hcg 3 _ rfl;have g4:=hcg 4 _ rfl;have g5:=hcg 5 _ rfl;have g6:=hcg 6 _ rfl;have g7:=hcg 7 _ rfl;have g8:=hcg 8 _ rfl;have g9:=hcg 9 _ rfl;have y0:=hBk3.cell 0;have y1:=hBk3.cell 1;have y2:=hBk3.cell 2;have y3:=hBk3.cell 3;have y4:=hBk3.cell 4;have y5:=hBk3.cell 5;have y6:=hBk3.cell 6;have y7:=hBk3.cell 7;have y8:=hBk3.cell 8;have y9:=hBk3.cell 9;have yf:(W1.alloc (.cells #[.int .i64 m0.kind,.int .i64 m0.line,.int .i64 m0.n,.slice none 0 0,.slice none 0 0,.slice none 0 0,.string ⟨#[]⟩,.slice none 0 0,.bool false,.bool false] 58)).frozen? ⟨W1.heap.size,3,none⟩=false:=hBk.frozen (by simp[ae]);simp only[ae,vM,dN,pv,OY,OZ]at g0 y0 g1 y1 g2 y2 g3 y3 g4 y4 g5 y5 g6 y6 g7 y7 g8 y8 g9 y9;simp only[ak,bG,OY,OZ,Pm]at hW1 x0 x1 x2 ⊢;clear h hg hS hb hgl hD hr hM1 kx b1 HKD hkd hv hv2 hw hW hb2 hV hBk hM' hE' hY' hcg hBk3;go_enter Tryz.func59,Tryz.ntmps59
  go_wp2_with fail
  refine HO.out.mono ?_;rintro e w2 ⟨rfl,m2⟩;have M2:=zH m2;clear m2;go_wp2_with fail
  go_end0;exact⟨rfl,M2.out⟩
theorem KW (I:bI BI TB) (h:MM BI w0 Y w B s) (hT:TB w0) {S:Nat→Prop} {ln:Int} {m text:Txt} {args:List Txt} {va:Option Addr} {vc:Nat} {ua:Option Addr} {uc:Nat} {g:List Gly} (hg:FsS S 2 aX w (.slice ua g.length uc) g) (hS: ∀k,S k→k<w.heap.size∧ ¬Y k) (hb:btl s.b+g.length+10≤30000) (hgl:g.length≤30000) (hD:s.d.length≤500000) (hr:(rwM s).length≤500000) (hm:m=[]) (hv:s.v=none) (hv2:s.g=none) (hw:s.w=none) (hi:ink g=[]):
  Calls Tryz.prog 59 #[ax B,.agg (ak (ln,m,(va,args.length,vc),text)).toArray,.slice ua g.length uc] w (dH BI w0 Y w B (.tuple #[]) ({s with b:=bH s.b})):=by
 obtain⟨W1,hW1,b1,kx⟩:=aZ (x:=(ln,m,(va,args.length,vc),text)) w;have hM1:=h.keep I b1;have x0:=kx.cell 0;have x1:=kx.cell 1;have x2:=kx.cell 2;have HX0:Hid (∀V,Below W1.heap.size W1 V→V.cell? ⟨w.heap.size,0,none⟩=some (.int .i64 ln)):=zH (fun V hV=>(kx.below hV).cell 0);have HB1:=zH b1;have k3:=hM1.kd I W1 (OX _ _);have HKD:Hid (∀V,Below W1.heap.size W1 V→V.cell? ⟨B,3,none⟩=some (.int .i64 (kdM s))):=zH (hM1.kd I);subst hm;have hkd:kdM s=0:=by unfold kdM;rw[hv,hv2]
 rw[hkd]at k3 HKD;have c2:=hM1.wn I hw W1 (OX _ _);have HC2:Hid (∀V,Below W1.heap.size W1 V→V.cell? ⟨B,2,none⟩=some (.pointer none)):=zH (hM1.wn I hw);obtain⟨b,X,R,cb,hXY,hBI,hAF⟩:=hM1.call I hT;have HCB:Hid (∀V,Below W1.heap.size W1 V→V.cell? ⟨B,0,none⟩=some (ax b)):=zH (fun V hV=>(hBI V hV).2.2);have HE:Hid (∀V,Below W1.heap.size W1 V→Calls Tryz.prog 63 #[ax b] V fun e w'=>e= .returned (.tuple #[])∧bB BI w0 Y w B {s with b:=bH s.b} w'):=zH (fun V hV=>by
  refine(I.nd (hBI V hV).1 (hBI V hV).2.1 (by omega)).mono ?_;rintro e w' ⟨rfl,ha⟩;exact⟨rfl,(hAF _ _ V w' hV (fun k q=>q.elim) ha).pre b1⟩)
 have HTR:=zH (rR g (.slice ua g.length uc) W1 ((hg.keep (Kp.below b1 (fun k q=>(hS k q).1))).1) (by omega));have htn:=pQ g;have ht0:bF g=0:=(rQ g).2 hi;rw[ht0]at htn;simp only[ak,bG,OY,OZ,Pm]at hW1 x0 x1 x2 ⊢;clear h hg hS hb hgl hD hr hM1 kx b1 hkd hv hv2 hw hBI hAF hXY hi ht0;go_enter Tryz.func59,Tryz.ntmps59
 go_wp2_with fail
 refine HTR.out.mono ?_;rintro e w2 ⟨u,rfl,o1,b2⟩;obtain⟨ta,tc,rfl⟩:=(ag.sl ah o1).len;rw[htn]at o1 ⊢;have cb2:=HCB.out w2 b2;have c22:=HC2.out w2 b2;have x02:=HX0.out w2 b2;have B2:=zH b2;clear o1 b2 HTR HCB HC2 HX0 HKD;go_wp2_with fail
 refine(HE.out w2 B2.out).mono ?_;rintro e w3 ⟨rfl,m2⟩;have M2:=zH m2;clear m2;go_wp2_with fail
 go_end0;exact⟨rfl,M2.out⟩
theorem QTZ {P:Prop}(h:P:=by
 have hb2:=b1.trans (hV.mono b1.size);refine(I.text (S:=S) g ln (hBI V hV).1 (hBI V hV).2.1 (hg.keep (Kp.below hb2 (fun k q=>(hS k q).1))) (fun k q=>⟨O0 (hS k q).1 hb2.size,fun e=>(hS k q).2 (hXY k e)⟩) (by omega)).mono ?_;rintro e w' ⟨rfl,ha⟩;exact⟨rfl,(hAF S _ V w' hV (fun k q=>(hS k q).2) ha).pre b1⟩):P:=h
theorem Cj (I:bI BI TB) (h:MM BI w0 Y w B s) (hT:TB w0) {S:Nat→Prop} {ln:Int} {m text:Txt} {args:List Txt} {va:Option Addr} {vc:Nat} {ua:Option Addr} {uc:Nat} {g:List Gly} (hg:FsS S 2 aX w (.slice ua g.length uc) g) (hS: ∀k,S k→k<w.heap.size∧ ¬Y k) (hb:btl s.b+g.length+10≤30000) (hgl:g.length≤30000) (hD:s.d.length≤500000) (hr:(rwM s).length≤500000) (hm:m=[]) (hv:s.v=none) (hv2:s.g=none) (hw:s.w=none) (hi:ink g≠ []):
  Calls Tryz.prog 59 #[ax B,.agg (ak (ln,m,(va,args.length,vc),text)).toArray,.slice ua g.length uc] w (dH BI w0 Y w B (.tuple #[]) ({s with b:=gP s.b g ln})):=by
 obtain⟨W1,hW1,b1,kx⟩:=aZ (x:=(ln,m,(va,args.length,vc),text)) w;have hM1:=h.keep I b1;have x0:=kx.cell 0;have x1:=kx.cell 1;have x2:=kx.cell 2;have HX0:Hid (∀V,Below W1.heap.size W1 V→V.cell? ⟨w.heap.size,0,none⟩=some (.int .i64 ln)):=zH (fun V hV=>(kx.below hV).cell 0);have HB1:=zH b1;have k3:=hM1.kd I W1 (OX _ _);have HKD:Hid (∀V,Below W1.heap.size W1 V→V.cell? ⟨B,3,none⟩=some (.int .i64 (kdM s))):=zH (hM1.kd I);subst hm;have hkd:kdM s=0:=by unfold kdM;rw[hv,hv2]
 rw[hkd]at k3 HKD;have c2:=hM1.wn I hw W1 (OX _ _);have HC2:Hid (∀V,Below W1.heap.size W1 V→V.cell? ⟨B,2,none⟩=some (.pointer none)):=zH (hM1.wn I hw);obtain⟨b,X,R,cb,hXY,hBI,hAF⟩:=hM1.call I hT;have HCB:Hid (∀V,Below W1.heap.size W1 V→V.cell? ⟨B,0,none⟩=some (ax b)):=zH (fun V hV=>(hBI V hV).2.2);have HE:Hid (∀V,Below W1.heap.size W1 V→Calls Tryz.prog 92 #[ax b,.slice ua g.length uc,.int .i64 ln] V fun e w'=>e= .returned (.tuple #[])∧bB BI w0 Y w B {s with b:=gP s.b g ln} w'):=zH (fun V hV=>by
  exact QTZ)
 have HTR:=zH (rR g (.slice ua g.length uc) W1 ((hg.keep (Kp.below b1 (fun k q=>(hS k q).1))).1) (by omega));have htn:=pQ g;have ht0: ¬bF g=0:=fun e=>hi ((rQ g).1 e)
 obtain⟨tn,htt⟩: ∃n,bF g=n:=⟨_,rfl⟩;rw[htt]at htn ht0;have ht1: ¬(tn:Int)=0:=by omega
 simp only[ak,bG,OY,OZ,Pm]at hW1 x0 x1 x2 ⊢;clear h hg hS hb hgl hD hr hM1 kx b1 hkd hv hv2 hw hBI hAF hXY hi htt;go_enter Tryz.func59,Tryz.ntmps59
 go_wp2_with fail
 refine HTR.out.mono ?_;rintro e w2 ⟨u,rfl,o1,b2⟩;obtain⟨ta,tc,rfl⟩:=(ag.sl ah o1).len;rw[htn]at o1 ⊢;have cb2:=HCB.out w2 b2;have c22:=HC2.out w2 b2;have x02:=HX0.out w2 b2;have B2:=zH b2;clear o1 b2 HTR HCB HC2 HX0 HKD;go_wp2_with fail
 go_still_tail 7,(by kernel_rfl)
 change wpList _ _ _ _ _ w2.drew;have HE2:=zH (HE.out w2.drew (B2.out.drew));go_wp2_with fail
 refine HE2.out.mono ?_;rintro e w3 ⟨rfl,m2⟩;have M2:=zH m2;clear m2;go_wp2_with fail
 go_end0;exact⟨rfl,M2.out⟩
theorem Ck (I:bI BI TB) (h:MM BI w0 Y w B s) (hT:TB w0) {S:Nat→Prop} {ln:Int} {m text:Txt} {args:List Txt} {va:Option Addr} {vc:Nat} {ua:Option Addr} {uc:Nat} {g:List Gly} (hg:FsS S 2 aX w (.slice ua g.length uc) g) (hS: ∀k,S k→k<w.heap.size∧ ¬Y k) (hb:btl s.b+g.length+10≤30000) (hgl:g.length≤30000) (hD:s.d.length≤500000) (hr:(rwM s).length≤500000) (hm:m≠ []) (ha:args≠ []) (hv:s.v=none) (hv2:s.g=none) (hw:s.w=none):
  Calls Tryz.prog 59 #[ax B,.agg (ak (ln,m,(va,args.length,vc),text)).toArray,.slice ua g.length uc] w (dH BI w0 Y w B (.tuple #[]) ({s with b:=gP s.b g ln})):=by
 obtain⟨W1,hW1,b1,kx⟩:=aZ (x:=(ln,m,(va,args.length,vc),text)) w;have hM1:=h.keep I b1;have x0:=kx.cell 0;have x1:=kx.cell 1;have x2:=kx.cell 2;have HX0:Hid (∀V,Below W1.heap.size W1 V→V.cell? ⟨w.heap.size,0,none⟩=some (.int .i64 ln)):=zH (fun V hV=>(kx.below hV).cell 0);have HB1:=zH b1;have k3:=hM1.kd I W1 (OX _ _);have HKD:Hid (∀V,Below W1.heap.size W1 V→V.cell? ⟨B,3,none⟩=some (.int .i64 (kdM s))):=zH (hM1.kd I);have d1:=bU hm;have hal: ¬(args.length:Int)=0:=by have:=PS.2 ha;omega
 have hkd:kdM s=0:=by unfold kdM;rw[hv,hv2]
 rw[hkd]at k3 HKD;have c2:=hM1.wn I hw W1 (OX _ _);have HC2:Hid (∀V,Below W1.heap.size W1 V→V.cell? ⟨B,2,none⟩=some (.pointer none)):=zH (hM1.wn I hw);obtain⟨b,X,R,cb,hXY,hBI,hAF⟩:=hM1.call I hT;have HCB:Hid (∀V,Below W1.heap.size W1 V→V.cell? ⟨B,0,none⟩=some (ax b)):=zH (fun V hV=>(hBI V hV).2.2);have HE:Hid (∀V,Below W1.heap.size W1 V→Calls Tryz.prog 92 #[ax b,.slice ua g.length uc,.int .i64 ln] V fun e w'=>e= .returned (.tuple #[])∧bB BI w0 Y w B {s with b:=gP s.b g ln} w'):=zH (fun V hV=>by
  exact QTZ)
 simp only[ak,bG,OY,OZ,Pm]at hW1 x0 x1 x2 ⊢;clear h hg hS hb hgl hD hr hM1 kx b1 hkd hv hv2 hw hBI hAF hXY ha;go_enter Tryz.func59,Tryz.ntmps59
 go_wp2_with fail
 go_still_tail 7,(by kernel_rfl)
 change wpList _ _ _ _ _ W1.drew;have HE2:=zH (HE.out W1.drew ((OX _ W1).drew));go_wp2_with fail
 refine HE2.out.mono ?_;rintro e w3 ⟨rfl,m2⟩;have M2:=zH m2;clear m2;go_wp2_with fail
 go_end0;exact⟨rfl,M2.out⟩
theorem Ad (I:bI BI TB) (h:MM BI w0 Y w B s) (hT:TB w0) (hg0:s.g=none) {S:Nat→Prop} {x:RV} {r:bu} (hx:iB w x r) {u:Value} {g:List Gly} (hg:FsS S 2 aX w u g) (hS: ∀k,S k→k<w.heap.size∧ ¬Y k) (hb:btl s.b+g.length+10≤30000) (hgl:g.length≤30000) (hD:s.d.length≤500000) (hr:(rwM s).length≤500000):
  Calls Tryz.prog 59 #[ax B,.agg (ak x).toArray,u] w (dH BI w0 Y w B (.tuple #[]) (CG s r g)):=by
 obtain⟨ln,m,args,text⟩:=r;obtain⟨xl,xm,⟨va,vn,vc⟩,xt⟩:=x;obtain⟨h1,h2,h3,h4⟩:=hx;simp only[bG]at h1 h2 h3 h4;subst h1 h2 h3;obtain⟨a',c',e⟩:=h4.len;injection e with e1 e2 e3
 subst e1 e2 e3;obtain⟨ua,uc,rfl⟩:=hg.1.len;unfold CG Aw;simp only
 by_cases hm:xm=[]
 ·rw[Pd (fun q=>q.1 hm)]
  cases hv:s.v with
  | some v0=>exact Af I h hT hg hS hb hgl hD hr (.inl hm) hv
  | none=>
   cases hw:s.w with
   | some m0=>
    have:=Ae I h hT (ln:=xl) (text:=xt) (args:=args) (va:=va) (vc:=vc) hg hS hb hgl hD hr (.inl hm) hv hg0 hw;rw[hv]at this;exact this
   | none=>
    by_cases hi:ink g=[]
    ·simp only
     rw[Pk ⟨hm,hi⟩];have:=KW I h hT (ln:=xl) (text:=xt) (args:=args) (va:=va) (vc:=vc) hg hS hb hgl hD hr hm hv hg0 hw hi;rw[hv,hw]at this;exact this
    ·simp only
     rw[Pd (fun q=>hi q.2)];have:=Cj I h hT (ln:=xl) (text:=xt) (args:=args) (va:=va) (vc:=vc) hg hS hb hgl hD hr hm hv hg0 hw hi;rw[hv,hw]at this;exact this
 ·by_cases ha:args=[]
  ·rw[Pk ⟨hm,ha⟩]
   exact KX I h hT hg hS hb hgl hD hr hm ha
  ·rw[Pd (fun q=>ha q.2)]
   cases hv:s.v with
   | some v0=>exact Af I h hT hg hS hb hgl hD hr (.inr ⟨hm,ha⟩) hv
   | none=>
    cases hw:s.w with
    | some m0=>
     have:=Ae I h hT (ln:=xl) (text:=xt) (args:=args) (va:=va) (vc:=vc) hg hS hb hgl hD hr (.inr ⟨hm,ha⟩) hv hg0 hw;rw[hv]at this;exact this
    | none=>
     simp only;rw[Pd (fun q=>hm q.1)];have:=Ck I h hT (ln:=xl) (text:=xt) (args:=args) (va:=va) (vc:=vc) hg hS hb hgl hD hr hm ha hv hg0 hw;rw[hv,hw]at this;exact this
end
def lw (s:Md) (r:bu):Md×Bool:=match s.g with
 | some g=>if r.mac=[] then({s with g:=some (g.1,g.2++ [r.text]) },true) else(s,false)
 | none=>match fD r with
  | some q=>(CG {s with d:=s.d++cK r.line q.2} r q.1,true)
  | none=>(s,false)
theorem JR {W W':World} {args:Array Value} {v:Value} (h:(qY args).run Tryz.prog W= .ok (.value v) W'):(Builtin.append_ #[22,22] 22 args).run Tryz.prog W= .ok v W':=by
 unfold qY at h;simp only[Qh,Qm]at h
 cases k:(Builtin.append_ #[22,22] 22 args).run Tryz.prog W with
 | ok v' w'=>rw[k]at h;simp only[PT]at h;injection h with h1 h2;injection h1 with h1;rw[h1,h2]
 | _=>rw[k]at h;simp[Result.andThen]at h
section
variable {BI:BIT} {TB:World→Prop} {w w0:World} {B:Nat} {s:Md} {Y:Nat→Prop}
attribute [local go_sem ↓ high] aM
theorem Ch (I:bI BI TB) (h:MM BI w0 Y w B s) {g0:Int×List Txt} (hv:s.g=some g0) {ln:Int} {text:Txt} {va:Option Addr} {vn vc:Nat} (hl:g0.2.length≤500000):
  Calls Tryz.prog 26 #[ax B,.agg (ak (ln,[],(va,vn,vc),text)).toArray] w (dH BI w0 Y w B (.bool true) {s with g:=some (g0.1,g0.2++ [text]) }):=by
 obtain⟨W1,hW1,b1,kx⟩:=aZ (x:=(ln,[],(va,vn,vc),text)) w;have x1:=kx.cell 1;have x3:=kx.cell 3;have hvn:s.v=none:=by obtain⟨-,-,X,R,lo,b,wv,rv,tv,dv,h3,-⟩:=h;exact h3.ok.vg.resolve_right (by rw[hv];simp)
 have k3:=(h.keep I b1).kd I W1 (OX _ _);have hkd:kdM s=7:=by unfold kdM;rw[hvn,hv]
 rw[hkd]at k3;have hR: ∃ta tc ta' tc' w2,W1.cell? ⟨B,13,none⟩=some (.slice ta g0.2.length tc)∧(W1.alloc (.cells #[.string ⟨text.toArray⟩] 9)).drew.cell? ⟨B,13,none⟩=some (.slice ta g0.2.length tc)∧(qY #[.slice ta g0.2.length tc,.slice (some ⟨W1.heap.size,0,none⟩) 1 1]).run Tryz.prog (W1.alloc (.cells #[.string ⟨text.toArray⟩] 9)).drew= .ok (.value (.slice ta' (g0.2.length+1) tc')) w2∧w2.cell? ⟨B,13,none⟩=some (.slice ta g0.2.length tc)∧w2.frozen? ⟨B,13,none⟩=false∧
   Hid (bB BI w0 Y w B {s with g:=some (g0.1,g0.2++ [text]) } (w2.setCell ⟨B,13,none⟩ (.slice ta' (g0.2.length+1) tc')))∧Hid (w.heap.size≠B∧w2.cell? ⟨w.heap.size,1,none⟩=some (.string ⟨#[]⟩)):=by
  obtain⟨h1,h2,X,R,lo,b,wv,rv,tv,dv,h3,h4⟩:=h;have bl:=af W1 (.cells #[.string ⟨text.toArray⟩] 9);have hb2:Below w.heap.size w (W1.alloc (.cells #[.string ⟨text.toArray⟩] 9)).drew:=(b1.trans (bl.mono b1.size)).drew;have hfs:Ss (W1.alloc (.cells #[.string ⟨text.toArray⟩] 9)).drew (.slice (some ⟨W1.heap.size,0,none⟩) 1 1) [text]:=Fs.below (bR dh W1 9 [text]) (OX _ _).drew;obtain⟨tv',w2,lo',q1,q2,q3,q4,q5,q6,⟨ta,tc,rfl⟩,⟨ta',tc',rfl⟩⟩:=h3.txt I hv hb2 hfs hl;refine⟨ta,tc,ta',tc',w2,(h3.box.below b1).cell 13,(h3.box.below hb2).cell 13,q1,q2,q3,zH (MM.aft h1 h2 ?_ q4 (fun k q=> .inl ((h4 k).2 (.inl q))) (fun k q=>(q6 k q).imp (fun z=>(h4 k).2 (.inr z)) (fun z=>Pp hb2.size z))),zH ⟨fun e=>?_,?_⟩⟩
  ·exact(Exc.of (X:=Y) hb2).trans (q5.mono (Y:=Y) (fun k _ q=>(h4 k).2 (.inr q))) (fun _ _ q=>q)
  ·have:=h3.box.lt;omega
  ·have hx:=kx.below (bl.drew)
   have hne: ¬lo w.heap.size≠0:=fun e=>by have:=h3.ll _ e;omega
   have hne2:w.heap.size≠B:=fun e=>by have:=h3.box.lt;omega
   have e1:=q5.blk hx hne;have e2:w2.heap[w.heap.size]? =(w2.setCell ⟨B,13,none⟩ (.slice ta' (g0.2.length+1) tc')).heap[w.heap.size]? :=(O8 _ ⟨B,13,none⟩ _ _ hne2).symm;have e3:Blk w2 w.heap.size 33 (ak (ln,[],(va,vn,vc),text)):=e2.trans e1;exact e3.cell 1
 obtain⟨ta,tc,ta',tc',w2,c13,c13',hrun,q13,f13,HF,HY⟩:=hR;have kk:=JR hrun;obtain⟨n,hn⟩: ∃n,g0.2.length=n:=⟨_,rfl⟩;rw[hn]at c13 c13' kk q13 HF;have hne:=HY.out.1;have y1:=HY.out.2;have z1:(w2.setCell ⟨B,13,none⟩ (.slice ta' (n+1) tc')).cell? ⟨w.heap.size,1,none⟩=some (.string ⟨#[]⟩):=(P7 (O8 w2 ⟨B,13,none⟩ (.slice ta' (n+1) tc') w.heap.size hne)).trans y1;simp only[ak,bG,OY,OZ]at hW1 x1 x3 ⊢;clear h kx b1 hkd hvn hl hn hrun HY hv;go_enter Tryz.func26,Tryz.ntmps26
 go_wp2_with fail
 go_region_law ((refine bZ rfl (.tmp 21) (.tmp 24) 22 22 rfl _ _ rfl rfl kk ?_))
 all_goals
  go_wp2_with fail
  go_ret;exact⟨rfl,HF.out⟩
theorem MM.refl (h:MM BI w0 Y w B s):bB BI w0 Y w B s w:=⟨Y,h,Exc.refl _ _,fun k q=> .inl q⟩
theorem Fv (I:bI BI TB) (h:MM BI w0 Y w B s) {g0:Int×List Txt} (hv:s.g=some g0) {ln:Int} {m text:Txt} (hm:m≠ []) {va:Option Addr} {vn vc:Nat}:
  Calls Tryz.prog 26 #[ax B,.agg (ak (ln,m,(va,vn,vc),text)).toArray] w (dH BI w0 Y w B (.bool false) s):=by
 obtain⟨W1,hW1,b1,kx⟩:=aZ (x:=(ln,m,(va,vn,vc),text)) w;have x1:=kx.cell 1;have hvn:s.v=none:=by obtain⟨-,-,X,R,lo,b,wv,rv,tv,dv,h3,-⟩:=h;exact h3.ok.vg.resolve_right (by rw[hv];simp)
 have hM1:=h.keep I b1;have k3:=hM1.kd I W1 (OX _ _);have hkd:kdM s=7:=by unfold kdM;rw[hvn,hv]
 rw[hkd]at k3;have d1:=bU hm;have HF:=zH ((MM.refl hM1).pre b1);simp only[ak,bG,OY,OZ]at hW1 x1 ⊢;clear h kx b1 hkd hvn hv hM1 hm;go_enter Tryz.func26,Tryz.ntmps26
 go_wp2_with fail
 go_ret;exact⟨rfl,HF.out⟩
theorem Fw (I:bI BI TB) (h:MM BI w0 Y w B s) (hT:TB w0) (hv:s.g=none) {x:RV} {r:bu} (hx:iB w0 x r) (hl:gT r) {q:List Gly×List (Int×Int)} (hq:fD r=some q) (hb:btl s.b+q.1.length+10≤30000) (hgl:q.1.length≤30000) (hql:q.2.length≤90000) (hD:s.d.length≤400000) (hr:(rwM s).length≤500000):
  Calls Tryz.prog 26 #[ax B,.agg (ak x).toArray] w (dH BI w0 Y w B (.bool true) (CG {s with d:=s.d++cK r.line q.2} r q.1)):=by
 obtain⟨W1,hW1,b1,kx⟩:=aZ (x:=x) w;have hM1:=h.keep I b1;have k3:=hM1.kd I W1 (OX _ _);have hk7: ¬kdM s=7:=by unfold kdM;rw[hv];cases s.v<;>simp
 have hYl:=h.lt I;have hwb:Below w0.heap.size w0 W1:=h.1.trans (b1.mono h.1.size);have hx1:iB W1 x r:=⟨hx.line,hx.mac,hx.text,Fs.below hx.args hwb⟩;have HI:=zH (qE x r W1 hx1 hl);unfold dQ at HI;rw[hq]at HI;simp only[Qy,Qd]at HI;have HM:Hid (∀xx d w2,aI W1.heap.size w2 xx q.1→aL W1.heap.size w2 d (cK r.line q.2)→Below W1.heap.size W1 w2→ ∃da dc da' m' dc' w3,w2.cell? ⟨B,14,none⟩=some (.slice da s.d.length dc)∧(ic #[.slice da s.d.length dc,d]).run Tryz.prog w2= .ok (.value (.slice da' m' dc')) w3∧w3.cell? ⟨B,14,none⟩=some (.slice da s.d.length dc)∧w3.frozen? ⟨B,14,none⟩=false∧
   (∀(i:Nat) u,(ak x)[i]? =some u→w2.cell? ⟨w.heap.size,i,none⟩=some u∧(w3.setCell ⟨B,14,none⟩ (.slice da' m' dc')).cell? ⟨w.heap.size,i,none⟩=some u)∧
   Hid (Calls Tryz.prog 59 #[ax B,.agg (ak x).toArray,xx] (w3.setCell ⟨B,14,none⟩ (.slice da' m' dc')) (dH BI w0 Y w B (.tuple #[]) (CG {s with d:=s.d++cK r.line q.2} r q.1)))):=zH (fun xx d w2 o1 o2 hb2=>by
  obtain⟨dv,dv',w3,p1,-,p2,p3,p4,⟨Y',S,hM,hE,hY',hg,hS⟩,⟨da,dc,rfl⟩,⟨da',dc',rfl⟩⟩:=hM1.more I hb2 (ag.sl ai o2) o1 (by unfold cK;simp;omega);have hs1:=b1.size;refine⟨da,dc,da',_,dc',w3,p1,p2,p3,p4,fun i u hu=>⟨by rw[(kx.below hb2).cell i];exact hu,?_⟩,zH ?_⟩
  ·have hxe: ¬Y w.heap.size:=fun e=>by have:=hYl _ e;omega
   rw[(hE.blk kx hxe).cell i];exact hu
  ·have hxF:iB (w3.setCell ⟨B,14,none⟩ (.slice da' (s.d++cK r.line q.2).length dc')) x r:=⟨hx.line,hx.mac,hx.text,Fs.below hx.args hM.1⟩
   refine(Ad I hM hT hv hxF hg (fun k z=>⟨(hS k z).2.1,(hS k z).2.2⟩) hb hgl (by simp[cK];omega) hr).mono ?_;rintro e w' ⟨rfl,m1⟩;exact⟨rfl,(bB.trans hE hY' m1).pre b1⟩)
 obtain⟨sf,hsf⟩: ∃sf,CG {s with d:=s.d++cK r.line q.2} r q.1=sf:=⟨_,rfl⟩;obtain⟨kd,hkd⟩: ∃k,kdM s=k:=⟨_,rfl⟩;have HX:Hid (∀(i:Nat) u,(ak x)[i]? =some u→W1.cell? ⟨w.heap.size,i,none⟩=some u):=zH (fun i u hu=>by rw[kx.cell i];exact hu);rw[hsf]at HM ⊢;rw[hkd]at k3 hk7;obtain⟨n,hn⟩: ∃n,s.d.length=n:=⟨_,rfl⟩;rw[hn]at HM;obtain⟨xl,xm,⟨va,vn,vc⟩,xt⟩:=x;simp only[ak,bG]at hW1 HI HM HX ⊢;have x0:=HX.out 0 _ rfl;have x1:=HX.out 1 _ rfl;have x2:=HX.out 2 _ rfl;have x3:=HX.out 3 _ rfl;clear h hx hl hq hb hgl hql hD hr hM1 hYl hwb hx1 kx b1 hsf hkd hn hv HX;go_enter Tryz.func26,Tryz.ntmps26
 go_wp2_with fail
 refine HI.out.mono ?_;rintro e w2 ⟨xx,d,rfl,o1,o2,b2⟩;obtain⟨da,dc,da',m',dc',w3,c14,hrun,q14,f14,hc,HG⟩:=HM.out xx d w2 o1 o2 b2;obtain⟨ea,ec,rfl⟩:=(ag.sl ai o2).len;obtain⟨xa,xc,rfl⟩:=(ag.sl ah o1).len;obtain⟨n1,hn1⟩: ∃n,q.1.length=n:=⟨_,rfl⟩;obtain⟨n2,hn2⟩: ∃n,(cK r.line q.2).length=n:=⟨_,rfl⟩;have z0:=(hc 0 _ rfl).2;have z1:=(hc 1 _ rfl).2;have z2:=(hc 2 _ rfl).2;have z3:=(hc 3 _ rfl).2;rw[hn1]at HG;rw[hn2]at hrun;rw[hn1,hn2];clear o1 o2 b2 hc HM HI hn1 hn2 x0 x1 x2 x3;go_wp2_with fail
 refine HG.out.mono ?_;rintro e w4 ⟨rfl,m4⟩;have M4:=zH m4;clear m4;go_wp2_with fail
 go_ret;exact⟨rfl,M4.out⟩
theorem Cg (I:bI BI TB) (h:MM BI w0 Y w B s) (hv:s.g=none) {x:RV} {r:bu} (hx:iB w0 x r) (hl:gT r) (hq:fD r=none):
  Calls Tryz.prog 26 #[ax B,.agg (ak x).toArray] w (dH BI w0 Y w B (.bool false) s):=by
 obtain⟨W1,hW1,b1,kx⟩:=aZ (x:=x) w;have hM1:=h.keep I b1;have k3:=hM1.kd I W1 (OX _ _);have hk7: ¬kdM s=7:=by unfold kdM;rw[hv];cases s.v<;>simp
 have hwb:Below w0.heap.size w0 W1:=h.1.trans (b1.mono h.1.size);have hx1:iB W1 x r:=⟨hx.line,hx.mac,hx.text,Fs.below hx.args hwb⟩;have HI:=zH (qE x r W1 hx1 hl);unfold dQ at HI;rw[hq]at HI;simp only[Qk,PP]at HI;have HF:Hid (∀w2,Below W1.heap.size W1 w2→bB BI w0 Y w B s w2):=zH (fun w2 hb2=>((MM.refl (hM1.keep I hb2)).pre hb2).pre b1);obtain⟨kd,hkd⟩: ∃k,kdM s=k:=⟨_,rfl⟩;rw[hkd]at k3 hk7;have x0:=kx.cell 0;have x1:=kx.cell 1;have x2:=kx.cell 2;have x3:=kx.cell 3;obtain⟨xl,xm,⟨va,vn,vc⟩,xt⟩:=x;simp only[ak,bG,OY,OZ]at hW1 HI x0 x1 x2 x3 ⊢;clear h hx hl hq hM1 hwb hx1 kx b1 hkd hv;go_enter Tryz.func26,Tryz.ntmps26
 go_wp2_with fail
 refine HI.out.mono ?_;rintro e w2 ⟨xx,d,rfl,o1,o2,b2⟩;have F2:=zH (HF.out w2 b2);clear o1 o2 b2 HF HI;go_wp2_with fail
 go_ret;exact⟨rfl,F2.out⟩
theorem Ap {r:bu} (hl:gT r) {q:List Gly×List (Int×Int)} (hq:fD r=some q):q.1.length≤r.text.length+lnT r.args∧q.2.length≤r.text.length+lnT r.args:=by
 unfold fD at hq
 split at hq
 ·injection hq with hq
  subst hq;have:=mJ 0 r.text;show(lgS 0 r.text).1.length≤_∧(lgS 0 r.text).2.length≤_;omega
 ·split at hq
  ·injection hq with hq
   subst hq;have:=dR (EG (r.mac.headD 0)) r.args ([],[]);rw[ig];unfold dC;simp only[Pm]at this;omega
  ·split at hq
   ·injection hq with hq
    subst hq;have:=mi (EG (r.mac.headD 0)) (EG (r.mac.getLastD 0)) r.args 0;rw[(nV r.args _ _ 0).1 rfl];omega
   ·cases hq
theorem Fx (I:bI BI TB) (h:MM BI w0 Y w B s) (hT:TB w0) {x:RV} {r:bu} (hx:iB w0 x r) (hl:gT r) (hb:btl s.b+(r.text.length+lnT r.args)+10≤30000) (hD:s.d.length≤400000) (hr:(rwM s).length≤500000) (ht:(txM s).length≤500000):
  Calls Tryz.prog 26 #[ax B,.agg (ak x).toArray] w (dH BI w0 Y w B (.bool (lw s r).2) (lw s r).1):=by
 unfold lw
 cases hv:s.g with
 | some g0=>
  obtain⟨ln,m,args,text⟩:=r;obtain⟨xl,xm,⟨va,vn,vc⟩,xt⟩:=x;obtain⟨h1,h2,h3,h4⟩:=hx;simp only at h1 h2 h3 h4;subst h1 h2 h3
  by_cases hm:xm=[]
  ·subst hm
   simp only[if_true];exact Ch I h hv (by unfold txM at ht;rw[hv]at ht;exact ht)
  ·simp only
   rw[Pd hm];have:=Fv I h hv (ln:=xl) (text:=xt) (va:=va) (vn:=vn) (vc:=vc) hm;exact this
 | none=>
  cases hq:fD r with
  | none=>
   have:=Cg I h hv hx hl hq;exact this
  | some q=>
   have hln:=Ap hl hq;have h1:=hl.text;have h2:=hl.args;have:=Fw I h hT hv hx hl hq (by omega) (by omega) (by omega) hD hr;rw[hv]at this;exact this
def qM (s:Md) (m:Txt):Bool:=match s.v with
 | some _=>decide (m=[69,69]∨m=[102,105])
 | none=>match s.g with
  | some _=>decide (m=[84,69])
  | none=>true
theorem FE (I:bI BI TB) (h:MM BI w0 Y w B s) (m:Txt):
  Calls Tryz.prog 27 #[ax B,.string ⟨m.toArray⟩] w fun e w'=>e= .returned (.bool (qM s m))∧w=w':=by
 have k3:=h.kd I w (OX _ _);unfold qM
 cases hv:s.v with
 | some v=>
  have hkd:kdM s=6:=by unfold kdM;rw[hv]
  rw[hkd]at k3;clear h hkd hv;simp only
  by_cases c:m∈ [[69,69],[102,105]]
  ·simp only[P6,P8,QN]at c
   rcases c with rfl | rfl
   all_goals
    go_enter Tryz.func27,Tryz.ntmps27
    go_wp2_with fail
    go_ret;exact⟨rfl,rfl⟩
  ·simp only[P6,P8,QN,not_or]at c
   obtain⟨c1,c2⟩:=c;have d1:=bU c1;have d2:=bU c2;rw[Px (by rintro(q | q);exact c1 q;exact c2 q)];clear c1 c2;go_enter Tryz.func27,Tryz.ntmps27
   go_wp2_with fail
   go_ret;exact⟨rfl,rfl⟩
 | none=>
  cases hg:s.g with
  | some g=>
   have hkd:kdM s=7:=by unfold kdM;rw[hv,hg]
   rw[hkd]at k3;clear h hkd hv hg;simp only
   by_cases c:m=[84,69]
   ·subst c
    go_enter Tryz.func27,Tryz.ntmps27
    go_wp2_with fail
    go_ret;exact⟨rfl,rfl⟩
   ·have d1:=bU c
    rw[Px c];clear c;go_enter Tryz.func27,Tryz.ntmps27
    go_wp2_with fail
    go_ret;exact⟨rfl,rfl⟩
  | none=>
   have hkd:kdM s=0:=by unfold kdM;rw[hv,hg]
   rw[hkd]at k3;clear h hkd hv hg;simp only;go_enter Tryz.func27,Tryz.ntmps27
   go_wp2_with fail
   go_ret;exact⟨rfl,rfl⟩
end
section
variable {BI:BIT} {TB:World→Prop} {w w0:World} {B:Nat} {s:Md} {Y:Nat→Prop}
theorem MM.putB (I:bI BI TB) (h:MM BI w0 Y w B s) {W1 W2:World} (hb:Below w.heap.size w W1) (hE:Exc (fun k=>k=B) W1 W2) {s':Md} (hsb:s'.b=s.b) (hsd:s'.d=s.d) (hsw:s'.w=s.w) (hrw:rwM s'=rwM s) (htx:txM s'=txM s) (hok:MOk s') (hvn:s'.v=none→s.v=none) (hgn:s'.g=none→s.g=none)
  (hbx: ∀b wv rv tv dv,(s.v=none→rv=eY)→Blk W1 B 79 (mnC b s.th wv (kdM s) (lnM s) rv tv dv)→Blk W2 B 79 (mnC b s'.th wv (kdM s') (lnM s') rv tv dv)) {V:World} (hV:Exc (fun k=>w.heap.size≤k) W2 V):MM BI w0 Y V B s'∧Exc Y w V:=by
 obtain⟨h1,h2,X,R,lo,b,wv,rv,tv,dv,h3,h4⟩:=h;have hM:=h3.keep I hb;have hs1:=hb.size;have hs2:=hE.size;have hP:=hM.put I (s':=s') (lo':=lo) (wv':=wv) (rv':=rv) (tv':=tv) hE (hbx b wv rv tv dv hM.rn hM.box) hsb hsd hok (fun k q=>O0 (hM.ll k q) hs2) hM.lx hM.lr (fun k _=>rfl) (by rw[htx];exact hM.tx) hM.txb (by rw[hrw];exact hM.rg) hM.rgb (fun e=>hM.rn (hvn e)) (fun e=>hM.tn (hgn e)) (by rw[hsw];exact hM.wt);have kk: ∀S:Nat→Prop,(∀k,S k→k<w.heap.size)→Kp S W2 V:=fun S hS k q=>hV.block k (by have:=hS k q;omega) (fun z=>by have:=hS k q;omega)
 have hF:=hP.keepK I (kk X (fun k q=>h3.lt I k (.inl q))) (kk R (fun k q=>h3.lt I k (.inr (.inl q)))) (kk _ (fun k q=>h3.ll k q)) hV.size;have hEY:Exc Y w V:=((Exc.of (X:=Y) hb).trans (hE.mono (Y:=Y) (fun k _ q=>(h4 k).2 (.inr (by rw[q,h3.lb];decide)))) (fun _ _ q=>q)).trans hV (fun k hk q=>by omega);exact⟨⟨h1.trans (hEY.below h1.size (fun k hk q=>by have:=h2 k q;omega)),h2,X,R,lo,b,wv,rv,tv,dv,hF,h4⟩,hEY⟩
theorem MM.box_at (h:MM BI w0 Y w B s) (I:bI BI TB): ∃b wv rv tv dv,B<w.heap.size∧(s.v=none→rv=eY)∧ ∀W,Below w.heap.size w W→Blk W B 79 (mnC b s.th wv (kdM s) (lnM s) rv tv dv):=by
 obtain⟨h1,h2,X,R,lo,b,wv,rv,tv,dv,h3,h4⟩:=h;exact⟨b,wv,rv,tv,dv,h3.box.lt,h3.rn,fun W hb=>h3.box.below hb⟩
theorem MM.shut (I:bI BI TB) (h:MM BI w0 Y w B s) (hT:TB w0) (K:List Int) (hK:K.length≤100) (hb:btl s.b≤30000): ∃b,(∀W1,Below w.heap.size w W1→W1.cell? ⟨B,0,none⟩=some (ax b))∧ ∀W1 (v:Value) (S:Nat→Prop),Below w.heap.size w W1→FsS S 1 gJ W1 v K→(∀k,S k→k<W1.heap.size∧ ¬Y k)→
  Calls Tryz.prog 84 #[ax b,v] W1 fun e w'=>e= .returned (.tuple #[])∧bB BI w0 Y w B {s with b:=aP s.b K} w':=by
 obtain⟨b,X,R,c0,hXY,hBI,hAF⟩:=h.call I hT;refine⟨b,fun W1 hb1=>(hBI W1 hb1).2.2,fun W1 v S hb1 hv hS=>?_⟩;refine(I.shut K (hBI W1 hb1).1 (hBI W1 hb1).2.1 hv (fun k q=>⟨(hS k q).1,fun e=>(hS k q).2 (hXY k e)⟩) (by omega) hb).mono ?_;rintro e w' ⟨rfl,ha⟩;exact⟨rfl,hAF S _ W1 w' hb1 (fun k q=>(hS k q).2) ha⟩
theorem D9 (W:World) (L:List Int) (t:TypeId):FsS (fun k=>k=W.heap.size) 1 gJ (W.alloc (.cells (aA gJ L).toArray t)) (.slice (some ⟨W.heap.size,0,none⟩) L.length L.length) L:=by
 refine⟨bR FZ W t L,fun a k c e _=>?_⟩;injection e with e1
 injection e1 with e1
 subst e1;exact⟨rfl,fun _ i _=>by
  have h:=O9 W (.cells (aA gJ L).toArray t);simp only[World.frozen?,h];simp⟩
theorem Fu (I:bI BI TB) (h:MM BI w0 Y w B s) (hT:TB w0) (x:RV) (hb:btl s.b≤30000):
  Calls Tryz.prog 52 #[ax B,.agg (ak x).toArray] w (dH BI w0 Y w B (.tuple #[]) {s with b:=aP s.b [4] }):=by
 obtain⟨W1,hW1,b1,kx⟩:=aZ (x:=x) w;have hM1:=h.keep I b1;have hYl:=h.lt I;obtain⟨b,hcb,hSH⟩:=hM1.shut I hT [4] (by decide) hb;have bl:=af W1 (.cells #[.int .i64 4] 3);have HS:=zH (hSH (W1.alloc (.cells #[.int .i64 4] 3)) (.slice (some ⟨W1.heap.size,0,none⟩) 1 1) (fun k=>k=W1.heap.size) bl (D9 W1 [4] 3) (fun k q=>⟨by simp[q],fun e=>by have:=hYl k e;have:=b1.size;omega⟩));have c0:=hcb W1 (OX _ _);have c0':=hcb _ bl;have HB1:=zH b1;obtain⟨xl,xm,⟨va,vn,vc⟩,xt⟩:=x;simp only[ak,bG]at hW1 ⊢;clear h hM1 hYl hcb hSH bl kx b1 hb;go_enter Tryz.func52,Tryz.ntmps52
 go_wp2_with fail
 refine HS.out.mono ?_;rintro e w2 ⟨rfl,m2⟩;have M2:=zH (m2.pre HB1.out);clear m2;go_wp2_with fail
 go_end0;exact⟨rfl,M2.out⟩
theorem xV (I:bI BI TB) (h:MM BI w0 Y w B s) (hT:TB w0) (x:RV) (hb:btl s.b≤30000) (hD:s.d.length≤500000):
  Calls Tryz.prog 56 #[ax B,.agg (ak x).toArray] w (dH BI w0 Y w B (.tuple #[]) (if(dB s.b 5).2 then {s with b:=(dB s.b 5).1} else aK {s with b:=(dB s.b 5).1} 6 x.1)):=by
 obtain⟨W1,hW1,b1,kx⟩:=aZ (x:=x) w;have hM1:=h.keep I b1;have hYl:=h.lt I;obtain⟨b,X,R,c0,hXY,hBI,hAF⟩:=hM1.call I hT;have HC:Hid (Calls Tryz.prog 88 #[ax b,.int .i64 5] W1 fun e w'=>e= .returned (.bool (dB s.b 5).2)∧bB BI w0 Y W1 B {s with b:=(dB s.b 5).1} w'):=zH (by
  refine(I.close 5 (hBI W1 (OX _ _)).1 (hBI W1 (OX _ _)).2.1 hb).mono ?_;rintro e w' ⟨rfl,ha⟩;exact⟨rfl,hAF _ _ W1 w' (OX _ _) (fun k q=>q.elim) ha⟩)
 have HT:Hid (∀V,bB BI w0 Y W1 B {s with b:=(dB s.b 5).1} V→V.cell? ⟨w.heap.size,0,none⟩=some (.int .i64 x.1)∧Calls Tryz.prog 28 #[ax B,.int .i64 6,.int .i64 x.1] V (dH BI w0 Y W1 B (.tuple #[]) (aK {s with b:=(dB s.b 5).1} 6 x.1))):=zH (fun V ⟨Y',hM,hE,hY'⟩=>by
  have hs1:=b1.size;refine⟨by rw[(hE.blk kx (fun e=>by have:=hYl _ e;omega)).cell 0];rfl,(dG I hM 6 x.1 hD).mono ?_⟩;rintro e w' ⟨rfl,m1⟩;exact⟨rfl,bB.trans hE hY' m1⟩)
 obtain⟨cl,hcl⟩: ∃c,dB s.b 5=c:=⟨_,rfl⟩;rw[hcl]at HC HT ⊢;have HB1:=zH b1;obtain⟨xl,xm,⟨va,vn,vc⟩,xt⟩:=x;obtain⟨t2,ok⟩:=cl;simp only[ak,bG]at hW1 HT HC ⊢;clear h hM1 hYl hXY hBI hAF kx b1 hb hD hcl
 cases ok with
 | true=>
  simp only[if_true];go_enter Tryz.func56,Tryz.ntmps56
  go_wp2_with fail
  refine HC.out.mono ?_;rintro e w2 ⟨rfl,m2⟩;have M2:=zH (m2.pre HB1.out);clear m2;go_wp2_with fail
  go_end0;exact⟨rfl,M2.out⟩
 | false=>
  simp only[PO,QO];go_enter Tryz.func56,Tryz.ntmps56
  go_wp2_with fail
  refine HC.out.mono ?_;rintro e w2 ⟨rfl,m2⟩;obtain⟨z0,ht⟩:=HT.out w2 m2;have HT2:=zH ht;clear m2 ht HT HC c0;go_wp2_with fail
  refine HT2.out.mono ?_;rintro e w3 ⟨rfl,m3⟩;have M3:=zH (m3.pre HB1.out);clear m3;go_wp2_with fail
  go_end0;exact⟨rfl,M3.out⟩
def iZ (s:Md) (kd ln:Int):Md:=if kd=6 then {s with b:=bH s.b,v:=some (ln,[]) } else {s with b:=bH s.b,g:=some (ln,[]) }
theorem Ah (I:bI BI TB) (h:MM BI w0 Y w B s) (hT:TB w0) (hv:s.v=none) (hg:s.g=none) (hw:s.w=none) (x:RV) (kd:Int) (hkd:kd=6∨kd=7) (F1 F2:Nat) (hF1:Blk w F1 74 [ax B]) (hF2:Blk w F2 3 [.int .i64 kd]) (hY1: ¬Y F1) (hY2: ¬Y F2) (hb:btl s.b≤30000):
  Calls Tryz.prog 89 #[.agg (ak x).toArray,.pointer (some ⟨F1,0,none⟩),.pointer (some ⟨F2,0,none⟩)] w (dH BI w0 Y w B (.tuple #[]) (iZ s kd x.1)):=by
 obtain⟨W1,hW1,b1,kx⟩:=aZ (x:=x) w;have hM1:=h.keep I b1;have hYl:=h.lt I;have hs1:=b1.size;obtain⟨b,X,R,c0,hXY,hBI,hAF⟩:=hM1.call I hT;have HC:Hid (Calls Tryz.prog 63 #[ax b] W1 fun e w'=>e= .returned (.tuple #[])∧bB BI w0 Y W1 B {s with b:=bH s.b} w'):=zH (by
  refine(I.nd (hBI W1 (OX _ _)).1 (hBI W1 (OX _ _)).2.1 hb).mono ?_;rintro e w' ⟨rfl,ha⟩;exact⟨rfl,hAF _ _ W1 w' (OX _ _) (fun k q=>q.elim) ha⟩)
 have f1:W1.cell? ⟨F1,0,none⟩=some (ax B):=(hF1.below b1).cell 0;have HN:Hid (∀V,bB BI w0 Y W1 B {s with b:=bH s.b} V→V.cell? ⟨w.heap.size,0,none⟩=some (.int .i64 x.1)∧V.cell? ⟨F1,0,none⟩=some (ax B)∧V.cell? ⟨F2,0,none⟩=some (.int .i64 kd)∧(∀j,j<15→(V.cell? ⟨B,j,none⟩).isSome=true∧V.frozen? ⟨B,j,none⟩=false)∧
   bB BI w0 Y W1 B (iZ s kd x.1) (((((((((((V).setCell ⟨B,3,none⟩ (.int .i64 kd)).setCell ⟨B,4,none⟩ (.int .i64 x.1)).setCell ⟨B,5,none⟩ (.int .i64 0)).setCell ⟨B,6,none⟩ (.slice none 0 0)).setCell ⟨B,7,none⟩ (.slice none 0 0)).setCell ⟨B,8,none⟩ (.slice none 0 0)).setCell ⟨B,9,none⟩ (.string ⟨#[]⟩)).setCell ⟨B,10,none⟩ (.slice none 0 0)).setCell ⟨B,11,none⟩ (.bool false)).setCell ⟨B,12,none⟩ (.bool false))):=zH (fun V ⟨Y',hM,hE,hY'⟩=>by
  have hbx:=hM.box_at I;obtain⟨b',wv,rv,tv,dv,hBl,hrn,hbx⟩:=hbx;have hB0:=hbx V (OX _ _);refine⟨by rw[(hE.blk kx (fun e=>by have:=hYl _ e;omega)).cell 0];rfl,(hE.blk (hF1.below b1) hY1).cell 0,(hE.blk (hF2.below b1) hY2).cell 0,fun j hj=>⟨by rw[hB0.cell j];simp[mnC,hj],hB0.frozen (by simp[mnC];omega)⟩,?_⟩;have hEB:Exc (fun k=>k=B) V (((((((((((V).setCell ⟨B,3,none⟩ (.int .i64 kd)).setCell ⟨B,4,none⟩ (.int .i64 x.1)).setCell ⟨B,5,none⟩ (.int .i64 0)).setCell ⟨B,6,none⟩ (.slice none 0 0)).setCell ⟨B,7,none⟩ (.slice none 0 0)).setCell ⟨B,8,none⟩ (.slice none 0 0)).setCell ⟨B,9,none⟩ (.string ⟨#[]⟩)).setCell ⟨B,10,none⟩ (.slice none 0 0)).setCell ⟨B,11,none⟩ (.bool false)).setCell ⟨B,12,none⟩ (.bool false)):=(((((((((((Exc.refl (fun k=>k=B) V).set 3 _ (fun _=>rfl)).set 4 _ (fun _=>rfl)).set 5 _ (fun _=>rfl)).set 6 _ (fun _=>rfl)).set 7 _ (fun _=>rfl)).set 8 _ (fun _=>rfl)).set 9 _ (fun _=>rfl)).set 10 _ (fun _=>rfl)).set 11 _ (fun _=>rfl)).set 12 _ (fun _=>rfl));obtain⟨F,hF⟩: ∃F,((((((((((V).setCell ⟨B,3,none⟩ (.int .i64 kd)).setCell ⟨B,4,none⟩ (.int .i64 x.1)).setCell ⟨B,5,none⟩ (.int .i64 0)).setCell ⟨B,6,none⟩ (.slice none 0 0)).setCell ⟨B,7,none⟩ (.slice none 0 0)).setCell ⟨B,8,none⟩ (.slice none 0 0)).setCell ⟨B,9,none⟩ (.string ⟨#[]⟩)).setCell ⟨B,10,none⟩ (.slice none 0 0)).setCell ⟨B,11,none⟩ (.bool false)).setCell ⟨B,12,none⟩ (.bool false)=F:=⟨_,rfl⟩;rw[hF]at hEB ⊢;have hv':iZ s kd x.1=iZ s kd x.1:=rfl;obtain⟨hM2,hE2⟩:=hM.putB I (OX _ _) hEB (s':=iZ s kd x.1) (by unfold iZ;split<;>rfl) (by unfold iZ;split<;>rfl) (by unfold iZ;split<;>rfl) (by rcases hkd with rfl | rfl<;>simp[iZ,rwM,hv]) (by rcases hkd with rfl | rfl<;>simp[iZ,txM,hg]) (by
    unfold iZ
    split
    ·exact⟨.inr hg,fun _=>hw,fun q=>absurd hg q⟩
    ·exact⟨.inl hv,fun q=>absurd hv q,fun _=>hw⟩) (fun _=>hv) (fun _=>hg) (fun b wv rv tv dv hr hB=>by
    obtain rfl:=hr hv;rw[←hF];have hq:=(((((((((hB.set 3 (.int .i64 kd)).set 4 (.int .i64 x.1)).set 5 (.int .i64 0)).set 6 (.slice none 0 0)).set 7 (.slice none 0 0)).set 8 (.slice none 0 0)).set 9 (.string ⟨#[]⟩)).set 10 (.slice none 0 0)).set 11 (.bool false)).set 12 (.bool false);have e1:kdM (iZ s kd x.1)=kd:=by
     unfold iZ kdM;rcases hkd with rfl | rfl
     ·rfl
     ·simp[hv]
    have e2:lnM (iZ s kd x.1)=x.1:=by
     unfold iZ lnM;rcases hkd with rfl | rfl
     ·rfl
     ·simp[hv]
    have e3:(iZ s kd x.1).th=s.th:=by unfold iZ;split<;>rfl
    rw[e1,e2,e3];exact hq) (Exc.refl _ _)
  exact⟨Y',hM2,hE.trans hE2 (fun k hk q=>(hY' k q).elim id (fun z=>by omega)),fun k q=>hY' k q⟩)
 have HB1:=zH b1;obtain⟨sf,hsf⟩: ∃sf,iZ s kd x.1=sf:=⟨_,rfl⟩;rw[hsf]at HN ⊢;obtain⟨xl,xm,⟨va,vn,vc⟩,xt⟩:=x;simp only[ak,bG]at hW1 HN ⊢;clear h hM1 hYl hXY hBI hAF kx b1 hb hsf hkd hv hg hw hF1 hF2 hs1;go_enter Tryz.func89,Tryz.ntmps89
 go_wp2_with fail
 refine HC.out.mono ?_;rintro e w2 ⟨rfl,m2⟩;obtain⟨z0,z1,z2,zb,m3⟩:=HN.out w2 m2;have M3:=zH (m3.pre HB1.out);obtain⟨q0,hq0⟩:=Pv.1 (zb 3 (by decide)).1;have fz0:=(zb 3 (by decide)).2;obtain⟨q1,hq1⟩:=Pv.1 (zb 4 (by decide)).1;have fz1:=(zb 4 (by decide)).2;obtain⟨q2,hq2⟩:=Pv.1 (zb 5 (by decide)).1;have fz2:=(zb 5 (by decide)).2;obtain⟨q3,hq3⟩:=Pv.1 (zb 6 (by decide)).1;have fz3:=(zb 6 (by decide)).2;obtain⟨q4,hq4⟩:=Pv.1 (zb 7 (by decide)).1;have fz4:=(zb 7 (by decide)).2;obtain⟨q5,hq5⟩:=Pv.1 (zb 8 (by decide)).1;have fz5:=(zb 8 (by decide)).2;obtain⟨q6,hq6⟩:=Pv.1 (zb 9 (by decide)).1;have fz6:=(zb 9 (by decide)).2;obtain⟨q7,hq7⟩:=Pv.1 (zb 10 (by decide)).1;have fz7:=(zb 10 (by decide)).2;obtain⟨q8,hq8⟩:=Pv.1 (zb 11 (by decide)).1;have fz8:=(zb 11 (by decide)).2;obtain⟨q9,hq9⟩:=Pv.1 (zb 12 (by decide)).1;have fz9:=(zb 12 (by decide)).2;clear m2 m3 HN HC zb;go_wp2_with fail
 go_end0;exact⟨rfl,M3.out⟩
end
end Go.Proofs.YtebabjnngdjceaaGreatDoor
