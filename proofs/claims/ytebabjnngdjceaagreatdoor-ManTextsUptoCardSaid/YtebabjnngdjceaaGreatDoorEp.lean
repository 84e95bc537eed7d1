/- The document's own escape: its cells while it runs; what it leaves. The document's own escape: where a rune stands for another one. The document's own escape: where nothing is said, or all behind it is a note, or it is none. The document's own escape: a rune that is named. The document's own escape: -/
import Derived.Test.YtebabjnngdjceaaGreatDoorBs
import Derived.Test.YtebabjnngdjceaaGreatDoorJA
import Derived.Test.YtebabjnngdjceaaGreatDoorEh
import Derived.Test.YtebabjnngdjceaaGreatDoorHa
import Derived.Deep.RegionHeld3
import Derived.Test.YtebabjnngdjceaaGreatDoorZ0
import Derived.IntWalk
set_option linter.unusedVariables false
set_option linter.unusedSimpArgs false
set_option maxRecDepth 100000
set_option maxHeartbeats 8000000
namespace Go.Proofs.YtebabjnngdjceaaGreatDoor
open Go.RowKit
section
attribute [local go_sem ↓ high] bN aM
def aU:List (Int×Int):=[(92,92),(101,92),(45,45),(46,46),(39,180),(96,96),(32,160),(126,160),(48,160)]
def bQ:List (Int×Int)→Int→Option Int
 | [],_=>none
 | p::t,d=>if p.1=d then some p.2 else bQ t d
theorem dJ {l:List (Int×Int)} {j:Nat} {p:Int×Int} (h:l[j]? =some p):bQ (l.drop j) p.1=some p.2:=by
 obtain⟨hp,rfl⟩:=OV.1 h;rw[PX hp];simp[bQ]
theorem cZ {l:List (Int×Int)} {j:Nat} {p:Int×Int} {d:Int} (h:l[j]? =some p) (hb: ¬p.1=d):bQ (l.drop j) d=bQ (l.drop (j+1)) d:=by
 obtain⟨hp,rfl⟩:=OV.1 h;rw[PX hp];simp[bQ,hb]
theorem eX (d:Int):jW d=bQ aU d:=by
 cases h:jW d with
 | some x=>rcases vU h with⟨rfl,rfl⟩| ⟨rfl,rfl⟩| ⟨rfl,rfl⟩| ⟨rfl,rfl⟩| ⟨rfl,rfl⟩| ⟨rfl,rfl⟩| ⟨rfl,rfl⟩| ⟨rfl,rfl⟩| ⟨rfl,rfl⟩<;>decide
 | none=>
  obtain⟨x1,x2,x3,x4,x5,x6,x7,x8,x9⟩:=vV h;simp[bQ,aU,Rh x1,Rh x2,Rh x3,Rh x4,Rh x5,Rh x6,Rh x7,Rh x8,Rh x9]
structure Rx (base:Nat) (w:World) (lv:Value) (L:List Int) (tv dv:Value) (T:List Tok) (D:List Dg) (W:World):Prop where
 b0:Blk W w.heap.size 106 [tv,dv]
 b1:Blk W (w.heap.size+1) 106 [.slice none 0 0,.slice none 0 0]
 t:eD base W tv T
 d:aL base W dv D
 s:Sl .i32 W lv L
 bel:Below w.heap.size w W
section
variable {base:Nat} {w:World} {lv:Value} {L:List Int} {tv dv:Value} {T:List Tok} {D:List Dg} {W:World}
theorem Rx.big (h:Rx base w lv L tv dv T D W):w.heap.size+1<W.heap.size:=(O5.1 h.b1).1
theorem Rx.keep {W':World} (h:Rx base w lv L tv dv T D W) (hb:Below W.heap.size W W'):Rx base w lv L tv dv T D W':=
 ⟨h.b0.below hb,h.b1.below hb,h.t.keep hb,h.d.keep hb,h.s.below hb,h.bel.trans (hb.mono (by have:=h.big;omega))⟩
theorem Rx.start (hs:Sl .i32 w lv L) (ht:eD base w tv T) (hd:aL base w dv D):Rx base w lv L tv dv T D ((w.alloc (.cells #[tv,dv] 106)).alloc (.cells #[.slice none 0 0,.slice none 0 0] 106)):=
 ⟨jP w [tv,dv] _ _,nR w _ [.slice none 0 0,.slice none 0 0] _,ht.keep (gF w _ _),hd.keep (gF w _ _),hs.below (gF w _ _),gF w _ _⟩
theorem rf {α:Type} {e n:Nat} {f:α→List Value} {x:Value} {l:List α} (h:ag e n f base W x l) {b e':Nat} {C:List Value} (hb:Blk W b e' C) (he:e≠e'):x.ownBlock≠some b:=by
 intro hx;obtain⟨-,cur,hc⟩:=h.ty hx;have hb':W.heap[b]? =some (.cells C.toArray e' (0,0)):=hb;rw[hb']at hc;injection hc with hc
 injection hc with _ h2 _
 exact he h2.symm
def jh (base:Nat) (w:World) (tv0 dv0:Value) (T:List Tok) (D:List Dg) (nx:Nat) (e:Ending) (w':World):Prop:=
 ∃tv dv,e= .returned (.tuple #[.agg #[tv,dv],.int .i64 (nx:Int)])∧eD base w' tv T∧aL base w' dv D∧Below base w w'∧w.heap.size≤w'.heap.size∧ ∀b,b<w.heap.size→tv0.ownBlock≠some b→dv0.ownBlock≠some b→w'.heap[b]? =w.heap[b]?
structure Fin (base:Nat) (w:World) (tv0 dv0:Value) (tv dv:Value) (T:List Tok) (D:List Dg) (W:World):Prop where
 c0:W.cell? ⟨w.heap.size+1,0,none⟩=some (.slice none 0 0)
 c1:W.cell? ⟨w.heap.size+1,1,none⟩=some (.slice none 0 0)
 f0:W.frozen? ⟨w.heap.size+1,0,none⟩=false
 f1:W.frozen? ⟨w.heap.size+1,1,none⟩=false
 fin: ∀nx:Nat,jh base w tv0 dv0 T D nx (.returned (.tuple #[.agg #[tv,dv],.int .i64 (nx:Int)])) ((W.setCell ⟨w.heap.size+1,0,none⟩ tv).setCell ⟨w.heap.size+1,1,none⟩ dv)
theorem Rx.fin (h:Rx base w lv L tv dv T D W) (hb:base≤w.heap.size) {W':World} {tv' dv':Value} {T':List Tok} {D':List Dg} (ht:eD base W' tv' T') (hd:aL base W' dv' D') (hbl:Below base W W') (hz:W.heap.size≤W'.heap.size)
  (hk: ∀b,b<W.heap.size→tv.ownBlock≠some b→dv.ownBlock≠some b→W'.heap[b]? =W.heap[b]?):Fin base w tv dv tv' dv' T' D' W':=by
 have hbig:=h.big;have n1:=rf h.t h.b1 (by decide);have n2:=rf h.d h.b1 (by decide);have b1:Blk W' (w.heap.size+1) 106 [.slice none 0 0,.slice none 0 0]:=(hk _ (by omega) n1 n2).trans h.b1;have m1:=rf ht b1 (by decide);have m2:=rf hd b1 (by decide);refine⟨b1.cell 0,b1.cell 1,b1.frozen (by simp),b1.frozen (by simp),fun nx=>⟨tv',dv',rfl,Py (Py ht m1 _) m1 _,Py (Py hd m2 _) m2 _,(((h.bel.mono hb).trans hbl).setCell (by simp only;omega) _).setCell (by simp only;omega) _,by simp only[dz];omega,fun b hb' q1 q2=>?_⟩⟩;exact((((OX (b+1) W').setCell (by simp only;omega) _).setCell (by simp only;omega) _).block b (by omega)).trans ((hk b (by omega) q1 q2).trans (h.bel.block b hb'))
theorem Rx.same (h:Rx base w lv L tv dv T D W) (hb:base≤w.heap.size):Fin base w tv dv tv dv T D W:=
 h.fin hb h.t h.d (OX _ _) (OW _) (fun _ _ _ _=>rfl)
theorem H9 (q:Nat) (w:World) (hs:Sl .i32 w lv L) (ht:eD base w tv T) (hd:aL base w dv D) (hb:base≤w.heap.size) (hq:q=L.length) (hq0:1≤q) (hL:L.length≤2000) (hDl:D.length≤2000):
  Calls Tryz.prog 45 #[.agg #[tv,dv],lv,.int .i64 (q:Int)] w (jh base w tv dv T (D++dgs (q-1) [1]) q):=by
 have HX:=zH (Rx.start hs ht hd);obtain⟨a,cap,rfl⟩:=hs.len;obtain⟨ta,tc,hx1⟩:=(ag.sl az ht).len;obtain⟨da,dc,hx2⟩:=(ag.sl ai hd).len;obtain⟨N,hN⟩: ∃N,L.length=N:=⟨_,rfl⟩;rw[hN]at HX hq ⊢;obtain⟨W2,hW2⟩: ∃W2,(w.alloc (.cells #[tv,dv] 106)).alloc (.cells #[.slice none 0 0,.slice none 0 0] 106)=W2:=⟨_,rfl⟩;rw[hW2]at HX;have HW2:=zH hW2;have c0:W2.cell? ⟨w.heap.size,0,none⟩=some tv:=HX.out.b0.cell 0;have c1:W2.cell? ⟨w.heap.size,1,none⟩=some dv:=HX.out.b0.cell 1;subst hx1 hx2;obtain⟨p,rfl⟩: ∃p,q=p+1:=⟨q-1,by omega⟩;have HC:=zH (iJ base _ _ 1 p T D W2 HX.out.t HX.out.d (by have:=HX.out.big;omega) (by omega) (by omega));have hz:(N:Int)≤((p+1:Nat):Int):=by omega
 have hz1:(0:Int)≤(p:Int):=by omega
 have hz2:(p:Int)≤2000:=by omega
 have HQ:=zH hb;simp only[Qp];clear hW2 hs ht hd hN hq hb;go_enter Tryz.func45,Tryz.ntmps45
 go_wp2_with fail
 rw[HW2.out];refine HC.out.mono ?_;rintro e w5 ⟨tv',dv',rfl,ht',hd',hbl,hsz,hk⟩;have HF:=HX.out.fin HQ.out ht' hd' hbl hsz hk;obtain⟨ta',tc',hx1⟩:=(ag.sl az ht').len;obtain⟨da',dc',hx2⟩:=(ag.sl ai hd').len;obtain⟨m,hm⟩: ∃m,(D++dgs p [1]).length=m:=⟨_,rfl⟩;rw[hm]at hx2;subst hx1 hx2;have q0:=HF.c0;have q1:=HF.c1;have f0:=HF.f0;have f1:=HF.f1;have HR:=zH (HF.fin (p+1));clear HC HX HW2 ht' hd' hbl hsz hk hm HF c0 c1;go_wp2_with fail
 exact Pq (v:= .tuple #[.agg #[.slice ta' T.length tc',.slice da' m dc'],.int .i64 ((p+1:Nat):Int)]) (by simp[results,Tryz.results45,go_sem,q0,q1]) rfl HR.out
end
end
section
attribute [local go_sem ↓ high] bN aM
def smL:List Int:=aU.map (·.1)
def smR:List Int:=aU.map (·.2)
structure Lp (base:Nat) (w:World) (lv:Value) (L:List Int) (tv dv:Value) (T:List Tok) (D:List Dg) (W:World):Prop where
 rx:Rx base w lv L tv dv T D W
 p:Sl .i32 W (.slice (some ⟨w.heap.size+1+1,0,none⟩) 9 9) smL
 a:Sl .i32 W (.slice (some ⟨w.heap.size+1+1+1,0,none⟩) 9 9) smR
section
variable {base:Nat} {w:World} {lv:Value} {L:List Int} {tv dv:Value} {T:List Tok} {D:List Dg} {W:World}
theorem Lp.keep {W':World} (h:Lp base w lv L tv dv T D W) (hb:Below W.heap.size W W'):Lp base w lv L tv dv T D W':=⟨h.rx.keep hb,h.p.below hb,h.a.below hb⟩
theorem Lp.start (hs:Sl .i32 w lv L) (ht:eD base w tv T) (hd:aL base w dv D):
  Lp base w lv L tv dv T D ((((w.alloc (.cells #[tv,dv] 106)).alloc (.cells #[.slice none 0 0,.slice none 0 0] 106)).alloc (.cells #[.int .i32 92,.int .i32 101,.int .i32 45,.int .i32 46,.int .i32 39,.int .i32 96,.int .i32 32,.int .i32 126,.int .i32 48] 21)).alloc (.cells #[.int .i32 92,.int .i32 92,.int .i32 45,.int .i32 46,.int .i32 180,.int .i32 96,.int .i32 160,.int .i32 160,.int .i32 160] 21)):=by
 have h:=Rx.start hs ht hd;have hsz:((w.alloc (.cells #[tv,dv] 106)).alloc (.cells #[.slice none 0 0,.slice none 0 0] 106)).heap.size=w.heap.size+1+1:=by simp
 obtain⟨W2,hW2⟩: ∃W2,(w.alloc (.cells #[tv,dv] 106)).alloc (.cells #[.slice none 0 0,.slice none 0 0] 106)=W2:=⟨_,rfl⟩;rw[hW2]at h hsz ⊢;have p1:=jm (k:= .i32) W2 21 smL;have p2:=jm (k:= .i32) (W2.alloc (.cells #[.int .i32 92,.int .i32 101,.int .i32 45,.int .i32 46,.int .i32 39,.int .i32 96,.int .i32 32,.int .i32 126,.int .i32 48] 21)) 21 smR;have e3:(W2.alloc (.cells #[.int .i32 92,.int .i32 101,.int .i32 45,.int .i32 46,.int .i32 39,.int .i32 96,.int .i32 32,.int .i32 126,.int .i32 48] 21)).heap.size=w.heap.size+1+1+1:=by simp[hsz]
 rw[hsz]at p1;rw[e3]at p2;exact⟨h.keep (gF W2 _ _),p1.below (af _ _),p2⟩
theorem Lp.plain (h:Lp base w lv L tv dv T D W) {j:Nat} {p:Int×Int} (hp:aU[j]? =some p):W.cell? ⟨w.heap.size+1+1,j,none⟩=some (.int .i32 p.1):=by
 obtain⟨g,off,he,c⟩:=h.p.at (j:=j) (z:=p.1) (by simp[smL,hp])
 cases he
 rw[Qu]at c;exact c
theorem Lp.as (h:Lp base w lv L tv dv T D W) {j:Nat} {p:Int×Int} (hp:aU[j]? =some p):W.cell? ⟨w.heap.size+1+1+1,j,none⟩=some (.int .i32 p.2):=by
 obtain⟨g,off,he,c⟩:=h.a.at (j:=j) (z:=p.2) (by simp[smR,hp])
 cases he
 rw[Qu]at c;exact c
theorem fZ {w W W':World} {tv dv:Value} (n1: ∀b,w.heap.size≤b→tv.ownBlock≠some b) (n2: ∀b,w.heap.size≤b→dv.ownBlock≠some b) (hk: ∀b,b<W.heap.size→tv.ownBlock≠some b→dv.ownBlock≠some b→W'.heap[b]? =W.heap[b]?) {b j:Nat} {v:Value} (hb:w.heap.size≤b) (h:W.cell? ⟨b,j,none⟩=some v):W'.cell? ⟨b,j,none⟩=some v:=
 (P7 (w:=W) (a:=⟨b,j,none⟩) (hk b (Po _ _ h) (n1 b hb) (n2 b hb))).trans h
theorem ES (q:Nat) (d x:Int) (w:World) (hs:Sl .i32 w lv L) (ht:eD base w tv T) (hd:aL base w dv D) (hb:base≤w.heap.size) (hq:L[q]? =some d) (hL:L.length≤2000) (hTl:T.length≤2000) (hx:jW d=some x):
  Calls Tryz.prog 45 #[.agg #[tv,dv],lv,.int .i64 (q:Int)] w (jh base w tv dv (T++ [(1,x)]) D (q+1)):=by
 have HX:=zH (Lp.start hs ht hd);have HN1:=zH (fun b (hb:w.heap.size≤b)=>aJ ht hb);have HN2:=zH (fun b (hb:w.heap.size≤b)=>aJ hd hb);have hlt:=(OV.1 hq).1;obtain⟨a,cap,rfl⟩:=hs.len;obtain⟨ta,tc,hx1⟩:=(ag.sl az ht).len;obtain⟨da,dc,hx2⟩:=(ag.sl ai hd).len;obtain⟨g,off,rfl,c5⟩:=hs.at hq;obtain⟨N,hN⟩: ∃N,L.length=N:=⟨_,rfl⟩;rw[hN]at HX hlt hL ⊢;obtain⟨W3,hW3⟩: ∃W3,((((w.alloc (.cells #[tv,dv] 106)).alloc (.cells #[.slice none 0 0,.slice none 0 0] 106)).alloc (.cells #[.int .i32 92,.int .i32 101,.int .i32 45,.int .i32 46,.int .i32 39,.int .i32 96,.int .i32 32,.int .i32 126,.int .i32 48] 21)).alloc (.cells #[.int .i32 92,.int .i32 92,.int .i32 45,.int .i32 46,.int .i32 180,.int .i32 96,.int .i32 160,.int .i32 160,.int .i32 160] 21))=W3:=⟨_,rfl⟩;rw[hW3]at HX;subst hx1 hx2;have HW3:=zH hW3;have HQ:=zH hb;have HHQ:=zH hq;have HXX:=zH hx;have hz: ¬(N:Int)≤(q:Int):=by omega
 have hz0:(q:Int)<(N:Int):=by omega
 have hz1:(0:Int)≤(q:Int):=by omega
 have hz2:(q:Int)≤2000:=by omega
 clear hW3 hs ht hd hN hq hb hx;go_enter Tryz.func45,Tryz.ntmps45
 go_wp2_with fail
 rw[HW3.out];go_loopw [11] (fun i wr=> ∃j:Nat,j≤9∧i= .int .i64 j∧Below W3.heap.size W3 wr∧bQ (aU.drop j) d=some x) (fun i _=>9-(intOf i).toNat)
 case atStart=>exact⟨0,by omega,rfl,OX _ _,by rw[Qs,←eX];exact HXX.out⟩
 case round=>
  obtain⟨j,hj,rfl,hbw,hl⟩:=hrel;have HL:=zH hl;have HXW:=zH (HX.out.keep hbw);have HBW:=zH hbw;clear hl hbw c5
  by_cases hlt9:j<9
  ·obtain⟨p,hp⟩: ∃p,aU[j]? =some p:=⟨aU[j]'(by simpa[aU] using hlt9),OU _⟩
   obtain⟨g',off',he,c5⟩:=(HXW.out.rx.s).at HHQ.out
   cases he
   have c6:=HXW.out.plain hp;have c7:=HXW.out.as hp;have hi0:(j:Int)<9:=by omega
   have hi1:(0:Int)≤(j:Int):=by omega
   by_cases he:p.1=d
   ·have hpx:p.2=x:=by
     have:=HL.out;rw[←he,dJ hp]at this;exact Ph this
    have hdq:(d==p.1)=true:=by simpa using he.symm
    rw[hpx]at c7;have hx7: ∀W,Lp base w (.slice (some ⟨g,off,none⟩) N cap) L (.slice ta T.length tc) (.slice da D.length dc) T D W→W.cell? ⟨w.heap.size+1+1+1,j,none⟩=some (.int .i32 x):=fun W h=>hpx▸h.as hp
    have c8:wr.cell? ⟨w.heap.size,0,none⟩=some (.slice ta T.length tc):=HXW.out.rx.b0.cell 0;have c9:wr.cell? ⟨w.heap.size,1,none⟩=some (.slice da D.length dc):=HXW.out.rx.b0.cell 1;have HXD:=zH (fun n=>HXW.out.keep (below_drewN (OX _ wr) n));clear hp he hpx;go_wp2_with fail
    go_quiet (fail)
    generalize hwd:World.drewN wr _=wd;have HXE:Hid (Lp base w (.slice (some ⟨g,off,none⟩) N cap) L (.slice ta T.length tc) (.slice da D.length dc) T D wd):=zH (by rw[←hwd];exact HXD.out _);clear hwd HXD HXW HBW HL c5 c6 c7 c8 c9;have c7:wd.cell? ⟨w.heap.size+1+1+1,j,none⟩=some (.int .i32 x):=hx7 wd HXE.out;have c8:wd.cell? ⟨w.heap.size,0,none⟩=some (.slice ta T.length tc):=HXE.out.rx.b0.cell 0;have c9:wd.cell? ⟨w.heap.size,1,none⟩=some (.slice da D.length dc):=HXE.out.rx.b0.cell 1;have hwq:IntKind.i64.wrap ((q:Int)+1)=(q:Int)+1:=IntWalk.i64_in _ (by omega);have HS:=zH (fun W (h:Below wd.heap.size wd W)=>mG base _ _ 1 x T D W (HXE.out.keep h).rx.t (HXE.out.keep h).rx.d (by have:=(HXE.out.keep h).rx.big;have:=HQ.out;omega) (by omega));go_wp2_with fail
    go_region_held3 (fun W'=>W'.cell? ⟨w.heap.size+1+1+1,j,none⟩=some (.int .i32 x)∧W'.cell? ⟨w.heap.size,0,none⟩=some (.slice ta T.length tc)∧W'.cell? ⟨w.heap.size,1,none⟩=some (.slice da D.length dc))
     (first | assumption | go_keep)
     ((go_at_call 46;(with_reducible refine(HS.out _ (OX _ wd).drew).mono ?_);rintro e w5 ⟨tv',dv',rfl,ht',hd',hbl,hsz,hk⟩;have k7:=fZ HN1.out HN2.out hk (by omega) c7;have k8:=fZ HN1.out HN2.out hk (OW _) c8;have k9:=fZ HN1.out HN2.out hk (OW _) c9;have HF:=(HXE.out.keep (OX _ wd).drew).rx.fin HQ.out ht' hd' hbl hsz hk;obtain⟨ta',tc',hx1⟩:=(ag.sl az ht').len;obtain⟨da',dc',hx2⟩:=(ag.sl ai hd').len;obtain⟨m,hm⟩: ∃m,(T++ [(1,x)]).length=m:=⟨_,rfl⟩;rw[hm]at hx1;subst hx1 hx2;have q0:=HF.c0;have q1:=HF.c1;have f0:=HF.f0;have f1:=HF.f1;have HR:=zH (HF.fin (q+1));clear ht' hd' hbl hsz hk HF hm))
    go_wp2_with fail
    exact Pq (v:= .tuple #[.agg #[.slice ta' m tc',.slice da' D.length dc'],.int .i64 ((q+1:Nat):Int)]) (by simp[results,Tryz.results45,go_sem,q0,q1]) rfl HR.out
   ·have hnx:=zH (show bQ (aU.drop (j+1)) d=some x by rw[←cZ hp he];exact HL.out)
    have hdq:(d==p.1)=false:=by simpa using fun h:d=p.1=>he h.symm
    clear hp he c7;go_wp2_with fail
    go_quiet (fail)
    go_wp2
    go_roundw
    case rel=>exact⟨j+1,by omega,by go_num,below_drewN HBW.out _,hnx.out⟩
    case measure=>simp[intOf];omega
  ·obtain rfl:j=9:=by omega
   have:=HL.out
   cases this
end
end
section
attribute [local go_sem ↓ high] bN aM
section
variable {base:Nat} {w:World} {lv:Value} {L:List Int} {tv dv:Value} {T:List Tok} {D:List Dg} {W:World}
theorem QUf {P:Prop}(h:P:=by
 obtain⟨y,hp⟩: ∃y,aU[j]? =some y:=⟨aU[j]'(by simpa[aU] using hlt9),OU _⟩;have c6:=HXW.out.plain hp;have hi0:(j:Int)<9:=by omega
 have hi1:(0:Int)≤(j:Int):=by omega
 by_cases he:y.1=d
 ·have:=HL.out
  rw[←he,dJ hp]at this
  cases this
 ·have hnx:=zH (show bQ (aU.drop (j+1)) d=none by rw[←cZ hp he];exact HL.out)
  have hdq:(d==y.1)=false:=by simpa using fun h:d=y.1=>he h.symm
  clear hp he;go_wp2_with fail
  go_quiet (fail)
  go_wp2
  go_roundw
  case rel=>exact⟨j+1,by omega,by go_num,below_drewN HBW.out _,hnx.out⟩
  case measure=>simp[intOf];omega):P:=h
theorem xH (q:Nat) (d:Int) (w:World) (hs:Sl .i32 w lv L) (ht:eD base w tv T) (hd:aL base w dv D) (hb:base≤w.heap.size) (hq:L[q]? =some d) (hq1:1≤q) (hL:L.length≤2000) (hTl:T.length≤2000) (hDl:D.length≤2000) (hsim:jW d=none)
  (hx:d=38∨d=37∨d=47∨d=44∨d=58):
  Calls Tryz.prog 45 #[.agg #[tv,dv],lv,.int .i64 (q:Int)] w (jh base w tv dv T D (q+1)):=by
 have HX:=zH (Lp.start hs ht hd);have HN1:=zH (fun b (hb:w.heap.size≤b)=>aJ ht hb);have HN2:=zH (fun b (hb:w.heap.size≤b)=>aJ hd hb);have hlt:=(OV.1 hq).1;obtain⟨a,cap,rfl⟩:=hs.len;obtain⟨ta,tc,hx1⟩:=(ag.sl az ht).len;obtain⟨da,dc,hx2⟩:=(ag.sl ai hd).len;obtain⟨g,off,rfl,c5⟩:=hs.at hq;obtain⟨p,rfl⟩: ∃p,q=p+1:=⟨q-1,by omega⟩
 try simp only[Qp]
 obtain⟨N,hN⟩: ∃N,L.length=N:=⟨_,rfl⟩;rw[hN]at HX hlt hL ⊢;obtain⟨W3,hW3⟩: ∃W3,((((w.alloc (.cells #[tv,dv] 106)).alloc (.cells #[.slice none 0 0,.slice none 0 0] 106)).alloc (.cells #[.int .i32 92,.int .i32 101,.int .i32 45,.int .i32 46,.int .i32 39,.int .i32 96,.int .i32 32,.int .i32 126,.int .i32 48] 21)).alloc (.cells #[.int .i32 92,.int .i32 92,.int .i32 45,.int .i32 46,.int .i32 180,.int .i32 96,.int .i32 160,.int .i32 160,.int .i32 160] 21))=W3:=⟨_,rfl⟩;rw[hW3]at HX;subst hx1 hx2;have HW3:=zH hW3;have HQ:=zH hb;have HHQ:=zH hq;have HXX:=zH hsim;have HLN:=zH hN;have hz: ¬(N:Int)≤(p:Int)+1:=by omega
 have hz0:(p:Int)+1<(N:Int):=by omega
 have hz1:(0:Int)≤(p:Int):=by omega
 have hz2:(p:Int)+1≤2000:=by omega
 clear hW3 hs ht hd hN hq hb hsim;go_enter Tryz.func45,Tryz.ntmps45
 go_wp2_with fail
 rw[HW3.out];go_loopw [11] (fun i wr=> ∃j:Nat,j≤9∧i= .int .i64 j∧Below W3.heap.size W3 wr∧bQ (aU.drop j) d=none) (fun i _=>9-(intOf i).toNat)
 case atStart=>exact⟨0,by omega,rfl,OX _ _,by rw[Qs,←eX];exact HXX.out⟩
 case round=>
  obtain⟨j,hj,rfl,hbw,hl⟩:=hrel;have HL:=zH hl;have HXW:=zH (HX.out.keep hbw);have HBW:=zH hbw;clear hl hbw c5;obtain⟨g',off',he,c50⟩:=(HXW.out.rx.s).at HHQ.out
  cases he
  have c5:wr.cell? ⟨g,off+(p+1),none⟩=some (.int .i32 d):=c50;clear c50
  by_cases hlt9:j<9
  ·exact QUf
  ·obtain rfl:j=9:=by omega
   have c8:wr.cell? ⟨w.heap.size,0,none⟩=some (.slice ta T.length tc):=HXW.out.rx.b0.cell 0;have c9:wr.cell? ⟨w.heap.size,1,none⟩=some (.slice da D.length dc):=HXW.out.rx.b0.cell 1;have HF:=HXW.out.rx.same HQ.out;have q0:=HF.c0;have q1:=HF.c1;have f0:=HF.f0;have f1:=HF.f1;have HR:=zH (HF.fin (p+1+1));clear HF HL HBW HX HXX;rcases hx with rfl | rfl | rfl | rfl | rfl
   all_goals
    go_wp2_with fail
    exact Pq (v:= .tuple #[.agg #[.slice ta T.length tc,.slice da D.length dc],.int .i64 ((p+1+1:Nat):Int)]) (by simp[results,Tryz.results45,go_sem,q0,q1]) rfl HR.out
theorem xI (q:Nat) (d:Int) (w:World) (hs:Sl .i32 w lv L) (ht:eD base w tv T) (hd:aL base w dv D) (hb:base≤w.heap.size) (hq:L[q]? =some d) (hq1:1≤q) (hL:L.length≤2000) (hTl:T.length≤2000) (hDl:D.length≤2000) (hsim:jW d=none) (hx:d=34):
  Calls Tryz.prog 45 #[.agg #[tv,dv],lv,.int .i64 (q:Int)] w (jh base w tv dv T D L.length):=by
 have HX:=zH (Lp.start hs ht hd);have HN1:=zH (fun b (hb:w.heap.size≤b)=>aJ ht hb);have HN2:=zH (fun b (hb:w.heap.size≤b)=>aJ hd hb);have hlt:=(OV.1 hq).1;obtain⟨a,cap,rfl⟩:=hs.len;obtain⟨ta,tc,hx1⟩:=(ag.sl az ht).len;obtain⟨da,dc,hx2⟩:=(ag.sl ai hd).len;obtain⟨g,off,rfl,c5⟩:=hs.at hq;obtain⟨p,rfl⟩: ∃p,q=p+1:=⟨q-1,by omega⟩
 try simp only[Qp]
 obtain⟨N,hN⟩: ∃N,L.length=N:=⟨_,rfl⟩;rw[hN]at HX hlt hL ⊢;obtain⟨W3,hW3⟩: ∃W3,((((w.alloc (.cells #[tv,dv] 106)).alloc (.cells #[.slice none 0 0,.slice none 0 0] 106)).alloc (.cells #[.int .i32 92,.int .i32 101,.int .i32 45,.int .i32 46,.int .i32 39,.int .i32 96,.int .i32 32,.int .i32 126,.int .i32 48] 21)).alloc (.cells #[.int .i32 92,.int .i32 92,.int .i32 45,.int .i32 46,.int .i32 180,.int .i32 96,.int .i32 160,.int .i32 160,.int .i32 160] 21))=W3:=⟨_,rfl⟩;rw[hW3]at HX;subst hx1 hx2;have HW3:=zH hW3;have HQ:=zH hb;have HHQ:=zH hq;have HXX:=zH hsim;have HLN:=zH hN;have hz: ¬(N:Int)≤(p:Int)+1:=by omega
 have hz0:(p:Int)+1<(N:Int):=by omega
 have hz1:(0:Int)≤(p:Int):=by omega
 have hz2:(p:Int)+1≤2000:=by omega
 clear hW3 hs ht hd hN hq hb hsim;go_enter Tryz.func45,Tryz.ntmps45
 go_wp2_with fail
 rw[HW3.out];go_loopw [11] (fun i wr=> ∃j:Nat,j≤9∧i= .int .i64 j∧Below W3.heap.size W3 wr∧bQ (aU.drop j) d=none) (fun i _=>9-(intOf i).toNat)
 case atStart=>exact⟨0,by omega,rfl,OX _ _,by rw[Qs,←eX];exact HXX.out⟩
 case round=>
  obtain⟨j,hj,rfl,hbw,hl⟩:=hrel;have HL:=zH hl;have HXW:=zH (HX.out.keep hbw);have HBW:=zH hbw;clear hl hbw c5;obtain⟨g',off',he,c50⟩:=(HXW.out.rx.s).at HHQ.out
  cases he
  have c5:wr.cell? ⟨g,off+(p+1),none⟩=some (.int .i32 d):=c50;clear c50
  by_cases hlt9:j<9
  ·exact QUf
  ·obtain rfl:j=9:=by omega
   have c8:wr.cell? ⟨w.heap.size,0,none⟩=some (.slice ta T.length tc):=HXW.out.rx.b0.cell 0;have c9:wr.cell? ⟨w.heap.size,1,none⟩=some (.slice da D.length dc):=HXW.out.rx.b0.cell 1;have HF:=HXW.out.rx.same HQ.out;have q0:=HF.c0;have q1:=HF.c1;have f0:=HF.f0;have f1:=HF.f1;have HR:=zH (HF.fin (N));clear HF HL HBW HX HXX;subst hx;go_wp2_with fail
   exact Pq (v:= .tuple #[.agg #[.slice ta T.length tc,.slice da D.length dc],.int .i64 (N:Int)]) (by simp[results,Tryz.results45,go_sem,q0,q1]) rfl HR.out
theorem BR (q:Nat) (d:Int) (w:World) (hs:Sl .i32 w lv L) (ht:eD base w tv T) (hd:aL base w dv D) (hb:base≤w.heap.size) (hq:L[q]? =some d) (hq1:1≤q) (hL:L.length≤2000) (hTl:T.length≤2000) (hDl:D.length≤2000) (hsim:jW d=none)
  (hx:d≠38∧d≠37∧d≠47∧d≠44∧d≠58∧d≠34∧d≠40∧d≠91∧d≠102):
  Calls Tryz.prog 45 #[.agg #[tv,dv],lv,.int .i64 (q:Int)] w (jh base w tv dv T (D++dgs (q-1) [1]) (q+1)):=by
 have HX:=zH (Lp.start hs ht hd);have HN1:=zH (fun b (hb:w.heap.size≤b)=>aJ ht hb);have HN2:=zH (fun b (hb:w.heap.size≤b)=>aJ hd hb);have hlt:=(OV.1 hq).1;obtain⟨a,cap,rfl⟩:=hs.len;obtain⟨ta,tc,hx1⟩:=(ag.sl az ht).len;obtain⟨da,dc,hx2⟩:=(ag.sl ai hd).len;obtain⟨g,off,rfl,c5⟩:=hs.at hq;obtain⟨p,rfl⟩: ∃p,q=p+1:=⟨q-1,by omega⟩
 try simp only[Qp]
 obtain⟨N,hN⟩: ∃N,L.length=N:=⟨_,rfl⟩;rw[hN]at HX hlt hL ⊢;obtain⟨W3,hW3⟩: ∃W3,((((w.alloc (.cells #[tv,dv] 106)).alloc (.cells #[.slice none 0 0,.slice none 0 0] 106)).alloc (.cells #[.int .i32 92,.int .i32 101,.int .i32 45,.int .i32 46,.int .i32 39,.int .i32 96,.int .i32 32,.int .i32 126,.int .i32 48] 21)).alloc (.cells #[.int .i32 92,.int .i32 92,.int .i32 45,.int .i32 46,.int .i32 180,.int .i32 96,.int .i32 160,.int .i32 160,.int .i32 160] 21))=W3:=⟨_,rfl⟩;rw[hW3]at HX;subst hx1 hx2;have HW3:=zH hW3;have HQ:=zH hb;have HHQ:=zH hq;have HXX:=zH hsim;have HLN:=zH hN;have hz: ¬(N:Int)≤(p:Int)+1:=by omega
 have hz0:(p:Int)+1<(N:Int):=by omega
 have hz1:(0:Int)≤(p:Int):=by omega
 have hz2:(p:Int)+1≤2000:=by omega
 clear hW3 hs ht hd hN hq hb hsim;go_enter Tryz.func45,Tryz.ntmps45
 go_wp2_with fail
 rw[HW3.out];go_loopw [11] (fun i wr=> ∃j:Nat,j≤9∧i= .int .i64 j∧Below W3.heap.size W3 wr∧bQ (aU.drop j) d=none) (fun i _=>9-(intOf i).toNat)
 case atStart=>exact⟨0,by omega,rfl,OX _ _,by rw[Qs,←eX];exact HXX.out⟩
 case round=>
  obtain⟨j,hj,rfl,hbw,hl⟩:=hrel;have HL:=zH hl;have HXW:=zH (HX.out.keep hbw);have HBW:=zH hbw;clear hl hbw c5;obtain⟨g',off',he,c50⟩:=(HXW.out.rx.s).at HHQ.out
  cases he
  have c5:wr.cell? ⟨g,off+(p+1),none⟩=some (.int .i32 d):=c50;clear c50
  by_cases hlt9:j<9
  ·exact QUf
  ·obtain rfl:j=9:=by omega
   have c8:wr.cell? ⟨w.heap.size,0,none⟩=some (.slice ta T.length tc):=HXW.out.rx.b0.cell 0;have c9:wr.cell? ⟨w.heap.size,1,none⟩=some (.slice da D.length dc):=HXW.out.rx.b0.cell 1;obtain⟨x38,x37,x47,x44,x58,x34,x40,x91,x102⟩:=hx;have y38:(d==38)=false:=by simpa using x38
   have y37:(d==37)=false:=by simpa using x37
   have y47:(d==47)=false:=by simpa using x47
   have y44:(d==44)=false:=by simpa using x44
   have y58:(d==58)=false:=by simpa using x58
   have y34:(d==34)=false:=by simpa using x34
   have y40:(d==40)=false:=by simpa using x40
   have y91:(d==91)=false:=by simpa using x91
   have y102:(d==102)=false:=by simpa using x102
   clear x38 x37 x47 x44 x58 x34 x40 x91 x102;have HC:=zH (iJ base _ _ 1 p T D wr HXW.out.rx.t HXW.out.rx.d (by have:=HXW.out.rx.big;have:=HQ.out;omega) (by omega) (by omega));clear HL HBW HX HXX;go_wp2_with fail
   refine HC.out.mono ?_;rintro e w5 ⟨tv',dv',rfl,ht',hd',hbl,hsz,hk⟩;have HF:=HXW.out.rx.fin HQ.out ht' hd' hbl hsz hk;obtain⟨ta',tc',hx1⟩:=(ag.sl az ht').len;obtain⟨da',dc',hx2⟩:=(ag.sl ai hd').len;obtain⟨m,hm⟩: ∃m,(D++dgs p [1]).length=m:=⟨_,rfl⟩;rw[hm]at hx2;subst hx1 hx2;have q0:=HF.c0;have q1:=HF.c1;have f0:=HF.f0;have f1:=HF.f1;have HR:=zH (HF.fin (p+1+1));clear HC ht' hd' hbl hsz hk hm HF c8 c9;go_wp2_with fail
   exact Pq (v:= .tuple #[.agg #[.slice ta' T.length tc',.slice da' m dc'],.int .i64 ((p+1+1:Nat):Int)]) (by simp[results,Tryz.results45,go_sem,q0,q1]) rfl HR.out
end
end
section
attribute [local go_sem ↓ high] bN aM
theorem oz (L:List Int) (v:Value) (q:Nat) (w:World) (hv:Sl .i32 w v L) (hq:q≤L.length) (hl:L.length≤2000) (hz: ∀z∈L,-2147483648≤z∧z≤2147483647) {n:List Int} {k:Nat} (hn:dD (L.drop q)=some (n,k)):
  Calls Tryz.prog 79 #[v,.int .i64 (q:Int)] w fun e w'=>e= .returned (.tuple #[.string ⟨(enc n).toArray⟩,.int .i64 ((q+k:Nat):Int)])∧Below w.heap.size w w':=by
 have h:=xE L v q w hv hq hl hz;rw[hn]at h;exact h
theorem KH {b:List UInt8} {x:Int} (h:lU b=some x):0≤x∧x≤1114111:=by
 unfold lU at h
 cases hl:bg fQ b with
 | some r=>
  rw[hl]at h
  cases h
  have: ∀(l:List (List UInt8×Int)),(∀p∈l,0≤p.2∧p.2≤10000)→ ∀r,bg l b=some r→0≤r∧r≤1114111:=by
   intro l
   induction l with
   | nil=>intro _ r h;cases h
   | cons p l ih=>
    intro hb r h;unfold bg at h
    split at h
    ·cases h;have:=hb p (by simp);omega
    ·exact ih (fun q hq=>hb q (by simp[hq])) r h
  exact this fQ Mg _ hl
 | none=>
  rw[hl]at h;simp only at h;unfold numOf at h
  split at h
  ·cases h
  ·split at h
   ·cases h
   ·rename_i n hn
    split at h
    ·rename_i hv
     cases h
     have h1:=hv.1;simp only[vld,PQ]at h1;omega
    ·cases h
theorem Lu {b:List UInt8} {x:Int} (h:jK b=some x):0≤x∧x≤4:=by
 unfold jK at h
 split at h
 ·cases h;omega
 ·split at h
  ·cases h;omega
  ·split at h
   ·cases h;omega
   ·split at h
    ·cases h;omega
    ·split at h
     ·cases h;omega
     ·cases h
section
variable {base:Nat} {w:World} {lv:Value} {L:List Int} {tv dv:Value} {T:List Tok} {D:List Dg} {W:World}
theorem QUg {P:Prop}(h:P:=by
 obtain⟨y,hp⟩: ∃y,aU[j]? =some y:=⟨aU[j]'(by simpa[aU] using hlt9),OU _⟩;have c6:=HXW.out.plain hp;have hi0:(j:Int)<9:=by omega
 have hi1:(0:Int)≤(j:Int):=by omega
 by_cases he:y.1=d
 ·have:=HL.out
  rw[←he,dJ hp]at this
  cases this
 ·have hnx:=zH (show bQ (aU.drop (j+1)) d=none by rw[←cZ hp he];exact HL.out)
  have hdq:(d==y.1)=false:=by simpa using fun h:d=y.1=>he h.symm
  clear hp he;go_wp2_with fail
  go_quiet (fail)
  go_wp2
  go_roundw
  case rel=>exact⟨j+1,by omega,by go_num,below_drewN HBW.out _,hnx.out⟩
  case measure=>simp[intOf];omega):P:=h
theorem qR (q:Nat) (d:Int) (w:World) (hs:Sl .i32 w lv L) (ht:eD base w tv T) (hd:aL base w dv D) (hb:base≤w.heap.size) (hq:L[q]? =some d) (hq1:1≤q) (hL:L.length≤2000) (hTl:T.length≤2000) (hDl:D.length≤2000) (hsim:jW d=none)
  (hx:d=40∨d=91) (hzr: ∀z∈L,-2147483648≤z∧z≤2147483647) (hn:dD (L.drop q)=none):
  Calls Tryz.prog 45 #[.agg #[tv,dv],lv,.int .i64 (q:Int)] w (jh base w tv dv T (D++dgs (q-1) [1]) L.length):=by
 have HX:=zH (Lp.start hs ht hd);have HN1:=zH (fun b (hb:w.heap.size≤b)=>aJ ht hb);have HN2:=zH (fun b (hb:w.heap.size≤b)=>aJ hd hb);have hlt:=(OV.1 hq).1;have HRN:=zH (fun W (h:Sl .i32 W lv L)=>xE L lv q W h (by omega) hL hzr);rw[hn]at HRN;clear hn hzr;obtain⟨a,cap,rfl⟩:=hs.len;obtain⟨ta,tc,hx1⟩:=(ag.sl az ht).len;obtain⟨da,dc,hx2⟩:=(ag.sl ai hd).len;obtain⟨g,off,rfl,c5⟩:=hs.at hq;obtain⟨p,rfl⟩: ∃p,q=p+1:=⟨q-1,by omega⟩
 try simp only[Qp]
 obtain⟨N,hN⟩: ∃N,L.length=N:=⟨_,rfl⟩;rw[hN]at HX HRN hlt hL ⊢;obtain⟨W3,hW3⟩: ∃W3,((((w.alloc (.cells #[tv,dv] 106)).alloc (.cells #[.slice none 0 0,.slice none 0 0] 106)).alloc (.cells #[.int .i32 92,.int .i32 101,.int .i32 45,.int .i32 46,.int .i32 39,.int .i32 96,.int .i32 32,.int .i32 126,.int .i32 48] 21)).alloc (.cells #[.int .i32 92,.int .i32 92,.int .i32 45,.int .i32 46,.int .i32 180,.int .i32 96,.int .i32 160,.int .i32 160,.int .i32 160] 21))=W3:=⟨_,rfl⟩;rw[hW3]at HX;subst hx1 hx2;have HW3:=zH hW3;have HQ:=zH hb;have HHQ:=zH hq;have HXX:=zH hsim;have HLN:=zH hN;have hz: ¬(N:Int)≤(p:Int)+1:=by omega
 have hz0:(p:Int)+1<(N:Int):=by omega
 have hz1:(0:Int)≤(p:Int):=by omega
 have hz2:(p:Int)+1≤2000:=by omega
 clear hW3 hs ht hd hN hq hb hsim;go_enter Tryz.func45,Tryz.ntmps45
 go_wp2_with fail
 rw[HW3.out];go_loopw [11] (fun i wr=> ∃j:Nat,j≤9∧i= .int .i64 j∧Below W3.heap.size W3 wr∧bQ (aU.drop j) d=none) (fun i _=>9-(intOf i).toNat)
 case atStart=>exact⟨0,by omega,rfl,OX _ _,by rw[Qs,←eX];exact HXX.out⟩
 case round=>
  obtain⟨j,hj,rfl,hbw,hl⟩:=hrel;have HL:=zH hl;have HXW:=zH (HX.out.keep hbw);have HBW:=zH hbw;clear hl hbw c5;obtain⟨g',off',he,c50⟩:=(HXW.out.rx.s).at HHQ.out
  cases he
  have c5:wr.cell? ⟨g,off+(p+1),none⟩=some (.int .i32 d):=c50;clear c50
  by_cases hlt9:j<9
  ·exact QUg
  ·obtain rfl:j=9:=by omega
   have c8:wr.cell? ⟨w.heap.size,0,none⟩=some (.slice ta T.length tc):=HXW.out.rx.b0.cell 0;have c9:wr.cell? ⟨w.heap.size,1,none⟩=some (.slice da D.length dc):=HXW.out.rx.b0.cell 1;rcases hx with rfl | rfl
   all_goals
    have HR1:Hid (Calls Tryz.prog 79 #[.slice (some ⟨g,off,none⟩) N cap,.int .i64 ((p:Int)+1)] wr (J2 wr (p+1) (none))):=zH (HRN.out wr HXW.out.rx.s);clear HL HBW HX HXX HRN;go_wp2_with fail
    refine HR1.out.mono ?_;rintro e w4 ⟨rfl,b4⟩;have HX4:=zH (HXW.out.keep b4);have c84:w4.cell? ⟨w.heap.size,0,none⟩=some (.slice ta T.length tc):=HX4.out.rx.b0.cell 0;have c94:w4.cell? ⟨w.heap.size,1,none⟩=some (.slice da D.length dc):=HX4.out.rx.b0.cell 1;have HC:=zH (iJ base _ _ 1 p T D w4 HX4.out.rx.t HX4.out.rx.d (by have:=HX4.out.rx.big;have:=HQ.out;omega) (by omega) (by omega));clear b4 HR1 c8 c9 c5 HXW;go_wp2_with fail
    refine HC.out.mono ?_;rintro e w5 ⟨tv',dv',rfl,ht',hd',hbl,hsz,hk⟩;have HF:=HX4.out.rx.fin HQ.out ht' hd' hbl hsz hk;obtain⟨ta',tc',hx1⟩:=(ag.sl az ht').len;obtain⟨da',dc',hx2⟩:=(ag.sl ai hd').len;obtain⟨m,hm⟩: ∃m,(D++dgs p [1]).length=m:=⟨_,rfl⟩;rw[hm]at hx2;subst hx1 hx2;have q0:=HF.c0;have q1:=HF.c1;have f0:=HF.f0;have f1:=HF.f1;have HR:=zH (HF.fin (N));clear HC ht' hd' hbl hsz hk hm HF c84 c94;go_wp2_with fail
    exact Pq (v:= .tuple #[.agg #[.slice ta' T.length tc',.slice da' m dc'],.int .i64 (N:Int)]) (by simp[results,Tryz.results45,go_sem,q0,q1]) rfl HR.out
theorem sU (q:Nat) (d:Int) (w:World) (hs:Sl .i32 w lv L) (ht:eD base w tv T) (hd:aL base w dv D) (hb:base≤w.heap.size) (hq:L[q]? =some d) (hq1:1≤q) (hL:L.length≤2000) (hTl:T.length≤2000) (hDl:D.length≤2000) (hsim:jW d=none)
  (hx:d=40∨d=91) (hzr: ∀z∈L,-2147483648≤z∧z≤2147483647) {n:List Int} {k:Nat} (hn:dD (L.drop q)=some (n,k)) (ho:lU (enc n)=none):
  Calls Tryz.prog 45 #[.agg #[tv,dv],lv,.int .i64 (q:Int)] w (jh base w tv dv T (D++dgs (q-1) [2]) (q+k)):=by
 have HX:=zH (Lp.start hs ht hd);have HN1:=zH (fun b (hb:w.heap.size≤b)=>aJ ht hb);have HN2:=zH (fun b (hb:w.heap.size≤b)=>aJ hd hb);have hlt:=(OV.1 hq).1;have hkl:=jG hn;have hnl:=dY hn;rw[Pi]at hkl hnl;have hel:=pu n;have HRN:=zH (fun W (h:Sl .i32 W lv L)=>oz L lv q W h (by omega) hL hzr hn);clear hn hzr;obtain⟨b,hbn⟩: ∃b,enc n=b:=⟨_,rfl⟩;rw[hbn]at ho hel HRN;clear hbn;obtain⟨nx,hnx⟩: ∃nx,q+k=nx:=⟨_,rfl⟩;rw[hnx]at HRN ⊢;have hnxb:nx≤5000:=by omega
 have hbl:b.length≤100000:=by omega
 have HO:=zH ho;clear hnx hkl hnl hel ho;obtain⟨a,cap,rfl⟩:=hs.len;obtain⟨ta,tc,hx1⟩:=(ag.sl az ht).len;obtain⟨da,dc,hx2⟩:=(ag.sl ai hd).len;obtain⟨g,off,rfl,c5⟩:=hs.at hq;obtain⟨p,rfl⟩: ∃p,q=p+1:=⟨q-1,by omega⟩
 try simp only[Qp]
 obtain⟨N,hN⟩: ∃N,L.length=N:=⟨_,rfl⟩;rw[hN]at HX HRN hlt hL ⊢;obtain⟨W3,hW3⟩: ∃W3,((((w.alloc (.cells #[tv,dv] 106)).alloc (.cells #[.slice none 0 0,.slice none 0 0] 106)).alloc (.cells #[.int .i32 92,.int .i32 101,.int .i32 45,.int .i32 46,.int .i32 39,.int .i32 96,.int .i32 32,.int .i32 126,.int .i32 48] 21)).alloc (.cells #[.int .i32 92,.int .i32 92,.int .i32 45,.int .i32 46,.int .i32 180,.int .i32 96,.int .i32 160,.int .i32 160,.int .i32 160] 21))=W3:=⟨_,rfl⟩;rw[hW3]at HX;subst hx1 hx2;have HW3:=zH hW3;have HQ:=zH hb;have HHQ:=zH hq;have HXX:=zH hsim;have HLN:=zH hN;have hz: ¬(N:Int)≤(p:Int)+1:=by omega
 have hz0:(p:Int)+1<(N:Int):=by omega
 have hz1:(0:Int)≤(p:Int):=by omega
 have hz2:(p:Int)+1≤2000:=by omega
 clear hW3 hs ht hd hN hq hb hsim;go_enter Tryz.func45,Tryz.ntmps45
 go_wp2_with fail
 rw[HW3.out];go_loopw [11] (fun i wr=> ∃j:Nat,j≤9∧i= .int .i64 j∧Below W3.heap.size W3 wr∧bQ (aU.drop j) d=none) (fun i _=>9-(intOf i).toNat)
 case atStart=>exact⟨0,by omega,rfl,OX _ _,by rw[Qs,←eX];exact HXX.out⟩
 case round=>
  obtain⟨j,hj,rfl,hbw,hl⟩:=hrel;have HL:=zH hl;have HXW:=zH (HX.out.keep hbw);have HBW:=zH hbw;clear hl hbw c5;obtain⟨g',off',he,c50⟩:=(HXW.out.rx.s).at HHQ.out
  cases he
  have c5:wr.cell? ⟨g,off+(p+1),none⟩=some (.int .i32 d):=c50;clear c50
  by_cases hlt9:j<9
  ·exact QUg
  ·obtain rfl:j=9:=by omega
   have c8:wr.cell? ⟨w.heap.size,0,none⟩=some (.slice ta T.length tc):=HXW.out.rx.b0.cell 0;have c9:wr.cell? ⟨w.heap.size,1,none⟩=some (.slice da D.length dc):=HXW.out.rx.b0.cell 1;rcases hx with rfl | rfl
   all_goals
    have HR1:Hid (Calls Tryz.prog 79 #[.slice (some ⟨g,off,none⟩) N cap,.int .i64 ((p:Int)+1)] wr fun e w'=>e= .returned (.tuple #[.string ⟨b.toArray⟩,.int .i64 (nx:Int)])∧Below wr.heap.size wr w'):=zH (HRN.out wr HXW.out.rx.s);have HNM:=zH (fun W=>sN b W (by unfold maxLen;omega));rw[HO.out]at HNM;have hnx2:(nx:Int)≤5000:=by omega
    have hnx0: ¬(nx:Int)<0:=by omega
    simp only[PP]at HNM;clear HL HBW HX HXX HRN HO;go_wp2_with fail
    refine HR1.out.mono ?_;rintro e w4 ⟨rfl,b4⟩;have HX4:=zH (HXW.out.keep b4);clear b4 HR1 c8 c9 c5 HXW;go_wp2_with fail
    refine(HNM.out w4).mono ?_;rintro e w5 ⟨rfl,b5⟩;have HX5:=zH (HX4.out.keep b5);have c85:w5.cell? ⟨w.heap.size,0,none⟩=some (.slice ta T.length tc):=HX5.out.rx.b0.cell 0;have c95:w5.cell? ⟨w.heap.size,1,none⟩=some (.slice da D.length dc):=HX5.out.rx.b0.cell 1;clear b5 HX4;have HC:=zH (iJ base _ _ 2 p T D w5 HX5.out.rx.t HX5.out.rx.d (by have:=HX5.out.rx.big;have:=HQ.out;omega) (by omega) (by omega));clear HNM;go_wp2_with fail
    refine HC.out.mono ?_;rintro e w5 ⟨tv',dv',rfl,ht',hd',hbl,hsz,hk⟩;have HF:=HX5.out.rx.fin HQ.out ht' hd' hbl hsz hk;obtain⟨ta',tc',hx1⟩:=(ag.sl az ht').len;obtain⟨da',dc',hx2⟩:=(ag.sl ai hd').len;obtain⟨m,hm⟩: ∃m,(D++dgs p [2]).length=m:=⟨_,rfl⟩;rw[hm]at hx2;subst hx1 hx2;have q0:=HF.c0;have q1:=HF.c1;have f0:=HF.f0;have f1:=HF.f1;have HR:=zH (HF.fin (nx));clear HC ht' hd' hbl hsz hk hm HF c85 c95;go_wp2_with fail
    exact Pq (v:= .tuple #[.agg #[.slice ta' T.length tc',.slice da' m dc'],.int .i64 (nx:Int)]) (by simp[results,Tryz.results45,go_sem,q0,q1]) rfl HR.out
theorem qU (q:Nat) (d:Int) (w:World) (hs:Sl .i32 w lv L) (ht:eD base w tv T) (hd:aL base w dv D) (hb:base≤w.heap.size) (hq:L[q]? =some d) (hq1:1≤q) (hL:L.length≤2000) (hTl:T.length≤2000) (hDl:D.length≤2000) (hsim:jW d=none)
  (hx:d=40∨d=91) (hzr: ∀z∈L,-2147483648≤z∧z≤2147483647) {n:List Int} {k:Nat} (hn:dD (L.drop q)=some (n,k)) {x:Int} (ho:lU (enc n)=some x):
  Calls Tryz.prog 45 #[.agg #[tv,dv],lv,.int .i64 (q:Int)] w (jh base w tv dv (T++ [(1,x)]) D (q+k)):=by
 have HX:=zH (Lp.start hs ht hd);have HN1:=zH (fun b (hb:w.heap.size≤b)=>aJ ht hb);have HN2:=zH (fun b (hb:w.heap.size≤b)=>aJ hd hb);have hlt:=(OV.1 hq).1;have hkl:=jG hn;obtain⟨hx0,hx1⟩:=KH ho;have hnl:=dY hn;rw[Pi]at hkl hnl;have hel:=pu n;have HRN:=zH (fun W (h:Sl .i32 W lv L)=>oz L lv q W h (by omega) hL hzr hn);clear hn hzr;obtain⟨b,hbn⟩: ∃b,enc n=b:=⟨_,rfl⟩;rw[hbn]at ho hel HRN;clear hbn;obtain⟨nx,hnx⟩: ∃nx,q+k=nx:=⟨_,rfl⟩;rw[hnx]at HRN ⊢;have hnxb:nx≤5000:=by omega
 have hbl:b.length≤100000:=by omega
 have HO:=zH ho;clear hnx hkl hnl hel ho;obtain⟨a,cap,rfl⟩:=hs.len;obtain⟨ta,tc,hx1⟩:=(ag.sl az ht).len;obtain⟨da,dc,hx2⟩:=(ag.sl ai hd).len;obtain⟨g,off,rfl,c5⟩:=hs.at hq;obtain⟨p,rfl⟩: ∃p,q=p+1:=⟨q-1,by omega⟩
 try simp only[Qp]
 obtain⟨N,hN⟩: ∃N,L.length=N:=⟨_,rfl⟩;rw[hN]at HX HRN hlt hL ⊢;obtain⟨W3,hW3⟩: ∃W3,((((w.alloc (.cells #[tv,dv] 106)).alloc (.cells #[.slice none 0 0,.slice none 0 0] 106)).alloc (.cells #[.int .i32 92,.int .i32 101,.int .i32 45,.int .i32 46,.int .i32 39,.int .i32 96,.int .i32 32,.int .i32 126,.int .i32 48] 21)).alloc (.cells #[.int .i32 92,.int .i32 92,.int .i32 45,.int .i32 46,.int .i32 180,.int .i32 96,.int .i32 160,.int .i32 160,.int .i32 160] 21))=W3:=⟨_,rfl⟩;rw[hW3]at HX;subst hx1 hx2;have HW3:=zH hW3;have HQ:=zH hb;have HHQ:=zH hq;have HXX:=zH hsim;have HLN:=zH hN;have hz: ¬(N:Int)≤(p:Int)+1:=by omega
 have hz0:(p:Int)+1<(N:Int):=by omega
 have hz1:(0:Int)≤(p:Int):=by omega
 have hz2:(p:Int)+1≤2000:=by omega
 clear hW3 hs ht hd hN hq hb hsim;go_enter Tryz.func45,Tryz.ntmps45
 go_wp2_with fail
 rw[HW3.out];go_loopw [11] (fun i wr=> ∃j:Nat,j≤9∧i= .int .i64 j∧Below W3.heap.size W3 wr∧bQ (aU.drop j) d=none) (fun i _=>9-(intOf i).toNat)
 case atStart=>exact⟨0,by omega,rfl,OX _ _,by rw[Qs,←eX];exact HXX.out⟩
 case round=>
  obtain⟨j,hj,rfl,hbw,hl⟩:=hrel;have HL:=zH hl;have HXW:=zH (HX.out.keep hbw);have HBW:=zH hbw;clear hl hbw c5;obtain⟨g',off',he,c50⟩:=(HXW.out.rx.s).at HHQ.out
  cases he
  have c5:wr.cell? ⟨g,off+(p+1),none⟩=some (.int .i32 d):=c50;clear c50
  by_cases hlt9:j<9
  ·exact QUg
  ·obtain rfl:j=9:=by omega
   have c8:wr.cell? ⟨w.heap.size,0,none⟩=some (.slice ta T.length tc):=HXW.out.rx.b0.cell 0;have c9:wr.cell? ⟨w.heap.size,1,none⟩=some (.slice da D.length dc):=HXW.out.rx.b0.cell 1;rcases hx with rfl | rfl
   all_goals
    have HR1:Hid (Calls Tryz.prog 79 #[.slice (some ⟨g,off,none⟩) N cap,.int .i64 ((p:Int)+1)] wr fun e w'=>e= .returned (.tuple #[.string ⟨b.toArray⟩,.int .i64 (nx:Int)])∧Below wr.heap.size wr w'):=zH (HRN.out wr HXW.out.rx.s);have HNM:=zH (fun W=>sN b W (by unfold maxLen;omega));rw[HO.out]at HNM;have hnx2:(nx:Int)≤5000:=by omega
    have hnx0: ¬(nx:Int)<0:=by omega
    simp only[Qd]at HNM;clear HL HBW HX HXX HRN HO;go_wp2_with fail
    refine HR1.out.mono ?_;rintro e w4 ⟨rfl,b4⟩;have HX4:=zH (HXW.out.keep b4);clear b4 HR1 c8 c9 c5 HXW;go_wp2_with fail
    refine(HNM.out w4).mono ?_;rintro e w5 ⟨rfl,b5⟩;have HX5:=zH (HX4.out.keep b5);have c85:w5.cell? ⟨w.heap.size,0,none⟩=some (.slice ta T.length tc):=HX5.out.rx.b0.cell 0;have c95:w5.cell? ⟨w.heap.size,1,none⟩=some (.slice da D.length dc):=HX5.out.rx.b0.cell 1;clear b5 HX4;have hx9: ¬x<0:=by omega
    have hwx:IntKind.i32.wrap x=x:=IntWalk.i32_in _ (by omega);have HS:=zH (fun W (h:Below w5.heap.size w5 W)=>mG base _ _ 1 x T D W (HX5.out.keep h).rx.t (HX5.out.keep h).rx.d (by have:=(HX5.out.keep h).rx.big;have:=HQ.out;omega) (by omega));go_wp2_with fail
    go_region_held3 (fun W'=>W'.cell? ⟨w.heap.size,0,none⟩=some (.slice ta T.length tc)∧W'.cell? ⟨w.heap.size,1,none⟩=some (.slice da D.length dc))
     (first | assumption | go_keep)
     ((first
      | (go_at_call 80;(with_reducible refine(HNM.out _).mono ?_);rintro e w6 ⟨rfl,b6⟩;have B6:Hid (Below w5.heap.size w5 w6):=zH ((OX _ w5).drew.trans b6);have k8:=((HX5.out.keep B6.out).rx.b0.cell 0);have k9:=((HX5.out.keep B6.out).rx.b0.cell 1);clear b6)
      | (go_at_call 46;(with_reducible refine(HS.out _ B6.out).mono ?_);rintro e w7 ⟨tv',dv',rfl,ht',hd',hbl,hsz,hk⟩;have k8':=fZ HN1.out HN2.out hk (OW _) k8;have k9':=fZ HN1.out HN2.out hk (OW _) k9;have HF:=(HX5.out.keep B6.out).rx.fin HQ.out ht' hd' hbl hsz hk;obtain⟨ta',tc',hy1⟩:=(ag.sl az ht').len;obtain⟨da',dc',hy2⟩:=(ag.sl ai hd').len;obtain⟨m,hm⟩: ∃m,(T++ [(1,x)]).length=m:=⟨_,rfl⟩;rw[hm]at hy1;subst hy1 hy2;have q0:=HF.c0;have q1:=HF.c1;have f0:=HF.f0;have f1:=HF.f1;have HR:=zH (HF.fin nx);clear ht' hd' hbl hsz hk HF hm)))
    go_wp2_with fail
    exact Pq (v:= .tuple #[.agg #[.slice ta' m tc',.slice da' D.length dc'],.int .i64 (nx:Int)]) (by simp[results,Tryz.results45,go_sem,q0,q1]) rfl HR.out
end
end
section
attribute [local go_sem ↓ high] bN aM
section
variable {base:Nat} {w:World} {lv:Value} {L:List Int} {tv dv:Value} {T:List Tok} {D:List Dg} {W:World}
theorem QUh {P:Prop}(h:P:=by
 obtain⟨y,hp⟩: ∃y,aU[j]? =some y:=⟨aU[j]'(by simpa[aU] using hlt9),OU _⟩;have c6:=HXW.out.plain hp;have hi0:(j:Int)<9:=by omega
 have hi1:(0:Int)≤(j:Int):=by omega
 by_cases he:y.1=d
 ·have:=HL.out
  rw[←he,dJ hp]at this
  cases this
 ·have hnx:=zH (show bQ (aU.drop (j+1)) d=none by rw[←cZ hp he];exact HL.out)
  have hdq:(d==y.1)=false:=by simpa using fun h:d=y.1=>he h.symm
  clear hp he;go_wp2_with fail
  go_quiet (fail)
  go_wp2
  go_roundw
  case rel=>exact⟨j+1,by omega,by go_num,below_drewN HBW.out _,hnx.out⟩
  case measure=>simp[intOf];omega):P:=h
theorem sV (q:Nat) (d:Int) (w:World) (hs:Sl .i32 w lv L) (ht:eD base w tv T) (hd:aL base w dv D) (hb:base≤w.heap.size) (hq:L[q]? =some d) (hq1:1≤q) (hL:L.length≤2000) (hTl:T.length≤2000) (hDl:D.length≤2000) (hsim:jW d=none)
  (hx:d=102) (hzr: ∀z∈L,-2147483648≤z∧z≤2147483647) (hn:dD (L.drop (q+1))=none):
  Calls Tryz.prog 45 #[.agg #[tv,dv],lv,.int .i64 (q:Int)] w (jh base w tv dv T (D++dgs (q-1) [1]) L.length):=by
 have HX:=zH (Lp.start hs ht hd);have HN1:=zH (fun b (hb:w.heap.size≤b)=>aJ ht hb);have HN2:=zH (fun b (hb:w.heap.size≤b)=>aJ hd hb);have hlt:=(OV.1 hq).1;have HRN:=zH (fun W (h:Sl .i32 W lv L)=>xE L lv (q+1) W h (by omega) hL hzr);rw[hn]at HRN;clear hn hzr;obtain⟨a,cap,rfl⟩:=hs.len;obtain⟨ta,tc,hx1⟩:=(ag.sl az ht).len;obtain⟨da,dc,hx2⟩:=(ag.sl ai hd).len;obtain⟨g,off,rfl,c5⟩:=hs.at hq;obtain⟨p,rfl⟩: ∃p,q=p+1:=⟨q-1,by omega⟩
 try simp only[Qp]
 obtain⟨N,hN⟩: ∃N,L.length=N:=⟨_,rfl⟩;rw[hN]at HX HRN hlt hL ⊢;obtain⟨W3,hW3⟩: ∃W3,((((w.alloc (.cells #[tv,dv] 106)).alloc (.cells #[.slice none 0 0,.slice none 0 0] 106)).alloc (.cells #[.int .i32 92,.int .i32 101,.int .i32 45,.int .i32 46,.int .i32 39,.int .i32 96,.int .i32 32,.int .i32 126,.int .i32 48] 21)).alloc (.cells #[.int .i32 92,.int .i32 92,.int .i32 45,.int .i32 46,.int .i32 180,.int .i32 96,.int .i32 160,.int .i32 160,.int .i32 160] 21))=W3:=⟨_,rfl⟩;rw[hW3]at HX;subst hx1 hx2;have HW3:=zH hW3;have HQ:=zH hb;have HHQ:=zH hq;have HXX:=zH hsim;have HLN:=zH hN;have hz: ¬(N:Int)≤(p:Int)+1:=by omega
 have hz0:(p:Int)+1<(N:Int):=by omega
 have hz1:(0:Int)≤(p:Int):=by omega
 have hz2:(p:Int)+1≤2000:=by omega
 clear hW3 hs ht hd hN hq hb hsim;go_enter Tryz.func45,Tryz.ntmps45
 go_wp2_with fail
 rw[HW3.out];go_loopw [11] (fun i wr=> ∃j:Nat,j≤9∧i= .int .i64 j∧Below W3.heap.size W3 wr∧bQ (aU.drop j) d=none) (fun i _=>9-(intOf i).toNat)
 case atStart=>exact⟨0,by omega,rfl,OX _ _,by rw[Qs,←eX];exact HXX.out⟩
 case round=>
  obtain⟨j,hj,rfl,hbw,hl⟩:=hrel;have HL:=zH hl;have HXW:=zH (HX.out.keep hbw);have HBW:=zH hbw;clear hl hbw c5;obtain⟨g',off',he,c50⟩:=(HXW.out.rx.s).at HHQ.out
  cases he
  have c5:wr.cell? ⟨g,off+(p+1),none⟩=some (.int .i32 d):=c50;clear c50
  by_cases hlt9:j<9
  ·exact QUh
  ·obtain rfl:j=9:=by omega
   have c8:wr.cell? ⟨w.heap.size,0,none⟩=some (.slice ta T.length tc):=HXW.out.rx.b0.cell 0;have c9:wr.cell? ⟨w.heap.size,1,none⟩=some (.slice da D.length dc):=HXW.out.rx.b0.cell 1;subst hx;have HR1:Hid (Calls Tryz.prog 79 #[.slice (some ⟨g,off,none⟩) N cap,.int .i64 ((p:Int)+1+1)] wr (J2 wr (p+1+1) (none))):=zH (HRN.out wr HXW.out.rx.s);clear HL HBW HX HXX HRN;go_wp2_with fail
   refine HR1.out.mono ?_;rintro e w4 ⟨rfl,b4⟩;have HX4:=zH (HXW.out.keep b4);have c84:w4.cell? ⟨w.heap.size,0,none⟩=some (.slice ta T.length tc):=HX4.out.rx.b0.cell 0;have c94:w4.cell? ⟨w.heap.size,1,none⟩=some (.slice da D.length dc):=HX4.out.rx.b0.cell 1;have HC:=zH (iJ base _ _ 1 p T D w4 HX4.out.rx.t HX4.out.rx.d (by have:=HX4.out.rx.big;have:=HQ.out;omega) (by omega) (by omega));clear b4 HR1 c8 c9 c5 HXW;go_wp2_with fail
   refine HC.out.mono ?_;rintro e w5 ⟨tv',dv',rfl,ht',hd',hbl,hsz,hk⟩;have HF:=HX4.out.rx.fin HQ.out ht' hd' hbl hsz hk;obtain⟨ta',tc',hx1⟩:=(ag.sl az ht').len;obtain⟨da',dc',hx2⟩:=(ag.sl ai hd').len;obtain⟨m,hm⟩: ∃m,(D++dgs p [1]).length=m:=⟨_,rfl⟩;rw[hm]at hx2;subst hx1 hx2;have q0:=HF.c0;have q1:=HF.c1;have f0:=HF.f0;have f1:=HF.f1;have HR:=zH (HF.fin (N));clear HC ht' hd' hbl hsz hk hm HF c84 c94;go_wp2_with fail
   exact Pq (v:= .tuple #[.agg #[.slice ta' T.length tc',.slice da' m dc'],.int .i64 (N:Int)]) (by simp[results,Tryz.results45,go_sem,q0,q1]) rfl HR.out
theorem uY (q:Nat) (d:Int) (w:World) (hs:Sl .i32 w lv L) (ht:eD base w tv T) (hd:aL base w dv D) (hb:base≤w.heap.size) (hq:L[q]? =some d) (hq1:1≤q) (hL:L.length≤2000) (hTl:T.length≤2000) (hDl:D.length≤2000) (hsim:jW d=none)
  (hx:d=102) (hzr: ∀z∈L,-2147483648≤z∧z≤2147483647) {n:List Int} {k:Nat} (hn:dD (L.drop (q+1))=some (n,k)) (ho:jK (enc n)=none):
  Calls Tryz.prog 45 #[.agg #[tv,dv],lv,.int .i64 (q:Int)] w (jh base w tv dv T (D++dgs (q-1) [2]) ((q+1)+k)):=by
 have HX:=zH (Lp.start hs ht hd);have HN1:=zH (fun b (hb:w.heap.size≤b)=>aJ ht hb);have HN2:=zH (fun b (hb:w.heap.size≤b)=>aJ hd hb);have hlt:=(OV.1 hq).1;have hkl:=jG hn;have hnl:=dY hn;rw[Pi]at hkl hnl;have hel:=pu n;have HRN:=zH (fun W (h:Sl .i32 W lv L)=>oz L lv (q+1) W h (by omega) hL hzr hn);clear hn hzr;obtain⟨b,hbn⟩: ∃b,enc n=b:=⟨_,rfl⟩;rw[hbn]at ho hel HRN;clear hbn;obtain⟨nx,hnx⟩: ∃nx,(q+1)+k=nx:=⟨_,rfl⟩;rw[hnx]at HRN ⊢;have hnxb:nx≤5000:=by omega
 have hbl:b.length≤100000:=by omega
 have HO:=zH ho;clear hnx hkl hnl hel ho;obtain⟨a,cap,rfl⟩:=hs.len;obtain⟨ta,tc,hx1⟩:=(ag.sl az ht).len;obtain⟨da,dc,hx2⟩:=(ag.sl ai hd).len;obtain⟨g,off,rfl,c5⟩:=hs.at hq;obtain⟨p,rfl⟩: ∃p,q=p+1:=⟨q-1,by omega⟩
 try simp only[Qp]
 obtain⟨N,hN⟩: ∃N,L.length=N:=⟨_,rfl⟩;rw[hN]at HX HRN hlt hL ⊢;obtain⟨W3,hW3⟩: ∃W3,((((w.alloc (.cells #[tv,dv] 106)).alloc (.cells #[.slice none 0 0,.slice none 0 0] 106)).alloc (.cells #[.int .i32 92,.int .i32 101,.int .i32 45,.int .i32 46,.int .i32 39,.int .i32 96,.int .i32 32,.int .i32 126,.int .i32 48] 21)).alloc (.cells #[.int .i32 92,.int .i32 92,.int .i32 45,.int .i32 46,.int .i32 180,.int .i32 96,.int .i32 160,.int .i32 160,.int .i32 160] 21))=W3:=⟨_,rfl⟩;rw[hW3]at HX;subst hx1 hx2;have HW3:=zH hW3;have HQ:=zH hb;have HHQ:=zH hq;have HXX:=zH hsim;have HLN:=zH hN;have hz: ¬(N:Int)≤(p:Int)+1:=by omega
 have hz0:(p:Int)+1<(N:Int):=by omega
 have hz1:(0:Int)≤(p:Int):=by omega
 have hz2:(p:Int)+1≤2000:=by omega
 clear hW3 hs ht hd hN hq hb hsim;go_enter Tryz.func45,Tryz.ntmps45
 go_wp2_with fail
 rw[HW3.out];go_loopw [11] (fun i wr=> ∃j:Nat,j≤9∧i= .int .i64 j∧Below W3.heap.size W3 wr∧bQ (aU.drop j) d=none) (fun i _=>9-(intOf i).toNat)
 case atStart=>exact⟨0,by omega,rfl,OX _ _,by rw[Qs,←eX];exact HXX.out⟩
 case round=>
  obtain⟨j,hj,rfl,hbw,hl⟩:=hrel;have HL:=zH hl;have HXW:=zH (HX.out.keep hbw);have HBW:=zH hbw;clear hl hbw c5;obtain⟨g',off',he,c50⟩:=(HXW.out.rx.s).at HHQ.out
  cases he
  have c5:wr.cell? ⟨g,off+(p+1),none⟩=some (.int .i32 d):=c50;clear c50
  by_cases hlt9:j<9
  ·exact QUh
  ·obtain rfl:j=9:=by omega
   have c8:wr.cell? ⟨w.heap.size,0,none⟩=some (.slice ta T.length tc):=HXW.out.rx.b0.cell 0;have c9:wr.cell? ⟨w.heap.size,1,none⟩=some (.slice da D.length dc):=HXW.out.rx.b0.cell 1;subst hx;have HR1:Hid (Calls Tryz.prog 79 #[.slice (some ⟨g,off,none⟩) N cap,.int .i64 ((p:Int)+1+1)] wr fun e w'=>e= .returned (.tuple #[.string ⟨b.toArray⟩,.int .i64 (nx:Int)])∧Below wr.heap.size wr w'):=zH (HRN.out wr HXW.out.rx.s);have HNM:=zH (fun W=>sS b W (by omega));rw[HO.out]at HNM;have hnx2:(nx:Int)≤5000:=by omega
   have hnx0: ¬(nx:Int)<0:=by omega
   simp only[PP]at HNM;clear HL HBW HX HXX HRN HO;go_wp2_with fail
   refine HR1.out.mono ?_;rintro e w4 ⟨rfl,b4⟩;have HX4:=zH (HXW.out.keep b4);clear b4 HR1 c8 c9 c5 HXW;go_wp2_with fail
   refine(HNM.out w4).mono ?_;rintro e w5 ⟨rfl,b5⟩;have HX5:=zH (HX4.out.keep b5);have c85:w5.cell? ⟨w.heap.size,0,none⟩=some (.slice ta T.length tc):=HX5.out.rx.b0.cell 0;have c95:w5.cell? ⟨w.heap.size,1,none⟩=some (.slice da D.length dc):=HX5.out.rx.b0.cell 1;clear b5 HX4;have HC:=zH (iJ base _ _ 2 p T D w5 HX5.out.rx.t HX5.out.rx.d (by have:=HX5.out.rx.big;have:=HQ.out;omega) (by omega) (by omega));clear HNM;go_wp2_with fail
   refine HC.out.mono ?_;rintro e w5 ⟨tv',dv',rfl,ht',hd',hbl,hsz,hk⟩;have HF:=HX5.out.rx.fin HQ.out ht' hd' hbl hsz hk;obtain⟨ta',tc',hx1⟩:=(ag.sl az ht').len;obtain⟨da',dc',hx2⟩:=(ag.sl ai hd').len;obtain⟨m,hm⟩: ∃m,(D++dgs p [2]).length=m:=⟨_,rfl⟩;rw[hm]at hx2;subst hx1 hx2;have q0:=HF.c0;have q1:=HF.c1;have f0:=HF.f0;have f1:=HF.f1;have HR:=zH (HF.fin (nx));clear HC ht' hd' hbl hsz hk hm HF c85 c95;go_wp2_with fail
   exact Pq (v:= .tuple #[.agg #[.slice ta' T.length tc',.slice da' m dc'],.int .i64 (nx:Int)]) (by simp[results,Tryz.results45,go_sem,q0,q1]) rfl HR.out
theorem sW (q:Nat) (d:Int) (w:World) (hs:Sl .i32 w lv L) (ht:eD base w tv T) (hd:aL base w dv D) (hb:base≤w.heap.size) (hq:L[q]? =some d) (hq1:1≤q) (hL:L.length≤2000) (hTl:T.length≤2000) (hDl:D.length≤2000) (hsim:jW d=none)
  (hx:d=102) (hzr: ∀z∈L,-2147483648≤z∧z≤2147483647) {n:List Int} {k:Nat} (hn:dD (L.drop (q+1))=some (n,k)) {x:Int} (ho:jK (enc n)=some x):
  Calls Tryz.prog 45 #[.agg #[tv,dv],lv,.int .i64 (q:Int)] w (jh base w tv dv (T++ [(3,x)]) D ((q+1)+k)):=by
 have HX:=zH (Lp.start hs ht hd);have HN1:=zH (fun b (hb:w.heap.size≤b)=>aJ ht hb);have HN2:=zH (fun b (hb:w.heap.size≤b)=>aJ hd hb);have hlt:=(OV.1 hq).1;have hkl:=jG hn;obtain⟨hx0,hx1⟩:=Lu ho;have hnl:=dY hn;rw[Pi]at hkl hnl;have hel:=pu n;have HRN:=zH (fun W (h:Sl .i32 W lv L)=>oz L lv (q+1) W h (by omega) hL hzr hn);clear hn hzr;obtain⟨b,hbn⟩: ∃b,enc n=b:=⟨_,rfl⟩;rw[hbn]at ho hel HRN;clear hbn;obtain⟨nx,hnx⟩: ∃nx,(q+1)+k=nx:=⟨_,rfl⟩;rw[hnx]at HRN ⊢;have hnxb:nx≤5000:=by omega
 have hbl:b.length≤100000:=by omega
 have HO:=zH ho;clear hnx hkl hnl hel ho;obtain⟨a,cap,rfl⟩:=hs.len;obtain⟨ta,tc,hx1⟩:=(ag.sl az ht).len;obtain⟨da,dc,hx2⟩:=(ag.sl ai hd).len;obtain⟨g,off,rfl,c5⟩:=hs.at hq;obtain⟨p,rfl⟩: ∃p,q=p+1:=⟨q-1,by omega⟩
 try simp only[Qp]
 obtain⟨N,hN⟩: ∃N,L.length=N:=⟨_,rfl⟩;rw[hN]at HX HRN hlt hL ⊢;obtain⟨W3,hW3⟩: ∃W3,((((w.alloc (.cells #[tv,dv] 106)).alloc (.cells #[.slice none 0 0,.slice none 0 0] 106)).alloc (.cells #[.int .i32 92,.int .i32 101,.int .i32 45,.int .i32 46,.int .i32 39,.int .i32 96,.int .i32 32,.int .i32 126,.int .i32 48] 21)).alloc (.cells #[.int .i32 92,.int .i32 92,.int .i32 45,.int .i32 46,.int .i32 180,.int .i32 96,.int .i32 160,.int .i32 160,.int .i32 160] 21))=W3:=⟨_,rfl⟩;rw[hW3]at HX;subst hx1 hx2;have HW3:=zH hW3;have HQ:=zH hb;have HHQ:=zH hq;have HXX:=zH hsim;have HLN:=zH hN;have hz: ¬(N:Int)≤(p:Int)+1:=by omega
 have hz0:(p:Int)+1<(N:Int):=by omega
 have hz1:(0:Int)≤(p:Int):=by omega
 have hz2:(p:Int)+1≤2000:=by omega
 clear hW3 hs ht hd hN hq hb hsim;go_enter Tryz.func45,Tryz.ntmps45
 go_wp2_with fail
 rw[HW3.out];go_loopw [11] (fun i wr=> ∃j:Nat,j≤9∧i= .int .i64 j∧Below W3.heap.size W3 wr∧bQ (aU.drop j) d=none) (fun i _=>9-(intOf i).toNat)
 case atStart=>exact⟨0,by omega,rfl,OX _ _,by rw[Qs,←eX];exact HXX.out⟩
 case round=>
  obtain⟨j,hj,rfl,hbw,hl⟩:=hrel;have HL:=zH hl;have HXW:=zH (HX.out.keep hbw);have HBW:=zH hbw;clear hl hbw c5;obtain⟨g',off',he,c50⟩:=(HXW.out.rx.s).at HHQ.out
  cases he
  have c5:wr.cell? ⟨g,off+(p+1),none⟩=some (.int .i32 d):=c50;clear c50
  by_cases hlt9:j<9
  ·exact QUh
  ·obtain rfl:j=9:=by omega
   have c8:wr.cell? ⟨w.heap.size,0,none⟩=some (.slice ta T.length tc):=HXW.out.rx.b0.cell 0;have c9:wr.cell? ⟨w.heap.size,1,none⟩=some (.slice da D.length dc):=HXW.out.rx.b0.cell 1;subst hx;have HR1:Hid (Calls Tryz.prog 79 #[.slice (some ⟨g,off,none⟩) N cap,.int .i64 ((p:Int)+1+1)] wr fun e w'=>e= .returned (.tuple #[.string ⟨b.toArray⟩,.int .i64 (nx:Int)])∧Below wr.heap.size wr w'):=zH (HRN.out wr HXW.out.rx.s);have HNM:=zH (fun W=>sS b W (by omega));rw[HO.out]at HNM;have hnx2:(nx:Int)≤5000:=by omega
   have hnx0: ¬(nx:Int)<0:=by omega
   simp only[Qd]at HNM;clear HL HBW HX HXX HRN HO;go_wp2_with fail
   refine HR1.out.mono ?_;rintro e w4 ⟨rfl,b4⟩;have HX4:=zH (HXW.out.keep b4);clear b4 HR1 c8 c9 c5 HXW;go_wp2_with fail
   refine(HNM.out w4).mono ?_;rintro e w5 ⟨rfl,b5⟩;have HX5:=zH (HX4.out.keep b5);have c85:w5.cell? ⟨w.heap.size,0,none⟩=some (.slice ta T.length tc):=HX5.out.rx.b0.cell 0;have c95:w5.cell? ⟨w.heap.size,1,none⟩=some (.slice da D.length dc):=HX5.out.rx.b0.cell 1;clear b5 HX4;have hx9: ¬x<0:=by omega
   have hwx:IntKind.i32.wrap x=x:=IntWalk.i32_in _ (by omega);have HS:=zH (fun W (h:Below w5.heap.size w5 W)=>mG base _ _ 3 x T D W (HX5.out.keep h).rx.t (HX5.out.keep h).rx.d (by have:=(HX5.out.keep h).rx.big;have:=HQ.out;omega) (by omega));go_wp2_with fail
   go_region_held3 (fun W'=>W'.cell? ⟨w.heap.size,0,none⟩=some (.slice ta T.length tc)∧W'.cell? ⟨w.heap.size,1,none⟩=some (.slice da D.length dc))
    (first | assumption | go_keep)
    ((first
     | (go_at_call 81;(with_reducible refine(HNM.out _).mono ?_);rintro e w6 ⟨rfl,b6⟩;have B6:Hid (Below w5.heap.size w5 w6):=zH ((OX _ w5).drew.trans b6);have k8:=((HX5.out.keep B6.out).rx.b0.cell 0);have k9:=((HX5.out.keep B6.out).rx.b0.cell 1);clear b6)
     | (go_at_call 46;(with_reducible refine(HS.out _ B6.out).mono ?_);rintro e w7 ⟨tv',dv',rfl,ht',hd',hbl,hsz,hk⟩;have k8':=fZ HN1.out HN2.out hk (OW _) k8;have k9':=fZ HN1.out HN2.out hk (OW _) k9;have HF:=(HX5.out.keep B6.out).rx.fin HQ.out ht' hd' hbl hsz hk;obtain⟨ta',tc',hy1⟩:=(ag.sl az ht').len;obtain⟨da',dc',hy2⟩:=(ag.sl ai hd').len;obtain⟨m,hm⟩: ∃m,(T++ [(3,x)]).length=m:=⟨_,rfl⟩;rw[hm]at hy1;subst hy1 hy2;have q0:=HF.c0;have q1:=HF.c1;have f0:=HF.f0;have f1:=HF.f1;have HR:=zH (HF.fin nx);clear ht' hd' hbl hsz hk HF hm)))
   go_wp2_with fail
   exact Pq (v:= .tuple #[.agg #[.slice ta' m tc',.slice da' D.length dc'],.int .i64 (nx:Int)]) (by simp[results,Tryz.results45,go_sem,q0,q1]) rfl HR.out
end
end
section
attribute [local go_sem ↓ high] bN aM
section
variable {base:Nat} {w:World} {lv:Value} {L:List Int} {tv dv:Value} {T:List Tok} {D:List Dg} {W:World}
theorem Ia (p:Nat) (w:World) (hs:Sl .i32 w lv L) (ht:eD base w tv T) (hd:aL base w dv D) (hb:base≤w.heap.size) (hp:p<L.length) (hL:L.length≤2000) (hTl:T.length≤2000) (hDl:D.length≤2000) (hzr: ∀z∈L,-2147483648≤z∧z≤2147483647) {t:List Tok} {d:List Int} {k:Nat} (he:qh (L.drop (p+1))=(t,d,k)):
  Calls Tryz.prog 45 #[.agg #[tv,dv],lv,.int .i64 ((p+1:Nat):Int)] w (jh base w tv dv (T++t) (D++dgs p d) (p+k)):=by
 cases hR:L[p+1]? with
 | none=>
  have hlen:p+1=L.length:=by
   have:=List.getElem?_eq_none_iff.1 hR;omega
  rw[QM (by omega)]at he
  cases he
  have:=H9 (p+1) w hs ht hd hb hlen (by omega) hL hDl;rw[Pn];exact this
 | some c=>
  have hlt:=(OV.1 hR).1;have hql:(L.drop (p+1+1)).length=L.length-(p+2):=by rw[Pi]
  have hdc:=iG hR;rw[hdc,wJ,hql]at he;have e1:p+(L.length-(p+2)+2)=L.length:=by omega
  cases hsim:jW c with
  | some x=>
   rw[hsim]at he
   cases he
   rw[fo];exact ES (p+1) c x w hs ht hd hb hR hL hTl hsim
  | none=>
   rw[hsim]at he;simp only at he
   by_cases a1:c=38∨c=37∨c=47∨c=44∨c=58
   ·rw[Pk a1]at he
    cases he
    rw[fo,Pn];exact xH (p+1) c w hs ht hd hb hR (by omega) hL hTl hDl hsim a1
   ·rw[Pd a1]at he
    by_cases a2:c=34
    ·rw[Pk a2]at he
     cases he
     rw[fo,Pn,e1];exact xI (p+1) c w hs ht hd hb hR (by omega) hL hTl hDl hsim a2
    ·rw[Pd a2]at he
     by_cases a3:c=40∨c=91
     ·rw[Pk a3,←hdc]at he
      cases hn:dD (L.drop (p+1))with
      | none=>
       rw[hn]at he
       cases he
       rw[Pn,e1];exact qR (p+1) c w hs ht hd hb hR (by omega) hL hTl hDl hsim a3 hzr hn
      | some nk=>
       obtain⟨n,k'⟩:=nk;rw[hn]at he;simp only at he
       cases hm:lU (enc n)with
       | some x=>
        rw[hm]at he
        cases he
        rw[fo,show p+(k'+1)=p+1+k' by omega];exact qU (p+1) c w hs ht hd hb hR (by omega) hL hTl hDl hsim a3 hzr hn hm
       | none=>
        rw[hm]at he
        cases he
        rw[Pn,show p+(k'+1)=p+1+k' by omega];exact sU (p+1) c w hs ht hd hb hR (by omega) hL hTl hDl hsim a3 hzr hn hm
     ·rw[Pd a3]at he
      by_cases a4:c=102
      ·rw[Pk a4]at he
       cases hn:dD (L.drop (p+1+1))with
       | none=>
        rw[hn]at he
        cases he
        rw[Pn,e1];exact sV (p+1) c w hs ht hd hb hR (by omega) hL hTl hDl hsim a4 hzr hn
       | some nk=>
        obtain⟨n,k'⟩:=nk;rw[hn]at he;simp only at he
        cases hm:jK (enc n)with
        | some x=>
         rw[hm]at he
         cases he
         rw[fo,show p+(k'+2)=p+1+1+k' by omega];exact sW (p+1) c w hs ht hd hb hR (by omega) hL hTl hDl hsim a4 hzr hn hm
        | none=>
         rw[hm]at he
         cases he
         rw[Pn,show p+(k'+2)=p+1+1+k' by omega];exact uY (p+1) c w hs ht hd hb hR (by omega) hL hTl hDl hsim a4 hzr hn hm
      ·rw[Pd a4]at he
       cases he
       rw[Pn];exact BR (p+1) c w hs ht hd hb hR (by omega) hL hTl hDl hsim ⟨fun e=>a1 (by simp[e]),fun e=>a1 (by simp[e]),fun e=>a1 (by simp[e]),fun e=>a1 (by simp[e]),fun e=>a1 (by simp[e]),a2,fun e=>a3 (.inl e),fun e=>a3 (.inr e),a4⟩
structure Sx (w1:World) (B:Nat) (lv:Value) (L:List Int) (W:World) (T:List Tok) (D:List Dg) (tv dv:Value):Prop where
 hB:w1.heap.size=B
 s1:Sl .i32 w1 lv L
 bel:Below B w1 W
 b:Blk W B 106 [tv,dv]
 t:eD (B+1) W tv T
 d:aL (B+1) W dv D
variable {w1:World} {B:Nat}
theorem Sx.lt (h:Sx w1 B lv L W T D tv dv):B<W.heap.size:=(O5.1 h.b).1
theorem Sx.text (h:Sx w1 B lv L W T D tv dv):Sl .i32 W lv L:=h.s1.below (by rw[h.hB];exact h.bel)
theorem Sx.store (h:Sx w1 B lv L W T D tv dv) {W':World} {tv' dv':Value} {T':List Tok} {D':List Dg} (hb:Below (B+1) W W') (ht:eD (B+1) W' tv' T') (hd:aL (B+1) W' dv' D'):
  W'.cell? ⟨B,0,none⟩=some tv∧W'.cell? ⟨B,1,none⟩=some dv∧W'.frozen? ⟨B,0,none⟩=false∧W'.frozen? ⟨B,1,none⟩=false∧Sx w1 B lv L ((W'.setCell ⟨B,0,none⟩ tv').setCell ⟨B,1,none⟩ dv') T' D' tv' dv':=by
 have b':Blk W' B 106 [tv,dv]:=(hb.block B (by omega)).trans h.b;refine⟨b'.cell 0,b'.cell 1,b'.frozen (by simp),b'.frozen (by simp),h.hB,h.s1,(((h.bel.trans (hb.mono (by omega))).setCell (OW _) _).setCell (OW _) _),?_,?_,?_⟩
 ·exact(b'.set 0 tv').set 1 dv'
 ·exact Pt (Pt ht (by simp) _) (by simp) _
 ·exact Pt (Pt hd (by simp) _) (by simp) _
end
end
section
attribute [local go_sem ↓ high] bN aM
def SAt (w1:World) (B:Nat) (lv:Value) (L:List Int) (TT:List Tok) (DD:List Dg) (p:Nat) (W:World):Prop:=
 ∃T D tv dv,Sx w1 B lv L W T D tv dv∧fC L TT DD p T D
theorem Nu (b:List UInt8): ∀z∈dec b,-2147483648≤z∧z≤2147483647:=by
 intro z hz;have:=Em _ b (OW _) z hz;simp only[vld,PQ]at this;omega
theorem QUi {P:Prop}(h:P:=by
 obtain⟨m2,hm2⟩: ∃m,(D).length=m:=⟨_,rfl⟩;rw[hm1]at hx1;rw[hm2]at hx2;subst hx1 hx2;have HN:Hid (SAt w1 B (.slice (some ⟨g,off,none⟩) N c1) L TT DD (p+1) ((w2.setCell ⟨B,0,none⟩ (.slice ta' m1 tc')).setCell ⟨B,1,none⟩ (.slice da' m2 dc'))):=zH ⟨_,_,_,_,hsx,HS2.out⟩;clear hm1 hm2 ht' hd' hbl hsx HS2 HR k5 k6;go_wp2_with fail
 go_roundw
 case rel=>exact⟨p+1,by omega,by go_num,HN.out⟩
 case measure=>(simp[intOf];try omega)):P:=h
theorem EM (b:List UInt8) (w:World) (hb:b.length≤2000):Calls Tryz.prog 22 #[.string ⟨b.toArray⟩] w (mZ w b):=by
 obtain⟨u0,w0,k0,s0,b0⟩:=pJ w b;have HD:=zH (zA b hb u0 w0 s0);have hdl:=l6 b;have HZR:=zH (Nu b);unfold mZ;obtain⟨L,hL⟩: ∃L,dec b=L:=⟨_,rfl⟩;rw[hL]at HD hdl HZR ⊢;have HS0:=zH (fC.start L);obtain⟨TT,hTT⟩: ∃TT,(bK 0 L).1=TT:=⟨_,rfl⟩;obtain⟨DD,hDD⟩: ∃DD,(bK 0 L).2=DD:=⟨_,rfl⟩;rw[hTT,hDD]at HS0 ⊢;have B0:=zH b0;have z0:=b0.size;clear hL hTT hDD s0 b0;go_enter Tryz.func22,Tryz.ntmps22
 go_wp2_with fail
 refine HD.out.mono ?_;rintro e w1 ⟨u1,rfl,s1,b1⟩;have B1:=zH (B0.out.trans (b1.mono z0));have S1:=zH s1;obtain⟨a1,c1,rfl⟩:=s1.len;clear b1 HD s1;go_wp2_with fail
 obtain⟨B,hB⟩: ∃B,w1.heap.size=B:=⟨_,rfl⟩;have HR0:Hid (Sx w1 w1.heap.size (.slice a1 L.length c1) L (w1.alloc (.cells #[.slice none 0 0,.slice none 0 0] 106)) [] [] (.slice none 0 0) (.slice none 0 0)):=
  zH ⟨rfl,S1.out,af w1 _,O9 w1 _,ag.nil _ _,ag.nil _ _⟩
 have hwB:w.heap.size≤B:=by have:=B1.out.size;omega
 have HB1:=zH B1.out;rw[hB]at HR0 ⊢;obtain⟨W2,hW2⟩: ∃W2,w1.alloc (.cells #[.slice none 0 0,.slice none 0 0] 106)=W2:=⟨_,rfl⟩;rw[hW2]at HR0 ⊢;obtain⟨N,hN⟩: ∃N,L.length=N:=⟨_,rfl⟩;rw[hN]at HR0 hdl ⊢;have HLN:=zH hN;clear hW2 hB B1 B0 hN S1;go_loopw [6] (fun i wr=> ∃p:Nat,p≤N∧i= .int .i64 p∧SAt w1 B (.slice a1 N c1) L TT DD p wr) (fun i _=>N-(intOf i).toNat)
 case atStart=>exact⟨0,by omega,rfl,[],[],_,_,HR0.out,HS0.out⟩
 case round=>
  obtain⟨p,hp,rfl,T,D,tv,dv,hR,hS⟩:=hrel;have HR:=zH hR;have HSo:=zH hS;have tl:=hS.tl;have dl:=hS.dl;have k5:wr.cell? ⟨B,0,none⟩=some tv:=hR.b.cell 0;have k6:wr.cell? ⟨B,1,none⟩=some dv:=hR.b.cell 1;obtain⟨ta,tc,hx1⟩:=(ag.sl az hR.t).len;obtain⟨da,dc,hx2⟩:=(ag.sl ai hR.d).len;have blt:=hR.lt;subst hx1 hx2;clear hS HR0 HS0 hR
  by_cases hlt:p<N
  ·obtain⟨c,hc⟩: ∃c,L[p]? =some c:=⟨L[p]'(by have:=HLN.out;omega),OU _⟩
   obtain⟨g,off,rfl,c5⟩:=(HR.out.text).at hc;have hi0:(p:Int)<(N:Int):=by omega
   have hi1:(0:Int)≤(p:Int):=by omega
   have HST:=zH (Dw hc);have HNX:=zH (fun t d k (h:dO (L.drop p)=(t,d,k))=>HSo.out.next (by have:=HLN.out;omega) h)
   by_cases c92:c=92
   ·subst c92
    obtain⟨⟨t,d,k⟩,hs⟩: ∃q,qh (L.drop (p+1))=q:=⟨_,rfl⟩;have HE:=zH (Ia (base:=B+1) p wr HR.out.text HR.out.t HR.out.d (by omega) (by have:=HLN.out;omega) (by have:=HLN.out;omega) (by omega) (by omega) HZR.out hs);have hbd:=yC (L.drop (p+1));rw[hs]at hbd;obtain⟨-,-,kb1,kb2⟩:=hbd;simp only[Pi]at kb1 kb2;have hpk:p+k≤N:=by have:=HLN.out;omega
    have HS2:Hid (fC L TT DD (p+k) (T++t) (D++dgs p d)):=zH (HNX.out t d k (by rw[HST.out,Pk rfl,hs]));have HE':Hid (Calls Tryz.prog 45 #[.agg #[.slice ta T.length tc,.slice da D.length dc],.slice (some ⟨g,off,none⟩) N c1,.int .i64 ((p:Int)+1)] wr (jh (B+1) wr (.slice ta T.length tc) (.slice da D.length dc) (T++t) (D++dgs p d) (p+k))):=HE;clear hs HST HNX hc HSo HE kb2;go_wp2_with fail
    refine HE'.out.mono ?_;rintro e w2 ⟨tv',dv',rfl,ht',hd',hbl,hsz,-⟩;have hal:=af w2 (.cells #[tv',dv'] 106);obtain⟨q0,q1,f0,f1,hsx⟩:=HR.out.store (hbl.trans (hal.mono (by omega))) (ht'.keep hal) (hd'.keep hal);obtain⟨ta',tc',hx1⟩:=(ag.sl az ht').len;obtain⟨da',dc',hx2⟩:=(ag.sl ai hd').len;obtain⟨m1,hm1⟩: ∃m,(T++t).length=m:=⟨_,rfl⟩;obtain⟨m2,hm2⟩: ∃m,(D++dgs p d).length=m:=⟨_,rfl⟩;rw[hm1]at hx1;rw[hm2]at hx2;subst hx1 hx2;have HN:Hid (SAt w1 B (.slice (some ⟨g,off,none⟩) N c1) L TT DD (p+k) (((w2.alloc (.cells #[.slice ta' m1 tc',.slice da' m2 dc'] 106)).setCell ⟨B,0,none⟩ (.slice ta' m1 tc')).setCell ⟨B,1,none⟩ (.slice da' m2 dc'))):=zH ⟨_,_,_,_,hsx,HS2.out⟩;have hB2: ¬w2.heap.size=B:=by omega
    have hB3: ¬B=w2.heap.size:=by omega
    clear hm1 hm2 ht' hd' hbl hal hsx HS2 HR HE' k5 k6;go_wp2_with fail
    go_roundw
    case rel=>exact⟨p+k,by omega,by go_num,HN.out⟩
    case measure=>(simp[intOf];try omega)
   ·have e92:(c==92)=false:=by simpa using c92
    by_cases cb:c=32∨c=9
    ·have HS2:Hid (fC L TT DD (p+1) (T++ [(2,0)]) D):=zH (by
      have:=HNX.out [(2,0)] [] 1 (by rw[HST.out,Pd c92,Pk cb]);rw[fo]at this;exact this)
     have HC:=zH (mG (B+1) _ _ 2 0 T D wr HR.out.t HR.out.d (by omega) (by omega));clear HST HNX hc HSo c92;rcases cb with rfl | rfl
     all_goals
      go_wp2_with fail
      refine HC.out.mono ?_;rintro e w2 ⟨tv',dv',rfl,ht',hd',hbl,hsz,-⟩;obtain⟨q0,q1,f0,f1,hsx⟩:=HR.out.store hbl ht' hd';obtain⟨ta',tc',hx1⟩:=(ag.sl az ht').len;obtain⟨da',dc',hx2⟩:=(ag.sl ai hd').len;obtain⟨m1,hm1⟩: ∃m,(T++ [((2:Int),(0:Int))]).length=m:=⟨_,rfl⟩;exact QUi
    ·have e32:(c==32)=false:=by simpa using fun h:c=32=>cb (.inl h)
     have e9:(c==9)=false:=by simpa using fun h:c=9=>cb (.inr h)
     have HCT:=zH (fun W=>oC c W)
     cases hctl:ctl c with
     | true=>
      rw[hctl]at HCT;have HS2:Hid (fC L TT DD (p+1) (T++ [(1,65533)]) (D++dgs p [3])):=zH (HNX.out [(1,65533)] [3] 1 (by rw[HST.out,Pd c92,Pd cb,Pk hctl]));have HC:=zH (mG (B+1) _ _ 1 65533 T D wr HR.out.t HR.out.d (by omega) (by omega));clear HST HNX hc HSo c92 cb hctl;go_wp2_with fail
      refine(HCT.out _).mono ?_;rintro e w2 ⟨rfl,rfl⟩;clear HCT;go_wp2_with fail
      refine HC.out.mono ?_;rintro e w4 ⟨tv4,dv4,rfl,ht4,hd4,hbl4,hsz4,-⟩;have HC2:=zH (iJ (B+1) _ _ 3 p _ _ w4 ht4 hd4 (by omega) (by omega) (by omega));clear HC ht4 hd4;go_wp2_with fail
      refine HC2.out.mono ?_;rintro e w2 ⟨tv',dv',rfl,ht',hd',hbl,hsz,-⟩;clear HC2;obtain⟨q0,q1,f0,f1,hsx⟩:=HR.out.store (hbl4.trans hbl) ht' hd';obtain⟨ta',tc',hx1⟩:=(ag.sl az ht').len;obtain⟨da',dc',hx2⟩:=(ag.sl ai hd').len;obtain⟨m1,hm1⟩: ∃m,(T++ [((1:Int),(65533:Int))]).length=m:=⟨_,rfl⟩;obtain⟨m2,hm2⟩: ∃m,(D++dgs p [3]).length=m:=⟨_,rfl⟩;rw[hm1]at hx1;rw[hm2]at hx2;subst hx1 hx2;have HN:Hid (SAt w1 B (.slice (some ⟨g,off,none⟩) N c1) L TT DD (p+1) ((w2.setCell ⟨B,0,none⟩ (.slice ta' m1 tc')).setCell ⟨B,1,none⟩ (.slice da' m2 dc'))):=zH ⟨_,_,_,_,hsx,HS2.out⟩;clear hm1 hm2 ht' hd' hbl hsx HS2 HR k5 k6;go_wp2_with fail
      go_roundw
      case rel=>exact⟨p+1,by omega,by go_num,HN.out⟩
      case measure=>(simp[intOf];try omega)
     | false=>
      rw[hctl]at HCT;have HS2:Hid (fC L TT DD (p+1) (T++ [(1,c)]) D):=zH (by
       have:=HNX.out [(1,c)] [] 1 (by rw[HST.out,Pd c92,Pd cb,Pd (by rw[hctl];decide)]);rw[fo]at this;exact this)
      have HC:=zH (mG (B+1) _ _ 1 c T D wr HR.out.t HR.out.d (by omega) (by omega));clear HST HNX hc HSo c92 cb hctl;go_wp2_with fail
      refine(HCT.out _).mono ?_;rintro e w2 ⟨rfl,rfl⟩;clear HCT;go_wp2_with fail
      refine HC.out.mono ?_;rintro e w2 ⟨tv',dv',rfl,ht',hd',hbl,hsz,-⟩;clear HC;obtain⟨q0,q1,f0,f1,hsx⟩:=HR.out.store hbl ht' hd';obtain⟨ta',tc',hx1⟩:=(ag.sl az ht').len;obtain⟨da',dc',hx2⟩:=(ag.sl ai hd').len;obtain⟨m1,hm1⟩: ∃m,(T++ [((1:Int),c)]).length=m:=⟨_,rfl⟩;exact QUi
  ·obtain rfl:p=N:=by omega
   obtain⟨rfl,rfl⟩:=HSo.out.done (by have:=HLN.out;omega);have HT:=zH (HR.out.t.mono (base':=w.heap.size) (by omega));have HDg:=zH (HR.out.d.mono (base':=w.heap.size) (by omega));have HB2:=zH (HB1.out.trans (HR.out.bel.mono hwB));clear HR HSo tl dl;go_wp2_with fail
   go_quiet (fail)
   go_wp2_with fail
   go_ret2
   exact⟨_,_,rfl,HT.out.keep (below_drewN (OX _ _) _),HDg.out.keep (below_drewN (OX _ _) _),below_drewN HB2.out _⟩
end
end Go.Proofs.YtebabjnngdjceaaGreatDoor
