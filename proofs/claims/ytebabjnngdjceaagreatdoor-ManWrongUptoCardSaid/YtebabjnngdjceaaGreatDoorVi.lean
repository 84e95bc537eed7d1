/- A reader's macros: tags, -/
import Derived.Test.YtebabjnngdjceaaGreatDoorVh
import Derived.Test.YtebabjnngdjceaaGreatDoorY6
set_option linter.unusedVariables false
set_option linter.unusedSimpArgs false
set_option maxRecDepth 100000
set_option maxHeartbeats 16000000
namespace Go.Proofs.YtebabjnngdjceaaGreatDoor
open Go.RowKit
theorem gD (s:Md)(r:aI)(k:Nat):(aL s r k).1.v=s.v∧(aL s r k).1.g=s.g∧(aL s r k).1.w=s.w∧(aL s r k).1.b=s.b∧(aL s r k).1.th=s.th∧(aL s r k).1.d.length≤s.d.length+1:=by
 unfold aL
 split
 ·exact⟨rfl,rfl,rfl,rfl,rfl,Rl _⟩
 ·split
  ·exact⟨rfl,rfl,rfl,rfl,rfl,Rl _⟩
  ·exact⟨rfl,rfl,rfl,rfl,rfl,by simp[aD]⟩
section
variable {BI:BIT}{TB:World→Prop}{w w0:World}{B:Nat}{s:Md}{Y Q:Nat→Prop}
theorem EE (I:bu BI TB)(h:MM BI w0 Y w B s)(hT:TB w0)(hb:btl s.b≤30000){W1:World}(b1:Below w.heap.size w W1):∃b,W1.cell? ⟨B,0,none⟩=some (ak b)∧Hid (Calls Tryz.prog 84 #[ak b,.slice (some ⟨W1.heap.size,0,none⟩) 1 1] (W1.alloc (.cells #[.int .i64 4] 3)) fun e w'=>e=.returned (.tuple #[])∧aV BI w0 Y W1 B {s with b:=aK s.b [4] } w'):=by
 have hM1:=h.keep I b1;have hYl:=h.lt I;obtain⟨b,hcb,hSH⟩:=hM1.shut I hT [4] (by decide) hb;have bl:=ae W1 (.cells #[.int .i64 4] 3);exact⟨b,hcb W1 (PG _ _),zH (hSH (W1.alloc (.cells #[.int .i64 4] 3)) (.slice (some ⟨W1.heap.size,0,none⟩) 1 1) (fun k=>k=W1.heap.size) bl (EZ W1 [4] 3) (fun k q=>⟨by simp[q],fun e=>by have:=hYl k e;have:=b1.size;omega⟩))⟩
theorem AX (I:bu BI TB)(h:MM BI w0 Y w B s)(hT:TB w0)(hEr:Er w0)(hv:s.v=none)(hg:s.g=none){x:RV}{r:aI}(hx:iO w0 x r)(hl:fJ r)(hb:btl s.b≤30000)(hD:s.d.length≤400000):
  Calls Tryz.prog 53 #[ak B,.agg (ai x).toArray] w (dK BI w0 Y w B (.tuple #[]) {(aL {s with b:=aK s.b [4] } r 0).1 with w:=some ⟨4,r.line,(aL {s with b:=aK s.b [4] } r 0).2⟩ }):=by
 obtain⟨W1,hW1,b1,kx⟩:=aT (x:=x) w;have hYl:=h.lt I;have hs1:=b1.size;have hln:=hx.line;obtain⟨b,c0,HS⟩:=EE I h hT hb b1;obtain⟨kv,kg,kw,kb,kt,kd⟩:=gD {s with b:=aK s.b [4] } r 0;have hxl:=hx.args;obtain⟨xl,xm,⟨va,vn,vc⟩,xt⟩:=x;simp only[bE]at hxl;obtain⟨a',c',e4⟩:=hxl.len;injection e4 with e1 e2 e3
 subst e1 e2 e3;obtain⟨an,han⟩:∃n,r.args.length=n:=⟨_,rfl⟩;have hxy:¬Y w.heap.size:=fun e=>by have:=hYl _ e;omega
 have HW:Hid (∀V,aV BI w0 Y W1 B {s with b:=aK s.b [4] } V→Blk V w.heap.size 33 [.int .i64 xl,.string ⟨xm.toArray⟩,.slice va an vc,.string ⟨xt.toArray⟩]∧Blk V.drew w.heap.size 33 [.int .i64 xl,.string ⟨xm.toArray⟩,.slice va an vc,.string ⟨xt.toArray⟩]∧Hid (Calls Tryz.prog 87 #[ak B,.agg #[.int .i64 xl,.string ⟨xm.toArray⟩,.slice va an vc,.string ⟨xt.toArray⟩],.int .i64 0] V.drew fun e w'=>e=.returned (.int .i64 (aL {s with b:=aK s.b [4] } r 0).2)∧Hid (Blk w' w.heap.size 33 [.int .i64 xl,.string ⟨xm.toArray⟩,.slice va an vc,.string ⟨xt.toArray⟩])∧
   ∃V2,w'.alloc (.cells #[.int .i64 4,.int .i64 xl,.int .i64 (aL {s with b:=aK s.b [4] } r 0).2,.slice none 0 0,.slice none 0 0,.slice none 0 0,.string ⟨#[]⟩,.slice none 0 0,.bool false,.bool false] 58)=V2∧Hid (Blk V2 w.heap.size 33 [.int .i64 xl,.string ⟨xm.toArray⟩,.slice va an vc,.string ⟨xt.toArray⟩])∧(∃v,V2.cell? ⟨B,2,none⟩=some v)∧V2.frozen? ⟨B,2,none⟩=false∧Hid (Blk (V2.setCell ⟨B,2,none⟩ (ak w'.heap.size)) w.heap.size 33 [.int .i64 xl,.string ⟨xm.toArray⟩,.slice va an vc,.string ⟨xt.toArray⟩])∧Hid (aV BI w0 Y w B {(aL {s with b:=aK s.b [4] } r 0).1 with w:=some ⟨4,r.line,(aL {s with b:=aK s.b [4] } r 0).2⟩ } (V2.setCell ⟨B,2,none⟩ (ak w'.heap.size))))):=zH (fun V m=>by
  obtain⟨Y1,hM,hE,hY,hseq⟩:=m.seq;have hdr:Below V.heap.size V V.drew:=(PG _ _).drew;have k1:Blk V w.heap.size 33 (ai (xl,xm,(va,r.args.length,vc),xt)):=hE.blk kx hxy;have hxw:w.heap.size<W1.heap.size:=kx.lt;have hxy1:¬Y1 w.heap.size:=fun e=>by rcases hY _ e with z | z;exact hxy z;omega
  have k2:=k1.below hdr;simp only[ai,bE,han]at k1 k2;refine⟨k1,k2,zH ?_⟩;have hM2:=hM.keep I hdr;have hst:=qm I hM2 hEr (hx.below hM2.1) hl 0 (by decide) (by show s.d.length≤500000;omega);simp only[ai,bE,han]at hst;refine hst.mono ?_;rintro e w' ⟨rfl,m2⟩;obtain⟨Y2,hM3,hE2,hY2,hseq2⟩:=m2.seq;have k3:=hE2.blk k2 hxy1;have bA:=ae w' (.cells #[.int .i64 4,.int .i64 xl,.int .i64 (aL {s with b:=aK s.b [4] } r 0).2,.slice none 0 0,.slice none 0 0,.slice none 0 0,.string ⟨#[]⟩,.slice none 0 0,.bool false,.bool false] 58);obtain⟨c,fr,mw⟩:=hM3.wait I.k (kv.trans hv) (kg.trans hg) (m:=⟨4,xl,(aL {s with b:=aK s.b [4] } r 0).2⟩) bA (Px _) (PK w' _);have hBne:w.heap.size≠B:=fun e=>by
   obtain⟨b9,wv9,rv9,tv9,dv9,q9,-⟩:=h.box_at I;omega
  refine⟨rfl,zH k3,_,rfl,zH (k3.below bA),c,fr,zH (((Exc.refl (fun k=>k=B) _).set 2 _ (fun _=>rfl)).blk (k3.below bA) hBne),zH ?_⟩;have e5:r.line=xl:=hln.symm;rw[e5];have m3:=(hseq (aV.trans (Exc.of (X:=Y1) hdr) (fun k q=> .inl q) (hseq2 mw))).pre b1;exact m3)
 obtain⟨sf,hsf⟩:∃sf,({(aL {s with b:=aK s.b [4] } r 0).1 with w:=some ⟨4,r.line,(aL {s with b:=aK s.b [4] } r 0).2⟩ }:Md)=sf:=⟨_,rfl⟩;rw[hsf]at HW⊢;obtain⟨nn,hnn⟩:∃n,(aL {s with b:=aK s.b [4] } r 0).2=n:=⟨_,rfl⟩;rw[hnn]at HW;rw[han]at hW1⊢;simp only[ai,bE]at hW1⊢;clear h hT hEr hv hg hx hl hb hD b1 kx hYl hs1 hln kv kg kw kb kt kd hxl hxy hsf hnn han;go_enter Tryz.func53,Tryz.ntmps53
 go_wp2_with fail
 clear hW1;refine HS.out.mono ?_;rintro e w2 ⟨rfl,m2⟩;obtain⟨k1,k2,HST⟩:=HW.out w2 m2;have K1:=zH k1;have K2:=zH k2;clear m2 HW HS c0 k1 k2;go_wp2_with fail
 refine wp_region_held_drew (S:=(fun V=>Blk V w.heap.size 33 [.int .i64 xl,.string ⟨xm.toArray⟩,.slice va an vc,.string ⟨xt.toArray⟩])) (by kernel_rfl) ?_ (fun hHeld=>?_)
 ·exact K2.out
 refine zK (i:=0) (v:= .pointer (some ⟨B,0,none⟩)) rfl ?_;simp only[zA,Act.put];refine zK (i:=1) (v:= .pointer (some ⟨w.heap.size,0,none⟩)) rfl ?_;simp only[zA,Act.put];refine Qv (i:=2) (v:= .int .i64 xl) rfl (by kernel_rfl) (by kernel_rfl) (by kernel_rfl) (fun _ _ _ h=>h) (Or.inl ⟨by rfl,fun w' hSw=>by(try dsimp only at hSw);have q0:=hSw.cell 0;have q1:=hSw.cell 1;have q2:=hSw.cell 2;have q3:=hSw.cell 3;simp only[PD,PE]at q0 q1 q2 q3;clear hSw;go_simp⟩) (by assumption) ?_;simp only[zA,Act.put];refine zK (i:=3) (v:= .pointer (some ⟨B,0,none⟩)) rfl ?_;simp only[zA,Act.put];refine Qv (i:=4) (v:= .agg #[.int .i64 xl,.string ⟨xm.toArray⟩,.slice va an vc,.string ⟨xt.toArray⟩]) rfl (by kernel_rfl) (by kernel_rfl) (by kernel_rfl) (fun _ _ _ h=>h) (Or.inl ⟨by rfl,fun w' hSw=>by(try dsimp only at hSw);have q0:=hSw.cell 0;have q1:=hSw.cell 1;have q2:=hSw.cell 2;have q3:=hSw.cell 3;simp only[PD,PE]at q0 q1 q2 q3;clear hSw;go_simp⟩) (by assumption) ?_;simp only[zA,Act.put];refine wpAnyH_ready (rs:=[5]) (by kernel_rfl) (by simp) ?_;refine AllReadyH.cons rfl (fun K hK=>?_) AllReadyH.nil
 try simp only[zG]
 go_simp;go_at_call 87
 refine HST.out.mono ?_;rintro e w3 ⟨rfl,K3,V2,hV2,K4,⟨q,y2⟩,y3,K5,M5⟩;go_wp2_with fail
 refine hK.out _ _ ?_ (fun hHeld=>?_)
 ·exact K3.out
 clear hK K
 try simp only[zA,Act.put]
 refine zK (i:=6) (v:= .agg #[.int .i64 4,.int .i64 xl,.int .i64 nn,.slice none 0 0,.slice none 0 0,.slice none 0 0,.string ⟨#[]⟩,.slice none 0 0,.bool false,.bool false]) rfl ?_;simp only[zA,Act.put];refine wpAnyH_ready (rs:=[7]) (by kernel_rfl) (by simp) ?_;refine AllReadyH.cons rfl (fun K hK=>?_) AllReadyH.nil
 try simp only[zG]
 go_simp;refine hK.out _ _ ?_ (fun hHeld=>?_)
 ·exact K4.out
 clear hK K
 try simp only[zA,Act.put]
 refine zK (i:=8) (v:= .pointer (some ⟨B,0,none⟩)) rfl ?_;simp only[zA,Act.put];refine zK (i:=9) (v:= .pointer (some ⟨B,2,none⟩)) rfl ?_;simp only[zA,Act.put];refine wpAnyH_ready (rs:=[10]) (by kernel_rfl) (by simp) ?_;refine AllReadyH.cons rfl (fun K hK=>?_) AllReadyH.nil
 try simp only[zG]
 go_simp;refine hK.out _ _ ?_ (fun hHeld=>?_)
 ·exact K5.out
 clear hK K
 try simp only[zA,Act.put]
 refine Qd (by kernel_rfl) ?_ _;go_wp2_with fail
 go_end0;exact⟨rfl,M5.out⟩
end
section
variable {BI:BIT}{TB:World→Prop}{w w0:World}{B:Nat}{s:Md}{Y Q:Nat→Prop}
theorem AZ (I:bu BI TB)(h:MM BI w0 Y w B s)(hT:TB w0)(hEr:Er w0){x:RV}{r:aI}(hx:iO w0 x r)(hl:fJ r)(hb:btl s.b+3≤30000)(hD:s.d.length≤400000):
  Calls Tryz.prog 55 #[ak B,.agg (ai x).toArray] w (dK BI w0 Y w B (.tuple #[]) (dh (aL s r 0).1 (cB 5 r.line (aL s r 0).2 []))):=by
 obtain⟨W1,hW1,b1,kx⟩:=aT (x:=x) w;have hYl:=h.lt I;have hs1:=b1.size;have hln:=hx.line;obtain⟨kv,kg,kw,kb,kt,kd⟩:=gD s r 0;have hxl:=hx.args;obtain⟨xl,xm,⟨va,vn,vc⟩,xt⟩:=x;simp only[bE]at hxl;obtain⟨a',c',e4⟩:=hxl.len;injection e4 with e1 e2 e3
 subst e1 e2 e3;obtain⟨an,han⟩:∃n,r.args.length=n:=⟨_,rfl⟩;have hxy:¬Y w.heap.size:=fun e=>by have:=hYl _ e;omega
 have hdr:Below W1.heap.size W1 W1.drew:=(PG _ _).drew;have k2:=kx.below hdr;simp only[ai,bE,han]at k2;have HST:Hid (Calls Tryz.prog 87 #[ak B,.agg #[.int .i64 xl,.string ⟨xm.toArray⟩,.slice va an vc,.string ⟨xt.toArray⟩],.int .i64 0] W1.drew fun e w'=>e=.returned (.int .i64 (aL s r 0).2)∧Hid (Blk w' w.heap.size 33 [.int .i64 xl,.string ⟨xm.toArray⟩,.slice va an vc,.string ⟨xt.toArray⟩])∧
   Hid (Calls Tryz.prog 86 #[ak B,.agg #[.int .i64 5,.int .i64 xl,.int .i64 (aL s r 0).2,.slice none 0 0,.slice none 0 0,.slice none 0 0,.string ⟨#[]⟩,.slice none 0 0,.bool false,.bool false]] w' fun e w2=>e=.returned (.tuple #[])∧Hid (Blk w2 w.heap.size 33 [.int .i64 xl,.string ⟨xm.toArray⟩,.slice va an vc,.string ⟨xt.toArray⟩])∧Hid (aV BI w0 Y w B (dh (aL s r 0).1 (cB 5 r.line (aL s r 0).2 [])) w2))):=zH (by
  have hM2:=(h.keep I b1).keep I hdr;have hst:=qm I hM2 hEr (hx.below hM2.1) hl 0 (by decide) (by omega);simp only[ai,bE,han]at hst;refine hst.mono ?_;rintro e w' ⟨rfl,m2⟩;obtain⟨Y2,hM3,hE2,hY2,hseq2⟩:=m2.seq;have hsd:=hdr.size;have hxw:w.heap.size<W1.heap.size:=kx.lt;have k3:=hE2.blk k2 hxy;have hxy2:¬Y2 w.heap.size:=fun e=>by rcases hY2 _ e with z | z;exact hxy z;omega
  refine⟨rfl,zH k3,zH ?_⟩;have hop:=qo I hM3 hT (S:=fun _=>False) (x:=dW 5 xl (aL s r 0).2 aj) (hd:=cB 5 r.line (aL s r 0).2 []) (by have:=rX (k:=5) (ln:=xl) (n:=(aL s r 0).2) (p:=aj) (FsS.nil (fun _=>False) 2 aR w');rw[show xl=r.line from hln]at this⊢;exact this) (fun k q=>q.elim) (by rw[DI,kb];simp only[PQ];omega) (by omega);refine hop.mono ?_;rintro e w2 ⟨rfl,m3⟩;obtain⟨Y4,-,hE4,-,-⟩:=m3.seq;exact⟨rfl,zH (hE4.blk k3 hxy2),zH (((hseq2 m3).pre hdr).pre b1)⟩)
 obtain⟨sf,hsf⟩:∃sf,(dh (aL s r 0).1 (cB 5 r.line (aL s r 0).2 []))=sf:=⟨_,rfl⟩;rw[hsf]at HST⊢;obtain⟨nn,hnn⟩:∃n,(aL s r 0).2=n:=⟨_,rfl⟩;rw[hnn]at HST;rw[han]at hW1⊢;have K2:=zH k2;simp only[ai,bE]at hW1⊢;clear h hT hEr hx hl hb hD b1 kx hYl hs1 hln kv kg kw kb kt kd hxl hxy hsf hnn han hdr k2;go_enter Tryz.func55,Tryz.ntmps55
 go_upto_region 1 with fail
 clear hW1;refine wp_region_held_drew (S:=(fun V=>Blk V w.heap.size 33 [.int .i64 xl,.string ⟨xm.toArray⟩,.slice va an vc,.string ⟨xt.toArray⟩])) (by kernel_rfl) ?_ (fun hHeld=>?_)
 ·exact K2.out
 refine zK (i:=0) (v:= .pointer (some ⟨B,0,none⟩)) rfl ?_;simp only[zA,Act.put];refine zK (i:=1) (v:= .pointer (some ⟨w.heap.size,0,none⟩)) rfl ?_;simp only[zA,Act.put];refine Qv (i:=2) (v:= .int .i64 xl) rfl (by kernel_rfl) (by kernel_rfl) (by kernel_rfl) (fun _ _ _ h=>h) (Or.inl ⟨by rfl,fun w' hSw=>by(try dsimp only at hSw);have q0:=hSw.cell 0;have q1:=hSw.cell 1;have q2:=hSw.cell 2;have q3:=hSw.cell 3;simp only[PD,PE]at q0 q1 q2 q3;clear hSw;go_simp⟩) (by assumption) ?_;simp only[zA,Act.put];refine zK (i:=3) (v:= .pointer (some ⟨B,0,none⟩)) rfl ?_;simp only[zA,Act.put];refine Qv (i:=4) (v:= .agg #[.int .i64 xl,.string ⟨xm.toArray⟩,.slice va an vc,.string ⟨xt.toArray⟩]) rfl (by kernel_rfl) (by kernel_rfl) (by kernel_rfl) (fun _ _ _ h=>h) (Or.inl ⟨by rfl,fun w' hSw=>by(try dsimp only at hSw);have q0:=hSw.cell 0;have q1:=hSw.cell 1;have q2:=hSw.cell 2;have q3:=hSw.cell 3;simp only[PD,PE]at q0 q1 q2 q3;clear hSw;go_simp⟩) (by assumption) ?_;simp only[zA,Act.put];refine wpAnyH_ready (rs:=[5]) (by kernel_rfl) (by simp) ?_;refine AllReadyH.cons rfl (fun K hK=>?_) AllReadyH.nil
 try simp only[zG]
 go_simp;go_at_call 87
 refine HST.out.mono ?_;rintro e w3 ⟨rfl,K3,HOP⟩;go_wp2_with fail
 refine hK.out _ _ ?_ (fun hHeld=>?_)
 ·exact K3.out
 clear hK K
 try simp only[zA,Act.put]
 refine zK (i:=6) (v:= .agg #[.int .i64 5,.int .i64 xl,.int .i64 nn,.slice none 0 0,.slice none 0 0,.slice none 0 0,.string ⟨#[]⟩,.slice none 0 0,.bool false,.bool false]) rfl ?_;simp only[zA,Act.put];refine wpAnyH_ready (rs:=[7]) (by kernel_rfl) (by simp) ?_;refine AllReadyH.cons rfl (fun K hK=>?_) AllReadyH.nil
 try simp only[zG]
 go_simp;go_at_call 86
 refine HOP.out.mono ?_;rintro e w4 ⟨rfl,K4,M5⟩;go_wp2_with fail
 refine hK.out _ _ ?_ (fun hHeld=>?_)
 ·exact K4.out
 clear hK K
 try simp only[zA,Act.put]
 refine Qd (by kernel_rfl) ?_ _;go_wp2_with fail
 go_end0;exact⟨rfl,M5.out⟩
end
section
variable {BI:BIT}{TB:World→Prop}{w w0:World}{B:Nat}{s:Md}{Y Q:Nat→Prop}
theorem MM.offQ2 (I:eD BI)(h:MM (BIQ BI Q) w0 Y w B s){V:World}(hV:Exc Q w V)(hQ:∀k,Q k→w0.heap.size≤k∧ ¬Y k):MM (BIQ BI Q) w0 Y V B s:=by
 obtain⟨h1,h2,X,R,lo,b,wv,rv,tv,dv,h3,h4⟩:=h;have kk:∀S:Nat→Prop,(∀k,S k→k<w.heap.size∧ ¬Q k)→Kp S w V:=fun S hS k q=>hV.block k (hS k q).1 (hS k q).2
 refine⟨h1.trans (hV.below h1.size (fun k hk q=>by have:=(hQ k q).1;omega)),h2,X,R,lo,b,wv,rv,tv,dv,h3.keepK (I.q Q) (kk X (fun k q=>⟨I.lt h3.bi.1 k (.inl q),fun e=>(hQ k e).2 ((h4 k).2 (.inl q))⟩)) (kk R (fun k q=>⟨I.lt h3.bi.1 k (.inr q),h3.bi.2 k q⟩)) (kk _ (fun k q=>⟨h3.ll k q,fun e=>(hQ k e).2 ((h4 k).2 (.inr q))⟩)) hV.size,h4⟩
def Dy (s:Md)(r:aI):Md:=
 dh (aL {s with b:=aK s.b [4],d:=s.d++aY r.line (dE 0 (r.args.take 1)).2} r 1).1 (cB 4 r.line (aL {s with b:=aK s.b [4],d:=s.d++aY r.line (dE 0 (r.args.take 1)).2} r 1).2 (dE 0 (r.args.take 1)).1)
theorem nY (I:bu BI TB)(h:MM BI w0 Y w B s)(hT:TB w0)(hEr:Er w0){xl:Int}{xm xt:Txt}{va su:Option Addr}{an vc sn sc:Nat}{r:aI}(hx:iO w0 (xl,xm,(va,an,vc),xt) r)(hl:fJ r)(hsv:Ss w0 (.slice su sn sc) (r.args.take 1))(hb:btl (aK s.b [4])+(dE 0 (r.args.take 1)).1.length+3≤30000)(hD:s.d.length≤400000){W1:World}(b1:Below w.heap.size w W1)(kx:Blk W1 w.heap.size 33 (ai (xl,xm,(va,an,vc),xt))):
  ∃(nn:Int) (q:List Gly×List (Int×Int)) (s2:Md),Dy s r=dh (aL s2 r 1).1 (cB 4 r.line nn q.1)∧(∀V,aV BI w0 Y W1 B {s with b:=aK s.b [4] } V→V.cell? ⟨w.heap.size,0,none⟩=some (.int .i64 xl)∧
   ∃V2,V.alloc (.cells #[.int .i64 4,.int .i64 xl,.int .i64 0,.slice none 0 0,.slice none 0 0,.slice none 0 0,.string ⟨#[]⟩,.slice none 0 0,.bool false,.bool false] 58)=V2∧Blk V2.drew w.heap.size 33 [.int .i64 xl,.string ⟨xm.toArray⟩,.slice va an vc,.string ⟨xt.toArray⟩]∧
    Hid (Calls Tryz.prog 85 #[ak B,.int .i64 xl,.slice su sn sc] V2.drew fun e w'=> ∃p1 p2 p3,e=.returned (.slice p1 p2 p3)∧Hid (Blk w' w.heap.size 33 [.int .i64 xl,.string ⟨xm.toArray⟩,.slice va an vc,.string ⟨xt.toArray⟩])∧(∃z,w'.cell? ⟨V.heap.size,3,none⟩=some z)∧w'.frozen? ⟨V.heap.size,3,none⟩=false∧ ∃V5,w'.setCell ⟨V.heap.size,3,none⟩ (.slice p1 p2 p3)=V5∧Hid (Blk V5 w.heap.size 33 [.int .i64 xl,.string ⟨xm.toArray⟩,.slice va an vc,.string ⟨xt.toArray⟩])∧
     Hid (Calls Tryz.prog 87 #[ak B,.agg #[.int .i64 xl,.string ⟨xm.toArray⟩,.slice va an vc,.string ⟨xt.toArray⟩],.int .i64 1] V5 fun e w6=>e=.returned (.int .i64 nn)∧(∃z,w6.cell? ⟨V.heap.size,2,none⟩=some z)∧w6.frozen? ⟨V.heap.size,2,none⟩=false∧ ∃V7,w6.setCell ⟨V.heap.size,2,none⟩ (.int .i64 nn)=V7∧(∀(i:Nat) u,(af (dW 4 xl nn (p1,p2,p3)))[i]? =some u→V7.cell? ⟨V.heap.size,i,none⟩=some u)∧
      Hid (Calls Tryz.prog 86 #[ak B,.agg (af (dW 4 xl nn (p1,p2,p3))).toArray] V7 fun e w8=>e=.returned (.tuple #[])∧aV BI w0 Y w B (dh (aL s2 r 1).1 (cB 4 r.line nn q.1)) w8)))):=by
 have hYl:=h.lt I;have hs1:=b1.size;have hln:xl=r.line:=hx.line;have hxy:¬Y w.heap.size:=fun e=>by have:=hYl _ e;omega
 have hxw:w.heap.size<W1.heap.size:=kx.lt;have hll:=eZ 0 (r.args.take 1) ([],[]);have hlt1:lnT (r.args.take 1)≤40000:=by
  have:=hl.args
  cases hr:r.args with
  | nil=>simp[lnT]
  | cons a l=>rw[hr]at this;simp[lnT]at this⊢;omega
 have hLe:∀z∈r.args.take 1,z.length≤2000:=fun z hz=>hl.each z (Rb hz)
 have hql:(dE 0 (r.args.take 1)).2.length≤80000:=by rw[jr];unfold dI;have:=hll.2;simp only[PQ]at this;omega
 obtain⟨q,hq⟩:∃q,dE 0 (r.args.take 1)=q:=⟨_,rfl⟩;obtain⟨s2,hs2⟩:∃s2,({s with b:=aK s.b [4],d:=s.d++aY r.line q.2}:Md)=s2:=⟨_,rfl⟩;obtain⟨kv,kg,kw,kb,kt,kd⟩:=gD s2 r 1;have hsf:Dy s r=dh (aL s2 r 1).1 (cB 4 r.line (aL s2 r 1).2 q.1):=by unfold Dy;rw[hq,hs2]
 have hs2b:s2.b=aK s.b [4]:=by rw[←hs2]
 have hs2d:s2.d.length≤490000:=by
  rw[←hs2];show(s.d++aY r.line q.2).length≤490000;rw[PL];have:(aY r.line q.2).length≤80000:=by rw[←hq];unfold aY;simpa using hql
  omega
 obtain⟨nn,hnn⟩:∃n,(aL s2 r 1).2=n:=⟨_,rfl⟩;rw[hnn]at hsf;rw[hq]at hb;refine⟨nn,q,s2,hsf,fun V m=>?_⟩;obtain⟨Y1,hM,hE,hY,hseq⟩:=m.seq;have hsE:=hE.size;have k1:Blk V w.heap.size 33 [.int .i64 xl,.string ⟨xm.toArray⟩,.slice va an vc,.string ⟨xt.toArray⟩]:=hE.blk kx hxy;have hxy1:¬Y1 w.heap.size:=fun e=>by rcases hY _ e with z | z;exact hxy z;omega
 have bA:=ae V (.cells #[.int .i64 4,.int .i64 xl,.int .i64 0,.slice none 0 0,.slice none 0 0,.slice none 0 0,.string ⟨#[]⟩,.slice none 0 0,.bool false,.bool false] 58);have hzA:(V.alloc (.cells #[.int .i64 4,.int .i64 xl,.int .i64 0,.slice none 0 0,.slice none 0 0,.slice none 0 0,.string ⟨#[]⟩,.slice none 0 0,.bool false,.bool false] 58)).heap.size=V.heap.size+1:=PS _ _;have kN:Blk (V.alloc (.cells #[.int .i64 4,.int .i64 xl,.int .i64 0,.slice none 0 0,.slice none 0 0,.slice none 0 0,.string ⟨#[]⟩,.slice none 0 0,.bool false,.bool false] 58)) V.heap.size 58 (af (dW 4 xl 0 aj)):=PK V _;obtain⟨V2,hV2⟩:∃V2,V.alloc (.cells #[.int .i64 4,.int .i64 xl,.int .i64 0,.slice none 0 0,.slice none 0 0,.slice none 0 0,.string ⟨#[]⟩,.slice none 0 0,.bool false,.bool false] 58)=V2:=⟨_,rfl⟩;rw[hV2]at bA kN hzA;have bD:Below V2.heap.size V2 V2.drew:=(PG _ _).drew;have bAD:=bA.trans (bD.mono (by omega));have hzD:V2.drew.heap.size=V2.heap.size:=rfl;have hY1l:=hM.lt I;have hw0:=hM.1.size;refine⟨k1.cell 0,V2,hV2,(k1.below bA).below bD,zH ?_⟩;refine(wF I hM bAD (Px _) (kN.below bD) xl (r.args.take 1) (.slice su sn sc) (fun V hV=>hsv.below hV) hlt1 hLe hD true).mono ?_;rintro e w' ⟨p,rfl,kN',Y',S,m1,m2,m3,m4,m5⟩;rw[hq]at m1 m4;have k4:=m2.blk ((k1.below bA).below bD) hxy1;have hne:w.heap.size≠V.heap.size:=by omega
 have hE5:Exc (fun k=>k=V.heap.size) w' (w'.setCell ⟨V.heap.size,3,none⟩ (pv p)):=(Exc.refl (fun k=>k=V.heap.size) w').set 3 _ (fun _=>rfl);have kN5:Blk (w'.setCell ⟨V.heap.size,3,none⟩ (pv p)) V.heap.size 58 (af (dW 4 xl 0 p)):=Blk.set (L:=af (dW 4 xl 0 aj)) kN' 3 (pv p);have k5:=hE5.blk k4 hne;have hNY:¬Y' V.heap.size:=fun e=>(m3 _ e).2 rfl
 have hM5:=m1.offQ2 I.k hE5 (fun k z=>⟨by rw[z];exact hw0,by rw[z];exact hNY⟩);have hs2':({s with b:=aK s.b [4],d:=s.d++aY xl q.2}:Md)=s2:=by rw[←hs2,hln]
 have hM5':MM (BIQ BI (fun k=>k=V.heap.size)) w0 Y' (w'.setCell ⟨V.heap.size,3,none⟩ (pv p)) B s2:=by rw[←hs2'];exact hM5
 refine⟨p.1,p.2.1,p.2.2,rfl,zH k4,⟨_,kN'.cell 3⟩,kN'.frozen (by simp[af]),_,rfl,zH k5,zH ?_⟩;have hst:=qm (I.k.q _) hM5' hEr (hx.below hM5.1) hl 1 (by decide) (by omega);rw[hnn]at hst;refine hst.mono ?_;rintro e w6 ⟨rfl,m6⟩;obtain⟨Y6,hM6,hE6,hY6,-⟩:=m6.seq;have hs5:=hE5.size;have hsw':=m2.size;have kN6:=hE6.blk kN5 hNY;have hNY6:¬Y6 V.heap.size:=fun e=>by rcases hY6 _ e with z | z;exact hNY z;have:=kN5.lt;omega
 have hE7:Exc (fun k=>k=V.heap.size) w6 (w6.setCell ⟨V.heap.size,2,none⟩ (.int .i64 nn)):=(Exc.refl (fun k=>k=V.heap.size) w6).set 2 _ (fun _=>rfl);have kN7:Blk (w6.setCell ⟨V.heap.size,2,none⟩ (.int .i64 nn)) V.heap.size 58 (af (dW 4 xl nn p)):=Blk.set (L:=af (dW 4 xl 0 p)) kN6 2 (.int .i64 nn);refine⟨rfl,⟨_,kN6.cell 2⟩,kN6.frozen (by simp[af]),_,rfl,fun i u hu=>by rw[kN7.cell i];exact hu,zH ?_⟩;have hE15:Exc Y1 V w':=(Exc.of (X:=Y1) bAD).trans m2 (fun _ _ z=>z);have hE16:Exc Y1 V w6:=((hE15.trans hE5 (fun k hk z=>by omega)).trans hE6 (fun k hk z=>((m3 k z).1.elim id (fun z2=>by omega))));have hS6:FsS S 2 aR w6 (pv p) q.1:=m4.keep (fun k z=>(hE6.block k (by have:=(m5 k z).2.1;omega) (m5 k z).2.2).trans (hE5.block k (m5 k z).2.1 (fun e=>by have:=(m5 k z).1;omega)));have hs6:=hE6.size;rw[hln];have kd2:(aL s2 r 1).1.d.length≤500000:=by omega
 have:=sJ I hT (s2:=(aL s2 r 1).1) (w:=V) (w1:=w6) (Y:=Y1) (Y':=Y6) (S:=S) (N:=V.heap.size) (k:=4) (ln:=r.line) (n:=nn) (g:=q.1) (p:=p) hE16 (fun k z=>⟨(hY6 k z).elim (fun z2=>(m3 k z2).1.imp id (fun z3=>by omega)) (fun z2=> .inr (by omega)),fun e=>hNY6 (by rw[←e];exact z)⟩) hM6 hw0 (Px _) hS6 (fun k z=>⟨by have:=(m5 k z).2.1;omega,fun e=>by rcases hY6 k e with z2 | z2;exact(m5 k z).2.2 z2;have:=(m5 k z).2.1;omega,fun e=>by have:=(m5 k z).1;omega⟩) (by rw[kb,hs2b];exact hb) kd2 hE7 (PG _ _);refine this.mono ?_;rintro e w8 ⟨rfl,mm⟩;exact⟨rfl,(hseq mm).pre b1⟩
theorem QUh {P:Prop}(h:P:=by
 simp only[zA,Act.put];refine wpAnyH_ready (rs:=[7]) (by kernel_rfl) (by simp) ?_;refine AllReadyH.cons rfl (fun K hK=>?_) AllReadyH.nil
 try simp only[zG]
 go_simp;refine hK.out _ _ ?_ (fun hHeld=>?_)
 ·exact hHeld
 clear hK K
 try simp only[zA,Act.put]
 refine wpAnyH_ready (rs:=[8]) (by kernel_rfl) (by simp) ?_;refine AllReadyH.cons rfl (fun K hK=>?_) AllReadyH.nil
 try simp only[zG]
 go_simp;refine hK.out _ _ ?_ (fun hHeld=>?_)
 ·exact hHeld
 clear hK K
 try simp only[zA,Act.put]
 refine wpAnyH_ready (rs:=[9]) (by kernel_rfl) (by simp) ?_;refine AllReadyH.cons rfl (fun K hK=>?_) AllReadyH.nil
 try simp only[zG]
 go_simp;refine hK.out _ _ ?_ (fun hHeld=>?_)
 ·exact hHeld
 clear hK K
 try simp only[zA,Act.put]
 refine wpAnyH_ready (rs:=[10]) (by kernel_rfl) (by simp) ?_;refine AllReadyH.cons rfl (fun K hK=>?_) AllReadyH.nil
 try simp only[zG]
 go_simp;go_at_call 85
 refine HWD.out.mono ?_;rintro e w4 ⟨p1,p2,p3,rfl,K4,⟨z,y2⟩,y3,V5,hV5,K5,HST⟩;go_wp2_with fail
 refine hK.out _ _ ?_ (fun hHeld=>?_)
 ·exact K4.out
 clear hK K
 try simp only[zA,Act.put]
 refine zK (i:=11) (v:= .pointer (some ⟨w2.heap.size,3,none⟩)) rfl ?_;simp only[zA,Act.put];refine wpAnyH_ready (rs:=[12]) (by kernel_rfl) (by simp) ?_;refine AllReadyH.cons rfl (fun K hK=>?_) AllReadyH.nil
 try simp only[zG]
 go_simp;refine hK.out _ _ ?_ (fun hHeld=>?_)
 ·exact K5.out
 clear hK K
 try simp only[zA,Act.put]
 refine Qd (by kernel_rfl) ?_ _;have k5:=K5.out;have q0:=k5.cell 0;have q1:=k5.cell 1;have q2:=k5.cell 2;have q3:=k5.cell 3;simp only[PD,PE]at q0 q1 q2 q3;clear k5 hV5 y2 y3 K4 HWD;go_wp2_with fail
 refine HST.out.mono ?_;rintro e w6 ⟨rfl,⟨z6,c6⟩,f6,V7,hV7,u3,HO⟩;have d0:=u3 0 _ rfl;have d1:=u3 1 _ rfl;have d2:=u3 2 _ rfl;have d3:=u3 3 _ rfl;have d4:=u3 4 _ rfl;have d5:=u3 5 _ rfl;have d6:=u3 6 _ rfl;have d7:=u3 7 _ rfl;have d8:=u3 8 _ rfl;have d9:=u3 9 _ rfl;clear u3 HST q0 q1 q2 q3;go_wp2_with fail
 refine HO.out.mono ?_;rintro e w8 ⟨rfl,m8⟩;have M8:=zH m8;clear m8;go_wp2_with fail
 go_end0;exact⟨rfl,M8.out⟩):P:=h
theorem GD (I:bu BI TB)(h:MM BI w0 Y w B s)(hT:TB w0)(hEr:Er w0){xl:Int}{xm xt:Txt}{vc:Nat}{r:aI}(hx:iO w0 (xl,xm,(none,0,vc),xt) r)(hl:fJ r)(hsv:Ss w0 (.slice none 0 vc) (r.args.take 1))(hbs:btl s.b≤30000)(hb:btl (aK s.b [4])+(dE 0 (r.args.take 1)).1.length+3≤30000)(hD:s.d.length≤400000):
  Calls Tryz.prog 54 #[ak B,.agg (ai (xl,xm,(none,0,vc),xt)).toArray] w (dK BI w0 Y w B (.tuple #[]) (Dy s r)):=by
 obtain⟨W1,hW1,b1,kx⟩:=aT (x:=(xl,xm,(none,0,vc),xt)) w;obtain⟨b,c0,HS⟩:=EE I h hT hbs b1;obtain⟨nn,q,s2,hsf,HW0⟩:=nY I h hT hEr hx hl hsv hb hD b1 kx;have HW:=zH HW0;clear HW0;rw[hsf];obtain⟨sf,hsf2⟩:∃sf,(dh (aL s2 r 1).1 (cB 4 r.line nn q.1))=sf:=⟨_,rfl⟩;rw[hsf2]at HW⊢;simp only[ai,bE,af,dW,pv,aj]at hW1 HW⊢;clear h hT hEr hx hl hb hbs hD b1 kx hsf hsf2 hsv;go_enter Tryz.func54,Tryz.ntmps54
 go_wp2_with fail
 clear hW1;refine HS.out.mono ?_;rintro e w2 ⟨rfl,m2⟩;obtain⟨k0,V2,hV2,K2',HWD⟩:=HW.out w2 m2;have K2:=zH K2';have HV2:=zH hV2;clear m2 HW HS c0 K2' hV2;go_upto_region 3 with fail
 rw[HV2.out];clear HV2 k0;refine wp_region_held_drew (S:=(fun V=>Blk V w.heap.size 33 [.int .i64 xl,.string ⟨xm.toArray⟩,.slice none 0 vc,.string ⟨xt.toArray⟩])) (by kernel_rfl) ?_ (fun hHeld=>?_)
 ·exact K2.out
 refine zK (i:=0) (v:= .pointer (some ⟨B,0,none⟩)) rfl ?_;simp only[zA,Act.put];refine zK (i:=1) (v:= .pointer (some ⟨w.heap.size,0,none⟩)) rfl ?_;simp only[zA,Act.put];refine Qv (i:=2) (v:= .int .i64 xl) rfl (by kernel_rfl) (by kernel_rfl) (by kernel_rfl) (fun _ _ _ h=>h) (Or.inl ⟨by rfl,fun w' hSw=>by(try dsimp only at hSw);have q0:=hSw.cell 0;have q1:=hSw.cell 1;have q2:=hSw.cell 2;have q3:=hSw.cell 3;simp only[PD,PE]at q0 q1 q2 q3;clear hSw;go_simp⟩) (by assumption) ?_;simp only[zA,Act.put];refine zK (i:=3) (v:= .pointer (some ⟨w.heap.size,2,none⟩)) rfl ?_;simp only[zA,Act.put];refine Qv (i:=4) (v:= .slice none 0 vc) rfl (by kernel_rfl) (by kernel_rfl) (by kernel_rfl) (fun _ _ _ h=>h) (Or.inl ⟨by rfl,fun w' hSw=>by(try dsimp only at hSw);have q0:=hSw.cell 0;have q1:=hSw.cell 1;have q2:=hSw.cell 2;have q3:=hSw.cell 3;simp only[PD,PE]at q0 q1 q2 q3;clear hSw;go_simp⟩) (by assumption) ?_;simp only[zA,Act.put];refine zK (i:=5) (v:= .pointer (some ⟨w.heap.size,2,none⟩)) rfl ?_;simp only[zA,Act.put];refine Qv (i:=6) (v:= .slice none 0 vc) rfl (by kernel_rfl) (by kernel_rfl) (by kernel_rfl) (fun _ _ _ h=>h) (Or.inl ⟨by rfl,fun w' hSw=>by(try dsimp only at hSw);have q0:=hSw.cell 0;have q1:=hSw.cell 1;have q2:=hSw.cell 2;have q3:=hSw.cell 3;simp only[PD,PE]at q0 q1 q2 q3;clear hSw;go_simp⟩) (by assumption) ?_;exact QUh
theorem Di (I:bu BI TB)(h:MM BI w0 Y w B s)(hT:TB w0)(hEr:Er w0){xl:Int}{xm xt:Txt}{ga:Addr}{vc:Nat}{r:aI}(hx:iO w0 (xl,xm,((some ga),0,vc),xt) r)(hl:fJ r)(hsv:Ss w0 (.slice (some ga) 0 vc) (r.args.take 1))(hbs:btl s.b≤30000)(hb:btl (aK s.b [4])+(dE 0 (r.args.take 1)).1.length+3≤30000)(hD:s.d.length≤400000):
  Calls Tryz.prog 54 #[ak B,.agg (ai (xl,xm,((some ga),0,vc),xt)).toArray] w (dK BI w0 Y w B (.tuple #[]) (Dy s r)):=by
 obtain⟨W1,hW1,b1,kx⟩:=aT (x:=(xl,xm,((some ga),0,vc),xt)) w;obtain⟨b,c0,HS⟩:=EE I h hT hbs b1;obtain⟨nn,q,s2,hsf,HW0⟩:=nY I h hT hEr hx hl hsv hb hD b1 kx;have HW:=zH HW0;clear HW0;rw[hsf];obtain⟨sf,hsf2⟩:∃sf,(dh (aL s2 r 1).1 (cB 4 r.line nn q.1))=sf:=⟨_,rfl⟩;rw[hsf2]at HW⊢;simp only[ai,bE,af,dW,pv,aj]at hW1 HW⊢;clear h hT hEr hx hl hb hbs hD b1 kx hsf hsf2 hsv;go_enter Tryz.func54,Tryz.ntmps54
 go_wp2_with fail
 clear hW1;refine HS.out.mono ?_;rintro e w2 ⟨rfl,m2⟩;obtain⟨k0,V2,hV2,K2',HWD⟩:=HW.out w2 m2;have K2:=zH K2';have HV2:=zH hV2;clear m2 HW HS c0 K2' hV2;go_upto_region 3 with fail
 rw[HV2.out];clear HV2 k0;refine wp_region_held_drew (S:=(fun V=>Blk V w.heap.size 33 [.int .i64 xl,.string ⟨xm.toArray⟩,.slice (some ga) 0 vc,.string ⟨xt.toArray⟩])) (by kernel_rfl) ?_ (fun hHeld=>?_)
 ·exact K2.out
 refine zK (i:=0) (v:= .pointer (some ⟨B,0,none⟩)) rfl ?_;simp only[zA,Act.put];refine zK (i:=1) (v:= .pointer (some ⟨w.heap.size,0,none⟩)) rfl ?_;simp only[zA,Act.put];refine Qv (i:=2) (v:= .int .i64 xl) rfl (by kernel_rfl) (by kernel_rfl) (by kernel_rfl) (fun _ _ _ h=>h) (Or.inl ⟨by rfl,fun w' hSw=>by(try dsimp only at hSw);have q0:=hSw.cell 0;have q1:=hSw.cell 1;have q2:=hSw.cell 2;have q3:=hSw.cell 3;simp only[PD,PE]at q0 q1 q2 q3;clear hSw;go_simp⟩) (by assumption) ?_;simp only[zA,Act.put];refine zK (i:=3) (v:= .pointer (some ⟨w.heap.size,2,none⟩)) rfl ?_;simp only[zA,Act.put];refine Qv (i:=4) (v:= .slice (some ga) 0 vc) rfl (by kernel_rfl) (by kernel_rfl) (by kernel_rfl) (fun _ _ _ h=>h) (Or.inl ⟨by rfl,fun w' hSw=>by(try dsimp only at hSw);have q0:=hSw.cell 0;have q1:=hSw.cell 1;have q2:=hSw.cell 2;have q3:=hSw.cell 3;simp only[PD,PE]at q0 q1 q2 q3;clear hSw;go_simp⟩) (by assumption) ?_;simp only[zA,Act.put];refine zK (i:=5) (v:= .pointer (some ⟨w.heap.size,2,none⟩)) rfl ?_;simp only[zA,Act.put];refine Qv (i:=6) (v:= .slice (some ga) 0 vc) rfl (by kernel_rfl) (by kernel_rfl) (by kernel_rfl) (fun _ _ _ h=>h) (Or.inl ⟨by rfl,fun w' hSw=>by(try dsimp only at hSw);have q0:=hSw.cell 0;have q1:=hSw.cell 1;have q2:=hSw.cell 2;have q3:=hSw.cell 3;simp only[PD,PE]at q0 q1 q2 q3;clear hSw;go_simp⟩) (by assumption) ?_;exact QUh
theorem GA (I:bu BI TB)(h:MM BI w0 Y w B s)(hT:TB w0)(hEr:Er w0){xl:Int}{xm xt:Txt}{ga go an vc:Nat}{r:aI}(hx:iO w0 (xl,xm,((some ⟨ga,go,none⟩),(an+1),vc),xt) r)(hl:fJ r)(hsv:Ss w0 (.slice (some ⟨ga,go,none⟩) 1 vc) (r.args.take 1))(hcap:an+1≤vc)(hbs:btl s.b≤30000)(hb:btl (aK s.b [4])+(dE 0 (r.args.take 1)).1.length+3≤30000)(hD:s.d.length≤400000):
  Calls Tryz.prog 54 #[ak B,.agg (ai (xl,xm,((some ⟨ga,go,none⟩),(an+1),vc),xt)).toArray] w (dK BI w0 Y w B (.tuple #[]) (Dy s r)):=by
 obtain⟨W1,hW1,b1,kx⟩:=aT (x:=(xl,xm,((some ⟨ga,go,none⟩),(an+1),vc),xt)) w;obtain⟨b,c0,HS⟩:=EE I h hT hbs b1;obtain⟨nn,q,s2,hsf,HW0⟩:=nY I h hT hEr hx hl hsv hb hD b1 kx;have HW:=zH HW0;clear HW0;rw[hsf];obtain⟨sf,hsf2⟩:∃sf,(dh (aL s2 r 1).1 (cB 4 r.line nn q.1))=sf:=⟨_,rfl⟩;rw[hsf2]at HW⊢;simp only[ai,bE,af,dW,pv,aj]at hW1 HW⊢;clear h hT hEr hx hl hb hbs hD b1 kx hsf hsf2 hsv;go_enter Tryz.func54,Tryz.ntmps54
 go_wp2_with fail
 clear hW1;refine HS.out.mono ?_;rintro e w2 ⟨rfl,m2⟩;obtain⟨k0,V2,hV2,K2',HWD⟩:=HW.out w2 m2;have K2:=zH K2';have HV2:=zH hV2;clear m2 HW HS c0 K2' hV2;go_upto_region 3 with fail
 rw[HV2.out];clear HV2 k0;refine wp_region_held_drew (S:=(fun V=>Blk V w.heap.size 33 [.int .i64 xl,.string ⟨xm.toArray⟩,.slice (some ⟨ga,go,none⟩) (an+1) vc,.string ⟨xt.toArray⟩])) (by kernel_rfl) ?_ (fun hHeld=>?_)
 ·exact K2.out
 refine zK (i:=0) (v:= .pointer (some ⟨B,0,none⟩)) rfl ?_;simp only[zA,Act.put];refine zK (i:=1) (v:= .pointer (some ⟨w.heap.size,0,none⟩)) rfl ?_;simp only[zA,Act.put];refine Qv (i:=2) (v:= .int .i64 xl) rfl (by kernel_rfl) (by kernel_rfl) (by kernel_rfl) (fun _ _ _ h=>h) (Or.inl ⟨by rfl,fun w' hSw=>by(try dsimp only at hSw);have q0:=hSw.cell 0;have q1:=hSw.cell 1;have q2:=hSw.cell 2;have q3:=hSw.cell 3;simp only[PD,PE]at q0 q1 q2 q3;clear hSw;go_simp⟩) (by assumption) ?_;simp only[zA,Act.put];refine zK (i:=3) (v:= .pointer (some ⟨w.heap.size,2,none⟩)) rfl ?_;simp only[zA,Act.put];refine Qv (i:=4) (v:= .slice (some ⟨ga,go,none⟩) (an+1) vc) rfl (by kernel_rfl) (by kernel_rfl) (by kernel_rfl) (fun _ _ _ h=>h) (Or.inl ⟨by rfl,fun w' hSw=>by(try dsimp only at hSw);have q0:=hSw.cell 0;have q1:=hSw.cell 1;have q2:=hSw.cell 2;have q3:=hSw.cell 3;simp only[PD,PE]at q0 q1 q2 q3;clear hSw;go_simp⟩) (by assumption) ?_;simp only[zA,Act.put];refine zK (i:=5) (v:= .pointer (some ⟨w.heap.size,2,none⟩)) rfl ?_;simp only[zA,Act.put];refine Qv (i:=6) (v:= .slice (some ⟨ga,go,none⟩) (an+1) vc) rfl (by kernel_rfl) (by kernel_rfl) (by kernel_rfl) (fun _ _ _ h=>h) (Or.inl ⟨by rfl,fun w' hSw=>by(try dsimp only at hSw);have q0:=hSw.cell 0;have q1:=hSw.cell 1;have q2:=hSw.cell 2;have q3:=hSw.cell 3;simp only[PD,PE]at q0 q1 q2 q3;clear hSw;go_simp⟩) (by assumption) ?_;simp only[zA,Act.put];refine wpAnyH_ready (rs:=[7]) (by kernel_rfl) (by simp) ?_;refine AllReadyH.cons rfl (fun K hK=>?_) AllReadyH.nil
 try simp only[zG]
 go_simp;refine hK.out _ _ ?_ (fun hHeld=>?_)
 ·exact hHeld
 clear hK K
 try simp only[zA,Act.put]
 refine wpAnyH_ready (rs:=[8]) (by kernel_rfl) (by simp) ?_;refine AllReadyH.cons rfl (fun K hK=>?_) AllReadyH.nil
 try simp only[zG]
 go_simp;rw[show min ((an:Int)+1) 1=1 by omega];have hvc1:(1:Int)≤(vc:Int):=by omega
 refine hK.out _ _ ?_ (fun hHeld=>?_)
 ·exact hHeld
 clear hK K
 try simp only[zA,Act.put]
 refine wpAnyH_ready (rs:=[9]) (by kernel_rfl) (by simp) ?_;refine AllReadyH.cons rfl (fun K hK=>?_) AllReadyH.nil
 try simp only[zG]
 go_simp;refine hK.out _ _ ?_ (fun hHeld=>?_)
 ·exact hHeld
 clear hK K
 try simp only[zA,Act.put]
 refine wpAnyH_ready (rs:=[10]) (by kernel_rfl) (by simp) ?_;refine AllReadyH.cons rfl (fun K hK=>?_) AllReadyH.nil
 try simp only[zG]
 go_simp;go_at_call 85
 refine HWD.out.mono ?_;rintro e w4 ⟨p1,p2,p3,rfl,K4,⟨z,y2⟩,y3,V5,hV5,K5,HST⟩;go_wp2_with fail
 refine hK.out _ _ ?_ (fun hHeld=>?_)
 ·exact K4.out
 clear hK K
 try simp only[zA,Act.put]
 refine zK (i:=11) (v:= .pointer (some ⟨w2.heap.size,3,none⟩)) rfl ?_;simp only[zA,Act.put];refine wpAnyH_ready (rs:=[12]) (by kernel_rfl) (by simp) ?_;refine AllReadyH.cons rfl (fun K hK=>?_) AllReadyH.nil
 try simp only[zG]
 go_simp;refine hK.out _ _ ?_ (fun hHeld=>?_)
 ·exact K5.out
 clear hK K
 try simp only[zA,Act.put]
 refine Qd (by kernel_rfl) ?_ _;have k5:=K5.out;have q0:=k5.cell 0;have q1:=k5.cell 1;have q2:=k5.cell 2;have q3:=k5.cell 3;simp only[PD,PE]at q0 q1 q2 q3;clear k5 hV5 y2 y3 K4 HWD;go_wp2_with fail
 refine HST.out.mono ?_;rintro e w6 ⟨rfl,⟨z6,c6⟩,f6,V7,hV7,u3,HO⟩;have d0:=u3 0 _ rfl;have d1:=u3 1 _ rfl;have d2:=u3 2 _ rfl;have d3:=u3 3 _ rfl;have d4:=u3 4 _ rfl;have d5:=u3 5 _ rfl;have d6:=u3 6 _ rfl;have d7:=u3 7 _ rfl;have d8:=u3 8 _ rfl;have d9:=u3 9 _ rfl;clear u3 HST q0 q1 q2 q3;go_wp2_with fail
 refine HO.out.mono ?_;rintro e w8 ⟨rfl,m8⟩;have M8:=zH m8;clear m8;go_wp2_with fail
 go_end0;exact⟨rfl,M8.out⟩
end
def Fa (v:Value):Option (DataW Value×List MemPlace):=some (.held v,[])
def qD (l:List (Txt×Value))(D:DataW Value):DataW Value:=l.foldl (fun D p=>D.put (.string p.1) (.held p.2)) D
def iw:List (Txt×Value)→Txt→Option Value
 | [],_=>none
 | p::l,b=>if p.1=b then some p.2 else iw l b
def ve:List Txt→Bool
 | []=>true
 | p::l=> !(l.contains p)&&ve l
theorem oC:∀{l:List (Txt×Value)} {b:Txt},iw l b=none↔b∉l.map Prod.fst
 | [],b=>by simp[iw]
 | p::l,b=>by
  have ih:=oC (l:=l) (b:=b);unfold iw
  by_cases h:p.1=b
  ·simp[h]
  ·rw[PO h,ih]
   simp only[Qo,Qn,not_or];exact⟨fun q=>⟨fun e=>h e.symm,q⟩,fun q=>q.2⟩
theorem xu:∀{l:List (Txt×Value)} {b:Txt} {v:Value},iw l b=some v→(b,v)∈l
 | [],b,v,h=>by simp[iw]at h
 | p::l,b,v,h=>by
  unfold iw at h
  by_cases hp:p.1=b
  ·rw[PZ hp]at h
   obtain rfl:=PT h;rw[←hp];exact QQ
  ·rw[PO hp]at h
   exact QM _ (xu h)
theorem Bq:∀(l:List (Txt×Value)) (D:DataW Value) (b:Txt),Maps.IsMap D→Maps.has (qD l D) (.string b)=(Maps.has D (.string b)|| (iw l b).isSome)
 | [],D,b,_=>by simp[qD,iw]
 | p::l,D,b,h=>by
  have ih:=Bq l (D.put (.string p.1) (.held p.2)) b (h.put _ _);have e:qD (p::l) D=qD l (D.put (.string p.1) (.held p.2)):=rfl;rw[e,ih]
  by_cases hp:p.1=b
  ·subst hp
   rw[Maps.has_put_same h (by trivial)];simp[iw]
  ·rw[Maps.has_put_other (fun h=>hp (by injection h with h;exact h.symm))]
   simp[iw,hp]
theorem Fh:∀(l:List (Txt×Value)) (D:DataW Value) (b:Txt) (z:DataW Value),Maps.IsMap D→ve (l.map Prod.fst)=true→(qD l D).atKey (.string b) z=match iw l b with
  | some r=> .held r
  | none=>D.atKey (.string b) z
 | [],D,b,z,_,_=>by simp[qD,iw]
 | p::l,D,b,z,h,hk=>by
  simp only[Qo,ve,Q7,Bool.not_eq_true']at hk;have ih:=Fh l (D.put (.string p.1) (.held p.2)) b z (h.put _ _) hk.2;have e:qD (p::l) D=qD l (D.put (.string p.1) (.held p.2)):=rfl;rw[e,ih]
  by_cases hp:p.1=b
  ·subst hp
   have h0:iw l p.1=none:=oC.2 (by have:=hk.1;simpa using this);rw[h0,Maps.atKey_put_same h (by trivial)];simp[iw]
  ·rw[Maps.atKey_put_other (fun h=>hp (by injection h with h;exact h.symm))]
   simp[iw,hp]
inductive wC where
 | ti | he (k:Int) (K:List Int)| pa | tg | it | nd | ou | be (k:Int)| en (k:Int)
def dL:List (Txt×wC):=[([84,72],.ti),([83,72],.he 1 [1,2,4,5]),([83,83],.he 2 [2,4,5]),([80,80],.pa),([80],.pa),([76,80],.pa),([84,80],.tg),([73,80],.it),([82,83],.nd),([82,69],.ou),([69,88],.be 6),([110,102],.be 6),([69,69],.en 6),([102,105],.en 6),([84,83],.be 7),([84,69],.en 7)]
def lQ (lo:Nat)(W:World)(B:Nat):wC→Value→Prop
 | .ti,v=>v=.func (.func 50) #[ak B] #[]
 | .pa,v=>v=.func (.func 52) #[ak B] #[]
 | .tg,v=>v=.func (.func 53) #[ak B] #[]
 | .it,v=>v=.func (.func 54) #[ak B] #[]
 | .nd,v=>v=.func (.func 55) #[ak B] #[]
 | .ou,v=>v=.func (.func 56) #[ak B] #[]
 | .he k K,v=> ∃F1 F2 F3 g,v=.func (.func 83) #[] #[ak F1,ak F3,ak F2]∧Blk W F1 74 [ak B]∧Blk W F2 3 [.int .i64 k]∧Blk W F3 144 [.slice (some ⟨g,0,none⟩) K.length K.length]∧Blk W g 3 (aA il K)∧lo<F1∧lo<F2∧lo<F3∧lo<g
 | .be k,v=> ∃F1 F2,v=.func (.func 89) #[] #[ak F1,ak F2]∧Blk W F1 74 [ak B]∧Blk W F2 3 [.int .i64 k]∧lo<F1∧lo<F2
 | .en k,v=> ∃F1 F2,v=.func (.func 90) #[] #[ak F1,ak F2]∧Blk W F1 74 [ak B]∧Blk W F2 3 [.int .i64 k]∧lo<F1∧lo<F2
theorem lQ.keep {lo:Nat}{W W':World}{B:Nat}{m:wC}{v:Value}(h:lQ lo W B m v)(hk:∀k,lo<k→k<W.heap.size→W'.heap[k]? =W.heap[k]?):lQ lo W' B m v:=by
 have kk:∀{F t L},Blk W F t L→lo<F→Blk W' F t L:=fun q q2=>(hk _ q2 q.lt).trans q
 cases m with
 | ti=>exact h
 | pa=>exact h
 | tg=>exact h
 | it=>exact h
 | nd=>exact h
 | ou=>exact h
 | he k K=>
  obtain⟨F1,F2,F3,g,h0,h1,h2,h3,h4,l1,l2,l3,l4⟩:=h;exact⟨F1,F2,F3,g,h0,kk h1 l1,kk h2 l2,kk h3 l3,kk h4 l4,l1,l2,l3,l4⟩
 | be k=>
  obtain⟨F1,F2,h0,h1,h2,l1,l2⟩:=h;exact⟨F1,F2,h0,kk h1 l1,kk h2 l2,l1,l2⟩
 | en k=>
  obtain⟨F1,F2,h0,h1,h2,l1,l2⟩:=h;exact⟨F1,F2,h0,kk h1 l1,kk h2 l2,l1,l2⟩
theorem pq (B:Nat)(k:Int)(ka:Option Addr)(kn kc:Nat)(w:World):
  Calls Tryz.prog 51 #[ak B,.int .i64 k,.slice ka kn kc] w fun e w'=> ∃F1 F2 F3,e=.returned (.func (.func 83) #[] #[ak F1,ak F3,ak F2])∧Blk w' F1 74 [ak B]∧Blk w' F2 3 [.int .i64 k]∧Blk w' F3 144 [.slice ka kn kc]∧w.heap.size≤F1∧w.heap.size≤F2∧w.heap.size≤F3∧Below w.heap.size w w':=by
 have hmf:∀(fn:Fn) (first cap:Array Value) (w:World),(Instr.makeFunc fn first cap).run Tryz.prog w=.ok (.func fn first cap) w:=fun _ _ _ _=>rfl
 obtain⟨W1,hW1⟩:∃W,w.alloc (.cells #[ak B] 74)=W:=⟨_,rfl⟩;obtain⟨W2,hW2⟩:∃W,W1.alloc (.cells #[.int .i64 k] 3)=W:=⟨_,rfl⟩;obtain⟨W3,hW3⟩:∃W,W2.alloc (.cells #[.slice ka kn kc] 144)=W:=⟨_,rfl⟩;have b1:Below w.heap.size w W1:=by rw[←hW1];exact ae w _
 have b2:Below W1.heap.size W1 W2:=by rw[←hW2];exact ae W1 _
 have b3:Below W2.heap.size W2 W3:=by rw[←hW3];exact ae W2 _
 have k1:Blk W1 w.heap.size 74 [ak B]:=by rw[←hW1];exact PK w _
 have k2:Blk W2 W1.heap.size 3 [.int .i64 k]:=by rw[←hW2];exact PK W1 _
 have k3:Blk W3 W2.heap.size 144 [.slice ka kn kc]:=by rw[←hW3];exact PK W2 _
 have s1:=b1.size;have s2:=b2.size;have HF:=zH (And.intro (And.intro ((k1.below b2).below b3) (And.intro (k2.below b3) (And.intro k3 (And.intro (Px w.heap.size) (And.intro s1 (PY s1 s2)))))) ((b1.trans (b2.mono s1)).trans (b3.mono (PY s1 s2))));clear b1 b2 b3 k1 k2 k3 s1 s2;go_enter Tryz.func51,Tryz.ntmps51
 go_wp2_with fail
 go_ret;obtain⟨⟨q1,q2,q3,q4,q5,q6⟩,q7⟩:=HF.out;exact⟨_,_,_,rfl,q1,q2,q3,q4,q5,q6,q7⟩
theorem kQ (B:Nat)(k:Int)(w:World):
  Calls Tryz.prog 57 #[ak B,.int .i64 k] w fun e w'=> ∃F1 F2,e=.returned (.func (.func 89) #[] #[ak F1,ak F2])∧Blk w' F1 74 [ak B]∧Blk w' F2 3 [.int .i64 k]∧w.heap.size≤F1∧w.heap.size≤F2∧Below w.heap.size w w':=by
 have hmf:∀(fn:Fn) (first cap:Array Value) (w:World),(Instr.makeFunc fn first cap).run Tryz.prog w=.ok (.func fn first cap) w:=fun _ _ _ _=>rfl
 obtain⟨W1,hW1⟩:∃W,w.alloc (.cells #[ak B] 74)=W:=⟨_,rfl⟩;obtain⟨W2,hW2⟩:∃W,W1.alloc (.cells #[.int .i64 k] 3)=W:=⟨_,rfl⟩;have b1:Below w.heap.size w W1:=by rw[←hW1];exact ae w _
 have b2:Below W1.heap.size W1 W2:=by rw[←hW2];exact ae W1 _
 have k1:Blk W1 w.heap.size 74 [ak B]:=by rw[←hW1];exact PK w _
 have k2:Blk W2 W1.heap.size 3 [.int .i64 k]:=by rw[←hW2];exact PK W1 _
 have s1:=b1.size;have HF:=zH (And.intro (And.intro (k1.below b2) (And.intro k2 (And.intro (Px w.heap.size) s1))) (b1.trans (b2.mono s1)));clear b1 b2 k1 k2 s1;go_enter Tryz.func57,Tryz.ntmps57
 go_wp2_with fail
 go_ret;obtain⟨⟨q1,q2,q3,q4⟩,q5⟩:=HF.out;exact⟨_,_,rfl,q1,q2,q3,q4,q5⟩
theorem nZ (B:Nat)(k:Int)(w:World):
  Calls Tryz.prog 58 #[ak B,.int .i64 k] w fun e w'=> ∃F1 F2,e=.returned (.func (.func 90) #[] #[ak F1,ak F2])∧Blk w' F1 74 [ak B]∧Blk w' F2 3 [.int .i64 k]∧w.heap.size≤F1∧w.heap.size≤F2∧Below w.heap.size w w':=by
 have hmf:∀(fn:Fn) (first cap:Array Value) (w:World),(Instr.makeFunc fn first cap).run Tryz.prog w=.ok (.func fn first cap) w:=fun _ _ _ _=>rfl
 obtain⟨W1,hW1⟩:∃W,w.alloc (.cells #[ak B] 74)=W:=⟨_,rfl⟩;obtain⟨W2,hW2⟩:∃W,W1.alloc (.cells #[.int .i64 k] 3)=W:=⟨_,rfl⟩;have b1:Below w.heap.size w W1:=by rw[←hW1];exact ae w _
 have b2:Below W1.heap.size W1 W2:=by rw[←hW2];exact ae W1 _
 have k1:Blk W1 w.heap.size 74 [ak B]:=by rw[←hW1];exact PK w _
 have k2:Blk W2 W1.heap.size 3 [.int .i64 k]:=by rw[←hW2];exact PK W1 _
 have s1:=b1.size;have HF:=zH (And.intro (And.intro (k1.below b2) (And.intro k2 (And.intro (Px w.heap.size) s1))) (b1.trans (b2.mono s1)));clear b1 b2 k1 k2 s1;go_enter Tryz.func58,Tryz.ntmps58
 go_wp2_with fail
 go_ret;obtain⟨⟨q1,q2,q3,q4⟩,q5⟩:=HF.out;exact⟨_,_,rfl,q1,q2,q3,q4,q5⟩
structure IA (w W:World)(B n:Nat)(L:List (Txt×Value)):Prop where
 own:W.ownsMap (H:=Value) Tryz.prog 9 Fa w.heap.size n (qD L (.map []))
 bel:Below w.heap.size w W
 names:L.map Prod.fst=(dL.take n).map Prod.fst
 ok:∀p∈L,∃m,(p.1,m)∈dL∧lQ w.heap.size W B m p.2
theorem oZ {W W':World}{M n:Nat}{D:DataW Value}(h:W.ownsMap (H:=Value) Tryz.prog 9 Fa M n D)(hb:W'.heap[M]? =W.heap[M]?):W'.ownsMap (H:=Value) Tryz.prog 9 Fa M n D:=by
 obtain⟨es,clock,hh,r⟩:=h;exact⟨es,clock,hb.trans hh,r⟩
theorem IA.below {w W W':World}{B n:Nat}{L:List (Txt×Value)}(h:IA w W B n L)(hb:Below W.heap.size W W'):IA w W' B n L:=
 ⟨oZ h.own (hb.block _ h.own.lt),h.bel.trans (hb.mono h.bel.size),h.names,fun p hp=>by
  obtain⟨m,h1,h2⟩:=h.ok p hp;exact⟨m,h1,h2.keep (fun k _ q=>hb.block k q)⟩⟩
theorem oH {w W:World}{B n:Nat}{L:List (Txt×Value)}{ops:Array Oper}{rest:List Oper}{o:Oper}{a:Act}{Q:Exit→Act→World→Prop}(h:IA w W B n L)(hg:o.guard=none){b:Txt}{m:wC}{j:Nat}
  (hop:o.op=Op.insert 80 (.tmp 3) (.const (.string ⟨b.toArray⟩)) (.tmp j)) (hn:dL[n]? =some (b,m)) (hb:b.length≤10) {v:Value} (hv:a.eval (.tmp j)=v) (hk:lQ w.heap.size W B m v) (hM:a.eval (.tmp 3)=.map (some w.heap.size))
  (hK:∀W',IA w W' B (n+1) (L++ [(b,v)])→wpList Tryz.prog ops Q rest (a.put o.dst undef) W'):wpList Tryz.prog ops Q (o::rest) a W:=by
 have hnl:n<16:=by
  apply QA;intro hc;have:dL[n]? =none:=RZ (by show 16≤n;omega);rw[this]at hn
  cases hn
 refine jq W hg _ _ _ 80 hop 9 _ (Maps.string_keyed Tryz.underlying9) Tryz.underlying80 _ w.heap.size n _ hM h.own (by unfold maxLen;omega) _ _ _ rfl hv (ER b hb) (.held v) [] rfl (fun W' ho hg=>hK W' ⟨?_,h.bel.grown hg h.bel.size (fun j e=>by cases e;exact Px _),?_,fun p hp=>?_⟩)
 ·have e:qD (L++ [(b,v)]) (.map [])=(qD L (.map [])).put (.string b) (.held v):=by unfold qD;rw[Rv];rfl
  rw[e];exact ho
 ·rw[Rn,h.names,Qw,hn]
  simp
 ·have kp:∀k,w.heap.size<k→k<W.heap.size→W'.heap[k]? =W.heap[k]? :=fun k q1 q2=>hg.block k q2 (fun e=>by
   injection e with e
   omega)
  rcases QR.1 hp with q | q
  ·obtain⟨m',h1,h2⟩:=h.ok p q
   exact⟨m',h1,h2.keep kp⟩
  ·rw[RH]at q
   subst q;exact⟨m,Qq hn,hk.keep kp⟩
def Mks (lo:Nat)(W:World)(B M:Nat):Prop:= ∃L,W.ownsMap (H:=Value) Tryz.prog 9 Fa M 16 (qD L (.map []))∧L.map Prod.fst=dL.map Prod.fst∧ ∀p∈L,∃m,(p.1,m)∈dL∧lQ lo W B m p.2
def O9 (B:Nat)(w:World)(e:Ending)(w':World):Prop:=e=.returned (.map (some w.heap.size))∧Mks w.heap.size w' B w.heap.size∧Below w.heap.size w w'
theorem E8 (W:World)(L:List Value)(t:TypeId){W':World}(hb:Below (W.alloc (.cells L.toArray t)).heap.size (W.alloc (.cells L.toArray t)) W'):Blk W' W.heap.size t L:=Blk.below (PK W _) hb
theorem Dn (B:Nat)(w:World):Calls Tryz.prog 25 #[ak B] w (O9 B w):=by
 have H0:IA w (w.alloc (.map #[] 0)) B 0 []:=⟨World.ownsMap_made _ _ _ _,(PG _ _).alloc (Px _) _,rfl,fun p hp=>by cases hp⟩;have hmm:= @run_makeMap Tryz.prog;have hmf:∀(fn:Fn) (first cap:Array Value) (w:World),(Instr.makeFunc fn first cap).run Tryz.prog w=.ok (.func fn first cap) w:=fun _ _ _ _=>rfl
 go_enter Tryz.func25,Tryz.ntmps25
 go_wp2_with (refine oH (by assumption) rfl rfl rfl (by decide) rfl (by first | exact rfl | assumption) rfl ?_;intro w1 h1)
 refine(pq B 1 _ 4 4 _).mono ?_;rintro e v0 ⟨F1,F2,F3,rfl,q1,q2,q3,q4,q5,q6,q7⟩;have hb:=ae w1 (.cells #[.int .i64 1,.int .i64 2,.int .i64 4,.int .i64 5] 3);have z:=h1.own.lt;have y:(w1.alloc (.cells #[.int .i64 1,.int .i64 2,.int .i64 4,.int .i64 5] 3)).heap.size=w1.heap.size+1:=PS _ _;have g0:=(h1.below hb).below q7;have hk0:lQ w.heap.size v0 B (.he 1 [1,2,4,5]) (.func (.func 83) #[] #[ak F1,ak F3,ak F2]):=⟨F1,F2,F3,w1.heap.size,rfl,q1,q2,q3,E8 w1 [.int .i64 1,.int .i64 2,.int .i64 4,.int .i64 5] _ q7,by omega,by omega,by omega,z⟩;clear h1 z q1 q2 q3 q4 q5 q6 q7 hb y;go_wp2_with (refine oH (by assumption) rfl rfl rfl (by decide) rfl (by first | exact rfl | assumption) rfl ?_;intro w1 h1)
 refine(pq B 2 _ 3 3 _).mono ?_;rintro e v1 ⟨F1,F2,F3,rfl,q1,q2,q3,q4,q5,q6,q7⟩;have hb:=ae w1 (.cells #[.int .i64 2,.int .i64 4,.int .i64 5] 3);have z:=h1.own.lt;have y:(w1.alloc (.cells #[.int .i64 2,.int .i64 4,.int .i64 5] 3)).heap.size=w1.heap.size+1:=PS _ _;have g1:=(h1.below hb).below q7;have hk1:lQ w.heap.size v1 B (.he 2 [2,4,5]) (.func (.func 83) #[] #[ak F1,ak F3,ak F2]):=⟨F1,F2,F3,w1.heap.size,rfl,q1,q2,q3,E8 w1 [.int .i64 2,.int .i64 4,.int .i64 5] _ q7,by omega,by omega,by omega,z⟩;clear h1 z q1 q2 q3 q4 q5 q6 q7 hb y;go_wp2_with (refine oH (by assumption) rfl rfl rfl (by decide) rfl (by first | exact rfl | assumption) rfl ?_;intro w1 h1)
 refine(kQ B 6 _).mono ?_;rintro e v2 ⟨F1,F2,rfl,q1,q2,q3,q4,q5⟩;have z:=h1.own.lt;have g2:=h1.below q5;have hk2:lQ w.heap.size v2 B (.be 6) (.func (.func 89) #[] #[ak F1,ak F2]):=⟨F1,F2,rfl,q1,q2,by omega,by omega⟩;clear h1 z q1 q2 q3 q4 q5;go_wp2_with (refine oH (by assumption) rfl rfl rfl (by decide) rfl (by first | exact rfl | assumption) rfl ?_;intro w1 h1)
 refine(kQ B 6 _).mono ?_;rintro e v3 ⟨F1,F2,rfl,q1,q2,q3,q4,q5⟩;have z:=h1.own.lt;have g3:=h1.below q5;have hk3:lQ w.heap.size v3 B (.be 6) (.func (.func 89) #[] #[ak F1,ak F2]):=⟨F1,F2,rfl,q1,q2,by omega,by omega⟩;clear h1 z q1 q2 q3 q4 q5;go_wp2_with (refine oH (by assumption) rfl rfl rfl (by decide) rfl (by first | exact rfl | assumption) rfl ?_;intro w1 h1)
 refine(nZ B 6 _).mono ?_;rintro e v4 ⟨F1,F2,rfl,q1,q2,q3,q4,q5⟩;have z:=h1.own.lt;have g4:=h1.below q5;have hk4:lQ w.heap.size v4 B (.en 6) (.func (.func 90) #[] #[ak F1,ak F2]):=⟨F1,F2,rfl,q1,q2,by omega,by omega⟩;clear h1 z q1 q2 q3 q4 q5;go_wp2_with (refine oH (by assumption) rfl rfl rfl (by decide) rfl (by first | exact rfl | assumption) rfl ?_;intro w1 h1)
 refine(nZ B 6 _).mono ?_;rintro e v5 ⟨F1,F2,rfl,q1,q2,q3,q4,q5⟩;have z:=h1.own.lt;have g5:=h1.below q5;have hk5:lQ w.heap.size v5 B (.en 6) (.func (.func 90) #[] #[ak F1,ak F2]):=⟨F1,F2,rfl,q1,q2,by omega,by omega⟩;clear h1 z q1 q2 q3 q4 q5;go_wp2_with (refine oH (by assumption) rfl rfl rfl (by decide) rfl (by first | exact rfl | assumption) rfl ?_;intro w1 h1)
 refine(kQ B 7 _).mono ?_;rintro e v6 ⟨F1,F2,rfl,q1,q2,q3,q4,q5⟩;have z:=h1.own.lt;have g6:=h1.below q5;have hk6:lQ w.heap.size v6 B (.be 7) (.func (.func 89) #[] #[ak F1,ak F2]):=⟨F1,F2,rfl,q1,q2,by omega,by omega⟩;clear h1 z q1 q2 q3 q4 q5;go_wp2_with (refine oH (by assumption) rfl rfl rfl (by decide) rfl (by first | exact rfl | assumption) rfl ?_;intro w1 h1)
 refine(nZ B 7 _).mono ?_;rintro e v7 ⟨F1,F2,rfl,q1,q2,q3,q4,q5⟩;have z:=h1.own.lt;have g7:=h1.below q5;have hk7:lQ w.heap.size v7 B (.en 7) (.func (.func 90) #[] #[ak F1,ak F2]):=⟨F1,F2,rfl,q1,q2,by omega,by omega⟩;clear h1 z q1 q2 q3 q4 q5;go_wp2_with (refine oH (by assumption) rfl rfl rfl (by decide) rfl (by first | exact rfl | assumption) rfl ?_;intro w1 h1)
 go_ret;exact⟨rfl,⟨_,h1.own,h1.names,h1.ok⟩,h1.bel⟩
def jE (b:Txt):Option wC:=(dL.find? (fun p=>p.1==b)).map Prod.snd
theorem JI {b:Txt}{m:wC}(h:(b,m)∈dL):jE b=some m:=by
 simp only[dL,Qn,Q9,Qs,Ri]at h;rcases h with⟨rfl,rfl⟩| ⟨rfl,rfl⟩| ⟨rfl,rfl⟩| ⟨rfl,rfl⟩| ⟨rfl,rfl⟩| ⟨rfl,rfl⟩| ⟨rfl,rfl⟩| ⟨rfl,rfl⟩| ⟨rfl,rfl⟩| ⟨rfl,rfl⟩| ⟨rfl,rfl⟩| ⟨rfl,rfl⟩| ⟨rfl,rfl⟩| ⟨rfl,rfl⟩| ⟨rfl,rfl⟩| ⟨rfl,rfl⟩
 all_goals rfl
theorem qw {b:Txt}(h:b∉dL.map Prod.fst):jE b=none:=by
 unfold jE;rw[Option.map_eq_none_iff,List.find?_eq_none];intro p hp e;exact h (Rm.2 ⟨p,hp,by simpa using e⟩)
theorem Iu:ve (dL.map Prod.fst)=true:=by decide+kernel
theorem Ns (w:World):(zeroValue 85).run Tryz.prog w=.ok .nilFunc w:=by kernel_rfl
theorem Ml {lo:Nat}{W:World}{B M:Nat}(h:Mks lo W B M){w:World}(hw:w.heap[M]? =W.heap[M]?)(b:Txt)(hb:b.length≤maxLen):
  (∃m v,jE b=some m∧lQ lo W B m v∧(Instr.lookup 80 (.map (some M)) (.string ⟨b.toArray⟩) true).run Tryz.prog w=.ok (.tuple #[v,.bool true]) w)∨
  (jE b=none∧ ∃v,(Instr.lookup 80 (.map (some M)) (.string ⟨b.toArray⟩) true).run Tryz.prog w=.ok (.tuple #[v,.bool false]) w):=by
 obtain⟨L,h1,h2,h3⟩:=h;have hkey:=WideMaps.keyOf_string_mk (P:=Tryz.prog) (k:=9) Tryz.underlying9 (s:=⟨b.toArray⟩) (by simpa[Go.Lib.size_eq] using hb);obtain⟨v,ps,hrun,hv⟩:=World.ownsMap.look_ok (oZ h1 hw) (Maps.string_keyed Tryz.underlying9) Tryz.underlying80 (Ns w) (zd:= .held .nilFunc) (zp:=[]) rfl hkey;have hap:ve (L.map Prod.fst)=true:=by rw[h2];exact Iu
 have h0:Maps.has (.map []:DataW Value) (.string (⟨b.toArray⟩:ByteArray).data.toList)=false:=rfl;rw[Fh _ _ _ _ Maps.isMap_empty hap]at hv;rw[Bq _ _ _ Maps.isMap_empty,h0,Bool.false_or]at hrun;simp only at hrun hv
 cases hl:iw L b with
 | none=>
  rw[hl]at hrun;exact .inr ⟨qw (by rw[←h2];exact oC.1 hl),v,hrun⟩
 | some u=>
  rw[hl]at hrun hv;have hvu:v=u:=by
   have h5:(DataW.held v:DataW Value)=.held u:=PR Prod.fst (PT hv);exact DataW.held.inj h5
  subst hvu;obtain⟨m,q1,q2⟩:=h3 _ (xu hl);exact .inl ⟨m,v,JI q1,q2,hrun⟩
def doS (I:mK)(s:Md)(r:aI):wC→Md
 | .ti=>Lr s r
 | .he k K=>uT I s r k K
 | .pa=>{s with b:=aK s.b [4] }
 | .tg=>FP I s r true
 | .it=>FP I s r false
 | .nd=>dh (aL s r 0).1 (cB 5 r.line (aL s r 0).2 [])
 | .ou=>if(dm s.b 5).2 then {s with b:=(dm s.b 5).1} else aD {s with b:=(dm s.b 5).1} 6 r.line
 | .be k=>jm s k r.line
 | .en k=>if kdM s=k then(match s.v with
  | some v=>endV s v
  | none=>match s.g with
   | some g=>endG I s g
   | none=>s) else aD s 6 r.line
theorem EU (I:mK){s:Md}(r:aI)(hv:s.v=none)(hg:s.g=none):Bc I s r=match jE r.mac with
  | none=>aD s 4 r.line
  | some m=>doS I s r m:=by
 have hk:kdM s=0:=by unfold kdM;rw[hv,hg]
 by_cases c:r.mac∈dL.map Prod.fst
 ·have e:∀{b:Txt},r.mac=b→jE r.mac=jE b:=fun q=>by rw[q]
  simp only[dL,Qo,QH,Qn,Qs,Ri]at c;unfold Bc;rcases c with q | q | q | q | q | q | q | q | q | q | q | q | q | q | q | q
  all_goals
   rw[q];simp[mTH,mSH,mSS,jE,dL,doS,Lr,jm,hk]
 ·rw[qw c]
  simp only[dL,Qo,QH,Qn,Qs,Ri,not_or]at c;obtain⟨c1,c2,c3,c4,c5,c6,c7,c8,c9,c10,c11,c12,c13,c14,c15,c16⟩:=c;unfold Bc mTH mSH mSS;simp[c1,c2,c3,c4,c5,c6,c7,c8,c9,c10,c11,c12,c13,c14,c15,c16]
theorem fe (s:Md):(upM s).b=s.b∧(upM s).v=s.v∧(upM s).g=s.g∧(upM s).w=none∧(upM s).th=s.th∧(upM s).d.length≤s.d.length+1:=by
 unfold upM
 cases h:s.w with
 | none=>exact⟨rfl,rfl,rfl,h,rfl,Rl _⟩
 | some m=>exact⟨rfl,rfl,rfl,rfl,rfl,by simp[aD]⟩
theorem G9 {r:aI}{q:List Gly×List (Int×Int)}(hq:fP r=some q)(hm:r.mac≠ [])(ha:r.args=[]):q.2=[]:=by
 unfold fP at hq;rw[PO hm]at hq;rw[ha]at hq
 split at hq
 ·obtain rfl:=PT hq;rfl
 ·split at hq
  ·obtain rfl:=PT hq;rfl
  ·cases hq
theorem LJ (s:Md)(r:aI)(hok:MOk s):iD I9 s r=
  if(lI s r).2 then(lI s r).1 else if rq s r.mac=false then aD s 13 r.line else match jE r.mac with
   | none=>aD (upM s) 4 r.line
   | some m=>doS I9 (upM s) r m:=by
 obtain⟨u1,u2,u3,u4,u5,u6⟩:=fe s;unfold iD lI rq
 cases hg:s.g with
 | some g=>
  have hv:s.v=none:=hok.vg.resolve_right (by rw[hg];simp);have hw:s.w=none:=hok.gw (by rw[hg];simp);have hup:upM s=s:=by unfold upM;rw[hw]
  have hk:kdM s=7:=by unfold kdM;rw[hv,hg]
  simp only[hv]
  by_cases hm:r.mac=[]
  ·simp[hm]
  ·by_cases ht:r.mac=[84,69]
   ·have:jE r.mac=some (.en 7):=by rw[ht];rfl
    simp[hm,ht,this,doS,hup,hk,hv,hg,jE,dL]
   ·simp[hm,ht]
 | none=>
  show(match fP r with | some q=>_ | none=>_)=_
  cases hi:fP r with
  | some q=>
   simp only[if_true];unfold DR
   by_cases hc:r.mac≠ []∧r.args=[]
   ·rw[PZ hc,PZ hc,G9 hi hc.1 hc.2]
    simp[aY,aD,hg]
   ·rw[PO hc,PO hc]
  | none=>
   simp only[Qf,Q8]
   cases hv:s.v with
   | some v=>
    have hw:s.w=none:=hok.vw (by rw[hv];simp);have hup:upM s=s:=by unfold upM;rw[hw]
    have hk:kdM s=6:=by unfold kdM;rw[hv]
    simp only
    by_cases hc:r.mac=[69,69]∨r.mac=[102,105]
    ·have hm:jE r.mac=some (.en 6):=by rcases hc with e | e<;>rw[e]<;>rfl
     rw[PZ hc,PO (by simp[hc]),hm];simp[doS,hup,hk,hv]
    ·rw[PO hc,PZ (by simpa using hc)]
   | none=>
    simp only[Bool.true_eq_false,Q8];exact EU I9 r (u2.trans hv) (u3.trans hg)
section
variable {BI:BIT}{TB:World→Prop}{w w0:World}{B:Nat}{s:Md}{Y Q:Nat→Prop}
theorem GG (I:bu BI TB)(h:MM BI w0 Y w B s)(hT:TB w0)(hEr:Er w0){x:RV}{r:aI}(hx:iO w0 x r)(hl:fJ r)(hbs:btl s.b≤30000)(hb:btl (aK s.b [4])+(dE 0 (r.args.take 1)).1.length+3≤30000)(hD:s.d.length≤400000):
  Calls Tryz.prog 54 #[ak B,.agg (ai x).toArray] w (dK BI w0 Y w B (.tuple #[]) (Dy s r)):=by
 obtain⟨xl,xm,⟨va,vn,vc⟩,xt⟩:=x;have hxa:=hx.args;simp only[bE]at hxa
 cases ha:r.args with
 | nil=>
  rw[ha]at hxa;obtain⟨a',c',e4⟩:=hxa.len;injection e4 with e1 e2 e3
  simp only[PQ]at e2;subst e1 e2 e3
  cases va with
  | none=>exact GD I h hT hEr hx hl (by rw[ha];exact hxa) hbs hb hD
  | some A=>exact Di I h hT hEr hx hl (by rw[ha];exact hxa) hbs hb hD
 | cons a l=>
  rw[ha]at hxa;obtain⟨a',c',e4,hc,hr⟩:=hxa;injection e4 with e1 e2 e3
  simp only[PI]at e2 hc;subst e1 e2 e3;obtain⟨g,off,rfl,h0⟩:=hr 0 a rfl;refine GA I h hT hEr hx hl ?_ hc hbs hb hD;rw[ha];refine⟨_,_,rfl,by simp;omega,fun j y hj=>?_⟩
  cases j with
  | zero=>
   obtain rfl:a=y:=by simpa using hj
   exact⟨g,off,rfl,h0⟩
  | succ j=>simp at hj
theorem Bp:∀K:List Int,aA il K=K.map (fun z=>Value.int .i64 z)
 | []=>rfl
 | a::l=>by rw[eO,Bp l];rfl
theorem oI (L:List Txt):(dE 0 L).1.length≤lnT L:=by rw[jr];unfold dI;have:=(eZ 0 L ([],[])).1;simpa using this
theorem wZ (L:List Txt):lnT (L.take 1)≤lnT L:=by
 cases L with
 | nil=>simp[lnT]
 | cons a l=>simp[lnT]
structure StepB (okl:Int→Prop)(s:Md)(r:aI):Prop where
 le:fJ r
 b:btl s.b+r.text.length+lnT r.args+20≤30000
 d:s.d.length≤390000
 rw:(rwM s).length≤500000
 tx:(txM s).length≤500000
 v:∀v0,s.v=some v0→btl s.b+(v0.2.length+lens v0.2)+10≤30000
 g:∀g0,s.g=some g0→okl g0.1∧lnT g0.2≤40000∧(∀x∈g0.2,x.length≤2000)∧btl s.b+((I9.tab g0.1 g0.2).1.cols.length+cZ (I9.tab g0.1 g0.2).1.rows)+10≤30000∧s.d.length+(I9.tab g0.1 g0.2).2.length≤800000
theorem StepB.up {okl:Int→Prop}{r:aI}(h:StepB okl s r):btl (upM s).b+r.text.length+lnT r.args+20≤30000∧(upM s).d.length≤400000:=by
 obtain⟨u1,u2,u3,u4,u5,u6⟩:=fe s;have:=h.b;have:=h.d;exact⟨by rw[u1];omega,by omega⟩
def Apt (lo:Nat)(W0 w:World)(Y:Nat→Prop):Prop:= ∀k,lo≤k→k<W0.heap.size→w.heap[k]? =W0.heap[k]? ∧ ¬Y k
theorem Apt.blk {lo:Nat}{W0:World}(h:Apt lo W0 w Y){F:Nat}{t:TypeId}{L:List Value}(hk:Blk W0 F t L)(hl:lo<F):Blk w F t L∧ ¬Y F:=⟨(h F (by omega) hk.lt).1.trans hk,(h F (by omega) hk.lt).2⟩
theorem Mj (I:bu BI TB)(h:MM BI w0 Y w B s)(hT:TB w0)(hEr:Er w0){okl:Int→Prop}(hTab:BZ TB I9.tab okl){x:RV}{r:aI}(hx:iO w0 x r)(hw:s.w=none)(hle:fJ r)(hb:btl s.b+r.text.length+lnT r.args+20≤30000)(hd:s.d.length≤400000)
  (hv:∀v0,s.v=some v0→btl s.b+(v0.2.length+lens v0.2)+10≤30000)
  (hg:∀g0,s.g=some g0→okl g0.1∧lnT g0.2≤40000∧(∀x∈g0.2,x.length≤2000)∧btl s.b+((I9.tab g0.1 g0.2).1.cols.length+cZ (I9.tab g0.1 g0.2).1.rows)+10≤30000∧s.d.length+(I9.tab g0.1 g0.2).2.length≤900000)
  {lo:Nat} {W0:World} (hA:Apt lo W0 w Y) {m:wC} {v:Value} (hm:lQ lo W0 B m v) (hblk:kdM s≠0→m=.en (kdM s)) (hbe:∀k,m=.be k→k=6∨k=7) (hok:MOk s) (hhe:∀k K,m=.he k K→K.length≤100) (hen:∀k,m=.en k→k≠0):
  ∃n first caps,v=.func (.func n) first caps∧Calls Tryz.prog n (first++ #[.agg (ai x).toArray]++caps) w (dK BI w0 Y w B (.tuple #[]) (doS I9 s r m)):=by
 have hln:=hx.line;have hkd:m≠ .en (kdM s)→s.v=none∧s.g=none:=fun hne=>by
  have h0:kdM s=0:=QA (fun q=>hne (hblk q));unfold kdM at h0
  cases hv:s.v with
  | some v=>rw[hv]at h0;simp at h0
  | none=>
   cases hg:s.g with
   | some g=>rw[hv,hg]at h0;simp at h0
   | none=>exact⟨rfl,rfl⟩
 cases m with
 | ti=>
  obtain rfl:=hm;refine⟨_,_,_,rfl,?_⟩;show Calls _ _ #[ak B,.agg (ai x).toArray] _ _;unfold doS Lr
  cases hth:s.th with
  | true=>rw[PZ rfl,←hln];exact Gu I h x hth (by omega)
  | false=>rw[PO (by simp)];exact Dc I h hT x hx hth
 | he k K=>
  obtain⟨F1,F2,F3,g,rfl,h1,h2,h3,h4,l1,l2,l3,l4⟩:=hm;obtain⟨k1,y1⟩:=hA.blk h1 l1;obtain⟨k2,y2⟩:=hA.blk h2 l2;obtain⟨k3,y3⟩:=hA.blk h3 l3;obtain⟨k4,y4⟩:=hA.blk h4 l4;obtain⟨e1,e2⟩:=hkd (by simp);have hkv:FsS (fun k=>k=g) 1 il w (.slice (some ⟨g,0,none⟩) K.length K.length) K:=by
   refine⟨⟨_,_,rfl,Px _,fun j z hj=>⟨g,0,rfl,fun i c hc=>?_⟩⟩,fun a k c e _=>?_⟩
   ·have hi:i=0:=by
     rcases i with _ | i
     ·rfl
     ·simp[il]at hc
    subst hi;have hc':c=.int .i64 z:=by simpa[il] using hc.symm
    subst hc';have:=k4.cell j;simp only[RB,Qr,Ra];rw[this];have hf:aA il K=K.map (fun z=>Value.int .i64 z):=Bp K;rw[hf,QL,hj];rfl
   ·injection e with e1
    injection e1 with e1
    subst e1;exact⟨rfl,fun _ i _=>by
     have hq:w.heap[g]? =_:=k4;simp only[World.frozen?,hq];simp⟩
  refine⟨_,_,_,rfl,?_⟩;show Calls _ _ #[.agg (ai x).toArray,ak F1,ak F3,ak F2] _ _;have hKl:K.length≤100:=hhe k K rfl;unfold doS uT;simp only
  by_cases ha:r.args=[]
  ·rw[PZ ha,←hln]
   exact JC I h hT e1 e2 hx ha k K _ F1 F2 F3 k1 k2 k3 hkv (fun j q=>by rw[q];exact⟨k4.lt,y4⟩) hKl y1 y2 y3 (by omega) hd
  ·rw[PO ha]
   have hb2:=jW s.b K;have hw1:=oI r.args;have hq:=GL I h hT hx hle ha k K _ F1 F2 F3 k1 k2 k3 hkv (fun j q=>by rw[q];exact⟨k4.lt,y4⟩) hKl y1 y2 y3 (by omega) (by omega) hd;rw[hln]at hq;exact hq
 | pa=>
  obtain rfl:=hm;exact⟨_,_,_,rfl,Gw I h hT x (by omega)⟩
 | tg=>
  obtain rfl:=hm;obtain⟨e1,e2⟩:=hkd (by simp);exact⟨_,_,_,rfl,AX I h hT hEr e1 e2 hx hle (by omega) hd⟩
 | it=>
  obtain rfl:=hm;refine⟨_,_,_,rfl,?_⟩;have hb2:=jW s.b [4];have hw1:=oI (r.args.take 1);have hw2:=wZ r.args;exact GG I h hT hEr hx hle (by omega) (by omega) hd
 | nd=>
  obtain rfl:=hm;exact⟨_,_,_,rfl,AZ I h hT hEr hx hle (by omega) hd⟩
 | ou=>
  obtain rfl:=hm;refine⟨_,_,_,rfl,?_⟩;unfold doS;rw[←hln];exact yL I h hT x (by omega) (by omega)
 | be k=>
  obtain⟨F1,F2,rfl,h1,h2,l1,l2⟩:=hm;obtain⟨k1,y1⟩:=hA.blk h1 l1;obtain⟨k2,y2⟩:=hA.blk h2 l2;obtain⟨e1,e2⟩:=hkd (by simp);refine⟨_,_,_,rfl,?_⟩;have e:doS I9 s r (.be k)=jm s k r.line:=rfl;rw[e,←hln];exact Bb I h hT e1 e2 hw x k (hbe k rfl) F1 F2 k1 k2 y1 y2 (by omega)
 | en k=>
  obtain⟨F1,F2,rfl,h1,h2,l1,l2⟩:=hm;obtain⟨k1,y1⟩:=hA.blk h1 l1;obtain⟨k2,y2⟩:=hA.blk h2 l2;refine⟨_,_,_,rfl,?_⟩;have e:doS I9 s r (.en k)=if kdM s=k then(match s.v with
   | some v=>endV s v
   | none=>match s.g with
    | some g=>endG I9 s g
    | none=>s) else aD s 6 r.line:=rfl
  rw[e]
  by_cases hk:kdM s=k
  ·rw[PZ hk]
   refine GM I h x k hk F1 F2 k1 k2 (fun V hV=>?_)
   cases hsv:s.v with
   | some v0=>exact wX I hV hT hsv (hv v0 hsv)
   | none=>
    cases hsg:s.g with
    | some g0=>
     obtain⟨p1,p2,p3,p4,p5⟩:=hg g0 hsg;exact wY I hV hT hTab hsg p1 p2 p3 p4 p5
    | none=>exact absurd (by rw[←hk];unfold kdM;rw[hsv,hsg]) (hen k rfl)
  ·rw[PO hk,←hln]
   exact JD I h x k hk F1 F2 k1 k2 (by omega)
end
abbrev lh:List Value:=[.string ⟨#[]⟩,.string ⟨#[]⟩,.string ⟨#[]⟩,.string ⟨#[]⟩,.slice none 0 0]
section
variable {BI:BIT}{TB:World→Prop}{w W0 W:World}{lo B P:Nat}{s:Md}{Y:Nat→Prop}
structure LpI (BI:BIT)(w W0:World)(lo B P:Nat)(Y:Nat→Prop)(W:World)(s:Md):Prop where
 mm:MM BI w Y W B s
 apt:Apt lo W0 W Y
 sz:W0.heap.size≤W.heap.size
 doc:Blk W P 38 lh
 ny:¬Y P
theorem LpI.below (I:eD BI)(h:LpI BI w W0 lo B P Y W s){W':World}(hb:Below W.heap.size W W'):LpI BI w W0 lo B P Y W' s:=
 ⟨h.mm.keep I hb,fun k a b=>⟨(hb.block k (by have:=h.sz;omega)).trans (h.apt k a b).1,(h.apt k a b).2⟩,PY h.sz hb.size,h.doc.below hb,h.ny⟩
theorem LpI.aft (I:eD BI)(h:LpI BI w W0 lo B P Y W s){W':World}{s':Md}(m:aV BI w Y W B s' W'):∃Y',LpI BI w W0 lo B P Y' W' s'∧ ∀F t L,Blk W F t L→ ¬Y F→Blk W' F t L∧ ¬Y' F:=by
 obtain⟨Y',h1,h2,h3⟩:=m;have hs:=h2.size;have hsz:=h.sz;have hk:∀F t L,Blk W F t L→ ¬Y F→Blk W' F t L∧ ¬Y' F:=fun F t L hb hy=>⟨h2.blk hb hy,fun e=>by rcases h3 F e with z | z;exact hy z;have:=hb.lt;omega⟩
 exact⟨Y',⟨h1,fun k a b=>⟨(h2.block k (by omega) (h.apt k a b).2).trans (h.apt k a b).1,fun e=>by rcases h3 k e with z | z;exact(h.apt k a b).2 z;omega⟩,by omega,(hk _ _ _ h.doc h.ny).1,(hk _ _ _ h.doc h.ny).2⟩,hk⟩
theorem MM.ok (h:MM BI w Y W B s):MOk s:=by obtain⟨-,-,X,R,lo,b,wv,rv,tv,dv,h3,-⟩:=h;exact h3.ok
theorem JM {s:Md}{r:aI}(h:(lI s r).2=false):(lI s r).1=s:=by
 unfold lI at h⊢
 cases hg:s.g with
 | some g=>
  rw[hg]at h;simp only at h⊢
  by_cases hm:r.mac=[]
  ·rw[PZ hm]at h;cases h
  ·rw[PO hm]
 | none=>
  rw[hg]at h;simp only at h⊢
  cases hi:fP r with
  | some q=>rw[hi]at h;cases h
  | none=>rfl
theorem ME {s:Md}{m:Txt}{k:wC}(h:rq s m=true)(hk:jE m=some k)(hn:kdM s≠0):k=.en (kdM s):=by
 unfold rq at h;unfold kdM at hn⊢
 cases hv:s.v with
 | some v=>
  rw[hv]at h;simp only at h⊢;rcases Rc h with e | e<;>(rw[e]at hk;exact(PT hk).symm)
 | none=>
  rw[hv]at h hn;simp only at h hn⊢
  cases hg:s.g with
  | some g=>
   rw[hg]at h;simp only at h⊢;rw[Rc h]at hk;exact(PT hk).symm
  | none=>rw[hg]at hn;exact absurd rfl hn
theorem uN {b:Txt}{m:wC}(h:jE b=some m):(∀k,m=.be k→k=6∨k=7)∧(∀k K,m=.he k K→K.length≤100)∧ ∀k,m=.en k→k≠0:=by
 have hm:∃b,(b,m)∈dL:=by
  unfold jE at h;rw[Option.map_eq_some_iff]at h;obtain⟨p,hp,rfl⟩:=h;exact⟨p.1,List.mem_of_find?_eq_some hp⟩
 obtain⟨b,hb⟩:=hm;simp only[dL,Qn,Q9,Qs,Ri]at hb;rcases hb with⟨-,rfl⟩| ⟨-,rfl⟩| ⟨-,rfl⟩| ⟨-,rfl⟩| ⟨-,rfl⟩| ⟨-,rfl⟩| ⟨-,rfl⟩| ⟨-,rfl⟩| ⟨-,rfl⟩| ⟨-,rfl⟩| ⟨-,rfl⟩| ⟨-,rfl⟩| ⟨-,rfl⟩| ⟨-,rfl⟩| ⟨-,rfl⟩| ⟨-,rfl⟩
 all_goals
  refine⟨fun k e=>?_,fun k K e=>?_,fun k e=>?_⟩
  all_goals first
   | (cases e;decide)
   | cases e
theorem JE (I:bu BI TB)(h:MM BI w Y W B s)(hT:TB w){okl:Int→Prop}(hTab:BZ TB I9.tab okl)(hd:s.d.length≤390000)
  (hv:∀v0,s.v=some v0→btl s.b+(v0.2.length+lens v0.2)+10≤30000)
  (hg:∀g0,s.g=some g0→okl g0.1∧lnT g0.2≤40000∧(∀x∈g0.2,x.length≤2000)∧btl s.b+((I9.tab g0.1 g0.2).1.cols.length+cZ (I9.tab g0.1 g0.2).1.rows)+10≤30000∧s.d.length+(I9.tab g0.1 g0.2).2.length≤400000):
  Calls Tryz.prog 30 #[ak B] W (dK BI w Y W B (.tuple #[]) (zh I9 s)):=by
 obtain⟨u1,u2,u3,u4,u5,u6⟩:=fe s;have hok:=h.ok;unfold zh oz wh
 cases hsv:s.v with
 | some v0=>
  have hgn:s.g=none:=hok.vg.resolve_left (by rw[hsv];simp);rw[u3,hgn];simp only;rw[u2,hsv];have hk:kdM (upM s)=6:=by unfold kdM;rw[u2,hsv]
  have hl:lnM (upM s)=v0.1:=by unfold lnM;rw[u2,hsv]
  refine JF I h rfl (by rw[hk];decide) (by omega) (by omega) (s3:=endV (aD (upM s) 7 v0.1) v0) (by simp[endV,aD];omega) (fun V Y1 hM=>?_);rw[hl]at hM;exact wX I hM hT (u2.trans hsv) (by have:=hv v0 hsv;simp only[aD,u1];exact this)
 | none=>
  cases hsg:s.g with
  | some g0=>
   rw[u3,hsg];simp only;have hvn:(endG I9 (aD (upM s) 7 g0.1) g0).v=none:=u2.trans hsv;rw[hvn];have hk:kdM (upM s)=7:=by unfold kdM;rw[u2,hsv,u3,hsg]
   have hl:lnM (upM s)=g0.1:=by unfold lnM;rw[u2,hsv,u3,hsg]
   obtain⟨p1,p2,p3,p4,p5⟩:=hg g0 hsg;refine JF I h rfl (by rw[hk];decide) (by omega) (by omega) (s3:=endG I9 (aD (upM s) 7 g0.1) g0) (by simp[endG,aD];omega) (fun V Y1 hM=>?_);rw[hl]at hM;exact wY I hM hT hTab (u3.trans hsg) p1 p2 p3 (by simp only[aD,u1];exact p4) (by simp[aD];omega)
  | none=>
   rw[u3,hsg];simp only;rw[u2,hsv];simp only;exact NS I h rfl (by unfold kdM;rw[u2,hsv,u3,hsg]) (by omega) (by omega)
end
section
variable {BI:BIT}{TB:World→Prop}{w W0 W:World}{lo B P:Nat}{s:Md}{Y:Nat→Prop}
def Eu (w:World)(s:Md)(e:Ending)(w':World):Prop:= ∃(p:PV) (d:Value),e=.returned (.tuple #[rP s.b.nm (pv p),d])∧NsS (fun k=>w.heap.size≤k∧k<w'.heap.size) w' (pv p) (wz s.b)∧Ds w' d s.d∧Below w.heap.size w w'
def row0:aI:=⟨0,[],[],[]⟩
theorem QUj {P:Prop}(h:P:=by
 obtain⟨F1,F2,rfl,-⟩:=hmk;have HDc:=HDc0 _ _ _ rfl;clear HDc0;go_wp2_with fail
 refine HDc.out.mono ?_;rintro e w8 ⟨rfl,HQ8⟩;clear HDc z0 z1 z2 z3 hrun;go_wp2_with fail
 go_roundw
 case rel=>exact⟨j+1,by omega,by go_num,zH (by rw[HNX.out];exact HQ8.out)⟩
 case measure=>(simp[intOf];try omega)):P:=h
theorem QUk {P:Prop}(h:P:=by
 obtain rfl:=hmk;have HDc:=HDc0 _ _ _ rfl;clear HDc0;go_wp2_with fail
 refine HDc.out.mono ?_;rintro e w8 ⟨rfl,HQ8⟩;clear HDc z0 z1 z2 z3 hrun;go_wp2_with fail
 go_roundw
 case rel=>exact⟨j+1,by omega,by go_num,zH (by rw[HNX.out];exact HQ8.out)⟩
 case measure=>(simp[intOf];try omega)):P:=h
theorem QUl {P:Prop}(h:P:=by
 go_wp2_with fail
 go_roundw
 case rel=>exact⟨j+1,by omega,by go_num,zH (by rw[HNX.out];exact HQ8.out)⟩
 case measure=>(simp[intOf];try omega)):P:=h
theorem Gj (I:bu BI TB)(hT:TB w)(hEr:Er w){okl:Int→Prop}(hTab:BZ TB I9.tab okl){xs:List RV}{rs:List aI}{va:Option Addr}{vc:Nat}(hv:Fs 4 ai w (.slice va xs.length vc) xs)(hlen:xs.length=rs.length)(hx:∀(i:Nat) (x:RV) (r:aI),xs[i]? =some x→rs[i]? =some r→iO w x r)
  (hS:∀(i:Nat) (r:aI),rs[i]? =some r→StepB okl (gp I9 (rs.take i)) r) (hn:rs.length≤100000) (hml:∀(i:Nat) (r:aI),rs[i]? =some r→r.mac.length≤100000) (hE:StepB okl (gp I9 rs) row0) (hE2:∀g0,(gp I9 rs).g=some g0→(gp I9 rs).d.length+(I9.tab g0.1 g0.2).2.length≤400000) (hEb:btl (di I9 rs).b≤30000):
  Calls Tryz.prog 10 #[.slice va xs.length vc] w (Eu w (di I9 rs)):=by
 obtain⟨W1,hW1⟩:∃W,w.alloc (.cells lh.toArray 38)=W:=⟨_,rfl⟩;have b1:Below w.heap.size w W1:=by rw[←hW1];exact ae w _
 have kd:Blk W1 w.heap.size 38 lh:=by rw[←hW1];exact PK w _
 have HN:=zH (I.new W1);have HK:=zH (show Below w.heap.size w W1∧Blk W1 w.heap.size 38 lh from⟨b1,kd⟩);have HS:=zH hS;have HX:=zH hx;have HV:=zH hv;have HML:=zH hml;obtain⟨n,hnl⟩:∃n,xs.length=n:=⟨_,rfl⟩;rw[hnl]at HV⊢;simp only[lh]at hW1;clear hv hx hS b1 kd hml;go_enter Tryz.func10,Tryz.ntmps10
 go_wp2_with fail
 go_step3
 go_wp2_with fail
 clear hW1;refine HN.out.mono ?_;rintro e w2 ⟨b,X,rfl,hBI,b2,hX⟩;have H2:=zH (show BI X (fun _=>False) w2 b bt0∧Below W1.heap.size W1 w2∧ ∀k,X k→W1.heap.size≤k from⟨hBI,b2,hX⟩);obtain⟨W3,hW3⟩:∃W,w2.alloc (.cells #[ak b,.bool false,.pointer none,.int .i64 0,.int .i64 0,.int .i64 0,.slice none 0 0,.slice none 0 0,.slice none 0 0,.string ⟨#[]⟩,.slice none 0 0,.bool false,.bool false,.slice none 0 0,.slice none 0 0] 79)=W:=⟨_,rfl⟩;obtain⟨B,hB⟩:∃B,w2.heap.size=B:=⟨_,rfl⟩;have HL0:Hid (∃Y,LpI BI w W3 W3.heap.size B w.heap.size Y W3 md0):=zH (by
  obtain⟨bW,kd⟩:=HK.out;have b3:Below w2.heap.size w2 W3:=by rw[←hW3];exact ae w2 _
  have hz3:W3.heap.size=w2.heap.size+1:=by rw[←hW3];exact PS _ _
  have kB:Blk W3 B 79 (mnC b false (.pointer none) 0 0 fM fM fM):=by rw[←hW3,←hB];exact PK w2 _
  have s1:=bW.size;have s2:=b2.size;have hXl:∀k,X k→k<w2.heap.size:=fun k q=>I.lt hBI k (.inl q)
  have b23:=b2.trans (b3.mono s2);have hP:w.heap.size<W1.heap.size:=kd.lt;refine⟨fun k=>X k∨(if k=B then 2 else 0)≠0,⟨⟨bW.trans (b23.mono s1),fun k q=>?_,X,fun _=>False,fun k=>if k=B then 2 else 0,b,.pointer none,fM,fM,fM,?_,fun k=>RJ⟩,fun k q1 q2=>by omega,Px _,kd.below b23,?_⟩⟩
  ·rcases q with q | q
   ·have:=hX k q;omega
   ·have:k=B:=QA (fun e=>q (PO e))
    omega
  ·refine⟨⟨.inl rfl,fun q=>absurd rfl q,fun q=>absurd rfl q⟩,fun k q=>?_,fun k q=>PO (fun e=>(by have:=hXl k q;omega)),fun k q=>q.elim,I.keep hBI (Kp.below b3 hXl) (fun k q=>q.elim) b3.size,PZ rfl,kB,ag.nil _ _,fun k e=>(by cases e),ag.nil _ _,fun k e=>(by cases e),⟨[],rfl,ag.nil _ _,fun i p r q=>(by simp at q)⟩,fun k e=>(by cases e),fun _=>rfl,fun _=>rfl,rfl⟩
   have:k=B:=QA (fun e=>q (PO e));omega
  ·rintro(q | q)
   ·have:=hX _ q;omega
   ·have:w.heap.size=B:=QA (fun e=>q (PO e))
    omega)
 have HMC:=zH (Dn B W3);have HB:=zH hB;have HW3:=zH hW3;clear hBI b2 hX HN hB HK hW3;go_upto_region 2 with fail
 rw[HW3.out,HB.out];clear HW3;go_wp2_with fail
 refine HMC.out.mono ?_;rintro e w4 ⟨rfl,hMk,b4⟩;have HMk:Hid (Mks W3.heap.size w4 B W3.heap.size):=zH hMk;have HLP:Hid (∃Y,LpI BI w w4 W3.heap.size B w.heap.size Y w4 (gp I9 (rs.take 0))):=zH (by
  obtain⟨Y,h⟩:=HL0.out;have hYl:=h.mm.lt I.k;exact⟨Y,h.mm.keep I.k b4,fun k q1 q2=>⟨rfl,fun e=>by have:=hYl k e;omega⟩,Px _,h.doc.below b4,h.ny⟩)
 obtain⟨M,hM⟩:∃M,W3.heap.size=M:=⟨_,rfl⟩;rw[hM]at HMk HLP;rw[hM];have hMlt:Hid (M<w4.heap.size):=zH (by
  obtain⟨L,hL,-⟩:=HMk.out;exact hL.lt)
 clear hMk b4 HL0 HMC hM;go_wp2_with fail
 go_step3
 go_wp2_with fail
 go_loopw [17] (fun i wr=> ∃j:Nat,j≤n∧i=.int .i64 (j:Int)∧Hid (∃Y,LpI BI w w4 M B w.heap.size Y wr (gp I9 (rs.take j)))) (fun i _=>n-(intOf i).toNat)
 case atStart=>exact⟨0,P6 _,rfl,HLP⟩
 case round=>
  obtain⟨j,hj,rfl,HL⟩:=hrel
  by_cases hlt:j<n
  ·have hjr:j<rs.length:=by omega
   obtain⟨r,hr⟩:∃r,rs[j]? =some r:=⟨rs[j],Pz hjr⟩;obtain⟨x,hxx⟩:∃x,xs[j]? =some x:=⟨xs[j],Pz (by omega)⟩;have hxr:=HX.out j x r hxx hr;have hsb:=HS.out j r hr;obtain⟨s,hs⟩:∃s,gp I9 (rs.take j)=s:=⟨_,rfl⟩;have hnx:gp I9 (rs.take (j+1))=iD I9 s r:=by
    rw[←hs,Qw,hr];unfold gp;rw[Rv];rfl
   rw[hs]at hsb;obtain⟨Y,hL⟩:=HL.out;rw[hs]at hL;have hok:=hL.mm.ok;rw[LJ s r hok]at hnx;have HNX:=zH hnx;obtain⟨a',c',e9,hc9,hr9⟩:=Fs.below HV.out hL.mm.1;injection e9 with e1 e2 e3
   subst e1 e3;obtain⟨b0,o0,rfl,hcc⟩:=hr9 j x hxx;obtain⟨rl,rm,ra,rt⟩:=r;obtain⟨xl,xm,⟨aa,an,ac⟩,xt⟩:=x;have q1:xl=rl:=hxr.line;have q2:xm=rm:=hxr.mac;have q3:xt=rt:=hxr.text;subst q1 q2 q3;obtain⟨Wb,hWb⟩:∃W,wr.alloc (.cells (ai (xl,xm,(aa,an,ac),xt)).toArray 33)=W:=⟨_,rfl⟩;have bb:Below wr.heap.size wr Wb:=by rw[←hWb];exact ae wr _
   have kx:Blk Wb wr.heap.size 33 (ai (xl,xm,(aa,an,ac),xt)):=by rw[←hWb];exact PK wr _
   have hLb:=hL.below I.k bb;have hyb:¬Y wr.heap.size:=fun e=>by have:=hL.mm.lt I.k _ e;omega
   have x0:=hcc 0 _ rfl;have x1:=hcc 1 _ rfl;have x2:=hcc 2 _ rfl;have x3:=hcc 3 _ rfl;have w0:=kx.cell 0;have w1:=kx.cell 1;have w2:=kx.cell 2;have w3:=kx.cell 3;have hML:=HML.out j _ hr;have hsbd:=hsb.d;have HSB:=zH hsb;have HXR:=zH hxr;have HLn:Hid (Calls Tryz.prog 26 #[ak B,.agg (ai (xl,xm,(aa,an,ac),xt)).toArray] Wb fun e w5=>e=.returned (.bool (lI s ⟨xl,xm,ra,xt⟩).2)∧Hid (∃Y',LpI BI w w4 M B w.heap.size Y' w5 (lI s ⟨xl,xm,ra,xt⟩).1∧Blk w5 wr.heap.size 33 (ai (xl,xm,(aa,an,ac),xt))∧ ¬Y' wr.heap.size)):=zH (by
    refine(Gz I hLb.mm hT hxr hsb.le (by have:=hsb.b;simp only at this⊢;omega) (by omega) hsb.rw hsb.tx).mono ?_;rintro e w5 ⟨rfl,m⟩;obtain⟨Y',hL5,hk5⟩:=hLb.aft I.k m;obtain⟨k5,n5⟩:=hk5 _ _ _ kx hyb;exact⟨rfl,zH ⟨Y',hL5,k5,n5⟩⟩)
   have hlt':(j:Int)<(n:Int):=by omega
   have hj0:(0:Int)≤(j:Int):=by omega
   simp only[ai,bE,PD,PE,Qr,←Nat.add_assoc]at x0 x1 x2 x3 w0 w1 w2 w3 hWb;clear hr9 hcc hc9 e2 hxx hr hnx hs hok bb kx hLb hyb hL HL hxr hsb
   cases hl2:(lI s ⟨xl,xm,ra,xt⟩).2 with
   | true=>
    rw[hl2,PZ rfl]at HNX;rw[hl2]at HLn;simp only[ai,bE]at HLn;clear hl2 HSB HXR;go_wp2_with fail
    refine HLn.out.mono ?_;rintro e w5 ⟨rfl,HQ⟩;clear HLn x0 x1 x2 x3 w0 w1 w2 w3 hWb;go_wp2_with fail
    go_roundw
    case rel=>exact⟨j+1,by omega,by go_num,zH (by rw[HNX.out];obtain⟨Y',h,-⟩:=HQ.out;exact⟨Y',h⟩)⟩
    case measure=>(simp[intOf];try omega)
   | false=>
    rw[hl2,PO (by simp)]at HNX;rw[hl2,JM hl2]at HLn;clear hl2;have HH:Hid (∀w5 Y',LpI BI w w4 M B w.heap.size Y' w5 s→Calls Tryz.prog 27 #[ak B,.string ⟨xm.toArray⟩] w5 fun e w'=>e=.returned (.bool (rq s xm))∧w5=w'):=zH (fun w5 Y' h=>GK I h.mm xm)
    cases hh:rq s xm with
    | false=>
     have HT13:Hid (∀w5 Y',LpI BI w w4 M B w.heap.size Y' w5 s→Calls Tryz.prog 28 #[ak B,.int .i64 13,.int .i64 xl] w5 fun e w6=>e=.returned (.tuple #[])∧Hid (∃Y'',LpI BI w w4 M B w.heap.size Y'' w6 (aD s 13 xl))):=zH (fun w5 Y' h=>by
      refine(dH I.k h.mm 13 xl (by omega)).mono ?_;rintro e w6 ⟨rfl,m⟩;obtain⟨Y2,h2,-⟩:=h.aft I.k m;exact⟨rfl,zH ⟨Y2,h2⟩⟩)
     rw[PZ hh]at HNX;rw[hh]at HH;simp only[ai,bE]at HLn;clear hh HSB HXR;go_wp2_with fail
     refine HLn.out.mono ?_;rintro e w5 ⟨rfl,HQ⟩;obtain⟨Y',hL5,k5,n5⟩:=HQ.out;have y0:=k5.cell 0;have y1:=k5.cell 1;have HHc:=zH (HH.out w5 Y' hL5);have HTc:=zH (HT13.out w5 Y' hL5);simp only[PD,PE]at y0 y1;clear HLn x0 x1 x2 x3 w0 w1 w2 w3 hWb HH HT13 HQ hL5 k5 n5;go_wp2_with fail
     refine HHc.out.mono ?_;rintro e w6 ⟨rfl,rfl⟩;clear HHc;go_wp2_with fail
     refine HTc.out.mono ?_;rintro e w7 ⟨rfl,HQ7⟩;clear HTc y0 y1;go_wp2_with fail
     go_roundw
     case rel=>exact⟨j+1,by omega,by go_num,zH (by rw[HNX.out];exact HQ7.out)⟩
     case measure=>(simp[intOf];try omega)
    | true=>
     rw[PO (by simp[hh])]at HNX;rw[hh]at HH;obtain⟨u1,u2,u3,u4,u5,u6⟩:=fe s;have HU:Hid (∀w5 Y',LpI BI w w4 M B w.heap.size Y' w5 s→Blk w5 wr.heap.size 33 (ai (xl,xm,(aa,an,ac),xt))→ ¬Y' wr.heap.size→Calls Tryz.prog 29 #[ak B] w5 fun e w6=>e=.returned (.tuple #[])∧Hid (∃Y'',LpI BI w w4 M B w.heap.size Y'' w6 (upM s)∧Blk w6 wr.heap.size 33 (ai (xl,xm,(aa,an,ac),xt))∧ ¬Y'' wr.heap.size)):=zH (fun w5 Y' h hk hny=>by
      refine(l9 I.k h.mm (by omega)).mono ?_;rintro e w6 ⟨rfl,m⟩;obtain⟨Y2,h2,hk2⟩:=h.aft I.k m;obtain⟨k6,n6⟩:=hk2 _ _ _ hk hny;exact⟨rfl,zH ⟨Y2,h2,k6,n6⟩⟩)
     have HLK:Hid (∀w6 Y',LpI BI w w4 M B w.heap.size Y' w6 (upM s)→(∃m v,jE xm=some m∧lQ M w4 B m v∧(Instr.lookup 80 (.map (some M)) (.string ⟨xm.toArray⟩) true).run Tryz.prog w6=.ok (.tuple #[v,.bool true]) w6)∨
  (jE xm=none∧ ∃v,(Instr.lookup 80 (.map (some M)) (.string ⟨xm.toArray⟩) true).run Tryz.prog w6=.ok (.tuple #[v,.bool false]) w6)):=zH (fun w6 Y' h=>Ml HMk.out (h.apt M (Px _) hMlt.out).1 xm (by unfold maxLen;simp only at hML;omega))
     have HHX:=zH hh;clear hh
     cases hk:jE xm with
     | none=>
      have HT4:Hid (∀w5 Y',LpI BI w w4 M B w.heap.size Y' w5 (upM s)→Calls Tryz.prog 28 #[ak B,.int .i64 4,.int .i64 xl] w5 fun e w6=>e=.returned (.tuple #[])∧Hid (∃Y'',LpI BI w w4 M B w.heap.size Y'' w6 (aD (upM s) 4 xl))):=zH (fun w5 Y' h=>by
       refine(dH I.k h.mm 4 xl (by omega)).mono ?_;rintro e w6 ⟨rfl,m⟩;obtain⟨Y2,h2,-⟩:=h.aft I.k m;exact⟨rfl,zH ⟨Y2,h2⟩⟩)
      rw[hk]at HNX HLK;simp only at HNX;simp only[ai,bE]at HLn;clear hk HSB HXR HHX u1 u2 u3 u4 u5 u6;go_wp2_with fail
      refine HLn.out.mono ?_;rintro e w5 ⟨rfl,HQ⟩;obtain⟨Y',hL5,k5,n5⟩:=HQ.out;have y1:=k5.cell 1;have HHc:=zH (HH.out w5 Y' hL5);have HUc:=zH (HU.out w5 Y' hL5 k5 n5);simp only[PD,PE]at y1;clear HLn x0 x1 x2 x3 w0 w1 w2 w3 hWb HH HQ hL5 k5 n5 HU;go_wp2_with fail
      refine HHc.out.mono ?_;rintro e w6 ⟨rfl,rfl⟩;clear HHc;go_wp2_with fail
      refine HUc.out.mono ?_;rintro e w7 ⟨rfl,HQ7⟩;obtain⟨Y7,hL7,k7,n7⟩:=HQ7.out;have z0:=k7.cell 0;have z1:=k7.cell 1;simp only[ai,PD,PE]at z0 z1;have HTc:=zH (HT4.out w7 Y7 hL7);rcases HLK.out w7 Y7 hL7 with⟨m,v,hm,-⟩| ⟨-,v,hrun⟩
      ·cases hm
      clear HUc y1 HT4 HLK HQ7 hL7 k7 n7;go_wp2_with fail
      refine HTc.out.mono ?_;rintro e w8 ⟨rfl,HQ8⟩;clear HTc z0 z1 hrun;exact QUl
     | some m=>
      have HDO:Hid (∀w6 Y' v,LpI BI w w4 M B w.heap.size Y' w6 (upM s)→lQ M w4 B m v→ ∀n first caps,v=.func (.func n) first caps→Hid (Calls Tryz.prog n (first++ #[.agg (ai (xl,xm,(aa,an,ac),xt)).toArray]++caps) w6 fun e w8=>e=.returned (.tuple #[])∧Hid (∃Y'',LpI BI w w4 M B w.heap.size Y'' w8 (doS I9 (upM s) ⟨xl,xm,ra,xt⟩ m)))):=zH (fun w6 Y' v h hm n9 first9 caps9 e9=>by
       obtain⟨p1,p2⟩:=HSB.out.up;have kk:kdM (upM s)=kdM s:=by unfold kdM;rw[u2,u3]
       obtain⟨m1,m2,m3⟩:=uN hk;obtain⟨n',first,caps,e,hd⟩:=Mj I h.mm hT hEr hTab HXR.out u4 HSB.out.le p1 p2 (fun v0 hv=>by rw[u1];exact HSB.out.v v0 (u2▸hv)) (fun g0 hg=>by
        obtain⟨a1,a2,a3,a4,a5⟩:=HSB.out.g g0 (u3▸hg);exact⟨a1,a2,a3,by rw[u1];exact a4,by omega⟩) h.apt hm (fun q=>by rw[kk]at q⊢;exact ME HHX.out hk q) m1 h.mm.ok m2 m3
       rw[e]at e9;injection e9 with e9 e10 e11
       injection e9 with e9
       subst e9 e10 e11;refine zH (hd.mono ?_);rintro e w8 ⟨rfl,m⟩;obtain⟨Y2,h2,-⟩:=h.aft I.k m;exact⟨rfl,zH ⟨Y2,h2⟩⟩)
      rw[hk]at HNX HLK;simp only at HNX;simp only[ai,bE]at HLn HDO;clear hk HSB HXR HHX u1 u2 u3 u4 u5 u6;go_wp2_with fail
      refine HLn.out.mono ?_;rintro e w5 ⟨rfl,HQ⟩;obtain⟨Y',hL5,k5,n5⟩:=HQ.out;have y1:=k5.cell 1;have HHc:=zH (HH.out w5 Y' hL5);have HUc:=zH (HU.out w5 Y' hL5 k5 n5);simp only[PD,PE]at y1;clear HLn x0 x1 x2 x3 w0 w1 w2 w3 hWb HH HQ hL5 k5 n5 HU;go_wp2_with fail
      refine HHc.out.mono ?_;rintro e w6 ⟨rfl,rfl⟩;clear HHc;go_wp2_with fail
      refine HUc.out.mono ?_;rintro e w7 ⟨rfl,HQ7⟩;obtain⟨Y7,hL7,k7,n7⟩:=HQ7.out;have z0:=k7.cell 0;have z1:=k7.cell 1;have z2:=k7.cell 2;have z3:=k7.cell 3;simp only[ai,bE,PD,PE]at z0 z1 z2 z3;rcases HLK.out w7 Y7 hL7 with⟨m9,v,hm,hmk,hrun⟩| ⟨hm,-⟩
      ·obtain rfl:=PT hm
       have HDc0:=HDO.out w7 Y7 v hL7 hmk;clear HUc y1 HDO HLK HQ7 hL7 k7 n7 hm
       cases m with
       | ti=>
        exact QUk
       | he kk K=>
        obtain⟨F1,F2,F3,F4,rfl,-⟩:=hmk;have HDc:=HDc0 _ _ _ rfl;clear HDc0;go_wp2_with fail
        refine HDc.out.mono ?_;rintro e w8 ⟨rfl,HQ8⟩;clear HDc z0 z1 z2 z3 hrun;exact QUl
       | pa=>
        exact QUk
       | tg=>
        exact QUk
       | it=>
        exact QUk
       | nd=>
        exact QUk
       | ou=>
        exact QUk
       | be kk=>
        exact QUj
       | en kk=>
        exact QUj
      ·cases hm
  ·have hjn:j=n:=by omega
   subst hjn;have HEN:=zH hE;have htk:rs.take j=rs:=QN (by omega);rw[htk]at HL;obtain⟨Y,hL⟩:=HL.out;obtain⟨s,hs⟩:∃s,gp I9 rs=s:=⟨_,rfl⟩;obtain⟨sf,hsf⟩:∃s,di I9 rs=s:=⟨_,rfl⟩;have hfin:zh I9 s=sf:=by rw[←hs];exact hsf
   rw[hs]at hL hE hE2;rw[hsf]at hEb⊢;have HME:Hid (Calls Tryz.prog 30 #[ak B] wr fun e w7=>e=.returned (.tuple #[])∧Hid (∃b da dc tq,(∀V:World,(∀k,k≠w.heap.size→k<w7.heap.size→V.heap[k]? =w7.heap[k]?)→V.cell? ⟨B,0,none⟩=some (ak b)∧V.cell? ⟨B,14,none⟩=some (.slice da sf.d.length dc))∧(∀V:World,(∀k,k≠w.heap.size→k<w7.heap.size→V.heap[k]? =w7.heap[k]?)→Ds V (.slice da sf.d.length dc) sf.d)∧Blk w7 w.heap.size 38 lh∧Below w.heap.size w w7∧tq=b∧ ∀V,Below w7.heap.size w7 V→Calls Tryz.prog 31 #[ak b] V fun e w8=> ∃p:PV,e=.returned (rP sf.b.nm (pv p))∧NsS (fun k=>V.heap.size≤k∧k<w8.heap.size) w8 (pv p) (wz sf.b)∧Below V.heap.size V w8)):=zH (by
    refine(JE I hL.mm hT hTab hE.d hE.v (fun g0 hg=>by
     obtain⟨a1,a2,a3,a4,a5⟩:=hE.g g0 hg;exact⟨a1,a2,a3,a4,hE2 g0 hg⟩)).mono ?_
    rintro e w7 ⟨rfl,m⟩;rw[hfin]at m;obtain⟨Y2,h2,-⟩:=hL.aft I.k m;obtain⟨g1,g2,X,R,lo,b,wv,rv,tv,dv,g3,g4⟩:=h2.mm;obtain⟨da,dc,rfl⟩:=g3.d_at;refine⟨rfl,zH ⟨b,da,dc,b,fun V hV=>by
     have hBP:B≠w.heap.size:=fun e=>h2.ny ((g4 _).2 (.inr (by rw[←e,g3.lb];decide)))
     have kB:Blk V B 79 _:=(hV B hBP g3.box.lt).trans g3.box;exact⟨kB.cell 0,kB.cell 14⟩,fun V hV=>ag.sl ax (g3.dg.kp (fun k e=>hV k (fun e2=>h2.ny ((g4 _).2 (.inr (by rw[←e2,g3.dgb k e];decide)))) (g3.dg.ltb e))),h2.doc,g1,rfl,fun V hV=>?_⟩⟩
    exact I.doc (I.keep g3.bi (Kp.below hV (fun k q=>I.lt g3.bi k (.inl q))) (Kp.below hV (fun k q=>I.lt g3.bi k (.inr q))) hV.size) (I.tb hT (g1.trans (hV.mono g1.size))) hEb)
   have hnlt:¬(j:Int)<(j:Int):=by omega
   have HSF:=zH hsf;clear hL HL hE hE2 hEb hs hsf hfin htk HS HX HV HEN hT hEr hTab hn HML hj hlt;go_wp2_with fail
   refine HME.out.mono ?_;rintro e w7 ⟨rfl,HQ⟩;obtain⟨b9,da,dc,-,hcell,hds,hdoc,hbw,-,hcall⟩:=HQ.out;obtain⟨W8,hW8⟩:∃W,w7.drew=W:=⟨_,rfl⟩;have hb8:Below w7.heap.size w7 W8:=by rw[←hW8];exact(PG _ w7).drew
   have HCe:=zH hcell;have HB8:=zH hb8;have HW8:=zH hW8;obtain⟨mm,hmm⟩:∃m,sf.d.length=m:=⟨_,rfl⟩;have HDC:Hid (Calls Tryz.prog 31 #[ak b9] W8 fun e w8=> ∃p1 p2 p3,e=.returned (.agg #[.string ⟨sf.b.nm.a.toArray⟩,.string ⟨sf.b.nm.b.toArray⟩,.string ⟨sf.b.nm.c.toArray⟩,.string ⟨sf.b.nm.d.toArray⟩,.slice p1 p2 p3])∧Hid (∀k,k≠w.heap.size→k<w7.heap.size→w8.heap[k]? =w7.heap[k]?)∧
     (∃q,w8.cell? ⟨w.heap.size,0,none⟩=some q)∧(∃q,w8.cell? ⟨w.heap.size,1,none⟩=some q)∧(∃q,w8.cell? ⟨w.heap.size,2,none⟩=some q)∧(∃q,w8.cell? ⟨w.heap.size,3,none⟩=some q)∧(∃q,w8.cell? ⟨w.heap.size,4,none⟩=some q)∧(w8.frozen? ⟨w.heap.size,0,none⟩=false∧w8.frozen? ⟨w.heap.size,1,none⟩=false∧w8.frozen? ⟨w.heap.size,2,none⟩=false∧w8.frozen? ⟨w.heap.size,3,none⟩=false∧w8.frozen? ⟨w.heap.size,4,none⟩=false)∧
     ∃W9,((((w8.setCell ⟨w.heap.size,0,none⟩ (.string ⟨sf.b.nm.a.toArray⟩)).setCell ⟨w.heap.size,1,none⟩ (.string ⟨sf.b.nm.b.toArray⟩)).setCell ⟨w.heap.size,2,none⟩ (.string ⟨sf.b.nm.c.toArray⟩)).setCell ⟨w.heap.size,3,none⟩ (.string ⟨sf.b.nm.d.toArray⟩)).setCell ⟨w.heap.size,4,none⟩ (.slice p1 p2 p3)=W9∧(∀(i:Nat) u,(rQ sf.b.nm (.slice p1 p2 p3))[i]? =some u→W9.cell? ⟨w.heap.size,i,none⟩=some u)∧Hid (Eu w sf (.returned (.tuple #[rP sf.b.nm (.slice p1 p2 p3),.slice da mm dc])) W9)∧Hid (∀k,k≠w.heap.size→k<w7.heap.size→W9.heap[k]? =w7.heap[k]?)):=zH (by
    refine(hcall W8 hb8).mono ?_;rintro e w8 ⟨p,rfl,q1,q2⟩;have s7:=hb8.size;have hb78:=hb8.trans (q2.mono s7);have k8:=hdoc.below hb78;obtain⟨W9,hW9⟩:∃W9,((((w8.setCell ⟨w.heap.size,0,none⟩ (.string ⟨sf.b.nm.a.toArray⟩)).setCell ⟨w.heap.size,1,none⟩ (.string ⟨sf.b.nm.b.toArray⟩)).setCell ⟨w.heap.size,2,none⟩ (.string ⟨sf.b.nm.c.toArray⟩)).setCell ⟨w.heap.size,3,none⟩ (.string ⟨sf.b.nm.d.toArray⟩)).setCell ⟨w.heap.size,4,none⟩ (.slice p.1 p.2.1 p.2.2)=W9:=⟨_,rfl⟩;have hE9:Exc (fun k=>k=w.heap.size) w8 W9:=by rw[←hW9];exact((((((Exc.refl (fun k=>k=w.heap.size) w8).set 0 _ (fun _=>rfl)).set 1 _ (fun _=>rfl)).set 2 _ (fun _=>rfl)).set 3 _ (fun _=>rfl)).set 4 _ (fun _=>rfl))
    have k9:Blk W9 w.heap.size 38 (rQ sf.b.nm (pv p)):=by rw[←hW9];exact(((((k8.set 0 (.string ⟨sf.b.nm.a.toArray⟩)).set 1 (.string ⟨sf.b.nm.b.toArray⟩)).set 2 (.string ⟨sf.b.nm.c.toArray⟩)).set 3 (.string ⟨sf.b.nm.d.toArray⟩)).set 4 (.slice p.1 p.2.1 p.2.2))
    have hpl:w.heap.size<w7.heap.size:=hdoc.lt;refine⟨p.1,p.2.1,p.2.2,rfl,zH (fun k _ z=>hb78.block k z),⟨_,k8.cell 0⟩,⟨_,k8.cell 1⟩,⟨_,k8.cell 2⟩,⟨_,k8.cell 3⟩,⟨_,k8.cell 4⟩,⟨k8.frozen (by simp[lh]),k8.frozen (by simp[lh]),k8.frozen (by simp[lh]),k8.frozen (by simp[lh]),k8.frozen (by simp[lh])⟩,W9,hW9,fun i u hu=>by rw[k9.cell i];exact hu,zH ?_,zH (fun k z1 z2=>(hE9.block k (by have:=hb78.size;omega) z1).trans (hb78.block k z2))⟩;have s8:=hbw.size;have s9:=hE9.size;have s10:=q2.size;refine⟨p,.slice da mm dc,rfl,?_,?_,?_⟩
    ·exact(q1.keep (fun k z=>hE9.block k z.2 (fun e=>by omega))).mono (fun k z=>⟨by omega,by omega⟩)
    ·have:=hds W9 (fun k z1 z2=>(hE9.block k (by have:=hb78.size;omega) z1).trans (hb78.block k z2))
     rw[hmm]at this;exact this
    ·exact(hbw.trans (hb78.mono s8)).trans (hE9.below (by omega) (fun k hk e=>by omega)))
   rw[hmm]at HCe;clear hcell hds hdoc hbw hcall hW8 hb8 HME HQ hmm;go_wp2_with fail
   refine wp_region_held_drew (S:=(fun V=>V.cell? ⟨B,0,none⟩=some (ak b9)∧V.cell? ⟨B,14,none⟩=some (.slice da mm dc))) (by kernel_rfl) ?_ (fun hHeld=>?_)
   ·exact(HCe.out _ (fun k _ z=>(PG _ w7).drew.block k z))
   rw[HW8.out]at hHeld⊢;refine zK (i:=0) (v:= .pointer (some ⟨B,0,none⟩)) rfl ?_;simp only[zA,Act.put];refine zK (i:=1) (v:= .pointer (some ⟨B,0,none⟩)) rfl ?_;simp only[zA,Act.put];refine zK (i:=2) (v:= .pointer (some ⟨B,0,none⟩)) rfl ?_;simp only[zA,Act.put];refine Qv (i:=3) (v:=ak b9) rfl (by kernel_rfl) (by kernel_rfl) (by kernel_rfl) (fun _ _ _ h=>h) (Or.inl ⟨by rfl,fun w' hSw=>by(try dsimp only at hSw);obtain⟨q1,q2⟩:=hSw;go_simp⟩) (by assumption) ?_;simp only[zA,Act.put];refine zK (i:=5) (v:= .pointer (some ⟨B,0,none⟩)) rfl ?_;simp only[zA,Act.put];refine zK (i:=6) (v:= .pointer (some ⟨B,0,none⟩)) rfl ?_;simp only[zA,Act.put];refine zK (i:=7) (v:= .pointer (some ⟨B,14,none⟩)) rfl ?_;simp only[zA,Act.put];refine Qv (i:=8) (v:= .slice da mm dc) rfl (by kernel_rfl) (by kernel_rfl) (by kernel_rfl) (fun _ _ _ h=>h) (Or.inl ⟨by rfl,fun w' hSw=>by(try dsimp only at hSw);obtain⟨q1,q2⟩:=hSw;go_simp⟩) (by assumption) ?_;simp only[zA,Act.put];refine wpAnyH_ready (rs:=[4]) (by kernel_rfl) (by simp) ?_;refine AllReadyH.cons rfl (fun K hK=>?_) AllReadyH.nil
   try simp only[zG]
   go_simp;go_at_call 31
   refine HDC.out.mono ?_;rintro e w8 ⟨p1,p2,p3,rfl,HB78,⟨q0,c0⟩,⟨q1,c1⟩,⟨q2,c2⟩,⟨q3,c3⟩,⟨q4,c4⟩,⟨f0,f1,f2,f3,f4⟩,W9,hW9,hcc,HFIN,HSZ⟩;go_wp2_with fail
   refine hK.out _ _ ?_ (fun hHeld=>?_)
   ·exact(HCe.out _ HB78.out)
   clear hK K
   try simp only[zA,Act.put]
   refine wpAnyH_ready (rs:=[9]) (by kernel_rfl) (by simp) ?_;refine AllReadyH.cons rfl (fun K hK=>?_) AllReadyH.nil
   try simp only[zG]
   go_simp;refine hK.out _ _ ?_ (fun hHeld=>?_)
   ·exact(HCe.out _ HSZ.out)
   clear hK K
   try simp only[zA,Act.put]
   have d0:=hcc 0 _ rfl;have d1:=hcc 1 _ rfl;have d2:=hcc 2 _ rfl;have d3:=hcc 3 _ rfl;have d4:=hcc 4 _ rfl;refine zK (i:=10) (v:= .slice da mm dc) rfl ?_;simp only[zA,Act.put];refine Qd (by kernel_rfl) ?_ _;go_wp2_with fail
   rw[HSF.out];rw[QJ];refine Qi (v:= .tuple #[.agg #[.string ⟨sf.b.nm.a.toArray⟩,.string ⟨sf.b.nm.b.toArray⟩,.string ⟨sf.b.nm.c.toArray⟩,.string ⟨sf.b.nm.d.toArray⟩,.slice p1 p2 p3],.slice da mm dc]) (by simp[results,Tryz.results10,go_sem,d0,d1,d2,d3,d4]) rfl ?_;exact HFIN.out
end
section
attribute [local go_sem] QX
attribute [local go_sem ↓ high] bg bK oO fq gM
def Ku (v:Value):Nat:=match v with
 | .slice _ n _=>n
 | _=>0
theorem MI (x c:Txt){b:Bool}(hb:decide (x=c)=b):∀W,(iE (.string ⟨x.toArray⟩) (.string ⟨c.toArray⟩)).run Tryz.prog W=.ok (.bool b) W:=fun W=>by rw[dC,hb]
theorem QUi {P:Prop}(h:P:=by
 have kk:(Builtin.append_ #[54,54] 54 #[.slice ra m rc,.slice (some ⟨A.heap.size,0,none⟩) 1 1]).run Tryz.prog (A.alloc (.cells #[.bool false,v1] 90)).drew=.ok (.slice ra' (m+1) rc') w2:=qJ kr;have k2':(A.alloc (.cells #[.bool false,v1] 90)).drew.cell? ⟨B,4,none⟩=some (.slice ra m rc):=((ae A _).cell (PX _ _ k2)).trans k2;have KR:=zH (And.intro k5 k6);clear kr k5 k6 hMd hrl hm;go_region_law ((refine bI rfl (.tmp 74) (.tmp 76) 54 54 rfl _ _ rfl rfl kk ?_))
 all_goals
  go_wp2_with fail
  go_end0;exact⟨_,rfl,KR.out.1,KR.out.2,hE.out⟩):P:=h
theorem Jf {w:World}{B:Nat}{line:Int}{a0:Option Addr}{c0:Nat}(L:List Txt)(s0:RS)(x:Txt)(W:World)(hRI:RI w B line (.slice a0 L.length c0) s0 W)(hS:Ss w (.slice a0 L.length c0) L)(hU:U8 w)(hL:∀x∈L,x.length≤2000)(hl:lnT L≤40000)(hn:L.length≤40000)(hx:x.length≤2000)
  (hk0:s0.k≤L.length) (hd0:s0.d.length≤200000) (hr0:s0.rows.length≤400000) (hc0:s0.cols.length≤1000):
  Calls Tryz.prog 131 #[.pointer (some ⟨B,0,none⟩),.string ⟨x.toArray⟩] W fun e W'=> ∃s,e=.returned (.tuple #[])∧RI w B line (.slice a0 L.length c0) s W'∧FrW W W'∧vN L line x s0 s:=by
 obtain⟨p1,hp1⟩:∃b,decide (x=[95])=b:=⟨_,rfl⟩;obtain⟨p2,hp2⟩:∃b,decide (x=[61])=b:=⟨_,rfl⟩;have e1:∀W,(iE (.string ⟨x.toArray⟩) (.string ⟨#[95]⟩)).run Tryz.prog W=.ok (.bool p1) W:=MI x [95] hp1;have e2:∀W,(iE (.string ⟨x.toArray⟩) (.string ⟨#[61]⟩)).run Tryz.prog W=.ok (.bool p2) W:=MI x [61] hp2
 by_cases hr:x=[95]∨x=[61]
 ·have hE:=vN.rule (line:=line) (x:=x) s0 hk0 hr
  have hp:p1=true∨(p1=false∧p2=true):=by
   rw[←hp1,←hp2]
   by_cases q:x=[95]
   ·exact .inl (by simp[q])
   ·exact .inr ⟨by simp[q],by rcases hr with h | h;exact absurd h q;simp[h]⟩
  obtain⟨a,c,a',c',w2,r1,r2,r3,r4,r5,r6⟩:=hRI.row (by omega) true (none,0,0) [] ⟨[],rfl,FsS.nil _ _ _ _,fun i s r h=>by simp at h⟩;have r2':(appW #[.slice a s0.rows.length c,.slice (some ⟨W.heap.size,0,none⟩) 1 1]).run Tryz.prog (W.alloc (.cells #[.bool true,.slice none 0 0] 90))=.ok (.value (.slice a' (s0.rows.length+1) c')) w2:=r2;have u1:(W.alloc (.cells #[.bool true,.slice none 0 0] 90)).cell? ⟨B,4,none⟩=some (.slice a s0.rows.length c):=((ae W _).cell (PX _ _ r1)).trans r1;have hRR:=zH (And.intro r5 (And.intro r6 hE));obtain⟨m,hm⟩:∃m,s0.rows.length=m:=⟨_,rfl⟩;rw[hm]at r1 r2' r3 hRR u1;clear hE r2 r5 r6 hRI hS hU hL hm hr hp1 hp2;rcases hp with rfl | ⟨rfl,rfl⟩
  all_goals
   go_enter Tryz.func131,Tryz.ntmps131
   go_wp2_with fail
   try go_region_with fail
   all_goals
    try go_wp2_with fail
   refine Qi (RP rfl _ _ _) rfl ?_;exact⟨_,rfl,hRR.out.1,hRR.out.2.1,hRR.out.2.2⟩
 ·have hp:p1=false∧p2=false:=by
   rw[←hp1,←hp2];exact⟨P8 (fun q=>hr (.inl q)),P8 (fun q=>hr (.inr q))⟩
  obtain⟨rfl,rfl⟩:=hp;have hn0:=hn;clear hn;obtain⟨first,hfi⟩:∃first,line+(s0.k:Int)-1=first:=⟨_,rfl⟩;have hWs:=hRI.bel.size;have A1:Hid (Calls Tryz.prog 159 #[.pointer (some ⟨B,0,none⟩)] W fun e w'=>e=.returned (.int .i64 (w6 first))∧Below W.heap.size W w'):=zH (by
   have h:=pY W hRI (by omega);rw[hfi]at h;exact h)
  have CU:Hid (∀V,Calls Tryz.prog 162 #[.string ⟨x.toArray⟩] V fun e V'=> ∃v,e=.returned v∧iN V.heap.size V' v (aU 9 x)∧Below V.heap.size V V'):=zH fun V=>BA x V (by omega)
  have HRI:=zH hRI;have HRK:Hid (RoK L line x s0 (cK lgF ((L.drop s0.k).length+1) (aU 9 x) (L.drop s0.k) (line+s0.k-1) [] s0.d) s0 (aU 9 x) []):=zH (RoK.start s0 hk0 hx);have HEND:Hid (∀s cs,RoK L line x s0 (cK lgF ((L.drop s0.k).length+1) (aU 9 x) (L.drop s0.k) (line+s0.k-1) [] s0.d) s [] cs→(¬s0.cols.length<cs.length→vN L line x s0 (s.row (false,cs)))∧(s0.cols.length<cs.length→vN L line x s0 (({s with d:=s.d++ [(11,first,0)] }:RS).row (false,cs)))):=zH fun s cs h=>by rw[←hfi];exact h.row hr
  obtain⟨T,hT⟩:∃T,cK lgF ((L.drop s0.k).length+1) (aU 9 x) (L.drop s0.k) (line+s0.k-1) [] s0.d=T:=⟨_,rfl⟩;rw[hT]at HRK HEND;have HDL:Hid (lnT (L.drop s0.k)≤lnT L):=zH (gF L s0.k);have HL:=zH hL;have HS:=zH hS;have HU:=zH hU;clear hRI hT hr hp1 hp2 hL hS hU;go_enter Tryz.func131,Tryz.ntmps131
  go_wp2_with (first
   | (go_at_call 159;refine A1.out.mono ?_;rintro e V1 ⟨rfl,b1⟩;have B1:=zH b1;clear b1)
   | (go_at_call 162;refine(CU.out _).mono ?_;rintro e V2 ⟨v,rfl,o2,b2⟩;have O2:=zH o2;have B2:=zH b2;clear o2 b2))
  have HM0:Hid (RwM w W B V1.heap.size line (.slice a0 L.length c0) s0 [] V2):=zH (by
   have bU:=ae V1 (.cells #[.bool false,.slice none 0 0] 90);have b3:=B1.out.trans ((bU.trans (B2.out.mono bU.size)).mono B1.out.size);exact⟨HRI.out.keep b3,FrR.below b3,⟨_,Blk.below (L:=[_,_]) (PK V1 (.cells #[.bool false,.slice none 0 0] 90)) B2.out,eY.nil _ _⟩,⟨s0,HRI.out,rfl⟩,B1.out.size⟩)
  obtain⟨C,hC⟩:∃C,V1.heap.size=C:=⟨_,rfl⟩;have HST0:Hid (StS V2 v (aU 9 x)):=zH (StS.own O2.out);rw[hC]at HM0⊢;go_loopw [6,7,8] (fun cl _ _ wr=> ∃s ps cs a c,cl=.slice a ps.length c∧Hid (StS wr (.slice a ps.length c) ps)∧Hid (RwM w W B C line (.slice a0 L.length c0) s cs wr)∧Hid (RoK L line x s0 T s ps cs)) (fun cl _ _ wr=>(L.length-rdK B wr)*100000+Ku cl)
  case atStart=>
   have h:=HST0.out;obtain⟨a,c,e⟩:=h.1.len;rw[e]at h;exact⟨s0,aU 9 x,[],a,c,e,zH h,HM0,HRK⟩
  case round=>
   obtain⟨s,ps,cs,a,c,rfl,hst,hM,hK⟩:=hrel;clear HM0 HST0 HRK A1 CU O2 B2 B1;have hdl:=hK.out.dl;have htl:=hK.out.tl;have hkl:=hK.out.kl;have hdL:=HDL.out;have hps:=iJ ps
   cases ps with
   | nil=>
    have hrw:s.rows.length=s0.rows.length:=by rw[hK.out.same.rows]
    have hcl:s.cols=s0.cols:=hK.out.same.cols;have HEN:=zH (HEND.out s cs hK.out);obtain⟨vb,t1,t2⟩:=hM.out.box;obtain⟨ta,tc,rfl⟩:=t2.len;have c1:wr.cell? ⟨C,1,none⟩=some (.slice ta cs.length tc):=t1.cell 1;obtain⟨vr,vd,hb,-,-⟩:=hM.out.ri.val;have c3:wr.cell? ⟨B,3,none⟩=some (.string ⟨s0.cols.toArray⟩):=by rw[←hcl];exact hb.cell 3
    have hsz:=az s0.cols;have T1:Hid (∀V,Below wr.heap.size wr V→Calls Tryz.prog 158 #[.pointer (some ⟨B,0,none⟩),.int .i64 11,.int .i64 (w6 first)] V fun e V'=>e=.returned (.tuple #[])∧RwM w W B C line (.slice a0 L.length c0) ({s with d:=s.d++ [(11,first,0)] }:RS) cs V'):=zH fun V hV=>by
     refine(jN V (hM.out.ri.keep hV) 11 first (by omega)).mono ?_;rintro e V' ⟨rfl,r1,f1⟩;exact⟨rfl,(hM.out.keep hV).go r1 f1⟩
    have HK9:Hid (∀V,Below wr.heap.size wr V→RwM w W B C line (.slice a0 L.length c0) s cs V):=zH fun V hV=>hM.out.keep hV
    have hB:=zH (fun m=>below_drewN (PG wr.heap.size wr) m);have hrl:s.rows.length≤500000:=by omega
    clear hb t1 t2 hK hst hM hcl hrw
    by_cases hnc:s0.cols.length<cs.length
    ·have hnc':(s0.cols.length:Int)<(cs.length:Int):=by omega
     have hE:=zH (HEN.out.2 hnc);clear HEN;go_wp2_with fail
     go_quiet (fail)
     go_wp2_with (go_at_call 158;refine(T1.out _ (hB.out _)).mono ?_;rintro e A ⟨rfl,rm⟩;have RM:=zH rm;clear rm)
     clear T1 HK9 c1 c3;have hMd:=RM.out.keep (PG A.heap.size A).drew;obtain⟨v1,ra,rc,ra',rc',w2,k0,k1,k2,kr,k3,k4,k5,k6⟩:=hMd.row hrl;obtain⟨m,hm⟩:∃m,s.rows.length=m:=⟨_,rfl⟩;rw[show(({s with d:=s.d++ [(11,first,0)] }:RS).rows.length)=m from hm]at k2 kr k3 k5 k6;exact QUi
    ·have hnc':¬(s0.cols.length:Int)<(cs.length:Int):=by omega
     have hE:=zH (HEN.out.1 hnc);clear HEN;go_wp2_with fail
     go_quiet (fail)
     go_wp2_with fail
     have RM:=zH (HK9.out _ (hB.out nq));obtain⟨A,hA⟩:∃A,wr.drewN nq=A:=⟨_,rfl⟩;rw[hA]at RM⊢;clear T1 HK9 c1 c3 hA hB;have hMd:=RM.out.keep (PG A.heap.size A).drew;obtain⟨v1,ra,rc,ra',rc',w2,k0,k1,k2,kr,k3,k4,k5,k6⟩:=hMd.row hrl;obtain⟨m,hm⟩:∃m,s.rows.length=m:=⟨_,rfl⟩;rw[hm]at k2 kr k3 k5 k6;exact QUi
   | cons p ps=>
    obtain⟨g,off,rfl,hx0⟩:=Ss.at (j:=0) (x:=p) hst.out.1 rfl;rw[Qr]at hx0;have hpl:p.length≤2000:=hK.out.pl p (QQ ..);have hpn:(0:Int)<(((p::ps).length:Nat):Int):=by simp only[PI];omega
    have hrk:=ul hM.out.ri;rw[aQ]at hdl htl;simp only[PI]at hps;have hcs:cs.length≤500000:=by omega
    obtain⟨n,hn⟩:∃n,cs.length=n:=⟨_,rfl⟩
    by_cases hp:p=tbW
    ·have e3:∀W,(iE (.string ⟨p.toArray⟩) (.string ⟨#[84,123]⟩)).run Tryz.prog W=.ok (.bool true) W:=MI p [84,123] (Qz hp)
     have HB:Hid (∀V,Below wr.heap.size wr V→Calls Tryz.prog 163 #[.pointer (some ⟨B,0,none⟩)] V fun e V'=> ∃xa xn xc ba bn bc ta tc a' c' w',e=.returned (.tuple #[.slice xa xn xc,.slice ba bn bc])∧
       V'.cell? ⟨C,1,none⟩=some (.slice ta n tc)∧(V'.alloc (.cells #[.slice xa xn xc] 26)).cell? ⟨C,1,none⟩=some (.slice ta n tc)∧(mJ #[.slice ta n tc,.slice (some ⟨V'.heap.size,0,none⟩) 1 1]).run Tryz.prog (V'.alloc (.cells #[.slice xa xn xc] 26))=.ok (.value (.slice a' (n+1) c')) w'∧w'.cell? ⟨C,1,none⟩=some (.slice ta n tc)∧w'.frozen? ⟨C,1,none⟩=false∧
       ∃s' bh g',bh.length=bn∧Hid (StS (w'.setCell ⟨C,1,none⟩ (.slice a' (n+1) c')) (.slice ba bh.length bc) bh)∧Hid (RwM w W B C line (.slice a0 L.length c0) s' (cs++ [g']) (w'.setCell ⟨C,1,none⟩ (.slice a' (n+1) c')))∧Hid (RoK L line x s0 T s' bh (cs++ [g']))∧
        (L.length-rdK B (w'.setCell ⟨C,1,none⟩ (.slice a' (n+1) c')))*100000+bn<(L.length-rdK B wr)*100000+(ps.length+1)):=zH fun V hV=>by
      refine(Em L s V (hM.out.ri.keep hV) HS.out HU.out HL.out hl hn0 hkl (by omega)).mono ?_;rintro e V' ⟨xv,ba,bc,s',g',bh,rfl,r1,f1,gl,st,hbp⟩;have hm1:=(hM.out.keep hV).go r1 f1 (by obtain⟨-,-,-,q,-⟩:=hbp;exact q.rows);have gl1:GlF W.heap.size V' xv g':=FsS.mono gl (fun b q=>⟨PY (PY hM.out.fr.size hV.size) q.1,q.2⟩);obtain⟨xa,xc,rfl⟩:=gl1.1.len;obtain⟨ta,tc,a',c',w',r0,r2,r3,r4,r5,r6⟩:=hm1.push hcs (xa,g'.length,xc) g' gl1;have hk':RoK L line x s0 T s' bh (cs++ [g']):=by
       have q:=hK.out;rw[hp]at q;exact q.blk hbp HL.out
      rw[hn]at r0 r2 r3 r5 r6;refine⟨xa,_,xc,ba,_,bc,ta,tc,a',c',w',rfl,r0,((ae V' _).cell (PX _ _ r0)).trans r0,r2,r3,r4,s',bh,g',rfl,zH (st.sam r6),zH r5,zH hk',?_⟩;rw[ul r5.ri,hrk];have j1:=hk'.tl;have j2:=iJ bh;obtain⟨z1,z2,-,-,-,z3⟩:=hbp;rcases z3 with⟨-,z4,-,-⟩| ⟨-,-,-,-,-,z4⟩
      ·rw[z4]
       simp only[PQ];have:L.length-s'.k≤L.length-s.k:=by omega
       have:=R9 100000 this;omega
      ·have h5:L.length-s'.k+1≤L.length-s.k:=by omega
       have:=R9 100000 h5;rw[Nat.add_mul]at this;omega
     clear hst hM hK hrk HEND HS HU HL hp;go_wp2_with (go_at_call 163;refine(HB.out _ (PG _ _)).mono ?_;rintro e V' ⟨xa,xn,xc,ba,bn,bc,ta,tc,a',c',w',rfl,u0,u1,kk,u2,u3,s',bh,g',hbn,hst',hM',hK',hms⟩)
     go_roundw
     case rel=>exact⟨s',bh,_,ba,bc,by rw[hbn],hst',hM',hK'⟩
     case measure=>simp only[Ku,PI];exact hms
    ·have e3:∀W,(iE (.string ⟨p.toArray⟩) (.string ⟨#[84,123]⟩)).run Tryz.prog W=.ok (.bool false) W:=MI p [84,123] (P8 hp)
     obtain⟨sa,sc,ksl,hst1⟩:=hst.out.tail (by simp);simp only[List.tail_cons,PI]at ksl hst1;have HG:Hid (∀V,Below wr.heap.size wr V→Calls Tryz.prog 164 #[.pointer (some ⟨B,0,none⟩),.string ⟨p.toArray⟩] V fun e V'=> ∃xa xn xc ta tc a' c' w',e=.returned (.slice xa xn xc)∧
       V'.cell? ⟨C,1,none⟩=some (.slice ta n tc)∧(V'.alloc (.cells #[.slice xa xn xc] 26)).cell? ⟨C,1,none⟩=some (.slice ta n tc)∧(mJ #[.slice ta n tc,.slice (some ⟨V'.heap.size,0,none⟩) 1 1]).run Tryz.prog (V'.alloc (.cells #[.slice xa xn xc] 26))=.ok (.value (.slice a' (n+1) c')) w'∧w'.cell? ⟨C,1,none⟩=some (.slice ta n tc)∧w'.frozen? ⟨C,1,none⟩=false∧
       ∃s' g',Hid (StS (w'.setCell ⟨C,1,none⟩ (.slice a' (n+1) c')) (.slice sa ps.length sc) ps)∧Hid (RwM w W B C line (.slice a0 L.length c0) s' (cs++ [g']) (w'.setCell ⟨C,1,none⟩ (.slice a' (n+1) c')))∧Hid (RoK L line x s0 T s' ps (cs++ [g']))∧
        (L.length-rdK B (w'.setCell ⟨C,1,none⟩ (.slice a' (n+1) c')))*100000+ps.length<(L.length-rdK B wr)*100000+(ps.length+1)):=zH fun V hV=>by
      refine(uW p V (hM.out.ri.keep hV) hpl (by omega) (by omega)).mono ?_;rintro e V' ⟨xv,rfl,o1,r1,f1⟩;have hm1:=(hM.out.keep hV).go r1 f1;have gl1:GlF W.heap.size V' xv (lgF p).1:=GlF.own o1 (PY hM.out.fr.size hV.size);obtain⟨xa,xc,rfl⟩:=gl1.1.len;obtain⟨ta,tc,a',c',w',r0,r2,r3,r4,r5,r6⟩:=hm1.push hcs (xa,(lgF p).1.length,xc) _ gl1;rw[hn]at r0 r2 r3 r5 r6;refine⟨xa,_,xc,ta,tc,a',c',w',rfl,r0,((ae V' _).cell (PX _ _ r0)).trans r0,r2,r3,r4,_,_,zH (((hst1.fr (FrR.below hV)).fr f1).sam r6),zH r5,zH (hK.out.gly hp),?_⟩;rw[ul r5.ri,hrk];exact Nat.lt_succ_self _
     clear hst hM hK hrk HEND HS HU HL hst1;go_wp2_with fail
     go_region_with (go_at_call 164;refine(HG.out _ (PG wr.heap.size wr).drew).mono ?_;rintro e V' ⟨xa,xn,xc,ta,tc,a',c',w',rfl,u0,u1,kk,u2,u3,s',g',hst',hM',hK',hms⟩)
     all_goals
      go_wp2_with fail
      go_roundw
      case rel=>exact⟨s',ps,_,sa,sc,rfl,hst',hM',hK'⟩
      case measure=>simp only[Ku,PI];exact hms
end
end Go.Proofs.YtebabjnngdjceaaGreatDoor
