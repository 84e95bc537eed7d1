/- A reader's macros: tags, indents. A reader's macros: items, indents. A reader's macros: items. A reader's macros in a map. A reader's macros: the map of them. A row's step, as the reader takes it; what is found among the macros. A macro's function, called. Rows are read as a document: what holds ahe -/
import Derived.Test.YtebabjnngdjceaaGreatDoorYg
import Derived.Test.YtebabjnngdjceaaGreatDoorY6
import Derived.Test.YtebabjnngdjceaaGreatDoorZ0
import Derived.Test.YtebabjnngdjceaaGreatDoorJA
set_option linter.unusedVariables false
set_option linter.unusedSimpArgs false
set_option maxRecDepth 100000
set_option maxHeartbeats 8000000
namespace Go.Proofs.YtebabjnngdjceaaGreatDoor
open Go.RowKit
theorem fB (s:Md) (r:bu) (k:Nat):(aT s r k).1.v=s.v∧(aT s r k).1.g=s.g∧(aT s r k).1.w=s.w∧(aT s r k).1.b=s.b∧(aT s r k).1.th=s.th∧(aT s r k).1.d.length≤s.d.length+1:=by
 unfold aT
 split
 ·exact⟨rfl,rfl,rfl,rfl,rfl,QV _⟩
 ·split
  ·exact⟨rfl,rfl,rfl,rfl,rfl,QV _⟩
  ·exact⟨rfl,rfl,rfl,rfl,rfl,by simp[aK]⟩
section
variable {BI:BIT} {TB:World→Prop} {w w0:World} {B:Nat} {s:Md} {Y Q:Nat→Prop}
theorem Dy (I:bI BI TB) (h:MM BI w0 Y w B s) (hT:TB w0) (hb:btl s.b≤30000) {W1:World} (b1:Below w.heap.size w W1): ∃b,W1.cell? ⟨B,0,none⟩=some (ax b)∧Hid (Calls Tryz.prog 84 #[ax b,.slice (some ⟨W1.heap.size,0,none⟩) 1 1] (W1.alloc (.cells #[.int .i64 4] 3)) fun e w'=>e= .returned (.tuple #[])∧bB BI w0 Y W1 B {s with b:=aP s.b [4] } w'):=by
 have hM1:=h.keep I b1;have hYl:=h.lt I;obtain⟨b,hcb,hSH⟩:=hM1.shut I hT [4] (by decide) hb;have bl:=af W1 (.cells #[.int .i64 4] 3);exact⟨b,hcb W1 (OX _ _),zH (hSH (W1.alloc (.cells #[.int .i64 4] 3)) (.slice (some ⟨W1.heap.size,0,none⟩) 1 1) (fun k=>k=W1.heap.size) bl (D9 W1 [4] 3) (fun k q=>⟨by simp[q],fun e=>by have:=hYl k e;have:=b1.size;omega⟩))⟩
theorem zX (I:bI BI TB) (h:MM BI w0 Y w B s) (hT:TB w0) (hEr:Er w0) (hv:s.v=none) (hg:s.g=none) {x:RV} {r:bu} (hx:iB w0 x r) (hl:gT r) (hb:btl s.b≤30000) (hD:s.d.length≤400000):
  Calls Tryz.prog 53 #[ax B,.agg (ak x).toArray] w (dH BI w0 Y w B (.tuple #[]) {(aT {s with b:=aP s.b [4] } r 0).1 with w:=some ⟨4,r.line,(aT {s with b:=aP s.b [4] } r 0).2⟩ }):=by
 obtain⟨W1,hW1,b1,kx⟩:=aZ (x:=x) w;have hYl:=h.lt I;have hs1:=b1.size;have hln:=hx.line;obtain⟨b,c0,HS⟩:=Dy I h hT hb b1;obtain⟨kv,kg,kw,kb,kt,kd⟩:=fB {s with b:=aP s.b [4] } r 0;have hxl:=hx.args;obtain⟨xl,xm,⟨va,vn,vc⟩,xt⟩:=x;simp only[bG]at hxl;obtain⟨a',c',e4⟩:=hxl.len;injection e4 with e1 e2 e3
 subst e1 e2 e3;obtain⟨an,han⟩: ∃n,r.args.length=n:=⟨_,rfl⟩;have hxy: ¬Y w.heap.size:=fun e=>by have:=hYl _ e;omega
 have HW:Hid (∀V,bB BI w0 Y W1 B {s with b:=aP s.b [4] } V→Blk V w.heap.size 33 [.int .i64 xl,.string ⟨xm.toArray⟩,.slice va an vc,.string ⟨xt.toArray⟩]∧Blk V.drew w.heap.size 33 [.int .i64 xl,.string ⟨xm.toArray⟩,.slice va an vc,.string ⟨xt.toArray⟩]∧Hid (Calls Tryz.prog 87 #[ax B,.agg #[.int .i64 xl,.string ⟨xm.toArray⟩,.slice va an vc,.string ⟨xt.toArray⟩],.int .i64 0] V.drew fun e w'=>e= .returned (.int .i64 (aT {s with b:=aP s.b [4] } r 0).2)∧Hid (Blk w' w.heap.size 33 [.int .i64 xl,.string ⟨xm.toArray⟩,.slice va an vc,.string ⟨xt.toArray⟩])∧
   ∃V2,w'.alloc (.cells #[.int .i64 4,.int .i64 xl,.int .i64 (aT {s with b:=aP s.b [4] } r 0).2,.slice none 0 0,.slice none 0 0,.slice none 0 0,.string ⟨#[]⟩,.slice none 0 0,.bool false,.bool false] 58)=V2∧Hid (Blk V2 w.heap.size 33 [.int .i64 xl,.string ⟨xm.toArray⟩,.slice va an vc,.string ⟨xt.toArray⟩])∧(∃v,V2.cell? ⟨B,2,none⟩=some v)∧V2.frozen? ⟨B,2,none⟩=false∧Hid (Blk (V2.setCell ⟨B,2,none⟩ (ax w'.heap.size)) w.heap.size 33 [.int .i64 xl,.string ⟨xm.toArray⟩,.slice va an vc,.string ⟨xt.toArray⟩])∧Hid (bB BI w0 Y w B {(aT {s with b:=aP s.b [4] } r 0).1 with w:=some ⟨4,r.line,(aT {s with b:=aP s.b [4] } r 0).2⟩ } (V2.setCell ⟨B,2,none⟩ (ax w'.heap.size))))):=zH (fun V m=>by
  obtain⟨Y1,hM,hE,hY,hseq⟩:=m.seq;have hdr:Below V.heap.size V V.drew:=(OX _ _).drew;have k1:Blk V w.heap.size 33 (ak (xl,xm,(va,r.args.length,vc),xt)):=hE.blk kx hxy;have hxw:w.heap.size<W1.heap.size:=kx.lt;have hxy1: ¬Y1 w.heap.size:=fun e=>by rcases hY _ e with z | z;exact hxy z;omega
  have k2:=k1.below hdr;simp only[ak,bG,han]at k1 k2;refine⟨k1,k2,zH ?_⟩;have hM2:=hM.keep I hdr;have hst:=pX I hM2 hEr (hx.below hM2.1) hl 0 (by decide) (by show s.d.length≤500000;omega);simp only[ak,bG,han]at hst;refine hst.mono ?_;rintro e w' ⟨rfl,m2⟩;obtain⟨Y2,hM3,hE2,hY2,hseq2⟩:=m2.seq;have k3:=hE2.blk k2 hxy1;have bA:=af w' (.cells #[.int .i64 4,.int .i64 xl,.int .i64 (aT {s with b:=aP s.b [4] } r 0).2,.slice none 0 0,.slice none 0 0,.slice none 0 0,.string ⟨#[]⟩,.slice none 0 0,.bool false,.bool false] 58);obtain⟨c,fr,mw⟩:=hM3.wait I.k (kv.trans hv) (kg.trans hg) (m:=⟨4,xl,(aT {s with b:=aP s.b [4] } r 0).2⟩) bA (OW _) (O9 w' _);have hBne:w.heap.size≠B:=fun e=>by
   obtain⟨b9,wv9,rv9,tv9,dv9,q9,-⟩:=h.box_at I;omega
  refine⟨rfl,zH k3,_,rfl,zH (k3.below bA),c,fr,zH (((Exc.refl (fun k=>k=B) _).set 2 _ (fun _=>rfl)).blk (k3.below bA) hBne),zH ?_⟩;have e5:r.line=xl:=hln.symm;rw[e5];have m3:=(hseq (bB.trans (Exc.of (X:=Y1) hdr) (fun k q=> .inl q) (hseq2 mw))).pre b1;exact m3)
 obtain⟨sf,hsf⟩: ∃sf,({(aT {s with b:=aP s.b [4] } r 0).1 with w:=some ⟨4,r.line,(aT {s with b:=aP s.b [4] } r 0).2⟩ }:Md)=sf:=⟨_,rfl⟩;rw[hsf]at HW ⊢;obtain⟨nn,hnn⟩: ∃n,(aT {s with b:=aP s.b [4] } r 0).2=n:=⟨_,rfl⟩;rw[hnn]at HW;rw[han]at hW1 ⊢;simp only[ak,bG]at hW1 ⊢;clear h hT hEr hv hg hx hl hb hD b1 kx hYl hs1 hln kv kg kw kb kt kd hxl hxy hsf hnn han;go_enter Tryz.func53,Tryz.ntmps53
 go_wp2_with fail
 clear hW1;refine HS.out.mono ?_;rintro e w2 ⟨rfl,m2⟩;obtain⟨k1,k2,HST⟩:=HW.out w2 m2;have K1:=zH k1;have K2:=zH k2;clear m2 HW HS c0 k1 k2;go_wp2_with fail
 refine wp_region_held_drew (S:=(fun V=>Blk V w.heap.size 33 [.int .i64 xl,.string ⟨xm.toArray⟩,.slice va an vc,.string ⟨xt.toArray⟩])) (by kernel_rfl) ?_ (fun hHeld=>?_)
 ·exact K2.out
 refine zK (i:=0) (v:= .pointer (some ⟨B,0,none⟩)) rfl ?_;simp only[zT,zS,zZ,Act.put,yT,yZ,yS];refine zK (i:=1) (v:= .pointer (some ⟨w.heap.size,0,none⟩)) rfl ?_;simp only[zT,zS,zZ,Act.put,yT,yZ,yS];refine P9 (i:=2) (v:= .int .i64 xl) rfl (by kernel_rfl) (by kernel_rfl) (by kernel_rfl) (fun _ _ _ h=>h) (Or.inl ⟨by rfl,fun w' hSw=>by(try dsimp only at hSw);have q0:=hSw.cell 0;have q1:=hSw.cell 1;have q2:=hSw.cell 2;have q3:=hSw.cell 3;simp only[OY,OZ]at q0 q1 q2 q3;clear hSw;go_simp⟩) (by assumption) ?_;simp only[zT,zS,zZ,Act.put,yT,yZ,yS];refine zK (i:=3) (v:= .pointer (some ⟨B,0,none⟩)) rfl ?_;simp only[zT,zS,zZ,Act.put,yT,yZ,yS];refine P9 (i:=4) (v:= .agg #[.int .i64 xl,.string ⟨xm.toArray⟩,.slice va an vc,.string ⟨xt.toArray⟩]) rfl (by kernel_rfl) (by kernel_rfl) (by kernel_rfl) (fun _ _ _ h=>h) (Or.inl ⟨by rfl,fun w' hSw=>by(try dsimp only at hSw);have q0:=hSw.cell 0;have q1:=hSw.cell 1;have q2:=hSw.cell 2;have q3:=hSw.cell 3;simp only[OY,OZ]at q0 q1 q2 q3;clear hSw;go_simp⟩) (by assumption) ?_;simp only[zT,zS,zZ,Act.put,yT,yZ,yS];refine wpAnyH_ready (rs:=[5]) (by kernel_rfl) (by simp) ?_;refine AllReadyH.cons rfl (fun K hK=>?_) AllReadyH.nil
 try simp only[zT,zS,zZ]
 go_simp;go_at_call 87
 refine HST.out.mono ?_;rintro e w3 ⟨rfl,K3,V2,hV2,K4,⟨q,y2⟩,y3,K5,M5⟩;go_wp2_with fail
 refine hK.out _ _ ?_ (fun hHeld=>?_)
 ·exact K3.out
 clear hK K
 try simp only[zT,zS,zZ,Act.put,yT,yZ,yS]
 refine zK (i:=6) (v:= .agg #[.int .i64 4,.int .i64 xl,.int .i64 nn,.slice none 0 0,.slice none 0 0,.slice none 0 0,.string ⟨#[]⟩,.slice none 0 0,.bool false,.bool false]) rfl ?_;simp only[zT,zS,zZ,Act.put,yT,yZ,yS];refine wpAnyH_ready (rs:=[7]) (by kernel_rfl) (by simp) ?_;refine AllReadyH.cons rfl (fun K hK=>?_) AllReadyH.nil
 try simp only[zT,zS,zZ]
 go_simp;refine hK.out _ _ ?_ (fun hHeld=>?_)
 ·exact K4.out
 clear hK K
 try simp only[zT,zS,zZ,Act.put,yT,yZ,yS]
 refine zK (i:=8) (v:= .pointer (some ⟨B,0,none⟩)) rfl ?_;simp only[zT,zS,zZ,Act.put,yT,yZ,yS];refine zK (i:=9) (v:= .pointer (some ⟨B,2,none⟩)) rfl ?_;simp only[zT,zS,zZ,Act.put,yT,yZ,yS];refine wpAnyH_ready (rs:=[10]) (by kernel_rfl) (by simp) ?_;refine AllReadyH.cons rfl (fun K hK=>?_) AllReadyH.nil
 try simp only[zT,zS,zZ]
 go_simp;refine hK.out _ _ ?_ (fun hHeld=>?_)
 ·exact K5.out
 clear hK K
 try simp only[zT,zS,zZ,Act.put,yT,yZ,yS]
 refine PK (by kernel_rfl) ?_ _;go_wp2_with fail
 go_end0;exact⟨rfl,M5.out⟩
end
section
variable {BI:BIT} {TB:World→Prop} {w w0:World} {B:Nat} {s:Md} {Y Q:Nat→Prop}
theorem Ab (I:bI BI TB) (h:MM BI w0 Y w B s) (hT:TB w0) (hEr:Er w0) {x:RV} {r:bu} (hx:iB w0 x r) (hl:gT r) (hb:btl s.b+3≤30000) (hD:s.d.length≤400000):
  Calls Tryz.prog 55 #[ax B,.agg (ak x).toArray] w (dH BI w0 Y w B (.tuple #[]) (cz (aT s r 0).1 (bL 5 r.line (aT s r 0).2 []))):=by
 obtain⟨W1,hW1,b1,kx⟩:=aZ (x:=x) w;have hYl:=h.lt I;have hs1:=b1.size;have hln:=hx.line;obtain⟨kv,kg,kw,kb,kt,kd⟩:=fB s r 0;have hxl:=hx.args;obtain⟨xl,xm,⟨va,vn,vc⟩,xt⟩:=x;simp only[bG]at hxl;obtain⟨a',c',e4⟩:=hxl.len;injection e4 with e1 e2 e3
 subst e1 e2 e3;obtain⟨an,han⟩: ∃n,r.args.length=n:=⟨_,rfl⟩;have hxy: ¬Y w.heap.size:=fun e=>by have:=hYl _ e;omega
 have hdr:Below W1.heap.size W1 W1.drew:=(OX _ _).drew;have k2:=kx.below hdr;simp only[ak,bG,han]at k2;have HST:Hid (Calls Tryz.prog 87 #[ax B,.agg #[.int .i64 xl,.string ⟨xm.toArray⟩,.slice va an vc,.string ⟨xt.toArray⟩],.int .i64 0] W1.drew fun e w'=>e= .returned (.int .i64 (aT s r 0).2)∧Hid (Blk w' w.heap.size 33 [.int .i64 xl,.string ⟨xm.toArray⟩,.slice va an vc,.string ⟨xt.toArray⟩])∧
   Hid (Calls Tryz.prog 86 #[ax B,.agg #[.int .i64 5,.int .i64 xl,.int .i64 (aT s r 0).2,.slice none 0 0,.slice none 0 0,.slice none 0 0,.string ⟨#[]⟩,.slice none 0 0,.bool false,.bool false]] w' fun e w2=>e= .returned (.tuple #[])∧Hid (Blk w2 w.heap.size 33 [.int .i64 xl,.string ⟨xm.toArray⟩,.slice va an vc,.string ⟨xt.toArray⟩])∧Hid (bB BI w0 Y w B (cz (aT s r 0).1 (bL 5 r.line (aT s r 0).2 [])) w2))):=zH (by
  have hM2:=(h.keep I b1).keep I hdr;have hst:=pX I hM2 hEr (hx.below hM2.1) hl 0 (by decide) (by omega);simp only[ak,bG,han]at hst;refine hst.mono ?_;rintro e w' ⟨rfl,m2⟩;obtain⟨Y2,hM3,hE2,hY2,hseq2⟩:=m2.seq;have hsd:=hdr.size;have hxw:w.heap.size<W1.heap.size:=kx.lt;have k3:=hE2.blk k2 hxy;have hxy2: ¬Y2 w.heap.size:=fun e=>by rcases hY2 _ e with z | z;exact hxy z;omega
  refine⟨rfl,zH k3,zH ?_⟩;have hop:=pY I hM3 hT (S:=fun _=>False) (x:=dN 5 xl (aT s r 0).2 aj) (hd:=bL 5 r.line (aT s r 0).2 []) (by have:=rq (k:=5) (ln:=xl) (n:=(aT s r 0).2) (p:=aj) (FsS.nil (fun _=>False) 2 aX w');rw[show xl=r.line from hln]at this ⊢;exact this) (fun k q=>q.elim) (by rw[CE,kb];simp only[Pm];omega) (by omega);refine hop.mono ?_;rintro e w2 ⟨rfl,m3⟩;obtain⟨Y4,-,hE4,-,-⟩:=m3.seq;exact⟨rfl,zH (hE4.blk k3 hxy2),zH (((hseq2 m3).pre hdr).pre b1)⟩)
 obtain⟨sf,hsf⟩: ∃sf,(cz (aT s r 0).1 (bL 5 r.line (aT s r 0).2 []))=sf:=⟨_,rfl⟩;rw[hsf]at HST ⊢;obtain⟨nn,hnn⟩: ∃n,(aT s r 0).2=n:=⟨_,rfl⟩;rw[hnn]at HST;rw[han]at hW1 ⊢;have K2:=zH k2;simp only[ak,bG]at hW1 ⊢;clear h hT hEr hx hl hb hD b1 kx hYl hs1 hln kv kg kw kb kt kd hxl hxy hsf hnn han hdr k2;go_enter Tryz.func55,Tryz.ntmps55
 go_upto_region 1 with fail
 clear hW1;refine wp_region_held_drew (S:=(fun V=>Blk V w.heap.size 33 [.int .i64 xl,.string ⟨xm.toArray⟩,.slice va an vc,.string ⟨xt.toArray⟩])) (by kernel_rfl) ?_ (fun hHeld=>?_)
 ·exact K2.out
 refine zK (i:=0) (v:= .pointer (some ⟨B,0,none⟩)) rfl ?_;simp only[zT,zS,zZ,Act.put,yT,yZ,yS];refine zK (i:=1) (v:= .pointer (some ⟨w.heap.size,0,none⟩)) rfl ?_;simp only[zT,zS,zZ,Act.put,yT,yZ,yS];refine P9 (i:=2) (v:= .int .i64 xl) rfl (by kernel_rfl) (by kernel_rfl) (by kernel_rfl) (fun _ _ _ h=>h) (Or.inl ⟨by rfl,fun w' hSw=>by(try dsimp only at hSw);have q0:=hSw.cell 0;have q1:=hSw.cell 1;have q2:=hSw.cell 2;have q3:=hSw.cell 3;simp only[OY,OZ]at q0 q1 q2 q3;clear hSw;go_simp⟩) (by assumption) ?_;simp only[zT,zS,zZ,Act.put,yT,yZ,yS];refine zK (i:=3) (v:= .pointer (some ⟨B,0,none⟩)) rfl ?_;simp only[zT,zS,zZ,Act.put,yT,yZ,yS];refine P9 (i:=4) (v:= .agg #[.int .i64 xl,.string ⟨xm.toArray⟩,.slice va an vc,.string ⟨xt.toArray⟩]) rfl (by kernel_rfl) (by kernel_rfl) (by kernel_rfl) (fun _ _ _ h=>h) (Or.inl ⟨by rfl,fun w' hSw=>by(try dsimp only at hSw);have q0:=hSw.cell 0;have q1:=hSw.cell 1;have q2:=hSw.cell 2;have q3:=hSw.cell 3;simp only[OY,OZ]at q0 q1 q2 q3;clear hSw;go_simp⟩) (by assumption) ?_;simp only[zT,zS,zZ,Act.put,yT,yZ,yS];refine wpAnyH_ready (rs:=[5]) (by kernel_rfl) (by simp) ?_;refine AllReadyH.cons rfl (fun K hK=>?_) AllReadyH.nil
 try simp only[zT,zS,zZ]
 go_simp;go_at_call 87
 refine HST.out.mono ?_;rintro e w3 ⟨rfl,K3,HOP⟩;go_wp2_with fail
 refine hK.out _ _ ?_ (fun hHeld=>?_)
 ·exact K3.out
 clear hK K
 try simp only[zT,zS,zZ,Act.put,yT,yZ,yS]
 refine zK (i:=6) (v:= .agg #[.int .i64 5,.int .i64 xl,.int .i64 nn,.slice none 0 0,.slice none 0 0,.slice none 0 0,.string ⟨#[]⟩,.slice none 0 0,.bool false,.bool false]) rfl ?_;simp only[zT,zS,zZ,Act.put,yT,yZ,yS];refine wpAnyH_ready (rs:=[7]) (by kernel_rfl) (by simp) ?_;refine AllReadyH.cons rfl (fun K hK=>?_) AllReadyH.nil
 try simp only[zT,zS,zZ]
 go_simp;go_at_call 86
 refine HOP.out.mono ?_;rintro e w4 ⟨rfl,K4,M5⟩;go_wp2_with fail
 refine hK.out _ _ ?_ (fun hHeld=>?_)
 ·exact K4.out
 clear hK K
 try simp only[zT,zS,zZ,Act.put,yT,yZ,yS]
 refine PK (by kernel_rfl) ?_ _;go_wp2_with fail
 go_end0;exact⟨rfl,M5.out⟩
end
section
variable {BI:BIT} {TB:World→Prop} {w w0:World} {B:Nat} {s:Md} {Y Q:Nat→Prop}
theorem MM.offQ2 (I:dV BI) (h:MM (BIQ BI Q) w0 Y w B s) {V:World} (hV:Exc Q w V) (hQ: ∀k,Q k→w0.heap.size≤k∧ ¬Y k):MM (BIQ BI Q) w0 Y V B s:=by
 obtain⟨h1,h2,X,R,lo,b,wv,rv,tv,dv,h3,h4⟩:=h;have kk: ∀S:Nat→Prop,(∀k,S k→k<w.heap.size∧ ¬Q k)→Kp S w V:=fun S hS k q=>hV.block k (hS k q).1 (hS k q).2
 refine⟨h1.trans (hV.below h1.size (fun k hk q=>by have:=(hQ k q).1;omega)),h2,X,R,lo,b,wv,rv,tv,dv,h3.keepK (I.q Q) (kk X (fun k q=>⟨I.lt h3.bi.1 k (.inl q),fun e=>(hQ k e).2 ((h4 k).2 (.inl q))⟩)) (kk R (fun k q=>⟨I.lt h3.bi.1 k (.inr q),h3.bi.2 k q⟩)) (kk _ (fun k q=>⟨h3.ll k q,fun e=>(hQ k e).2 ((h4 k).2 (.inr q))⟩)) hV.size,h4⟩
def Cy (s:Md) (r:bu):Md:=
 cz (aT {s with b:=aP s.b [4],d:=s.d++cK r.line (df 0 (r.args.take 1)).2} r 1).1 (bL 4 r.line (aT {s with b:=aP s.b [4],d:=s.d++cK r.line (df 0 (r.args.take 1)).2} r 1).2 (df 0 (r.args.take 1)).1)
theorem nI (I:bI BI TB) (h:MM BI w0 Y w B s) (hT:TB w0) (hEr:Er w0) {xl:Int} {xm xt:Txt} {va su:Option Addr} {an vc sn sc:Nat} {r:bu} (hx:iB w0 (xl,xm,(va,an,vc),xt) r) (hl:gT r) (hsv:Ss w0 (.slice su sn sc) (r.args.take 1)) (hb:btl (aP s.b [4])+(df 0 (r.args.take 1)).1.length+3≤30000) (hD:s.d.length≤400000) {W1:World} (b1:Below w.heap.size w W1) (kx:Blk W1 w.heap.size 33 (ak (xl,xm,(va,an,vc),xt))):
  ∃(nn:Int) (q:List Gly×List (Int×Int)) (s2:Md),Cy s r=cz (aT s2 r 1).1 (bL 4 r.line nn q.1)∧(∀V,bB BI w0 Y W1 B {s with b:=aP s.b [4] } V→V.cell? ⟨w.heap.size,0,none⟩=some (.int .i64 xl)∧
   ∃V2,V.alloc (.cells #[.int .i64 4,.int .i64 xl,.int .i64 0,.slice none 0 0,.slice none 0 0,.slice none 0 0,.string ⟨#[]⟩,.slice none 0 0,.bool false,.bool false] 58)=V2∧Blk V2.drew w.heap.size 33 [.int .i64 xl,.string ⟨xm.toArray⟩,.slice va an vc,.string ⟨xt.toArray⟩]∧
    Hid (Calls Tryz.prog 85 #[ax B,.int .i64 xl,.slice su sn sc] V2.drew fun e w'=> ∃p1 p2 p3,e= .returned (.slice p1 p2 p3)∧Hid (Blk w' w.heap.size 33 [.int .i64 xl,.string ⟨xm.toArray⟩,.slice va an vc,.string ⟨xt.toArray⟩])∧(∃z,w'.cell? ⟨V.heap.size,3,none⟩=some z)∧w'.frozen? ⟨V.heap.size,3,none⟩=false∧ ∃V5,w'.setCell ⟨V.heap.size,3,none⟩ (.slice p1 p2 p3)=V5∧Hid (Blk V5 w.heap.size 33 [.int .i64 xl,.string ⟨xm.toArray⟩,.slice va an vc,.string ⟨xt.toArray⟩])∧
     Hid (Calls Tryz.prog 87 #[ax B,.agg #[.int .i64 xl,.string ⟨xm.toArray⟩,.slice va an vc,.string ⟨xt.toArray⟩],.int .i64 1] V5 fun e w6=>e= .returned (.int .i64 nn)∧(∃z,w6.cell? ⟨V.heap.size,2,none⟩=some z)∧w6.frozen? ⟨V.heap.size,2,none⟩=false∧ ∃V7,w6.setCell ⟨V.heap.size,2,none⟩ (.int .i64 nn)=V7∧(∀(i:Nat) u,(ae (dN 4 xl nn (p1,p2,p3)))[i]? =some u→V7.cell? ⟨V.heap.size,i,none⟩=some u)∧
      Hid (Calls Tryz.prog 86 #[ax B,.agg (ae (dN 4 xl nn (p1,p2,p3))).toArray] V7 fun e w8=>e= .returned (.tuple #[])∧bB BI w0 Y w B (cz (aT s2 r 1).1 (bL 4 r.line nn q.1)) w8)))):=by
 have hYl:=h.lt I;have hs1:=b1.size;have hln:xl=r.line:=hx.line;have hxy: ¬Y w.heap.size:=fun e=>by have:=hYl _ e;omega
 have hxw:w.heap.size<W1.heap.size:=kx.lt;have hll:=dR 0 (r.args.take 1) ([],[]);have hlt1:lnT (r.args.take 1)≤40000:=by
  have:=hl.args
  cases hr:r.args with
  | nil=>simp[lnT]
  | cons a l=>rw[hr]at this;simp[lnT]at this ⊢;omega
 have hLe: ∀z∈r.args.take 1,z.length≤2000:=fun z hz=>hl.each z (Qb hz)
 have hql:(df 0 (r.args.take 1)).2.length≤80000:=by rw[ig];unfold dC;have:=hll.2;simp only[Pm]at this;omega
 obtain⟨q,hq⟩: ∃q,df 0 (r.args.take 1)=q:=⟨_,rfl⟩;obtain⟨s2,hs2⟩: ∃s2,({s with b:=aP s.b [4],d:=s.d++cK r.line q.2}:Md)=s2:=⟨_,rfl⟩;obtain⟨kv,kg,kw,kb,kt,kd⟩:=fB s2 r 1;have hsf:Cy s r=cz (aT s2 r 1).1 (bL 4 r.line (aT s2 r 1).2 q.1):=by unfold Cy;rw[hq,hs2]
 have hs2b:s2.b=aP s.b [4]:=by rw[←hs2]
 have hs2d:s2.d.length≤490000:=by
  rw[←hs2];show(s.d++cK r.line q.2).length≤490000;rw[Pb];have:(cK r.line q.2).length≤80000:=by rw[←hq];unfold cK;simpa using hql
  omega
 obtain⟨nn,hnn⟩: ∃n,(aT s2 r 1).2=n:=⟨_,rfl⟩;rw[hnn]at hsf;rw[hq]at hb;refine⟨nn,q,s2,hsf,fun V m=>?_⟩;obtain⟨Y1,hM,hE,hY,hseq⟩:=m.seq;have hsE:=hE.size;have k1:Blk V w.heap.size 33 [.int .i64 xl,.string ⟨xm.toArray⟩,.slice va an vc,.string ⟨xt.toArray⟩]:=hE.blk kx hxy;have hxy1: ¬Y1 w.heap.size:=fun e=>by rcases hY _ e with z | z;exact hxy z;omega
 have bA:=af V (.cells #[.int .i64 4,.int .i64 xl,.int .i64 0,.slice none 0 0,.slice none 0 0,.slice none 0 0,.string ⟨#[]⟩,.slice none 0 0,.bool false,.bool false] 58);have hzA:(V.alloc (.cells #[.int .i64 4,.int .i64 xl,.int .i64 0,.slice none 0 0,.slice none 0 0,.slice none 0 0,.string ⟨#[]⟩,.slice none 0 0,.bool false,.bool false] 58)).heap.size=V.heap.size+1:=Pf _ _;have kN:Blk (V.alloc (.cells #[.int .i64 4,.int .i64 xl,.int .i64 0,.slice none 0 0,.slice none 0 0,.slice none 0 0,.string ⟨#[]⟩,.slice none 0 0,.bool false,.bool false] 58)) V.heap.size 58 (ae (dN 4 xl 0 aj)):=O9 V _;obtain⟨V2,hV2⟩: ∃V2,V.alloc (.cells #[.int .i64 4,.int .i64 xl,.int .i64 0,.slice none 0 0,.slice none 0 0,.slice none 0 0,.string ⟨#[]⟩,.slice none 0 0,.bool false,.bool false] 58)=V2:=⟨_,rfl⟩;rw[hV2]at bA kN hzA;have bD:Below V2.heap.size V2 V2.drew:=(OX _ _).drew;have bAD:=bA.trans (bD.mono (by omega));have hzD:V2.drew.heap.size=V2.heap.size:=rfl;have hY1l:=hM.lt I;have hw0:=hM.1.size;refine⟨k1.cell 0,V2,hV2,(k1.below bA).below bD,zH ?_⟩;refine(vL I hM bAD (OW _) (kN.below bD) xl (r.args.take 1) (.slice su sn sc) (fun V hV=>hsv.below hV) hlt1 hLe hD true).mono ?_;rintro e w' ⟨p,rfl,kN',Y',S,m1,m2,m3,m4,m5⟩;rw[hq]at m1 m4;have k4:=m2.blk ((k1.below bA).below bD) hxy1;have hne:w.heap.size≠V.heap.size:=by omega
 have hE5:Exc (fun k=>k=V.heap.size) w' (w'.setCell ⟨V.heap.size,3,none⟩ (pv p)):=(Exc.refl (fun k=>k=V.heap.size) w').set 3 _ (fun _=>rfl);have kN5:Blk (w'.setCell ⟨V.heap.size,3,none⟩ (pv p)) V.heap.size 58 (ae (dN 4 xl 0 p)):=Blk.set (L:=ae (dN 4 xl 0 aj)) kN' 3 (pv p);have k5:=hE5.blk k4 hne;have hNY: ¬Y' V.heap.size:=fun e=>(m3 _ e).2 rfl
 have hM5:=m1.offQ2 I.k hE5 (fun k z=>⟨by rw[z];exact hw0,by rw[z];exact hNY⟩);have hs2':({s with b:=aP s.b [4],d:=s.d++cK xl q.2}:Md)=s2:=by rw[←hs2,hln]
 have hM5':MM (BIQ BI (fun k=>k=V.heap.size)) w0 Y' (w'.setCell ⟨V.heap.size,3,none⟩ (pv p)) B s2:=by rw[←hs2'];exact hM5
 refine⟨p.1,p.2.1,p.2.2,rfl,zH k4,⟨_,kN'.cell 3⟩,kN'.frozen (by simp[ae]),_,rfl,zH k5,zH ?_⟩;have hst:=pX (I.k.q _) hM5' hEr (hx.below hM5.1) hl 1 (by decide) (by omega);rw[hnn]at hst;refine hst.mono ?_;rintro e w6 ⟨rfl,m6⟩;obtain⟨Y6,hM6,hE6,hY6,-⟩:=m6.seq;have hs5:=hE5.size;have hsw':=m2.size;have kN6:=hE6.blk kN5 hNY;have hNY6: ¬Y6 V.heap.size:=fun e=>by rcases hY6 _ e with z | z;exact hNY z;have:=kN5.lt;omega
 have hE7:Exc (fun k=>k=V.heap.size) w6 (w6.setCell ⟨V.heap.size,2,none⟩ (.int .i64 nn)):=(Exc.refl (fun k=>k=V.heap.size) w6).set 2 _ (fun _=>rfl);have kN7:Blk (w6.setCell ⟨V.heap.size,2,none⟩ (.int .i64 nn)) V.heap.size 58 (ae (dN 4 xl nn p)):=Blk.set (L:=ae (dN 4 xl 0 p)) kN6 2 (.int .i64 nn);refine⟨rfl,⟨_,kN6.cell 2⟩,kN6.frozen (by simp[ae]),_,rfl,fun i u hu=>by rw[kN7.cell i];exact hu,zH ?_⟩;have hE15:Exc Y1 V w':=(Exc.of (X:=Y1) bAD).trans m2 (fun _ _ z=>z);have hE16:Exc Y1 V w6:=((hE15.trans hE5 (fun k hk z=>by omega)).trans hE6 (fun k hk z=>((m3 k z).1.elim id (fun z2=>by omega))));have hS6:FsS S 2 aX w6 (pv p) q.1:=m4.keep (fun k z=>(hE6.block k (by have:=(m5 k z).2.1;omega) (m5 k z).2.2).trans (hE5.block k (m5 k z).2.1 (fun e=>by have:=(m5 k z).1;omega)));have hs6:=hE6.size;rw[hln];have kd2:(aT s2 r 1).1.d.length≤500000:=by omega
 have:=rH I hT (s2:=(aT s2 r 1).1) (w:=V) (w1:=w6) (Y:=Y1) (Y':=Y6) (S:=S) (N:=V.heap.size) (k:=4) (ln:=r.line) (n:=nn) (g:=q.1) (p:=p) hE16 (fun k z=>⟨(hY6 k z).elim (fun z2=>(m3 k z2).1.imp id (fun z3=>by omega)) (fun z2=> .inr (by omega)),fun e=>hNY6 (by rw[←e];exact z)⟩) hM6 hw0 (OW _) hS6 (fun k z=>⟨by have:=(m5 k z).2.1;omega,fun e=>by rcases hY6 k e with z2 | z2;exact(m5 k z).2.2 z2;have:=(m5 k z).2.1;omega,fun e=>by have:=(m5 k z).1;omega⟩) (by rw[kb,hs2b];exact hb) kd2 hE7 (OX _ _);refine this.mono ?_;rintro e w8 ⟨rfl,mm⟩;exact⟨rfl,(hseq mm).pre b1⟩
theorem QT4 {P:Prop}(h:P:=by
 simp only[zT,zS,zZ,Act.put,yT,yZ,yS];refine wpAnyH_ready (rs:=[7]) (by kernel_rfl) (by simp) ?_;refine AllReadyH.cons rfl (fun K hK=>?_) AllReadyH.nil
 try simp only[zT,zS,zZ]
 go_simp;refine hK.out _ _ ?_ (fun hHeld=>?_)
 ·exact hHeld
 clear hK K
 try simp only[zT,zS,zZ,Act.put,yT,yZ,yS]
 refine wpAnyH_ready (rs:=[8]) (by kernel_rfl) (by simp) ?_;refine AllReadyH.cons rfl (fun K hK=>?_) AllReadyH.nil
 try simp only[zT,zS,zZ]
 go_simp;refine hK.out _ _ ?_ (fun hHeld=>?_)
 ·exact hHeld
 clear hK K
 try simp only[zT,zS,zZ,Act.put,yT,yZ,yS]
 refine wpAnyH_ready (rs:=[9]) (by kernel_rfl) (by simp) ?_;refine AllReadyH.cons rfl (fun K hK=>?_) AllReadyH.nil
 try simp only[zT,zS,zZ]
 go_simp;refine hK.out _ _ ?_ (fun hHeld=>?_)
 ·exact hHeld
 clear hK K
 try simp only[zT,zS,zZ,Act.put,yT,yZ,yS]
 refine wpAnyH_ready (rs:=[10]) (by kernel_rfl) (by simp) ?_;refine AllReadyH.cons rfl (fun K hK=>?_) AllReadyH.nil
 try simp only[zT,zS,zZ]
 go_simp;go_at_call 85
 refine HWD.out.mono ?_;rintro e w4 ⟨p1,p2,p3,rfl,K4,⟨z,y2⟩,y3,V5,hV5,K5,HST⟩;go_wp2_with fail
 refine hK.out _ _ ?_ (fun hHeld=>?_)
 ·exact K4.out
 clear hK K
 try simp only[zT,zS,zZ,Act.put,yT,yZ,yS]
 refine zK (i:=11) (v:= .pointer (some ⟨w2.heap.size,3,none⟩)) rfl ?_;simp only[zT,zS,zZ,Act.put,yT,yZ,yS];refine wpAnyH_ready (rs:=[12]) (by kernel_rfl) (by simp) ?_;refine AllReadyH.cons rfl (fun K hK=>?_) AllReadyH.nil
 try simp only[zT,zS,zZ]
 go_simp;refine hK.out _ _ ?_ (fun hHeld=>?_)
 ·exact K5.out
 clear hK K
 try simp only[zT,zS,zZ,Act.put,yT,yZ,yS]
 refine PK (by kernel_rfl) ?_ _;have k5:=K5.out;have q0:=k5.cell 0;have q1:=k5.cell 1;have q2:=k5.cell 2;have q3:=k5.cell 3;simp only[OY,OZ]at q0 q1 q2 q3;clear k5 hV5 y2 y3 K4 HWD;go_wp2_with fail
 refine HST.out.mono ?_;rintro e w6 ⟨rfl,⟨z6,c6⟩,f6,V7,hV7,u3,HO⟩;have d0:=u3 0 _ rfl;have d1:=u3 1 _ rfl;have d2:=u3 2 _ rfl;have d3:=u3 3 _ rfl;have d4:=u3 4 _ rfl;have d5:=u3 5 _ rfl;have d6:=u3 6 _ rfl;have d7:=u3 7 _ rfl;have d8:=u3 8 _ rfl;have d9:=u3 9 _ rfl;clear u3 HST q0 q1 q2 q3;go_wp2_with fail
 refine HO.out.mono ?_;rintro e w8 ⟨rfl,m8⟩;have M8:=zH m8;clear m8;go_wp2_with fail
 go_end0;exact⟨rfl,M8.out⟩):P:=h
theorem Fz (I:bI BI TB) (h:MM BI w0 Y w B s) (hT:TB w0) (hEr:Er w0) {xl:Int} {xm xt:Txt} {vc:Nat} {r:bu} (hx:iB w0 (xl,xm,(none,0,vc),xt) r) (hl:gT r) (hsv:Ss w0 (.slice none 0 vc) (r.args.take 1)) (hbs:btl s.b≤30000) (hb:btl (aP s.b [4])+(df 0 (r.args.take 1)).1.length+3≤30000) (hD:s.d.length≤400000):
  Calls Tryz.prog 54 #[ax B,.agg (ak (xl,xm,(none,0,vc),xt)).toArray] w (dH BI w0 Y w B (.tuple #[]) (Cy s r)):=by
 obtain⟨W1,hW1,b1,kx⟩:=aZ (x:=(xl,xm,(none,0,vc),xt)) w;obtain⟨b,c0,HS⟩:=Dy I h hT hbs b1;obtain⟨nn,q,s2,hsf,HW0⟩:=nI I h hT hEr hx hl hsv hb hD b1 kx;have HW:=zH HW0;clear HW0;rw[hsf];obtain⟨sf,hsf2⟩: ∃sf,(cz (aT s2 r 1).1 (bL 4 r.line nn q.1))=sf:=⟨_,rfl⟩;rw[hsf2]at HW ⊢;simp only[ak,bG,ae,dN,pv,aj]at hW1 HW ⊢;clear h hT hEr hx hl hb hbs hD b1 kx hsf hsf2 hsv;go_enter Tryz.func54,Tryz.ntmps54
 go_wp2_with fail
 clear hW1;refine HS.out.mono ?_;rintro e w2 ⟨rfl,m2⟩;obtain⟨k0,V2,hV2,K2',HWD⟩:=HW.out w2 m2;have K2:=zH K2';have HV2:=zH hV2;clear m2 HW HS c0 K2' hV2;go_upto_region 3 with fail
 rw[HV2.out];clear HV2 k0;refine wp_region_held_drew (S:=(fun V=>Blk V w.heap.size 33 [.int .i64 xl,.string ⟨xm.toArray⟩,.slice none 0 vc,.string ⟨xt.toArray⟩])) (by kernel_rfl) ?_ (fun hHeld=>?_)
 ·exact K2.out
 refine zK (i:=0) (v:= .pointer (some ⟨B,0,none⟩)) rfl ?_;simp only[zT,zS,zZ,Act.put,yT,yZ,yS];refine zK (i:=1) (v:= .pointer (some ⟨w.heap.size,0,none⟩)) rfl ?_;simp only[zT,zS,zZ,Act.put,yT,yZ,yS];refine P9 (i:=2) (v:= .int .i64 xl) rfl (by kernel_rfl) (by kernel_rfl) (by kernel_rfl) (fun _ _ _ h=>h) (Or.inl ⟨by rfl,fun w' hSw=>by(try dsimp only at hSw);have q0:=hSw.cell 0;have q1:=hSw.cell 1;have q2:=hSw.cell 2;have q3:=hSw.cell 3;simp only[OY,OZ]at q0 q1 q2 q3;clear hSw;go_simp⟩) (by assumption) ?_;simp only[zT,zS,zZ,Act.put,yT,yZ,yS];refine zK (i:=3) (v:= .pointer (some ⟨w.heap.size,2,none⟩)) rfl ?_;simp only[zT,zS,zZ,Act.put,yT,yZ,yS];refine P9 (i:=4) (v:= .slice none 0 vc) rfl (by kernel_rfl) (by kernel_rfl) (by kernel_rfl) (fun _ _ _ h=>h) (Or.inl ⟨by rfl,fun w' hSw=>by(try dsimp only at hSw);have q0:=hSw.cell 0;have q1:=hSw.cell 1;have q2:=hSw.cell 2;have q3:=hSw.cell 3;simp only[OY,OZ]at q0 q1 q2 q3;clear hSw;go_simp⟩) (by assumption) ?_;simp only[zT,zS,zZ,Act.put,yT,yZ,yS];refine zK (i:=5) (v:= .pointer (some ⟨w.heap.size,2,none⟩)) rfl ?_;simp only[zT,zS,zZ,Act.put,yT,yZ,yS];refine P9 (i:=6) (v:= .slice none 0 vc) rfl (by kernel_rfl) (by kernel_rfl) (by kernel_rfl) (fun _ _ _ h=>h) (Or.inl ⟨by rfl,fun w' hSw=>by(try dsimp only at hSw);have q0:=hSw.cell 0;have q1:=hSw.cell 1;have q2:=hSw.cell 2;have q3:=hSw.cell 3;simp only[OY,OZ]at q0 q1 q2 q3;clear hSw;go_simp⟩) (by assumption) ?_;exact QT4
theorem Ci (I:bI BI TB) (h:MM BI w0 Y w B s) (hT:TB w0) (hEr:Er w0) {xl:Int} {xm xt:Txt} {ga:Addr} {vc:Nat} {r:bu} (hx:iB w0 (xl,xm,((some ga),0,vc),xt) r) (hl:gT r) (hsv:Ss w0 (.slice (some ga) 0 vc) (r.args.take 1)) (hbs:btl s.b≤30000) (hb:btl (aP s.b [4])+(df 0 (r.args.take 1)).1.length+3≤30000) (hD:s.d.length≤400000):
  Calls Tryz.prog 54 #[ax B,.agg (ak (xl,xm,((some ga),0,vc),xt)).toArray] w (dH BI w0 Y w B (.tuple #[]) (Cy s r)):=by
 obtain⟨W1,hW1,b1,kx⟩:=aZ (x:=(xl,xm,((some ga),0,vc),xt)) w;obtain⟨b,c0,HS⟩:=Dy I h hT hbs b1;obtain⟨nn,q,s2,hsf,HW0⟩:=nI I h hT hEr hx hl hsv hb hD b1 kx;have HW:=zH HW0;clear HW0;rw[hsf];obtain⟨sf,hsf2⟩: ∃sf,(cz (aT s2 r 1).1 (bL 4 r.line nn q.1))=sf:=⟨_,rfl⟩;rw[hsf2]at HW ⊢;simp only[ak,bG,ae,dN,pv,aj]at hW1 HW ⊢;clear h hT hEr hx hl hb hbs hD b1 kx hsf hsf2 hsv;go_enter Tryz.func54,Tryz.ntmps54
 go_wp2_with fail
 clear hW1;refine HS.out.mono ?_;rintro e w2 ⟨rfl,m2⟩;obtain⟨k0,V2,hV2,K2',HWD⟩:=HW.out w2 m2;have K2:=zH K2';have HV2:=zH hV2;clear m2 HW HS c0 K2' hV2;go_upto_region 3 with fail
 rw[HV2.out];clear HV2 k0;refine wp_region_held_drew (S:=(fun V=>Blk V w.heap.size 33 [.int .i64 xl,.string ⟨xm.toArray⟩,.slice (some ga) 0 vc,.string ⟨xt.toArray⟩])) (by kernel_rfl) ?_ (fun hHeld=>?_)
 ·exact K2.out
 refine zK (i:=0) (v:= .pointer (some ⟨B,0,none⟩)) rfl ?_;simp only[zT,zS,zZ,Act.put,yT,yZ,yS];refine zK (i:=1) (v:= .pointer (some ⟨w.heap.size,0,none⟩)) rfl ?_;simp only[zT,zS,zZ,Act.put,yT,yZ,yS];refine P9 (i:=2) (v:= .int .i64 xl) rfl (by kernel_rfl) (by kernel_rfl) (by kernel_rfl) (fun _ _ _ h=>h) (Or.inl ⟨by rfl,fun w' hSw=>by(try dsimp only at hSw);have q0:=hSw.cell 0;have q1:=hSw.cell 1;have q2:=hSw.cell 2;have q3:=hSw.cell 3;simp only[OY,OZ]at q0 q1 q2 q3;clear hSw;go_simp⟩) (by assumption) ?_;simp only[zT,zS,zZ,Act.put,yT,yZ,yS];refine zK (i:=3) (v:= .pointer (some ⟨w.heap.size,2,none⟩)) rfl ?_;simp only[zT,zS,zZ,Act.put,yT,yZ,yS];refine P9 (i:=4) (v:= .slice (some ga) 0 vc) rfl (by kernel_rfl) (by kernel_rfl) (by kernel_rfl) (fun _ _ _ h=>h) (Or.inl ⟨by rfl,fun w' hSw=>by(try dsimp only at hSw);have q0:=hSw.cell 0;have q1:=hSw.cell 1;have q2:=hSw.cell 2;have q3:=hSw.cell 3;simp only[OY,OZ]at q0 q1 q2 q3;clear hSw;go_simp⟩) (by assumption) ?_;simp only[zT,zS,zZ,Act.put,yT,yZ,yS];refine zK (i:=5) (v:= .pointer (some ⟨w.heap.size,2,none⟩)) rfl ?_;simp only[zT,zS,zZ,Act.put,yT,yZ,yS];refine P9 (i:=6) (v:= .slice (some ga) 0 vc) rfl (by kernel_rfl) (by kernel_rfl) (by kernel_rfl) (fun _ _ _ h=>h) (Or.inl ⟨by rfl,fun w' hSw=>by(try dsimp only at hSw);have q0:=hSw.cell 0;have q1:=hSw.cell 1;have q2:=hSw.cell 2;have q3:=hSw.cell 3;simp only[OY,OZ]at q0 q1 q2 q3;clear hSw;go_simp⟩) (by assumption) ?_;exact QT4
theorem Fy (I:bI BI TB) (h:MM BI w0 Y w B s) (hT:TB w0) (hEr:Er w0) {xl:Int} {xm xt:Txt} {ga go an vc:Nat} {r:bu} (hx:iB w0 (xl,xm,((some ⟨ga,go,none⟩),(an+1),vc),xt) r) (hl:gT r) (hsv:Ss w0 (.slice (some ⟨ga,go,none⟩) 1 vc) (r.args.take 1)) (hcap:an+1≤vc) (hbs:btl s.b≤30000) (hb:btl (aP s.b [4])+(df 0 (r.args.take 1)).1.length+3≤30000) (hD:s.d.length≤400000):
  Calls Tryz.prog 54 #[ax B,.agg (ak (xl,xm,((some ⟨ga,go,none⟩),(an+1),vc),xt)).toArray] w (dH BI w0 Y w B (.tuple #[]) (Cy s r)):=by
 obtain⟨W1,hW1,b1,kx⟩:=aZ (x:=(xl,xm,((some ⟨ga,go,none⟩),(an+1),vc),xt)) w;obtain⟨b,c0,HS⟩:=Dy I h hT hbs b1;obtain⟨nn,q,s2,hsf,HW0⟩:=nI I h hT hEr hx hl hsv hb hD b1 kx;have HW:=zH HW0;clear HW0;rw[hsf];obtain⟨sf,hsf2⟩: ∃sf,(cz (aT s2 r 1).1 (bL 4 r.line nn q.1))=sf:=⟨_,rfl⟩;rw[hsf2]at HW ⊢;simp only[ak,bG,ae,dN,pv,aj]at hW1 HW ⊢;clear h hT hEr hx hl hb hbs hD b1 kx hsf hsf2 hsv;go_enter Tryz.func54,Tryz.ntmps54
 go_wp2_with fail
 clear hW1;refine HS.out.mono ?_;rintro e w2 ⟨rfl,m2⟩;obtain⟨k0,V2,hV2,K2',HWD⟩:=HW.out w2 m2;have K2:=zH K2';have HV2:=zH hV2;clear m2 HW HS c0 K2' hV2;go_upto_region 3 with fail
 rw[HV2.out];clear HV2 k0;refine wp_region_held_drew (S:=(fun V=>Blk V w.heap.size 33 [.int .i64 xl,.string ⟨xm.toArray⟩,.slice (some ⟨ga,go,none⟩) (an+1) vc,.string ⟨xt.toArray⟩])) (by kernel_rfl) ?_ (fun hHeld=>?_)
 ·exact K2.out
 refine zK (i:=0) (v:= .pointer (some ⟨B,0,none⟩)) rfl ?_;simp only[zT,zS,zZ,Act.put,yT,yZ,yS];refine zK (i:=1) (v:= .pointer (some ⟨w.heap.size,0,none⟩)) rfl ?_;simp only[zT,zS,zZ,Act.put,yT,yZ,yS];refine P9 (i:=2) (v:= .int .i64 xl) rfl (by kernel_rfl) (by kernel_rfl) (by kernel_rfl) (fun _ _ _ h=>h) (Or.inl ⟨by rfl,fun w' hSw=>by(try dsimp only at hSw);have q0:=hSw.cell 0;have q1:=hSw.cell 1;have q2:=hSw.cell 2;have q3:=hSw.cell 3;simp only[OY,OZ]at q0 q1 q2 q3;clear hSw;go_simp⟩) (by assumption) ?_;simp only[zT,zS,zZ,Act.put,yT,yZ,yS];refine zK (i:=3) (v:= .pointer (some ⟨w.heap.size,2,none⟩)) rfl ?_;simp only[zT,zS,zZ,Act.put,yT,yZ,yS];refine P9 (i:=4) (v:= .slice (some ⟨ga,go,none⟩) (an+1) vc) rfl (by kernel_rfl) (by kernel_rfl) (by kernel_rfl) (fun _ _ _ h=>h) (Or.inl ⟨by rfl,fun w' hSw=>by(try dsimp only at hSw);have q0:=hSw.cell 0;have q1:=hSw.cell 1;have q2:=hSw.cell 2;have q3:=hSw.cell 3;simp only[OY,OZ]at q0 q1 q2 q3;clear hSw;go_simp⟩) (by assumption) ?_;simp only[zT,zS,zZ,Act.put,yT,yZ,yS];refine zK (i:=5) (v:= .pointer (some ⟨w.heap.size,2,none⟩)) rfl ?_;simp only[zT,zS,zZ,Act.put,yT,yZ,yS];refine P9 (i:=6) (v:= .slice (some ⟨ga,go,none⟩) (an+1) vc) rfl (by kernel_rfl) (by kernel_rfl) (by kernel_rfl) (fun _ _ _ h=>h) (Or.inl ⟨by rfl,fun w' hSw=>by(try dsimp only at hSw);have q0:=hSw.cell 0;have q1:=hSw.cell 1;have q2:=hSw.cell 2;have q3:=hSw.cell 3;simp only[OY,OZ]at q0 q1 q2 q3;clear hSw;go_simp⟩) (by assumption) ?_;simp only[zT,zS,zZ,Act.put,yT,yZ,yS];refine wpAnyH_ready (rs:=[7]) (by kernel_rfl) (by simp) ?_;refine AllReadyH.cons rfl (fun K hK=>?_) AllReadyH.nil
 try simp only[zT,zS,zZ]
 go_simp;refine hK.out _ _ ?_ (fun hHeld=>?_)
 ·exact hHeld
 clear hK K
 try simp only[zT,zS,zZ,Act.put,yT,yZ,yS]
 refine wpAnyH_ready (rs:=[8]) (by kernel_rfl) (by simp) ?_;refine AllReadyH.cons rfl (fun K hK=>?_) AllReadyH.nil
 try simp only[zT,zS,zZ]
 go_simp;rw[show min ((an:Int)+1) 1=1 by omega];have hvc1:(1:Int)≤(vc:Int):=by omega
 refine hK.out _ _ ?_ (fun hHeld=>?_)
 ·exact hHeld
 clear hK K
 try simp only[zT,zS,zZ,Act.put,yT,yZ,yS]
 refine wpAnyH_ready (rs:=[9]) (by kernel_rfl) (by simp) ?_;refine AllReadyH.cons rfl (fun K hK=>?_) AllReadyH.nil
 try simp only[zT,zS,zZ]
 go_simp;refine hK.out _ _ ?_ (fun hHeld=>?_)
 ·exact hHeld
 clear hK K
 try simp only[zT,zS,zZ,Act.put,yT,yZ,yS]
 refine wpAnyH_ready (rs:=[10]) (by kernel_rfl) (by simp) ?_;refine AllReadyH.cons rfl (fun K hK=>?_) AllReadyH.nil
 try simp only[zT,zS,zZ]
 go_simp;go_at_call 85
 refine HWD.out.mono ?_;rintro e w4 ⟨p1,p2,p3,rfl,K4,⟨z,y2⟩,y3,V5,hV5,K5,HST⟩;go_wp2_with fail
 refine hK.out _ _ ?_ (fun hHeld=>?_)
 ·exact K4.out
 clear hK K
 try simp only[zT,zS,zZ,Act.put,yT,yZ,yS]
 refine zK (i:=11) (v:= .pointer (some ⟨w2.heap.size,3,none⟩)) rfl ?_;simp only[zT,zS,zZ,Act.put,yT,yZ,yS];refine wpAnyH_ready (rs:=[12]) (by kernel_rfl) (by simp) ?_;refine AllReadyH.cons rfl (fun K hK=>?_) AllReadyH.nil
 try simp only[zT,zS,zZ]
 go_simp;refine hK.out _ _ ?_ (fun hHeld=>?_)
 ·exact K5.out
 clear hK K
 try simp only[zT,zS,zZ,Act.put,yT,yZ,yS]
 refine PK (by kernel_rfl) ?_ _;have k5:=K5.out;have q0:=k5.cell 0;have q1:=k5.cell 1;have q2:=k5.cell 2;have q3:=k5.cell 3;simp only[OY,OZ]at q0 q1 q2 q3;clear k5 hV5 y2 y3 K4 HWD;go_wp2_with fail
 refine HST.out.mono ?_;rintro e w6 ⟨rfl,⟨z6,c6⟩,f6,V7,hV7,u3,HO⟩;have d0:=u3 0 _ rfl;have d1:=u3 1 _ rfl;have d2:=u3 2 _ rfl;have d3:=u3 3 _ rfl;have d4:=u3 4 _ rfl;have d5:=u3 5 _ rfl;have d6:=u3 6 _ rfl;have d7:=u3 7 _ rfl;have d8:=u3 8 _ rfl;have d9:=u3 9 _ rfl;clear u3 HST q0 q1 q2 q3;go_wp2_with fail
 refine HO.out.mono ?_;rintro e w8 ⟨rfl,m8⟩;have M8:=zH m8;clear m8;go_wp2_with fail
 go_end0;exact⟨rfl,M8.out⟩
end
def Ed (v:Value):Option (DataW Value×List MemPlace):=some (.held v,[])
def qg (l:List (Txt×Value)) (D:DataW Value):DataW Value:=l.foldl (fun D p=>D.put (.string p.1) (.held p.2)) D
def gM:List (Txt×Value)→Txt→Option Value
 | [],_=>none
 | p::l,b=>if p.1=b then some p.2 else gM l b
def uA:List Txt→Bool
 | []=>true
 | p::l=> !(l.contains p)&&uA l
theorem nP: ∀{l:List (Txt×Value)} {b:Txt},gM l b=none↔b∉l.map Prod.fst
 | [],b=>by simp[gM]
 | p::l,b=>by
  have ih:=nP (l:=l) (b:=b);unfold gM
  by_cases h:p.1=b
  ·simp[h]
  ·rw[Pd h,ih]
   simp only[PL,P6,not_or];exact⟨fun q=>⟨fun e=>h e.symm,q⟩,fun q=>q.2⟩
theorem wI: ∀{l:List (Txt×Value)} {b:Txt} {v:Value},gM l b=some v→(b,v)∈l
 | [],b,v,h=>by simp[gM]at h
 | p::l,b,v,h=>by
  unfold gM at h
  by_cases hp:p.1=b
  ·rw[Pk hp]at h
   obtain rfl:=Ph h;rw[←hp];exact Rf
  ·rw[Pd hp]at h
   exact Qc _ (wI h)
theorem Ay: ∀(l:List (Txt×Value)) (D:DataW Value) (b:Txt),Maps.IsMap D→Maps.has (qg l D) (.string b)=(Maps.has D (.string b)|| (gM l b).isSome)
 | [],D,b,_=>by simp[qg,gM]
 | p::l,D,b,h=>by
  have ih:=Ay l (D.put (.string p.1) (.held p.2)) b (h.put _ _);have e:qg (p::l) D=qg l (D.put (.string p.1) (.held p.2)):=rfl;rw[e,ih]
  by_cases hp:p.1=b
  ·subst hp
   rw[Maps.has_put_same h (by trivial)];simp[gM]
  ·rw[Maps.has_put_other (fun h=>hp (by injection h with h;exact h.symm))]
   simp[gM,hp]
theorem Eg: ∀(l:List (Txt×Value)) (D:DataW Value) (b:Txt) (z:DataW Value),Maps.IsMap D→uA (l.map Prod.fst)=true→(qg l D).atKey (.string b) z=match gM l b with
  | some r=> .held r
  | none=>D.atKey (.string b) z
 | [],D,b,z,_,_=>by simp[qg,gM]
 | p::l,D,b,z,h,hk=>by
  simp only[PL,uA,PI,Bool.not_eq_true']at hk;have ih:=Eg l (D.put (.string p.1) (.held p.2)) b z (h.put _ _) hk.2;have e:qg (p::l) D=qg l (D.put (.string p.1) (.held p.2)):=rfl;rw[e,ih]
  by_cases hp:p.1=b
  ·subst hp
   have h0:gM l p.1=none:=nP.2 (by have:=hk.1;simpa using this);rw[h0,Maps.atKey_put_same h (by trivial)];simp[gM]
  ·rw[Maps.atKey_put_other (fun h=>hp (by injection h with h;exact h.symm))]
   simp[gM,hp]
inductive vJ where
 | ti | he (k:Int) (K:List Int)| pa | tg | it | nd | ou | be (k:Int)| en (k:Int)
def dK:List (Txt×vJ):=[([84,72],.ti),([83,72],.he 1 [1,2,4,5]),([83,83],.he 2 [2,4,5]),([80,80],.pa),([80],.pa),([76,80],.pa),([84,80],.tg),([73,80],.it),([82,83],.nd),([82,69],.ou),([69,88],.be 6),([110,102],.be 6),([69,69],.en 6),([102,105],.en 6),([84,83],.be 7),([84,69],.en 7)]
def lH (lo:Nat) (W:World) (B:Nat):vJ→Value→Prop
 | .ti,v=>v= .func (.func 50) #[ax B] #[]
 | .pa,v=>v= .func (.func 52) #[ax B] #[]
 | .tg,v=>v= .func (.func 53) #[ax B] #[]
 | .it,v=>v= .func (.func 54) #[ax B] #[]
 | .nd,v=>v= .func (.func 55) #[ax B] #[]
 | .ou,v=>v= .func (.func 56) #[ax B] #[]
 | .he k K,v=> ∃F1 F2 F3 g,v= .func (.func 83) #[] #[ax F1,ax F3,ax F2]∧Blk W F1 74 [ax B]∧Blk W F2 3 [.int .i64 k]∧Blk W F3 144 [.slice (some ⟨g,0,none⟩) K.length K.length]∧Blk W g 3 (aA gJ K)∧lo<F1∧lo<F2∧lo<F3∧lo<g
 | .be k,v=> ∃F1 F2,v= .func (.func 89) #[] #[ax F1,ax F2]∧Blk W F1 74 [ax B]∧Blk W F2 3 [.int .i64 k]∧lo<F1∧lo<F2
 | .en k,v=> ∃F1 F2,v= .func (.func 90) #[] #[ax F1,ax F2]∧Blk W F1 74 [ax B]∧Blk W F2 3 [.int .i64 k]∧lo<F1∧lo<F2
theorem lH.keep {lo:Nat} {W W':World} {B:Nat} {m:vJ} {v:Value} (h:lH lo W B m v) (hk: ∀k,lo<k→k<W.heap.size→W'.heap[k]? =W.heap[k]?):lH lo W' B m v:=by
 have kk: ∀{F t L},Blk W F t L→lo<F→Blk W' F t L:=fun q q2=>(hk _ q2 q.lt).trans q
 cases m with
 | ti=>exact h
 | pa=>exact h
 | tg=>exact h
 | it=>exact h
 | nd=>exact h
 | ou=>exact h
 | he k K=>
  obtain⟨F1,F2,F3,g,h0,h1,h2,h3,h4,l1,l2,l3,l4⟩:=h;exact⟨F1,F2,F3,g,h0,kk h1 l1,kk h2 l2,kk h3 l3,kk h4 l4,l1,l2,l3,l4⟩
 | be k=>
  obtain⟨F1,F2,h0,h1,h2,l1,l2⟩:=h;exact⟨F1,F2,h0,kk h1 l1,kk h2 l2,l1,l2⟩
 | en k=>
  obtain⟨F1,F2,h0,h1,h2,l1,l2⟩:=h;exact⟨F1,F2,h0,kk h1 l1,kk h2 l2,l1,l2⟩
theorem oP (B:Nat) (k:Int) (ka:Option Addr) (kn kc:Nat) (w:World):
  Calls Tryz.prog 51 #[ax B,.int .i64 k,.slice ka kn kc] w fun e w'=> ∃F1 F2 F3,e= .returned (.func (.func 83) #[] #[ax F1,ax F3,ax F2])∧Blk w' F1 74 [ax B]∧Blk w' F2 3 [.int .i64 k]∧Blk w' F3 144 [.slice ka kn kc]∧w.heap.size≤F1∧w.heap.size≤F2∧w.heap.size≤F3∧Below w.heap.size w w':=by
 have hmf: ∀(fn:Fn) (first cap:Array Value) (w:World),(Instr.makeFunc fn first cap).run Tryz.prog w= .ok (.func fn first cap) w:=fun _ _ _ _=>rfl
 obtain⟨W1,hW1⟩: ∃W,w.alloc (.cells #[ax B] 74)=W:=⟨_,rfl⟩;obtain⟨W2,hW2⟩: ∃W,W1.alloc (.cells #[.int .i64 k] 3)=W:=⟨_,rfl⟩;obtain⟨W3,hW3⟩: ∃W,W2.alloc (.cells #[.slice ka kn kc] 144)=W:=⟨_,rfl⟩;have b1:Below w.heap.size w W1:=by rw[←hW1];exact af w _
 have b2:Below W1.heap.size W1 W2:=by rw[←hW2];exact af W1 _
 have b3:Below W2.heap.size W2 W3:=by rw[←hW3];exact af W2 _
 have k1:Blk W1 w.heap.size 74 [ax B]:=by rw[←hW1];exact O9 w _
 have k2:Blk W2 W1.heap.size 3 [.int .i64 k]:=by rw[←hW2];exact O9 W1 _
 have k3:Blk W3 W2.heap.size 144 [.slice ka kn kc]:=by rw[←hW3];exact O9 W2 _
 have s1:=b1.size;have s2:=b2.size;have HF:=zH (And.intro (And.intro ((k1.below b2).below b3) (And.intro (k2.below b3) (And.intro k3 (And.intro (OW w.heap.size) (And.intro s1 (Pp s1 s2)))))) ((b1.trans (b2.mono s1)).trans (b3.mono (Pp s1 s2))));clear b1 b2 b3 k1 k2 k3 s1 s2;go_enter Tryz.func51,Tryz.ntmps51
 go_wp2_with fail
 go_ret;obtain⟨⟨q1,q2,q3,q4,q5,q6⟩,q7⟩:=HF.out;exact⟨_,_,_,rfl,q1,q2,q3,q4,q5,q6,q7⟩
theorem kG (B:Nat) (k:Int) (w:World):
  Calls Tryz.prog 57 #[ax B,.int .i64 k] w fun e w'=> ∃F1 F2,e= .returned (.func (.func 89) #[] #[ax F1,ax F2])∧Blk w' F1 74 [ax B]∧Blk w' F2 3 [.int .i64 k]∧w.heap.size≤F1∧w.heap.size≤F2∧Below w.heap.size w w':=by
 have hmf: ∀(fn:Fn) (first cap:Array Value) (w:World),(Instr.makeFunc fn first cap).run Tryz.prog w= .ok (.func fn first cap) w:=fun _ _ _ _=>rfl
 obtain⟨W1,hW1⟩: ∃W,w.alloc (.cells #[ax B] 74)=W:=⟨_,rfl⟩;obtain⟨W2,hW2⟩: ∃W,W1.alloc (.cells #[.int .i64 k] 3)=W:=⟨_,rfl⟩;have b1:Below w.heap.size w W1:=by rw[←hW1];exact af w _
 have b2:Below W1.heap.size W1 W2:=by rw[←hW2];exact af W1 _
 have k1:Blk W1 w.heap.size 74 [ax B]:=by rw[←hW1];exact O9 w _
 have k2:Blk W2 W1.heap.size 3 [.int .i64 k]:=by rw[←hW2];exact O9 W1 _
 have s1:=b1.size;have HF:=zH (And.intro (And.intro (k1.below b2) (And.intro k2 (And.intro (OW w.heap.size) s1))) (b1.trans (b2.mono s1)));clear b1 b2 k1 k2 s1;go_enter Tryz.func57,Tryz.ntmps57
 go_wp2_with fail
 go_ret;obtain⟨⟨q1,q2,q3,q4⟩,q5⟩:=HF.out;exact⟨_,_,rfl,q1,q2,q3,q4,q5⟩
theorem nJ (B:Nat) (k:Int) (w:World):
  Calls Tryz.prog 58 #[ax B,.int .i64 k] w fun e w'=> ∃F1 F2,e= .returned (.func (.func 90) #[] #[ax F1,ax F2])∧Blk w' F1 74 [ax B]∧Blk w' F2 3 [.int .i64 k]∧w.heap.size≤F1∧w.heap.size≤F2∧Below w.heap.size w w':=by
 have hmf: ∀(fn:Fn) (first cap:Array Value) (w:World),(Instr.makeFunc fn first cap).run Tryz.prog w= .ok (.func fn first cap) w:=fun _ _ _ _=>rfl
 obtain⟨W1,hW1⟩: ∃W,w.alloc (.cells #[ax B] 74)=W:=⟨_,rfl⟩;obtain⟨W2,hW2⟩: ∃W,W1.alloc (.cells #[.int .i64 k] 3)=W:=⟨_,rfl⟩;have b1:Below w.heap.size w W1:=by rw[←hW1];exact af w _
 have b2:Below W1.heap.size W1 W2:=by rw[←hW2];exact af W1 _
 have k1:Blk W1 w.heap.size 74 [ax B]:=by rw[←hW1];exact O9 w _
 have k2:Blk W2 W1.heap.size 3 [.int .i64 k]:=by rw[←hW2];exact O9 W1 _
 have s1:=b1.size;have HF:=zH (And.intro (And.intro (k1.below b2) (And.intro k2 (And.intro (OW w.heap.size) s1))) (b1.trans (b2.mono s1)));clear b1 b2 k1 k2 s1;go_enter Tryz.func58,Tryz.ntmps58
 go_wp2_with fail
 go_ret;obtain⟨⟨q1,q2,q3,q4⟩,q5⟩:=HF.out;exact⟨_,_,rfl,q1,q2,q3,q4,q5⟩
structure GL (w W:World) (B n:Nat) (L:List (Txt×Value)):Prop where
 own:W.ownsMap (H:=Value) Tryz.prog 9 Ed w.heap.size n (qg L (.map []))
 bel:Below w.heap.size w W
 names:L.map Prod.fst=(dK.take n).map Prod.fst
 ok: ∀p∈L,∃m,(p.1,m)∈dK∧lH w.heap.size W B m p.2
theorem oI {W W':World} {M n:Nat} {D:DataW Value} (h:W.ownsMap (H:=Value) Tryz.prog 9 Ed M n D) (hb:W'.heap[M]? =W.heap[M]?):W'.ownsMap (H:=Value) Tryz.prog 9 Ed M n D:=by
 obtain⟨es,clock,hh,r⟩:=h;exact⟨es,clock,hb.trans hh,r⟩
theorem GL.below {w W W':World} {B n:Nat} {L:List (Txt×Value)} (h:GL w W B n L) (hb:Below W.heap.size W W'):GL w W' B n L:=
 ⟨oI h.own (hb.block _ h.own.lt),h.bel.trans (hb.mono h.bel.size),h.names,fun p hp=>by
  obtain⟨m,h1,h2⟩:=h.ok p hp;exact⟨m,h1,h2.keep (fun k _ q=>hb.block k q)⟩⟩
theorem nT {w W:World} {B n:Nat} {L:List (Txt×Value)} {ops:Array Oper} {rest:List Oper} {o:Oper} {a:Act} {Q:Exit→Act→World→Prop} (h:GL w W B n L) (hg:o.guard=none) {b:Txt} {m:vJ} {j:Nat}
  (hop:o.op=Op.insert 80 (.tmp 3) (.const (.string ⟨b.toArray⟩)) (.tmp j)) (hn:dK[n]? =some (b,m)) (hb:b.length≤10) {v:Value} (hv:a.eval (.tmp j)=v) (hk:lH w.heap.size W B m v) (hM:a.eval (.tmp 3)= .map (some w.heap.size))
  (hK: ∀W',GL w W' B (n+1) (L++ [(b,v)])→wpList Tryz.prog ops Q rest (a.put o.dst undef) W'):wpList Tryz.prog ops Q (o::rest) a W:=by
 have hnl:n<16:=by
  apply Qj;intro hc;have:dK[n]? =none:=Ra (by show 16≤n;omega);rw[this]at hn
  cases hn
 refine ja W hg _ _ _ 80 hop 9 _ (Maps.string_keyed Tryz.underlying9) Tryz.underlying80 _ w.heap.size n _ hM h.own (by unfold maxLen;omega) _ _ _ rfl hv (DT b hb) (.held v) [] rfl (fun W' ho hg=>hK W' ⟨?_,h.bel.grown hg h.bel.size (fun j e=>by cases e;exact OW _),?_,fun p hp=>?_⟩)
 ·have e:qg (L++ [(b,v)]) (.map [])=(qg L (.map [])).put (.string b) (.held v):=by unfold qg;rw[Q6];rfl
  rw[e];exact ho
 ·rw[QI,h.names,PD,hn]
  simp
 ·have kp: ∀k,w.heap.size<k→k<W.heap.size→W'.heap[k]? =W.heap[k]? :=fun k q1 q2=>hg.block k q2 (fun e=>by
   injection e with e
   omega)
  rcases QP.1 hp with q | q
  ·obtain⟨m',h1,h2⟩:=h.ok p q
   exact⟨m',h1,h2.keep kp⟩
  ·rw[QE]at q
   subst q;exact⟨m,P5 hn,hk.keep kp⟩
def Mks (lo:Nat) (W:World) (B M:Nat):Prop:= ∃L,W.ownsMap (H:=Value) Tryz.prog 9 Ed M 16 (qg L (.map []))∧L.map Prod.fst=dK.map Prod.fst∧ ∀p∈L,∃m,(p.1,m)∈dK∧lH lo W B m p.2
def Ot (B:Nat) (w:World) (e:Ending) (w':World):Prop:=e= .returned (.map (some w.heap.size))∧Mks w.heap.size w' B w.heap.size∧Below w.heap.size w w'
theorem Ea (W:World) (L:List Value) (t:TypeId) {W':World} (hb:Below (W.alloc (.cells L.toArray t)).heap.size (W.alloc (.cells L.toArray t)) W'):Blk W' W.heap.size t L:=Blk.below (O9 W _) hb
theorem Cq (B:Nat) (w:World):Calls Tryz.prog 25 #[ax B] w (Ot B w):=by
 have H0:GL w (w.alloc (.map #[] 0)) B 0 []:=⟨World.ownsMap_made _ _ _ _,(OX _ _).alloc (OW _) _,rfl,fun p hp=>by cases hp⟩;have hmm:= @run_makeMap Tryz.prog;have hmf: ∀(fn:Fn) (first cap:Array Value) (w:World),(Instr.makeFunc fn first cap).run Tryz.prog w= .ok (.func fn first cap) w:=fun _ _ _ _=>rfl
 go_enter Tryz.func25,Tryz.ntmps25
 go_wp2_with (refine nT (by assumption) rfl rfl rfl (by decide) rfl (by first | exact rfl | assumption) rfl ?_;intro w1 h1)
 refine(oP B 1 _ 4 4 _).mono ?_;rintro e v0 ⟨F1,F2,F3,rfl,q1,q2,q3,q4,q5,q6,q7⟩;have hb:=af w1 (.cells #[.int .i64 1,.int .i64 2,.int .i64 4,.int .i64 5] 3);have z:=h1.own.lt;have y:(w1.alloc (.cells #[.int .i64 1,.int .i64 2,.int .i64 4,.int .i64 5] 3)).heap.size=w1.heap.size+1:=Pf _ _;have g0:=(h1.below hb).below q7;have hk0:lH w.heap.size v0 B (.he 1 [1,2,4,5]) (.func (.func 83) #[] #[ax F1,ax F3,ax F2]):=⟨F1,F2,F3,w1.heap.size,rfl,q1,q2,q3,Ea w1 [.int .i64 1,.int .i64 2,.int .i64 4,.int .i64 5] _ q7,by omega,by omega,by omega,z⟩;clear h1 z q1 q2 q3 q4 q5 q6 q7 hb y;go_wp2_with (refine nT (by assumption) rfl rfl rfl (by decide) rfl (by first | exact rfl | assumption) rfl ?_;intro w1 h1)
 refine(oP B 2 _ 3 3 _).mono ?_;rintro e v1 ⟨F1,F2,F3,rfl,q1,q2,q3,q4,q5,q6,q7⟩;have hb:=af w1 (.cells #[.int .i64 2,.int .i64 4,.int .i64 5] 3);have z:=h1.own.lt;have y:(w1.alloc (.cells #[.int .i64 2,.int .i64 4,.int .i64 5] 3)).heap.size=w1.heap.size+1:=Pf _ _;have g1:=(h1.below hb).below q7;have hk1:lH w.heap.size v1 B (.he 2 [2,4,5]) (.func (.func 83) #[] #[ax F1,ax F3,ax F2]):=⟨F1,F2,F3,w1.heap.size,rfl,q1,q2,q3,Ea w1 [.int .i64 2,.int .i64 4,.int .i64 5] _ q7,by omega,by omega,by omega,z⟩;clear h1 z q1 q2 q3 q4 q5 q6 q7 hb y;go_wp2_with (refine nT (by assumption) rfl rfl rfl (by decide) rfl (by first | exact rfl | assumption) rfl ?_;intro w1 h1)
 refine(kG B 6 _).mono ?_;rintro e v2 ⟨F1,F2,rfl,q1,q2,q3,q4,q5⟩;have z:=h1.own.lt;have g2:=h1.below q5;have hk2:lH w.heap.size v2 B (.be 6) (.func (.func 89) #[] #[ax F1,ax F2]):=⟨F1,F2,rfl,q1,q2,by omega,by omega⟩;clear h1 z q1 q2 q3 q4 q5;go_wp2_with (refine nT (by assumption) rfl rfl rfl (by decide) rfl (by first | exact rfl | assumption) rfl ?_;intro w1 h1)
 refine(kG B 6 _).mono ?_;rintro e v3 ⟨F1,F2,rfl,q1,q2,q3,q4,q5⟩;have z:=h1.own.lt;have g3:=h1.below q5;have hk3:lH w.heap.size v3 B (.be 6) (.func (.func 89) #[] #[ax F1,ax F2]):=⟨F1,F2,rfl,q1,q2,by omega,by omega⟩;clear h1 z q1 q2 q3 q4 q5;go_wp2_with (refine nT (by assumption) rfl rfl rfl (by decide) rfl (by first | exact rfl | assumption) rfl ?_;intro w1 h1)
 refine(nJ B 6 _).mono ?_;rintro e v4 ⟨F1,F2,rfl,q1,q2,q3,q4,q5⟩;have z:=h1.own.lt;have g4:=h1.below q5;have hk4:lH w.heap.size v4 B (.en 6) (.func (.func 90) #[] #[ax F1,ax F2]):=⟨F1,F2,rfl,q1,q2,by omega,by omega⟩;clear h1 z q1 q2 q3 q4 q5;go_wp2_with (refine nT (by assumption) rfl rfl rfl (by decide) rfl (by first | exact rfl | assumption) rfl ?_;intro w1 h1)
 refine(nJ B 6 _).mono ?_;rintro e v5 ⟨F1,F2,rfl,q1,q2,q3,q4,q5⟩;have z:=h1.own.lt;have g5:=h1.below q5;have hk5:lH w.heap.size v5 B (.en 6) (.func (.func 90) #[] #[ax F1,ax F2]):=⟨F1,F2,rfl,q1,q2,by omega,by omega⟩;clear h1 z q1 q2 q3 q4 q5;go_wp2_with (refine nT (by assumption) rfl rfl rfl (by decide) rfl (by first | exact rfl | assumption) rfl ?_;intro w1 h1)
 refine(kG B 7 _).mono ?_;rintro e v6 ⟨F1,F2,rfl,q1,q2,q3,q4,q5⟩;have z:=h1.own.lt;have g6:=h1.below q5;have hk6:lH w.heap.size v6 B (.be 7) (.func (.func 89) #[] #[ax F1,ax F2]):=⟨F1,F2,rfl,q1,q2,by omega,by omega⟩;clear h1 z q1 q2 q3 q4 q5;go_wp2_with (refine nT (by assumption) rfl rfl rfl (by decide) rfl (by first | exact rfl | assumption) rfl ?_;intro w1 h1)
 refine(nJ B 7 _).mono ?_;rintro e v7 ⟨F1,F2,rfl,q1,q2,q3,q4,q5⟩;have z:=h1.own.lt;have g7:=h1.below q5;have hk7:lH w.heap.size v7 B (.en 7) (.func (.func 90) #[] #[ax F1,ax F2]):=⟨F1,F2,rfl,q1,q2,by omega,by omega⟩;clear h1 z q1 q2 q3 q4 q5;go_wp2_with (refine nT (by assumption) rfl rfl rfl (by decide) rfl (by first | exact rfl | assumption) rfl ?_;intro w1 h1)
 go_ret;exact⟨rfl,⟨_,h1.own,h1.names,h1.ok⟩,h1.bel⟩
def jo (b:Txt):Option vJ:=(dK.find? (fun p=>p.1==b)).map Prod.snd
theorem IK {b:Txt} {m:vJ} (h:(b,m)∈dK):jo b=some m:=by
 simp only[dK,P6,QK,P8,QN]at h;rcases h with⟨rfl,rfl⟩| ⟨rfl,rfl⟩| ⟨rfl,rfl⟩| ⟨rfl,rfl⟩| ⟨rfl,rfl⟩| ⟨rfl,rfl⟩| ⟨rfl,rfl⟩| ⟨rfl,rfl⟩| ⟨rfl,rfl⟩| ⟨rfl,rfl⟩| ⟨rfl,rfl⟩| ⟨rfl,rfl⟩| ⟨rfl,rfl⟩| ⟨rfl,rfl⟩| ⟨rfl,rfl⟩| ⟨rfl,rfl⟩
 all_goals rfl
theorem qa {b:Txt} (h:b∉dK.map Prod.fst):jo b=none:=by
 unfold jo;rw[Option.map_eq_none_iff,List.find?_eq_none];intro p hp e;exact h (QF.2 ⟨p,hp,by simpa using e⟩)
theorem GI:uA (dK.map Prod.fst)=true:=by decide+kernel
theorem Mt (w:World):(zeroValue 85).run Tryz.prog w= .ok .nilFunc w:=by kernel_rfl
theorem Lb {lo:Nat} {W:World} {B M:Nat} (h:Mks lo W B M) {w:World} (hw:w.heap[M]? =W.heap[M]?) (b:Txt) (hb:b.length≤maxLen):
  (∃m v,jo b=some m∧lH lo W B m v∧(Instr.lookup 80 (.map (some M)) (.string ⟨b.toArray⟩) true).run Tryz.prog w= .ok (.tuple #[v,.bool true]) w)∨
  (jo b=none∧ ∃v,(Instr.lookup 80 (.map (some M)) (.string ⟨b.toArray⟩) true).run Tryz.prog w= .ok (.tuple #[v,.bool false]) w):=by
 obtain⟨L,h1,h2,h3⟩:=h;have hkey:=WideMaps.keyOf_string_mk (P:=Tryz.prog) (k:=9) Tryz.underlying9 (s:=⟨b.toArray⟩) (by simpa[Go.Lib.size_eq] using hb);obtain⟨v,ps,hrun,hv⟩:=World.ownsMap.look_ok (oI h1 hw) (Maps.string_keyed Tryz.underlying9) Tryz.underlying80 (Mt w) (zd:= .held .nilFunc) (zp:=[]) rfl hkey;have hap:uA (L.map Prod.fst)=true:=by rw[h2];exact GI
 have h0:Maps.has (.map []:DataW Value) (.string (⟨b.toArray⟩:ByteArray).data.toList)=false:=rfl;rw[Eg _ _ _ _ Maps.isMap_empty hap]at hv;rw[Ay _ _ _ Maps.isMap_empty,h0,Bool.false_or]at hrun;simp only at hrun hv
 cases hl:gM L b with
 | none=>
  rw[hl]at hrun;exact .inr ⟨qa (by rw[←h2];exact nP.1 hl),v,hrun⟩
 | some u=>
  rw[hl]at hrun hv;have hvu:v=u:=by
   have h5:(DataW.held v:DataW Value)= .held u:=Pj Prod.fst (Ph hv);exact DataW.held.inj h5
  subst hvu;obtain⟨m,q1,q2⟩:=h3 _ (wI hl);exact .inl ⟨m,v,IK q1,q2,hrun⟩
def doS (I:jT) (s:Md) (r:bu):vJ→Md
 | .ti=>Ki s r
 | .he k K=>uu I s r k K
 | .pa=>{s with b:=aP s.b [4] }
 | .tg=>Ko I s r true
 | .it=>Ko I s r false
 | .nd=>cz (aT s r 0).1 (bL 5 r.line (aT s r 0).2 [])
 | .ou=>if(dB s.b 5).2 then {s with b:=(dB s.b 5).1} else aK {s with b:=(dB s.b 5).1} 6 r.line
 | .be k=>iZ s k r.line
 | .en k=>if kdM s=k then(match s.v with
  | some v=>qW s v
  | none=>match s.g with
   | some g=>AC I s g
   | none=>s) else aK s 6 r.line
theorem DW (I:jT) {s:Md} (r:bu) (hv:s.v=none) (hg:s.g=none):FM I s r=match jo r.mac with
  | none=>aK s 4 r.line
  | some m=>doS I s r m:=by
 have hk:kdM s=0:=by unfold kdM;rw[hv,hg]
 by_cases c:r.mac∈dK.map Prod.fst
 ·have e: ∀{b:Txt},r.mac=b→jo r.mac=jo b:=fun q=>by rw[q]
  simp only[dK,PL,Qx,P6,P8,QN]at c;unfold FM;rcases c with q | q | q | q | q | q | q | q | q | q | q | q | q | q | q | q
  all_goals
   rw[q];simp[mTH,mSH,mSS,jo,dK,doS,Ki,iZ,hk]
 ·rw[qa c]
  simp only[dK,PL,Qx,P6,P8,QN,not_or]at c;obtain⟨c1,c2,c3,c4,c5,c6,c7,c8,c9,c10,c11,c12,c13,c14,c15,c16⟩:=c;unfold FM mTH mSH mSS;simp[c1,c2,c3,c4,c5,c6,c7,c8,c9,c10,c11,c12,c13,c14,c15,c16]
theorem iC (s:Md):(upM s).b=s.b∧(upM s).v=s.v∧(upM s).g=s.g∧(upM s).w=none∧(upM s).th=s.th∧(upM s).d.length≤s.d.length+1:=by
 unfold upM
 cases h:s.w with
 | none=>exact⟨rfl,rfl,rfl,h,rfl,QV _⟩
 | some m=>exact⟨rfl,rfl,rfl,rfl,rfl,by simp[aK]⟩
theorem FX {r:bu} {q:List Gly×List (Int×Int)} (hq:fD r=some q) (hm:r.mac≠ []) (ha:r.args=[]):q.2=[]:=by
 unfold fD at hq;rw[Pd hm]at hq;rw[ha]at hq
 split at hq
 ·obtain rfl:=Ph hq;rfl
 ·split at hq
  ·obtain rfl:=Ph hq;rfl
  ·cases hq
theorem Kw (s:Md) (r:bu) (hok:MOk s):lM I9 s r=
  if(lw s r).2 then(lw s r).1 else if qM s r.mac=false then aK s 13 r.line else match jo r.mac with
   | none=>aK (upM s) 4 r.line
   | some m=>doS I9 (upM s) r m:=by
 obtain⟨u1,u2,u3,u4,u5,u6⟩:=iC s;unfold lM lw qM
 cases hg:s.g with
 | some g=>
  have hv:s.v=none:=hok.vg.resolve_right (by rw[hg];simp);have hw:s.w=none:=hok.gw (by rw[hg];simp);have hup:upM s=s:=by unfold upM;rw[hw]
  have hk:kdM s=7:=by unfold kdM;rw[hv,hg]
  simp only[hv]
  by_cases hm:r.mac=[]
  ·simp[hm]
  ·by_cases ht:r.mac=[84,69]
   ·have:jo r.mac=some (.en 7):=by rw[ht];rfl
    simp[hm,ht,this,doS,hup,hk,hv,hg,jo,dK]
   ·simp[hm,ht]
 | none=>
  show(match fD r with | some q=>_ | none=>_)=_
  cases hi:fD r with
  | some q=>
   simp only[if_true];unfold CG
   by_cases hc:r.mac≠ []∧r.args=[]
   ·rw[Pk hc,Pk hc,FX hi hc.1 hc.2]
    simp[cK,aK,hg]
   ·rw[Pd hc,Pd hc]
  | none=>
   simp only[PO,QO]
   cases hv:s.v with
   | some v=>
    have hw:s.w=none:=hok.vw (by rw[hv];simp);have hup:upM s=s:=by unfold upM;rw[hw]
    have hk:kdM s=6:=by unfold kdM;rw[hv]
    simp only
    by_cases hc:r.mac=[69,69]∨r.mac=[102,105]
    ·have hm:jo r.mac=some (.en 6):=by rcases hc with e | e<;>rw[e]<;>rfl
     rw[Pk hc,Pd (by simp[hc]),hm];simp[doS,hup,hk,hv]
    ·rw[Pd hc,Pk (by simpa using hc)]
   | none=>
    simp only[Bool.true_eq_false,QO];exact DW I9 r (u2.trans hv) (u3.trans hg)
section
variable {BI:BIT} {TB:World→Prop} {w w0:World} {B:Nat} {s:Md} {Y Q:Nat→Prop}
theorem FB (I:bI BI TB) (h:MM BI w0 Y w B s) (hT:TB w0) (hEr:Er w0) {x:RV} {r:bu} (hx:iB w0 x r) (hl:gT r) (hbs:btl s.b≤30000) (hb:btl (aP s.b [4])+(df 0 (r.args.take 1)).1.length+3≤30000) (hD:s.d.length≤400000):
  Calls Tryz.prog 54 #[ax B,.agg (ak x).toArray] w (dH BI w0 Y w B (.tuple #[]) (Cy s r)):=by
 obtain⟨xl,xm,⟨va,vn,vc⟩,xt⟩:=x;have hxa:=hx.args;simp only[bG]at hxa
 cases ha:r.args with
 | nil=>
  rw[ha]at hxa;obtain⟨a',c',e4⟩:=hxa.len;injection e4 with e1 e2 e3
  simp only[Pm]at e2;subst e1 e2 e3
  cases va with
  | none=>exact Fz I h hT hEr hx hl (by rw[ha];exact hxa) hbs hb hD
  | some A=>exact Ci I h hT hEr hx hl (by rw[ha];exact hxa) hbs hb hD
 | cons a l=>
  rw[ha]at hxa;obtain⟨a',c',e4,hc,hr⟩:=hxa;injection e4 with e1 e2 e3
  simp only[Pe]at e2 hc;subst e1 e2 e3;obtain⟨g,off,rfl,h0⟩:=hr 0 a rfl;refine Fy I h hT hEr hx hl ?_ hc hbs hb hD;rw[ha];refine⟨_,_,rfl,by simp;omega,fun j y hj=>?_⟩
  cases j with
  | zero=>
   obtain rfl:a=y:=by simpa using hj
   exact⟨g,off,rfl,h0⟩
  | succ j=>simp at hj
theorem Au: ∀K:List Int,aA gJ K=K.map (fun z=>Value.int .i64 z)
 | []=>rfl
 | a::l=>by rw[dZ,Au l];rfl
theorem nU (L:List Txt):(df 0 L).1.length≤lnT L:=by rw[ig];unfold dC;have:=(dR 0 L ([],[])).1;simpa using this
theorem wC (L:List Txt):lnT (L.take 1)≤lnT L:=by
 cases L with
 | nil=>simp[lnT]
 | cons a l=>simp[lnT]
structure StepB (okl:Int→Prop) (s:Md) (r:bu):Prop where
 le:gT r
 b:btl s.b+r.text.length+lnT r.args+20≤30000
 d:s.d.length≤390000
 rw:(rwM s).length≤500000
 tx:(txM s).length≤500000
 v: ∀v0,s.v=some v0→btl s.b+(v0.2.length+lens v0.2)+10≤30000
 g: ∀g0,s.g=some g0→okl g0.1∧lnT g0.2≤40000∧(∀x∈g0.2,x.length≤2000)∧btl s.b+((I9.tab g0.1 g0.2).1.cols.length+bX (I9.tab g0.1 g0.2).1.rows)+10≤30000∧s.d.length+(I9.tab g0.1 g0.2).2.length≤800000
theorem StepB.up {okl:Int→Prop} {r:bu} (h:StepB okl s r):btl (upM s).b+r.text.length+lnT r.args+20≤30000∧(upM s).d.length≤400000:=by
 obtain⟨u1,u2,u3,u4,u5,u6⟩:=iC s;have:=h.b;have:=h.d;exact⟨by rw[u1];omega,by omega⟩
def Apt (lo:Nat) (W0 w:World) (Y:Nat→Prop):Prop:= ∀k,lo≤k→k<W0.heap.size→w.heap[k]? =W0.heap[k]? ∧ ¬Y k
theorem Apt.blk {lo:Nat} {W0:World} (h:Apt lo W0 w Y) {F:Nat} {t:TypeId} {L:List Value} (hk:Blk W0 F t L) (hl:lo<F):Blk w F t L∧ ¬Y F:=⟨(h F (by omega) hk.lt).1.trans hk,(h F (by omega) hk.lt).2⟩
theorem KY (I:bI BI TB) (h:MM BI w0 Y w B s) (hT:TB w0) (hEr:Er w0) {okl:Int→Prop} (hTab:Dp TB I9.tab okl) {x:RV} {r:bu} (hx:iB w0 x r) (hw:s.w=none) (hle:gT r) (hb:btl s.b+r.text.length+lnT r.args+20≤30000) (hd:s.d.length≤400000)
  (hv: ∀v0,s.v=some v0→btl s.b+(v0.2.length+lens v0.2)+10≤30000)
  (hg: ∀g0,s.g=some g0→okl g0.1∧lnT g0.2≤40000∧(∀x∈g0.2,x.length≤2000)∧btl s.b+((I9.tab g0.1 g0.2).1.cols.length+bX (I9.tab g0.1 g0.2).1.rows)+10≤30000∧s.d.length+(I9.tab g0.1 g0.2).2.length≤900000)
  {lo:Nat} {W0:World} (hA:Apt lo W0 w Y) {m:vJ} {v:Value} (hm:lH lo W0 B m v) (hblk:kdM s≠0→m= .en (kdM s)) (hbe: ∀k,m= .be k→k=6∨k=7) (hok:MOk s) (hhe: ∀k K,m= .he k K→K.length≤100) (hen: ∀k,m= .en k→k≠0):
  ∃n first caps,v= .func (.func n) first caps∧Calls Tryz.prog n (first++ #[.agg (ak x).toArray]++caps) w (dH BI w0 Y w B (.tuple #[]) (doS I9 s r m)):=by
 have hln:=hx.line;have hkd:m≠ .en (kdM s)→s.v=none∧s.g=none:=fun hne=>by
  have h0:kdM s=0:=Qj (fun q=>hne (hblk q));unfold kdM at h0
  cases hv:s.v with
  | some v=>rw[hv]at h0;simp at h0
  | none=>
   cases hg:s.g with
   | some g=>rw[hv,hg]at h0;simp at h0
   | none=>exact⟨rfl,rfl⟩
 cases m with
 | ti=>
  obtain rfl:=hm;refine⟨_,_,_,rfl,?_⟩;show Calls _ _ #[ax B,.agg (ak x).toArray] _ _;unfold doS Ki
  cases hth:s.th with
  | true=>rw[Pk rfl,←hln];exact Fj I h x hth (by omega)
  | false=>rw[Pd (by simp)];exact Cc I h hT x hx hth
 | he k K=>
  obtain⟨F1,F2,F3,g,rfl,h1,h2,h3,h4,l1,l2,l3,l4⟩:=hm;obtain⟨k1,y1⟩:=hA.blk h1 l1;obtain⟨k2,y2⟩:=hA.blk h2 l2;obtain⟨k3,y3⟩:=hA.blk h3 l3;obtain⟨k4,y4⟩:=hA.blk h4 l4;obtain⟨e1,e2⟩:=hkd (by simp);have hkv:FsS (fun k=>k=g) 1 gJ w (.slice (some ⟨g,0,none⟩) K.length K.length) K:=by
   refine⟨⟨_,_,rfl,OW _,fun j z hj=>⟨g,0,rfl,fun i c hc=>?_⟩⟩,fun a k c e _=>?_⟩
   ·have hi:i=0:=by
     rcases i with _ | i
     ·rfl
     ·simp[gJ]at hc
    subst hi;have hc':c= .int .i64 z:=by simpa[gJ] using hc.symm
    subst hc';have:=k4.cell j;simp only[QU,PW,Qu];rw[this];have hf:aA gJ K=K.map (fun z=>Value.int .i64 z):=Au K;rw[hf,Qf,hj];rfl
   ·injection e with e1
    injection e1 with e1
    subst e1;exact⟨rfl,fun _ i _=>by
     have hq:w.heap[g]? =_:=k4;simp only[World.frozen?,hq];simp⟩
  refine⟨_,_,_,rfl,?_⟩;show Calls _ _ #[.agg (ak x).toArray,ax F1,ax F3,ax F2] _ _;have hKl:K.length≤100:=hhe k K rfl;unfold doS uu;simp only
  by_cases ha:r.args=[]
  ·rw[Pk ha,←hln]
   exact IA I h hT e1 e2 hx ha k K _ F1 F2 F3 k1 k2 k3 hkv (fun j q=>by rw[q];exact⟨k4.lt,y4⟩) hKl y1 y2 y3 (by omega) hd
  ·rw[Pd ha]
   have hb2:=jO s.b K;have hw1:=nU r.args;have hq:=FH I h hT hx hle ha k K _ F1 F2 F3 k1 k2 k3 hkv (fun j q=>by rw[q];exact⟨k4.lt,y4⟩) hKl y1 y2 y3 (by omega) (by omega) hd;rw[hln]at hq;exact hq
 | pa=>
  obtain rfl:=hm;exact⟨_,_,_,rfl,Fu I h hT x (by omega)⟩
 | tg=>
  obtain rfl:=hm;obtain⟨e1,e2⟩:=hkd (by simp);exact⟨_,_,_,rfl,zX I h hT hEr e1 e2 hx hle (by omega) hd⟩
 | it=>
  obtain rfl:=hm;refine⟨_,_,_,rfl,?_⟩;have hb2:=jO s.b [4];have hw1:=nU (r.args.take 1);have hw2:=wC r.args;exact FB I h hT hEr hx hle (by omega) (by omega) hd
 | nd=>
  obtain rfl:=hm;exact⟨_,_,_,rfl,Ab I h hT hEr hx hle (by omega) hd⟩
 | ou=>
  obtain rfl:=hm;refine⟨_,_,_,rfl,?_⟩;unfold doS;rw[←hln];exact xV I h hT x (by omega) (by omega)
 | be k=>
  obtain⟨F1,F2,rfl,h1,h2,l1,l2⟩:=hm;obtain⟨k1,y1⟩:=hA.blk h1 l1;obtain⟨k2,y2⟩:=hA.blk h2 l2;obtain⟨e1,e2⟩:=hkd (by simp);refine⟨_,_,_,rfl,?_⟩;have e:doS I9 s r (.be k)=iZ s k r.line:=rfl;rw[e,←hln];exact Ah I h hT e1 e2 hw x k (hbe k rfl) F1 F2 k1 k2 y1 y2 (by omega)
 | en k=>
  obtain⟨F1,F2,rfl,h1,h2,l1,l2⟩:=hm;obtain⟨k1,y1⟩:=hA.blk h1 l1;obtain⟨k2,y2⟩:=hA.blk h2 l2;refine⟨_,_,_,rfl,?_⟩;have e:doS I9 s r (.en k)=if kdM s=k then(match s.v with
   | some v=>qW s v
   | none=>match s.g with
    | some g=>AC I9 s g
    | none=>s) else aK s 6 r.line:=rfl
  rw[e]
  by_cases hk:kdM s=k
  ·rw[Pk hk]
   refine FI I h x k hk F1 F2 k1 k2 (fun V hV=>?_)
   cases hsv:s.v with
   | some v0=>exact wy I hV hT hsv (hv v0 hsv)
   | none=>
    cases hsg:s.g with
    | some g0=>
     obtain⟨p1,p2,p3,p4,p5⟩:=hg g0 hsg;exact wB I hV hT hTab hsg p1 p2 p3 p4 p5
    | none=>exact absurd (by rw[←hk];unfold kdM;rw[hsv,hsg]) (hen k rfl)
  ·rw[Pd hk,←hln]
   exact IB I h x k hk F1 F2 k1 k2 (by omega)
end
abbrev kU:List Value:=[.string ⟨#[]⟩,.string ⟨#[]⟩,.string ⟨#[]⟩,.string ⟨#[]⟩,.slice none 0 0]
section
variable {BI:BIT} {TB:World→Prop} {w W0 W:World} {lo B P:Nat} {s:Md} {Y:Nat→Prop}
structure LpI (BI:BIT) (w W0:World) (lo B P:Nat) (Y:Nat→Prop) (W:World) (s:Md):Prop where
 mm:MM BI w Y W B s
 apt:Apt lo W0 W Y
 sz:W0.heap.size≤W.heap.size
 doc:Blk W P 38 kU
 ny: ¬Y P
theorem LpI.below (I:dV BI) (h:LpI BI w W0 lo B P Y W s) {W':World} (hb:Below W.heap.size W W'):LpI BI w W0 lo B P Y W' s:=
 ⟨h.mm.keep I hb,fun k a b=>⟨(hb.block k (by have:=h.sz;omega)).trans (h.apt k a b).1,(h.apt k a b).2⟩,Pp h.sz hb.size,h.doc.below hb,h.ny⟩
theorem LpI.aft (I:dV BI) (h:LpI BI w W0 lo B P Y W s) {W':World} {s':Md} (m:bB BI w Y W B s' W'): ∃Y',LpI BI w W0 lo B P Y' W' s'∧ ∀F t L,Blk W F t L→ ¬Y F→Blk W' F t L∧ ¬Y' F:=by
 obtain⟨Y',h1,h2,h3⟩:=m;have hs:=h2.size;have hsz:=h.sz;have hk: ∀F t L,Blk W F t L→ ¬Y F→Blk W' F t L∧ ¬Y' F:=fun F t L hb hy=>⟨h2.blk hb hy,fun e=>by rcases h3 F e with z | z;exact hy z;have:=hb.lt;omega⟩
 exact⟨Y',⟨h1,fun k a b=>⟨(h2.block k (by omega) (h.apt k a b).2).trans (h.apt k a b).1,fun e=>by rcases h3 k e with z | z;exact(h.apt k a b).2 z;omega⟩,by omega,(hk _ _ _ h.doc h.ny).1,(hk _ _ _ h.doc h.ny).2⟩,hk⟩
theorem MM.ok (h:MM BI w Y W B s):MOk s:=by obtain⟨-,-,X,R,lo,b,wv,rv,tv,dv,h3,-⟩:=h;exact h3.ok
theorem IP {s:Md} {r:bu} (h:(lw s r).2=false):(lw s r).1=s:=by
 unfold lw at h ⊢
 cases hg:s.g with
 | some g=>
  rw[hg]at h;simp only at h ⊢
  by_cases hm:r.mac=[]
  ·rw[Pk hm]at h;cases h
  ·rw[Pd hm]
 | none=>
  rw[hg]at h;simp only at h ⊢
  cases hi:fD r with
  | some q=>rw[hi]at h;cases h
  | none=>rfl
theorem Lm {s:Md} {m:Txt} {k:vJ} (h:qM s m=true) (hk:jo m=some k) (hn:kdM s≠0):k= .en (kdM s):=by
 unfold qM at h;unfold kdM at hn ⊢
 cases hv:s.v with
 | some v=>
  rw[hv]at h;simp only at h ⊢;rcases Qq h with e | e<;>(rw[e]at hk;exact(Ph hk).symm)
 | none=>
  rw[hv]at h hn;simp only at h hn ⊢
  cases hg:s.g with
  | some g=>
   rw[hg]at h;simp only at h ⊢;rw[Qq h]at hk;exact(Ph hk).symm
  | none=>rw[hg]at hn;exact absurd rfl hn
theorem uh {b:Txt} {m:vJ} (h:jo b=some m):(∀k,m= .be k→k=6∨k=7)∧(∀k K,m= .he k K→K.length≤100)∧ ∀k,m= .en k→k≠0:=by
 have hm: ∃b,(b,m)∈dK:=by
  unfold jo at h;rw[Option.map_eq_some_iff]at h;obtain⟨p,hp,rfl⟩:=h;exact⟨p.1,List.mem_of_find?_eq_some hp⟩
 obtain⟨b,hb⟩:=hm;simp only[dK,P6,QK,P8,QN]at hb;rcases hb with⟨-,rfl⟩| ⟨-,rfl⟩| ⟨-,rfl⟩| ⟨-,rfl⟩| ⟨-,rfl⟩| ⟨-,rfl⟩| ⟨-,rfl⟩| ⟨-,rfl⟩| ⟨-,rfl⟩| ⟨-,rfl⟩| ⟨-,rfl⟩| ⟨-,rfl⟩| ⟨-,rfl⟩| ⟨-,rfl⟩| ⟨-,rfl⟩| ⟨-,rfl⟩
 all_goals
  refine⟨fun k e=>?_,fun k K e=>?_,fun k e=>?_⟩
  all_goals first
   | (cases e;decide)
   | cases e
theorem IC (I:bI BI TB) (h:MM BI w Y W B s) (hT:TB w) {okl:Int→Prop} (hTab:Dp TB I9.tab okl) (hd:s.d.length≤390000)
  (hv: ∀v0,s.v=some v0→btl s.b+(v0.2.length+lens v0.2)+10≤30000)
  (hg: ∀g0,s.g=some g0→okl g0.1∧lnT g0.2≤40000∧(∀x∈g0.2,x.length≤2000)∧btl s.b+((I9.tab g0.1 g0.2).1.cols.length+bX (I9.tab g0.1 g0.2).1.rows)+10≤30000∧s.d.length+(I9.tab g0.1 g0.2).2.length≤400000):
  Calls Tryz.prog 30 #[ax B] W (dH BI w Y W B (.tuple #[]) (CP I9 s)):=by
 obtain⟨u1,u2,u3,u4,u5,u6⟩:=iC s;have hok:=h.ok;unfold CP Gc Jf
 cases hsv:s.v with
 | some v0=>
  have hgn:s.g=none:=hok.vg.resolve_left (by rw[hsv];simp);rw[u3,hgn];simp only;rw[u2,hsv];have hk:kdM (upM s)=6:=by unfold kdM;rw[u2,hsv]
  have hl:lnM (upM s)=v0.1:=by unfold lnM;rw[u2,hsv]
  refine IE I h rfl (by rw[hk];decide) (by omega) (by omega) (s3:=qW (aK (upM s) 7 v0.1) v0) (by simp[qW,aK];omega) (fun V Y1 hM=>?_);rw[hl]at hM;exact wy I hM hT (u2.trans hsv) (by have:=hv v0 hsv;simp only[aK,u1];exact this)
 | none=>
  cases hsg:s.g with
  | some g0=>
   rw[u3,hsg];simp only;have hvn:(AC I9 (aK (upM s) 7 g0.1) g0).v=none:=u2.trans hsv;rw[hvn];have hk:kdM (upM s)=7:=by unfold kdM;rw[u2,hsv,u3,hsg]
   have hl:lnM (upM s)=g0.1:=by unfold lnM;rw[u2,hsv,u3,hsg]
   obtain⟨p1,p2,p3,p4,p5⟩:=hg g0 hsg;refine IE I h rfl (by rw[hk];decide) (by omega) (by omega) (s3:=AC I9 (aK (upM s) 7 g0.1) g0) (by simp[AC,aK];omega) (fun V Y1 hM=>?_);rw[hl]at hM;exact wB I hM hT hTab (u3.trans hsg) p1 p2 p3 (by simp only[aK,u1];exact p4) (by simp[aK];omega)
  | none=>
   rw[u3,hsg];simp only;rw[u2,hsv];simp only;exact MZ I h rfl (by unfold kdM;rw[u2,hsv,u3,hsg]) (by omega) (by omega)
end
end Go.Proofs.YtebabjnngdjceaaGreatDoor
