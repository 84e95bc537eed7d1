/- The document's answer for layer 8: Add. The document's answer for layer 8: Shut, Close, Doc. The document's answer for layer 8: Close. The document's answer for layer 8: Doc. -/
import Derived.Test.YtpccjgoeoeehoaaDoorB8
import Derived.Test.YtpccjgoeoeehoaaDoorDo
set_option linter.unusedVariables false
set_option linter.unusedSimpArgs false
namespace Go.Proofs.YtpccjgoeoeehoaaDoor
open Go.RowKit
theorem set9_cell {W : World} {g o : Nat} (t : Bt) (x : TV) (h : o ≠ g) (j : Nat) : (set9 W g t x).cell? ⟨o, j, none⟩ = W.cell? ⟨o, j, none⟩ := World.cell?_of_block (set9_heap W g t x h)
set_option maxRecDepth 100000 in
set_option maxHeartbeats 8000000 in
theorem radd8_any (S : Nat → Prop) (x : TV) (t : Bt) (nv : NV) (y : Nd) (w : World) (hS : ∀ b, S b → b < w.heap.size) (h : BtIs S w x t) (hn : NdIs S w nv y) (hb : btl t + nlN y ≤ 40000) :
    Calls Tryd.prog 39 #[.agg (tvcell t x).toArray, .agg (ncell nv).toArray] w (BtQ S (bAdd t y) w) := by
  obtain ⟨W0, hW0⟩ : ∃ W, W = ((w.alloc (.cells (tvcell t x).toArray 32)).alloc (.cells (ncell nv).toArray 40)).alloc (.cells zTV.toArray 32) := ⟨_, rfl⟩
  obtain ⟨T0, kN, nN, hz⟩ := TBx.start3 hS h hn W0 hW0
  obtain ⟨X, hX⟩ : ∃ X : Nat → Prop, X = (fun b => b = w.heap.size ∨ b = w.heap.size + 1 ∨ b = w.heap.size + 1 + 1) := ⟨_, rfl⟩
  rw [← hX] at T0
  clear hX
  have hbt0 : btl t = nlL t.kids + nlL t.opn + t.text.length := rfl
  obtain ⟨⟨a1, a2, a3⟩, ⟨b1, b2, b3⟩, ⟨e1, e2, e3⟩⟩ := x
  have HT0 := Lib.hid T0
  have HW0 := Lib.hid hW0
  simp only [zTV] at HW0
  obtain ⟨xk, xl, xn, ⟨t1, t2, t3⟩, ⟨k1, k2, k3⟩, ⟨r1, r2, r3⟩, xc, ⟨q1, q2, q3⟩, xb, xa⟩ := nv
  have hbe := btl_end t
  have nN' := nN.mono (T := Fp S X w W0) (fun b q => Or.inl q)
  have HSC : Hid (∀ W, Below W0.heap.size W0 W → W.cell? ⟨w.heap.size, 0, none⟩ = some (.string ⟨t.nm.a.toArray⟩) ∧ W.cell? ⟨w.heap.size, 1, none⟩ = some (.string ⟨t.nm.b.toArray⟩) ∧ W.cell? ⟨w.heap.size, 2, none⟩ = some (.string ⟨t.nm.c.toArray⟩) ∧ W.cell? ⟨w.heap.size, 3, none⟩ = some (.string ⟨t.nm.d.toArray⟩) ∧ W.cell? ⟨w.heap.size, 4, none⟩ = some (.slice a1 a2 a3) ∧ W.cell? ⟨w.heap.size, 5, none⟩ = some (.slice b1 b2 b3) ∧ W.cell? ⟨w.heap.size, 6, none⟩ = some (.slice e1 e2 e3) ∧ W.cell? ⟨w.heap.size, 7, none⟩ = some (.int .i64 t.line) ∧ W.cell? ⟨w.heap.size, 8, none⟩ = some (.bool t.has) ∧ W.cell? ⟨w.heap.size + 1, 0, none⟩ = some (.int .i64 xk) ∧ W.cell? ⟨w.heap.size + 1, 1, none⟩ = some (.int .i64 xl) ∧ W.cell? ⟨w.heap.size + 1, 2, none⟩ = some (.int .i64 xn) ∧ W.cell? ⟨w.heap.size + 1, 3, none⟩ = some (.slice t1 t2 t3) ∧ W.cell? ⟨w.heap.size + 1, 4, none⟩ = some (.slice k1 k2 k3) ∧ W.cell? ⟨w.heap.size + 1, 5, none⟩ = some (.slice r1 r2 r3) ∧ W.cell? ⟨w.heap.size + 1, 6, none⟩ = some (.string ⟨xc.toArray⟩) ∧ W.cell? ⟨w.heap.size + 1, 7, none⟩ = some (.slice q1 q2 q3) ∧ W.cell? ⟨w.heap.size + 1, 8, none⟩ = some (.bool xb) ∧ W.cell? ⟨w.heap.size + 1, 9, none⟩ = some (.bool xa)) := Lib.hid (fun W hb => ⟨(T0.box.below hb).cell 0, (T0.box.below hb).cell 1, (T0.box.below hb).cell 2, (T0.box.below hb).cell 3, (T0.box.below hb).cell 4, (T0.box.below hb).cell 5, (T0.box.below hb).cell 6, (T0.box.below hb).cell 7, (T0.box.below hb).cell 8, (kN.below hb).cell 0, (kN.below hb).cell 1, (kN.below hb).cell 2, (kN.below hb).cell 3, (kN.below hb).cell 4, (kN.below hb).cell 5, (kN.below hb).cell 6, (kN.below hb).cell 7, (kN.below hb).cell 8, (kN.below hb).cell 9⟩)
  obtain ⟨tb, htb⟩ : ∃ tb, bEnd t = tb := ⟨_, rfl⟩
  obtain ⟨tc, htc⟩ : ∃ tc, bAdd t y = tc := ⟨_, rfl⟩
  have htc2 : bLay tb y = tc := by rw [← htb, ← htc]; rfl
  rw [htb] at hbe
  have HP36 : Hid (∀ W, Below W0.heap.size W0 W → Calls Tryd.prog 38 #[.agg #[.string ⟨t.nm.a.toArray⟩, .string ⟨t.nm.b.toArray⟩, .string ⟨t.nm.c.toArray⟩, .string ⟨t.nm.d.toArray⟩, .slice a1 a2 a3, .slice b1 b2 b3, .slice e1 e2 e3, .int .i64 t.line, .bool t.has]] W fun e w' => ∃ c1 c2 c3 d1 d2 d3 g1 g2 g3, e = .returned (.agg #[.string ⟨tb.nm.a.toArray⟩, .string ⟨tb.nm.b.toArray⟩, .string ⟨tb.nm.c.toArray⟩, .string ⟨tb.nm.d.toArray⟩, .slice c1 c2 c3, .slice d1 d2 d3, .slice g1 g2 g3, .int .i64 tb.line, .bool tb.has]) ∧ Below W0.heap.size W0 w' ∧ BtIs (Fp S X w w') w' ⟨(c1, c2, c3), (d1, d2, d3), (g1, g2, g3)⟩ tb) := Lib.hid (fun W hb => by
    have TW := T0.keep hb
    have := rend_any (Fp S X w W) ⟨(a1, a2, a3), (b1, b2, b3), (e1, e2, e3)⟩ t W TW.inn TW.bt (by omega)
    rw [htb] at this
    exact this.mono (fun e w' ⟨⟨⟨c1, c2, c3⟩, ⟨d1, d2, d3⟩, ⟨g1, g2, g3⟩⟩, q1, q2, q3⟩ => ⟨c1, c2, c3, d1, d2, d3, g1, g2, g3, q1, hb.trans (q3.mono hb.size), q2.mono (Fp.mo TW.bel.size TW.hX q3.size)⟩))
  have HP51 : Hid (∀ W c1 c2 c3 d1 d2 d3 g1 g2 g3, Below W0.heap.size W0 W → BtIs (Fp S X w W) W ⟨(c1, c2, c3), (d1, d2, d3), (g1, g2, g3)⟩ tb → Calls Tryd.prog 62 #[.agg #[.string ⟨tb.nm.a.toArray⟩, .string ⟨tb.nm.b.toArray⟩, .string ⟨tb.nm.c.toArray⟩, .string ⟨tb.nm.d.toArray⟩, .slice c1 c2 c3, .slice d1 d2 d3, .slice g1 g2 g3, .int .i64 tb.line, .bool tb.has], .agg #[.int .i64 xk, .int .i64 xl, .int .i64 xn, .slice t1 t2 t3, .slice k1 k2 k3, .slice r1 r2 r3, .string ⟨xc.toArray⟩, .slice q1 q2 q3, .bool xb, .bool xa]] W fun e w' => ∃ h1 h2 h3 i1 i2 i3 j1 j2 j3, e = .returned (.agg #[.string ⟨tc.nm.a.toArray⟩, .string ⟨tc.nm.b.toArray⟩, .string ⟨tc.nm.c.toArray⟩, .string ⟨tc.nm.d.toArray⟩, .slice h1 h2 h3, .slice i1 i2 i3, .slice j1 j2 j3, .int .i64 tc.line, .bool tc.has]) ∧ Below W0.heap.size W0 w' ∧ BtIs (Fp S X w w') w' ⟨(h1, h2, h3), (i1, i2, i3), (j1, j2, j3)⟩ tc) := Lib.hid (fun W c1 c2 c3 d1 d2 d3 g1 g2 g3 hb hbt => by
    have TW := T0.keep hb
    have := rlay_any (Fp S X w W) ⟨(c1, c2, c3), (d1, d2, d3), (g1, g2, g3)⟩ tb _ y W TW.inn hbt ((nN'.keep (Fp.kp T0.hS T0.bel.size hb)).mono (Fp.up hb.size)) (by omega)
    rw [htc2] at this
    exact this.mono (fun e w' ⟨⟨⟨h1, h2, h3⟩, ⟨i1, i2, i3⟩, ⟨j1, j2, j3⟩⟩, q1, q2, q3⟩ => ⟨h1, h2, h3, i1, i2, i3, j1, j2, j3, q1, hb.trans (q3.mono hb.size), q2.mono (Fp.mo TW.bel.size TW.hX q3.size)⟩))
  rw [htc]
  have HX : Hid (Below W0.heap.size W0 W0.drew) := Lib.hid (Below.refl _ W0).drew
  clear T0 hW0 h hn hS kN nN nN' hz htb htc htc2 hbe hbt0
  go_enter Tryd.func39, Tryd.ntmps39
  go_upto_region 1 with fail
  rw [← HW0.out]
  clear HW0
  refine wp_region_held_drew (S := (fun W' => W'.cell? ⟨w.heap.size, 0, none⟩ = some (.string ⟨t.nm.a.toArray⟩) ∧ W'.cell? ⟨w.heap.size, 1, none⟩ = some (.string ⟨t.nm.b.toArray⟩) ∧ W'.cell? ⟨w.heap.size, 2, none⟩ = some (.string ⟨t.nm.c.toArray⟩) ∧ W'.cell? ⟨w.heap.size, 3, none⟩ = some (.string ⟨t.nm.d.toArray⟩) ∧ W'.cell? ⟨w.heap.size, 4, none⟩ = some (.slice a1 a2 a3) ∧ W'.cell? ⟨w.heap.size, 5, none⟩ = some (.slice b1 b2 b3) ∧ W'.cell? ⟨w.heap.size, 6, none⟩ = some (.slice e1 e2 e3) ∧ W'.cell? ⟨w.heap.size, 7, none⟩ = some (.int .i64 t.line) ∧ W'.cell? ⟨w.heap.size, 8, none⟩ = some (.bool t.has) ∧ W'.cell? ⟨w.heap.size + 1, 0, none⟩ = some (.int .i64 xk) ∧ W'.cell? ⟨w.heap.size + 1, 1, none⟩ = some (.int .i64 xl) ∧ W'.cell? ⟨w.heap.size + 1, 2, none⟩ = some (.int .i64 xn) ∧ W'.cell? ⟨w.heap.size + 1, 3, none⟩ = some (.slice t1 t2 t3) ∧ W'.cell? ⟨w.heap.size + 1, 4, none⟩ = some (.slice k1 k2 k3) ∧ W'.cell? ⟨w.heap.size + 1, 5, none⟩ = some (.slice r1 r2 r3) ∧ W'.cell? ⟨w.heap.size + 1, 6, none⟩ = some (.string ⟨xc.toArray⟩) ∧ W'.cell? ⟨w.heap.size + 1, 7, none⟩ = some (.slice q1 q2 q3) ∧ W'.cell? ⟨w.heap.size + 1, 8, none⟩ = some (.bool xb) ∧ W'.cell? ⟨w.heap.size + 1, 9, none⟩ = some (.bool xa))) (by kernel_rfl) ?_ (fun hHeld => ?_)
  · exact HSC.out _ HX.out
  refine wpAnyH_take (i := 0) (v := .agg #[.string ⟨t.nm.a.toArray⟩, .string ⟨t.nm.b.toArray⟩, .string ⟨t.nm.c.toArray⟩, .string ⟨t.nm.d.toArray⟩, .slice a1 a2 a3, .slice b1 b2 b3, .slice e1 e2 e3, .int .i64 t.line, .bool t.has]) rfl (by kernel_rfl) (by kernel_rfl) (by kernel_rfl) (fun _ _ _ h => h) (Or.inl ⟨by rfl, fun w' hSw => by (try dsimp only at hSw); go_simp⟩) (by assumption) ?_
  simp only [List.getElem_toArray, List.getElem_cons_succ, List.getElem_cons_zero, Act.put, List.setIfInBounds_toArray, List.set_cons_zero, List.set_cons_succ]
  refine wpAnyH_take (i := 2) (v := .agg #[.int .i64 xk, .int .i64 xl, .int .i64 xn, .slice t1 t2 t3, .slice k1 k2 k3, .slice r1 r2 r3, .string ⟨xc.toArray⟩, .slice q1 q2 q3, .bool xb, .bool xa]) rfl (by kernel_rfl) (by kernel_rfl) (by kernel_rfl) (fun _ _ _ h => h) (Or.inl ⟨by rfl, fun w' hSw => by (try dsimp only at hSw); go_simp⟩) (by assumption) ?_
  simp only [List.getElem_toArray, List.getElem_cons_succ, List.getElem_cons_zero, Act.put, List.setIfInBounds_toArray, List.set_cons_zero, List.set_cons_succ]
  refine wpAnyH_ready (rs := [1]) (by kernel_rfl) (by simp) ?_
  refine AllReadyH.cons rfl (fun K hK => ?_) AllReadyH.nil
  try simp only [List.getElem_toArray, List.getElem_cons_succ, List.getElem_cons_zero]
  go_simp
  go_at_call 38
  refine (HP36.out _ HX.out).mono ?_
  rintro e w7 ⟨c1, c2, c3, d1, d2, d3, g1, g2, g3, rfl, b7, hq⟩
  clear HX
  have HX := Lib.hid b7
  have HQ := Lib.hid hq
  clear b7 hq
  go_wp2_with fail
  refine hK.out _ _ ?_ (fun hHeld => ?_)
  · exact HSC.out _ HX.out
  clear hK K
  try simp only [List.getElem_toArray, List.getElem_cons_succ, List.getElem_cons_zero, Act.put, List.setIfInBounds_toArray, List.set_cons_zero, List.set_cons_succ]
  refine wpAnyH_ready (rs := [3]) (by kernel_rfl) (by simp) ?_
  refine AllReadyH.cons rfl (fun K hK => ?_) AllReadyH.nil
  try simp only [List.getElem_toArray, List.getElem_cons_succ, List.getElem_cons_zero]
  go_simp
  go_at_call 62
  refine (HP51.out _ _ _ _ _ _ _ _ _ _ HX.out HQ.out).mono ?_
  rintro e w7 ⟨h1, h2, h3, i1, i2, i3, j1, j2, j3, rfl, b7, hq⟩
  clear HX HQ
  have HX := Lib.hid b7
  have HQ := Lib.hid hq
  clear b7 hq
  go_wp2_with fail
  refine hK.out _ _ ?_ (fun hHeld => ?_)
  · exact HSC.out _ HX.out
  clear hK K
  try simp only [List.getElem_toArray, List.getElem_cons_succ, List.getElem_cons_zero, Act.put, List.setIfInBounds_toArray, List.set_cons_zero, List.set_cons_succ]
  have TG := Lib.hid (HT0.out.keep HX.out)
  have z0 : w7.cell? ⟨w.heap.size + 1 + 1, 0, none⟩ = some (.string ⟨#[]⟩) := TG.out.res.cell 0
  have z1 : w7.cell? ⟨w.heap.size + 1 + 1, 1, none⟩ = some (.string ⟨#[]⟩) := TG.out.res.cell 1
  have z2 : w7.cell? ⟨w.heap.size + 1 + 1, 2, none⟩ = some (.string ⟨#[]⟩) := TG.out.res.cell 2
  have z3 : w7.cell? ⟨w.heap.size + 1 + 1, 3, none⟩ = some (.string ⟨#[]⟩) := TG.out.res.cell 3
  have z4 : w7.cell? ⟨w.heap.size + 1 + 1, 4, none⟩ = some (.slice none 0 0) := TG.out.res.cell 4
  have z5 : w7.cell? ⟨w.heap.size + 1 + 1, 5, none⟩ = some (.slice none 0 0) := TG.out.res.cell 5
  have z6 : w7.cell? ⟨w.heap.size + 1 + 1, 6, none⟩ = some (.slice none 0 0) := TG.out.res.cell 6
  have z7 : w7.cell? ⟨w.heap.size + 1 + 1, 7, none⟩ = some (.int .i64 0) := TG.out.res.cell 7
  have z8 : w7.cell? ⟨w.heap.size + 1 + 1, 8, none⟩ = some (.bool false) := TG.out.res.cell 8
  have v0 : w7.frozen? ⟨w.heap.size + 1 + 1, 0, none⟩ = false := TG.out.res.frozen (by simp [zTV])
  have v1 : w7.frozen? ⟨w.heap.size + 1 + 1, 1, none⟩ = false := TG.out.res.frozen (by simp [zTV])
  have v2 : w7.frozen? ⟨w.heap.size + 1 + 1, 2, none⟩ = false := TG.out.res.frozen (by simp [zTV])
  have v3 : w7.frozen? ⟨w.heap.size + 1 + 1, 3, none⟩ = false := TG.out.res.frozen (by simp [zTV])
  have v4 : w7.frozen? ⟨w.heap.size + 1 + 1, 4, none⟩ = false := TG.out.res.frozen (by simp [zTV])
  have v5 : w7.frozen? ⟨w.heap.size + 1 + 1, 5, none⟩ = false := TG.out.res.frozen (by simp [zTV])
  have v6 : w7.frozen? ⟨w.heap.size + 1 + 1, 6, none⟩ = false := TG.out.res.frozen (by simp [zTV])
  have v7 : w7.frozen? ⟨w.heap.size + 1 + 1, 7, none⟩ = false := TG.out.res.frozen (by simp [zTV])
  have v8 : w7.frozen? ⟨w.heap.size + 1 + 1, 8, none⟩ = false := TG.out.res.frozen (by simp [zTV])
  refine wpAnyH_ready (rs := [4]) (by kernel_rfl) (by simp) ?_
  refine AllReadyH.cons rfl (fun K hK => ?_) AllReadyH.nil
  try simp only [List.getElem_toArray, List.getElem_cons_succ, List.getElem_cons_zero]
  go_simp
  refine hK.out _ _ ?_ (fun hHeld => ?_)
  · exact ⟨(set9_cell (g := w.heap.size + 1 + 1) tc ⟨(h1, h2, h3), (i1, i2, i3), (j1, j2, j3)⟩ (by omega) 0).trans (HSC.out _ HX.out).1, (set9_cell (g := w.heap.size + 1 + 1) tc ⟨(h1, h2, h3), (i1, i2, i3), (j1, j2, j3)⟩ (by omega) 1).trans (HSC.out _ HX.out).2.1, (set9_cell (g := w.heap.size + 1 + 1) tc ⟨(h1, h2, h3), (i1, i2, i3), (j1, j2, j3)⟩ (by omega) 2).trans (HSC.out _ HX.out).2.2.1, (set9_cell (g := w.heap.size + 1 + 1) tc ⟨(h1, h2, h3), (i1, i2, i3), (j1, j2, j3)⟩ (by omega) 3).trans (HSC.out _ HX.out).2.2.2.1, (set9_cell (g := w.heap.size + 1 + 1) tc ⟨(h1, h2, h3), (i1, i2, i3), (j1, j2, j3)⟩ (by omega) 4).trans (HSC.out _ HX.out).2.2.2.2.1, (set9_cell (g := w.heap.size + 1 + 1) tc ⟨(h1, h2, h3), (i1, i2, i3), (j1, j2, j3)⟩ (by omega) 5).trans (HSC.out _ HX.out).2.2.2.2.2.1, (set9_cell (g := w.heap.size + 1 + 1) tc ⟨(h1, h2, h3), (i1, i2, i3), (j1, j2, j3)⟩ (by omega) 6).trans (HSC.out _ HX.out).2.2.2.2.2.2.1, (set9_cell (g := w.heap.size + 1 + 1) tc ⟨(h1, h2, h3), (i1, i2, i3), (j1, j2, j3)⟩ (by omega) 7).trans (HSC.out _ HX.out).2.2.2.2.2.2.2.1, (set9_cell (g := w.heap.size + 1 + 1) tc ⟨(h1, h2, h3), (i1, i2, i3), (j1, j2, j3)⟩ (by omega) 8).trans (HSC.out _ HX.out).2.2.2.2.2.2.2.2.1, (set9_cell (g := w.heap.size + 1 + 1) tc ⟨(h1, h2, h3), (i1, i2, i3), (j1, j2, j3)⟩ (by omega) 0).trans (HSC.out _ HX.out).2.2.2.2.2.2.2.2.2.1, (set9_cell (g := w.heap.size + 1 + 1) tc ⟨(h1, h2, h3), (i1, i2, i3), (j1, j2, j3)⟩ (by omega) 1).trans (HSC.out _ HX.out).2.2.2.2.2.2.2.2.2.2.1, (set9_cell (g := w.heap.size + 1 + 1) tc ⟨(h1, h2, h3), (i1, i2, i3), (j1, j2, j3)⟩ (by omega) 2).trans (HSC.out _ HX.out).2.2.2.2.2.2.2.2.2.2.2.1, (set9_cell (g := w.heap.size + 1 + 1) tc ⟨(h1, h2, h3), (i1, i2, i3), (j1, j2, j3)⟩ (by omega) 3).trans (HSC.out _ HX.out).2.2.2.2.2.2.2.2.2.2.2.2.1, (set9_cell (g := w.heap.size + 1 + 1) tc ⟨(h1, h2, h3), (i1, i2, i3), (j1, j2, j3)⟩ (by omega) 4).trans (HSC.out _ HX.out).2.2.2.2.2.2.2.2.2.2.2.2.2.1, (set9_cell (g := w.heap.size + 1 + 1) tc ⟨(h1, h2, h3), (i1, i2, i3), (j1, j2, j3)⟩ (by omega) 5).trans (HSC.out _ HX.out).2.2.2.2.2.2.2.2.2.2.2.2.2.2.1, (set9_cell (g := w.heap.size + 1 + 1) tc ⟨(h1, h2, h3), (i1, i2, i3), (j1, j2, j3)⟩ (by omega) 6).trans (HSC.out _ HX.out).2.2.2.2.2.2.2.2.2.2.2.2.2.2.2.1, (set9_cell (g := w.heap.size + 1 + 1) tc ⟨(h1, h2, h3), (i1, i2, i3), (j1, j2, j3)⟩ (by omega) 7).trans (HSC.out _ HX.out).2.2.2.2.2.2.2.2.2.2.2.2.2.2.2.2.1, (set9_cell (g := w.heap.size + 1 + 1) tc ⟨(h1, h2, h3), (i1, i2, i3), (j1, j2, j3)⟩ (by omega) 8).trans (HSC.out _ HX.out).2.2.2.2.2.2.2.2.2.2.2.2.2.2.2.2.2.1, (set9_cell (g := w.heap.size + 1 + 1) tc ⟨(h1, h2, h3), (i1, i2, i3), (j1, j2, j3)⟩ (by omega) 9).trans (HSC.out _ HX.out).2.2.2.2.2.2.2.2.2.2.2.2.2.2.2.2.2.2⟩
  clear hK K
  try simp only [List.getElem_toArray, List.getElem_cons_succ, List.getElem_cons_zero, Act.put, List.setIfInBounds_toArray, List.set_cons_zero, List.set_cons_succ]
  refine wpAnyH_done (by kernel_rfl) ?_ _
  go_wp2_with fail
  have hF := TG.out.fin2 HQ.out
  have hblk := hF.2.2
  have k0' := hblk.cell 0
  have k1' := hblk.cell 1
  have k2' := hblk.cell 2
  have k3' := hblk.cell 3
  have k4' := hblk.cell 4
  have k5' := hblk.cell 5
  have k6' := hblk.cell 6
  have k7' := hblk.cell 7
  have k8' := hblk.cell 8
  unfold set9 at k0' k1' k2' k3' k4' k5' k6' k7' k8'
  simp [tvcell, pv] at k0' k1' k2' k3' k4' k5' k6' k7' k8'
  refine bodyPost_ret (v := .agg #[.string ⟨tc.nm.a.toArray⟩, .string ⟨tc.nm.b.toArray⟩, .string ⟨tc.nm.c.toArray⟩, .string ⟨tc.nm.d.toArray⟩, .slice h1 h2 h3, .slice i1 i2 i3, .slice j1 j2 j3, .int .i64 tc.line, .bool tc.has]) (by simp [results, Tryd.results39, go_sem, k0', k1', k2', k3', k4', k5', k6', k7', k8']) rfl ?_
  exact ⟨_, rfl, hF.1, hF.2.1⟩
end Go.Proofs.YtpccjgoeoeehoaaDoor
namespace Go.Proofs.YtpccjgoeoeehoaaDoor
open Go.RowKit
/-- How many are open, as the box says. -/
def opnL (o : Nat) (w : World) : Nat := match w.cell? ⟨o, 5, none⟩ with
  | some (.slice _ n _) => n
  | _ => 0
theorem opnL_of {o : Nat} {w : World} {a : Option Addr} {n c : Nat} (h : w.cell? ⟨o, 5, none⟩ = some (.slice a n c)) : opnL o w = n := by unfold opnL; rw [h]
theorem TBx.opn_len {S X : Nat → Prop} {w W : World} {o r : Nat} {x : TV} {t : Bt} (h : TBx S X w o r W x t) : x.opn.2.1 = t.opn.length := by
  obtain ⟨a, c, e⟩ := h.bt.opn.len
  rw [pv_eq e]
theorem TBx.opnl {S X : Nat → Prop} {w W : World} {o r : Nat} {x : TV} {t : Bt} (h : TBx S X w o r W x t) : opnL o W = t.opn.length := by
  have e := h.box.cell 5
  rw [← h.opn_len]
  exact opnL_of (a := x.opn.1) (c := x.opn.2.2) e
theorem popAll_go {K : List Int} {t : Bt} {l : List Nd} {y : Nd} (h : t.opn = l ++ [y]) (hk : y.hd.kind ∈ K) : popAll K t.opn.length t = popAll K (bPop t).opn.length (bPop t) := by
  have e : (bPop t).opn.length = l.length := by rw [pop_len, h]; simp
  rw [e, h, List.length_append, List.length_singleton]
  conv => lhs; unfold popAll
  rw [h]
  simp [hk]
theorem popAll_stop {K : List Int} {t : Bt} {l : List Nd} {y : Nd} (h : t.opn = l ++ [y]) (hk : y.hd.kind ∉ K) : popAll K t.opn.length t = t := by
  rw [h, List.length_append, List.length_singleton]
  unfold popAll
  rw [h]
  simp [hk]
theorem popAll_none {K : List Int} {t : Bt} (h : t.opn = []) : popAll K t.opn.length t = t := by rw [h]; rfl
set_option maxRecDepth 100000 in
set_option maxHeartbeats 8000000 in
theorem rshut_any (S : Nat → Prop) (x : TV) (t : Bt) (K : List Int) (v : Value) (w : World) (hS : ∀ b, S b → b < w.heap.size) (h : BtIs S w x t) (hv : FsS S 1 icell w v K) (hKl : K.length ≤ 100000) (hb : btl t ≤ 40000) :
    Calls Tryd.prog 36 #[.agg (tvcell t x).toArray, v] w (BtQ S (bShut t K) w) := by
  have T0 := TBx.start hS h
  obtain ⟨W0, hW0⟩ : ∃ W, W = (w.alloc (.cells (tvcell t x).toArray 32)).alloc (.cells zTV.toArray 32) := ⟨_, rfl⟩
  rw [← hW0] at T0
  obtain ⟨X, hX⟩ : ∃ X : Nat → Prop, X = (fun b => b = w.heap.size ∨ b = w.heap.size + 1) := ⟨_, rfl⟩
  rw [← hX] at T0
  clear hX
  have hbt0 : btl t = nlL t.kids + nlL t.opn + t.text.length := rfl
  obtain ⟨⟨a1, a2, a3⟩, ⟨b1, b2, b3⟩, ⟨e1, e2, e3⟩⟩ := x
  have HT0 := Lib.hid T0
  have HW0 := Lib.hid hW0
  simp only [zTV] at HW0
  have HVV := Lib.hid hv
  obtain ⟨va, vc, rfl⟩ := hv.1.len
  obtain ⟨kl, hkl⟩ : ∃ n, K.length = n := ⟨_, rfl⟩
  rw [hkl] at HVV hKl ⊢
  have HKL := Lib.hid hkl
  have HS := Lib.hid hS
  have y0 : W0.cell? ⟨w.heap.size, 0, none⟩ = some (.string ⟨t.nm.a.toArray⟩) := T0.box.cell 0
  have y1 : W0.cell? ⟨w.heap.size, 1, none⟩ = some (.string ⟨t.nm.b.toArray⟩) := T0.box.cell 1
  have y2 : W0.cell? ⟨w.heap.size, 2, none⟩ = some (.string ⟨t.nm.c.toArray⟩) := T0.box.cell 2
  have y3 : W0.cell? ⟨w.heap.size, 3, none⟩ = some (.string ⟨t.nm.d.toArray⟩) := T0.box.cell 3
  have y4 : W0.cell? ⟨w.heap.size, 4, none⟩ = some (.slice a1 a2 a3) := T0.box.cell 4
  have y5 : W0.cell? ⟨w.heap.size, 5, none⟩ = some (.slice b1 b2 b3) := T0.box.cell 5
  have y6 : W0.cell? ⟨w.heap.size, 6, none⟩ = some (.slice e1 e2 e3) := T0.box.cell 6
  have y7 : W0.cell? ⟨w.heap.size, 7, none⟩ = some (.int .i64 t.line) := T0.box.cell 7
  have y8 : W0.cell? ⟨w.heap.size, 8, none⟩ = some (.bool t.has) := T0.box.cell 8
  have HEN := Lib.hid (rend_any (Fp S X w W0) ⟨(a1, a2, a3), (b1, b2, b3), (e1, e2, e3)⟩ t W0 T0.inn T0.bt (by omega))
  have hbe := btl_end t
  obtain ⟨tb, htb⟩ : ∃ tb, bEnd t = tb := ⟨_, rfl⟩
  rw [htb] at HEN hbe
  have HEQ : Hid (bShut t K = popAll K tb.opn.length tb) := Lib.hid (by unfold bShut; rw [htb])
  simp only [tvcell, pv] at HEN
  clear T0 hW0 h hS htb hbt0 hv hkl
  go_enter Tryd.func36, Tryd.ntmps36
  go_upto_region 1 with fail
  rw [← HW0.out]
  clear HW0
  go_wp2_with fail
  refine HEN.out.mono ?_
  rintro e wq ⟨⟨⟨c1, c2, c3⟩, ⟨d1, d2, d3⟩, ⟨g1, g2, g3⟩⟩, rfl, hbt, hbq⟩
  simp only [tvcell, pv]
  have T1 := HT0.out.keep hbq
  have hbt' := hbt.mono (Fp.mo HT0.out.bel.size HT0.out.hX hbq.size)
  have BQ := Lib.hid hbq
  obtain ⟨W2, hWL⟩ : ∃ X, X = set9 wq w.heap.size tb ⟨(c1, c2, c3), (d1, d2, d3), (g1, g2, g3)⟩ := ⟨_, rfl⟩
  have TL' := T1.all hbt'
  rw [← hWL] at TL'
  have T2 := Lib.hid TL'
  have T1H := Lib.hid T1
  have HZ2 : Hid (wq.heap.size = W2.heap.size) := Lib.hid (by rw [hWL, set9_size])
  have HHP : Hid (∀ b, b ≠ w.heap.size → W2.heap[b]? = wq.heap[b]?) := Lib.hid (fun b hb => by rw [hWL]; exact set9_heap _ _ _ _ hb)
  unfold set9 at hWL
  simp only [pv] at hWL
  have HWL := Lib.hid hWL
  clear hbt hbq hbt' TL' T1 hWL HEN y0 y1 y2 y3 y4 y5 y6 y7 y8
  have y0 : wq.cell? ⟨w.heap.size, 0, none⟩ = some (.string ⟨t.nm.a.toArray⟩) := T1H.out.box.cell 0
  have y1 : wq.cell? ⟨w.heap.size, 1, none⟩ = some (.string ⟨t.nm.b.toArray⟩) := T1H.out.box.cell 1
  have y2 : wq.cell? ⟨w.heap.size, 2, none⟩ = some (.string ⟨t.nm.c.toArray⟩) := T1H.out.box.cell 2
  have y3 : wq.cell? ⟨w.heap.size, 3, none⟩ = some (.string ⟨t.nm.d.toArray⟩) := T1H.out.box.cell 3
  have y4 : wq.cell? ⟨w.heap.size, 4, none⟩ = some (.slice a1 a2 a3) := T1H.out.box.cell 4
  have y5 : wq.cell? ⟨w.heap.size, 5, none⟩ = some (.slice b1 b2 b3) := T1H.out.box.cell 5
  have y6 : wq.cell? ⟨w.heap.size, 6, none⟩ = some (.slice e1 e2 e3) := T1H.out.box.cell 6
  have y7 : wq.cell? ⟨w.heap.size, 7, none⟩ = some (.int .i64 t.line) := T1H.out.box.cell 7
  have y8 : wq.cell? ⟨w.heap.size, 8, none⟩ = some (.bool t.has) := T1H.out.box.cell 8
  have f0 : wq.frozen? ⟨w.heap.size, 0, none⟩ = false := T1H.out.box.frozen (by simp [tvcell])
  have f1 : wq.frozen? ⟨w.heap.size, 1, none⟩ = false := T1H.out.box.frozen (by simp [tvcell])
  have f2 : wq.frozen? ⟨w.heap.size, 2, none⟩ = false := T1H.out.box.frozen (by simp [tvcell])
  have f3 : wq.frozen? ⟨w.heap.size, 3, none⟩ = false := T1H.out.box.frozen (by simp [tvcell])
  have f4 : wq.frozen? ⟨w.heap.size, 4, none⟩ = false := T1H.out.box.frozen (by simp [tvcell])
  have f5 : wq.frozen? ⟨w.heap.size, 5, none⟩ = false := T1H.out.box.frozen (by simp [tvcell])
  have f6 : wq.frozen? ⟨w.heap.size, 6, none⟩ = false := T1H.out.box.frozen (by simp [tvcell])
  have f7 : wq.frozen? ⟨w.heap.size, 7, none⟩ = false := T1H.out.box.frozen (by simp [tvcell])
  have f8 : wq.frozen? ⟨w.heap.size, 8, none⟩ = false := T1H.out.box.frozen (by simp [tvcell])
  go_upto_region 2 with fail
  rw [← HWL.out]
  clear HWL y0 y1 y2 y3 y4 y5 y6 y7 y8 f0 f1 f2 f3 f4 f5 f6 f7 f8
  clear T1H HZ2 HHP BQ HT0
  obtain ⟨bt0, hbt0⟩ : ∃ n, btl tb = n := ⟨_, rfl⟩
  rw [hbt0] at hbe
  go_loopw [] (fun wr => ∃ (tt : Bt) (c1 : Option Addr) (c2 c3 : Nat) (d1 : Option Addr) (d2 d3 : Nat) (g1 : Option Addr) (g2 g3 : Nat), Hid (TBx S X w w.heap.size (w.heap.size + 1) wr ⟨(c1, c2, c3), (d1, d2, d3), (g1, g2, g3)⟩ tt) ∧ Hid (btl tt = bt0) ∧ Hid (popAll K tt.opn.length tt = popAll K tb.opn.length tb)) (fun wr => opnL w.heap.size wr)
  case atStart => exact ⟨tb, c1, c2, c3, d1, d2, d3, g1, g2, g3, T2, Lib.hid hbt0, Lib.hid rfl⟩
  case round =>
    obtain ⟨tt, m1, m2, m3, n1, n2, n3, o1, o2, o3, HTr, HBT, HPA⟩ := hrel
    have y5 : wr.cell? ⟨w.heap.size, 5, none⟩ = some (.slice n1 n2 n3) := HTr.out.box.cell 5
    have HOL : Hid (n2 = tt.opn.length) := Lib.hid HTr.out.opn_len
    rcases opn_cases tt.opn with hop | ⟨ol, oy, hop⟩
    · skip
      have n20 : n2 = 0 := by rw [HOL.out, hop]; rfl
      subst n20
      have hd0 : decide ((0 : Int) < 0) = false := rfl
      have HEQ2 : Hid (bShut t K = tt) := Lib.hid (by rw [HEQ.out, ← HPA.out, popAll_none hop])
      clear hop
      go_upto_region 4 with fail
      clear y5
      have y0 : wr.cell? ⟨w.heap.size, 0, none⟩ = some (.string ⟨tt.nm.a.toArray⟩) := HTr.out.box.cell 0
      have y1 : wr.cell? ⟨w.heap.size, 1, none⟩ = some (.string ⟨tt.nm.b.toArray⟩) := HTr.out.box.cell 1
      have y2 : wr.cell? ⟨w.heap.size, 2, none⟩ = some (.string ⟨tt.nm.c.toArray⟩) := HTr.out.box.cell 2
      have y3 : wr.cell? ⟨w.heap.size, 3, none⟩ = some (.string ⟨tt.nm.d.toArray⟩) := HTr.out.box.cell 3
      have y4 : wr.cell? ⟨w.heap.size, 4, none⟩ = some (.slice m1 m2 m3) := HTr.out.box.cell 4
      have y5 : wr.cell? ⟨w.heap.size, 5, none⟩ = some (.slice n1 0 n3) := HTr.out.box.cell 5
      have y6 : wr.cell? ⟨w.heap.size, 6, none⟩ = some (.slice o1 o2 o3) := HTr.out.box.cell 6
      have y7 : wr.cell? ⟨w.heap.size, 7, none⟩ = some (.int .i64 tt.line) := HTr.out.box.cell 7
      have y8 : wr.cell? ⟨w.heap.size, 8, none⟩ = some (.bool tt.has) := HTr.out.box.cell 8
      have z0 : wr.cell? ⟨w.heap.size + 1, 0, none⟩ = some (.string ⟨#[]⟩) := HTr.out.res.cell 0
      have z1 : wr.cell? ⟨w.heap.size + 1, 1, none⟩ = some (.string ⟨#[]⟩) := HTr.out.res.cell 1
      have z2 : wr.cell? ⟨w.heap.size + 1, 2, none⟩ = some (.string ⟨#[]⟩) := HTr.out.res.cell 2
      have z3 : wr.cell? ⟨w.heap.size + 1, 3, none⟩ = some (.string ⟨#[]⟩) := HTr.out.res.cell 3
      have z4 : wr.cell? ⟨w.heap.size + 1, 4, none⟩ = some (.slice none 0 0) := HTr.out.res.cell 4
      have z5 : wr.cell? ⟨w.heap.size + 1, 5, none⟩ = some (.slice none 0 0) := HTr.out.res.cell 5
      have z6 : wr.cell? ⟨w.heap.size + 1, 6, none⟩ = some (.slice none 0 0) := HTr.out.res.cell 6
      have z7 : wr.cell? ⟨w.heap.size + 1, 7, none⟩ = some (.int .i64 0) := HTr.out.res.cell 7
      have z8 : wr.cell? ⟨w.heap.size + 1, 8, none⟩ = some (.bool false) := HTr.out.res.cell 8
      have v0 : wr.frozen? ⟨w.heap.size + 1, 0, none⟩ = false := HTr.out.res.frozen (by simp [zTV])
      have v1 : wr.frozen? ⟨w.heap.size + 1, 1, none⟩ = false := HTr.out.res.frozen (by simp [zTV])
      have v2 : wr.frozen? ⟨w.heap.size + 1, 2, none⟩ = false := HTr.out.res.frozen (by simp [zTV])
      have v3 : wr.frozen? ⟨w.heap.size + 1, 3, none⟩ = false := HTr.out.res.frozen (by simp [zTV])
      have v4 : wr.frozen? ⟨w.heap.size + 1, 4, none⟩ = false := HTr.out.res.frozen (by simp [zTV])
      have v5 : wr.frozen? ⟨w.heap.size + 1, 5, none⟩ = false := HTr.out.res.frozen (by simp [zTV])
      have v6 : wr.frozen? ⟨w.heap.size + 1, 6, none⟩ = false := HTr.out.res.frozen (by simp [zTV])
      have v7 : wr.frozen? ⟨w.heap.size + 1, 7, none⟩ = false := HTr.out.res.frozen (by simp [zTV])
      have v8 : wr.frozen? ⟨w.heap.size + 1, 8, none⟩ = false := HTr.out.res.frozen (by simp [zTV])
      go_wp2_with fail
      have hF := HTr.out.fin
      have hblk := hF.2.2
      have k0' := hblk.cell 0
      have k1' := hblk.cell 1
      have k2' := hblk.cell 2
      have k3' := hblk.cell 3
      have k4' := hblk.cell 4
      have k5' := hblk.cell 5
      have k6' := hblk.cell 6
      have k7' := hblk.cell 7
      have k8' := hblk.cell 8
      unfold set9 at k0' k1' k2' k3' k4' k5' k6' k7' k8'
      simp [tvcell, pv] at k0' k1' k2' k3' k4' k5' k6' k7' k8'
      refine bodyPost_ret (v := .agg #[.string ⟨tt.nm.a.toArray⟩, .string ⟨tt.nm.b.toArray⟩, .string ⟨tt.nm.c.toArray⟩, .string ⟨tt.nm.d.toArray⟩, .slice m1 m2 m3, .slice n1 0 n3, .slice o1 o2 o3, .int .i64 tt.line, .bool tt.has]) (by simp [results, Tryd.results36, go_sem, k0', k1', k2', k3', k4', k5', k6', k7', k8']) rfl ?_
      exact (by rw [HEQ2.out]; exact ⟨_, rfl, hF.1, hF.2.1⟩)
    · skip
      have hol : n2 = ol.length + 1 := by rw [HOL.out, hop]; simp
      have HOP := Lib.hid hop
      have hoy : tt.opn[ol.length]? = some oy := by rw [hop]; simp
      obtain ⟨g, off, xo, hb1, -, hC, hHo, -⟩ := HTr.out.bt.opn.atR hoy
      subst hb1
      have l2 := cnt_nlL tt.opn
      have l4 := cnt_len tt.opn
      have hnn : tt.opn.length ≤ 100000 := by
        have e : btl tt = nlL tt.kids + nlL tt.opn + tt.text.length := rfl
        have := HBT.out
        omega
      have hol2 : tt.opn.length = ol.length + 1 := by rw [hop]; simp
      obtain ⟨on, hon⟩ : ∃ n, ol.length = n := ⟨_, rfl⟩
      have hn2 : n2 = on + 1 := by rw [← hon]; exact hol
      have hnb : n2 ≤ 100001 := by omega
      have hin' : (on : Int) < (n2 : Int) := by omega
      have hon0 : (0 : Int) ≤ (on : Int) := by omega
      have hd1 : decide (0 < n2) = true := decide_eq_true (by omega)
      have hd2 : decide ((0 : Int) < (n2 : Int)) = true := decide_eq_true (by omega)
      have hd3 : decide ((n2 : Int) > 0) = true := decide_eq_true (by omega)
      have hsub : IntKind.i64.wrap ((n2 : Int) - 1) = (on : Int) := by rw [IntWalk.i64_in _ (by omega)]; omega
      have hsub2 : wrap64 ((n2 : Int) - 1) = (on : Int) := by rw [← hsub]; unfold wrap64; exact (IntKind.wrap_i64 _).symm
      obtain ⟨kd, hkd⟩ : ∃ q, oy.hd.kind = q := ⟨_, rfl⟩
      have c0 : wr.cell? ⟨g, off + on * 10, none⟩ = some (.int .i64 kd) := by rw [← hkd, ← hHo.kind, ← hon]; exact hC 0 _ rfl
      have HHS := Lib.hid (rhas_any kd K (.slice va kl vc) wr (HVV.out.keep (Kp.below HTr.out.bel HS.out)).1 (by rw [HKL.out]; omega))
      obtain ⟨bb, hbb⟩ : ∃ q, K.contains kd = q := ⟨_, rfl⟩
      rw [hbb] at HHS
      have HBB := Lib.hid hbb
      have HKD := Lib.hid hkd
      clear hop hol hoy hC hHo l2 l4 hnn hol2 hn2 hkd hbb hon
      go_wp2_with fail
      refine HHS.out.mono ?_
      rintro e w3 ⟨rfl, hw3⟩
      have hw4 := hw3.symm
      clear hw3
      subst hw4
      clear HHS c0 hsub hsub2 hd1 hd2 hd3 hin' hon0 y5
      cases bb with
      | true =>
        have HMEM : Hid (oy.hd.kind ∈ K) := Lib.hid (by rw [HKD.out]; exact List.contains_iff_mem.1 HBB.out)
        have HPP := Lib.hid (rpop_any (Fp S X w wr) ⟨(m1, m2, m3), (some ⟨g, off, none⟩, n2, n3), (o1, o2, o3)⟩ tt ol oy wr HTr.out.inn HTr.out.bt HOP.out (by have := HBT.out; omega))
        obtain ⟨tp, htp⟩ : ∃ tp, bPop tt = tp := ⟨_, rfl⟩
        rw [htp] at HPP
        have HTP := Lib.hid htp
        simp only [tvcell, pv] at HPP
        clear htp
        have y0 : wr.cell? ⟨w.heap.size, 0, none⟩ = some (.string ⟨tt.nm.a.toArray⟩) := HTr.out.box.cell 0
        have y1 : wr.cell? ⟨w.heap.size, 1, none⟩ = some (.string ⟨tt.nm.b.toArray⟩) := HTr.out.box.cell 1
        have y2 : wr.cell? ⟨w.heap.size, 2, none⟩ = some (.string ⟨tt.nm.c.toArray⟩) := HTr.out.box.cell 2
        have y3 : wr.cell? ⟨w.heap.size, 3, none⟩ = some (.string ⟨tt.nm.d.toArray⟩) := HTr.out.box.cell 3
        have y4 : wr.cell? ⟨w.heap.size, 4, none⟩ = some (.slice m1 m2 m3) := HTr.out.box.cell 4
        have y5 : wr.cell? ⟨w.heap.size, 5, none⟩ = some (.slice (some ⟨g, off, none⟩) n2 n3) := HTr.out.box.cell 5
        have y6 : wr.cell? ⟨w.heap.size, 6, none⟩ = some (.slice o1 o2 o3) := HTr.out.box.cell 6
        have y7 : wr.cell? ⟨w.heap.size, 7, none⟩ = some (.int .i64 tt.line) := HTr.out.box.cell 7
        have y8 : wr.cell? ⟨w.heap.size, 8, none⟩ = some (.bool tt.has) := HTr.out.box.cell 8
        go_wp2_with fail
        refine HPP.out.mono ?_
        rintro e wq ⟨⟨⟨h1, h2, h3⟩, ⟨i1, i2, i3⟩, ⟨j1, j2, j3⟩⟩, rfl, hbt, hbq⟩
        simp only [tvcell, pv]
        have T1 := HTr.out.keep hbq
        have hbt' := hbt.mono (Fp.mo HTr.out.bel.size HTr.out.hX hbq.size)
        have HTN := Lib.hid (T1.all hbt')
        have T1H := Lib.hid T1
        have HM : Hid (opnL w.heap.size (set9 wq w.heap.size tp ⟨(h1, h2, h3), (i1, i2, i3), (j1, j2, j3)⟩) < opnL w.heap.size wr) := Lib.hid (by rw [HTN.out.opnl, HTr.out.opnl, ← HTP.out, pop_len, HOP.out]; simp)
        clear hbt hbq T1 hbt' HPP y0 y1 y2 y3 y4 y5 y6 y7 y8
        have y0 : wq.cell? ⟨w.heap.size, 0, none⟩ = some (.string ⟨tt.nm.a.toArray⟩) := T1H.out.box.cell 0
        have y1 : wq.cell? ⟨w.heap.size, 1, none⟩ = some (.string ⟨tt.nm.b.toArray⟩) := T1H.out.box.cell 1
        have y2 : wq.cell? ⟨w.heap.size, 2, none⟩ = some (.string ⟨tt.nm.c.toArray⟩) := T1H.out.box.cell 2
        have y3 : wq.cell? ⟨w.heap.size, 3, none⟩ = some (.string ⟨tt.nm.d.toArray⟩) := T1H.out.box.cell 3
        have y4 : wq.cell? ⟨w.heap.size, 4, none⟩ = some (.slice m1 m2 m3) := T1H.out.box.cell 4
        have y5 : wq.cell? ⟨w.heap.size, 5, none⟩ = some (.slice (some ⟨g, off, none⟩) n2 n3) := T1H.out.box.cell 5
        have y6 : wq.cell? ⟨w.heap.size, 6, none⟩ = some (.slice o1 o2 o3) := T1H.out.box.cell 6
        have y7 : wq.cell? ⟨w.heap.size, 7, none⟩ = some (.int .i64 tt.line) := T1H.out.box.cell 7
        have y8 : wq.cell? ⟨w.heap.size, 8, none⟩ = some (.bool tt.has) := T1H.out.box.cell 8
        have f0 : wq.frozen? ⟨w.heap.size, 0, none⟩ = false := T1H.out.box.frozen (by simp [tvcell])
        have f1 : wq.frozen? ⟨w.heap.size, 1, none⟩ = false := T1H.out.box.frozen (by simp [tvcell])
        have f2 : wq.frozen? ⟨w.heap.size, 2, none⟩ = false := T1H.out.box.frozen (by simp [tvcell])
        have f3 : wq.frozen? ⟨w.heap.size, 3, none⟩ = false := T1H.out.box.frozen (by simp [tvcell])
        have f4 : wq.frozen? ⟨w.heap.size, 4, none⟩ = false := T1H.out.box.frozen (by simp [tvcell])
        have f5 : wq.frozen? ⟨w.heap.size, 5, none⟩ = false := T1H.out.box.frozen (by simp [tvcell])
        have f6 : wq.frozen? ⟨w.heap.size, 6, none⟩ = false := T1H.out.box.frozen (by simp [tvcell])
        have f7 : wq.frozen? ⟨w.heap.size, 7, none⟩ = false := T1H.out.box.frozen (by simp [tvcell])
        have f8 : wq.frozen? ⟨w.heap.size, 8, none⟩ = false := T1H.out.box.frozen (by simp [tvcell])
        go_wp2_with fail
        go_roundw
        case rel => exact ⟨tp, h1, h2, h3, i1, i2, i3, j1, j2, j3, Lib.hid HTN.out, Lib.hid (by rw [← HTP.out, btl_pop]; exact HBT.out), Lib.hid (by rw [← HTP.out, ← popAll_go HOP.out HMEM.out]; exact HPA.out)⟩
        case measure => exact HM.out
      | false =>
        have HEQ2 : Hid (bShut t K = tt) := Lib.hid (by rw [HEQ.out, ← HPA.out, popAll_stop HOP.out (by rw [HKD.out]; exact fun h => by have := List.contains_iff_mem.2 h; rw [HBB.out] at this; cases this)])
        go_upto_region 4 with fail
        have y0 : wr.cell? ⟨w.heap.size, 0, none⟩ = some (.string ⟨tt.nm.a.toArray⟩) := HTr.out.box.cell 0
        have y1 : wr.cell? ⟨w.heap.size, 1, none⟩ = some (.string ⟨tt.nm.b.toArray⟩) := HTr.out.box.cell 1
        have y2 : wr.cell? ⟨w.heap.size, 2, none⟩ = some (.string ⟨tt.nm.c.toArray⟩) := HTr.out.box.cell 2
        have y3 : wr.cell? ⟨w.heap.size, 3, none⟩ = some (.string ⟨tt.nm.d.toArray⟩) := HTr.out.box.cell 3
        have y4 : wr.cell? ⟨w.heap.size, 4, none⟩ = some (.slice m1 m2 m3) := HTr.out.box.cell 4
        have y5 : wr.cell? ⟨w.heap.size, 5, none⟩ = some (.slice (some ⟨g, off, none⟩) n2 n3) := HTr.out.box.cell 5
        have y6 : wr.cell? ⟨w.heap.size, 6, none⟩ = some (.slice o1 o2 o3) := HTr.out.box.cell 6
        have y7 : wr.cell? ⟨w.heap.size, 7, none⟩ = some (.int .i64 tt.line) := HTr.out.box.cell 7
        have y8 : wr.cell? ⟨w.heap.size, 8, none⟩ = some (.bool tt.has) := HTr.out.box.cell 8
        have z0 : wr.cell? ⟨w.heap.size + 1, 0, none⟩ = some (.string ⟨#[]⟩) := HTr.out.res.cell 0
        have z1 : wr.cell? ⟨w.heap.size + 1, 1, none⟩ = some (.string ⟨#[]⟩) := HTr.out.res.cell 1
        have z2 : wr.cell? ⟨w.heap.size + 1, 2, none⟩ = some (.string ⟨#[]⟩) := HTr.out.res.cell 2
        have z3 : wr.cell? ⟨w.heap.size + 1, 3, none⟩ = some (.string ⟨#[]⟩) := HTr.out.res.cell 3
        have z4 : wr.cell? ⟨w.heap.size + 1, 4, none⟩ = some (.slice none 0 0) := HTr.out.res.cell 4
        have z5 : wr.cell? ⟨w.heap.size + 1, 5, none⟩ = some (.slice none 0 0) := HTr.out.res.cell 5
        have z6 : wr.cell? ⟨w.heap.size + 1, 6, none⟩ = some (.slice none 0 0) := HTr.out.res.cell 6
        have z7 : wr.cell? ⟨w.heap.size + 1, 7, none⟩ = some (.int .i64 0) := HTr.out.res.cell 7
        have z8 : wr.cell? ⟨w.heap.size + 1, 8, none⟩ = some (.bool false) := HTr.out.res.cell 8
        have v0 : wr.frozen? ⟨w.heap.size + 1, 0, none⟩ = false := HTr.out.res.frozen (by simp [zTV])
        have v1 : wr.frozen? ⟨w.heap.size + 1, 1, none⟩ = false := HTr.out.res.frozen (by simp [zTV])
        have v2 : wr.frozen? ⟨w.heap.size + 1, 2, none⟩ = false := HTr.out.res.frozen (by simp [zTV])
        have v3 : wr.frozen? ⟨w.heap.size + 1, 3, none⟩ = false := HTr.out.res.frozen (by simp [zTV])
        have v4 : wr.frozen? ⟨w.heap.size + 1, 4, none⟩ = false := HTr.out.res.frozen (by simp [zTV])
        have v5 : wr.frozen? ⟨w.heap.size + 1, 5, none⟩ = false := HTr.out.res.frozen (by simp [zTV])
        have v6 : wr.frozen? ⟨w.heap.size + 1, 6, none⟩ = false := HTr.out.res.frozen (by simp [zTV])
        have v7 : wr.frozen? ⟨w.heap.size + 1, 7, none⟩ = false := HTr.out.res.frozen (by simp [zTV])
        have v8 : wr.frozen? ⟨w.heap.size + 1, 8, none⟩ = false := HTr.out.res.frozen (by simp [zTV])
        go_wp2_with fail
        have hF := HTr.out.fin
        have hblk := hF.2.2
        have k0' := hblk.cell 0
        have k1' := hblk.cell 1
        have k2' := hblk.cell 2
        have k3' := hblk.cell 3
        have k4' := hblk.cell 4
        have k5' := hblk.cell 5
        have k6' := hblk.cell 6
        have k7' := hblk.cell 7
        have k8' := hblk.cell 8
        unfold set9 at k0' k1' k2' k3' k4' k5' k6' k7' k8'
        simp [tvcell, pv] at k0' k1' k2' k3' k4' k5' k6' k7' k8'
        refine bodyPost_ret (v := .agg #[.string ⟨tt.nm.a.toArray⟩, .string ⟨tt.nm.b.toArray⟩, .string ⟨tt.nm.c.toArray⟩, .string ⟨tt.nm.d.toArray⟩, .slice m1 m2 m3, .slice (some ⟨g, off, none⟩) n2 n3, .slice o1 o2 o3, .int .i64 tt.line, .bool tt.has]) (by simp [results, Tryd.results36, go_sem, k0', k1', k2', k3', k4', k5', k6', k7', k8']) rfl ?_
        exact (by rw [HEQ2.out]; exact ⟨_, rfl, hF.1, hF.2.1⟩)
end Go.Proofs.YtpccjgoeoeehoaaDoor
namespace Go.Proofs.YtpccjgoeoeehoaaDoor
open Go.RowKit
def ClQ (S : Nat → Prop) (r : Bt × Bool) (w : World) (e : Ending) (w' : World) : Prop := ∃ x : TV, e = .returned (.tuple #[.agg (tvcell r.1 x).toArray, .bool r.2]) ∧ BtIs (Mo S w w') w' x r.1 ∧ Below w.heap.size w w'
theorem popTo_go {k : Int} {t : Bt} {l : List Nd} {y : Nd} (h : t.opn = l ++ [y]) (hk : ¬ y.hd.kind = k) : popTo k t.opn.length t = popTo k (bPop t).opn.length (bPop t) := by
  have e : (bPop t).opn.length = l.length := by rw [pop_len, h]; simp
  rw [e, h, List.length_append, List.length_singleton]
  conv => lhs; unfold popTo
  rw [h]
  simp [hk]
theorem popTo_stop {k : Int} {t : Bt} {l : List Nd} {y : Nd} (h : t.opn = l ++ [y]) (hk : y.hd.kind = k) : popTo k t.opn.length t = bPop t := by
  rw [h, List.length_append, List.length_singleton]
  unfold popTo
  rw [h]
  simp [hk]
theorem in_pop {k : Int} {t : Bt} {l : List Nd} {y : Nd} (h : t.opn = l ++ [y]) (hk : ¬ y.hd.kind = k) (hi : bIn t k = true) : bIn (bPop t) k = true := by
  have e : bPop t = bLay { t with opn := l } y := pop_some h
  have h2 : (l.any fun z => z.hd.kind == k) = true := by
    unfold bIn at hi
    rw [h, List.any_append] at hi
    simpa [hk] using hi
  rcases opn_cases l with h3 | ⟨r, z, h3⟩
  · rw [h3] at h2; simp at h2
  · rw [e, lay_some y (show ({ t with opn := l } : Bt).opn = r ++ [z] from h3)]
    unfold bIn
    rw [h3, List.any_append] at h2
    simp only [List.any_append]
    simpa [ownKid, Nd.hd] using h2
set_option maxRecDepth 100000 in
set_option maxHeartbeats 8000000 in
theorem rclose_any (S : Nat → Prop) (x : TV) (t : Bt) (k : Int) (w : World) (hS : ∀ b, S b → b < w.heap.size) (h : BtIs S w x t)  (hb : btl t ≤ 40000) :
    Calls Tryd.prog 35 #[.agg (tvcell t x).toArray, .int .i64 k] w (ClQ S (bClose t k) w) := by
  have T0 := TBx.start hS h
  obtain ⟨W0, hW0⟩ : ∃ W, W = (w.alloc (.cells (tvcell t x).toArray 32)).alloc (.cells zTV.toArray 32) := ⟨_, rfl⟩
  rw [← hW0] at T0
  obtain ⟨X, hX⟩ : ∃ X : Nat → Prop, X = (fun b => b = w.heap.size ∨ b = w.heap.size + 1) := ⟨_, rfl⟩
  rw [← hX] at T0
  clear hX
  have hbt0 : btl t = nlL t.kids + nlL t.opn + t.text.length := rfl
  obtain ⟨⟨a1, a2, a3⟩, ⟨b1, b2, b3⟩, ⟨e1, e2, e3⟩⟩ := x
  have HT0 := Lib.hid T0
  have HW0 := Lib.hid hW0
  simp only [zTV] at HW0
  have HS := Lib.hid hS
  have y0 : W0.cell? ⟨w.heap.size, 0, none⟩ = some (.string ⟨t.nm.a.toArray⟩) := T0.box.cell 0
  have y1 : W0.cell? ⟨w.heap.size, 1, none⟩ = some (.string ⟨t.nm.b.toArray⟩) := T0.box.cell 1
  have y2 : W0.cell? ⟨w.heap.size, 2, none⟩ = some (.string ⟨t.nm.c.toArray⟩) := T0.box.cell 2
  have y3 : W0.cell? ⟨w.heap.size, 3, none⟩ = some (.string ⟨t.nm.d.toArray⟩) := T0.box.cell 3
  have y4 : W0.cell? ⟨w.heap.size, 4, none⟩ = some (.slice a1 a2 a3) := T0.box.cell 4
  have y5 : W0.cell? ⟨w.heap.size, 5, none⟩ = some (.slice b1 b2 b3) := T0.box.cell 5
  have y6 : W0.cell? ⟨w.heap.size, 6, none⟩ = some (.slice e1 e2 e3) := T0.box.cell 6
  have y7 : W0.cell? ⟨w.heap.size, 7, none⟩ = some (.int .i64 t.line) := T0.box.cell 7
  have y8 : W0.cell? ⟨w.heap.size, 8, none⟩ = some (.bool t.has) := T0.box.cell 8
  have HEN := Lib.hid (rend_any (Fp S X w W0) ⟨(a1, a2, a3), (b1, b2, b3), (e1, e2, e3)⟩ t W0 T0.inn T0.bt (by omega))
  have hbe := btl_end t
  obtain ⟨tb, htb⟩ : ∃ tb, bEnd t = tb := ⟨_, rfl⟩
  rw [htb] at HEN hbe
  have HCE : Hid (bClose t k = if bIn tb k then (popTo k tb.opn.length tb, true) else (tb, false)) := Lib.hid (by unfold bClose; rw [htb])
  simp only [tvcell, pv] at HEN
  clear T0 hW0 h hS htb hbt0 
  go_enter Tryd.func35, Tryd.ntmps35
  go_upto_region 1 with fail
  rw [← HW0.out]
  clear HW0
  go_wp2_with fail
  refine HEN.out.mono ?_
  rintro e wq ⟨⟨⟨c1, c2, c3⟩, ⟨d1, d2, d3⟩, ⟨g1, g2, g3⟩⟩, rfl, hbt, hbq⟩
  simp only [tvcell, pv]
  have T1 := HT0.out.keep hbq
  have hbt' := hbt.mono (Fp.mo HT0.out.bel.size HT0.out.hX hbq.size)
  have BQ := Lib.hid hbq
  obtain ⟨W2, hWL⟩ : ∃ X, X = set9 wq w.heap.size tb ⟨(c1, c2, c3), (d1, d2, d3), (g1, g2, g3)⟩ := ⟨_, rfl⟩
  have TL' := T1.all hbt'
  rw [← hWL] at TL'
  have T2 := Lib.hid TL'
  have T1H := Lib.hid T1
  have HZ2 : Hid (wq.heap.size = W2.heap.size) := Lib.hid (by rw [hWL, set9_size])
  have HHP : Hid (∀ b, b ≠ w.heap.size → W2.heap[b]? = wq.heap[b]?) := Lib.hid (fun b hb => by rw [hWL]; exact set9_heap _ _ _ _ hb)
  unfold set9 at hWL
  simp only [pv] at hWL
  have HWL := Lib.hid hWL
  clear hbt hbq hbt' TL' T1 hWL HEN y0 y1 y2 y3 y4 y5 y6 y7 y8
  have y0 : wq.cell? ⟨w.heap.size, 0, none⟩ = some (.string ⟨t.nm.a.toArray⟩) := T1H.out.box.cell 0
  have y1 : wq.cell? ⟨w.heap.size, 1, none⟩ = some (.string ⟨t.nm.b.toArray⟩) := T1H.out.box.cell 1
  have y2 : wq.cell? ⟨w.heap.size, 2, none⟩ = some (.string ⟨t.nm.c.toArray⟩) := T1H.out.box.cell 2
  have y3 : wq.cell? ⟨w.heap.size, 3, none⟩ = some (.string ⟨t.nm.d.toArray⟩) := T1H.out.box.cell 3
  have y4 : wq.cell? ⟨w.heap.size, 4, none⟩ = some (.slice a1 a2 a3) := T1H.out.box.cell 4
  have y5 : wq.cell? ⟨w.heap.size, 5, none⟩ = some (.slice b1 b2 b3) := T1H.out.box.cell 5
  have y6 : wq.cell? ⟨w.heap.size, 6, none⟩ = some (.slice e1 e2 e3) := T1H.out.box.cell 6
  have y7 : wq.cell? ⟨w.heap.size, 7, none⟩ = some (.int .i64 t.line) := T1H.out.box.cell 7
  have y8 : wq.cell? ⟨w.heap.size, 8, none⟩ = some (.bool t.has) := T1H.out.box.cell 8
  have f0 : wq.frozen? ⟨w.heap.size, 0, none⟩ = false := T1H.out.box.frozen (by simp [tvcell])
  have f1 : wq.frozen? ⟨w.heap.size, 1, none⟩ = false := T1H.out.box.frozen (by simp [tvcell])
  have f2 : wq.frozen? ⟨w.heap.size, 2, none⟩ = false := T1H.out.box.frozen (by simp [tvcell])
  have f3 : wq.frozen? ⟨w.heap.size, 3, none⟩ = false := T1H.out.box.frozen (by simp [tvcell])
  have f4 : wq.frozen? ⟨w.heap.size, 4, none⟩ = false := T1H.out.box.frozen (by simp [tvcell])
  have f5 : wq.frozen? ⟨w.heap.size, 5, none⟩ = false := T1H.out.box.frozen (by simp [tvcell])
  have f6 : wq.frozen? ⟨w.heap.size, 6, none⟩ = false := T1H.out.box.frozen (by simp [tvcell])
  have f7 : wq.frozen? ⟨w.heap.size, 7, none⟩ = false := T1H.out.box.frozen (by simp [tvcell])
  have f8 : wq.frozen? ⟨w.heap.size, 8, none⟩ = false := T1H.out.box.frozen (by simp [tvcell])
  go_upto_region 2 with fail
  rw [← HWL.out]
  clear HWL y0 y1 y2 y3 y4 y5 y6 y7 y8 f0 f1 f2 f3 f4 f5 f6 f7 f8
  clear T1H HZ2 HHP BQ HT0
  have HIN := Lib.hid (rinside_any (Fp S X w W2) ⟨(c1, c2, c3), (d1, d2, d3), (g1, g2, g3)⟩ tb k W2 T2.out.inn T2.out.bt (by omega))
  obtain ⟨bt0, hbt0⟩ : ∃ n, btl tb = n := ⟨_, rfl⟩
  rw [hbt0] at hbe
  obtain ⟨bb, hbb⟩ : ∃ q, bIn tb k = q := ⟨_, rfl⟩
  rw [hbb] at HIN HCE
  have HBB := Lib.hid hbb
  simp only [tvcell, pv] at HIN
  clear hbb
  have y0 : W2.cell? ⟨w.heap.size, 0, none⟩ = some (.string ⟨tb.nm.a.toArray⟩) := T2.out.box.cell 0
  have y1 : W2.cell? ⟨w.heap.size, 1, none⟩ = some (.string ⟨tb.nm.b.toArray⟩) := T2.out.box.cell 1
  have y2 : W2.cell? ⟨w.heap.size, 2, none⟩ = some (.string ⟨tb.nm.c.toArray⟩) := T2.out.box.cell 2
  have y3 : W2.cell? ⟨w.heap.size, 3, none⟩ = some (.string ⟨tb.nm.d.toArray⟩) := T2.out.box.cell 3
  have y4 : W2.cell? ⟨w.heap.size, 4, none⟩ = some (.slice c1 c2 c3) := T2.out.box.cell 4
  have y5 : W2.cell? ⟨w.heap.size, 5, none⟩ = some (.slice d1 d2 d3) := T2.out.box.cell 5
  have y6 : W2.cell? ⟨w.heap.size, 6, none⟩ = some (.slice g1 g2 g3) := T2.out.box.cell 6
  have y7 : W2.cell? ⟨w.heap.size, 7, none⟩ = some (.int .i64 tb.line) := T2.out.box.cell 7
  have y8 : W2.cell? ⟨w.heap.size, 8, none⟩ = some (.bool tb.has) := T2.out.box.cell 8
  go_wp2_with fail
  refine HIN.out.mono ?_
  rintro e w3 ⟨rfl, b3'⟩
  have T3 := Lib.hid (T2.out.keep b3')
  clear b3' HIN y0 y1 y2 y3 y4 y5 y6 y7 y8
  cases bb with
  | false =>
    have HEQ : Hid (bClose t k = (tb, false)) := Lib.hid HCE.out
    go_upto_region 3 with fail
    have y0 : w3.cell? ⟨w.heap.size, 0, none⟩ = some (.string ⟨tb.nm.a.toArray⟩) := T3.out.box.cell 0
    have y1 : w3.cell? ⟨w.heap.size, 1, none⟩ = some (.string ⟨tb.nm.b.toArray⟩) := T3.out.box.cell 1
    have y2 : w3.cell? ⟨w.heap.size, 2, none⟩ = some (.string ⟨tb.nm.c.toArray⟩) := T3.out.box.cell 2
    have y3 : w3.cell? ⟨w.heap.size, 3, none⟩ = some (.string ⟨tb.nm.d.toArray⟩) := T3.out.box.cell 3
    have y4 : w3.cell? ⟨w.heap.size, 4, none⟩ = some (.slice c1 c2 c3) := T3.out.box.cell 4
    have y5 : w3.cell? ⟨w.heap.size, 5, none⟩ = some (.slice d1 d2 d3) := T3.out.box.cell 5
    have y6 : w3.cell? ⟨w.heap.size, 6, none⟩ = some (.slice g1 g2 g3) := T3.out.box.cell 6
    have y7 : w3.cell? ⟨w.heap.size, 7, none⟩ = some (.int .i64 tb.line) := T3.out.box.cell 7
    have y8 : w3.cell? ⟨w.heap.size, 8, none⟩ = some (.bool tb.has) := T3.out.box.cell 8
    have z0 : w3.cell? ⟨w.heap.size + 1, 0, none⟩ = some (.string ⟨#[]⟩) := T3.out.res.cell 0
    have z1 : w3.cell? ⟨w.heap.size + 1, 1, none⟩ = some (.string ⟨#[]⟩) := T3.out.res.cell 1
    have z2 : w3.cell? ⟨w.heap.size + 1, 2, none⟩ = some (.string ⟨#[]⟩) := T3.out.res.cell 2
    have z3 : w3.cell? ⟨w.heap.size + 1, 3, none⟩ = some (.string ⟨#[]⟩) := T3.out.res.cell 3
    have z4 : w3.cell? ⟨w.heap.size + 1, 4, none⟩ = some (.slice none 0 0) := T3.out.res.cell 4
    have z5 : w3.cell? ⟨w.heap.size + 1, 5, none⟩ = some (.slice none 0 0) := T3.out.res.cell 5
    have z6 : w3.cell? ⟨w.heap.size + 1, 6, none⟩ = some (.slice none 0 0) := T3.out.res.cell 6
    have z7 : w3.cell? ⟨w.heap.size + 1, 7, none⟩ = some (.int .i64 0) := T3.out.res.cell 7
    have z8 : w3.cell? ⟨w.heap.size + 1, 8, none⟩ = some (.bool false) := T3.out.res.cell 8
    have v0 : w3.frozen? ⟨w.heap.size + 1, 0, none⟩ = false := T3.out.res.frozen (by simp [zTV])
    have v1 : w3.frozen? ⟨w.heap.size + 1, 1, none⟩ = false := T3.out.res.frozen (by simp [zTV])
    have v2 : w3.frozen? ⟨w.heap.size + 1, 2, none⟩ = false := T3.out.res.frozen (by simp [zTV])
    have v3 : w3.frozen? ⟨w.heap.size + 1, 3, none⟩ = false := T3.out.res.frozen (by simp [zTV])
    have v4 : w3.frozen? ⟨w.heap.size + 1, 4, none⟩ = false := T3.out.res.frozen (by simp [zTV])
    have v5 : w3.frozen? ⟨w.heap.size + 1, 5, none⟩ = false := T3.out.res.frozen (by simp [zTV])
    have v6 : w3.frozen? ⟨w.heap.size + 1, 6, none⟩ = false := T3.out.res.frozen (by simp [zTV])
    have v7 : w3.frozen? ⟨w.heap.size + 1, 7, none⟩ = false := T3.out.res.frozen (by simp [zTV])
    have v8 : w3.frozen? ⟨w.heap.size + 1, 8, none⟩ = false := T3.out.res.frozen (by simp [zTV])
    go_wp2_with fail
    have hF := T3.out.fin
    have hblk := hF.2.2
    have k0' := hblk.cell 0
    have k1' := hblk.cell 1
    have k2' := hblk.cell 2
    have k3' := hblk.cell 3
    have k4' := hblk.cell 4
    have k5' := hblk.cell 5
    have k6' := hblk.cell 6
    have k7' := hblk.cell 7
    have k8' := hblk.cell 8
    unfold set9 at k0' k1' k2' k3' k4' k5' k6' k7' k8'
    simp [tvcell, pv] at k0' k1' k2' k3' k4' k5' k6' k7' k8'
    refine bodyPost_ret (v := .tuple #[.agg #[.string ⟨tb.nm.a.toArray⟩, .string ⟨tb.nm.b.toArray⟩, .string ⟨tb.nm.c.toArray⟩, .string ⟨tb.nm.d.toArray⟩, .slice c1 c2 c3, .slice d1 d2 d3, .slice g1 g2 g3, .int .i64 tb.line, .bool tb.has], .bool false]) (by simp [results, Tryd.results35, go_sem, k0', k1', k2', k3', k4', k5', k6', k7', k8']) rfl ?_
    exact (by rw [HEQ.out]; exact ⟨_, rfl, hF.1, hF.2.1⟩)
  | true =>
    have HEQ : Hid (bClose t k = (popTo k tb.opn.length tb, true)) := Lib.hid HCE.out
    go_wp2_with fail
    go_loopw [] (fun wr => ∃ (tt : Bt) (m1 : Option Addr) (m2 m3 : Nat) (n1 : Option Addr) (n2 n3 : Nat) (o1 : Option Addr) (o2 o3 : Nat), Hid (TBx S X w w.heap.size (w.heap.size + 1) wr ⟨(m1, m2, m3), (n1, n2, n3), (o1, o2, o3)⟩ tt) ∧ Hid (btl tt = bt0) ∧ Hid (bIn tt k = true) ∧ Hid (popTo k tt.opn.length tt = popTo k tb.opn.length tb)) (fun wr => opnL w.heap.size wr)
    case atStart => exact ⟨tb, c1, c2, c3, d1, d2, d3, g1, g2, g3, T3, Lib.hid hbt0, HBB, Lib.hid rfl⟩
    case round =>
      obtain ⟨tt, m1, m2, m3, n1, n2, n3, o1, o2, o3, HTr, HBT, HI, HPA⟩ := hrel
      have y5 : wr.cell? ⟨w.heap.size, 5, none⟩ = some (.slice n1 n2 n3) := HTr.out.box.cell 5
      have HOL : Hid (n2 = tt.opn.length) := Lib.hid HTr.out.opn_len
      obtain ⟨ol, oy, hop⟩ : ∃ l y, tt.opn = l ++ [y] := by
        rcases opn_cases tt.opn with h0 | h0
        · have := HI.out
          unfold bIn at this
          rw [h0] at this
          simp at this
        · exact h0
      have hol : n2 = ol.length + 1 := by rw [HOL.out, hop]; simp
      have HOP := Lib.hid hop
      have hoy : tt.opn[ol.length]? = some oy := by rw [hop]; simp
      obtain ⟨g, off, xo, hb1, -, hC, hHo, -⟩ := HTr.out.bt.opn.atR hoy
      subst hb1
      have l2 := cnt_nlL tt.opn
      have l4 := cnt_len tt.opn
      have hnn : tt.opn.length ≤ 100000 := by
        have e : btl tt = nlL tt.kids + nlL tt.opn + tt.text.length := rfl
        have := HBT.out
        omega
      have hol2 : tt.opn.length = ol.length + 1 := by rw [hop]; simp
      obtain ⟨on, hon⟩ : ∃ n, ol.length = n := ⟨_, rfl⟩
      have hn2 : n2 = on + 1 := by rw [← hon]; exact hol
      have hnb : n2 ≤ 100001 := by omega
      have hin' : (on : Int) < (n2 : Int) := by omega
      have hon0 : (0 : Int) ≤ (on : Int) := by omega
      have hd1 : decide (0 < n2) = true := decide_eq_true (by omega)
      have hd2 : decide ((0 : Int) < (n2 : Int)) = true := decide_eq_true (by omega)
      have hd3 : decide ((n2 : Int) > 0) = true := decide_eq_true (by omega)
      have hsub : IntKind.i64.wrap ((n2 : Int) - 1) = (on : Int) := by rw [IntWalk.i64_in _ (by omega)]; omega
      have hsub2 : wrap64 ((n2 : Int) - 1) = (on : Int) := by rw [← hsub]; unfold wrap64; exact (IntKind.wrap_i64 _).symm
      obtain ⟨kd, hkd⟩ : ∃ q, oy.hd.kind = q := ⟨_, rfl⟩
      have c0 : wr.cell? ⟨g, off + on * 10, none⟩ = some (.int .i64 kd) := by rw [← hkd, ← hHo.kind, ← hon]; exact hC 0 _ rfl
      have HKD := Lib.hid hkd
      clear hop hol hoy hC hHo l2 l4 hnn hol2 hn2 hon
      by_cases hk : kd = k
      · have hq : (kd != k) = false := by simp [hk]
        have HEQ2 : Hid (bClose t k = (bPop tt, true)) := Lib.hid (by rw [HEQ.out, ← HPA.out, popTo_stop HOP.out (by rw [HKD.out]; exact hk)])
        subst hk
        clear hkd
        have HPP := Lib.hid (rpop_any (Fp S X w wr) ⟨(m1, m2, m3), (some ⟨g, off, none⟩, n2, n3), (o1, o2, o3)⟩ tt ol oy wr HTr.out.inn HTr.out.bt HOP.out (by have := HBT.out; omega))
        obtain ⟨tp, htp⟩ : ∃ tp, bPop tt = tp := ⟨_, rfl⟩
        rw [htp] at HPP HEQ2
        simp only [tvcell, pv] at HPP
        clear htp
        have y0 : wr.cell? ⟨w.heap.size, 0, none⟩ = some (.string ⟨tt.nm.a.toArray⟩) := HTr.out.box.cell 0
        have y1 : wr.cell? ⟨w.heap.size, 1, none⟩ = some (.string ⟨tt.nm.b.toArray⟩) := HTr.out.box.cell 1
        have y2 : wr.cell? ⟨w.heap.size, 2, none⟩ = some (.string ⟨tt.nm.c.toArray⟩) := HTr.out.box.cell 2
        have y3 : wr.cell? ⟨w.heap.size, 3, none⟩ = some (.string ⟨tt.nm.d.toArray⟩) := HTr.out.box.cell 3
        have y4 : wr.cell? ⟨w.heap.size, 4, none⟩ = some (.slice m1 m2 m3) := HTr.out.box.cell 4
        have y5 : wr.cell? ⟨w.heap.size, 5, none⟩ = some (.slice (some ⟨g, off, none⟩) n2 n3) := HTr.out.box.cell 5
        have y6 : wr.cell? ⟨w.heap.size, 6, none⟩ = some (.slice o1 o2 o3) := HTr.out.box.cell 6
        have y7 : wr.cell? ⟨w.heap.size, 7, none⟩ = some (.int .i64 tt.line) := HTr.out.box.cell 7
        have y8 : wr.cell? ⟨w.heap.size, 8, none⟩ = some (.bool tt.has) := HTr.out.box.cell 8
        go_wp2_with fail
        refine HPP.out.mono ?_
        rintro e wq ⟨⟨⟨h1, h2, h3⟩, ⟨i1, i2, i3⟩, ⟨j1, j2, j3⟩⟩, rfl, hbt, hbq⟩
        simp only [tvcell, pv]
        have TG := Lib.hid (HTr.out.keep hbq)
        have hbt' := Lib.hid (hbt.mono (Fp.mo HTr.out.bel.size HTr.out.hX hbq.size))
        clear hbt hbq HPP y0 y1 y2 y3 y4 y5 y6 y7 y8
        have z0 : wq.cell? ⟨w.heap.size + 1, 0, none⟩ = some (.string ⟨#[]⟩) := TG.out.res.cell 0
        have z1 : wq.cell? ⟨w.heap.size + 1, 1, none⟩ = some (.string ⟨#[]⟩) := TG.out.res.cell 1
        have z2 : wq.cell? ⟨w.heap.size + 1, 2, none⟩ = some (.string ⟨#[]⟩) := TG.out.res.cell 2
        have z3 : wq.cell? ⟨w.heap.size + 1, 3, none⟩ = some (.string ⟨#[]⟩) := TG.out.res.cell 3
        have z4 : wq.cell? ⟨w.heap.size + 1, 4, none⟩ = some (.slice none 0 0) := TG.out.res.cell 4
        have z5 : wq.cell? ⟨w.heap.size + 1, 5, none⟩ = some (.slice none 0 0) := TG.out.res.cell 5
        have z6 : wq.cell? ⟨w.heap.size + 1, 6, none⟩ = some (.slice none 0 0) := TG.out.res.cell 6
        have z7 : wq.cell? ⟨w.heap.size + 1, 7, none⟩ = some (.int .i64 0) := TG.out.res.cell 7
        have z8 : wq.cell? ⟨w.heap.size + 1, 8, none⟩ = some (.bool false) := TG.out.res.cell 8
        have v0 : wq.frozen? ⟨w.heap.size + 1, 0, none⟩ = false := TG.out.res.frozen (by simp [zTV])
        have v1 : wq.frozen? ⟨w.heap.size + 1, 1, none⟩ = false := TG.out.res.frozen (by simp [zTV])
        have v2 : wq.frozen? ⟨w.heap.size + 1, 2, none⟩ = false := TG.out.res.frozen (by simp [zTV])
        have v3 : wq.frozen? ⟨w.heap.size + 1, 3, none⟩ = false := TG.out.res.frozen (by simp [zTV])
        have v4 : wq.frozen? ⟨w.heap.size + 1, 4, none⟩ = false := TG.out.res.frozen (by simp [zTV])
        have v5 : wq.frozen? ⟨w.heap.size + 1, 5, none⟩ = false := TG.out.res.frozen (by simp [zTV])
        have v6 : wq.frozen? ⟨w.heap.size + 1, 6, none⟩ = false := TG.out.res.frozen (by simp [zTV])
        have v7 : wq.frozen? ⟨w.heap.size + 1, 7, none⟩ = false := TG.out.res.frozen (by simp [zTV])
        have v8 : wq.frozen? ⟨w.heap.size + 1, 8, none⟩ = false := TG.out.res.frozen (by simp [zTV])
        go_wp2_with fail
        have hF := TG.out.fin2 hbt'.out
        have hblk := hF.2.2
        have k0' := hblk.cell 0
        have k1' := hblk.cell 1
        have k2' := hblk.cell 2
        have k3' := hblk.cell 3
        have k4' := hblk.cell 4
        have k5' := hblk.cell 5
        have k6' := hblk.cell 6
        have k7' := hblk.cell 7
        have k8' := hblk.cell 8
        unfold set9 at k0' k1' k2' k3' k4' k5' k6' k7' k8'
        simp [tvcell, pv] at k0' k1' k2' k3' k4' k5' k6' k7' k8'
        refine bodyPost_ret (v := .tuple #[.agg #[.string ⟨tp.nm.a.toArray⟩, .string ⟨tp.nm.b.toArray⟩, .string ⟨tp.nm.c.toArray⟩, .string ⟨tp.nm.d.toArray⟩, .slice h1 h2 h3, .slice i1 i2 i3, .slice j1 j2 j3, .int .i64 tp.line, .bool tp.has], .bool true]) (by simp [results, Tryd.results35, go_sem, k0', k1', k2', k3', k4', k5', k6', k7', k8']) rfl ?_
        exact (by rw [HEQ2.out]; exact ⟨_, rfl, hF.1, hF.2.1⟩)
      · have hq : (kd != k) = true := by simp [hk]
        have HNK : Hid (¬ oy.hd.kind = k) := Lib.hid (by rw [HKD.out]; exact hk)
        clear hkd hk
        have HPP := Lib.hid (rpop_any (Fp S X w wr) ⟨(m1, m2, m3), (some ⟨g, off, none⟩, n2, n3), (o1, o2, o3)⟩ tt ol oy wr HTr.out.inn HTr.out.bt HOP.out (by have := HBT.out; omega))
        obtain ⟨tp, htp⟩ : ∃ tp, bPop tt = tp := ⟨_, rfl⟩
        rw [htp] at HPP
        have HTP := Lib.hid htp
        simp only [tvcell, pv] at HPP
        clear htp
        have y0 : wr.cell? ⟨w.heap.size, 0, none⟩ = some (.string ⟨tt.nm.a.toArray⟩) := HTr.out.box.cell 0
        have y1 : wr.cell? ⟨w.heap.size, 1, none⟩ = some (.string ⟨tt.nm.b.toArray⟩) := HTr.out.box.cell 1
        have y2 : wr.cell? ⟨w.heap.size, 2, none⟩ = some (.string ⟨tt.nm.c.toArray⟩) := HTr.out.box.cell 2
        have y3 : wr.cell? ⟨w.heap.size, 3, none⟩ = some (.string ⟨tt.nm.d.toArray⟩) := HTr.out.box.cell 3
        have y4 : wr.cell? ⟨w.heap.size, 4, none⟩ = some (.slice m1 m2 m3) := HTr.out.box.cell 4
        have y5 : wr.cell? ⟨w.heap.size, 5, none⟩ = some (.slice (some ⟨g, off, none⟩) n2 n3) := HTr.out.box.cell 5
        have y6 : wr.cell? ⟨w.heap.size, 6, none⟩ = some (.slice o1 o2 o3) := HTr.out.box.cell 6
        have y7 : wr.cell? ⟨w.heap.size, 7, none⟩ = some (.int .i64 tt.line) := HTr.out.box.cell 7
        have y8 : wr.cell? ⟨w.heap.size, 8, none⟩ = some (.bool tt.has) := HTr.out.box.cell 8
        go_wp2_with fail
        refine HPP.out.mono ?_
        rintro e wq ⟨⟨⟨h1, h2, h3⟩, ⟨i1, i2, i3⟩, ⟨j1, j2, j3⟩⟩, rfl, hbt, hbq⟩
        simp only [tvcell, pv]
        have T1 := HTr.out.keep hbq
        have hbt' := hbt.mono (Fp.mo HTr.out.bel.size HTr.out.hX hbq.size)
        have HTN := Lib.hid (T1.all hbt')
        have T1H := Lib.hid T1
        have HM : Hid (opnL w.heap.size (set9 wq w.heap.size tp ⟨(h1, h2, h3), (i1, i2, i3), (j1, j2, j3)⟩) < opnL w.heap.size wr) := Lib.hid (by rw [HTN.out.opnl, HTr.out.opnl, ← HTP.out, pop_len, HOP.out]; simp)
        clear hbt hbq T1 hbt' HPP y0 y1 y2 y3 y4 y5 y6 y7 y8
        have y0 : wq.cell? ⟨w.heap.size, 0, none⟩ = some (.string ⟨tt.nm.a.toArray⟩) := T1H.out.box.cell 0
        have y1 : wq.cell? ⟨w.heap.size, 1, none⟩ = some (.string ⟨tt.nm.b.toArray⟩) := T1H.out.box.cell 1
        have y2 : wq.cell? ⟨w.heap.size, 2, none⟩ = some (.string ⟨tt.nm.c.toArray⟩) := T1H.out.box.cell 2
        have y3 : wq.cell? ⟨w.heap.size, 3, none⟩ = some (.string ⟨tt.nm.d.toArray⟩) := T1H.out.box.cell 3
        have y4 : wq.cell? ⟨w.heap.size, 4, none⟩ = some (.slice m1 m2 m3) := T1H.out.box.cell 4
        have y5 : wq.cell? ⟨w.heap.size, 5, none⟩ = some (.slice (some ⟨g, off, none⟩) n2 n3) := T1H.out.box.cell 5
        have y6 : wq.cell? ⟨w.heap.size, 6, none⟩ = some (.slice o1 o2 o3) := T1H.out.box.cell 6
        have y7 : wq.cell? ⟨w.heap.size, 7, none⟩ = some (.int .i64 tt.line) := T1H.out.box.cell 7
        have y8 : wq.cell? ⟨w.heap.size, 8, none⟩ = some (.bool tt.has) := T1H.out.box.cell 8
        have f0 : wq.frozen? ⟨w.heap.size, 0, none⟩ = false := T1H.out.box.frozen (by simp [tvcell])
        have f1 : wq.frozen? ⟨w.heap.size, 1, none⟩ = false := T1H.out.box.frozen (by simp [tvcell])
        have f2 : wq.frozen? ⟨w.heap.size, 2, none⟩ = false := T1H.out.box.frozen (by simp [tvcell])
        have f3 : wq.frozen? ⟨w.heap.size, 3, none⟩ = false := T1H.out.box.frozen (by simp [tvcell])
        have f4 : wq.frozen? ⟨w.heap.size, 4, none⟩ = false := T1H.out.box.frozen (by simp [tvcell])
        have f5 : wq.frozen? ⟨w.heap.size, 5, none⟩ = false := T1H.out.box.frozen (by simp [tvcell])
        have f6 : wq.frozen? ⟨w.heap.size, 6, none⟩ = false := T1H.out.box.frozen (by simp [tvcell])
        have f7 : wq.frozen? ⟨w.heap.size, 7, none⟩ = false := T1H.out.box.frozen (by simp [tvcell])
        have f8 : wq.frozen? ⟨w.heap.size, 8, none⟩ = false := T1H.out.box.frozen (by simp [tvcell])
        go_wp2_with fail
        go_roundw
        case rel => exact ⟨tp, h1, h2, h3, i1, i2, i3, j1, j2, j3, Lib.hid HTN.out, Lib.hid (by rw [← HTP.out, btl_pop]; exact HBT.out), Lib.hid (by rw [← HTP.out]; exact in_pop HOP.out HNK.out HI.out), Lib.hid (by rw [← HTP.out, ← popTo_go HOP.out HNK.out]; exact HPA.out)⟩
        case measure => exact HM.out
end Go.Proofs.YtpccjgoeoeehoaaDoor
namespace Go.Proofs.YtpccjgoeoeehoaaDoor
open Go.RowKit
def zDocL : List Value := [.string ⟨#[]⟩, .string ⟨#[]⟩, .string ⟨#[]⟩, .string ⟨#[]⟩, .slice none 0 0]
/-- A builder's box alone. -/
structure TBo (S X : Nat → Prop) (w : World) (o r : Nat) (W : World) (x : TV) (t : Bt) : Prop where
  hS : ∀ b, S b → b < w.heap.size
  bel : Below w.heap.size w W
  lo : w.heap.size ≤ o
  lr : w.heap.size ≤ r
  ne : r ≠ o
  Xo : X o
  Xr : X r
  hX : ∀ b, X b → b < W.heap.size
  box : Blk W o 32 (tvcell t x)
  res : Blk W r 29 zDocL
  bt : BtIs (Fp S X w W) W x t
section
variable {S X : Nat → Prop} {w W W' : World} {o r : Nat} {x x' : TV} {t t' : Bt}
theorem TBo.keep (h : TBo S X w o r W x t) (hb : Below W.heap.size W W') : TBo S X w o r W' x t :=
  ⟨h.hS, h.bel.trans (hb.mono h.bel.size), h.lo, h.lr, h.ne, h.Xo, h.Xr, fun b q => Nat.lt_of_lt_of_le (h.hX b q) hb.size, h.box.below hb, h.res.below hb, (h.bt.keep (Fp.kp h.hS h.bel.size hb)).mono (Fp.up hb.size)⟩
theorem TBo.all (h : TBo S X w o r W x t) (hbt : BtIs (Fp S X w W) W x' t') : TBo S X w o r (set9 W o t' x') x' t' :=
  ⟨h.hS, set9_below h.bel h.lo _ _, h.lo, h.lr, h.ne, h.Xo, h.Xr, fun b q => by rw [set9_size]; exact h.hX b q, set9_blk h.box t' x', (set9_heap W o t' x' h.ne).trans h.res,
    (hbt.keep (fun b q => set9_heap W o t' x' (Fp.ne h.hS h.Xo h.lo b q))).mono (fun b q => by unfold Fp at *; rwa [set9_size])⟩
theorem TBo.inn (h : TBo S X w o r W x t) : ∀ b, Fp S X w W b → b < W.heap.size := Fp.lt h.hS h.bel.size
theorem TBo.opn_len (h : TBo S X w o r W x t) : x.opn.2.1 = t.opn.length := by
  obtain ⟨a, c, e⟩ := h.bt.opn.len
  rw [pv_eq e]
theorem TBo.opnl (h : TBo S X w o r W x t) : opnL o W = t.opn.length := by
  have e := h.box.cell 5
  rw [← h.opn_len]
  exact opnL_of (a := x.opn.1) (c := x.opn.2.2) e
theorem TBo.start (hS : ∀ b, S b → b < w.heap.size) (h : BtIs S w x t) :
    TBo S (fun b => b = w.heap.size ∨ b = w.heap.size + 1) w w.heap.size (w.heap.size + 1) ((w.alloc (.cells (tvcell t x).toArray 32)).alloc (.cells zDocL.toArray 29)) x t := by
  obtain ⟨W, hW⟩ : ∃ W, W = (w.alloc (.cells (tvcell t x).toArray 32)).alloc (.cells zDocL.toArray 29) := ⟨_, rfl⟩
  obtain ⟨bl, h1, h2⟩ := two_lits w _ _ W hW
  have hz : W.heap.size = w.heap.size + 1 + 1 := by rw [hW, World.size_alloc, World.size_alloc]
  rw [← hW]
  exact ⟨hS, bl, Nat.le_refl _, by omega, by omega, .inl rfl, .inr rfl, fun b q => by omega, h1, h2, (h.keep (Kp.below bl hS)).mono (fun b q => .inl q)⟩
end
def set5 (W : World) (g : Nat) (m : Nm) (v : Value) : World := ((((W.setCell ⟨g, 0, none⟩ (.string ⟨m.a.toArray⟩)).setCell ⟨g, 1, none⟩ (.string ⟨m.b.toArray⟩)).setCell ⟨g, 2, none⟩ (.string ⟨m.c.toArray⟩)).setCell ⟨g, 3, none⟩ (.string ⟨m.d.toArray⟩)).setCell ⟨g, 4, none⟩ v
theorem set5_heap (W : World) (g : Nat) (m : Nm) (v : Value) {k : Nat} (h : k ≠ g) : (set5 W g m v).heap[k]? = W.heap[k]? := by
  unfold set5
  simp only [Below.heap_setCell _ (⟨g, _, none⟩ : Addr) _ k h]
theorem set5_size (W : World) (g : Nat) (m : Nm) (v : Value) : (set5 W g m v).heap.size = W.heap.size := by simp [set5, World.setCell]
theorem set5_blk {W : World} {g : Nat} {e : TypeId} {a0 a1 a2 a3 a4 : Value} (h : Blk W g e [a0, a1, a2, a3, a4]) (m : Nm) (v : Value) : Blk (set5 W g m v) g e (docL m v) :=
  ((((h.set 0 _).set 1 _).set 2 _).set 3 _).set 4 _
theorem set5_below {D : Nat} {a W : World} (h : Below D a W) {g : Nat} (hg : D ≤ g) (m : Nm) (v : Value) : Below D a (set5 W g m v) := ((((h.setCell hg _).setCell hg _).setCell hg _).setCell hg _).setCell hg _
def DcQ (S : Nat → Prop) (m : Nm) (l : List Nd) (w : World) (e : Ending) (w' : World) : Prop := ∃ s : PV, e = .returned (docV m (pv s)) ∧ NsS (Mo S w w') w' (pv s) l ∧ Below w.heap.size w w'
set_option maxRecDepth 100000 in
set_option maxHeartbeats 8000000 in
theorem rdoc8_any (S : Nat → Prop) (x : TV) (t : Bt) (w : World) (hS : ∀ b, S b → b < w.heap.size) (h : BtIs S w x t) (hb : btl t ≤ 40000) :
    Calls Tryd.prog 18 #[.agg (tvcell t x).toArray] w (DcQ S t.nm (bDoc t) w) := by
  have T0 := TBo.start hS h
  obtain ⟨W0, hW0⟩ : ∃ W, W = (w.alloc (.cells (tvcell t x).toArray 32)).alloc (.cells zDocL.toArray 29) := ⟨_, rfl⟩
  rw [← hW0] at T0
  obtain ⟨X, hX⟩ : ∃ X : Nat → Prop, X = (fun b => b = w.heap.size ∨ b = w.heap.size + 1) := ⟨_, rfl⟩
  rw [← hX] at T0
  clear hX
  have hbt0 : btl t = nlL t.kids + nlL t.opn + t.text.length := rfl
  obtain ⟨⟨a1, a2, a3⟩, ⟨b1, b2, b3⟩, ⟨e1, e2, e3⟩⟩ := x
  have HT0 := Lib.hid T0
  have HW0 := Lib.hid hW0
  simp only [zDocL] at HW0
  have HS := Lib.hid hS
  have y0 : W0.cell? ⟨w.heap.size, 0, none⟩ = some (.string ⟨t.nm.a.toArray⟩) := T0.box.cell 0
  have y1 : W0.cell? ⟨w.heap.size, 1, none⟩ = some (.string ⟨t.nm.b.toArray⟩) := T0.box.cell 1
  have y2 : W0.cell? ⟨w.heap.size, 2, none⟩ = some (.string ⟨t.nm.c.toArray⟩) := T0.box.cell 2
  have y3 : W0.cell? ⟨w.heap.size, 3, none⟩ = some (.string ⟨t.nm.d.toArray⟩) := T0.box.cell 3
  have y4 : W0.cell? ⟨w.heap.size, 4, none⟩ = some (.slice a1 a2 a3) := T0.box.cell 4
  have y5 : W0.cell? ⟨w.heap.size, 5, none⟩ = some (.slice b1 b2 b3) := T0.box.cell 5
  have y6 : W0.cell? ⟨w.heap.size, 6, none⟩ = some (.slice e1 e2 e3) := T0.box.cell 6
  have y7 : W0.cell? ⟨w.heap.size, 7, none⟩ = some (.int .i64 t.line) := T0.box.cell 7
  have y8 : W0.cell? ⟨w.heap.size, 8, none⟩ = some (.bool t.has) := T0.box.cell 8
  have HEN := Lib.hid (rend_any (Fp S X w W0) ⟨(a1, a2, a3), (b1, b2, b3), (e1, e2, e3)⟩ t W0 T0.inn T0.bt (by omega))
  have hbe := btl_end t
  obtain ⟨tb, htb⟩ : ∃ tb, bEnd t = tb := ⟨_, rfl⟩
  rw [htb] at HEN hbe
  have HAL : Hid (bDoc t = tidyL (bAll tb)) := Lib.hid (by unfold bDoc; rw [htb])
  have hnm : tb.nm = t.nm := by
    rw [← htb]
    unfold bEnd
    split
    · rfl
    · exact (lay_sameP t _).1
  have HNM0 := Lib.hid hnm
  simp only [tvcell, pv] at HEN
  clear T0 hW0 h hS htb hbt0 hnm
  go_enter Tryd.func18, Tryd.ntmps18
  go_upto_region 1 with fail
  rw [← HW0.out]
  clear HW0
  go_wp2_with fail
  refine HEN.out.mono ?_
  rintro e wq ⟨⟨⟨c1, c2, c3⟩, ⟨d1, d2, d3⟩, ⟨g1, g2, g3⟩⟩, rfl, hbt, hbq⟩
  simp only [tvcell, pv]
  have T1 := HT0.out.keep hbq
  have hbt' := hbt.mono (Fp.mo HT0.out.bel.size HT0.out.hX hbq.size)
  have BQ := Lib.hid hbq
  obtain ⟨W2, hWL⟩ : ∃ X, X = set9 wq w.heap.size tb ⟨(c1, c2, c3), (d1, d2, d3), (g1, g2, g3)⟩ := ⟨_, rfl⟩
  have TL' := T1.all hbt'
  rw [← hWL] at TL'
  have T2 := Lib.hid TL'
  have T1H := Lib.hid T1
  have HZ2 : Hid (wq.heap.size = W2.heap.size) := Lib.hid (by rw [hWL, set9_size])
  have HHP : Hid (∀ b, b ≠ w.heap.size → W2.heap[b]? = wq.heap[b]?) := Lib.hid (fun b hb => by rw [hWL]; exact set9_heap _ _ _ _ hb)
  unfold set9 at hWL
  simp only [pv] at hWL
  have HWL := Lib.hid hWL
  clear hbt hbq hbt' TL' T1 hWL HEN y0 y1 y2 y3 y4 y5 y6 y7 y8
  have y0 : wq.cell? ⟨w.heap.size, 0, none⟩ = some (.string ⟨t.nm.a.toArray⟩) := T1H.out.box.cell 0
  have y1 : wq.cell? ⟨w.heap.size, 1, none⟩ = some (.string ⟨t.nm.b.toArray⟩) := T1H.out.box.cell 1
  have y2 : wq.cell? ⟨w.heap.size, 2, none⟩ = some (.string ⟨t.nm.c.toArray⟩) := T1H.out.box.cell 2
  have y3 : wq.cell? ⟨w.heap.size, 3, none⟩ = some (.string ⟨t.nm.d.toArray⟩) := T1H.out.box.cell 3
  have y4 : wq.cell? ⟨w.heap.size, 4, none⟩ = some (.slice a1 a2 a3) := T1H.out.box.cell 4
  have y5 : wq.cell? ⟨w.heap.size, 5, none⟩ = some (.slice b1 b2 b3) := T1H.out.box.cell 5
  have y6 : wq.cell? ⟨w.heap.size, 6, none⟩ = some (.slice e1 e2 e3) := T1H.out.box.cell 6
  have y7 : wq.cell? ⟨w.heap.size, 7, none⟩ = some (.int .i64 t.line) := T1H.out.box.cell 7
  have y8 : wq.cell? ⟨w.heap.size, 8, none⟩ = some (.bool t.has) := T1H.out.box.cell 8
  have f0 : wq.frozen? ⟨w.heap.size, 0, none⟩ = false := T1H.out.box.frozen (by simp [tvcell])
  have f1 : wq.frozen? ⟨w.heap.size, 1, none⟩ = false := T1H.out.box.frozen (by simp [tvcell])
  have f2 : wq.frozen? ⟨w.heap.size, 2, none⟩ = false := T1H.out.box.frozen (by simp [tvcell])
  have f3 : wq.frozen? ⟨w.heap.size, 3, none⟩ = false := T1H.out.box.frozen (by simp [tvcell])
  have f4 : wq.frozen? ⟨w.heap.size, 4, none⟩ = false := T1H.out.box.frozen (by simp [tvcell])
  have f5 : wq.frozen? ⟨w.heap.size, 5, none⟩ = false := T1H.out.box.frozen (by simp [tvcell])
  have f6 : wq.frozen? ⟨w.heap.size, 6, none⟩ = false := T1H.out.box.frozen (by simp [tvcell])
  have f7 : wq.frozen? ⟨w.heap.size, 7, none⟩ = false := T1H.out.box.frozen (by simp [tvcell])
  have f8 : wq.frozen? ⟨w.heap.size, 8, none⟩ = false := T1H.out.box.frozen (by simp [tvcell])
  go_upto_region 2 with fail
  rw [← HWL.out]
  clear HWL y0 y1 y2 y3 y4 y5 y6 y7 y8 f0 f1 f2 f3 f4 f5 f6 f7 f8
  clear T1H HZ2 HHP BQ HT0
  obtain ⟨bt0, hbt0⟩ : ∃ n, btl tb = n := ⟨_, rfl⟩
  rw [hbt0] at hbe
  obtain ⟨nm, hnm2⟩ : ∃ m, t.nm = m := ⟨_, rfl⟩
  rw [hnm2] at HNM0
  have HNE := Lib.hid hnm2
  clear hnm2
  go_loopw [] (fun wr => ∃ (tt : Bt) (m1 : Option Addr) (m2 m3 : Nat) (n1 : Option Addr) (n2 n3 : Nat) (o1 : Option Addr) (o2 o3 : Nat), Hid (TBo S X w w.heap.size (w.heap.size + 1) wr ⟨(m1, m2, m3), (n1, n2, n3), (o1, o2, o3)⟩ tt) ∧ Hid (btl tt = bt0) ∧ Hid (bAll tt = bAll tb) ∧ Hid (tt.nm = nm)) (fun wr => opnL w.heap.size wr)
  case atStart => exact ⟨tb, c1, c2, c3, d1, d2, d3, g1, g2, g3, T2, Lib.hid hbt0, Lib.hid rfl, HNM0⟩
  case round =>
    obtain ⟨tt, m1, m2, m3, n1, n2, n3, o1, o2, o3, HTr, HBT, HPA, HNM⟩ := hrel
    have y5 : wr.cell? ⟨w.heap.size, 5, none⟩ = some (.slice n1 n2 n3) := HTr.out.box.cell 5
    have HOL : Hid (n2 = tt.opn.length) := Lib.hid HTr.out.opn_len
    rcases opn_cases tt.opn with hop | ⟨ol, oy, hop⟩
    · skip
      have n20 : n2 = 0 := by rw [HOL.out, hop]; rfl
      subst n20
      have hd0 : decide ((0 : Int) < 0) = false := rfl
      have hal : tt.kids = bAll tb := by rw [← HPA.out]; unfold bAll; rw [hop]; simp [wrapK]
      have HTD := Lib.hid (rTidy_any (Fp S X w wr) nm tt.kids (.slice m1 m2 m3) wr (by have := HBT.out; have e : btl tt = nlL tt.kids + nlL tt.opn + tt.text.length := rfl; omega) HTr.out.bt.kids HTr.out.inn)
      rw [hal, ← HAL.out] at HTD
      unfold docV docL at HTD
      clear hop hal
      have y0 : wr.cell? ⟨w.heap.size, 0, none⟩ = some (.string ⟨nm.a.toArray⟩) := by rw [← HNM.out]; exact HTr.out.box.cell 0
      have y1 : wr.cell? ⟨w.heap.size, 1, none⟩ = some (.string ⟨nm.b.toArray⟩) := by rw [← HNM.out]; exact HTr.out.box.cell 1
      have y2 : wr.cell? ⟨w.heap.size, 2, none⟩ = some (.string ⟨nm.c.toArray⟩) := by rw [← HNM.out]; exact HTr.out.box.cell 2
      have y3 : wr.cell? ⟨w.heap.size, 3, none⟩ = some (.string ⟨nm.d.toArray⟩) := by rw [← HNM.out]; exact HTr.out.box.cell 3
      have y4 : wr.cell? ⟨w.heap.size, 4, none⟩ = some (.slice m1 m2 m3) := HTr.out.box.cell 4
      go_wp2_with fail
      refine HTD.out.mono ?_
      rintro e wq ⟨⟨s1, s2, s3⟩, rfl, hns, hbq⟩
      simp only [pv] at hns ⊢
      have TG := Lib.hid (HTr.out.keep hbq)
      have HNS := Lib.hid (hns.mono (Fp.mo HTr.out.bel.size HTr.out.hX hbq.size))
      clear hns hbq HTD y0 y1 y2 y3 y4 y5
      have z0 : wq.cell? ⟨w.heap.size + 1, 0, none⟩ = some (.string ⟨#[]⟩) := TG.out.res.cell 0
      have z1 : wq.cell? ⟨w.heap.size + 1, 1, none⟩ = some (.string ⟨#[]⟩) := TG.out.res.cell 1
      have z2 : wq.cell? ⟨w.heap.size + 1, 2, none⟩ = some (.string ⟨#[]⟩) := TG.out.res.cell 2
      have z3 : wq.cell? ⟨w.heap.size + 1, 3, none⟩ = some (.string ⟨#[]⟩) := TG.out.res.cell 3
      have z4 : wq.cell? ⟨w.heap.size + 1, 4, none⟩ = some (.slice none 0 0) := TG.out.res.cell 4
      have v0 : wq.frozen? ⟨w.heap.size + 1, 0, none⟩ = false := TG.out.res.frozen (by simp [zDocL])
      have v1 : wq.frozen? ⟨w.heap.size + 1, 1, none⟩ = false := TG.out.res.frozen (by simp [zDocL])
      have v2 : wq.frozen? ⟨w.heap.size + 1, 2, none⟩ = false := TG.out.res.frozen (by simp [zDocL])
      have v3 : wq.frozen? ⟨w.heap.size + 1, 3, none⟩ = false := TG.out.res.frozen (by simp [zDocL])
      have v4 : wq.frozen? ⟨w.heap.size + 1, 4, none⟩ = false := TG.out.res.frozen (by simp [zDocL])
      go_wp2_with fail
      have hblk := set5_blk TG.out.res nm (.slice s1 s2 s3)
      have k0' := hblk.cell 0
      have k1' := hblk.cell 1
      have k2' := hblk.cell 2
      have k3' := hblk.cell 3
      have k4' := hblk.cell 4
      unfold set5 at k0' k1' k2' k3' k4'
      simp [docL] at k0' k1' k2' k3' k4'
      refine bodyPost_ret (v := .agg #[.string ⟨nm.a.toArray⟩, .string ⟨nm.b.toArray⟩, .string ⟨nm.c.toArray⟩, .string ⟨nm.d.toArray⟩, .slice s1 s2 s3]) (by simp [results, Tryd.results18, go_sem, k0', k1', k2', k3', k4']) rfl ?_
      rw [HNE.out]
      exact ⟨(s1, s2, s3), rfl, ((HNS.out.keep (fun b q => set5_heap wq _ nm (.slice s1 s2 s3) (Fp.ne TG.out.hS TG.out.Xr TG.out.lr b q))).mono Fp.fin).mono (fun b q => by rcases q with q | q; exact .inl q; exact .inr (by show _ ∧ b < (set5 wq _ nm (.slice s1 s2 s3)).heap.size; rw [set5_size]; exact q)), set5_below TG.out.bel TG.out.lr nm (.slice s1 s2 s3)⟩
    · skip
      have hol : n2 = ol.length + 1 := by rw [HOL.out, hop]; simp
      have HOP := Lib.hid hop
      have hoy : tt.opn[ol.length]? = some oy := by rw [hop]; simp
      have hd1 : decide (0 < n2) = true := decide_eq_true (by omega)
      have hd2 : decide ((0 : Int) < (n2 : Int)) = true := decide_eq_true (by omega)
      have hn0 : 0 < n2 := by omega
      clear hop hol hoy
      have HPP := Lib.hid (rpop_any (Fp S X w wr) ⟨(m1, m2, m3), (n1, n2, n3), (o1, o2, o3)⟩ tt ol oy wr HTr.out.inn HTr.out.bt HOP.out (by have := HBT.out; omega))
      obtain ⟨tp, htp⟩ : ∃ tp, bPop tt = tp := ⟨_, rfl⟩
      rw [htp] at HPP
      have HTP := Lib.hid htp
      simp only [tvcell, pv] at HPP
      clear htp
      have y0 : wr.cell? ⟨w.heap.size, 0, none⟩ = some (.string ⟨tt.nm.a.toArray⟩) := HTr.out.box.cell 0
      have y1 : wr.cell? ⟨w.heap.size, 1, none⟩ = some (.string ⟨tt.nm.b.toArray⟩) := HTr.out.box.cell 1
      have y2 : wr.cell? ⟨w.heap.size, 2, none⟩ = some (.string ⟨tt.nm.c.toArray⟩) := HTr.out.box.cell 2
      have y3 : wr.cell? ⟨w.heap.size, 3, none⟩ = some (.string ⟨tt.nm.d.toArray⟩) := HTr.out.box.cell 3
      have y4 : wr.cell? ⟨w.heap.size, 4, none⟩ = some (.slice m1 m2 m3) := HTr.out.box.cell 4
      have y5 : wr.cell? ⟨w.heap.size, 5, none⟩ = some (.slice n1 n2 n3) := HTr.out.box.cell 5
      have y6 : wr.cell? ⟨w.heap.size, 6, none⟩ = some (.slice o1 o2 o3) := HTr.out.box.cell 6
      have y7 : wr.cell? ⟨w.heap.size, 7, none⟩ = some (.int .i64 tt.line) := HTr.out.box.cell 7
      have y8 : wr.cell? ⟨w.heap.size, 8, none⟩ = some (.bool tt.has) := HTr.out.box.cell 8
      go_wp2_with fail
      refine HPP.out.mono ?_
      rintro e wq ⟨⟨⟨h1, h2, h3⟩, ⟨i1, i2, i3⟩, ⟨j1, j2, j3⟩⟩, rfl, hbt, hbq⟩
      simp only [tvcell, pv]
      have T1 := HTr.out.keep hbq
      have hbt' := hbt.mono (Fp.mo HTr.out.bel.size HTr.out.hX hbq.size)
      have HTN := Lib.hid (T1.all hbt')
      have T1H := Lib.hid T1
      have HM : Hid (opnL w.heap.size (set9 wq w.heap.size tp ⟨(h1, h2, h3), (i1, i2, i3), (j1, j2, j3)⟩) < opnL w.heap.size wr) := Lib.hid (by rw [HTN.out.opnl, HTr.out.opnl, ← HTP.out, pop_len, HOP.out]; simp)
      clear hbt hbq T1 hbt' HPP y0 y1 y2 y3 y4 y5 y6 y7 y8
      have y0 : wq.cell? ⟨w.heap.size, 0, none⟩ = some (.string ⟨tt.nm.a.toArray⟩) := T1H.out.box.cell 0
      have y1 : wq.cell? ⟨w.heap.size, 1, none⟩ = some (.string ⟨tt.nm.b.toArray⟩) := T1H.out.box.cell 1
      have y2 : wq.cell? ⟨w.heap.size, 2, none⟩ = some (.string ⟨tt.nm.c.toArray⟩) := T1H.out.box.cell 2
      have y3 : wq.cell? ⟨w.heap.size, 3, none⟩ = some (.string ⟨tt.nm.d.toArray⟩) := T1H.out.box.cell 3
      have y4 : wq.cell? ⟨w.heap.size, 4, none⟩ = some (.slice m1 m2 m3) := T1H.out.box.cell 4
      have y5 : wq.cell? ⟨w.heap.size, 5, none⟩ = some (.slice n1 n2 n3) := T1H.out.box.cell 5
      have y6 : wq.cell? ⟨w.heap.size, 6, none⟩ = some (.slice o1 o2 o3) := T1H.out.box.cell 6
      have y7 : wq.cell? ⟨w.heap.size, 7, none⟩ = some (.int .i64 tt.line) := T1H.out.box.cell 7
      have y8 : wq.cell? ⟨w.heap.size, 8, none⟩ = some (.bool tt.has) := T1H.out.box.cell 8
      have f0 : wq.frozen? ⟨w.heap.size, 0, none⟩ = false := T1H.out.box.frozen (by simp [tvcell])
      have f1 : wq.frozen? ⟨w.heap.size, 1, none⟩ = false := T1H.out.box.frozen (by simp [tvcell])
      have f2 : wq.frozen? ⟨w.heap.size, 2, none⟩ = false := T1H.out.box.frozen (by simp [tvcell])
      have f3 : wq.frozen? ⟨w.heap.size, 3, none⟩ = false := T1H.out.box.frozen (by simp [tvcell])
      have f4 : wq.frozen? ⟨w.heap.size, 4, none⟩ = false := T1H.out.box.frozen (by simp [tvcell])
      have f5 : wq.frozen? ⟨w.heap.size, 5, none⟩ = false := T1H.out.box.frozen (by simp [tvcell])
      have f6 : wq.frozen? ⟨w.heap.size, 6, none⟩ = false := T1H.out.box.frozen (by simp [tvcell])
      have f7 : wq.frozen? ⟨w.heap.size, 7, none⟩ = false := T1H.out.box.frozen (by simp [tvcell])
      have f8 : wq.frozen? ⟨w.heap.size, 8, none⟩ = false := T1H.out.box.frozen (by simp [tvcell])
      go_wp2_with fail
      go_roundw
      case rel => exact ⟨tp, h1, h2, h3, i1, i2, i3, j1, j2, j3, Lib.hid HTN.out, Lib.hid (by rw [← HTP.out, btl_pop]; exact HBT.out), Lib.hid (by rw [← HTP.out, pop_all]; exact HPA.out), Lib.hid (by rw [← HTP.out, (pop_sameP tt).1]; exact HNM.out)⟩
      case measure => exact HM.out
end Go.Proofs.YtpccjgoeoeehoaaDoor
