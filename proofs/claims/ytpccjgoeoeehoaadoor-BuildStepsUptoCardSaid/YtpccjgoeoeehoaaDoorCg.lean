/- The program's builder: Open. The program's builder: Text. -/
import Derived.Test.YtpccjgoeoeehoaaDoorCe
import Derived.Deep.RegionHeld3
import Derived.Test.YtpccjgoeoeehoaaDoorC0
import Derived.Test.YtpccjgoeoeehoaaDoorQ2
set_option linter.unusedVariables false
set_option linter.unusedSimpArgs false
namespace Go.Proofs.YtpccjgoeoeehoaaDoor
open Go.RowKit
def zN0 : NV := ⟨0, 0, 0, nilP, nilP, nilP, [], nilP, false, false⟩
theorem zlit (W : World) : Fs 10 ncell (W.alloc (.cells #[.int .i64 0, .int .i64 0, .int .i64 0, .slice none 0 0, .slice none 0 0, .slice none 0 0, .string ⟨#[]⟩, .slice none 0 0, .bool false, .bool false] 40)) (.slice (some ⟨W.heap.size, 0, none⟩) 1 1) [zN0] := by
  have := fs_lit ncell_len W 40 [zN0]
  rw [flatV_one] at this
  exact this
def PushQ (m : Bool) (X R : Nat → Prop) (V : World) (b : Nat) (t : Bt) (y : Nd) (oa : Option Addr) (tl oc : Nat) (P : Nat → Prop) (w3 W : World) (x : NV) (ad : Addr) : Prop :=
  ∃ g c w', (Builtin.append_ #[27, 27] 27 #[.slice oa tl oc, .slice (some ad) 1 1]).run Tryd.prog W = .ok (.slice (some ⟨g, 0, none⟩) (tl + 1) c) w' ∧
    (∀ (i : Nat) u, zNd[i]? = some u → w'.cell? ⟨g, tl * 10 + i, none⟩ = some u ∧ w'.frozen? ⟨g, tl * 10 + i, none⟩ = false) ∧ g ≠ b ∧
    w'.cell? ⟨b, 5, none⟩ = some (.slice oa tl oc) ∧ w'.frozen? ⟨b, 5, none⟩ = false ∧ (∀ k, P k → k ≠ g ∧ k ≠ b ∧ w'.heap[k]? = V.heap[k]?) ∧
    AfC m X R b { t with opn := t.opn ++ [y] } V ((w'.setCells g (tl * 10) (ncell x)).setCell ⟨b, 5, none⟩ (.slice (some ⟨g, 0, none⟩) (tl + 1) c))
set_option maxRecDepth 100000 in
set_option maxHeartbeats 16000000 in
theorem bopen_any {m : Bool} {X R S : Nat → Prop} {w : World} {b : Nat} {t : Bt} {x : NV} {y : Nd} (h : BM m X R w b t) (hx : NdIs S w x y) (hS : ∀ k, S k → k < w.heap.size ∧ ¬ X k) (hb : btl t + nlN y ≤ 80000) :
    Calls Tryd.prog 30 #[ptrB b, .agg (ncell x).toArray] w (ClosP m X R b (bOpen t y) w) := by
  obtain ⟨W1, hW1⟩ : ∃ W, W = w.alloc (.cells (ncell x).toArray 40) := ⟨_, rfl⟩
  have b1 : Below w.heap.size w W1 := by rw [hW1]; exact below_lit _ _
  have kx : Blk W1 w.heap.size 40 (ncell x) := by rw [hW1]; exact heap_alloc_new w _
  have hlt := h.lt
  have hB1 := h.keep (Kp.below b1 (fun k q => hlt k (.inl q))) (Kp.below b1 (fun k q => hlt k (.inr q))) b1.size
  have HE := Lib.hid (bend_any hB1 (by omega))
  have hbe := btl_end t
  have HNX : Hid (∀ w2 X1 R1, BM m X1 R1 w2 b (bEnd t) → Exc X W1 w2 → (∀ k, X1 k → X k ∨ W1.heap.size ≤ k) → (∀ k, R1 k → R k ∨ X k ∨ W1.heap.size ≤ k) →
      (∀ (i : Nat) u, (ncell x)[i]? = some u → w2.cell? ⟨w.heap.size, i, none⟩ = some u) ∧ w.heap.size < w2.heap.size ∧
      (∀ V, Below w2.heap.size w2 V → Calls Tryd.prog 48 #[.agg (ncell x).toArray] V (CopyQ y V)) ∧
      ∃ oa tl oc, w2.cell? ⟨b, 5, none⟩ = some (.slice oa tl oc) ∧ tl ≤ 90000 ∧ b < w2.heap.size ∧
        (∀ w3 x6, CopyM w2.heap.size w3 x6 y → Below w2.heap.size w2 w3 → PushQ m X1 R1 w2 b (bEnd t) y oa tl oc (fun k => k = w.heap.size) w3 (w3.alloc (.cells #[.int .i64 0, .int .i64 0, .int .i64 0, .slice none 0 0, .slice none 0 0, .slice none 0 0, .string ⟨#[]⟩, .slice none 0 0, .bool false, .bool false] 40)) x6 ⟨w3.heap.size, 0, none⟩) ∧
        (∀ w3 x6, CopyM (w2.heap.size + 1) w3 x6 y → Below (w2.heap.size + 1) (w2.alloc (.cells #[.int .i64 0, .int .i64 0, .int .i64 0, .slice none 0 0, .slice none 0 0, .slice none 0 0, .string ⟨#[]⟩, .slice none 0 0, .bool false, .bool false] 40)).drew w3 → PushQ m X1 R1 w2 b (bEnd t) y oa tl oc (fun k => k = w.heap.size) w3 w3 x6 ⟨w2.heap.size, 0, none⟩)) := Lib.hid (fun w2 X1 R1 hB hE hX hR => by
    have hxn : ¬ X w.heap.size := fun q => by have := hlt _ (.inl q); omega
    have hx1 : ¬ X1 w.heap.size := fun q => (hX _ q).elim hxn (fun z => by have := kx.lt; omega)
    have hbx : b ≠ w.heap.size := fun e => by have := hlt b (.inl h.self); omega
    have hs1 := b1.size
    have hs2 := hE.size
    have hk1 := kx.lt
    refine ⟨fun i u hu => ?_, by omega, fun V hV => ?_, ?_⟩
    · rw [cell_blk (hE.block _ kx.lt hxn), kx.cell i]; exact hu
    · have kS : Kp S w V := fun k q => (hV.block k (by have := (hS k q).1; omega)).trans ((hE.block k (Nat.lt_of_lt_of_le (hS k q).1 b1.size) (hS k q).2).trans (b1.block k (hS k q).1))
      have hsV := hV.size
      exact bcopied_any (cntN y) y (Nat.le_refl _) (by omega) S x V (hx.keep kS) (fun k q => by have := (hS k q).1; omega)
    have hsm := btl_small (show btl (bEnd t) ≤ 90000 by omega)
    obtain ⟨oa, oc, c5, hbl, hP⟩ := hB.pushO (by omega)
    refine ⟨oa, _, oc, c5, hsm.2.1, hbl, fun w3 x6 hc hb3 => ?_, fun w3 x6 hc hb3 => ?_⟩
    · obtain ⟨g, c, w', p1, p2, p3, p4, p5, p6, p7, p8⟩ := hP w3 _ _ x6 y _ 1 hb3 (Nat.le_refl _) hc (below_lit w3 (.cells #[.int .i64 0, .int .i64 0, .int .i64 0, .slice none 0 0, .slice none 0 0, .slice none 0 0, .string ⟨#[]⟩, .slice none 0 0, .bool false, .bool false] 40)) (zlit w3)
      exact ⟨g, c, w', p1, p2, p3, p4, p5, fun k e => ⟨(p7 k (by omega) (by rw [e]; exact hx1)).1, by omega, (p7 k (by omega) (by rw [e]; exact hx1)).2⟩, p8⟩
    · have hz1 : (w2.alloc (.cells #[.int .i64 0, .int .i64 0, .int .i64 0, .slice none 0 0, .slice none 0 0, .slice none 0 0, .string ⟨#[]⟩, .slice none 0 0, .bool false, .bool false] 40)).drew.heap.size = w2.heap.size + 1 := World.size_alloc _ _
      have hz := zlit w2
      have hb3' : Below w2.heap.size w2 w3 := (below_lit w2 (.cells #[.int .i64 0, .int .i64 0, .int .i64 0, .slice none 0 0, .slice none 0 0, .slice none 0 0, .string ⟨#[]⟩, .slice none 0 0, .bool false, .bool false] 40)).drew.trans (hb3.mono (by omega))
      have hzz : Fs 10 ncell w3 (.slice (some ⟨w2.heap.size, 0, none⟩) 1 1) [zN0] := Fs.below (w := (w2.alloc (.cells #[.int .i64 0, .int .i64 0, .int .i64 0, .slice none 0 0, .slice none 0 0, .slice none 0 0, .string ⟨#[]⟩, .slice none 0 0, .bool false, .bool false] 40)).drew) hz (by rw [hz1]; exact hb3)
      obtain ⟨g, c, w', p1, p2, p3, p4, p5, p6, p7, p8⟩ := hP w3 w3 _ x6 y _ 1 hb3' (by omega) hc (Below.refl _ _) hzz
      exact ⟨g, c, w', p1, p2, p3, p4, p5, fun k e => ⟨(p7 k (by omega) (by rw [e]; exact hx1)).1, by omega, (p7 k (by omega) (by rw [e]; exact hx1)).2⟩, p8⟩)
  have HSZ : Hid (W1.heap.size = w.heap.size + 1 ∧ Exc X w W1) := Lib.hid ⟨by rw [hW1, World.size_alloc], Exc.of b1⟩
  obtain ⟨xk, xl, xn, ⟨t1, t2, t3⟩, ⟨k1, k2, k3⟩, ⟨r1, r2, r3⟩, xc, ⟨q1, q2, q3⟩, xb, xa⟩ := x
  simp only [ncell, pv] at hW1 HNX ⊢
  have HW1 := Lib.hid hW1
  have hblt : b < W1.heap.size := hB1.lt b (.inl hB1.self)
  clear h hx hS hb hW1 b1 kx hlt hB1 hbe
  go_enter Tryd.func30, Tryd.ntmps30
  go_upto_region 1 with fail
  rw [← HW1.out]
  clear HW1
  go_wp2_with fail
  refine HE.out.mono ?_
  rintro e w2 ⟨rfl, X1, R1, hB, hE, hX, hR⟩
  obtain ⟨hcl, hwl, hcp, oa, tl, oc, c5, htl, hbl, hPA, hPB⟩ := HNX.out w2 X1 R1 hB hE hX hR
  have HFN : Hid (∀ F, AfC m X1 R1 b { bEnd t with opn := (bEnd t).opn ++ [y] } w2 F → AfC m X R b (bOpen t y) w F) := Lib.hid (fun F hF => AfC.step (HSZ.out.2.then hE) (fun k q => (hX k q).imp id (fun z => by have := HSZ.out.1; omega)) (fun k q => (hR k q).imp id (fun z => z.imp id (fun z => by have := HSZ.out.1; omega))) hF)
  have HCP := Lib.hid hcp
  have HPA := Lib.hid hPA
  have HPB := Lib.hid hPB
  have x0 := hcl 0 _ rfl
  have x1 := hcl 1 _ rfl
  have x2 := hcl 2 _ rfl
  have x3 := hcl 3 _ rfl
  have x4 := hcl 4 _ rfl
  have x5 := hcl 5 _ rfl
  have x6 := hcl 6 _ rfl
  have x7 := hcl 7 _ rfl
  have x8 := hcl 8 _ rfl
  have x9 := hcl 9 _ rfl
  have HSX : Hid (∀ W : World, W.heap[w.heap.size]? = w2.heap[w.heap.size]? → W.cell? ⟨w.heap.size, 0, none⟩ = some (.int .i64 xk) ∧ W.cell? ⟨w.heap.size, 1, none⟩ = some (.int .i64 xl) ∧ W.cell? ⟨w.heap.size, 2, none⟩ = some (.int .i64 xn) ∧ W.cell? ⟨w.heap.size, 3, none⟩ = some (.slice t1 t2 t3) ∧ W.cell? ⟨w.heap.size, 4, none⟩ = some (.slice k1 k2 k3) ∧ W.cell? ⟨w.heap.size, 5, none⟩ = some (.slice r1 r2 r3) ∧ W.cell? ⟨w.heap.size, 6, none⟩ = some (.string ⟨xc.toArray⟩) ∧ W.cell? ⟨w.heap.size, 7, none⟩ = some (.slice q1 q2 q3) ∧ W.cell? ⟨w.heap.size, 8, none⟩ = some (.bool xb) ∧ W.cell? ⟨w.heap.size, 9, none⟩ = some (.bool xa)) := Lib.hid (fun W e => ⟨(cell_blk e).trans x0, (cell_blk e).trans x1, (cell_blk e).trans x2, (cell_blk e).trans x3, (cell_blk e).trans x4, (cell_blk e).trans x5, (cell_blk e).trans x6, (cell_blk e).trans x7, (cell_blk e).trans x8, (cell_blk e).trans x9⟩)
  clear hcl hcp hPA hPB hB hE hX hR HE HNX HSZ
  have hk0 : (0 : Int) ≤ (tl : Int) := by omega
  have hk1 : (tl : Int) < (tl : Int) + 1 := by omega
  have hk2 : (tl : Int) < ((tl + 1 : Nat) : Int) := by omega
  have hk3 : (tl : Int) ≤ 90000 := by omega
  go_wp2_with fail
  refine wp_region_held_drew (S := (fun W' => W'.cell? ⟨w.heap.size, 0, none⟩ = some (.int .i64 xk) ∧ W'.cell? ⟨w.heap.size, 1, none⟩ = some (.int .i64 xl) ∧ W'.cell? ⟨w.heap.size, 2, none⟩ = some (.int .i64 xn) ∧ W'.cell? ⟨w.heap.size, 3, none⟩ = some (.slice t1 t2 t3) ∧ W'.cell? ⟨w.heap.size, 4, none⟩ = some (.slice k1 k2 k3) ∧ W'.cell? ⟨w.heap.size, 5, none⟩ = some (.slice r1 r2 r3) ∧ W'.cell? ⟨w.heap.size, 6, none⟩ = some (.string ⟨xc.toArray⟩) ∧ W'.cell? ⟨w.heap.size, 7, none⟩ = some (.slice q1 q2 q3) ∧ W'.cell? ⟨w.heap.size, 8, none⟩ = some (.bool xb) ∧ W'.cell? ⟨w.heap.size, 9, none⟩ = some (.bool xa))) (by kernel_rfl) ?_ (fun hHeld => ?_)
  · exact HSX.out _ rfl
  refine wpAnyH_take (i := 0) (v := ptrB b) rfl (by kernel_rfl) (by kernel_rfl) (by kernel_rfl) (fun _ _ _ h => h) (Or.inl ⟨by rfl, fun w' hSw => by (try dsimp only at hSw); go_simp⟩) (by assumption) ?_
  simp only [List.getElem_toArray, List.getElem_cons_succ, List.getElem_cons_zero, Act.put, List.setIfInBounds_toArray, List.set_cons_zero, List.set_cons_succ]
  refine wpAnyH_take (i := 1) (v := ptrB b) rfl (by kernel_rfl) (by kernel_rfl) (by kernel_rfl) (fun _ _ _ h => h) (Or.inl ⟨by rfl, fun w' hSw => by (try dsimp only at hSw); go_simp⟩) (by assumption) ?_
  simp only [List.getElem_toArray, List.getElem_cons_succ, List.getElem_cons_zero, Act.put, List.setIfInBounds_toArray, List.set_cons_zero, List.set_cons_succ]
  refine wpAnyH_take (i := 2) (v := .pointer (some ⟨b, 5, none⟩)) rfl (by kernel_rfl) (by kernel_rfl) (by kernel_rfl) (fun _ _ _ h => h) (Or.inl ⟨by rfl, fun w' hSw => by (try dsimp only at hSw); go_simp⟩) (by assumption) ?_
  simp only [List.getElem_toArray, List.getElem_cons_succ, List.getElem_cons_zero, Act.put, List.setIfInBounds_toArray, List.set_cons_zero, List.set_cons_succ]
  refine wpAnyH_take (i := 4) (v := .agg #[.int .i64 xk, .int .i64 xl, .int .i64 xn, .slice t1 t2 t3, .slice k1 k2 k3, .slice r1 r2 r3, .string ⟨xc.toArray⟩, .slice q1 q2 q3, .bool xb, .bool xa]) rfl (by kernel_rfl) (by kernel_rfl) (by kernel_rfl) (fun _ _ _ h => h) (Or.inl ⟨by rfl, fun w' hSw => by (try dsimp only at hSw); go_simp⟩) (by assumption) ?_
  simp only [List.getElem_toArray, List.getElem_cons_succ, List.getElem_cons_zero, Act.put, List.setIfInBounds_toArray, List.set_cons_zero, List.set_cons_succ]
  refine wpAnyH_ready (rs := [3, 5, 7]) (by kernel_rfl) (by simp) ?_
  refine AllReadyH.cons rfl (fun K hK => ?_) (AllReadyH.cons rfl (fun K hK => ?_) (AllReadyH.cons rfl (fun K hK => ?_) AllReadyH.nil))
  · try simp only [List.getElem_toArray, List.getElem_cons_succ, List.getElem_cons_zero]
    go_simp
    refine hK.out _ _ ?_ (fun hHeld => ?_)
    · exact HSX.out _ rfl
    clear hK K
    try simp only [List.getElem_toArray, List.getElem_cons_succ, List.getElem_cons_zero, Act.put, List.setIfInBounds_toArray, List.set_cons_zero, List.set_cons_succ]
    refine wpAnyH_take (i := 6) (v := .int .i64 (tl : Int)) rfl (by kernel_rfl) (by kernel_rfl) (by kernel_rfl) (fun _ _ _ h => h) (Or.inl ⟨by rfl, fun w' hSw => by (try dsimp only at hSw); go_simp⟩) (by assumption) ?_
    simp only [List.getElem_toArray, List.getElem_cons_succ, List.getElem_cons_zero, Act.put, List.setIfInBounds_toArray, List.set_cons_zero, List.set_cons_succ]
    refine wpAnyH_ready (rs := [5, 7]) (by kernel_rfl) (by simp) ?_
    refine AllReadyH.cons rfl (fun K hK => ?_) (AllReadyH.cons rfl (fun K hK => ?_) AllReadyH.nil)
    · try simp only [List.getElem_toArray, List.getElem_cons_succ, List.getElem_cons_zero]
      go_simp
      go_at_call 48
      refine (HCP.out w2.drew (Below.refl w2.heap.size w2).drew).mono ?_
      rintro e w3 ⟨x6, rfl, hc6, hb3⟩
      have hb3' : Below w2.heap.size w2 w3 := (Below.refl w2.heap.size w2).drew.trans hb3
      have HB3 : Hid (Below w2.heap.size w2 w3) := Lib.hid hb3'
      have HC6 : Hid (CopyM w2.heap.size w3 x6 y) := Lib.hid hc6
      have c5w : w3.cell? ⟨b, 5, none⟩ = some (.slice oa tl oc) := below_eq hb3' c5
      have HHX : Hid (w3.heap[w.heap.size]? = w2.heap[w.heap.size]?) := Lib.hid (hb3'.block _ hwl)
      clear hc6 hb3 hb3'
      obtain ⟨mk, ml, mn, ⟨m1, m2, m3⟩, ⟨n1, n2, n3⟩, ⟨o1, o2, o3⟩, mc, ⟨l1, l2, l3⟩, mb, ma⟩ := x6
      simp only [ncell, pv]
      go_wp2_with fail
      refine hK.out _ _ ?_ (fun hHeld => ?_)
      · exact HSX.out _ HHX.out
      clear hK K
      try simp only [List.getElem_toArray, List.getElem_cons_succ, List.getElem_cons_zero, Act.put, List.setIfInBounds_toArray, List.set_cons_zero, List.set_cons_succ]
      refine wpAnyH_ready (rs := [7]) (by kernel_rfl) (by simp) ?_
      refine AllReadyH.cons rfl (fun K hK => ?_) AllReadyH.nil
      try simp only [List.getElem_toArray, List.getElem_cons_succ, List.getElem_cons_zero]
      have HHZ : Hid ((w3.alloc (.cells #[.int .i64 0, .int .i64 0, .int .i64 0, .slice none 0 0, .slice none 0 0, .slice none 0 0, .string ⟨#[]⟩, .slice none 0 0, .bool false, .bool false] 40)).heap[w.heap.size]? = w2.heap[w.heap.size]?) := Lib.hid ((heap_alloc_old w3 _ (Nat.lt_of_lt_of_le hwl HB3.out.size)).trans HHX.out)
      go_simp
      refine hK.out _ _ ?_ (fun hHeld => ?_)
      · exact HSX.out _ HHZ.out
      clear hK K
      try simp only [List.getElem_toArray, List.getElem_cons_succ, List.getElem_cons_zero, Act.put, List.setIfInBounds_toArray, List.set_cons_zero, List.set_cons_succ]
      obtain ⟨g, c, w', hr, hcell, hgb, e5, f5, hP, hA⟩ := HPA.out w3 _ HC6.out HB3.out
      have HA := Lib.hid hA
      have hw := hP _ rfl
      have hgw : w.heap.size ≠ g := hw.1
      have hbw : w.heap.size ≠ b := hw.2.1
      have HHW := Lib.hid hw.2.2
      have hbg : b ≠ g := fun e => hgb e.symm
      simp only [ncell, pv] at HA
      have y0 := (hcell 0 _ rfl).1
      have y1 := (hcell 1 _ rfl).1
      have y2 := (hcell 2 _ rfl).1
      have y3 := (hcell 3 _ rfl).1
      have y4 := (hcell 4 _ rfl).1
      have y5 := (hcell 5 _ rfl).1
      have y6 := (hcell 6 _ rfl).1
      have y7 := (hcell 7 _ rfl).1
      have y8 := (hcell 8 _ rfl).1
      have y9 := (hcell 9 _ rfl).1
      have f0' := (hcell 0 _ rfl).2
      have f1' := (hcell 1 _ rfl).2
      have f2' := (hcell 2 _ rfl).2
      have f3' := (hcell 3 _ rfl).2
      have f4' := (hcell 4 _ rfl).2
      have f5' := (hcell 5 _ rfl).2
      have f6' := (hcell 6 _ rfl).2
      have f7' := (hcell 7 _ rfl).2
      have f8' := (hcell 8 _ rfl).2
      have f9' := (hcell 9 _ rfl).2
      try simp only [Nat.add_zero] at y0 f0'
      clear hA hP hw hcell
      refine wpAnyH_ready (rs := [8]) (by kernel_rfl) (by simp) ?_
      refine AllReadyH.cons rfl (fun K hK => ?_) AllReadyH.nil
      try simp only [List.getElem_toArray, List.getElem_cons_succ, List.getElem_cons_zero]
      rw [if_pos (by kernel_rfl)]
      refine wp_append_run (.tmp 11) (.tmp 15) 27 27 rfl _ _ rfl rfl hr ?_
      refine hK.out _ _ ?_ (fun hHeld => ?_)
      · exact HSX.out _ HHW.out
      clear hK K
      try simp only [List.getElem_toArray, List.getElem_cons_succ, List.getElem_cons_zero, Act.put, List.setIfInBounds_toArray, List.set_cons_zero, List.set_cons_succ]
      refine wpAnyH_take (i := 9) (v := .pointer (some ⟨g, tl * 10, none⟩)) rfl (by kernel_rfl) (by kernel_rfl) (by kernel_rfl) (fun _ _ _ h => h) (Or.inl ⟨by rfl, fun w' hSw => by (try dsimp only at hSw); go_simp⟩) (by assumption) ?_
      simp only [List.getElem_toArray, List.getElem_cons_succ, List.getElem_cons_zero, Act.put, List.setIfInBounds_toArray, List.set_cons_zero, List.set_cons_succ]
      refine wpAnyH_take (i := 11) (v := ptrB b) rfl (by kernel_rfl) (by kernel_rfl) (by kernel_rfl) (fun _ _ _ h => h) (Or.inl ⟨by rfl, fun w' hSw => by (try dsimp only at hSw); go_simp⟩) (by assumption) ?_
      simp only [List.getElem_toArray, List.getElem_cons_succ, List.getElem_cons_zero, Act.put, List.setIfInBounds_toArray, List.set_cons_zero, List.set_cons_succ]
      refine wpAnyH_take (i := 12) (v := .pointer (some ⟨b, 5, none⟩)) rfl (by kernel_rfl) (by kernel_rfl) (by kernel_rfl) (fun _ _ _ h => h) (Or.inl ⟨by rfl, fun w' hSw => by (try dsimp only at hSw); go_simp⟩) (by assumption) ?_
      simp only [List.getElem_toArray, List.getElem_cons_succ, List.getElem_cons_zero, Act.put, List.setIfInBounds_toArray, List.set_cons_zero, List.set_cons_succ]
      refine wpAnyH_ready (rs := [10, 13]) (by kernel_rfl) (by simp) ?_
      refine AllReadyH.cons rfl (fun K hK => ?_) (AllReadyH.cons rfl (fun K hK => ?_) AllReadyH.nil)
      · try simp only [List.getElem_toArray, List.getElem_cons_succ, List.getElem_cons_zero]
        go_simp
        refine hK.out _ _ ?_ (fun hHeld => ?_)
        · exact HSX.out (w'.setCells g (tl * 10) [.int .i64 mk, .int .i64 ml, .int .i64 mn, .slice m1 m2 m3, .slice n1 n2 n3, .slice o1 o2 o3, .string ⟨mc.toArray⟩, .slice l1 l2 l3, .bool mb, .bool ma]) ((heap_setC hgw _ _ _).trans HHW.out)
        clear hK K
        try simp only [List.getElem_toArray, List.getElem_cons_succ, List.getElem_cons_zero, Act.put, List.setIfInBounds_toArray, List.set_cons_zero, List.set_cons_succ]
        refine wpAnyH_ready (rs := [13]) (by kernel_rfl) (by simp) ?_
        refine AllReadyH.cons rfl (fun K hK => ?_) AllReadyH.nil
        try simp only [List.getElem_toArray, List.getElem_cons_succ, List.getElem_cons_zero]
        go_simp
        refine hK.out _ _ ?_ (fun hHeld => ?_)
        · exact HSX.out ((w'.setCells g (tl * 10) [.int .i64 mk, .int .i64 ml, .int .i64 mn, .slice m1 m2 m3, .slice n1 n2 n3, .slice o1 o2 o3, .string ⟨mc.toArray⟩, .slice l1 l2 l3, .bool mb, .bool ma]).setCell ⟨b, 5, none⟩ (.slice (some ⟨g, 0, none⟩) (tl + 1) c)) ((Below.heap_setCell _ ⟨b, 5, none⟩ _ _ hbw).trans ((heap_setC hgw _ _ _).trans HHW.out))
        clear hK K
        try simp only [List.getElem_toArray, List.getElem_cons_succ, List.getElem_cons_zero, Act.put, List.setIfInBounds_toArray, List.set_cons_zero, List.set_cons_succ]
        refine wpAnyH_done (by kernel_rfl) ?_ _
        go_wp2_with fail
        go_end0
        exact ⟨rfl, HFN.out _ HA.out⟩
      · try simp only [List.getElem_toArray, List.getElem_cons_succ, List.getElem_cons_zero]
        go_simp
        refine hK.out _ _ ?_ (fun hHeld => ?_)
        · exact HSX.out (w'.setCell ⟨b, 5, none⟩ (.slice (some ⟨g, 0, none⟩) (tl + 1) c)) ((Below.heap_setCell _ ⟨b, 5, none⟩ _ _ hbw).trans HHW.out)
        clear hK K
        try simp only [List.getElem_toArray, List.getElem_cons_succ, List.getElem_cons_zero, Act.put, List.setIfInBounds_toArray, List.set_cons_zero, List.set_cons_succ]
        refine wpAnyH_ready (rs := [10]) (by kernel_rfl) (by simp) ?_
        refine AllReadyH.cons rfl (fun K hK => ?_) AllReadyH.nil
        try simp only [List.getElem_toArray, List.getElem_cons_succ, List.getElem_cons_zero]
        go_simp
        refine hK.out _ _ ?_ (fun hHeld => ?_)
        · exact HSX.out ((w'.setCell ⟨b, 5, none⟩ (.slice (some ⟨g, 0, none⟩) (tl + 1) c)).setCells g (tl * 10) [.int .i64 mk, .int .i64 ml, .int .i64 mn, .slice m1 m2 m3, .slice n1 n2 n3, .slice o1 o2 o3, .string ⟨mc.toArray⟩, .slice l1 l2 l3, .bool mb, .bool ma]) ((heap_setC hgw _ _ _).trans ((Below.heap_setCell _ ⟨b, 5, none⟩ _ _ hbw).trans HHW.out))
        clear hK K
        try simp only [List.getElem_toArray, List.getElem_cons_succ, List.getElem_cons_zero, Act.put, List.setIfInBounds_toArray, List.set_cons_zero, List.set_cons_succ]
        refine wpAnyH_done (by kernel_rfl) ?_ _
        go_wp2_with fail
        go_end0
        refine ⟨rfl, HFN.out _ ?_⟩
        have q := HA.out
        rw [setCells_comm hgb] at q
        exact q
    · try simp only [List.getElem_toArray, List.getElem_cons_succ, List.getElem_cons_zero]
      go_simp
      refine hK.out _ _ ?_ (fun hHeld => ?_)
      · exact HSX.out _ (heap_alloc_old w2 _ hwl)
      clear hK K
      try simp only [List.getElem_toArray, List.getElem_cons_succ, List.getElem_cons_zero, Act.put, List.setIfInBounds_toArray, List.set_cons_zero, List.set_cons_succ]
      refine wpAnyH_ready (rs := [5]) (by kernel_rfl) (by simp) ?_
      refine AllReadyH.cons rfl (fun K hK => ?_) AllReadyH.nil
      try simp only [List.getElem_toArray, List.getElem_cons_succ, List.getElem_cons_zero]
      go_simp
      go_at_call 48
      refine (HCP.out (w2.alloc (.cells #[.int .i64 0, .int .i64 0, .int .i64 0, .slice none 0 0, .slice none 0 0, .slice none 0 0, .string ⟨#[]⟩, .slice none 0 0, .bool false, .bool false] 40)).drew (below_lit w2 _).drew).mono ?_
      rintro e w3 ⟨x6, rfl, hc6, hb3⟩
      have hz1 : (w2.alloc (.cells #[.int .i64 0, .int .i64 0, .int .i64 0, .slice none 0 0, .slice none 0 0, .slice none 0 0, .string ⟨#[]⟩, .slice none 0 0, .bool false, .bool false] 40)).drew.heap.size = w2.heap.size + 1 := World.size_alloc _ _
      rw [hz1] at hb3 hc6
      have HB3 : Hid (Below (w2.heap.size + 1) (w2.alloc (.cells #[.int .i64 0, .int .i64 0, .int .i64 0, .slice none 0 0, .slice none 0 0, .slice none 0 0, .string ⟨#[]⟩, .slice none 0 0, .bool false, .bool false] 40)).drew w3) := Lib.hid hb3
      have HC6 : Hid (CopyM (w2.heap.size + 1) w3 x6 y) := Lib.hid hc6
      have hb3' : Below w2.heap.size w2 w3 := (below_lit w2 (.cells #[.int .i64 0, .int .i64 0, .int .i64 0, .slice none 0 0, .slice none 0 0, .slice none 0 0, .string ⟨#[]⟩, .slice none 0 0, .bool false, .bool false] 40)).drew.trans (hb3.mono (by omega))
      have c5w : w3.cell? ⟨b, 5, none⟩ = some (.slice oa tl oc) := below_eq hb3' c5
      have HHX : Hid (w3.heap[w.heap.size]? = w2.heap[w.heap.size]?) := Lib.hid (hb3'.block _ hwl)
      clear hc6 hb3 hb3'
      obtain ⟨mk, ml, mn, ⟨m1, m2, m3⟩, ⟨n1, n2, n3⟩, ⟨o1, o2, o3⟩, mc, ⟨l1, l2, l3⟩, mb, ma⟩ := x6
      simp only [ncell, pv]
      go_wp2_with fail
      refine hK.out _ _ ?_ (fun hHeld => ?_)
      · exact HSX.out _ HHX.out
      clear hK K
      try simp only [List.getElem_toArray, List.getElem_cons_succ, List.getElem_cons_zero, Act.put, List.setIfInBounds_toArray, List.set_cons_zero, List.set_cons_succ]
      obtain ⟨g, c, w', hr, hcell, hgb, e5, f5, hP, hA⟩ := HPB.out w3 _ HC6.out HB3.out
      have HA := Lib.hid hA
      have hw := hP _ rfl
      have hgw : w.heap.size ≠ g := hw.1
      have hbw : w.heap.size ≠ b := hw.2.1
      have HHW := Lib.hid hw.2.2
      have hbg : b ≠ g := fun e => hgb e.symm
      simp only [ncell, pv] at HA
      have y0 := (hcell 0 _ rfl).1
      have y1 := (hcell 1 _ rfl).1
      have y2 := (hcell 2 _ rfl).1
      have y3 := (hcell 3 _ rfl).1
      have y4 := (hcell 4 _ rfl).1
      have y5 := (hcell 5 _ rfl).1
      have y6 := (hcell 6 _ rfl).1
      have y7 := (hcell 7 _ rfl).1
      have y8 := (hcell 8 _ rfl).1
      have y9 := (hcell 9 _ rfl).1
      have f0' := (hcell 0 _ rfl).2
      have f1' := (hcell 1 _ rfl).2
      have f2' := (hcell 2 _ rfl).2
      have f3' := (hcell 3 _ rfl).2
      have f4' := (hcell 4 _ rfl).2
      have f5' := (hcell 5 _ rfl).2
      have f6' := (hcell 6 _ rfl).2
      have f7' := (hcell 7 _ rfl).2
      have f8' := (hcell 8 _ rfl).2
      have f9' := (hcell 9 _ rfl).2
      try simp only [Nat.add_zero] at y0 f0'
      clear hA hP hw hcell
      refine wpAnyH_ready (rs := [8]) (by kernel_rfl) (by simp) ?_
      refine AllReadyH.cons rfl (fun K hK => ?_) AllReadyH.nil
      try simp only [List.getElem_toArray, List.getElem_cons_succ, List.getElem_cons_zero]
      rw [if_pos (by kernel_rfl)]
      refine wp_append_run (.tmp 11) (.tmp 15) 27 27 rfl _ _ rfl rfl hr ?_
      refine hK.out _ _ ?_ (fun hHeld => ?_)
      · exact HSX.out _ HHW.out
      clear hK K
      try simp only [List.getElem_toArray, List.getElem_cons_succ, List.getElem_cons_zero, Act.put, List.setIfInBounds_toArray, List.set_cons_zero, List.set_cons_succ]
      refine wpAnyH_take (i := 9) (v := .pointer (some ⟨g, tl * 10, none⟩)) rfl (by kernel_rfl) (by kernel_rfl) (by kernel_rfl) (fun _ _ _ h => h) (Or.inl ⟨by rfl, fun w' hSw => by (try dsimp only at hSw); go_simp⟩) (by assumption) ?_
      simp only [List.getElem_toArray, List.getElem_cons_succ, List.getElem_cons_zero, Act.put, List.setIfInBounds_toArray, List.set_cons_zero, List.set_cons_succ]
      refine wpAnyH_take (i := 11) (v := ptrB b) rfl (by kernel_rfl) (by kernel_rfl) (by kernel_rfl) (fun _ _ _ h => h) (Or.inl ⟨by rfl, fun w' hSw => by (try dsimp only at hSw); go_simp⟩) (by assumption) ?_
      simp only [List.getElem_toArray, List.getElem_cons_succ, List.getElem_cons_zero, Act.put, List.setIfInBounds_toArray, List.set_cons_zero, List.set_cons_succ]
      refine wpAnyH_take (i := 12) (v := .pointer (some ⟨b, 5, none⟩)) rfl (by kernel_rfl) (by kernel_rfl) (by kernel_rfl) (fun _ _ _ h => h) (Or.inl ⟨by rfl, fun w' hSw => by (try dsimp only at hSw); go_simp⟩) (by assumption) ?_
      simp only [List.getElem_toArray, List.getElem_cons_succ, List.getElem_cons_zero, Act.put, List.setIfInBounds_toArray, List.set_cons_zero, List.set_cons_succ]
      refine wpAnyH_ready (rs := [10, 13]) (by kernel_rfl) (by simp) ?_
      refine AllReadyH.cons rfl (fun K hK => ?_) (AllReadyH.cons rfl (fun K hK => ?_) AllReadyH.nil)
      · try simp only [List.getElem_toArray, List.getElem_cons_succ, List.getElem_cons_zero]
        go_simp
        refine hK.out _ _ ?_ (fun hHeld => ?_)
        · exact HSX.out (w'.setCells g (tl * 10) [.int .i64 mk, .int .i64 ml, .int .i64 mn, .slice m1 m2 m3, .slice n1 n2 n3, .slice o1 o2 o3, .string ⟨mc.toArray⟩, .slice l1 l2 l3, .bool mb, .bool ma]) ((heap_setC hgw _ _ _).trans HHW.out)
        clear hK K
        try simp only [List.getElem_toArray, List.getElem_cons_succ, List.getElem_cons_zero, Act.put, List.setIfInBounds_toArray, List.set_cons_zero, List.set_cons_succ]
        refine wpAnyH_ready (rs := [13]) (by kernel_rfl) (by simp) ?_
        refine AllReadyH.cons rfl (fun K hK => ?_) AllReadyH.nil
        try simp only [List.getElem_toArray, List.getElem_cons_succ, List.getElem_cons_zero]
        go_simp
        refine hK.out _ _ ?_ (fun hHeld => ?_)
        · exact HSX.out ((w'.setCells g (tl * 10) [.int .i64 mk, .int .i64 ml, .int .i64 mn, .slice m1 m2 m3, .slice n1 n2 n3, .slice o1 o2 o3, .string ⟨mc.toArray⟩, .slice l1 l2 l3, .bool mb, .bool ma]).setCell ⟨b, 5, none⟩ (.slice (some ⟨g, 0, none⟩) (tl + 1) c)) ((Below.heap_setCell _ ⟨b, 5, none⟩ _ _ hbw).trans ((heap_setC hgw _ _ _).trans HHW.out))
        clear hK K
        try simp only [List.getElem_toArray, List.getElem_cons_succ, List.getElem_cons_zero, Act.put, List.setIfInBounds_toArray, List.set_cons_zero, List.set_cons_succ]
        refine wpAnyH_done (by kernel_rfl) ?_ _
        go_wp2_with fail
        go_end0
        exact ⟨rfl, HFN.out _ HA.out⟩
      · try simp only [List.getElem_toArray, List.getElem_cons_succ, List.getElem_cons_zero]
        go_simp
        refine hK.out _ _ ?_ (fun hHeld => ?_)
        · exact HSX.out (w'.setCell ⟨b, 5, none⟩ (.slice (some ⟨g, 0, none⟩) (tl + 1) c)) ((Below.heap_setCell _ ⟨b, 5, none⟩ _ _ hbw).trans HHW.out)
        clear hK K
        try simp only [List.getElem_toArray, List.getElem_cons_succ, List.getElem_cons_zero, Act.put, List.setIfInBounds_toArray, List.set_cons_zero, List.set_cons_succ]
        refine wpAnyH_ready (rs := [10]) (by kernel_rfl) (by simp) ?_
        refine AllReadyH.cons rfl (fun K hK => ?_) AllReadyH.nil
        try simp only [List.getElem_toArray, List.getElem_cons_succ, List.getElem_cons_zero]
        go_simp
        refine hK.out _ _ ?_ (fun hHeld => ?_)
        · exact HSX.out ((w'.setCell ⟨b, 5, none⟩ (.slice (some ⟨g, 0, none⟩) (tl + 1) c)).setCells g (tl * 10) [.int .i64 mk, .int .i64 ml, .int .i64 mn, .slice m1 m2 m3, .slice n1 n2 n3, .slice o1 o2 o3, .string ⟨mc.toArray⟩, .slice l1 l2 l3, .bool mb, .bool ma]) ((heap_setC hgw _ _ _).trans ((Below.heap_setCell _ ⟨b, 5, none⟩ _ _ hbw).trans HHW.out))
        clear hK K
        try simp only [List.getElem_toArray, List.getElem_cons_succ, List.getElem_cons_zero, Act.put, List.setIfInBounds_toArray, List.set_cons_zero, List.set_cons_succ]
        refine wpAnyH_done (by kernel_rfl) ?_ _
        go_wp2_with fail
        go_end0
        refine ⟨rfl, HFN.out _ ?_⟩
        have q := HA.out
        rw [setCells_comm hgb] at q
        exact q
  · try simp only [List.getElem_toArray, List.getElem_cons_succ, List.getElem_cons_zero]
    go_simp
    go_at_call 48
    refine (HCP.out w2.drew (Below.refl w2.heap.size w2).drew).mono ?_
    rintro e w3 ⟨x6, rfl, hc6, hb3⟩
    have hb3' : Below w2.heap.size w2 w3 := (Below.refl w2.heap.size w2).drew.trans hb3
    have HB3 : Hid (Below w2.heap.size w2 w3) := Lib.hid hb3'
    have HC6 : Hid (CopyM w2.heap.size w3 x6 y) := Lib.hid hc6
    have c5w : w3.cell? ⟨b, 5, none⟩ = some (.slice oa tl oc) := below_eq hb3' c5
    have HHX : Hid (w3.heap[w.heap.size]? = w2.heap[w.heap.size]?) := Lib.hid (hb3'.block _ hwl)
    clear hc6 hb3 hb3'
    obtain ⟨mk, ml, mn, ⟨m1, m2, m3⟩, ⟨n1, n2, n3⟩, ⟨o1, o2, o3⟩, mc, ⟨l1, l2, l3⟩, mb, ma⟩ := x6
    simp only [ncell, pv]
    go_wp2_with fail
    refine hK.out _ _ ?_ (fun hHeld => ?_)
    · exact HSX.out _ HHX.out
    clear hK K
    try simp only [List.getElem_toArray, List.getElem_cons_succ, List.getElem_cons_zero, Act.put, List.setIfInBounds_toArray, List.set_cons_zero, List.set_cons_succ]
    refine wpAnyH_ready (rs := [3, 7]) (by kernel_rfl) (by simp) ?_
    refine AllReadyH.cons rfl (fun K hK => ?_) (AllReadyH.cons rfl (fun K hK => ?_) AllReadyH.nil)
    · try simp only [List.getElem_toArray, List.getElem_cons_succ, List.getElem_cons_zero]
      go_simp
      refine hK.out _ _ ?_ (fun hHeld => ?_)
      · exact HSX.out _ HHX.out
      clear hK K
      try simp only [List.getElem_toArray, List.getElem_cons_succ, List.getElem_cons_zero, Act.put, List.setIfInBounds_toArray, List.set_cons_zero, List.set_cons_succ]
      refine wpAnyH_take (i := 6) (v := .int .i64 (tl : Int)) rfl (by kernel_rfl) (by kernel_rfl) (by kernel_rfl) (fun _ _ _ h => h) (Or.inl ⟨by rfl, fun w' hSw => by (try dsimp only at hSw); go_simp⟩) (by assumption) ?_
      simp only [List.getElem_toArray, List.getElem_cons_succ, List.getElem_cons_zero, Act.put, List.setIfInBounds_toArray, List.set_cons_zero, List.set_cons_succ]
      refine wpAnyH_ready (rs := [7]) (by kernel_rfl) (by simp) ?_
      refine AllReadyH.cons rfl (fun K hK => ?_) AllReadyH.nil
      try simp only [List.getElem_toArray, List.getElem_cons_succ, List.getElem_cons_zero]
      have HHZ : Hid ((w3.alloc (.cells #[.int .i64 0, .int .i64 0, .int .i64 0, .slice none 0 0, .slice none 0 0, .slice none 0 0, .string ⟨#[]⟩, .slice none 0 0, .bool false, .bool false] 40)).heap[w.heap.size]? = w2.heap[w.heap.size]?) := Lib.hid ((heap_alloc_old w3 _ (Nat.lt_of_lt_of_le hwl HB3.out.size)).trans HHX.out)
      go_simp
      refine hK.out _ _ ?_ (fun hHeld => ?_)
      · exact HSX.out _ HHZ.out
      clear hK K
      try simp only [List.getElem_toArray, List.getElem_cons_succ, List.getElem_cons_zero, Act.put, List.setIfInBounds_toArray, List.set_cons_zero, List.set_cons_succ]
      obtain ⟨g, c, w', hr, hcell, hgb, e5, f5, hP, hA⟩ := HPA.out w3 _ HC6.out HB3.out
      have HA := Lib.hid hA
      have hw := hP _ rfl
      have hgw : w.heap.size ≠ g := hw.1
      have hbw : w.heap.size ≠ b := hw.2.1
      have HHW := Lib.hid hw.2.2
      have hbg : b ≠ g := fun e => hgb e.symm
      simp only [ncell, pv] at HA
      have y0 := (hcell 0 _ rfl).1
      have y1 := (hcell 1 _ rfl).1
      have y2 := (hcell 2 _ rfl).1
      have y3 := (hcell 3 _ rfl).1
      have y4 := (hcell 4 _ rfl).1
      have y5 := (hcell 5 _ rfl).1
      have y6 := (hcell 6 _ rfl).1
      have y7 := (hcell 7 _ rfl).1
      have y8 := (hcell 8 _ rfl).1
      have y9 := (hcell 9 _ rfl).1
      have f0' := (hcell 0 _ rfl).2
      have f1' := (hcell 1 _ rfl).2
      have f2' := (hcell 2 _ rfl).2
      have f3' := (hcell 3 _ rfl).2
      have f4' := (hcell 4 _ rfl).2
      have f5' := (hcell 5 _ rfl).2
      have f6' := (hcell 6 _ rfl).2
      have f7' := (hcell 7 _ rfl).2
      have f8' := (hcell 8 _ rfl).2
      have f9' := (hcell 9 _ rfl).2
      try simp only [Nat.add_zero] at y0 f0'
      clear hA hP hw hcell
      refine wpAnyH_ready (rs := [8]) (by kernel_rfl) (by simp) ?_
      refine AllReadyH.cons rfl (fun K hK => ?_) AllReadyH.nil
      try simp only [List.getElem_toArray, List.getElem_cons_succ, List.getElem_cons_zero]
      rw [if_pos (by kernel_rfl)]
      refine wp_append_run (.tmp 11) (.tmp 15) 27 27 rfl _ _ rfl rfl hr ?_
      refine hK.out _ _ ?_ (fun hHeld => ?_)
      · exact HSX.out _ HHW.out
      clear hK K
      try simp only [List.getElem_toArray, List.getElem_cons_succ, List.getElem_cons_zero, Act.put, List.setIfInBounds_toArray, List.set_cons_zero, List.set_cons_succ]
      refine wpAnyH_take (i := 9) (v := .pointer (some ⟨g, tl * 10, none⟩)) rfl (by kernel_rfl) (by kernel_rfl) (by kernel_rfl) (fun _ _ _ h => h) (Or.inl ⟨by rfl, fun w' hSw => by (try dsimp only at hSw); go_simp⟩) (by assumption) ?_
      simp only [List.getElem_toArray, List.getElem_cons_succ, List.getElem_cons_zero, Act.put, List.setIfInBounds_toArray, List.set_cons_zero, List.set_cons_succ]
      refine wpAnyH_take (i := 11) (v := ptrB b) rfl (by kernel_rfl) (by kernel_rfl) (by kernel_rfl) (fun _ _ _ h => h) (Or.inl ⟨by rfl, fun w' hSw => by (try dsimp only at hSw); go_simp⟩) (by assumption) ?_
      simp only [List.getElem_toArray, List.getElem_cons_succ, List.getElem_cons_zero, Act.put, List.setIfInBounds_toArray, List.set_cons_zero, List.set_cons_succ]
      refine wpAnyH_take (i := 12) (v := .pointer (some ⟨b, 5, none⟩)) rfl (by kernel_rfl) (by kernel_rfl) (by kernel_rfl) (fun _ _ _ h => h) (Or.inl ⟨by rfl, fun w' hSw => by (try dsimp only at hSw); go_simp⟩) (by assumption) ?_
      simp only [List.getElem_toArray, List.getElem_cons_succ, List.getElem_cons_zero, Act.put, List.setIfInBounds_toArray, List.set_cons_zero, List.set_cons_succ]
      refine wpAnyH_ready (rs := [10, 13]) (by kernel_rfl) (by simp) ?_
      refine AllReadyH.cons rfl (fun K hK => ?_) (AllReadyH.cons rfl (fun K hK => ?_) AllReadyH.nil)
      · try simp only [List.getElem_toArray, List.getElem_cons_succ, List.getElem_cons_zero]
        go_simp
        refine hK.out _ _ ?_ (fun hHeld => ?_)
        · exact HSX.out (w'.setCells g (tl * 10) [.int .i64 mk, .int .i64 ml, .int .i64 mn, .slice m1 m2 m3, .slice n1 n2 n3, .slice o1 o2 o3, .string ⟨mc.toArray⟩, .slice l1 l2 l3, .bool mb, .bool ma]) ((heap_setC hgw _ _ _).trans HHW.out)
        clear hK K
        try simp only [List.getElem_toArray, List.getElem_cons_succ, List.getElem_cons_zero, Act.put, List.setIfInBounds_toArray, List.set_cons_zero, List.set_cons_succ]
        refine wpAnyH_ready (rs := [13]) (by kernel_rfl) (by simp) ?_
        refine AllReadyH.cons rfl (fun K hK => ?_) AllReadyH.nil
        try simp only [List.getElem_toArray, List.getElem_cons_succ, List.getElem_cons_zero]
        go_simp
        refine hK.out _ _ ?_ (fun hHeld => ?_)
        · exact HSX.out ((w'.setCells g (tl * 10) [.int .i64 mk, .int .i64 ml, .int .i64 mn, .slice m1 m2 m3, .slice n1 n2 n3, .slice o1 o2 o3, .string ⟨mc.toArray⟩, .slice l1 l2 l3, .bool mb, .bool ma]).setCell ⟨b, 5, none⟩ (.slice (some ⟨g, 0, none⟩) (tl + 1) c)) ((Below.heap_setCell _ ⟨b, 5, none⟩ _ _ hbw).trans ((heap_setC hgw _ _ _).trans HHW.out))
        clear hK K
        try simp only [List.getElem_toArray, List.getElem_cons_succ, List.getElem_cons_zero, Act.put, List.setIfInBounds_toArray, List.set_cons_zero, List.set_cons_succ]
        refine wpAnyH_done (by kernel_rfl) ?_ _
        go_wp2_with fail
        go_end0
        exact ⟨rfl, HFN.out _ HA.out⟩
      · try simp only [List.getElem_toArray, List.getElem_cons_succ, List.getElem_cons_zero]
        go_simp
        refine hK.out _ _ ?_ (fun hHeld => ?_)
        · exact HSX.out (w'.setCell ⟨b, 5, none⟩ (.slice (some ⟨g, 0, none⟩) (tl + 1) c)) ((Below.heap_setCell _ ⟨b, 5, none⟩ _ _ hbw).trans HHW.out)
        clear hK K
        try simp only [List.getElem_toArray, List.getElem_cons_succ, List.getElem_cons_zero, Act.put, List.setIfInBounds_toArray, List.set_cons_zero, List.set_cons_succ]
        refine wpAnyH_ready (rs := [10]) (by kernel_rfl) (by simp) ?_
        refine AllReadyH.cons rfl (fun K hK => ?_) AllReadyH.nil
        try simp only [List.getElem_toArray, List.getElem_cons_succ, List.getElem_cons_zero]
        go_simp
        refine hK.out _ _ ?_ (fun hHeld => ?_)
        · exact HSX.out ((w'.setCell ⟨b, 5, none⟩ (.slice (some ⟨g, 0, none⟩) (tl + 1) c)).setCells g (tl * 10) [.int .i64 mk, .int .i64 ml, .int .i64 mn, .slice m1 m2 m3, .slice n1 n2 n3, .slice o1 o2 o3, .string ⟨mc.toArray⟩, .slice l1 l2 l3, .bool mb, .bool ma]) ((heap_setC hgw _ _ _).trans ((Below.heap_setCell _ ⟨b, 5, none⟩ _ _ hbw).trans HHW.out))
        clear hK K
        try simp only [List.getElem_toArray, List.getElem_cons_succ, List.getElem_cons_zero, Act.put, List.setIfInBounds_toArray, List.set_cons_zero, List.set_cons_succ]
        refine wpAnyH_done (by kernel_rfl) ?_ _
        go_wp2_with fail
        go_end0
        refine ⟨rfl, HFN.out _ ?_⟩
        have q := HA.out
        rw [setCells_comm hgb] at q
        exact q
    · try simp only [List.getElem_toArray, List.getElem_cons_succ, List.getElem_cons_zero]
      have HHZ : Hid ((w3.alloc (.cells #[.int .i64 0, .int .i64 0, .int .i64 0, .slice none 0 0, .slice none 0 0, .slice none 0 0, .string ⟨#[]⟩, .slice none 0 0, .bool false, .bool false] 40)).heap[w.heap.size]? = w2.heap[w.heap.size]?) := Lib.hid ((heap_alloc_old w3 _ (Nat.lt_of_lt_of_le hwl HB3.out.size)).trans HHX.out)
      go_simp
      refine hK.out _ _ ?_ (fun hHeld => ?_)
      · exact HSX.out _ HHZ.out
      clear hK K
      try simp only [List.getElem_toArray, List.getElem_cons_succ, List.getElem_cons_zero, Act.put, List.setIfInBounds_toArray, List.set_cons_zero, List.set_cons_succ]
      refine wpAnyH_ready (rs := [3]) (by kernel_rfl) (by simp) ?_
      refine AllReadyH.cons rfl (fun K hK => ?_) AllReadyH.nil
      try simp only [List.getElem_toArray, List.getElem_cons_succ, List.getElem_cons_zero]
      have c5z : (w3.alloc (.cells #[.int .i64 0, .int .i64 0, .int .i64 0, .slice none 0 0, .slice none 0 0, .slice none 0 0, .string ⟨#[]⟩, .slice none 0 0, .bool false, .bool false] 40)).cell? ⟨b, 5, none⟩ = some (.slice oa tl oc) := below_eq (below_lit w3 _) c5w
      go_simp
      refine hK.out _ _ ?_ (fun hHeld => ?_)
      · exact HSX.out _ HHZ.out
      clear hK K
      try simp only [List.getElem_toArray, List.getElem_cons_succ, List.getElem_cons_zero, Act.put, List.setIfInBounds_toArray, List.set_cons_zero, List.set_cons_succ]
      refine wpAnyH_take (i := 6) (v := .int .i64 (tl : Int)) rfl (by kernel_rfl) (by kernel_rfl) (by kernel_rfl) (fun _ _ _ h => h) (Or.inl ⟨by rfl, fun w' hSw => by (try dsimp only at hSw); go_simp⟩) (by assumption) ?_
      simp only [List.getElem_toArray, List.getElem_cons_succ, List.getElem_cons_zero, Act.put, List.setIfInBounds_toArray, List.set_cons_zero, List.set_cons_succ]
      obtain ⟨g, c, w', hr, hcell, hgb, e5, f5, hP, hA⟩ := HPA.out w3 _ HC6.out HB3.out
      have HA := Lib.hid hA
      have hw := hP _ rfl
      have hgw : w.heap.size ≠ g := hw.1
      have hbw : w.heap.size ≠ b := hw.2.1
      have HHW := Lib.hid hw.2.2
      have hbg : b ≠ g := fun e => hgb e.symm
      simp only [ncell, pv] at HA
      have y0 := (hcell 0 _ rfl).1
      have y1 := (hcell 1 _ rfl).1
      have y2 := (hcell 2 _ rfl).1
      have y3 := (hcell 3 _ rfl).1
      have y4 := (hcell 4 _ rfl).1
      have y5 := (hcell 5 _ rfl).1
      have y6 := (hcell 6 _ rfl).1
      have y7 := (hcell 7 _ rfl).1
      have y8 := (hcell 8 _ rfl).1
      have y9 := (hcell 9 _ rfl).1
      have f0' := (hcell 0 _ rfl).2
      have f1' := (hcell 1 _ rfl).2
      have f2' := (hcell 2 _ rfl).2
      have f3' := (hcell 3 _ rfl).2
      have f4' := (hcell 4 _ rfl).2
      have f5' := (hcell 5 _ rfl).2
      have f6' := (hcell 6 _ rfl).2
      have f7' := (hcell 7 _ rfl).2
      have f8' := (hcell 8 _ rfl).2
      have f9' := (hcell 9 _ rfl).2
      try simp only [Nat.add_zero] at y0 f0'
      clear hA hP hw hcell
      refine wpAnyH_ready (rs := [8]) (by kernel_rfl) (by simp) ?_
      refine AllReadyH.cons rfl (fun K hK => ?_) AllReadyH.nil
      try simp only [List.getElem_toArray, List.getElem_cons_succ, List.getElem_cons_zero]
      rw [if_pos (by kernel_rfl)]
      refine wp_append_run (.tmp 11) (.tmp 15) 27 27 rfl _ _ rfl rfl hr ?_
      refine hK.out _ _ ?_ (fun hHeld => ?_)
      · exact HSX.out _ HHW.out
      clear hK K
      try simp only [List.getElem_toArray, List.getElem_cons_succ, List.getElem_cons_zero, Act.put, List.setIfInBounds_toArray, List.set_cons_zero, List.set_cons_succ]
      refine wpAnyH_take (i := 9) (v := .pointer (some ⟨g, tl * 10, none⟩)) rfl (by kernel_rfl) (by kernel_rfl) (by kernel_rfl) (fun _ _ _ h => h) (Or.inl ⟨by rfl, fun w' hSw => by (try dsimp only at hSw); go_simp⟩) (by assumption) ?_
      simp only [List.getElem_toArray, List.getElem_cons_succ, List.getElem_cons_zero, Act.put, List.setIfInBounds_toArray, List.set_cons_zero, List.set_cons_succ]
      refine wpAnyH_take (i := 11) (v := ptrB b) rfl (by kernel_rfl) (by kernel_rfl) (by kernel_rfl) (fun _ _ _ h => h) (Or.inl ⟨by rfl, fun w' hSw => by (try dsimp only at hSw); go_simp⟩) (by assumption) ?_
      simp only [List.getElem_toArray, List.getElem_cons_succ, List.getElem_cons_zero, Act.put, List.setIfInBounds_toArray, List.set_cons_zero, List.set_cons_succ]
      refine wpAnyH_take (i := 12) (v := .pointer (some ⟨b, 5, none⟩)) rfl (by kernel_rfl) (by kernel_rfl) (by kernel_rfl) (fun _ _ _ h => h) (Or.inl ⟨by rfl, fun w' hSw => by (try dsimp only at hSw); go_simp⟩) (by assumption) ?_
      simp only [List.getElem_toArray, List.getElem_cons_succ, List.getElem_cons_zero, Act.put, List.setIfInBounds_toArray, List.set_cons_zero, List.set_cons_succ]
      refine wpAnyH_ready (rs := [10, 13]) (by kernel_rfl) (by simp) ?_
      refine AllReadyH.cons rfl (fun K hK => ?_) (AllReadyH.cons rfl (fun K hK => ?_) AllReadyH.nil)
      · try simp only [List.getElem_toArray, List.getElem_cons_succ, List.getElem_cons_zero]
        go_simp
        refine hK.out _ _ ?_ (fun hHeld => ?_)
        · exact HSX.out (w'.setCells g (tl * 10) [.int .i64 mk, .int .i64 ml, .int .i64 mn, .slice m1 m2 m3, .slice n1 n2 n3, .slice o1 o2 o3, .string ⟨mc.toArray⟩, .slice l1 l2 l3, .bool mb, .bool ma]) ((heap_setC hgw _ _ _).trans HHW.out)
        clear hK K
        try simp only [List.getElem_toArray, List.getElem_cons_succ, List.getElem_cons_zero, Act.put, List.setIfInBounds_toArray, List.set_cons_zero, List.set_cons_succ]
        refine wpAnyH_ready (rs := [13]) (by kernel_rfl) (by simp) ?_
        refine AllReadyH.cons rfl (fun K hK => ?_) AllReadyH.nil
        try simp only [List.getElem_toArray, List.getElem_cons_succ, List.getElem_cons_zero]
        go_simp
        refine hK.out _ _ ?_ (fun hHeld => ?_)
        · exact HSX.out ((w'.setCells g (tl * 10) [.int .i64 mk, .int .i64 ml, .int .i64 mn, .slice m1 m2 m3, .slice n1 n2 n3, .slice o1 o2 o3, .string ⟨mc.toArray⟩, .slice l1 l2 l3, .bool mb, .bool ma]).setCell ⟨b, 5, none⟩ (.slice (some ⟨g, 0, none⟩) (tl + 1) c)) ((Below.heap_setCell _ ⟨b, 5, none⟩ _ _ hbw).trans ((heap_setC hgw _ _ _).trans HHW.out))
        clear hK K
        try simp only [List.getElem_toArray, List.getElem_cons_succ, List.getElem_cons_zero, Act.put, List.setIfInBounds_toArray, List.set_cons_zero, List.set_cons_succ]
        refine wpAnyH_done (by kernel_rfl) ?_ _
        go_wp2_with fail
        go_end0
        exact ⟨rfl, HFN.out _ HA.out⟩
      · try simp only [List.getElem_toArray, List.getElem_cons_succ, List.getElem_cons_zero]
        go_simp
        refine hK.out _ _ ?_ (fun hHeld => ?_)
        · exact HSX.out (w'.setCell ⟨b, 5, none⟩ (.slice (some ⟨g, 0, none⟩) (tl + 1) c)) ((Below.heap_setCell _ ⟨b, 5, none⟩ _ _ hbw).trans HHW.out)
        clear hK K
        try simp only [List.getElem_toArray, List.getElem_cons_succ, List.getElem_cons_zero, Act.put, List.setIfInBounds_toArray, List.set_cons_zero, List.set_cons_succ]
        refine wpAnyH_ready (rs := [10]) (by kernel_rfl) (by simp) ?_
        refine AllReadyH.cons rfl (fun K hK => ?_) AllReadyH.nil
        try simp only [List.getElem_toArray, List.getElem_cons_succ, List.getElem_cons_zero]
        go_simp
        refine hK.out _ _ ?_ (fun hHeld => ?_)
        · exact HSX.out ((w'.setCell ⟨b, 5, none⟩ (.slice (some ⟨g, 0, none⟩) (tl + 1) c)).setCells g (tl * 10) [.int .i64 mk, .int .i64 ml, .int .i64 mn, .slice m1 m2 m3, .slice n1 n2 n3, .slice o1 o2 o3, .string ⟨mc.toArray⟩, .slice l1 l2 l3, .bool mb, .bool ma]) ((heap_setC hgw _ _ _).trans ((Below.heap_setCell _ ⟨b, 5, none⟩ _ _ hbw).trans HHW.out))
        clear hK K
        try simp only [List.getElem_toArray, List.getElem_cons_succ, List.getElem_cons_zero, Act.put, List.setIfInBounds_toArray, List.set_cons_zero, List.set_cons_succ]
        refine wpAnyH_done (by kernel_rfl) ?_ _
        go_wp2_with fail
        go_end0
        refine ⟨rfl, HFN.out _ ?_⟩
        have q := HA.out
        rw [setCells_comm hgb] at q
        exact q
  · try simp only [List.getElem_toArray, List.getElem_cons_succ, List.getElem_cons_zero]
    go_simp
    refine hK.out _ _ ?_ (fun hHeld => ?_)
    · exact HSX.out _ (heap_alloc_old w2 _ hwl)
    clear hK K
    try simp only [List.getElem_toArray, List.getElem_cons_succ, List.getElem_cons_zero, Act.put, List.setIfInBounds_toArray, List.set_cons_zero, List.set_cons_succ]
    refine wpAnyH_ready (rs := [3, 5]) (by kernel_rfl) (by simp) ?_
    refine AllReadyH.cons rfl (fun K hK => ?_) (AllReadyH.cons rfl (fun K hK => ?_) AllReadyH.nil)
    · try simp only [List.getElem_toArray, List.getElem_cons_succ, List.getElem_cons_zero]
      have c5z : (w2.alloc (.cells #[.int .i64 0, .int .i64 0, .int .i64 0, .slice none 0 0, .slice none 0 0, .slice none 0 0, .string ⟨#[]⟩, .slice none 0 0, .bool false, .bool false] 40)).cell? ⟨b, 5, none⟩ = some (.slice oa tl oc) := below_eq (below_lit w2 _) c5
      go_simp
      refine hK.out _ _ ?_ (fun hHeld => ?_)
      · exact HSX.out _ (heap_alloc_old w2 _ hwl)
      clear hK K
      try simp only [List.getElem_toArray, List.getElem_cons_succ, List.getElem_cons_zero, Act.put, List.setIfInBounds_toArray, List.set_cons_zero, List.set_cons_succ]
      refine wpAnyH_take (i := 6) (v := .int .i64 (tl : Int)) rfl (by kernel_rfl) (by kernel_rfl) (by kernel_rfl) (fun _ _ _ h => h) (Or.inl ⟨by rfl, fun w' hSw => by (try dsimp only at hSw); go_simp⟩) (by assumption) ?_
      simp only [List.getElem_toArray, List.getElem_cons_succ, List.getElem_cons_zero, Act.put, List.setIfInBounds_toArray, List.set_cons_zero, List.set_cons_succ]
      refine wpAnyH_ready (rs := [5]) (by kernel_rfl) (by simp) ?_
      refine AllReadyH.cons rfl (fun K hK => ?_) AllReadyH.nil
      try simp only [List.getElem_toArray, List.getElem_cons_succ, List.getElem_cons_zero]
      go_simp
      go_at_call 48
      refine (HCP.out (w2.alloc (.cells #[.int .i64 0, .int .i64 0, .int .i64 0, .slice none 0 0, .slice none 0 0, .slice none 0 0, .string ⟨#[]⟩, .slice none 0 0, .bool false, .bool false] 40)).drew (below_lit w2 _).drew).mono ?_
      rintro e w3 ⟨x6, rfl, hc6, hb3⟩
      have hz1 : (w2.alloc (.cells #[.int .i64 0, .int .i64 0, .int .i64 0, .slice none 0 0, .slice none 0 0, .slice none 0 0, .string ⟨#[]⟩, .slice none 0 0, .bool false, .bool false] 40)).drew.heap.size = w2.heap.size + 1 := World.size_alloc _ _
      rw [hz1] at hb3 hc6
      have HB3 : Hid (Below (w2.heap.size + 1) (w2.alloc (.cells #[.int .i64 0, .int .i64 0, .int .i64 0, .slice none 0 0, .slice none 0 0, .slice none 0 0, .string ⟨#[]⟩, .slice none 0 0, .bool false, .bool false] 40)).drew w3) := Lib.hid hb3
      have HC6 : Hid (CopyM (w2.heap.size + 1) w3 x6 y) := Lib.hid hc6
      have hb3' : Below w2.heap.size w2 w3 := (below_lit w2 (.cells #[.int .i64 0, .int .i64 0, .int .i64 0, .slice none 0 0, .slice none 0 0, .slice none 0 0, .string ⟨#[]⟩, .slice none 0 0, .bool false, .bool false] 40)).drew.trans (hb3.mono (by omega))
      have c5w : w3.cell? ⟨b, 5, none⟩ = some (.slice oa tl oc) := below_eq hb3' c5
      have HHX : Hid (w3.heap[w.heap.size]? = w2.heap[w.heap.size]?) := Lib.hid (hb3'.block _ hwl)
      clear hc6 hb3 hb3'
      obtain ⟨mk, ml, mn, ⟨m1, m2, m3⟩, ⟨n1, n2, n3⟩, ⟨o1, o2, o3⟩, mc, ⟨l1, l2, l3⟩, mb, ma⟩ := x6
      simp only [ncell, pv]
      go_wp2_with fail
      refine hK.out _ _ ?_ (fun hHeld => ?_)
      · exact HSX.out _ HHX.out
      clear hK K
      try simp only [List.getElem_toArray, List.getElem_cons_succ, List.getElem_cons_zero, Act.put, List.setIfInBounds_toArray, List.set_cons_zero, List.set_cons_succ]
      obtain ⟨g, c, w', hr, hcell, hgb, e5, f5, hP, hA⟩ := HPB.out w3 _ HC6.out HB3.out
      have HA := Lib.hid hA
      have hw := hP _ rfl
      have hgw : w.heap.size ≠ g := hw.1
      have hbw : w.heap.size ≠ b := hw.2.1
      have HHW := Lib.hid hw.2.2
      have hbg : b ≠ g := fun e => hgb e.symm
      simp only [ncell, pv] at HA
      have y0 := (hcell 0 _ rfl).1
      have y1 := (hcell 1 _ rfl).1
      have y2 := (hcell 2 _ rfl).1
      have y3 := (hcell 3 _ rfl).1
      have y4 := (hcell 4 _ rfl).1
      have y5 := (hcell 5 _ rfl).1
      have y6 := (hcell 6 _ rfl).1
      have y7 := (hcell 7 _ rfl).1
      have y8 := (hcell 8 _ rfl).1
      have y9 := (hcell 9 _ rfl).1
      have f0' := (hcell 0 _ rfl).2
      have f1' := (hcell 1 _ rfl).2
      have f2' := (hcell 2 _ rfl).2
      have f3' := (hcell 3 _ rfl).2
      have f4' := (hcell 4 _ rfl).2
      have f5' := (hcell 5 _ rfl).2
      have f6' := (hcell 6 _ rfl).2
      have f7' := (hcell 7 _ rfl).2
      have f8' := (hcell 8 _ rfl).2
      have f9' := (hcell 9 _ rfl).2
      try simp only [Nat.add_zero] at y0 f0'
      clear hA hP hw hcell
      refine wpAnyH_ready (rs := [8]) (by kernel_rfl) (by simp) ?_
      refine AllReadyH.cons rfl (fun K hK => ?_) AllReadyH.nil
      try simp only [List.getElem_toArray, List.getElem_cons_succ, List.getElem_cons_zero]
      rw [if_pos (by kernel_rfl)]
      refine wp_append_run (.tmp 11) (.tmp 15) 27 27 rfl _ _ rfl rfl hr ?_
      refine hK.out _ _ ?_ (fun hHeld => ?_)
      · exact HSX.out _ HHW.out
      clear hK K
      try simp only [List.getElem_toArray, List.getElem_cons_succ, List.getElem_cons_zero, Act.put, List.setIfInBounds_toArray, List.set_cons_zero, List.set_cons_succ]
      refine wpAnyH_take (i := 9) (v := .pointer (some ⟨g, tl * 10, none⟩)) rfl (by kernel_rfl) (by kernel_rfl) (by kernel_rfl) (fun _ _ _ h => h) (Or.inl ⟨by rfl, fun w' hSw => by (try dsimp only at hSw); go_simp⟩) (by assumption) ?_
      simp only [List.getElem_toArray, List.getElem_cons_succ, List.getElem_cons_zero, Act.put, List.setIfInBounds_toArray, List.set_cons_zero, List.set_cons_succ]
      refine wpAnyH_take (i := 11) (v := ptrB b) rfl (by kernel_rfl) (by kernel_rfl) (by kernel_rfl) (fun _ _ _ h => h) (Or.inl ⟨by rfl, fun w' hSw => by (try dsimp only at hSw); go_simp⟩) (by assumption) ?_
      simp only [List.getElem_toArray, List.getElem_cons_succ, List.getElem_cons_zero, Act.put, List.setIfInBounds_toArray, List.set_cons_zero, List.set_cons_succ]
      refine wpAnyH_take (i := 12) (v := .pointer (some ⟨b, 5, none⟩)) rfl (by kernel_rfl) (by kernel_rfl) (by kernel_rfl) (fun _ _ _ h => h) (Or.inl ⟨by rfl, fun w' hSw => by (try dsimp only at hSw); go_simp⟩) (by assumption) ?_
      simp only [List.getElem_toArray, List.getElem_cons_succ, List.getElem_cons_zero, Act.put, List.setIfInBounds_toArray, List.set_cons_zero, List.set_cons_succ]
      refine wpAnyH_ready (rs := [10, 13]) (by kernel_rfl) (by simp) ?_
      refine AllReadyH.cons rfl (fun K hK => ?_) (AllReadyH.cons rfl (fun K hK => ?_) AllReadyH.nil)
      · try simp only [List.getElem_toArray, List.getElem_cons_succ, List.getElem_cons_zero]
        go_simp
        refine hK.out _ _ ?_ (fun hHeld => ?_)
        · exact HSX.out (w'.setCells g (tl * 10) [.int .i64 mk, .int .i64 ml, .int .i64 mn, .slice m1 m2 m3, .slice n1 n2 n3, .slice o1 o2 o3, .string ⟨mc.toArray⟩, .slice l1 l2 l3, .bool mb, .bool ma]) ((heap_setC hgw _ _ _).trans HHW.out)
        clear hK K
        try simp only [List.getElem_toArray, List.getElem_cons_succ, List.getElem_cons_zero, Act.put, List.setIfInBounds_toArray, List.set_cons_zero, List.set_cons_succ]
        refine wpAnyH_ready (rs := [13]) (by kernel_rfl) (by simp) ?_
        refine AllReadyH.cons rfl (fun K hK => ?_) AllReadyH.nil
        try simp only [List.getElem_toArray, List.getElem_cons_succ, List.getElem_cons_zero]
        go_simp
        refine hK.out _ _ ?_ (fun hHeld => ?_)
        · exact HSX.out ((w'.setCells g (tl * 10) [.int .i64 mk, .int .i64 ml, .int .i64 mn, .slice m1 m2 m3, .slice n1 n2 n3, .slice o1 o2 o3, .string ⟨mc.toArray⟩, .slice l1 l2 l3, .bool mb, .bool ma]).setCell ⟨b, 5, none⟩ (.slice (some ⟨g, 0, none⟩) (tl + 1) c)) ((Below.heap_setCell _ ⟨b, 5, none⟩ _ _ hbw).trans ((heap_setC hgw _ _ _).trans HHW.out))
        clear hK K
        try simp only [List.getElem_toArray, List.getElem_cons_succ, List.getElem_cons_zero, Act.put, List.setIfInBounds_toArray, List.set_cons_zero, List.set_cons_succ]
        refine wpAnyH_done (by kernel_rfl) ?_ _
        go_wp2_with fail
        go_end0
        exact ⟨rfl, HFN.out _ HA.out⟩
      · try simp only [List.getElem_toArray, List.getElem_cons_succ, List.getElem_cons_zero]
        go_simp
        refine hK.out _ _ ?_ (fun hHeld => ?_)
        · exact HSX.out (w'.setCell ⟨b, 5, none⟩ (.slice (some ⟨g, 0, none⟩) (tl + 1) c)) ((Below.heap_setCell _ ⟨b, 5, none⟩ _ _ hbw).trans HHW.out)
        clear hK K
        try simp only [List.getElem_toArray, List.getElem_cons_succ, List.getElem_cons_zero, Act.put, List.setIfInBounds_toArray, List.set_cons_zero, List.set_cons_succ]
        refine wpAnyH_ready (rs := [10]) (by kernel_rfl) (by simp) ?_
        refine AllReadyH.cons rfl (fun K hK => ?_) AllReadyH.nil
        try simp only [List.getElem_toArray, List.getElem_cons_succ, List.getElem_cons_zero]
        go_simp
        refine hK.out _ _ ?_ (fun hHeld => ?_)
        · exact HSX.out ((w'.setCell ⟨b, 5, none⟩ (.slice (some ⟨g, 0, none⟩) (tl + 1) c)).setCells g (tl * 10) [.int .i64 mk, .int .i64 ml, .int .i64 mn, .slice m1 m2 m3, .slice n1 n2 n3, .slice o1 o2 o3, .string ⟨mc.toArray⟩, .slice l1 l2 l3, .bool mb, .bool ma]) ((heap_setC hgw _ _ _).trans ((Below.heap_setCell _ ⟨b, 5, none⟩ _ _ hbw).trans HHW.out))
        clear hK K
        try simp only [List.getElem_toArray, List.getElem_cons_succ, List.getElem_cons_zero, Act.put, List.setIfInBounds_toArray, List.set_cons_zero, List.set_cons_succ]
        refine wpAnyH_done (by kernel_rfl) ?_ _
        go_wp2_with fail
        go_end0
        refine ⟨rfl, HFN.out _ ?_⟩
        have q := HA.out
        rw [setCells_comm hgb] at q
        exact q
    · try simp only [List.getElem_toArray, List.getElem_cons_succ, List.getElem_cons_zero]
      go_simp
      go_at_call 48
      refine (HCP.out (w2.alloc (.cells #[.int .i64 0, .int .i64 0, .int .i64 0, .slice none 0 0, .slice none 0 0, .slice none 0 0, .string ⟨#[]⟩, .slice none 0 0, .bool false, .bool false] 40)).drew (below_lit w2 _).drew).mono ?_
      rintro e w3 ⟨x6, rfl, hc6, hb3⟩
      have hz1 : (w2.alloc (.cells #[.int .i64 0, .int .i64 0, .int .i64 0, .slice none 0 0, .slice none 0 0, .slice none 0 0, .string ⟨#[]⟩, .slice none 0 0, .bool false, .bool false] 40)).drew.heap.size = w2.heap.size + 1 := World.size_alloc _ _
      rw [hz1] at hb3 hc6
      have HB3 : Hid (Below (w2.heap.size + 1) (w2.alloc (.cells #[.int .i64 0, .int .i64 0, .int .i64 0, .slice none 0 0, .slice none 0 0, .slice none 0 0, .string ⟨#[]⟩, .slice none 0 0, .bool false, .bool false] 40)).drew w3) := Lib.hid hb3
      have HC6 : Hid (CopyM (w2.heap.size + 1) w3 x6 y) := Lib.hid hc6
      have hb3' : Below w2.heap.size w2 w3 := (below_lit w2 (.cells #[.int .i64 0, .int .i64 0, .int .i64 0, .slice none 0 0, .slice none 0 0, .slice none 0 0, .string ⟨#[]⟩, .slice none 0 0, .bool false, .bool false] 40)).drew.trans (hb3.mono (by omega))
      have c5w : w3.cell? ⟨b, 5, none⟩ = some (.slice oa tl oc) := below_eq hb3' c5
      have HHX : Hid (w3.heap[w.heap.size]? = w2.heap[w.heap.size]?) := Lib.hid (hb3'.block _ hwl)
      clear hc6 hb3 hb3'
      obtain ⟨mk, ml, mn, ⟨m1, m2, m3⟩, ⟨n1, n2, n3⟩, ⟨o1, o2, o3⟩, mc, ⟨l1, l2, l3⟩, mb, ma⟩ := x6
      simp only [ncell, pv]
      go_wp2_with fail
      refine hK.out _ _ ?_ (fun hHeld => ?_)
      · exact HSX.out _ HHX.out
      clear hK K
      try simp only [List.getElem_toArray, List.getElem_cons_succ, List.getElem_cons_zero, Act.put, List.setIfInBounds_toArray, List.set_cons_zero, List.set_cons_succ]
      refine wpAnyH_ready (rs := [3]) (by kernel_rfl) (by simp) ?_
      refine AllReadyH.cons rfl (fun K hK => ?_) AllReadyH.nil
      try simp only [List.getElem_toArray, List.getElem_cons_succ, List.getElem_cons_zero]
      go_simp
      refine hK.out _ _ ?_ (fun hHeld => ?_)
      · exact HSX.out _ HHX.out
      clear hK K
      try simp only [List.getElem_toArray, List.getElem_cons_succ, List.getElem_cons_zero, Act.put, List.setIfInBounds_toArray, List.set_cons_zero, List.set_cons_succ]
      refine wpAnyH_take (i := 6) (v := .int .i64 (tl : Int)) rfl (by kernel_rfl) (by kernel_rfl) (by kernel_rfl) (fun _ _ _ h => h) (Or.inl ⟨by rfl, fun w' hSw => by (try dsimp only at hSw); go_simp⟩) (by assumption) ?_
      simp only [List.getElem_toArray, List.getElem_cons_succ, List.getElem_cons_zero, Act.put, List.setIfInBounds_toArray, List.set_cons_zero, List.set_cons_succ]
      obtain ⟨g, c, w', hr, hcell, hgb, e5, f5, hP, hA⟩ := HPB.out w3 _ HC6.out HB3.out
      have HA := Lib.hid hA
      have hw := hP _ rfl
      have hgw : w.heap.size ≠ g := hw.1
      have hbw : w.heap.size ≠ b := hw.2.1
      have HHW := Lib.hid hw.2.2
      have hbg : b ≠ g := fun e => hgb e.symm
      simp only [ncell, pv] at HA
      have y0 := (hcell 0 _ rfl).1
      have y1 := (hcell 1 _ rfl).1
      have y2 := (hcell 2 _ rfl).1
      have y3 := (hcell 3 _ rfl).1
      have y4 := (hcell 4 _ rfl).1
      have y5 := (hcell 5 _ rfl).1
      have y6 := (hcell 6 _ rfl).1
      have y7 := (hcell 7 _ rfl).1
      have y8 := (hcell 8 _ rfl).1
      have y9 := (hcell 9 _ rfl).1
      have f0' := (hcell 0 _ rfl).2
      have f1' := (hcell 1 _ rfl).2
      have f2' := (hcell 2 _ rfl).2
      have f3' := (hcell 3 _ rfl).2
      have f4' := (hcell 4 _ rfl).2
      have f5' := (hcell 5 _ rfl).2
      have f6' := (hcell 6 _ rfl).2
      have f7' := (hcell 7 _ rfl).2
      have f8' := (hcell 8 _ rfl).2
      have f9' := (hcell 9 _ rfl).2
      try simp only [Nat.add_zero] at y0 f0'
      clear hA hP hw hcell
      refine wpAnyH_ready (rs := [8]) (by kernel_rfl) (by simp) ?_
      refine AllReadyH.cons rfl (fun K hK => ?_) AllReadyH.nil
      try simp only [List.getElem_toArray, List.getElem_cons_succ, List.getElem_cons_zero]
      rw [if_pos (by kernel_rfl)]
      refine wp_append_run (.tmp 11) (.tmp 15) 27 27 rfl _ _ rfl rfl hr ?_
      refine hK.out _ _ ?_ (fun hHeld => ?_)
      · exact HSX.out _ HHW.out
      clear hK K
      try simp only [List.getElem_toArray, List.getElem_cons_succ, List.getElem_cons_zero, Act.put, List.setIfInBounds_toArray, List.set_cons_zero, List.set_cons_succ]
      refine wpAnyH_take (i := 9) (v := .pointer (some ⟨g, tl * 10, none⟩)) rfl (by kernel_rfl) (by kernel_rfl) (by kernel_rfl) (fun _ _ _ h => h) (Or.inl ⟨by rfl, fun w' hSw => by (try dsimp only at hSw); go_simp⟩) (by assumption) ?_
      simp only [List.getElem_toArray, List.getElem_cons_succ, List.getElem_cons_zero, Act.put, List.setIfInBounds_toArray, List.set_cons_zero, List.set_cons_succ]
      refine wpAnyH_take (i := 11) (v := ptrB b) rfl (by kernel_rfl) (by kernel_rfl) (by kernel_rfl) (fun _ _ _ h => h) (Or.inl ⟨by rfl, fun w' hSw => by (try dsimp only at hSw); go_simp⟩) (by assumption) ?_
      simp only [List.getElem_toArray, List.getElem_cons_succ, List.getElem_cons_zero, Act.put, List.setIfInBounds_toArray, List.set_cons_zero, List.set_cons_succ]
      refine wpAnyH_take (i := 12) (v := .pointer (some ⟨b, 5, none⟩)) rfl (by kernel_rfl) (by kernel_rfl) (by kernel_rfl) (fun _ _ _ h => h) (Or.inl ⟨by rfl, fun w' hSw => by (try dsimp only at hSw); go_simp⟩) (by assumption) ?_
      simp only [List.getElem_toArray, List.getElem_cons_succ, List.getElem_cons_zero, Act.put, List.setIfInBounds_toArray, List.set_cons_zero, List.set_cons_succ]
      refine wpAnyH_ready (rs := [10, 13]) (by kernel_rfl) (by simp) ?_
      refine AllReadyH.cons rfl (fun K hK => ?_) (AllReadyH.cons rfl (fun K hK => ?_) AllReadyH.nil)
      · try simp only [List.getElem_toArray, List.getElem_cons_succ, List.getElem_cons_zero]
        go_simp
        refine hK.out _ _ ?_ (fun hHeld => ?_)
        · exact HSX.out (w'.setCells g (tl * 10) [.int .i64 mk, .int .i64 ml, .int .i64 mn, .slice m1 m2 m3, .slice n1 n2 n3, .slice o1 o2 o3, .string ⟨mc.toArray⟩, .slice l1 l2 l3, .bool mb, .bool ma]) ((heap_setC hgw _ _ _).trans HHW.out)
        clear hK K
        try simp only [List.getElem_toArray, List.getElem_cons_succ, List.getElem_cons_zero, Act.put, List.setIfInBounds_toArray, List.set_cons_zero, List.set_cons_succ]
        refine wpAnyH_ready (rs := [13]) (by kernel_rfl) (by simp) ?_
        refine AllReadyH.cons rfl (fun K hK => ?_) AllReadyH.nil
        try simp only [List.getElem_toArray, List.getElem_cons_succ, List.getElem_cons_zero]
        go_simp
        refine hK.out _ _ ?_ (fun hHeld => ?_)
        · exact HSX.out ((w'.setCells g (tl * 10) [.int .i64 mk, .int .i64 ml, .int .i64 mn, .slice m1 m2 m3, .slice n1 n2 n3, .slice o1 o2 o3, .string ⟨mc.toArray⟩, .slice l1 l2 l3, .bool mb, .bool ma]).setCell ⟨b, 5, none⟩ (.slice (some ⟨g, 0, none⟩) (tl + 1) c)) ((Below.heap_setCell _ ⟨b, 5, none⟩ _ _ hbw).trans ((heap_setC hgw _ _ _).trans HHW.out))
        clear hK K
        try simp only [List.getElem_toArray, List.getElem_cons_succ, List.getElem_cons_zero, Act.put, List.setIfInBounds_toArray, List.set_cons_zero, List.set_cons_succ]
        refine wpAnyH_done (by kernel_rfl) ?_ _
        go_wp2_with fail
        go_end0
        exact ⟨rfl, HFN.out _ HA.out⟩
      · try simp only [List.getElem_toArray, List.getElem_cons_succ, List.getElem_cons_zero]
        go_simp
        refine hK.out _ _ ?_ (fun hHeld => ?_)
        · exact HSX.out (w'.setCell ⟨b, 5, none⟩ (.slice (some ⟨g, 0, none⟩) (tl + 1) c)) ((Below.heap_setCell _ ⟨b, 5, none⟩ _ _ hbw).trans HHW.out)
        clear hK K
        try simp only [List.getElem_toArray, List.getElem_cons_succ, List.getElem_cons_zero, Act.put, List.setIfInBounds_toArray, List.set_cons_zero, List.set_cons_succ]
        refine wpAnyH_ready (rs := [10]) (by kernel_rfl) (by simp) ?_
        refine AllReadyH.cons rfl (fun K hK => ?_) AllReadyH.nil
        try simp only [List.getElem_toArray, List.getElem_cons_succ, List.getElem_cons_zero]
        go_simp
        refine hK.out _ _ ?_ (fun hHeld => ?_)
        · exact HSX.out ((w'.setCell ⟨b, 5, none⟩ (.slice (some ⟨g, 0, none⟩) (tl + 1) c)).setCells g (tl * 10) [.int .i64 mk, .int .i64 ml, .int .i64 mn, .slice m1 m2 m3, .slice n1 n2 n3, .slice o1 o2 o3, .string ⟨mc.toArray⟩, .slice l1 l2 l3, .bool mb, .bool ma]) ((heap_setC hgw _ _ _).trans ((Below.heap_setCell _ ⟨b, 5, none⟩ _ _ hbw).trans HHW.out))
        clear hK K
        try simp only [List.getElem_toArray, List.getElem_cons_succ, List.getElem_cons_zero, Act.put, List.setIfInBounds_toArray, List.set_cons_zero, List.set_cons_succ]
        refine wpAnyH_done (by kernel_rfl) ?_ _
        go_wp2_with fail
        go_end0
        refine ⟨rfl, HFN.out _ ?_⟩
        have q := HA.out
        rw [setCells_comm hgb] at q
        exact q
end Go.Proofs.YtpccjgoeoeehoaaDoor
namespace Go.Proofs.YtpccjgoeoeehoaaDoor
open Go.RowKit
theorem BM.begin {X R : Nat → Prop} {w : World} {b : Nat} {t : Bt} (h : BM true X R w b t) (hh : t.has = false) (i : Int) :
    w.frozen? ⟨b, 6, none⟩ = false ∧ AfC true X R b { t with has := true, line := i } w ((w.setCell ⟨b, 6, none⟩ (.pointer (some ⟨w.heap.size, 0, none⟩))).alloc (.cells (ncell (pnode i nilP)).toArray 40)) := by
  obtain ⟨kv, ov, pa, LO, lab, h1, h2⟩ := h
  obtain ⟨rfl, ht, hl⟩ : pa = .pointer none ∧ t.text = [] ∧ t.line = 0 := by
    rcases h1.para with ⟨-, q⟩ | ⟨q, -⟩
    · exact q
    · rw [hh] at q; cases q
  refine ⟨h1.box.frozen (by simp [bcell]), ?_⟩
  obtain ⟨W0, hW0⟩ : ∃ W, w.setCell ⟨b, 6, none⟩ (.pointer (some ⟨w.heap.size, 0, none⟩)) = W := ⟨_, rfl⟩
  have hz0 : W0.heap.size = w.heap.size := by rw [← hW0]; exact szset _ _ _
  have box0 := h1.box.set 6 (.pointer (some ⟨w.heap.size, 0, none⟩))
  have eb : (bcell t.nm kv ov (.pointer none)).set 6 (.pointer (some ⟨w.heap.size, 0, none⟩)) = bcell t.nm kv ov (.pointer (some ⟨w.heap.size, 0, none⟩)) := rfl
  rw [eb, hW0] at box0
  rw [hW0]
  obtain ⟨F, hFF⟩ : ∃ F, W0.alloc (.cells (ncell (pnode i nilP)).toArray 40) = F := ⟨_, rfl⟩
  have hb0 : Below W0.heap.size W0 F := by rw [← hFF]; exact below_lit _ _
  have box' := box0.below hb0
  have hkF : Blk F w.heap.size 40 (ncell (pnode i nilP)) := by rw [← hFF, ← hz0]; exact heap_alloc_new W0 _
  have hblt := h1.box.lt
  have hz := hkF.lt
  have hFs : F.heap.size = F.heap.size := rfl
  have hE0 : Exc (fun k => k = b) w W0 := by rw [← hW0]; exact (Exc.refl (fun k => k = b) w).set 6 _ (fun _ => rfl)
  have hEF : Exc (fun k => k = b) w F := hE0.trans (Exc.of (X := fun _ => False) hb0) (fun _ _ q => q.elim)
  rw [hFF]
  have kS : ∀ k, k < w.heap.size → lab k ≠ 1 → F.heap[k]? = w.heap[k]? := fun k q1 q2 => hEF.block k q1 (fun e => q2 (by rw [e]; exact h1.lb))
  have kR : Kp R w F := fun k q => kS k (h1.rl k q) (by rw [h1.sep k q]; decide)
  have kz : ∀ z, z ≠ 0 → z ≠ 1 → Kp (fun k => lab k = z) w F := fun z a0 a1 k q => kS k (h1.ll k (by rw [show lab k = z from q]; exact a0)) (by rw [show lab k = z from q]; exact a1)
  have ne : ∀ k, lab k ≠ 0 → k ≠ w.heap.size := fun k q e => by have := h1.ll k q; omega
  have ln : ∀ k z, z ≠ 0 → lab k = z → (if k = w.heap.size then 4 else lab k) = z := fun k z a0 q => by rw [if_neg (ne k (by omega)), q]
  refine ⟨fun k => (if k = w.heap.size then 4 else lab k) ≠ 0, R, ⟨kv, ov, .pointer (some ⟨w.heap.size, 0, none⟩), LO, fun k => if k = w.heap.size then 4 else lab k, ⟨fun k q => ?_, fun k q => Nat.lt_of_lt_of_le (h1.rl k q) hEF.size, fun k q => ?_, ln b 1 (by decide) h1.lb, box', ?_, h1.opn.kp (fun k e => kz 3 (by decide) (by decide) k (h1.opb k e)), fun k e => ln k 3 (by decide) (h1.opb k e), h1.ol, fun j x2 y2 p q => ?_, ?_⟩, fun k => Iff.rfl⟩, hEF.mono (fun k _ q => (h2 k).2 (by rw [q, h1.lb]; decide)), fun k q => ?_, fun k q => .inl q⟩
  · by_cases e : k = w.heap.size
    · rw [e]; exact hz
    · simp only [if_neg e] at q
      exact Nat.lt_of_lt_of_le (h1.ll k q) hEF.size
  · have e : k ≠ w.heap.size := fun e => by have := h1.rl k q; omega
    simp only [if_neg e, h1.sep k q]
  · exact (h1.kids.keep kR (kz 2 (by decide) (by decide))).mono (fun k q => q) (fun k q => ln k 2 (by decide) q)
  · obtain ⟨q1, q2⟩ := h1.on j x2 y2 p q
    exact ⟨q1.keep kR, (q2.keep kR (kz _ (by omega) (by omega))).mono (fun k q => q) (fun k z => ln k _ (by omega) z)⟩
  · refine .inr ⟨rfl, w.heap.size, nilP, rfl, hkF, .inl ⟨rfl, by simp, ?_, fun k e => by cases e⟩⟩
    show FOwn _ _ _ _ _ _ t.text
    rw [ht]
    exact FOwn.nil _ _
  · by_cases e : k = w.heap.size
    · exact .inr (by omega)
    · simp only [if_neg e] at q
      exact .inl ((h2 k).2 q)
theorem BM.txt {X R : Nat → Prop} {w : World} {b : Nat} {t : Bt} (h : BM true X R w b t) (hh : t.has = true) :
    ∃ g a c, w.cell? ⟨b, 6, none⟩ = some (.pointer (some ⟨g, 0, none⟩)) ∧ w.cell? ⟨g, 3, none⟩ = some (.slice a t.text.length c) ∧ FOwn 56 2 gcell 0 w (.slice a t.text.length c) t.text ∧
      ∀ (W w' : World) (a' : Option Addr) (c' : Nat) (L : List Gly), Below w.heap.size w W → FOwn 56 2 gcell 0 w' (.slice a' L.length c') L → W.grownBy w' (Value.slice a t.text.length c).ownBlock → ((Value.slice a' L.length c').ownBlock = (Value.slice a t.text.length c).ownBlock ∨ (Value.slice a' L.length c').ownBlock = some W.heap.size) →
        w'.cell? ⟨b, 6, none⟩ = some (.pointer (some ⟨g, 0, none⟩)) ∧ w'.cell? ⟨g, 3, none⟩ = some (.slice a t.text.length c) ∧ w'.frozen? ⟨g, 3, none⟩ = false ∧ g ≠ b ∧ AfC true X R b { t with text := L } w (w'.setCell ⟨g, 3, none⟩ (.slice a' L.length c')) := by
  obtain ⟨kv, ov, pa, LO, lab, h1, h2⟩ := h
  rcases h1.para with ⟨q, -⟩ | ⟨-, g, tv, rfl, hg, hp⟩
  · rw [hh] at q; cases q
  obtain ⟨hg4, hto, htb⟩ : lab g = 4 ∧ FOwn 56 2 gcell 0 w (pv tv) t.text ∧ ∀ k, (pv tv).ownBlock = some k → lab k = 5 := by
    rcases hp with ⟨-, q⟩ | ⟨q, -⟩
    · exact q
    · cases q
  obtain ⟨a, c, et, -⟩ := FOwn.sl gcell_len hto
  have hg3 := hg.cell 3
  rw [et] at hto htb
  refine ⟨g, a, c, h1.box.cell 6, by rw [hg3, ← et]; rfl, hto, fun W w' a' c' L hb hF hgr hob => ?_⟩
  have hgb : g ≠ b := fun e => by rw [e, h1.lb] at hg4; omega
  have hE : Exc (fun k => lab k = 5) w w' := (Exc.of (X := fun k => lab k = 5) hb).trans (Y := fun k => lab k = 5) ⟨hgr.os, hgr.tape, hgr.output, hgr.size, fun k q1 q2 => hgr.block k q1 (fun e => q2 (htb k e.symm))⟩ (fun _ _ q => q)
  have hg' : Blk w' g 40 (ncell (pnode t.line tv)) := hE.blk hg (by rw [hg4]; decide)
  have box' : Blk w' b 71 (bcell t.nm kv ov (.pointer (some ⟨g, 0, none⟩))) := hE.blk h1.box (by rw [h1.lb]; decide)
  have hg2 := hg'.set 3 (.slice a' L.length c')
  have eb : (ncell (pnode t.line tv)).set 3 (.slice a' L.length c') = ncell (pnode t.line (a', L.length, c')) := rfl
  rw [eb] at hg2
  obtain ⟨F, hFF⟩ : ∃ F, w'.setCell ⟨g, 3, none⟩ (.slice a' L.length c') = F := ⟨_, rfl⟩
  have hgF : Blk F g 40 (ncell (pnode t.line (a', L.length, c'))) := by rw [← hFF]; exact hg2
  have hEF : Exc (fun k => lab k = 5 ∨ lab k = 4) w F := by
    rw [← hFF]
    exact (hE.mono (fun k _ q => .inl q)).set 3 _ (fun _ => .inr hg4)
  have hFs : F.heap.size = w'.heap.size := by rw [← hFF, szset]
  have c3 : w'.cell? ⟨g, 3, none⟩ = some (.slice a t.text.length c) := by rw [hg'.cell 3, ← et]; rfl
  refine ⟨box'.cell 6, c3, hg'.frozen (by rw [ncell_len]; decide), hgb, ?_⟩
  rw [hFF]
  have hlV : ∀ k, (Value.slice a' L.length c').ownBlock = some k → lab k = 5 ∨ w.heap.size ≤ k := fun k e => hob.elim (fun q => .inl (htb k (q ▸ e))) (fun q => .inr (by rw [q] at e; have := Option.some.inj e; have := hb.size; omega))
  have hlV2 : ∀ k, (Value.slice a' L.length c').ownBlock = some k → k < w'.heap.size := fun k e => hF.ltb e
  have kS : ∀ k, k < w.heap.size → lab k ≠ 5 → lab k ≠ 4 → F.heap[k]? = w.heap[k]? := fun k q1 q2 q3 => hEF.block k q1 (fun e => e.elim q2 q3)
  have kR : Kp R w F := fun k q => kS k (h1.rl k q) (by rw [h1.sep k q]; decide) (by rw [h1.sep k q]; decide)
  have kz : ∀ z, z ≠ 0 → z ≠ 5 → z ≠ 4 → Kp (fun k => lab k = z) w F := fun z a0 a1 a2 k q => kS k (h1.ll k (by rw [show lab k = z from q]; exact a0)) (by rw [show lab k = z from q]; exact a1) (by rw [show lab k = z from q]; exact a2)
  have ln : ∀ k z, z ≠ 0 → z ≠ 5 → lab k = z → (if (Value.slice a' L.length c').ownBlock = some k then 5 else lab k) = z := fun k z a0 a5 q => by
    rw [if_neg (fun e => (hlV k e).elim (fun z => by omega) (fun z => by have := h1.ll k (by omega); omega)), q]
  refine ⟨fun k => (if (Value.slice a' L.length c').ownBlock = some k then 5 else lab k) ≠ 0, R, ⟨kv, ov, .pointer (some ⟨g, 0, none⟩), LO, fun k => if (Value.slice a' L.length c').ownBlock = some k then 5 else lab k, ⟨fun k q => ?_, fun k q => Nat.lt_of_lt_of_le (h1.rl k q) hEF.size, fun k q => ?_, ln b 1 (by decide) (by decide) h1.lb, ?_, ?_, h1.opn.kp (fun k e => kz 3 (by decide) (by decide) (by decide) k (h1.opb k e)), fun k e => ln k 3 (by decide) (by decide) (h1.opb k e), h1.ol, fun j x2 y2 p q => ?_, ?_⟩, fun k => Iff.rfl⟩, hEF.mono (fun k _ q => (h2 k).2 (by omega)), fun k q => ?_, fun k q => .inl q⟩
  · by_cases e : (Value.slice a' L.length c').ownBlock = some k
    · rw [hFs]; exact hlV2 k e
    · simp only [if_neg e] at q
      exact Nat.lt_of_lt_of_le (h1.ll k q) hEF.size
  · have e : (Value.slice a' L.length c').ownBlock ≠ some k := fun e => (hlV k e).elim (fun z => by have := h1.sep k q; omega) (fun z => by have := h1.rl k q; omega)
    simp only [if_neg e, h1.sep k q]
  · exact (kz 1 (by decide) (by decide) (by decide) b h1.lb).trans h1.box
  · exact (h1.kids.keep kR (kz 2 (by decide) (by decide) (by decide))).mono (fun k q => q) (fun k q => ln k 2 (by decide) (by decide) q)
  · obtain ⟨q1, q2⟩ := h1.on j x2 y2 p q
    exact ⟨q1.keep kR, (q2.keep kR (kz _ (by omega) (by omega) (by omega))).mono (fun k q => q) (fun k z => ln k _ (by omega) (by omega) z)⟩
  · refine .inr ⟨hh, g, (a', L.length, c'), rfl, hgF, .inl ⟨rfl, ln g 4 (by decide) (by decide) hg4, hF.kp (fun k e => ?_), fun k e => ?_⟩⟩
    · rw [← hFF]
      refine Below.heap_setCell _ ⟨g, 3, none⟩ _ _ (fun e2 => ?_)
      have e3 : k = g := e2
      subst e3
      exact (hlV k e).elim (fun z => by omega) (fun z => by have := h1.ll k (by omega); omega)
    · have e' : (Value.slice a' L.length c').ownBlock = some k := e
      simp only [if_pos e']
  · by_cases e : (Value.slice a' L.length c').ownBlock = some k
    · exact (hlV k e).imp (fun z => (h2 k).2 (by omega)) id
    · simp only [if_neg e] at q
      exact .inl ((h2 k).2 q)
theorem jn_last (a l : List Gly) : a.take (a.length - 1) ++ jn (a.drop (a.length - 1)) l = jn a l := by
  rcases List.eq_nil_or_concat a with e | ⟨r, z, e⟩
  · subst e; rfl
  · have e' : a = r ++ [z] := by simpa using e
    subst e'
    have h1 : (r ++ [z]).length - 1 = r.length := by simp
    rw [h1, List.take_left, List.drop_left]
    unfold jn
    by_cases hl : l = []
    · simp [hl]
    · simp [hl]
attribute [local go_sem ↓ high] slice_frontG slice_backG builtin_mxS
set_option maxRecDepth 100000 in
set_option maxHeartbeats 8000000 in
theorem btext_any {X R S : Nat → Prop} {w : World} {b : Nat} {t : Bt} {v : Value} (h : BM true X R w b t) (l : List Gly) (i : Int) (hv : FsS S 2 gcell w v l) (hS : ∀ k, S k → k < w.heap.size ∧ ¬ X k) (hb : btl t + l.length ≤ 80000) :
    Calls Tryd.prog 24 #[ptrB b, v, .int .i64 i] w (ClosP true X R b (bText t l i) w) := by
  obtain ⟨va, vc, rfl⟩ := hv.1.len
  have hself := h.self
  have hblt := h.lt b (.inl hself)
  have hsm := btl_small (show btl t ≤ 80000 by omega)
  have HB := Lib.hid h
  have HV := Lib.hid hv
  have HS := Lib.hid hS
  have HLL : Hid (t.text.length + l.length ≤ 80000) := Lib.hid (by unfold btl at hb; omega)
  obtain ⟨ll, hll⟩ : ∃ n, l.length = n := ⟨_, rfl⟩
  rw [hll] at HV HLL ⊢
  have HLN := Lib.hid hll
  obtain ⟨hs, hhs⟩ : ∃ d, t.has = d := ⟨_, rfl⟩
  have HHS := Lib.hid hhs
  have HP6 : Hid (if hs then (∃ g, w.cell? ⟨b, 6, none⟩ = some (.pointer (some ⟨g, 0, none⟩))) else (w.cell? ⟨b, 6, none⟩ = some (.pointer none) ∧ w.frozen? ⟨b, 6, none⟩ = false)) := by
    cases hs with
    | true =>
      obtain ⟨g, a, c, q, -⟩ := h.txt hhs
      exact Lib.hid ⟨g, q⟩
    | false => exact Lib.hid ⟨(h.none6 hhs).1, (h.begin hhs i).1⟩
  clear h hv hS hb hself hsm hll hhs
  go_enter Tryd.func24, Tryd.ntmps24
  have hP6 := HP6.out
  cases hs with
  | true =>
    obtain ⟨g0, d6⟩ : ∃ g, w.cell? ⟨b, 6, none⟩ = some (.pointer (some ⟨g, 0, none⟩)) := hP6
    go_upto_if 14 with fail
    go_cut [] (fun wx => AfC true X R b { t with has := true, line := if t.has then t.line else i } w wx)
    case first =>
      go_wp2_with fail
      go_meet
      have e : ({ t with has := true, line := if t.has then t.line else i } : Bt) = t := by
        have := HHS.out
        cases t
        simp only at this
        subst this
        rfl
      rw [e]
      exact AfC.refl HB.out
    case rest =>
    obtain ⟨X1, R1, hB, hE, hX, hR⟩ := hcut
    obtain ⟨W1, hW1⟩ : ∃ W, wc = W := ⟨_, rfl⟩
    rw [hW1] at hB hE ⊢
    obtain ⟨g, a, c, c6, c3, hto, hT⟩ := hB.txt rfl
    simp only at c3 hto hT
    have hvl : Gs W1 (.slice va ll vc) l := (HV.out.keep (fun k q => hE.block k (HS.out k q).1 (HS.out k q).2)).1
    obtain ⟨tx, htx⟩ : ∃ q, t.text = q := ⟨_, rfl⟩
    rw [htx] at c3 hto hT
    have HLT : Hid (tx.length + l.length ≤ 80000) := Lib.hid (by rw [← htx, HLN.out]; exact HLL.out)
    have htl := HLT.out
    obtain ⟨last, hlast⟩ : ∃ n, tx.length - 1 = n := ⟨_, rfl⟩
    have hlt : last ≤ tx.length := by omega
    obtain ⟨u2, f2, s2⟩ := backG_run (FOwn.sl gcell_len hto) last hlt
    obtain ⟨u1, f1, s1, e1⟩ := frontG_run (FOwn.sl gcell_len hto) last hlt
    have e1' := e1 _ _ _ rfl
    subst e1'
    have hcut := hto.cut gcell_len (k := last) hlt
    have HJ : Hid (∀ W, Below W1.heap.size W1 W → Calls Tryd.prog 54 #[u2, .slice va ll vc] W fun e w' => ∃ x, e = .returned x ∧ GOwn W.heap.size w' x (jn (tx.drop last) l) ∧ Below W.heap.size W w') := Lib.hid (fun W hb => sjoin_any (tx.drop last) l u2 _ W (Fs.below s2 hb) (Fs.below hvl hb) (by rw [List.length_drop]; omega))
    have HAP : Hid (∀ w2 x, GOwn W1.heap.size w2 x (jn (tx.drop last) l) → Below W1.heap.size W1 w2 → ∃ a' c' n' w', (Builtin.append_ #[30, 30] 30 #[.slice a last c, x]).run Tryd.prog w2 = .ok (.slice a' n' c') w' ∧ w'.cell? ⟨b, 6, none⟩ = some (.pointer (some ⟨g, 0, none⟩)) ∧ w'.cell? ⟨g, 3, none⟩ = some (.slice a tx.length c) ∧ w'.frozen? ⟨g, 3, none⟩ = false ∧ g ≠ b ∧ AfC true X R b (bText t l i) w (w'.setCell ⟨g, 3, none⟩ (.slice a' n' c'))) := Lib.hid (fun w2 x ho hb2 => by
      obtain ⟨i0, hi, hz0, hz1, hz2⟩ := info_parts infoG
      have hj := jn_len_le (tx.drop last) l
      rw [List.length_drop] at hj
      have htk : (tx.take last).length = last := by rw [List.length_take]; omega
      obtain ⟨x', w', hr, ho', hgr, hq⟩ := fapp (P := Tryd.prog) (t := 30) gcell_len gcell_one (by decide) Tryd.underlying30 hi hz0 hz1 hz2 rfl (by decide) (hcut.keep hb2) (FOwn.sl gcell_len ho) (Nat.zero_le _) (by rw [htk]; omega)
      rw [← hlast, jn_last] at ho'
      have eob : (Value.slice a last c).ownBlock = (Value.slice a tx.length c).ownBlock := by cases a <;> rfl
      rw [eob] at hgr hq
      obtain ⟨a', c', e⟩ := (FOwn.sl gcell_len ho').len
      subst e
      obtain ⟨k1, k2, k3, k4, k5⟩ := hT w2 w' a' c' (jn tx l) hb2 ho' hgr hq
      refine ⟨a', c', _, w', hr, k1, k2, k3, k4, ?_⟩
      have ebt : bText t l i = { ({ t with has := true, line := if t.has then t.line else i } : Bt) with text := jn tx l } := by
        unfold bText
        rw [htx]
      rw [ebt]
      exact AfC.step hE hX hR k5)
    have ml := mxS_run ((tx.length : Int) - 1) 0 (last : Int) (by split <;> omega)
    have hlast0 : (0 : Int) ≤ (last : Int) := by omega
    have htl9 : tx.length ≤ 80000 := by omega
    obtain ⟨N, hN⟩ : ∃ n, tx.length = n := ⟨_, rfl⟩
    rw [hN] at c3 ml HAP hlt htl9 f2 f1
    clear hB hE hX hR hto hT hvl htx s2 s1 e1 hcut hW1 HP6 HV HS HB htl HLT hlast HLL
    go_wp2_with fail
    refine wp_region_held_drew (S := (fun W' => W'.cell? ⟨b, 6, none⟩ = some (.pointer (some ⟨g, 0, none⟩)))) (by kernel_rfl) ?_ (fun hHeld => ?_)
    · exact c6
    refine wpAnyH_take (i := 0) (v := ptrB b) rfl (by kernel_rfl) (by kernel_rfl) (by kernel_rfl) (fun _ _ _ h => h) (Or.inl ⟨by rfl, fun w' hSw => by (try dsimp only at hSw); go_simp⟩) (by assumption) ?_
    simp only [List.getElem_toArray, List.getElem_cons_succ, List.getElem_cons_zero, Act.put, List.setIfInBounds_toArray, List.set_cons_zero, List.set_cons_succ]
    refine wpAnyH_take (i := 1) (v := ptrB b) rfl (by kernel_rfl) (by kernel_rfl) (by kernel_rfl) (fun _ _ _ h => h) (Or.inl ⟨by rfl, fun w' hSw => by (try dsimp only at hSw); go_simp⟩) (by assumption) ?_
    simp only [List.getElem_toArray, List.getElem_cons_succ, List.getElem_cons_zero, Act.put, List.setIfInBounds_toArray, List.set_cons_zero, List.set_cons_succ]
    refine wpAnyH_take (i := 2) (v := .pointer (some ⟨b, 6, none⟩)) rfl (by kernel_rfl) (by kernel_rfl) (by kernel_rfl) (fun _ _ _ h => h) (Or.inl ⟨by rfl, fun w' hSw => by (try dsimp only at hSw); go_simp⟩) (by assumption) ?_
    simp only [List.getElem_toArray, List.getElem_cons_succ, List.getElem_cons_zero, Act.put, List.setIfInBounds_toArray, List.set_cons_zero, List.set_cons_succ]
    refine wpAnyH_take (i := 3) (v := .pointer (some ⟨g, 0, none⟩)) rfl (by kernel_rfl) (by kernel_rfl) (by kernel_rfl) (fun _ _ _ h => h) (Or.inl ⟨by rfl, fun w' hSw => by (try dsimp only at hSw); go_simp⟩) (by assumption) ?_
    simp only [List.getElem_toArray, List.getElem_cons_succ, List.getElem_cons_zero, Act.put, List.setIfInBounds_toArray, List.set_cons_zero, List.set_cons_succ]
    refine wpAnyH_take (i := 4) (v := .slice a N c) rfl (by kernel_rfl) (by kernel_rfl) (by kernel_rfl) (fun _ _ _ h => h) (Or.inl ⟨by rfl, fun w' hSw => by (try dsimp only at hSw); go_simp⟩) (by assumption) ?_
    simp only [List.getElem_toArray, List.getElem_cons_succ, List.getElem_cons_zero, Act.put, List.setIfInBounds_toArray, List.set_cons_zero, List.set_cons_succ]
    refine wpAnyH_take (i := 5) (v := .int .i64 (last : Int)) rfl (by kernel_rfl) (by kernel_rfl) (by kernel_rfl) (fun _ _ _ h => h) (Or.inl ⟨by rfl, fun w' hSw => by (try dsimp only at hSw); go_simp⟩) (by assumption) ?_
    simp only [List.getElem_toArray, List.getElem_cons_succ, List.getElem_cons_zero, Act.put, List.setIfInBounds_toArray, List.set_cons_zero, List.set_cons_succ]
    refine wpAnyH_take (i := 6) (v := .slice a last c) rfl (by kernel_rfl) (by kernel_rfl) (by kernel_rfl) (fun _ _ _ h => h) (Or.inl ⟨by rfl, fun w' hSw => by (try dsimp only at hSw); go_simp⟩) (by assumption) ?_
    simp only [List.getElem_toArray, List.getElem_cons_succ, List.getElem_cons_zero, Act.put, List.setIfInBounds_toArray, List.set_cons_zero, List.set_cons_succ]
    refine wpAnyH_take (i := 7) (v := .slice a N c) rfl (by kernel_rfl) (by kernel_rfl) (by kernel_rfl) (fun _ _ _ h => h) (Or.inl ⟨by rfl, fun w' hSw => by (try dsimp only at hSw); go_simp⟩) (by assumption) ?_
    simp only [List.getElem_toArray, List.getElem_cons_succ, List.getElem_cons_zero, Act.put, List.setIfInBounds_toArray, List.set_cons_zero, List.set_cons_succ]
    refine wpAnyH_take (i := 8) (v := .int .i64 (last : Int)) rfl (by kernel_rfl) (by kernel_rfl) (by kernel_rfl) (fun _ _ _ h => h) (Or.inl ⟨by rfl, fun w' hSw => by (try dsimp only at hSw); go_simp⟩) (by assumption) ?_
    simp only [List.getElem_toArray, List.getElem_cons_succ, List.getElem_cons_zero, Act.put, List.setIfInBounds_toArray, List.set_cons_zero, List.set_cons_succ]
    refine wpAnyH_take (i := 9) (v := u2) rfl (by kernel_rfl) (by kernel_rfl) (by kernel_rfl) (fun _ _ _ h => h) (Or.inl ⟨by rfl, fun w' hSw => by (try dsimp only at hSw); go_simp⟩) (by assumption) ?_
    simp only [List.getElem_toArray, List.getElem_cons_succ, List.getElem_cons_zero, Act.put, List.setIfInBounds_toArray, List.set_cons_zero, List.set_cons_succ]
    refine wpAnyH_take (i := 10) (v := .slice va ll vc) rfl (by kernel_rfl) (by kernel_rfl) (by kernel_rfl) (fun _ _ _ h => h) (Or.inl ⟨by rfl, fun w' hSw => by (try dsimp only at hSw); go_simp⟩) (by assumption) ?_
    simp only [List.getElem_toArray, List.getElem_cons_succ, List.getElem_cons_zero, Act.put, List.setIfInBounds_toArray, List.set_cons_zero, List.set_cons_succ]
    refine wpAnyH_ready (rs := [11]) (by kernel_rfl) (by simp) ?_
    refine AllReadyH.cons rfl (fun K hK => ?_) AllReadyH.nil
    try simp only [List.getElem_toArray, List.getElem_cons_succ, List.getElem_cons_zero]
    go_simp
    go_at_call 54
    refine (HJ.out _ (Below.refl W1.heap.size W1).drew).mono ?_
    rintro e w2 ⟨x, rfl, ho, hb2⟩
    have hb2' : Below W1.heap.size W1 w2 := (Below.refl W1.heap.size W1).drew.trans hb2
    obtain ⟨a', c', n', w', hr, k1, k2, k3, k4, hA⟩ := HAP.out w2 x ho hb2'
    have HA := Lib.hid hA
    have c6' : w2.cell? ⟨b, 6, none⟩ = some (.pointer (some ⟨g, 0, none⟩)) := below_eq hb2' c6
    clear hA ho hb2 hb2'
    go_wp2_with fail
    refine hK.out _ _ ?_ (fun hHeld => ?_)
    · exact c6'
    clear hK K
    try simp only [List.getElem_toArray, List.getElem_cons_succ, List.getElem_cons_zero, Act.put, List.setIfInBounds_toArray, List.set_cons_zero, List.set_cons_succ]
    refine wpAnyH_ready (rs := [12]) (by kernel_rfl) (by simp) ?_
    refine AllReadyH.cons rfl (fun K hK => ?_) AllReadyH.nil
    try simp only [List.getElem_toArray, List.getElem_cons_succ, List.getElem_cons_zero]
    rw [if_pos (by kernel_rfl)]
    refine wp_append_run (.tmp 38) (.tmp 43) 30 30 rfl _ _ rfl rfl hr ?_
    refine hK.out _ _ ?_ (fun hHeld => ?_)
    · exact k1
    clear hK K
    try simp only [List.getElem_toArray, List.getElem_cons_succ, List.getElem_cons_zero, Act.put, List.setIfInBounds_toArray, List.set_cons_zero, List.set_cons_succ]
    refine wpAnyH_take (i := 13) (v := .pointer (some ⟨g, 0, none⟩)) rfl (by kernel_rfl) (by kernel_rfl) (by kernel_rfl) (fun _ _ _ h => h) (Or.inl ⟨by rfl, fun w' hSw => by (try dsimp only at hSw); go_simp⟩) (by assumption) ?_
    simp only [List.getElem_toArray, List.getElem_cons_succ, List.getElem_cons_zero, Act.put, List.setIfInBounds_toArray, List.set_cons_zero, List.set_cons_succ]
    refine wpAnyH_take (i := 14) (v := .pointer (some ⟨g, 3, none⟩)) rfl (by kernel_rfl) (by kernel_rfl) (by kernel_rfl) (fun _ _ _ h => h) (Or.inl ⟨by rfl, fun w' hSw => by (try dsimp only at hSw); go_simp⟩) (by assumption) ?_
    simp only [List.getElem_toArray, List.getElem_cons_succ, List.getElem_cons_zero, Act.put, List.setIfInBounds_toArray, List.set_cons_zero, List.set_cons_succ]
    refine wpAnyH_ready (rs := [15]) (by kernel_rfl) (by simp) ?_
    refine AllReadyH.cons rfl (fun K hK => ?_) AllReadyH.nil
    try simp only [List.getElem_toArray, List.getElem_cons_succ, List.getElem_cons_zero]
    go_simp
    refine hK.out _ _ ?_ (fun hHeld => ?_)
    · rw [cell_blk (Below.heap_setCell w' ⟨g, 3, none⟩ _ b (fun e => k4 e.symm))]; exact k1
    clear hK K
    try simp only [List.getElem_toArray, List.getElem_cons_succ, List.getElem_cons_zero, Act.put, List.setIfInBounds_toArray, List.set_cons_zero, List.set_cons_succ]
    refine wpAnyH_done (by kernel_rfl) ?_ _
    go_wp2_with fail
    go_end0
    exact ⟨rfl, HA.out⟩
  | false =>
    obtain ⟨d6, e6⟩ : w.cell? ⟨b, 6, none⟩ = some (.pointer none) ∧ w.frozen? ⟨b, 6, none⟩ = false := hP6
    go_upto_if 14 with fail
    go_cut [] (fun wx => AfC true X R b { t with has := true, line := if t.has then t.line else i } w wx)
    case first =>
      go_wp2_with fail
      go_meet
      have e : ({ t with has := true, line := if t.has then t.line else i } : Bt) = { t with has := true, line := i } := by
        rw [HHS.out]
        rfl
      rw [e]
      exact (HB.out.begin HHS.out i).2
    case rest =>
    obtain ⟨X1, R1, hB, hE, hX, hR⟩ := hcut
    obtain ⟨W1, hW1⟩ : ∃ W, wc = W := ⟨_, rfl⟩
    rw [hW1] at hB hE ⊢
    obtain ⟨g, a, c, c6, c3, hto, hT⟩ := hB.txt rfl
    simp only at c3 hto hT
    have hvl : Gs W1 (.slice va ll vc) l := (HV.out.keep (fun k q => hE.block k (HS.out k q).1 (HS.out k q).2)).1
    obtain ⟨tx, htx⟩ : ∃ q, t.text = q := ⟨_, rfl⟩
    rw [htx] at c3 hto hT
    have HLT : Hid (tx.length + l.length ≤ 80000) := Lib.hid (by rw [← htx, HLN.out]; exact HLL.out)
    have htl := HLT.out
    obtain ⟨last, hlast⟩ : ∃ n, tx.length - 1 = n := ⟨_, rfl⟩
    have hlt : last ≤ tx.length := by omega
    obtain ⟨u2, f2, s2⟩ := backG_run (FOwn.sl gcell_len hto) last hlt
    obtain ⟨u1, f1, s1, e1⟩ := frontG_run (FOwn.sl gcell_len hto) last hlt
    have e1' := e1 _ _ _ rfl
    subst e1'
    have hcut := hto.cut gcell_len (k := last) hlt
    have HJ : Hid (∀ W, Below W1.heap.size W1 W → Calls Tryd.prog 54 #[u2, .slice va ll vc] W fun e w' => ∃ x, e = .returned x ∧ GOwn W.heap.size w' x (jn (tx.drop last) l) ∧ Below W.heap.size W w') := Lib.hid (fun W hb => sjoin_any (tx.drop last) l u2 _ W (Fs.below s2 hb) (Fs.below hvl hb) (by rw [List.length_drop]; omega))
    have HAP : Hid (∀ w2 x, GOwn W1.heap.size w2 x (jn (tx.drop last) l) → Below W1.heap.size W1 w2 → ∃ a' c' n' w', (Builtin.append_ #[30, 30] 30 #[.slice a last c, x]).run Tryd.prog w2 = .ok (.slice a' n' c') w' ∧ w'.cell? ⟨b, 6, none⟩ = some (.pointer (some ⟨g, 0, none⟩)) ∧ w'.cell? ⟨g, 3, none⟩ = some (.slice a tx.length c) ∧ w'.frozen? ⟨g, 3, none⟩ = false ∧ g ≠ b ∧ AfC true X R b (bText t l i) w (w'.setCell ⟨g, 3, none⟩ (.slice a' n' c'))) := Lib.hid (fun w2 x ho hb2 => by
      obtain ⟨i0, hi, hz0, hz1, hz2⟩ := info_parts infoG
      have hj := jn_len_le (tx.drop last) l
      rw [List.length_drop] at hj
      have htk : (tx.take last).length = last := by rw [List.length_take]; omega
      obtain ⟨x', w', hr, ho', hgr, hq⟩ := fapp (P := Tryd.prog) (t := 30) gcell_len gcell_one (by decide) Tryd.underlying30 hi hz0 hz1 hz2 rfl (by decide) (hcut.keep hb2) (FOwn.sl gcell_len ho) (Nat.zero_le _) (by rw [htk]; omega)
      rw [← hlast, jn_last] at ho'
      have eob : (Value.slice a last c).ownBlock = (Value.slice a tx.length c).ownBlock := by cases a <;> rfl
      rw [eob] at hgr hq
      obtain ⟨a', c', e⟩ := (FOwn.sl gcell_len ho').len
      subst e
      obtain ⟨k1, k2, k3, k4, k5⟩ := hT w2 w' a' c' (jn tx l) hb2 ho' hgr hq
      refine ⟨a', c', _, w', hr, k1, k2, k3, k4, ?_⟩
      have ebt : bText t l i = { ({ t with has := true, line := if t.has then t.line else i } : Bt) with text := jn tx l } := by
        unfold bText
        rw [htx]
      rw [ebt]
      exact AfC.step hE hX hR k5)
    have ml := mxS_run ((tx.length : Int) - 1) 0 (last : Int) (by split <;> omega)
    have hlast0 : (0 : Int) ≤ (last : Int) := by omega
    have htl9 : tx.length ≤ 80000 := by omega
    obtain ⟨N, hN⟩ : ∃ n, tx.length = n := ⟨_, rfl⟩
    rw [hN] at c3 ml HAP hlt htl9 f2 f1
    clear hB hE hX hR hto hT hvl htx s2 s1 e1 hcut hW1 HP6 HV HS HB htl HLT hlast HLL
    go_wp2_with fail
    refine wp_region_held_drew (S := (fun W' => W'.cell? ⟨b, 6, none⟩ = some (.pointer (some ⟨g, 0, none⟩)))) (by kernel_rfl) ?_ (fun hHeld => ?_)
    · exact c6
    refine wpAnyH_take (i := 0) (v := ptrB b) rfl (by kernel_rfl) (by kernel_rfl) (by kernel_rfl) (fun _ _ _ h => h) (Or.inl ⟨by rfl, fun w' hSw => by (try dsimp only at hSw); go_simp⟩) (by assumption) ?_
    simp only [List.getElem_toArray, List.getElem_cons_succ, List.getElem_cons_zero, Act.put, List.setIfInBounds_toArray, List.set_cons_zero, List.set_cons_succ]
    refine wpAnyH_take (i := 1) (v := ptrB b) rfl (by kernel_rfl) (by kernel_rfl) (by kernel_rfl) (fun _ _ _ h => h) (Or.inl ⟨by rfl, fun w' hSw => by (try dsimp only at hSw); go_simp⟩) (by assumption) ?_
    simp only [List.getElem_toArray, List.getElem_cons_succ, List.getElem_cons_zero, Act.put, List.setIfInBounds_toArray, List.set_cons_zero, List.set_cons_succ]
    refine wpAnyH_take (i := 2) (v := .pointer (some ⟨b, 6, none⟩)) rfl (by kernel_rfl) (by kernel_rfl) (by kernel_rfl) (fun _ _ _ h => h) (Or.inl ⟨by rfl, fun w' hSw => by (try dsimp only at hSw); go_simp⟩) (by assumption) ?_
    simp only [List.getElem_toArray, List.getElem_cons_succ, List.getElem_cons_zero, Act.put, List.setIfInBounds_toArray, List.set_cons_zero, List.set_cons_succ]
    refine wpAnyH_take (i := 3) (v := .pointer (some ⟨g, 0, none⟩)) rfl (by kernel_rfl) (by kernel_rfl) (by kernel_rfl) (fun _ _ _ h => h) (Or.inl ⟨by rfl, fun w' hSw => by (try dsimp only at hSw); go_simp⟩) (by assumption) ?_
    simp only [List.getElem_toArray, List.getElem_cons_succ, List.getElem_cons_zero, Act.put, List.setIfInBounds_toArray, List.set_cons_zero, List.set_cons_succ]
    refine wpAnyH_take (i := 4) (v := .slice a N c) rfl (by kernel_rfl) (by kernel_rfl) (by kernel_rfl) (fun _ _ _ h => h) (Or.inl ⟨by rfl, fun w' hSw => by (try dsimp only at hSw); go_simp⟩) (by assumption) ?_
    simp only [List.getElem_toArray, List.getElem_cons_succ, List.getElem_cons_zero, Act.put, List.setIfInBounds_toArray, List.set_cons_zero, List.set_cons_succ]
    refine wpAnyH_take (i := 5) (v := .int .i64 (last : Int)) rfl (by kernel_rfl) (by kernel_rfl) (by kernel_rfl) (fun _ _ _ h => h) (Or.inl ⟨by rfl, fun w' hSw => by (try dsimp only at hSw); go_simp⟩) (by assumption) ?_
    simp only [List.getElem_toArray, List.getElem_cons_succ, List.getElem_cons_zero, Act.put, List.setIfInBounds_toArray, List.set_cons_zero, List.set_cons_succ]
    refine wpAnyH_take (i := 6) (v := .slice a last c) rfl (by kernel_rfl) (by kernel_rfl) (by kernel_rfl) (fun _ _ _ h => h) (Or.inl ⟨by rfl, fun w' hSw => by (try dsimp only at hSw); go_simp⟩) (by assumption) ?_
    simp only [List.getElem_toArray, List.getElem_cons_succ, List.getElem_cons_zero, Act.put, List.setIfInBounds_toArray, List.set_cons_zero, List.set_cons_succ]
    refine wpAnyH_take (i := 7) (v := .slice a N c) rfl (by kernel_rfl) (by kernel_rfl) (by kernel_rfl) (fun _ _ _ h => h) (Or.inl ⟨by rfl, fun w' hSw => by (try dsimp only at hSw); go_simp⟩) (by assumption) ?_
    simp only [List.getElem_toArray, List.getElem_cons_succ, List.getElem_cons_zero, Act.put, List.setIfInBounds_toArray, List.set_cons_zero, List.set_cons_succ]
    refine wpAnyH_take (i := 8) (v := .int .i64 (last : Int)) rfl (by kernel_rfl) (by kernel_rfl) (by kernel_rfl) (fun _ _ _ h => h) (Or.inl ⟨by rfl, fun w' hSw => by (try dsimp only at hSw); go_simp⟩) (by assumption) ?_
    simp only [List.getElem_toArray, List.getElem_cons_succ, List.getElem_cons_zero, Act.put, List.setIfInBounds_toArray, List.set_cons_zero, List.set_cons_succ]
    refine wpAnyH_take (i := 9) (v := u2) rfl (by kernel_rfl) (by kernel_rfl) (by kernel_rfl) (fun _ _ _ h => h) (Or.inl ⟨by rfl, fun w' hSw => by (try dsimp only at hSw); go_simp⟩) (by assumption) ?_
    simp only [List.getElem_toArray, List.getElem_cons_succ, List.getElem_cons_zero, Act.put, List.setIfInBounds_toArray, List.set_cons_zero, List.set_cons_succ]
    refine wpAnyH_take (i := 10) (v := .slice va ll vc) rfl (by kernel_rfl) (by kernel_rfl) (by kernel_rfl) (fun _ _ _ h => h) (Or.inl ⟨by rfl, fun w' hSw => by (try dsimp only at hSw); go_simp⟩) (by assumption) ?_
    simp only [List.getElem_toArray, List.getElem_cons_succ, List.getElem_cons_zero, Act.put, List.setIfInBounds_toArray, List.set_cons_zero, List.set_cons_succ]
    refine wpAnyH_ready (rs := [11]) (by kernel_rfl) (by simp) ?_
    refine AllReadyH.cons rfl (fun K hK => ?_) AllReadyH.nil
    try simp only [List.getElem_toArray, List.getElem_cons_succ, List.getElem_cons_zero]
    go_simp
    go_at_call 54
    refine (HJ.out _ (Below.refl W1.heap.size W1).drew).mono ?_
    rintro e w2 ⟨x, rfl, ho, hb2⟩
    have hb2' : Below W1.heap.size W1 w2 := (Below.refl W1.heap.size W1).drew.trans hb2
    obtain ⟨a', c', n', w', hr, k1, k2, k3, k4, hA⟩ := HAP.out w2 x ho hb2'
    have HA := Lib.hid hA
    have c6' : w2.cell? ⟨b, 6, none⟩ = some (.pointer (some ⟨g, 0, none⟩)) := below_eq hb2' c6
    clear hA ho hb2 hb2'
    go_wp2_with fail
    refine hK.out _ _ ?_ (fun hHeld => ?_)
    · exact c6'
    clear hK K
    try simp only [List.getElem_toArray, List.getElem_cons_succ, List.getElem_cons_zero, Act.put, List.setIfInBounds_toArray, List.set_cons_zero, List.set_cons_succ]
    refine wpAnyH_ready (rs := [12]) (by kernel_rfl) (by simp) ?_
    refine AllReadyH.cons rfl (fun K hK => ?_) AllReadyH.nil
    try simp only [List.getElem_toArray, List.getElem_cons_succ, List.getElem_cons_zero]
    rw [if_pos (by kernel_rfl)]
    refine wp_append_run (.tmp 38) (.tmp 43) 30 30 rfl _ _ rfl rfl hr ?_
    refine hK.out _ _ ?_ (fun hHeld => ?_)
    · exact k1
    clear hK K
    try simp only [List.getElem_toArray, List.getElem_cons_succ, List.getElem_cons_zero, Act.put, List.setIfInBounds_toArray, List.set_cons_zero, List.set_cons_succ]
    refine wpAnyH_take (i := 13) (v := .pointer (some ⟨g, 0, none⟩)) rfl (by kernel_rfl) (by kernel_rfl) (by kernel_rfl) (fun _ _ _ h => h) (Or.inl ⟨by rfl, fun w' hSw => by (try dsimp only at hSw); go_simp⟩) (by assumption) ?_
    simp only [List.getElem_toArray, List.getElem_cons_succ, List.getElem_cons_zero, Act.put, List.setIfInBounds_toArray, List.set_cons_zero, List.set_cons_succ]
    refine wpAnyH_take (i := 14) (v := .pointer (some ⟨g, 3, none⟩)) rfl (by kernel_rfl) (by kernel_rfl) (by kernel_rfl) (fun _ _ _ h => h) (Or.inl ⟨by rfl, fun w' hSw => by (try dsimp only at hSw); go_simp⟩) (by assumption) ?_
    simp only [List.getElem_toArray, List.getElem_cons_succ, List.getElem_cons_zero, Act.put, List.setIfInBounds_toArray, List.set_cons_zero, List.set_cons_succ]
    refine wpAnyH_ready (rs := [15]) (by kernel_rfl) (by simp) ?_
    refine AllReadyH.cons rfl (fun K hK => ?_) AllReadyH.nil
    try simp only [List.getElem_toArray, List.getElem_cons_succ, List.getElem_cons_zero]
    go_simp
    refine hK.out _ _ ?_ (fun hHeld => ?_)
    · rw [cell_blk (Below.heap_setCell w' ⟨g, 3, none⟩ _ b (fun e => k4 e.symm))]; exact k1
    clear hK K
    try simp only [List.getElem_toArray, List.getElem_cons_succ, List.getElem_cons_zero, Act.put, List.setIfInBounds_toArray, List.set_cons_zero, List.set_cons_succ]
    refine wpAnyH_done (by kernel_rfl) ?_ _
    go_wp2_with fail
    go_end0
    exact ⟨rfl, HA.out⟩
end Go.Proofs.YtpccjgoeoeehoaaDoor
