/- The walk of TreeKeeps. -/
import Derived.Test.YtienjlbpaedbjaaDoorZ6
import Derived.Test.YtienjlbpaedbjaaDoorZ9
import Derived.Test.YtienjlbpaedbjaaDoorZc
namespace Go.Proofs.YtienjlbpaedbjaaDoor
open Go.RowKit

theorem lv_len (l : List Nd) : (lvL l).length ≤ nlL l := by
  have h := alL_len l
  rw [← ink_alL]
  have : (ink (alL l)).length ≤ (alL l).length := List.length_filter_le _ _
  omega

set_option maxRecDepth 100000 in
set_option maxHeartbeats 2000000 in
theorem treekeeps_any (m : Nm) (l : List Nd) (v : Value) (w : World) (hU : U8 w) (hv : NsS (fun b => b < w.heap.size) w v l) (hl : nlL l ≤ 4000000) :
    Calls Tryd.prog 6 #[docV m v] w fun e w' => e = .returned (.bool true) ∧ Below w.heap.size w w' := by
  have HK : Hid (∀ W, Below w.heap.size w W → Calls Tryd.prog 10 #[] W fun e w' => e = .returned (.bool true) ∧ Below w.heap.size w w') :=
    Lib.hid (fun W hb => (pknown_any W (hU.below hb)).mono fun e w' ⟨e1, e2⟩ => ⟨e1, hb.trans (e2.mono hb.size)⟩)
  obtain ⟨W0, hW0⟩ : ∃ W, W = w.alloc (.cells (docL m v).toArray 24) := ⟨_, rfl⟩
  have b0 : Below w.heap.size w W0 := by rw [hW0]; exact below_lit w _
  have k0 : Blk W0 w.heap.size 24 (docL m v) := by rw [hW0]; exact heap_alloc_new w _
  have HLG := Lib.hid (plong_any _ l v W0 (by omega) (below_ns hv b0 (fun b q => q)))
  have hbg : longB l = false → nlL l ≤ 600 := fun h => (longB_false h).1
  obtain ⟨T, hT⟩ : ∃ T, tidyL l = T := ⟨_, rfl⟩
  have hts : nlL T ≤ 24 * nlL l := hT ▸ tidy_size l
  have hkt : plL l = true → dpL l ≤ 20 → cntL l ≤ 20000 → lvL T = lvL l := fun h1 h2 h3 => hT ▸ keep_tidy h1 h2 h3
  obtain ⟨xg, hxg⟩ : ∃ x, longB l = x := ⟨_, rfl⟩
  rw [hxg] at HLG hbg
  have HV := Lib.hid hv
  obtain ⟨v1, v3, rfl⟩ := hv.len
  obtain ⟨v2, hv2⟩ : ∃ n, l.length = n := ⟨_, rfl⟩
  rw [hv2] at HV HLG hW0 k0 ⊢
  have HW0 : Hid (W0 = w.alloc (.cells #[.string ⟨m.a.toArray⟩, .string ⟨m.b.toArray⟩, .string ⟨m.c.toArray⟩, .string ⟨m.d.toArray⟩, .slice v1 v2 v3] 24)) := Lib.hid hW0
  have B0 := Lib.hid b0
  have HB0 := Lib.hid k0
  have HT := Lib.hid hT
  have HTS := Lib.hid hts
  have HKT := Lib.hid hkt
  have HBG := Lib.hid hbg
  have u4 : W0.cell? ⟨w.heap.size, 4, none⟩ = some (.slice v1 v2 v3) := k0.cell 4
  clear hxg hv hl hW0 hT hts hkt hbg k0 b0 hv2
  unfold docV docL
  go_enter Tryd.func6, Tryd.ntmps6
  go_upto_region 1 with fail
  rw [← HW0.out]
  go_wp2_with fail
  refine HLG.out.mono ?_
  rintro e w2 ⟨rfl, m2, hw2⟩
  have B2 : Hid (Below W0.heap.size W0 w2) := Lib.hid (by rw [hw2]; exact below_drewN (Below.refl _ _) m2)
  have BW2 : Hid (Below w.heap.size w w2) := Lib.hid (B0.out.trans (B2.out.mono B0.out.size))
  clear hw2 HLG HW0 u4
  cases xg with
  | true =>
    go_wp2_with fail
    refine (HK.out _ BW2.out).mono ?_
    rintro e w9 ⟨rfl, b9⟩
    have B9 := Lib.hid b9
    clear b9
    go_wp2_with fail
    go_ret
    exact ⟨rfl, B9.out⟩
  | false =>
    have l1 := HBG.out (by first | trivial | rfl)
    have l2 := HTS.out
    have cl := cnt_nlL l
    have hdp := rdeep_any _ (cntL l) l rfl (by omega) (.slice v1 v2 v3) w2 (HV.out.keep (Kp.below BW2.out (fun b q => q)))
    have hdl := dp_cntL l
    have k2 : Blk w2 w.heap.size 24 (docL m (.slice v1 v2 v3)) := HB0.out.below B2.out
    have y4 : w2.cell? ⟨w.heap.size, 4, none⟩ = some (.slice v1 v2 v3) := k2.cell 4
    obtain ⟨dp, hdpe⟩ : ∃ n, dpL l = n := ⟨_, rfl⟩
    rw [hdpe] at hdp hdl
    have HDP := Lib.hid hdp
    have HK2 := Lib.hid k2
    have HDE := Lib.hid hdpe
    clear hdp k2 hdpe
    go_wp2_with fail
    refine HDP.out.mono ?_
    rintro e wd ⟨rfl, md, hwd⟩
    have Bd : Hid (Below w2.heap.size w2 wd) := Lib.hid (by rw [hwd]; exact below_drewN (Below.refl _ _) md)
    have BWd : Hid (Below w.heap.size w wd) := Lib.hid (BW2.out.trans (Bd.out.mono BW2.out.size))
    have yd : wd.cell? ⟨w.heap.size, 4, none⟩ = some (.slice v1 v2 v3) := (HK2.out.below Bd.out).cell 4
    clear hwd HDP y4
    by_cases h20 : (dp : Int) > 20
    · have h20' : decide ((dp : Int) > 20) = true := decide_eq_true h20
      go_wp2_with fail
      refine (HK.out _ BWd.out).mono ?_
      rintro e w9 ⟨rfl, b9⟩
      have B9 := Lib.hid b9
      clear b9
      go_wp2_with fail
      go_ret
      exact ⟨rfl, B9.out⟩
    have h20' : decide ((dp : Int) > 20) = false := decide_eq_false h20
    have hpl := plain_any _ (cntL l) l rfl (by omega) (.slice v1 v2 v3) wd ((HV.out.keep (Kp.below BWd.out (fun b q => q))).mono (fun b q => Nat.lt_of_lt_of_le q BWd.out.size)) (fun b q => q)
    obtain ⟨pb, hpb⟩ : ∃ b, plL l = b := ⟨_, rfl⟩
    rw [hpb] at hpl
    have HPL := Lib.hid hpl
    have HPB0 := Lib.hid hpb
    clear hpl hpb
    go_wp2_with fail
    refine HPL.out.mono ?_
    rintro e wp ⟨rfl, bp⟩
    have Bp : Hid (Below w2.heap.size w2 wp) := Lib.hid (Bd.out.trans (bp.mono Bd.out.size))
    have BWp : Hid (Below w.heap.size w wp) := Lib.hid (BW2.out.trans (Bp.out.mono BW2.out.size))
    clear bp HPL yd
    cases pb with
    | false =>
      go_wp2_with fail
      refine (HK.out _ BWp.out).mono ?_
      rintro e w9 ⟨rfl, b9⟩
      have B9 := Lib.hid b9
      clear b9
      go_wp2_with fail
      go_ret
      exact ⟨rfl, B9.out⟩
    | true =>
      have hkt := HKT.out HPB0.out (by have := HDE.out; omega) (by omega)
      have HLV := Lib.hid hkt
      have k2 : Blk wp w.heap.size 24 (docL m (.slice v1 v2 v3)) := HK2.out.below Bp.out
      have HK3 := Lib.hid k2
      have y0 : wp.cell? ⟨w.heap.size, 0, none⟩ = some (.string ⟨m.a.toArray⟩) := k2.cell 0
      have y1 : wp.cell? ⟨w.heap.size, 1, none⟩ = some (.string ⟨m.b.toArray⟩) := k2.cell 1
      have y2 : wp.cell? ⟨w.heap.size, 2, none⟩ = some (.string ⟨m.c.toArray⟩) := k2.cell 2
      have y3 : wp.cell? ⟨w.heap.size, 3, none⟩ = some (.string ⟨m.d.toArray⟩) := k2.cell 3
      have y4 : wp.cell? ⟨w.heap.size, 4, none⟩ = some (.slice v1 v2 v3) := k2.cell 4
      have HTD := Lib.hid (ptidy_any _ m l (.slice v1 v2 v3) wp (hU.below BWp.out) (by omega) (HV.out.keep (Kp.below BWp.out (fun b q => q))) (fun b q => Nat.lt_of_lt_of_le q BWp.out.size))
      rw [HT.out] at HTD
      unfold docV docL at HTD
      unfold TidyP docV docL at HTD
      clear k2 hkt HBG HTS HB0 HKT HPB0 HDE
      go_upto_region 3 with fail
      go_upto_region 4 with fail
      refine HTD.out.mono ?_
      rintro e w3 ⟨⟨s1, s2, s3⟩, rfl, hs3, b3⟩
      simp only [pv]
      obtain ⟨X, hX⟩ : ∃ X, X = w3.alloc (.cells #[.string ⟨m.a.toArray⟩, .string ⟨m.b.toArray⟩, .string ⟨m.c.toArray⟩, .string ⟨m.d.toArray⟩, .slice s1 s2 s3] 24) := ⟨_, rfl⟩
      have bX : Below w3.heap.size w3 X := by rw [hX]; exact below_lit _ _
      have b2X : Below wp.heap.size wp X := b3.trans (bX.mono b3.size)
      have bwX : Below w.heap.size w X := BWp.out.trans (b2X.mono BWp.out.size)
      have kT : Blk X w.heap.size 24 (docL m (.slice v1 v2 v3)) := HK3.out.below b2X
      have kM : Blk X w3.heap.size 24 (docL m (.slice s1 s2 s3)) := by rw [hX]; exact heap_alloc_new w3 _
      have hsX : NsS (fun b => b < X.heap.size) X (.slice s1 s2 s3) T := (hs3.keep (Kp.below bX (fun b q => q.2))).mono (fun b q => Nat.lt_of_lt_of_le q.2 bX.size)
      have hvX : NsS (fun b => b < X.heap.size) X (.slice v1 v2 v3) l := (HV.out.keep (Kp.below bwX (fun b q => q))).mono (fun b q => Nat.lt_of_lt_of_le q bwX.size)
      have TK : ∀ {W : World} {v : Value} {l : List Nd}, NsS (fun b => b < X.heap.size) X v l → Below X.heap.size X W → NsS (fun b => b < W.heap.size) W v l := fun h hb => (h.keep (Kp.below hb (fun b q => q))).mono (fun b q => Nat.lt_of_lt_of_le q hb.size)
      have BT : ∀ {W W' : World}, Below X.heap.size X W → Below W.heap.size W W' → Below X.heap.size X W' := fun h k => h.trans (k.mono h.size)
      have HSC : Hid (∀ W, Below X.heap.size X W → W.cell? ⟨w3.heap.size, 4, none⟩ = some (.slice s1 s2 s3) ∧ W.cell? ⟨w.heap.size, 4, none⟩ = some (.slice v1 v2 v3)) := Lib.hid (fun W hb => ⟨(kM.below hb).cell 4, (kT.below hb).cell 4⟩)
      have n1 := lv_len T
      have n2 := lv_len l
      obtain ⟨A, hA⟩ : ∃ A, lvL l = A := ⟨_, rfl⟩
      rw [hA] at n2
      have HPA : Hid (∀ W, Below X.heap.size X W → Calls Tryd.prog 26 #[.slice s1 s2 s3] W fun e w' => ∃ u, e = .returned u ∧ Gs w' u A ∧ Below X.heap.size X w') := Lib.hid (fun W hb => by
        have := pleaves_any _ T (.slice s1 s2 s3) W (TK hsX hb) (fun b q => q) (by omega)
        exact this.mono (fun e w' ⟨u, e1, e2, e3⟩ => ⟨u, e1, by rw [HLV.out, hA] at e2; exact e2, BT hb e3⟩))
      have HPB : Hid (∀ W u, Below X.heap.size X W → Gs W u A → Calls Tryd.prog 26 #[.slice v1 v2 v3] W fun e w' => ∃ u', e = .returned u' ∧ Gs w' u A ∧ Gs w' u' A ∧ Below X.heap.size X w') := Lib.hid (fun W u hb hu => by
        have := pleaves_any _ l (.slice v1 v2 v3) W (TK hvX hb) (fun b q => q) (by omega)
        exact this.mono (fun e w' ⟨u', e1, e2, e3⟩ => ⟨u', e1, hu.below e3, by rw [hA] at e2; exact e2, BT hb e3⟩))
      have HPS : Hid (∀ W u u', Below X.heap.size X W → Gs W u A → Gs W u' A → Calls Tryd.prog 25 #[u, u'] W fun e w' => e = .returned (.bool true) ∧ Below X.heap.size X w') := Lib.hid (fun W u u' hb hu hu' =>
        (rsameg_any A A u u' W hu hu' (by omega) (by omega)).mono (fun e w' ⟨e1, e2⟩ => ⟨by rw [e1]; simp, BT hb e2⟩))
      have HPK : Hid (∀ W, Below X.heap.size X W → Calls Tryd.prog 10 #[] W fun e w' => e = .returned (.bool true) ∧ Below X.heap.size X w') := Lib.hid (fun W hb => (pknown_any W (hU.below (bwX.trans (hb.mono bwX.size)))).mono fun e w' ⟨e1, e2⟩ => ⟨e1, BT hb e2⟩)
      have BWX := Lib.hid bwX
      have HX : Hid (Below X.heap.size X X.drew) := Lib.hid (Below.refl _ X).drew
      have HXW := Lib.hid hX
      clear hX bX b2X bwX kT kM hsX hvX TK BT hA n1 n2 HT HV HK b3 hs3 HTD HK2 HK3 y0 y1 y2 y3 y4 HLV
      try go_upto_region 4 with fail
      rw [← HXW.out]
      clear HXW
      refine wp_region_held_drew (S := (fun W' => W'.cell? ⟨w3.heap.size, 4, none⟩ = some (.slice s1 s2 s3) ∧ W'.cell? ⟨w.heap.size, 4, none⟩ = some (.slice v1 v2 v3))) (by kernel_rfl) ?_ (fun hHeld => ?_)
      · exact HSC.out _ HX.out
      refine wpAnyH_take (i := 0) (v := .pointer (some ⟨w3.heap.size, 4, none⟩)) rfl (by kernel_rfl) (by kernel_rfl) (by kernel_rfl) (fun _ _ _ h => h) (Or.inl ⟨by rfl, fun w' hSw => by (try dsimp only at hSw); go_simp⟩) (by assumption) ?_
      simp only [List.getElem_toArray, List.getElem_cons_succ, List.getElem_cons_zero, Act.put, List.setIfInBounds_toArray, List.set_cons_zero, List.set_cons_succ]
      refine wpAnyH_take (i := 1) (v := .slice s1 s2 s3) rfl (by kernel_rfl) (by kernel_rfl) (by kernel_rfl) (fun _ _ _ h => h) (Or.inl ⟨by rfl, fun w' hSw => by (try dsimp only at hSw); go_simp⟩) (by assumption) ?_
      simp only [List.getElem_toArray, List.getElem_cons_succ, List.getElem_cons_zero, Act.put, List.setIfInBounds_toArray, List.set_cons_zero, List.set_cons_succ]
      refine wpAnyH_take (i := 3) (v := .pointer (some ⟨w.heap.size, 4, none⟩)) rfl (by kernel_rfl) (by kernel_rfl) (by kernel_rfl) (fun _ _ _ h => h) (Or.inl ⟨by rfl, fun w' hSw => by (try dsimp only at hSw); go_simp⟩) (by assumption) ?_
      simp only [List.getElem_toArray, List.getElem_cons_succ, List.getElem_cons_zero, Act.put, List.setIfInBounds_toArray, List.set_cons_zero, List.set_cons_succ]
      refine wpAnyH_take (i := 4) (v := .slice v1 v2 v3) rfl (by kernel_rfl) (by kernel_rfl) (by kernel_rfl) (fun _ _ _ h => h) (Or.inl ⟨by rfl, fun w' hSw => by (try dsimp only at hSw); go_simp⟩) (by assumption) ?_
      simp only [List.getElem_toArray, List.getElem_cons_succ, List.getElem_cons_zero, Act.put, List.setIfInBounds_toArray, List.set_cons_zero, List.set_cons_succ]
      refine wpAnyH_ready (rs := [2]) (by kernel_rfl) (by simp) ?_
      refine AllReadyH.cons rfl (fun K hK => ?_) AllReadyH.nil
      try simp only [List.getElem_toArray, List.getElem_cons_succ, List.getElem_cons_zero]
      go_simp
      go_at_call 26
      refine (HPA.out _ HX.out).mono ?_
      rintro e w7 ⟨ua, rfl, ha, b7⟩
      clear HX
      have HX := Lib.hid b7
      have HA := Lib.hid ha
      clear b7 ha
      go_wp2_with fail
      refine hK.out _ _ ?_ (fun hHeld => ?_)
      · exact HSC.out _ HX.out
      clear hK K
      try simp only [List.getElem_toArray, List.getElem_cons_succ, List.getElem_cons_zero, Act.put, List.setIfInBounds_toArray, List.set_cons_zero, List.set_cons_succ]
      refine wpAnyH_ready (rs := [5]) (by kernel_rfl) (by simp) ?_
      refine AllReadyH.cons rfl (fun K hK => ?_) AllReadyH.nil
      try simp only [List.getElem_toArray, List.getElem_cons_succ, List.getElem_cons_zero]
      go_simp
      go_at_call 26
      refine (HPB.out _ ua HX.out HA.out).mono ?_
      rintro e w7 ⟨ub, rfl, ha, hb, b7⟩
      clear HX HA
      have HX := Lib.hid b7
      have HA := Lib.hid ha
      have HB := Lib.hid hb
      clear b7 ha hb
      go_wp2_with fail
      refine hK.out _ _ ?_ (fun hHeld => ?_)
      · exact HSC.out _ HX.out
      clear hK K
      try simp only [List.getElem_toArray, List.getElem_cons_succ, List.getElem_cons_zero, Act.put, List.setIfInBounds_toArray, List.set_cons_zero, List.set_cons_succ]
      refine wpAnyH_ready (rs := [6]) (by kernel_rfl) (by simp) ?_
      refine AllReadyH.cons rfl (fun K hK => ?_) AllReadyH.nil
      try simp only [List.getElem_toArray, List.getElem_cons_succ, List.getElem_cons_zero]
      go_simp
      go_at_call 25
      refine (HPS.out _ ua ub HX.out HA.out HB.out).mono ?_
      rintro e w7 ⟨rfl, b7⟩
      clear HX HA HB
      have HX := Lib.hid b7
      clear b7
      go_wp2_with fail
      refine hK.out _ _ ?_ (fun hHeld => ?_)
      · exact HSC.out _ HX.out
      clear hK K
      try simp only [List.getElem_toArray, List.getElem_cons_succ, List.getElem_cons_zero, Act.put, List.setIfInBounds_toArray, List.set_cons_zero, List.set_cons_succ]
      refine wpAnyH_take (i := 7) (v := .bool true) rfl (by kernel_rfl) (by kernel_rfl) (by kernel_rfl) (fun _ _ _ h => h) (Or.inl ⟨by rfl, fun w' hSw => by (try dsimp only at hSw); go_simp⟩) (by assumption) ?_
      simp only [List.getElem_toArray, List.getElem_cons_succ, List.getElem_cons_zero, Act.put, List.setIfInBounds_toArray, List.set_cons_zero, List.set_cons_succ]
      refine wpAnyH_ready (rs := [8]) (by kernel_rfl) (by simp) ?_
      refine AllReadyH.cons rfl (fun K hK => ?_) AllReadyH.nil
      try simp only [List.getElem_toArray, List.getElem_cons_succ, List.getElem_cons_zero]
      go_simp
      go_at_call 10
      refine (HPK.out _ HX.out).mono ?_
      rintro e w7 ⟨rfl, b7⟩
      clear HX
      have HX := Lib.hid b7
      clear b7
      go_wp2_with fail
      refine hK.out _ _ ?_ (fun hHeld => ?_)
      · exact HSC.out _ HX.out
      clear hK K
      try simp only [List.getElem_toArray, List.getElem_cons_succ, List.getElem_cons_zero, Act.put, List.setIfInBounds_toArray, List.set_cons_zero, List.set_cons_succ]
      refine wpAnyH_take (i := 9) (v := .bool true) rfl (by kernel_rfl) (by kernel_rfl) (by kernel_rfl) (fun _ _ _ h => h) (Or.inl ⟨by rfl, fun w' hSw => by (try dsimp only at hSw); go_simp⟩) (by assumption) ?_
      simp only [List.getElem_toArray, List.getElem_cons_succ, List.getElem_cons_zero, Act.put, List.setIfInBounds_toArray, List.set_cons_zero, List.set_cons_succ]
      refine wpAnyH_take (i := 10) (v := .bool true) rfl (by kernel_rfl) (by kernel_rfl) (by kernel_rfl) (fun _ _ _ h => h) (Or.inl ⟨by rfl, fun w' hSw => by (try dsimp only at hSw); go_simp⟩) (by assumption) ?_
      simp only [List.getElem_toArray, List.getElem_cons_succ, List.getElem_cons_zero, Act.put, List.setIfInBounds_toArray, List.set_cons_zero, List.set_cons_succ]
      refine wpAnyH_done (by kernel_rfl) ?_ _
      go_wp2_with fail
      go_ret
      exact ⟨rfl, BWX.out.trans (HX.out.mono BWX.out.size)⟩
end Go.Proofs.YtienjlbpaedbjaaDoor
