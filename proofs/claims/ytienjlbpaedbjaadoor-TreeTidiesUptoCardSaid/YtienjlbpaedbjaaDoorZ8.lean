/- The walk of TreeTidies. -/
import Derived.Test.YtienjlbpaedbjaaDoorZ6
import Derived.Test.YtienjlbpaedbjaaDoorZ7
import Derived.Test.YtienjlbpaedbjaaDoorDo
namespace Go.Proofs.YtienjlbpaedbjaaDoor
open Go.RowKit

set_option maxRecDepth 100000 in
set_option maxHeartbeats 2000000 in
theorem treetidies_any (m : Nm) (l : List Nd) (v : Value) (w : World) (hU : U8 w) (hv : NsS (fun b => b < w.heap.size) w v l) (hl : nlL l ≤ 4000000) :
    Calls Tryd.prog 3 #[docV m v] w fun e w' => e = .returned (.bool true) ∧ Below w.heap.size w w' := by
  have HK : Hid (∀ W, Below w.heap.size w W → Calls Tryd.prog 10 #[] W fun e w' => e = .returned (.bool true) ∧ Below w.heap.size w w') :=
    Lib.hid (fun W hb => (pknown_any W (hU.below hb)).mono fun e w' ⟨e1, e2⟩ => ⟨e1, hb.trans (e2.mono hb.size)⟩)
  obtain ⟨W0, hW0⟩ : ∃ W, W = w.alloc (.cells (docL m v).toArray 24) := ⟨_, rfl⟩
  have b0 : Below w.heap.size w W0 := by rw [hW0]; exact below_lit w _
  have k0 : Blk W0 w.heap.size 24 (docL m v) := by rw [hW0]; exact heap_alloc_new w _
  have HLG := Lib.hid (plong_any _ l v W0 (by omega) (below_ns hv b0 (fun b q => q)))
  have hbg : longB l = false → nlL l ≤ 600 := fun h => (longB_false h).1
  obtain ⟨T, hT⟩ : ∃ T, tidyL l = T := ⟨_, rfl⟩
  have hts : nlL T ≤ 24 * nlL l := hT ▸ tidy_size l
  have htc : checkL T = 0 := hT ▸ check_tidy l
  have hti : tidyL T = T := by rw [← hT, tidy_idem]
  have htf : cntL T ≤ cntL l ∧ dpL T ≤ dpL l := hT ▸ tidy_few l
  have hto : checkL l = 0 → T = l := fun h => hT ▸ tidy_of h
  obtain ⟨xg, hxg⟩ : ∃ x, longB l = x := ⟨_, rfl⟩
  rw [hxg] at HLG hbg
  have HV := Lib.hid hv
  obtain ⟨v1, v3, rfl⟩ := hv.len
  obtain ⟨v2, hv2⟩ : ∃ n, l.length = n := ⟨_, rfl⟩
  rw [hv2] at HV HLG hW0 k0 ⊢
  have HW0 : Hid (W0 = w.alloc (.cells #[.string ⟨m.a.toArray⟩, .string ⟨m.b.toArray⟩, .string ⟨m.c.toArray⟩, .string ⟨m.d.toArray⟩, .slice v1 v2 v3] 24)) := Lib.hid hW0
  have B0 := Lib.hid b0
  have HB0 := Lib.hid k0
  have HT := Lib.hid hT
  have HTS := Lib.hid hts
  have HTC := Lib.hid htc
  have HTI := Lib.hid hti
  have HTF := Lib.hid htf
  have HTO := Lib.hid hto
  have HBG := Lib.hid hbg
  have u4 : W0.cell? ⟨w.heap.size, 4, none⟩ = some (.slice v1 v2 v3) := k0.cell 4
  clear hxg hv hl hW0 hT hts htc hti htf hto hbg k0 b0 hv2
  unfold docV docL
  go_enter Tryd.func3, Tryd.ntmps3
  go_upto_region 1 with fail
  rw [← HW0.out]
  go_wp2_with fail
  refine HLG.out.mono ?_
  rintro e w2 ⟨rfl, m2, hw2⟩
  have B2 : Hid (Below W0.heap.size W0 w2) := Lib.hid (by rw [hw2]; exact below_drewN (Below.refl _ _) m2)
  have BW2 : Hid (Below w.heap.size w w2) := Lib.hid (B0.out.trans (B2.out.mono B0.out.size))
  clear hw2 HLG HW0 u4
  cases xg with
  | true =>
    go_wp2_with fail
    refine (HK.out _ BW2.out).mono ?_
    rintro e w9 ⟨rfl, b9⟩
    have B9 := Lib.hid b9
    clear b9
    go_wp2_with fail
    go_ret
    exact ⟨rfl, B9.out⟩
  | false =>
    have l1 := HBG.out (by first | trivial | rfl)
    have l2 := HTS.out
    have k2 : Blk w2 w.heap.size 24 (docL m (.slice v1 v2 v3)) := HB0.out.below B2.out
    have HSC : Hid (∀ W, Below w2.heap.size w2 W → W.cell? ⟨w.heap.size, 0, none⟩ = some (.string ⟨m.a.toArray⟩) ∧ W.cell? ⟨w.heap.size, 1, none⟩ = some (.string ⟨m.b.toArray⟩) ∧ W.cell? ⟨w.heap.size, 2, none⟩ = some (.string ⟨m.c.toArray⟩) ∧ W.cell? ⟨w.heap.size, 3, none⟩ = some (.string ⟨m.d.toArray⟩) ∧ W.cell? ⟨w.heap.size, 4, none⟩ = some (.slice v1 v2 v3)) := Lib.hid (fun W hb => ⟨(k2.below hb).cell 0, (k2.below hb).cell 1, (k2.below hb).cell 2, (k2.below hb).cell 3, (k2.below hb).cell 4⟩)
    have bwX := BW2.out
    have hvX : NsS (fun b => b < w2.heap.size) w2 (.slice v1 v2 v3) l := (HV.out.keep (Kp.below bwX (fun b q => q))).mono (fun b q => Nat.lt_of_lt_of_le q bwX.size)
    have TK : ∀ {W : World} {v : Value} {l : List Nd}, NsS (fun b => b < w2.heap.size) w2 v l → Below w2.heap.size w2 W → NsS (fun b => b < W.heap.size) W v l := fun h hb => (h.keep (Kp.below hb (fun b q => q))).mono (fun b q => Nat.lt_of_lt_of_le q hb.size)
    have BT : ∀ {W W' : World}, Below w2.heap.size w2 W → Below W.heap.size W W' → Below w2.heap.size w2 W' := fun h k => h.trans (k.mono h.size)
    have HP12 : Hid (∀ W, Below w2.heap.size w2 W → Calls Tryd.prog 12 #[.agg #[.string ⟨m.a.toArray⟩, .string ⟨m.b.toArray⟩, .string ⟨m.c.toArray⟩, .string ⟨m.d.toArray⟩, .slice v1 v2 v3]] W fun e w' => ∃ q1 q2 q3, e = .returned (.agg #[.string ⟨m.a.toArray⟩, .string ⟨m.b.toArray⟩, .string ⟨m.c.toArray⟩, .string ⟨m.d.toArray⟩, .slice q1 q2 q3]) ∧ Below w2.heap.size w2 w' ∧ NsS (fun b => b < w'.heap.size) w' (.slice q1 q2 q3) T) := Lib.hid (fun W hb => by
      have := ptidy_any _ m l (.slice v1 v2 v3) W (hU.below (bwX.trans (hb.mono bwX.size))) (by omega) (TK hvX hb) (fun b q => q)
      rw [HT.out] at this
      exact this.mono (fun e w' ⟨q, e1, e2, e3⟩ => ⟨q.1, q.2.1, q.2.2, e1, BT hb e3, e2.mono (fun b h => h.2)⟩))
    have HP13 : Hid (∀ W q1 q2 q3, Below w2.heap.size w2 W → NsS (fun b => b < W.heap.size) W (.slice q1 q2 q3) T → Calls Tryd.prog 13 #[.agg #[.string ⟨m.a.toArray⟩, .string ⟨m.b.toArray⟩, .string ⟨m.c.toArray⟩, .string ⟨m.d.toArray⟩, .slice v1 v2 v3]] W fun e w' => ∃ r1 r2 r3, e = .returned (.agg #[.string ⟨m.a.toArray⟩, .string ⟨m.b.toArray⟩, .string ⟨m.c.toArray⟩, .string ⟨m.d.toArray⟩, .slice r1 r2 r3]) ∧ Below w2.heap.size w2 w' ∧ NsS (fun b => b < w'.heap.size) w' (.slice q1 q2 q3) T ∧ NsS (fun b => b < w'.heap.size) w' (.slice r1 r2 r3) T) := Lib.hid (fun W q1 q2 q3 hb hq => by
      have := rTidy_any _ m l (.slice v1 v2 v3) W (by omega) (TK hvX hb) (fun b q => q)
      rw [HT.out] at this
      exact this.mono (fun e w' ⟨q, e1, e2, e3⟩ => ⟨q.1, q.2.1, q.2.2, e1, BT hb e3, (hq.keep (Kp.below e3 (fun b q => q))).mono (fun b q => Nat.lt_of_lt_of_le q e3.size), e2.mono (fun b h => by rcases h with h | h <;> have := e3.size <;> omega)⟩))
    have HP11 : Hid (∀ W q1 q2 q3 r1 r2 r3, Below w2.heap.size w2 W → NsS (fun b => b < W.heap.size) W (.slice q1 q2 q3) T → NsS (fun b => b < W.heap.size) W (.slice r1 r2 r3) T → Calls Tryd.prog 11 #[.agg #[.string ⟨m.a.toArray⟩, .string ⟨m.b.toArray⟩, .string ⟨m.c.toArray⟩, .string ⟨m.d.toArray⟩, .slice q1 q2 q3], .agg #[.string ⟨m.a.toArray⟩, .string ⟨m.b.toArray⟩, .string ⟨m.c.toArray⟩, .string ⟨m.d.toArray⟩, .slice r1 r2 r3]] W fun e w' => e = .returned (.bool true) ∧ Below w2.heap.size w2 w') := Lib.hid (fun W q1 q2 q3 r1 r2 r3 hb hq hr =>
      (rsamedoc_any _ _ m T T (.slice q1 q2 q3) (.slice r1 r2 r3) W (by omega) (by omega) hq hr (fun b q => q) (fun b q => q)).mono (fun e w' ⟨e1, e2⟩ => ⟨by rw [e1, eqNs_true rfl], BT hb e2⟩))
    have HP14 : Hid (∀ W, Below w2.heap.size w2 W → Calls Tryd.prog 14 #[.agg #[.string ⟨m.a.toArray⟩, .string ⟨m.b.toArray⟩, .string ⟨m.c.toArray⟩, .string ⟨m.d.toArray⟩, .slice v1 v2 v3]] W fun e w' => e = .returned (.int .i64 (checkL l)) ∧ Below w2.heap.size w2 w') := Lib.hid (fun W hb =>
      (pcheck_any _ m l (.slice v1 v2 v3) W (by omega) (TK hvX hb) (fun b q => q)).mono (fun e w' ⟨e1, e2⟩ => ⟨e1, BT hb e2⟩))
    have HP15 : Hid (∀ W, Below w2.heap.size w2 W → Calls Tryd.prog 15 #[.agg #[.string ⟨m.a.toArray⟩, .string ⟨m.b.toArray⟩, .string ⟨m.c.toArray⟩, .string ⟨m.d.toArray⟩, .slice v1 v2 v3]] W fun e w' => e = .returned (.int .i64 (checkL l)) ∧ Below w2.heap.size w2 w') := Lib.hid (fun W hb =>
      (rcheck_any _ m l (.slice v1 v2 v3) W (by omega) (TK hvX hb) (fun b q => q)).mono (fun e w' ⟨e1, e2⟩ => ⟨e1, BT hb e2⟩))
    have HP10 : Hid (∀ W, Below w2.heap.size w2 W → Calls Tryd.prog 10 #[] W fun e w' => e = .returned (.bool true) ∧ Below w2.heap.size w2 w') := Lib.hid (fun W hb => (pknown_any W (hU.below (bwX.trans (hb.mono bwX.size)))).mono fun e w' ⟨e1, e2⟩ => ⟨e1, BT hb e2⟩)
    obtain ⟨kL, hkL⟩ : ∃ c, checkL l = c := ⟨_, rfl⟩
    rw [hkL] at HP14 HP15
    have ee : (kL == kL) = true := beq_self_eq_true kL
    have HX : Hid (Below w2.heap.size w2 w2.drew) := Lib.hid (Below.refl _ w2).drew
    clear hkL bwX hvX TK BT l1 l2 HTF HTO HTI HTC HT HV HK k2 HBG HTS HB0
    go_upto_region 3 with fail
    refine wp_region_held_drew (S := (fun W' => W'.cell? ⟨w.heap.size, 0, none⟩ = some (.string ⟨m.a.toArray⟩) ∧ W'.cell? ⟨w.heap.size, 1, none⟩ = some (.string ⟨m.b.toArray⟩) ∧ W'.cell? ⟨w.heap.size, 2, none⟩ = some (.string ⟨m.c.toArray⟩) ∧ W'.cell? ⟨w.heap.size, 3, none⟩ = some (.string ⟨m.d.toArray⟩) ∧ W'.cell? ⟨w.heap.size, 4, none⟩ = some (.slice v1 v2 v3))) (by kernel_rfl) ?_ (fun hHeld => ?_)
    · exact HSC.out _ HX.out
    refine wpAnyH_take (i := 0) (v := .agg #[.string ⟨m.a.toArray⟩, .string ⟨m.b.toArray⟩, .string ⟨m.c.toArray⟩, .string ⟨m.d.toArray⟩, .slice v1 v2 v3]) rfl (by kernel_rfl) (by kernel_rfl) (by kernel_rfl) (fun _ _ _ h => h) (Or.inl ⟨by rfl, fun w' hSw => by (try dsimp only at hSw); go_simp⟩) (by assumption) ?_
    simp only [List.getElem_toArray, List.getElem_cons_succ, List.getElem_cons_zero, Act.put, List.setIfInBounds_toArray, List.set_cons_zero, List.set_cons_succ]
    refine wpAnyH_take (i := 2) (v := .agg #[.string ⟨m.a.toArray⟩, .string ⟨m.b.toArray⟩, .string ⟨m.c.toArray⟩, .string ⟨m.d.toArray⟩, .slice v1 v2 v3]) rfl (by kernel_rfl) (by kernel_rfl) (by kernel_rfl) (fun _ _ _ h => h) (Or.inl ⟨by rfl, fun w' hSw => by (try dsimp only at hSw); go_simp⟩) (by assumption) ?_
    simp only [List.getElem_toArray, List.getElem_cons_succ, List.getElem_cons_zero, Act.put, List.setIfInBounds_toArray, List.set_cons_zero, List.set_cons_succ]
    refine wpAnyH_ready (rs := [1]) (by kernel_rfl) (by simp) ?_
    refine AllReadyH.cons rfl (fun K hK => ?_) AllReadyH.nil
    try simp only [List.getElem_toArray, List.getElem_cons_succ, List.getElem_cons_zero]
    go_simp
    go_at_call 12
    refine (HP12.out _ HX.out).mono ?_
    rintro e w7 ⟨q1, q2, q3, rfl, b7, hq⟩
    clear HX
    have HX := Lib.hid b7
    have HQ := Lib.hid hq
    clear b7 hq
    go_wp2_with fail
    refine hK.out _ _ ?_ (fun hHeld => ?_)
    · exact HSC.out _ HX.out
    clear hK K
    try simp only [List.getElem_toArray, List.getElem_cons_succ, List.getElem_cons_zero, Act.put, List.setIfInBounds_toArray, List.set_cons_zero, List.set_cons_succ]
    refine wpAnyH_ready (rs := [3]) (by kernel_rfl) (by simp) ?_
    refine AllReadyH.cons rfl (fun K hK => ?_) AllReadyH.nil
    try simp only [List.getElem_toArray, List.getElem_cons_succ, List.getElem_cons_zero]
    go_simp
    go_at_call 13
    refine (HP13.out _ _ _ _ HX.out HQ.out).mono ?_
    rintro e w7 ⟨r1, r2, r3, rfl, b7, hq, hr⟩
    clear HX HQ
    have HX := Lib.hid b7
    have HQ := Lib.hid hq
    have HR := Lib.hid hr
    clear b7 hq hr
    go_wp2_with fail
    refine hK.out _ _ ?_ (fun hHeld => ?_)
    · exact HSC.out _ HX.out
    clear hK K
    try simp only [List.getElem_toArray, List.getElem_cons_succ, List.getElem_cons_zero, Act.put, List.setIfInBounds_toArray, List.set_cons_zero, List.set_cons_succ]
    refine wpAnyH_ready (rs := [4]) (by kernel_rfl) (by simp) ?_
    refine AllReadyH.cons rfl (fun K hK => ?_) AllReadyH.nil
    try simp only [List.getElem_toArray, List.getElem_cons_succ, List.getElem_cons_zero]
    go_simp
    go_at_call 11
    refine (HP11.out _ _ _ _ _ _ _ HX.out HQ.out HR.out).mono ?_
    rintro e w7 ⟨rfl, b7⟩
    clear HX HQ HR
    have HX := Lib.hid b7
    clear b7
    go_wp2_with fail
    refine hK.out _ _ ?_ (fun hHeld => ?_)
    · exact HSC.out _ HX.out
    clear hK K
    try simp only [List.getElem_toArray, List.getElem_cons_succ, List.getElem_cons_zero, Act.put, List.setIfInBounds_toArray, List.set_cons_zero, List.set_cons_succ]
    refine wpAnyH_take (i := 5) (v := .bool true) rfl (by kernel_rfl) (by kernel_rfl) (by kernel_rfl) (fun _ _ _ h => h) (Or.inl ⟨by rfl, fun w' hSw => by (try dsimp only at hSw); go_simp⟩) (by assumption) ?_
    simp only [List.getElem_toArray, List.getElem_cons_succ, List.getElem_cons_zero, Act.put, List.setIfInBounds_toArray, List.set_cons_zero, List.set_cons_succ]
    refine wpAnyH_take (i := 6) (v := .agg #[.string ⟨m.a.toArray⟩, .string ⟨m.b.toArray⟩, .string ⟨m.c.toArray⟩, .string ⟨m.d.toArray⟩, .slice v1 v2 v3]) rfl (by kernel_rfl) (by kernel_rfl) (by kernel_rfl) (fun _ _ _ h => h) (Or.inl ⟨by rfl, fun w' hSw => by (try dsimp only at hSw); go_simp⟩) (by assumption) ?_
    simp only [List.getElem_toArray, List.getElem_cons_succ, List.getElem_cons_zero, Act.put, List.setIfInBounds_toArray, List.set_cons_zero, List.set_cons_succ]
    refine wpAnyH_take (i := 8) (v := .agg #[.string ⟨m.a.toArray⟩, .string ⟨m.b.toArray⟩, .string ⟨m.c.toArray⟩, .string ⟨m.d.toArray⟩, .slice v1 v2 v3]) rfl (by kernel_rfl) (by kernel_rfl) (by kernel_rfl) (fun _ _ _ h => h) (Or.inl ⟨by rfl, fun w' hSw => by (try dsimp only at hSw); go_simp⟩) (by assumption) ?_
    simp only [List.getElem_toArray, List.getElem_cons_succ, List.getElem_cons_zero, Act.put, List.setIfInBounds_toArray, List.set_cons_zero, List.set_cons_succ]
    refine wpAnyH_ready (rs := [7]) (by kernel_rfl) (by simp) ?_
    refine AllReadyH.cons rfl (fun K hK => ?_) AllReadyH.nil
    try simp only [List.getElem_toArray, List.getElem_cons_succ, List.getElem_cons_zero]
    go_simp
    go_at_call 14
    refine (HP14.out _ HX.out).mono ?_
    rintro e w7 ⟨rfl, b7⟩
    clear HX
    have HX := Lib.hid b7
    clear b7
    go_wp2_with fail
    refine hK.out _ _ ?_ (fun hHeld => ?_)
    · exact HSC.out _ HX.out
    clear hK K
    try simp only [List.getElem_toArray, List.getElem_cons_succ, List.getElem_cons_zero, Act.put, List.setIfInBounds_toArray, List.set_cons_zero, List.set_cons_succ]
    refine wpAnyH_ready (rs := [9]) (by kernel_rfl) (by simp) ?_
    refine AllReadyH.cons rfl (fun K hK => ?_) AllReadyH.nil
    try simp only [List.getElem_toArray, List.getElem_cons_succ, List.getElem_cons_zero]
    go_simp
    go_at_call 15
    refine (HP15.out _ HX.out).mono ?_
    rintro e w7 ⟨rfl, b7⟩
    clear HX
    have HX := Lib.hid b7
    clear b7
    go_wp2_with fail
    refine hK.out _ _ ?_ (fun hHeld => ?_)
    · exact HSC.out _ HX.out
    clear hK K
    try simp only [List.getElem_toArray, List.getElem_cons_succ, List.getElem_cons_zero, Act.put, List.setIfInBounds_toArray, List.set_cons_zero, List.set_cons_succ]
    refine wpAnyH_take (i := 10) (v := .bool true) rfl (by kernel_rfl) (by kernel_rfl) (by kernel_rfl) (fun _ _ _ h => h) (Or.inl ⟨by rfl, fun w' hSw => by (try dsimp only at hSw); go_simp⟩) (by assumption) ?_
    simp only [List.getElem_toArray, List.getElem_cons_succ, List.getElem_cons_zero, Act.put, List.setIfInBounds_toArray, List.set_cons_zero, List.set_cons_succ]
    refine wpAnyH_take (i := 11) (v := .bool true) rfl (by kernel_rfl) (by kernel_rfl) (by kernel_rfl) (fun _ _ _ h => h) (Or.inl ⟨by rfl, fun w' hSw => by (try dsimp only at hSw); go_simp⟩) (by assumption) ?_
    simp only [List.getElem_toArray, List.getElem_cons_succ, List.getElem_cons_zero, Act.put, List.setIfInBounds_toArray, List.set_cons_zero, List.set_cons_succ]
    refine wpAnyH_take (i := 12) (v := .bool true) rfl (by kernel_rfl) (by kernel_rfl) (by kernel_rfl) (fun _ _ _ h => h) (Or.inl ⟨by rfl, fun w' hSw => by (try dsimp only at hSw); go_simp⟩) (by assumption) ?_
    simp only [List.getElem_toArray, List.getElem_cons_succ, List.getElem_cons_zero, Act.put, List.setIfInBounds_toArray, List.set_cons_zero, List.set_cons_succ]
    refine wpAnyH_ready (rs := [13]) (by kernel_rfl) (by simp) ?_
    refine AllReadyH.cons rfl (fun K hK => ?_) AllReadyH.nil
    try simp only [List.getElem_toArray, List.getElem_cons_succ, List.getElem_cons_zero]
    go_simp
    go_at_call 10
    refine (HP10.out _ HX.out).mono ?_
    rintro e w7 ⟨rfl, b7⟩
    clear HX
    have HX := Lib.hid b7
    clear b7
    go_wp2_with fail
    refine hK.out _ _ ?_ (fun hHeld => ?_)
    · exact HSC.out _ HX.out
    clear hK K
    try simp only [List.getElem_toArray, List.getElem_cons_succ, List.getElem_cons_zero, Act.put, List.setIfInBounds_toArray, List.set_cons_zero, List.set_cons_succ]
    refine wpAnyH_take (i := 14) (v := .bool true) rfl (by kernel_rfl) (by kernel_rfl) (by kernel_rfl) (fun _ _ _ h => h) (Or.inl ⟨by rfl, fun w' hSw => by (try dsimp only at hSw); go_simp⟩) (by assumption) ?_
    simp only [List.getElem_toArray, List.getElem_cons_succ, List.getElem_cons_zero, Act.put, List.setIfInBounds_toArray, List.set_cons_zero, List.set_cons_succ]
    refine wpAnyH_take (i := 15) (v := .bool true) rfl (by kernel_rfl) (by kernel_rfl) (by kernel_rfl) (fun _ _ _ h => h) (Or.inl ⟨by rfl, fun w' hSw => by (try dsimp only at hSw); go_simp⟩) (by assumption) ?_
    simp only [List.getElem_toArray, List.getElem_cons_succ, List.getElem_cons_zero, Act.put, List.setIfInBounds_toArray, List.set_cons_zero, List.set_cons_succ]
    refine wpAnyH_done (by kernel_rfl) ?_ _
    go_wp2_with fail
    go_ret
    exact ⟨rfl, BW2.out.trans (HX.out.mono BW2.out.size)⟩
end Go.Proofs.YtienjlbpaedbjaaDoor
