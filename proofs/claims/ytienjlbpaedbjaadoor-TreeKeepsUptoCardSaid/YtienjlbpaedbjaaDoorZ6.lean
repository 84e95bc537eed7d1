/- The walk of TreeStays. -/
import Derived.Test.YtienjlbpaedbjaaDoorZ2
import Derived.Test.YtienjlbpaedbjaaDoorZ5
import Derived.Test.YtienjlbpaedbjaaDoorD4
import Derived.Deep.RegionHeld3
namespace Go.Proofs.YtienjlbpaedbjaaDoor
open Go.RowKit

theorem mend_size2 (t : Tab) : trls (mend t).rows ≤ 21 * trls t.rows ∧ (mend t).cols.length ≤ 20 := by
  have h1 := trls_mrows (mcols t.cols).length t.rows
  have h2 := trls_len t.rows
  have h3 := (mcols_ok t.cols).2.1
  have h4 : (mcols t.cols).length * t.rows.length ≤ 20 * trls t.rows := Nat.mul_le_mul h3 h2
  refine ⟨?_, h3⟩
  show trls (t.rows.map (mrowT (mcols t.cols).length)) ≤ _
  omega
theorem hdl_own (h : Hd) (k : Int) : hdl (ownH h k) ≤ 24 * hdl h := by
  have da : hdl h = 3 + h.text.length + h.grid.cols.length + (h.rows.length + lens h.rows) + trls h.grid.rows := rfl
  have db : hdl (ownH h k) = 3 + (ownH h k).text.length + (ownH h k).grid.cols.length + ((ownH h k).rows.length + lens (ownH h k).rows) + trls (ownH h k).grid.rows := rfl
  have h1 : (ownH h k).text.length ≤ h.text.length := by
    unfold ownH
    simp only
    split
    · exact sqz_len _
    · simp
  have h2 : (ownH h k).rows.length + lens (ownH h k).rows ≤ h.rows.length + lens h.rows := by
    unfold ownH
    simp only
    split
    · exact Nat.le_refl _
    · simp [lens]
  have h3 : (ownH h k).grid.cols.length ≤ 20 ∧ trls (ownH h k).grid.rows ≤ 21 * trls h.grid.rows := by
    unfold ownH
    simp only
    split
    · exact ⟨(mend_size2 _).2, (mend_size2 _).1⟩
    · simp [noGrid, trls]
  omega
mutual
theorem tdN_size : ∀ (x : Nd) (w : Int) (d n : Nat), nlL (tdN x w d n).1 ≤ 24 * nlN x
  | .mk h ks, w, d, n => by
    rw [tdN_mk]
    have ho := hdl_own h (kindAt h.kind w)
    split
    · have i1 := tdL_size ks (kindAt h.kind w) (d + 1) n
      simp only
      split
      · simp only [nlL, nlN]; omega
      · simp only [nlL, nlN]; omega
    · simp only
      rw [nlL_app]
      have h1 : nlL (if fullB (ownH h (kindAt h.kind w)) false = true then [Nd.mk (ownH h (kindAt h.kind w)) []] else []) ≤ hdl (ownH h (kindAt h.kind w)) := by
        split <;> simp [nlL, nlN]
      by_cases hm : mayK h.kind = true
      · rw [if_pos hm]
        have i1 := tdL_size ks w d n
        simp only [nlN]
        omega
      · rw [if_neg hm]
        simp only [nlL, nlN]; omega
theorem tdL_size : ∀ (l : List Nd) (w : Int) (d n : Nat), nlL (tdL l w d n).1 ≤ 24 * nlL l
  | [], w, d, n => by rw [tdL_nil]; simp [nlL]
  | x :: l, w, d, n => by
    rw [tdL_cons]
    split
    · simp [nlL]
    · simp only
      rw [nlL_app]
      have h1 := tdN_size x w d (n - 1)
      have h3 := tdL_size l w d (tdN x w d (n - 1)).2
      simp only [nlL]
      omega
end
theorem tidy_size (l : List Nd) : nlL (tidyL l) ≤ 24 * nlL l := tdL_size l 0 0 20000
set_option maxRecDepth 100000 in
set_option maxHeartbeats 2000000 in
theorem treestays_any (m : Nm) (l : List Nd) (v : Value) (w : World) (hU : U8 w) (hv : NsS (fun b => b < w.heap.size) w v l) (hl : nlL l ≤ 4000000) :
    Calls Tryd.prog 5 #[docV m v] w fun e w' => e = .returned (.bool true) ∧ Below w.heap.size w w' := by
  have HK : Hid (∀ W, Below w.heap.size w W → Calls Tryd.prog 10 #[] W fun e w' => e = .returned (.bool true) ∧ Below w.heap.size w w') :=
    Lib.hid (fun W hb => (pknown_any W (hU.below hb)).mono fun e w' ⟨e1, e2⟩ => ⟨e1, hb.trans (e2.mono hb.size)⟩)
  obtain ⟨W0, hW0⟩ : ∃ W, W = w.alloc (.cells (docL m v).toArray 24) := ⟨_, rfl⟩
  have b0 : Below w.heap.size w W0 := by rw [hW0]; exact below_lit w _
  have k0 : Blk W0 w.heap.size 24 (docL m v) := by rw [hW0]; exact heap_alloc_new w _
  have HLG := Lib.hid (plong_any _ l v W0 (by omega) (below_ns hv b0 (fun b q => q)))
  have hbg : longB l = false → nlL l ≤ 600 := fun h => (longB_false h).1
  obtain ⟨T, hT⟩ : ∃ T, tidyL l = T := ⟨_, rfl⟩
  have hts : nlL T ≤ 24 * nlL l := hT ▸ tidy_size l
  have htc : checkL T = 0 := hT ▸ check_tidy l
  have hti : tidyL T = T := by rw [← hT, tidy_idem]
  have htf : cntL T ≤ cntL l ∧ dpL T ≤ dpL l := hT ▸ tidy_few l
  have hto : checkL l = 0 → T = l := fun h => hT ▸ tidy_of h
  obtain ⟨xg, hxg⟩ : ∃ x, longB l = x := ⟨_, rfl⟩
  rw [hxg] at HLG hbg
  have HV := Lib.hid hv
  obtain ⟨v1, v3, rfl⟩ := hv.len
  obtain ⟨v2, hv2⟩ : ∃ n, l.length = n := ⟨_, rfl⟩
  rw [hv2] at HV HLG hW0 k0 ⊢
  have HW0 : Hid (W0 = w.alloc (.cells #[.string ⟨m.a.toArray⟩, .string ⟨m.b.toArray⟩, .string ⟨m.c.toArray⟩, .string ⟨m.d.toArray⟩, .slice v1 v2 v3] 24)) := Lib.hid hW0
  have B0 := Lib.hid b0
  have HB0 := Lib.hid k0
  have HT := Lib.hid hT
  have HTS := Lib.hid hts
  have HTC := Lib.hid htc
  have HTI := Lib.hid hti
  have HTF := Lib.hid htf
  have HTO := Lib.hid hto
  have HBG := Lib.hid hbg
  have u4 : W0.cell? ⟨w.heap.size, 4, none⟩ = some (.slice v1 v2 v3) := k0.cell 4
  clear hxg hv hl hW0 hT hts htc hti htf hto hbg k0 b0 hv2
  unfold docV docL
  go_enter Tryd.func5, Tryd.ntmps5
  go_upto_region 1 with fail
  rw [← HW0.out]
  go_wp2_with fail
  refine HLG.out.mono ?_
  rintro e w2 ⟨rfl, m2, hw2⟩
  have B2 : Hid (Below W0.heap.size W0 w2) := Lib.hid (by rw [hw2]; exact below_drewN (Below.refl _ _) m2)
  have BW2 : Hid (Below w.heap.size w w2) := Lib.hid (B0.out.trans (B2.out.mono B0.out.size))
  clear hw2 HLG HW0 u4
  cases xg with
  | true =>
    go_wp2_with fail
    refine (HK.out _ BW2.out).mono ?_
    rintro e w9 ⟨rfl, b9⟩
    have B9 := Lib.hid b9
    clear b9
    go_wp2_with fail
    go_ret
    exact ⟨rfl, B9.out⟩
  | false =>
    have l1 := HBG.out (by first | trivial | rfl)
    have l2 := HTS.out
    have k2 : Blk w2 w.heap.size 24 (docL m (.slice v1 v2 v3)) := HB0.out.below B2.out
    have k2' := Lib.hid k2
    have y0 : w2.cell? ⟨w.heap.size, 0, none⟩ = some (.string ⟨m.a.toArray⟩) := k2.cell 0
    have y1 : w2.cell? ⟨w.heap.size, 1, none⟩ = some (.string ⟨m.b.toArray⟩) := k2.cell 1
    have y2 : w2.cell? ⟨w.heap.size, 2, none⟩ = some (.string ⟨m.c.toArray⟩) := k2.cell 2
    have y3 : w2.cell? ⟨w.heap.size, 3, none⟩ = some (.string ⟨m.d.toArray⟩) := k2.cell 3
    have y4 : w2.cell? ⟨w.heap.size, 4, none⟩ = some (.slice v1 v2 v3) := k2.cell 4
    have HTD := Lib.hid (ptidy_any _ m l (.slice v1 v2 v3) w2 (hU.below BW2.out) (by omega) (HV.out.keep (Kp.below BW2.out (fun b q => q))) (fun b q => Nat.lt_of_lt_of_le q BW2.out.size))
    rw [HT.out] at HTD
    unfold docV docL at HTD
    unfold TidyP docV docL at HTD
    clear k2 HBG HTS HB0
    go_upto_region 3 with fail
    go_upto_region 4 with fail
    refine HTD.out.mono ?_
    rintro e w3 ⟨⟨s1, s2, s3⟩, rfl, hs3, b3⟩
    simp only [pv]
    obtain ⟨X, hX⟩ : ∃ X, X = w3.alloc (.cells #[.string ⟨m.a.toArray⟩, .string ⟨m.b.toArray⟩, .string ⟨m.c.toArray⟩, .string ⟨m.d.toArray⟩, .slice s1 s2 s3] 24) := ⟨_, rfl⟩
    have bX : Below w3.heap.size w3 X := by rw [hX]; exact below_lit _ _
    have b2X : Below w2.heap.size w2 X := b3.trans (bX.mono b3.size)
    have bwX : Below w.heap.size w X := BW2.out.trans (b2X.mono BW2.out.size)
    have kT : Blk X w.heap.size 24 (docL m (.slice v1 v2 v3)) := k2'.out.below b2X
    have kM : Blk X w3.heap.size 24 (docL m (.slice s1 s2 s3)) := by rw [hX]; exact heap_alloc_new w3 _
    have hsX : NsS (fun b => b < X.heap.size) X (.slice s1 s2 s3) T := (hs3.keep (Kp.below bX (fun b q => q.2))).mono (fun b q => Nat.lt_of_lt_of_le q.2 bX.size)
    have hvX : NsS (fun b => b < X.heap.size) X (.slice v1 v2 v3) l := (HV.out.keep (Kp.below bwX (fun b q => q))).mono (fun b q => Nat.lt_of_lt_of_le q bwX.size)
    have TK : ∀ {W : World} {v : Value} {l : List Nd}, NsS (fun b => b < X.heap.size) X v l → Below X.heap.size X W → NsS (fun b => b < W.heap.size) W v l := fun h hb => (h.keep (Kp.below hb (fun b q => q))).mono (fun b q => Nat.lt_of_lt_of_le q hb.size)
    have BT : ∀ {W W' : World}, Below X.heap.size X W → Below W.heap.size W W' → Below X.heap.size X W' := fun h k => h.trans (k.mono h.size)
    have HSC : Hid (∀ W, Below X.heap.size X W → W.cell? ⟨w.heap.size, 0, none⟩ = some (.string ⟨m.a.toArray⟩) ∧ W.cell? ⟨w.heap.size, 1, none⟩ = some (.string ⟨m.b.toArray⟩) ∧ W.cell? ⟨w.heap.size, 2, none⟩ = some (.string ⟨m.c.toArray⟩) ∧ W.cell? ⟨w.heap.size, 3, none⟩ = some (.string ⟨m.d.toArray⟩) ∧ W.cell? ⟨w.heap.size, 4, none⟩ = some (.slice v1 v2 v3) ∧ W.cell? ⟨w3.heap.size, 0, none⟩ = some (.string ⟨m.a.toArray⟩) ∧ W.cell? ⟨w3.heap.size, 1, none⟩ = some (.string ⟨m.b.toArray⟩) ∧ W.cell? ⟨w3.heap.size, 2, none⟩ = some (.string ⟨m.c.toArray⟩) ∧ W.cell? ⟨w3.heap.size, 3, none⟩ = some (.string ⟨m.d.toArray⟩) ∧ W.cell? ⟨w3.heap.size, 4, none⟩ = some (.slice s1 s2 s3)) := Lib.hid (fun W hb => ⟨(kT.below hb).cell 0, (kT.below hb).cell 1, (kT.below hb).cell 2, (kT.below hb).cell 3, (kT.below hb).cell 4, (kM.below hb).cell 0, (kM.below hb).cell 1, (kM.below hb).cell 2, (kM.below hb).cell 3, (kM.below hb).cell 4⟩)
    have c1 := cnt_nlL T
    have c2 := cnt_nlL l
    have HP14 : Hid (∀ W, Below X.heap.size X W → Calls Tryd.prog 14 #[.agg #[.string ⟨m.a.toArray⟩, .string ⟨m.b.toArray⟩, .string ⟨m.c.toArray⟩, .string ⟨m.d.toArray⟩, .slice s1 s2 s3]] W fun e w' => e = .returned (.int .i64 0) ∧ Below X.heap.size X w') := Lib.hid (fun W hb => by
      have := pcheck_any _ m T (.slice s1 s2 s3) W (by omega) (TK hsX hb) (fun b q => q)
      rw [HTC.out] at this
      exact this.mono (fun e w' ⟨e1, e2⟩ => ⟨e1, BT hb e2⟩))
    have HP14v : Hid (∀ W, Below X.heap.size X W → Calls Tryd.prog 14 #[.agg #[.string ⟨m.a.toArray⟩, .string ⟨m.b.toArray⟩, .string ⟨m.c.toArray⟩, .string ⟨m.d.toArray⟩, .slice v1 v2 v3]] W fun e w' => e = .returned (.int .i64 (checkL l)) ∧ Below X.heap.size X w') := Lib.hid (fun W hb =>
      (pcheck_any _ m l (.slice v1 v2 v3) W (by omega) (TK hvX hb) (fun b q => q)).mono (fun e w' ⟨e1, e2⟩ => ⟨e1, BT hb e2⟩))
    have HP12 : Hid (∀ W, Below X.heap.size X W → Calls Tryd.prog 12 #[.agg #[.string ⟨m.a.toArray⟩, .string ⟨m.b.toArray⟩, .string ⟨m.c.toArray⟩, .string ⟨m.d.toArray⟩, .slice s1 s2 s3]] W fun e w' => ∃ q1 q2 q3, e = .returned (.agg #[.string ⟨m.a.toArray⟩, .string ⟨m.b.toArray⟩, .string ⟨m.c.toArray⟩, .string ⟨m.d.toArray⟩, .slice q1 q2 q3]) ∧ Below X.heap.size X w' ∧ NsS (fun b => b < w'.heap.size) w' (.slice q1 q2 q3) T) := Lib.hid (fun W hb => by
      have := ptidy_any _ m T (.slice s1 s2 s3) W (hU.below (bwX.trans (hb.mono bwX.size))) (by omega) (TK hsX hb) (fun b q => q)
      rw [HTI.out] at this
      exact this.mono (fun e w' ⟨q, e1, e2, e3⟩ => ⟨q.1, q.2.1, q.2.2, e1, BT hb e3, e2.mono (fun b h => h.2)⟩))
    have HP11 : Hid (∀ W q1 q2 q3, Below X.heap.size X W → NsS (fun b => b < W.heap.size) W (.slice q1 q2 q3) T → Calls Tryd.prog 11 #[.agg #[.string ⟨m.a.toArray⟩, .string ⟨m.b.toArray⟩, .string ⟨m.c.toArray⟩, .string ⟨m.d.toArray⟩, .slice q1 q2 q3], .agg #[.string ⟨m.a.toArray⟩, .string ⟨m.b.toArray⟩, .string ⟨m.c.toArray⟩, .string ⟨m.d.toArray⟩, .slice s1 s2 s3]] W fun e w' => e = .returned (.bool true) ∧ Below X.heap.size X w') := Lib.hid (fun W q1 q2 q3 hb hq =>
      (rsamedoc_any _ _ m T T (.slice q1 q2 q3) (.slice s1 s2 s3) W (by omega) (by omega) hq (TK hsX hb) (fun b q => q) (fun b q => q)).mono (fun e w' ⟨e1, e2⟩ => ⟨by rw [e1, eqNs_true rfl], BT hb e2⟩))
    have HP11v : Hid (checkL l = 0 → ∀ W, Below X.heap.size X W → Calls Tryd.prog 11 #[.agg #[.string ⟨m.a.toArray⟩, .string ⟨m.b.toArray⟩, .string ⟨m.c.toArray⟩, .string ⟨m.d.toArray⟩, .slice s1 s2 s3], .agg #[.string ⟨m.a.toArray⟩, .string ⟨m.b.toArray⟩, .string ⟨m.c.toArray⟩, .string ⟨m.d.toArray⟩, .slice v1 v2 v3]] W fun e w' => e = .returned (.bool true) ∧ Below X.heap.size X w') := Lib.hid (fun h W hb =>
      (rsamedoc_any _ _ m T l (.slice s1 s2 s3) (.slice v1 v2 v3) W (by omega) (by omega) (TK hsX hb) (TK hvX hb) (fun b q => q) (fun b q => q)).mono (fun e w' ⟨e1, e2⟩ => ⟨by rw [e1, eqNs_true (HTO.out h)], BT hb e2⟩))
    have HPcs : Hid (∀ W, Below X.heap.size X W → Calls Tryd.prog 21 #[.slice s1 s2 s3] W fun e w' => e = .returned (.int .i64 (cntL T : Int)) ∧ Below X.heap.size X w') := Lib.hid (fun W hb => (pcount_any _ T _ W (by omega) (TK hsX hb) (fun b q => q)).mono fun e w' ⟨e1, e2⟩ => ⟨e1, BT hb e2⟩)
    have HPcv : Hid (∀ W, Below X.heap.size X W → Calls Tryd.prog 21 #[.slice v1 v2 v3] W fun e w' => e = .returned (.int .i64 (cntL l : Int)) ∧ Below X.heap.size X w') := Lib.hid (fun W hb => (pcount_any _ l _ W (by omega) (TK hvX hb) (fun b q => q)).mono fun e w' ⟨e1, e2⟩ => ⟨e1, BT hb e2⟩)
    have HPds : Hid (∀ W, Below X.heap.size X W → Calls Tryd.prog 22 #[.slice s1 s2 s3] W fun e w' => e = .returned (.int .i64 (dpL T : Int)) ∧ Below X.heap.size X w') := Lib.hid (fun W hb => (pdeep_any _ _ T rfl (by omega) _ W (TK hsX hb) (fun b q => q)).mono fun e w' ⟨e1, e2⟩ => ⟨e1, BT hb e2⟩)
    have HPdv : Hid (∀ W, Below X.heap.size X W → Calls Tryd.prog 22 #[.slice v1 v2 v3] W fun e w' => e = .returned (.int .i64 (dpL l : Int)) ∧ Below X.heap.size X w') := Lib.hid (fun W hb => (pdeep_any _ _ l rfl (by omega) _ W (TK hvX hb) (fun b q => q)).mono fun e w' ⟨e1, e2⟩ => ⟨e1, BT hb e2⟩)
    have HP10 : Hid (∀ W, Below X.heap.size X W → Calls Tryd.prog 10 #[] W fun e w' => e = .returned (.bool true) ∧ Below X.heap.size X w') := Lib.hid (fun W hb => (pknown_any W (hU.below (bwX.trans (hb.mono bwX.size)))).mono fun e w' ⟨e1, e2⟩ => ⟨e1, BT hb e2⟩)
    obtain ⟨hf1, hf2⟩ := HTF.out
    obtain ⟨cT, hcT⟩ : ∃ c, cntL T = c := ⟨_, rfl⟩
    obtain ⟨cL, hcL⟩ : ∃ c, cntL l = c := ⟨_, rfl⟩
    obtain ⟨dT, hdT⟩ : ∃ c, dpL T = c := ⟨_, rfl⟩
    obtain ⟨dL, hdL⟩ : ∃ c, dpL l = c := ⟨_, rfl⟩
    obtain ⟨kL, hkL⟩ : ∃ c, checkL l = c := ⟨_, rfl⟩
    rw [hcT] at HPcs hf1
    rw [hcL] at HPcv hf1
    rw [hdT] at HPds hf2
    rw [hdL] at HPdv hf2
    rw [hkL] at HP14v HP11v
    have f1 : decide ((cT : Int) > (cL : Int)) = false := decide_eq_false (by omega)
    have f2 : decide ((cL : Int) < (cT : Int)) = false := decide_eq_false (by omega)
    have f3 : decide ((dT : Int) > (dL : Int)) = false := decide_eq_false (by omega)
    have f4 : decide ((dL : Int) < (dT : Int)) = false := decide_eq_false (by omega)
    have HXW := Lib.hid hX
    have BWX := Lib.hid bwX
    have HX : Hid (Below X.heap.size X X.drew) := Lib.hid (Below.refl _ X).drew
    clear hcT hcL hdT hdL hkL hX bX b2X bwX kT kM hsX hvX TK BT c1 c2 l1 l2 y0 y1 y2 y3 y4 k2' hs3 b3 HTF HTO HTI HTC HT HV HTD HK
    go_upto_region 4 with fail
    rw [← HXW.out]
    refine wp_region_held_drew (S := (fun W' => W'.cell? ⟨w.heap.size, 0, none⟩ = some (.string ⟨m.a.toArray⟩) ∧ W'.cell? ⟨w.heap.size, 1, none⟩ = some (.string ⟨m.b.toArray⟩) ∧ W'.cell? ⟨w.heap.size, 2, none⟩ = some (.string ⟨m.c.toArray⟩) ∧ W'.cell? ⟨w.heap.size, 3, none⟩ = some (.string ⟨m.d.toArray⟩) ∧ W'.cell? ⟨w.heap.size, 4, none⟩ = some (.slice v1 v2 v3) ∧ W'.cell? ⟨w3.heap.size, 0, none⟩ = some (.string ⟨m.a.toArray⟩) ∧ W'.cell? ⟨w3.heap.size, 1, none⟩ = some (.string ⟨m.b.toArray⟩) ∧ W'.cell? ⟨w3.heap.size, 2, none⟩ = some (.string ⟨m.c.toArray⟩) ∧ W'.cell? ⟨w3.heap.size, 3, none⟩ = some (.string ⟨m.d.toArray⟩) ∧ W'.cell? ⟨w3.heap.size, 4, none⟩ = some (.slice s1 s2 s3))) (by kernel_rfl) ?_ (fun hHeld => ?_)
    · exact HSC.out _ HX.out
    refine wpAnyH_take (i := 0) (v := .agg #[.string ⟨m.a.toArray⟩, .string ⟨m.b.toArray⟩, .string ⟨m.c.toArray⟩, .string ⟨m.d.toArray⟩, .slice s1 s2 s3]) rfl (by kernel_rfl) (by kernel_rfl) (by kernel_rfl) (fun _ _ _ h => h) (Or.inl ⟨by rfl, fun w' hSw => by (try dsimp only at hSw); go_simp⟩) (by assumption) ?_
    simp only [List.getElem_toArray, List.getElem_cons_succ, List.getElem_cons_zero, Act.put, List.setIfInBounds_toArray, List.set_cons_zero, List.set_cons_succ]
    refine wpAnyH_ready (rs := [1]) (by kernel_rfl) (by simp) ?_
    refine AllReadyH.cons rfl (fun K hK => ?_) AllReadyH.nil
    try simp only [List.getElem_toArray, List.getElem_cons_succ, List.getElem_cons_zero]
    go_simp
    go_at_call 14
    refine (HP14.out _ HX.out).mono ?_
    rintro e w7 ⟨rfl, b7⟩
    clear HX
    have HX := Lib.hid b7
    clear b7
    go_wp2_with fail
    refine hK.out _ _ ?_ (fun hHeld => ?_)
    · exact HSC.out _ HX.out
    clear hK K
    try simp only [List.getElem_toArray, List.getElem_cons_succ, List.getElem_cons_zero, Act.put, List.setIfInBounds_toArray, List.set_cons_zero, List.set_cons_succ]
    refine wpAnyH_take (i := 2) (v := .bool false) rfl (by kernel_rfl) (by kernel_rfl) (by kernel_rfl) (fun _ _ _ h => h) (Or.inl ⟨by rfl, fun w' hSw => by (try dsimp only at hSw); go_simp⟩) (by assumption) ?_
    simp only [List.getElem_toArray, List.getElem_cons_succ, List.getElem_cons_zero, Act.put, List.setIfInBounds_toArray, List.set_cons_zero, List.set_cons_succ]
    refine wpAnyH_take (i := 3) (v := .bool false) rfl (by kernel_rfl) (by kernel_rfl) (by kernel_rfl) (fun _ _ _ h => h) (Or.inl ⟨by rfl, fun w' hSw => by (try dsimp only at hSw); go_simp⟩) (by assumption) ?_
    simp only [List.getElem_toArray, List.getElem_cons_succ, List.getElem_cons_zero, Act.put, List.setIfInBounds_toArray, List.set_cons_zero, List.set_cons_succ]
    refine wpAnyH_take (i := 4) (v := .agg #[.string ⟨m.a.toArray⟩, .string ⟨m.b.toArray⟩, .string ⟨m.c.toArray⟩, .string ⟨m.d.toArray⟩, .slice s1 s2 s3]) rfl (by kernel_rfl) (by kernel_rfl) (by kernel_rfl) (fun _ _ _ h => h) (Or.inl ⟨by rfl, fun w' hSw => by (try dsimp only at hSw); go_simp⟩) (by assumption) ?_
    simp only [List.getElem_toArray, List.getElem_cons_succ, List.getElem_cons_zero, Act.put, List.setIfInBounds_toArray, List.set_cons_zero, List.set_cons_succ]
    refine wpAnyH_take (i := 6) (v := .agg #[.string ⟨m.a.toArray⟩, .string ⟨m.b.toArray⟩, .string ⟨m.c.toArray⟩, .string ⟨m.d.toArray⟩, .slice s1 s2 s3]) rfl (by kernel_rfl) (by kernel_rfl) (by kernel_rfl) (fun _ _ _ h => h) (Or.inl ⟨by rfl, fun w' hSw => by (try dsimp only at hSw); go_simp⟩) (by assumption) ?_
    simp only [List.getElem_toArray, List.getElem_cons_succ, List.getElem_cons_zero, Act.put, List.setIfInBounds_toArray, List.set_cons_zero, List.set_cons_succ]
    refine wpAnyH_ready (rs := [5]) (by kernel_rfl) (by simp) ?_
    refine AllReadyH.cons rfl (fun K hK => ?_) AllReadyH.nil
    try simp only [List.getElem_toArray, List.getElem_cons_succ, List.getElem_cons_zero]
    go_simp
    go_at_call 12
    refine (HP12.out _ HX.out).mono ?_
    rintro e w7 ⟨q1, q2, q3, rfl, b7, hq⟩
    clear HX
    have HX := Lib.hid b7
    have HQ := Lib.hid hq
    clear b7 hq
    go_wp2_with fail
    refine hK.out _ _ ?_ (fun hHeld => ?_)
    · exact HSC.out _ HX.out
    clear hK K
    try simp only [List.getElem_toArray, List.getElem_cons_succ, List.getElem_cons_zero, Act.put, List.setIfInBounds_toArray, List.set_cons_zero, List.set_cons_succ]
    refine wpAnyH_ready (rs := [7]) (by kernel_rfl) (by simp) ?_
    refine AllReadyH.cons rfl (fun K hK => ?_) AllReadyH.nil
    try simp only [List.getElem_toArray, List.getElem_cons_succ, List.getElem_cons_zero]
    go_simp
    go_at_call 11
    refine (HP11.out _ _ _ _ HX.out HQ.out).mono ?_
    rintro e w7 ⟨rfl, b7⟩
    clear HX HQ
    have HX := Lib.hid b7
    clear b7
    go_wp2_with fail
    refine hK.out _ _ ?_ (fun hHeld => ?_)
    · exact HSC.out _ HX.out
    clear hK K
    try simp only [List.getElem_toArray, List.getElem_cons_succ, List.getElem_cons_zero, Act.put, List.setIfInBounds_toArray, List.set_cons_zero, List.set_cons_succ]
    refine wpAnyH_take (i := 8) (v := .bool false) rfl (by kernel_rfl) (by kernel_rfl) (by kernel_rfl) (fun _ _ _ h => h) (Or.inl ⟨by rfl, fun w' hSw => by (try dsimp only at hSw); go_simp⟩) (by assumption) ?_
    simp only [List.getElem_toArray, List.getElem_cons_succ, List.getElem_cons_zero, Act.put, List.setIfInBounds_toArray, List.set_cons_zero, List.set_cons_succ]
    refine wpAnyH_take (i := 9) (v := .bool false) rfl (by kernel_rfl) (by kernel_rfl) (by kernel_rfl) (fun _ _ _ h => h) (Or.inl ⟨by rfl, fun w' hSw => by (try dsimp only at hSw); go_simp⟩) (by assumption) ?_
    simp only [List.getElem_toArray, List.getElem_cons_succ, List.getElem_cons_zero, Act.put, List.setIfInBounds_toArray, List.set_cons_zero, List.set_cons_succ]
    refine wpAnyH_take (i := 10) (v := .bool false) rfl (by kernel_rfl) (by kernel_rfl) (by kernel_rfl) (fun _ _ _ h => h) (Or.inl ⟨by rfl, fun w' hSw => by (try dsimp only at hSw); go_simp⟩) (by assumption) ?_
    simp only [List.getElem_toArray, List.getElem_cons_succ, List.getElem_cons_zero, Act.put, List.setIfInBounds_toArray, List.set_cons_zero, List.set_cons_succ]
    refine wpAnyH_take (i := 11) (v := .pointer (some ⟨w3.heap.size, 4, none⟩)) rfl (by kernel_rfl) (by kernel_rfl) (by kernel_rfl) (fun _ _ _ h => h) (Or.inl ⟨by rfl, fun w' hSw => by (try dsimp only at hSw); go_simp⟩) (by assumption) ?_
    simp only [List.getElem_toArray, List.getElem_cons_succ, List.getElem_cons_zero, Act.put, List.setIfInBounds_toArray, List.set_cons_zero, List.set_cons_succ]
    refine wpAnyH_take (i := 12) (v := .slice s1 s2 s3) rfl (by kernel_rfl) (by kernel_rfl) (by kernel_rfl) (fun _ _ _ h => h) (Or.inl ⟨by rfl, fun w' hSw => by (try dsimp only at hSw); go_simp⟩) (by assumption) ?_
    simp only [List.getElem_toArray, List.getElem_cons_succ, List.getElem_cons_zero, Act.put, List.setIfInBounds_toArray, List.set_cons_zero, List.set_cons_succ]
    refine wpAnyH_take (i := 14) (v := .pointer (some ⟨w.heap.size, 4, none⟩)) rfl (by kernel_rfl) (by kernel_rfl) (by kernel_rfl) (fun _ _ _ h => h) (Or.inl ⟨by rfl, fun w' hSw => by (try dsimp only at hSw); go_simp⟩) (by assumption) ?_
    simp only [List.getElem_toArray, List.getElem_cons_succ, List.getElem_cons_zero, Act.put, List.setIfInBounds_toArray, List.set_cons_zero, List.set_cons_succ]
    refine wpAnyH_take (i := 15) (v := .slice v1 v2 v3) rfl (by kernel_rfl) (by kernel_rfl) (by kernel_rfl) (fun _ _ _ h => h) (Or.inl ⟨by rfl, fun w' hSw => by (try dsimp only at hSw); go_simp⟩) (by assumption) ?_
    simp only [List.getElem_toArray, List.getElem_cons_succ, List.getElem_cons_zero, Act.put, List.setIfInBounds_toArray, List.set_cons_zero, List.set_cons_succ]
    refine wpAnyH_ready (rs := [13]) (by kernel_rfl) (by simp) ?_
    refine AllReadyH.cons rfl (fun K hK => ?_) AllReadyH.nil
    try simp only [List.getElem_toArray, List.getElem_cons_succ, List.getElem_cons_zero]
    go_simp
    go_at_call 21
    refine (HPcs.out _ HX.out).mono ?_
    rintro e w7 ⟨rfl, b7⟩
    clear HX
    have HX := Lib.hid b7
    clear b7
    go_wp2_with fail
    refine hK.out _ _ ?_ (fun hHeld => ?_)
    · exact HSC.out _ HX.out
    clear hK K
    try simp only [List.getElem_toArray, List.getElem_cons_succ, List.getElem_cons_zero, Act.put, List.setIfInBounds_toArray, List.set_cons_zero, List.set_cons_succ]
    refine wpAnyH_ready (rs := [16]) (by kernel_rfl) (by simp) ?_
    refine AllReadyH.cons rfl (fun K hK => ?_) AllReadyH.nil
    try simp only [List.getElem_toArray, List.getElem_cons_succ, List.getElem_cons_zero]
    go_simp
    go_at_call 21
    refine (HPcv.out _ HX.out).mono ?_
    rintro e w7 ⟨rfl, b7⟩
    clear HX
    have HX := Lib.hid b7
    clear b7
    go_wp2_with fail
    refine hK.out _ _ ?_ (fun hHeld => ?_)
    · exact HSC.out _ HX.out
    clear hK K
    try simp only [List.getElem_toArray, List.getElem_cons_succ, List.getElem_cons_zero, Act.put, List.setIfInBounds_toArray, List.set_cons_zero, List.set_cons_succ]
    refine wpAnyH_take (i := 17) (v := .bool false) rfl (by kernel_rfl) (by kernel_rfl) (by kernel_rfl) (fun _ _ _ h => h) (Or.inl ⟨by rfl, fun w' hSw => by (try dsimp only at hSw); go_simp⟩) (by assumption) ?_
    simp only [List.getElem_toArray, List.getElem_cons_succ, List.getElem_cons_zero, Act.put, List.setIfInBounds_toArray, List.set_cons_zero, List.set_cons_succ]
    refine wpAnyH_take (i := 18) (v := .bool false) rfl (by kernel_rfl) (by kernel_rfl) (by kernel_rfl) (fun _ _ _ h => h) (Or.inl ⟨by rfl, fun w' hSw => by (try dsimp only at hSw); go_simp⟩) (by assumption) ?_
    simp only [List.getElem_toArray, List.getElem_cons_succ, List.getElem_cons_zero, Act.put, List.setIfInBounds_toArray, List.set_cons_zero, List.set_cons_succ]
    refine wpAnyH_take (i := 19) (v := .bool false) rfl (by kernel_rfl) (by kernel_rfl) (by kernel_rfl) (fun _ _ _ h => h) (Or.inl ⟨by rfl, fun w' hSw => by (try dsimp only at hSw); go_simp⟩) (by assumption) ?_
    simp only [List.getElem_toArray, List.getElem_cons_succ, List.getElem_cons_zero, Act.put, List.setIfInBounds_toArray, List.set_cons_zero, List.set_cons_succ]
    refine wpAnyH_take (i := 20) (v := .pointer (some ⟨w3.heap.size, 4, none⟩)) rfl (by kernel_rfl) (by kernel_rfl) (by kernel_rfl) (fun _ _ _ h => h) (Or.inl ⟨by rfl, fun w' hSw => by (try dsimp only at hSw); go_simp⟩) (by assumption) ?_
    simp only [List.getElem_toArray, List.getElem_cons_succ, List.getElem_cons_zero, Act.put, List.setIfInBounds_toArray, List.set_cons_zero, List.set_cons_succ]
    refine wpAnyH_take (i := 21) (v := .slice s1 s2 s3) rfl (by kernel_rfl) (by kernel_rfl) (by kernel_rfl) (fun _ _ _ h => h) (Or.inl ⟨by rfl, fun w' hSw => by (try dsimp only at hSw); go_simp⟩) (by assumption) ?_
    simp only [List.getElem_toArray, List.getElem_cons_succ, List.getElem_cons_zero, Act.put, List.setIfInBounds_toArray, List.set_cons_zero, List.set_cons_succ]
    refine wpAnyH_take (i := 23) (v := .pointer (some ⟨w.heap.size, 4, none⟩)) rfl (by kernel_rfl) (by kernel_rfl) (by kernel_rfl) (fun _ _ _ h => h) (Or.inl ⟨by rfl, fun w' hSw => by (try dsimp only at hSw); go_simp⟩) (by assumption) ?_
    simp only [List.getElem_toArray, List.getElem_cons_succ, List.getElem_cons_zero, Act.put, List.setIfInBounds_toArray, List.set_cons_zero, List.set_cons_succ]
    refine wpAnyH_take (i := 24) (v := .slice v1 v2 v3) rfl (by kernel_rfl) (by kernel_rfl) (by kernel_rfl) (fun _ _ _ h => h) (Or.inl ⟨by rfl, fun w' hSw => by (try dsimp only at hSw); go_simp⟩) (by assumption) ?_
    simp only [List.getElem_toArray, List.getElem_cons_succ, List.getElem_cons_zero, Act.put, List.setIfInBounds_toArray, List.set_cons_zero, List.set_cons_succ]
    refine wpAnyH_ready (rs := [22]) (by kernel_rfl) (by simp) ?_
    refine AllReadyH.cons rfl (fun K hK => ?_) AllReadyH.nil
    try simp only [List.getElem_toArray, List.getElem_cons_succ, List.getElem_cons_zero]
    go_simp
    go_at_call 22
    refine (HPds.out _ HX.out).mono ?_
    rintro e w7 ⟨rfl, b7⟩
    clear HX
    have HX := Lib.hid b7
    clear b7
    go_wp2_with fail
    refine hK.out _ _ ?_ (fun hHeld => ?_)
    · exact HSC.out _ HX.out
    clear hK K
    try simp only [List.getElem_toArray, List.getElem_cons_succ, List.getElem_cons_zero, Act.put, List.setIfInBounds_toArray, List.set_cons_zero, List.set_cons_succ]
    refine wpAnyH_ready (rs := [25]) (by kernel_rfl) (by simp) ?_
    refine AllReadyH.cons rfl (fun K hK => ?_) AllReadyH.nil
    try simp only [List.getElem_toArray, List.getElem_cons_succ, List.getElem_cons_zero]
    go_simp
    go_at_call 22
    refine (HPdv.out _ HX.out).mono ?_
    rintro e w7 ⟨rfl, b7⟩
    clear HX
    have HX := Lib.hid b7
    clear b7
    go_wp2_with fail
    refine hK.out _ _ ?_ (fun hHeld => ?_)
    · exact HSC.out _ HX.out
    clear hK K
    try simp only [List.getElem_toArray, List.getElem_cons_succ, List.getElem_cons_zero, Act.put, List.setIfInBounds_toArray, List.set_cons_zero, List.set_cons_succ]
    refine wpAnyH_take (i := 26) (v := .bool false) rfl (by kernel_rfl) (by kernel_rfl) (by kernel_rfl) (fun _ _ _ h => h) (Or.inl ⟨by rfl, fun w' hSw => by (try dsimp only at hSw); go_simp⟩) (by assumption) ?_
    simp only [List.getElem_toArray, List.getElem_cons_succ, List.getElem_cons_zero, Act.put, List.setIfInBounds_toArray, List.set_cons_zero, List.set_cons_succ]
    refine wpAnyH_take (i := 27) (v := .bool false) rfl (by kernel_rfl) (by kernel_rfl) (by kernel_rfl) (fun _ _ _ h => h) (Or.inl ⟨by rfl, fun w' hSw => by (try dsimp only at hSw); go_simp⟩) (by assumption) ?_
    simp only [List.getElem_toArray, List.getElem_cons_succ, List.getElem_cons_zero, Act.put, List.setIfInBounds_toArray, List.set_cons_zero, List.set_cons_succ]
    refine wpAnyH_done (by kernel_rfl) ?_ _
    go_wp2_with fail
    refine (HP14v.out _ HX.out).mono ?_
    rintro e w8 ⟨rfl, b8⟩
    obtain ⟨z0, z1, z2, z3, z4, y0, y1, y2, y3, y4⟩ := HSC.out w8 b8
    clear HX
    have HX := Lib.hid b8
    clear b8 hHeld hf1 hf2
    by_cases h0 : kL = 0
    · have HP11s := Lib.hid (HP11v.out h0)
      subst h0
      clear HP11v
      go_wp2_with fail
      refine (HP11s.out _ HX.out).mono ?_
      rintro e w9 ⟨rfl, b9⟩
      clear HX z0 z1 z2 z3 z4 y0 y1 y2 y3 y4
      have HX := Lib.hid b9
      clear b9
      go_wp2_with fail
      refine (HP10.out _ HX.out).mono ?_
      rintro e w9 ⟨rfl, b9⟩
      clear HX
      have HX := Lib.hid b9
      clear b9
      go_wp2_with fail
      go_ret
      exact ⟨rfl, BWX.out.trans (HX.out.mono BWX.out.size)⟩
    · have n1 : (kL != 0) = true := bne_iff_ne.2 h0
      have n2 : (kL == 0) = false := beq_eq_false_iff_ne.2 h0
      clear HP11v z0 z1 z2 z3 z4 y0 y1 y2 y3 y4
      go_wp2_with fail
      refine (HP10.out _ HX.out).mono ?_
      rintro e w9 ⟨rfl, b9⟩
      clear HX
      have HX := Lib.hid b9
      clear b9
      go_wp2_with fail
      go_ret
      exact ⟨rfl, BWX.out.trans (HX.out.mono BWX.out.size)⟩
end Go.Proofs.YtienjlbpaedbjaaDoor
