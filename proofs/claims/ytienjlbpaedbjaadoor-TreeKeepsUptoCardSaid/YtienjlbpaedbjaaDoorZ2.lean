/- The walk of TreeTables. -/
import Derived.Test.YtienjlbpaedbjaaDoorZ1
import Derived.Test.YtienjlbpaedbjaaDoorQd
import Derived.Deep.RegionHeld3
namespace Go.Proofs.YtienjlbpaedbjaaDoor
open Go.RowKit

theorem lens_mcells : ∀ (n : Nat) (l : List (List Gly)), lens (mcells n l) ≤ lens l
  | 0, l => by simp [mcells, lens]
  | n + 1, [] => by have := lens_mcells n []; simp [mcells, lens] at this ⊢; exact this
  | n + 1, c :: l => by
    have := lens_mcells n l
    have := sqz_len c
    simp only [mcells, lens, List.map_cons, List.sum_cons] at *
    omega
theorem trl_mrow (n : Nat) (r : Trow) : trl (mrowT n r) ≤ n + trl r := by
  obtain ⟨b, l⟩ := r
  have := lens_mcells n l
  have := mcells_len n l
  unfold trl mrowT
  cases b
  · simp only [Bool.false_eq_true, if_false]
    omega
  · simp [lens]
    omega
theorem trls_mrows (n : Nat) : ∀ l : List Trow, trls (l.map (mrowT n)) ≤ n * l.length + trls l
  | [] => by simp [trls]
  | r :: l => by
    have h1 := trls_mrows n l
    have h2 := trl_mrow n r
    simp only [trls, List.map_cons, List.sum_cons, List.length_cons, Nat.mul_add, Nat.mul_one] at *
    omega
theorem mend_size {t : Tab} (h : trls t.rows ≤ 600) : trls (mend t).rows ≤ 12600 := by
  have h1 := trls_mrows (mcols t.cols).length t.rows
  have h2 := trls_len t.rows
  have h3 := (mcols_ok t.cols).2.1
  have h4 : (mcols t.cols).length * t.rows.length ≤ 20 * 600 := Nat.mul_le_mul h3 (by omega)
  show trls (t.rows.map (mrowT (mcols t.cols).length)) ≤ 12600
  omega
theorem grid_in {w : World} {t : Tab} {r : PV} (ht : TrS (fun b => b < w.heap.size) w (pv r) t.rows) :
    NsS (fun b => b < w.heap.size + 1) (w.alloc (.cells (flatV ncell [nvG t r]).toArray 39)) (.slice (some ⟨w.heap.size, 0, none⟩) 1 1) [.mk (hG t) []] :=
  (ns_lit w [nvG t r] [.mk (hG t) []] rfl (fun b (q : b < w.heap.size) => q) (fun i x y a b => by
    obtain ⟨rfl, rfl⟩ := one_at a b
    exact ⟨hd_g ht, NsS.nil _ _⟩)).mono (fun b q => by rcases q with q | q <;> omega)
set_option maxRecDepth 100000 in
set_option maxHeartbeats 2000000 in
theorem treetables_any (t : Tab) (r : PV) (w : World) (hU : U8 w) (ht : TrS (fun b => b < w.heap.size) w (pv r) t.rows) (lt : t.cols.length + trls t.rows ≤ 4000000) :
    Calls Tryd.prog 4 #[tabV t r] w fun e w' => e = .returned (.bool true) ∧ Below w.heap.size w w' := by
  have HK : Hid (∀ W, Below w.heap.size w W → Calls Tryd.prog 10 #[] W fun e w' => e = .returned (.bool true) ∧ Below w.heap.size w w') :=
    Lib.hid (fun W hb => (pknown_any W (hU.below hb)).mono fun e w' ⟨e1, e2⟩ => ⟨e1, hb.trans (e2.mono hb.size)⟩)
  obtain ⟨W0, hW0⟩ : ∃ W, W = w.alloc (.cells (tabL t r).toArray 35) := ⟨_, rfl⟩
  have b0 : Below w.heap.size w W0 := by rw [hW0]; exact below_lit w _
  have k0 : Blk W0 w.heap.size 35 (tabL t r) := by rw [hW0]; exact heap_alloc_new w _
  have z0 : W0.heap.size = w.heap.size + 1 := by rw [hW0, World.size_alloc]
  have hbg : longB [.mk (hG t) []] = false → t.cols.length ≤ 600 ∧ trls t.rows ≤ 600 := fun h => by
    have := (longB_false h).1
    rw [nl_g] at this
    omega
  obtain ⟨W1, hW1⟩ : ∃ W, W = W0.alloc (.cells (flatV ncell [nvG t r]).toArray 39) := ⟨_, rfl⟩
  have b1 : Below W0.heap.size W0 W1 := by rw [hW1]; exact below_lit W0 _
  have HLG : Hid (Calls Tryd.prog 9 #[.slice (some ⟨W0.heap.size, 0, none⟩) 1 1] W1 (RdN (.bool (longB [.mk (hG t) []])) W1)) := Lib.hid (by
    have := grid_in ((ht.keep (Kp.below b0 (fun b q => q))).mono (fun b q => Nat.lt_of_lt_of_le q b0.size))
    rw [← hW1] at this
    exact plong_any _ _ _ _ (by rw [nl_g]; omega) this)
  obtain ⟨M, hM⟩ : ∃ M, mend t = M := ⟨_, rfl⟩
  have hr : rightT M = true := hM ▸ right_mend t
  have hmm : mend M = M := mend_same hr
  have hmt : rightT t = true → M = t := fun h => hM ▸ mend_same h
  have hms : trls t.rows ≤ 600 → trls M.rows ≤ 12600 := fun h => hM ▸ mend_size h
  have hmc : M.cols.length ≤ 20 := by rw [← hM]; exact (mcols_ok t.cols).2.1
  obtain ⟨xg, hxg⟩ : ∃ x, longB [.mk (hG t) []] = x := ⟨_, rfl⟩
  rw [hxg] at HLG hbg
  obtain ⟨u1, u2, u3⟩ := r
  obtain ⟨t1, t2, t3, t4⟩ := t
  have HW0 : Hid (W0 = w.alloc (.cells #[.string ⟨t1.toArray⟩, .slice u1 u2 u3, .bool t3, .bool t4] 35)) := Lib.hid hW0
  have HW1 : Hid (W1 = W0.alloc (.cells #[.int .i64 0, .int .i64 0, .int .i64 0, .slice none 0 0, .slice none 0 0, .slice none 0 0, .string ⟨t1.toArray⟩, .slice u1 u2 u3, .bool t3, .bool t4] 39)) := Lib.hid hW1
  have B0 := Lib.hid b0
  have BW1 : Hid (Below w.heap.size w W1) := Lib.hid (b0.trans (b1.mono b0.size))
  have B1 := Lib.hid b1
  have HB0 := Lib.hid k0
  have HT := Lib.hid ht
  have HM := Lib.hid hM
  have HR := Lib.hid hr
  have HMM := Lib.hid hmm
  have HMT := Lib.hid hmt
  have HMS := Lib.hid hms
  have HMC := Lib.hid hmc
  have HBG := Lib.hid hbg
  have y0 : W0.cell? ⟨w.heap.size, 0, none⟩ = some (.string ⟨t1.toArray⟩) := k0.cell 0
  have y1 : W0.cell? ⟨w.heap.size, 1, none⟩ = some (.slice u1 u2 u3) := k0.cell 1
  have y2 : W0.cell? ⟨w.heap.size, 2, none⟩ = some (.bool t3) := k0.cell 2
  have y3 : W0.cell? ⟨w.heap.size, 3, none⟩ = some (.bool t4) := k0.cell 3
  clear hxg ht lt hW0 hW1 hM hr hmm hmt hms hmc hbg k0 b0 b1 z0
  go_enter Tryd.func4, Tryd.ntmps4
  simp only [tabV, pv]
  go_upto_region 1 with fail
  rw [← HW0.out]
  go_wp2_with fail
  rw [← HW1.out]
  refine HLG.out.mono ?_
  rintro e w2 ⟨rfl, m2, hw2⟩
  have B2 : Hid (Below W0.heap.size W0 w2) := Lib.hid (by rw [hw2]; exact below_drewN B1.out m2)
  have BW2 : Hid (Below w.heap.size w w2) := Lib.hid (by rw [hw2]; exact below_drewN BW1.out m2)
  clear hw2 HLG HW1 HW0 y0 y1 y2 y3 BW1 B1
  cases xg with
  | true =>
    go_wp2_with fail
    refine (HK.out _ BW2.out).mono ?_
    rintro e w9 ⟨rfl, b9⟩
    have B9 := Lib.hid b9
    clear b9
    go_wp2_with fail
    go_ret
    exact ⟨rfl, B9.out⟩
  | false =>
    obtain ⟨l1, l2⟩ := HBG.out (by first | trivial | rfl)
    have l3 := HMS.out l2
    have k2 : Blk w2 w.heap.size 35 (tabL ⟨t1, t2, t3, t4⟩ (u1, u2, u3)) := HB0.out.below B2.out
    have k2' := Lib.hid k2
    have y0 : w2.cell? ⟨w.heap.size, 0, none⟩ = some (.string ⟨t1.toArray⟩) := k2.cell 0
    have y1 : w2.cell? ⟨w.heap.size, 1, none⟩ = some (.slice u1 u2 u3) := k2.cell 1
    have y2 : w2.cell? ⟨w.heap.size, 2, none⟩ = some (.bool t3) := k2.cell 2
    have y3 : w2.cell? ⟨w.heap.size, 3, none⟩ = some (.bool t4) := k2.cell 3
    have HMD := Lib.hid (pmend_any _ ⟨t1, t2, t3, t4⟩ (u1, u2, u3) w2 (hU.below BW2.out) (HT.out.keep (Kp.below BW2.out (fun b q => q))) (Nat.le_trans l1 (by decide)) (Nat.le_trans l2 (by decide)) (fun b q => Nat.lt_of_lt_of_le q BW2.out.size))
    rw [HM.out] at HMD
    obtain ⟨m1, m2, m3, m4⟩ := M
    simp only [tabV, pv] at HMD
    unfold MendP at HMD
    clear k2 HBG HMS HB0
    go_upto_region 4 with fail
    refine HMD.out.mono ?_
    rintro e w3 ⟨⟨s1, s2, s3⟩, rfl, hs3, b3⟩
    obtain ⟨X, hX⟩ : ∃ X, X = w3.alloc (.cells #[.string ⟨m1.toArray⟩, .slice s1 s2 s3, .bool m3, .bool m4] 35) := ⟨_, rfl⟩
    have bX : Below w3.heap.size w3 X := by rw [hX]; exact below_lit _ _
    have b2X : Below w2.heap.size w2 X := b3.trans (bX.mono b3.size)
    have bwX : Below w.heap.size w X := BW2.out.trans (b2X.mono BW2.out.size)
    have kT : Blk X w.heap.size 35 (tabL ⟨t1, t2, t3, t4⟩ (u1, u2, u3)) := k2'.out.below b2X
    have kM : Blk X w3.heap.size 35 [.string ⟨m1.toArray⟩, .slice s1 s2 s3, .bool m3, .bool m4] := by rw [hX]; exact heap_alloc_new w3 _
    have hsX : TrS (fun b => b < X.heap.size) X (.slice s1 s2 s3) m2 := (hs3.trs.keep (Kp.below bX (fun b q => q.2))).mono (fun b q => Nat.lt_of_lt_of_le q.2 bX.size)
    have hTX : TrS (fun b => b < X.heap.size) X (.slice u1 u2 u3) t2 := (HT.out.keep (Kp.below bwX (fun b q => q))).mono (fun b q => Nat.lt_of_lt_of_le q bwX.size)
    have TK : ∀ {W : World} {v : Value} {l : List Trow}, TrS (fun b => b < X.heap.size) X v l → Below X.heap.size X W → TrS (fun b => b < W.heap.size) W v l := fun h hb => (h.keep (Kp.below hb (fun b q => q))).mono (fun b q => Nat.lt_of_lt_of_le q hb.size)
    have BT : ∀ {W W' : World}, Below X.heap.size X W → Below W.heap.size W W' → Below X.heap.size X W' := fun h k => h.trans (k.mono h.size)
    have HS8 : Hid (∀ W, Below X.heap.size X W → W.cell? ⟨w.heap.size, 0, none⟩ = some (.string ⟨t1.toArray⟩) ∧ W.cell? ⟨w.heap.size, 1, none⟩ = some (.slice u1 u2 u3) ∧ W.cell? ⟨w.heap.size, 2, none⟩ = some (.bool t3) ∧ W.cell? ⟨w.heap.size, 3, none⟩ = some (.bool t4) ∧
      W.cell? ⟨w3.heap.size, 0, none⟩ = some (.string ⟨m1.toArray⟩) ∧ W.cell? ⟨w3.heap.size, 1, none⟩ = some (.slice s1 s2 s3) ∧ W.cell? ⟨w3.heap.size, 2, none⟩ = some (.bool m3) ∧ W.cell? ⟨w3.heap.size, 3, none⟩ = some (.bool m4)) := Lib.hid (fun W hb =>
        ⟨(kT.below hb).cell 0, (kT.below hb).cell 1, (kT.below hb).cell 2, (kT.below hb).cell 3, (kM.below hb).cell 0, (kM.below hb).cell 1, (kM.below hb).cell 2, (kM.below hb).cell 3⟩)
    have c1 := Nat.le_trans HMC.out (show 20 ≤ 90000 by decide)
    have c2 := Nat.le_trans l3 (show 12600 ≤ 90000 by decide)
    have HP18 : Hid (∀ W, Below X.heap.size X W → Calls Tryd.prog 18 #[.agg #[.string ⟨t1.toArray⟩, .slice u1 u2 u3, .bool t3, .bool t4]] W fun e w' => ∃ q1 q2 q3, e = .returned (.agg #[.string ⟨m1.toArray⟩, .slice q1 q2 q3, .bool m3, .bool m4]) ∧ Below X.heap.size X w' ∧ TrS (fun b => b < w'.heap.size) w' (.slice q1 q2 q3) m2) := Lib.hid (fun W hb => by
      have := rmend_any _ ⟨t1, t2, t3, t4⟩ (u1, u2, u3) W (TK hTX hb) (Nat.le_trans l1 (by decide)) (Nat.le_trans l2 (by decide)) (fun b q => q)
      rw [HM.out] at this
      exact this.mono (fun e w' ⟨q, e1, e2, e3⟩ => ⟨q.1, q.2.1, q.2.2, e1, BT hb e3, e2.mono (fun b h => h.2)⟩))
    have HP16 : Hid (∀ W, Below X.heap.size X W → Calls Tryd.prog 16 #[.agg #[.string ⟨m1.toArray⟩, .slice s1 s2 s3, .bool m3, .bool m4]] W fun e w' => ∃ q1 q2 q3, e = .returned (.agg #[.string ⟨m1.toArray⟩, .slice q1 q2 q3, .bool m3, .bool m4]) ∧ Below X.heap.size X w' ∧ TrS (fun b => b < w'.heap.size) w' (.slice q1 q2 q3) m2) := Lib.hid (fun W hb => by
      have := pmend_any _ ⟨m1, m2, m3, m4⟩ (s1, s2, s3) W (hU.below (bwX.trans (hb.mono bwX.size))) (TK hsX hb) c1 c2 (fun b q => q)
      rw [HMM.out] at this
      exact this.mono (fun e w' ⟨q, e1, e2, e3⟩ => ⟨q.1, q.2.1, q.2.2, e1, BT hb e3, e2.trs.mono (fun b h => h.2)⟩))
    have HP17a : Hid (∀ W q1 q2 q3, Below X.heap.size X W → TrS (fun b => b < W.heap.size) W (.slice q1 q2 q3) m2 → Calls Tryd.prog 17 #[.agg #[.string ⟨m1.toArray⟩, .slice s1 s2 s3, .bool m3, .bool m4], .agg #[.string ⟨m1.toArray⟩, .slice q1 q2 q3, .bool m3, .bool m4]] W fun e w' => e = .returned (.bool true) ∧ Below X.heap.size X w') := Lib.hid (fun W q1 q2 q3 hb hq =>
      (rsametable_any _ _ ⟨m1, m2, m3, m4⟩ ⟨m1, m2, m3, m4⟩ (s1, s2, s3) (q1, q2, q3) W (TK hsX hb) hq (Nat.le_trans c2 (by decide)) (Nat.le_trans c2 (by decide)) (fun b q => q) (fun b q => q)).mono (fun e w' ⟨e1, e2⟩ => ⟨by rw [e1, decide_eq_true rfl], BT hb e2⟩))
    have HP17b : Hid (∀ W q1 q2 q3, Below X.heap.size X W → TrS (fun b => b < W.heap.size) W (.slice q1 q2 q3) m2 → Calls Tryd.prog 17 #[.agg #[.string ⟨m1.toArray⟩, .slice q1 q2 q3, .bool m3, .bool m4], .agg #[.string ⟨m1.toArray⟩, .slice s1 s2 s3, .bool m3, .bool m4]] W fun e w' => e = .returned (.bool true) ∧ Below X.heap.size X w') := Lib.hid (fun W q1 q2 q3 hb hq =>
      (rsametable_any _ _ ⟨m1, m2, m3, m4⟩ ⟨m1, m2, m3, m4⟩ (q1, q2, q3) (s1, s2, s3) W hq (TK hsX hb) (Nat.le_trans c2 (by decide)) (Nat.le_trans c2 (by decide)) (fun b q => q) (fun b q => q)).mono (fun e w' ⟨e1, e2⟩ => ⟨by rw [e1, decide_eq_true rfl], BT hb e2⟩))
    have HP17t : Hid (rightT ⟨t1, t2, t3, t4⟩ = true → ∀ W, Below X.heap.size X W → Calls Tryd.prog 17 #[.agg #[.string ⟨m1.toArray⟩, .slice s1 s2 s3, .bool m3, .bool m4], .agg #[.string ⟨t1.toArray⟩, .slice u1 u2 u3, .bool t3, .bool t4]] W fun e w' => e = .returned (.bool true) ∧ Below X.heap.size X w') := Lib.hid (fun h W hb =>
      (rsametable_any _ _ ⟨m1, m2, m3, m4⟩ ⟨t1, t2, t3, t4⟩ (s1, s2, s3) (u1, u2, u3) W (TK hsX hb) (TK hTX hb) (Nat.le_trans c2 (by decide)) (Nat.le_trans l2 (by decide)) (fun b q => q) (fun b q => q)).mono (fun e w' ⟨e1, e2⟩ => ⟨by rw [e1, decide_eq_true (HMT.out h)], BT hb e2⟩))
    have HP19t : Hid (∀ W, Below X.heap.size X W → Calls Tryd.prog 19 #[.agg #[.string ⟨t1.toArray⟩, .slice u1 u2 u3, .bool t3, .bool t4]] W fun e w' => e = .returned (.bool (rightT ⟨t1, t2, t3, t4⟩)) ∧ Below X.heap.size X w') := Lib.hid (fun W hb =>
      (pright_any _ ⟨t1, t2, t3, t4⟩ (u1, u2, u3) W (TK hTX hb) (Nat.le_trans l1 (by decide)) (Nat.le_trans l2 (by decide)) (fun b q => q)).mono (fun e w' ⟨e1, e2⟩ => ⟨e1, BT hb e2⟩))
    have HP20t : Hid (∀ W, Below X.heap.size X W → Calls Tryd.prog 20 #[.agg #[.string ⟨t1.toArray⟩, .slice u1 u2 u3, .bool t3, .bool t4]] W fun e w' => e = .returned (.bool (rightT ⟨t1, t2, t3, t4⟩)) ∧ Below X.heap.size X w') := Lib.hid (fun W hb =>
      (rright_any _ ⟨t1, t2, t3, t4⟩ (u1, u2, u3) W (TK hTX hb) (Nat.le_trans l1 (by decide)) (Nat.le_trans l2 (by decide)) (fun b q => q)).mono (fun e w' ⟨e1, e2⟩ => ⟨e1, BT hb e2⟩))
    have HP19m : Hid (∀ W, Below X.heap.size X W → Calls Tryd.prog 19 #[.agg #[.string ⟨m1.toArray⟩, .slice s1 s2 s3, .bool m3, .bool m4]] W fun e w' => e = .returned (.bool true) ∧ Below X.heap.size X w') := Lib.hid (fun W hb =>
      (pright_any _ ⟨m1, m2, m3, m4⟩ (s1, s2, s3) W (TK hsX hb) (Nat.le_trans c1 (by decide)) c2 (fun b q => q)).mono (fun e w' ⟨e1, e2⟩ => ⟨by rw [e1, HR.out], BT hb e2⟩))
    have HP10 : Hid (∀ W, Below X.heap.size X W → Calls Tryd.prog 10 #[] W fun e w' => e = .returned (.bool true) ∧ Below X.heap.size X w') := Lib.hid (fun W hb => (pknown_any W (hU.below (bwX.trans (hb.mono bwX.size)))).mono fun e w' ⟨e1, e2⟩ => ⟨e1, BT hb e2⟩)
    obtain ⟨qr, hqr⟩ : ∃ q, rightT ⟨t1, t2, t3, t4⟩ = q := ⟨_, rfl⟩
    rw [hqr] at HP17t HP19t HP20t
    have HXW := Lib.hid hX
    have BWX := Lib.hid bwX
    have HX : Hid (Below X.heap.size X X.drew) := Lib.hid (Below.refl _ X).drew
    clear hqr hX bX b2X bwX kT kM hsX hTX TK BT c1 c2 l1 l2 l3 y0 y1 y2 y3 k2' hs3 b3 HMT HMC HMM HM HR HT HMD HK
    simp only [tabV, pv]
    go_upto_region 4 with fail
    rw [← HXW.out]
    cases qr with
    | true =>
      have HP17s := Lib.hid (HP17t.out (by first | trivial | rfl))
      clear HP17t
      refine wp_region_held_drew (S := (fun W' => W'.cell? ⟨w.heap.size, 0, none⟩ = some (.string ⟨t1.toArray⟩) ∧ W'.cell? ⟨w.heap.size, 1, none⟩ = some (.slice u1 u2 u3) ∧ W'.cell? ⟨w.heap.size, 2, none⟩ = some (.bool t3) ∧ W'.cell? ⟨w.heap.size, 3, none⟩ = some (.bool t4) ∧ W'.cell? ⟨w3.heap.size, 0, none⟩ = some (.string ⟨m1.toArray⟩) ∧ W'.cell? ⟨w3.heap.size, 1, none⟩ = some (.slice s1 s2 s3) ∧ W'.cell? ⟨w3.heap.size, 2, none⟩ = some (.bool m3) ∧ W'.cell? ⟨w3.heap.size, 3, none⟩ = some (.bool m4))) (by kernel_rfl) ?_ (fun hHeld => ?_)
      · exact HS8.out _ HX.out
      refine wpAnyH_take (i := 0) (v := .agg #[.string ⟨m1.toArray⟩, .slice s1 s2 s3, .bool m3, .bool m4]) rfl (by kernel_rfl) (by kernel_rfl) (by kernel_rfl) (fun _ _ _ h => h) (Or.inl ⟨by rfl, fun w' hSw => by (try dsimp only at hSw); go_simp⟩) (by assumption) ?_
      simp only [List.getElem_toArray, List.getElem_cons_succ, List.getElem_cons_zero, Act.put, List.setIfInBounds_toArray, List.set_cons_zero, List.set_cons_succ]
      refine wpAnyH_take (i := 1) (v := .agg #[.string ⟨t1.toArray⟩, .slice u1 u2 u3, .bool t3, .bool t4]) rfl (by kernel_rfl) (by kernel_rfl) (by kernel_rfl) (fun _ _ _ h => h) (Or.inl ⟨by rfl, fun w' hSw => by (try dsimp only at hSw); go_simp⟩) (by assumption) ?_
      simp only [List.getElem_toArray, List.getElem_cons_succ, List.getElem_cons_zero, Act.put, List.setIfInBounds_toArray, List.set_cons_zero, List.set_cons_succ]
      refine wpAnyH_ready (rs := [2]) (by kernel_rfl) (by simp) ?_
      refine AllReadyH.cons rfl (fun K hK => ?_) AllReadyH.nil
      try simp only [List.getElem_toArray, List.getElem_cons_succ, List.getElem_cons_zero]
      go_simp
      go_at_call 18
      refine (HP18.out _ HX.out).mono ?_
      rintro e w7 ⟨q1, q2, q3, rfl, b7, hq⟩
      clear HX
      have HX := Lib.hid b7
      have HQ := Lib.hid hq
      clear b7 hq
      go_wp2_with fail
      refine hK.out _ _ ?_ (fun hHeld => ?_)
      · exact HS8.out _ HX.out
      clear hK K
      try simp only [List.getElem_toArray, List.getElem_cons_succ, List.getElem_cons_zero, Act.put, List.setIfInBounds_toArray, List.set_cons_zero, List.set_cons_succ]
      refine wpAnyH_ready (rs := [3]) (by kernel_rfl) (by simp) ?_
      refine AllReadyH.cons rfl (fun K hK => ?_) AllReadyH.nil
      try simp only [List.getElem_toArray, List.getElem_cons_succ, List.getElem_cons_zero]
      go_simp
      go_at_call 17
      refine (HP17a.out _ _ _ _ HX.out HQ.out).mono ?_
      rintro e w7 ⟨rfl, b7⟩
      clear HX HQ
      have HX := Lib.hid b7
      clear b7
      go_wp2_with fail
      refine hK.out _ _ ?_ (fun hHeld => ?_)
      · exact HS8.out _ HX.out
      clear hK K
      try simp only [List.getElem_toArray, List.getElem_cons_succ, List.getElem_cons_zero, Act.put, List.setIfInBounds_toArray, List.set_cons_zero, List.set_cons_succ]
      refine wpAnyH_take (i := 4) (v := .bool true) rfl (by kernel_rfl) (by kernel_rfl) (by kernel_rfl) (fun _ _ _ h => h) (Or.inl ⟨by rfl, fun w' hSw => by (try dsimp only at hSw); go_simp⟩) (by assumption) ?_
      simp only [List.getElem_toArray, List.getElem_cons_succ, List.getElem_cons_zero, Act.put, List.setIfInBounds_toArray, List.set_cons_zero, List.set_cons_succ]
      refine wpAnyH_take (i := 5) (v := .agg #[.string ⟨t1.toArray⟩, .slice u1 u2 u3, .bool t3, .bool t4]) rfl (by kernel_rfl) (by kernel_rfl) (by kernel_rfl) (fun _ _ _ h => h) (Or.inl ⟨by rfl, fun w' hSw => by (try dsimp only at hSw); go_simp⟩) (by assumption) ?_
      simp only [List.getElem_toArray, List.getElem_cons_succ, List.getElem_cons_zero, Act.put, List.setIfInBounds_toArray, List.set_cons_zero, List.set_cons_succ]
      refine wpAnyH_take (i := 7) (v := .agg #[.string ⟨t1.toArray⟩, .slice u1 u2 u3, .bool t3, .bool t4]) rfl (by kernel_rfl) (by kernel_rfl) (by kernel_rfl) (fun _ _ _ h => h) (Or.inl ⟨by rfl, fun w' hSw => by (try dsimp only at hSw); go_simp⟩) (by assumption) ?_
      simp only [List.getElem_toArray, List.getElem_cons_succ, List.getElem_cons_zero, Act.put, List.setIfInBounds_toArray, List.set_cons_zero, List.set_cons_succ]
      refine wpAnyH_ready (rs := [6]) (by kernel_rfl) (by simp) ?_
      refine AllReadyH.cons rfl (fun K hK => ?_) AllReadyH.nil
      try simp only [List.getElem_toArray, List.getElem_cons_succ, List.getElem_cons_zero]
      go_simp
      go_at_call 19
      refine (HP19t.out _ HX.out).mono ?_
      rintro e w7 ⟨rfl, b7⟩
      clear HX
      have HX := Lib.hid b7
      clear b7
      go_wp2_with fail
      refine hK.out _ _ ?_ (fun hHeld => ?_)
      · exact HS8.out _ HX.out
      clear hK K
      try simp only [List.getElem_toArray, List.getElem_cons_succ, List.getElem_cons_zero, Act.put, List.setIfInBounds_toArray, List.set_cons_zero, List.set_cons_succ]
      refine wpAnyH_ready (rs := [8]) (by kernel_rfl) (by simp) ?_
      refine AllReadyH.cons rfl (fun K hK => ?_) AllReadyH.nil
      try simp only [List.getElem_toArray, List.getElem_cons_succ, List.getElem_cons_zero]
      go_simp
      go_at_call 20
      refine (HP20t.out _ HX.out).mono ?_
      rintro e w7 ⟨rfl, b7⟩
      clear HX
      have HX := Lib.hid b7
      clear b7
      go_wp2_with fail
      refine hK.out _ _ ?_ (fun hHeld => ?_)
      · exact HS8.out _ HX.out
      clear hK K
      try simp only [List.getElem_toArray, List.getElem_cons_succ, List.getElem_cons_zero, Act.put, List.setIfInBounds_toArray, List.set_cons_zero, List.set_cons_succ]
      refine wpAnyH_take (i := 9) (v := .bool true) rfl (by kernel_rfl) (by kernel_rfl) (by kernel_rfl) (fun _ _ _ h => h) (Or.inl ⟨by rfl, fun w' hSw => by (try dsimp only at hSw); go_simp⟩) (by assumption) ?_
      simp only [List.getElem_toArray, List.getElem_cons_succ, List.getElem_cons_zero, Act.put, List.setIfInBounds_toArray, List.set_cons_zero, List.set_cons_succ]
      refine wpAnyH_take (i := 10) (v := .bool true) rfl (by kernel_rfl) (by kernel_rfl) (by kernel_rfl) (fun _ _ _ h => h) (Or.inl ⟨by rfl, fun w' hSw => by (try dsimp only at hSw); go_simp⟩) (by assumption) ?_
      simp only [List.getElem_toArray, List.getElem_cons_succ, List.getElem_cons_zero, Act.put, List.setIfInBounds_toArray, List.set_cons_zero, List.set_cons_succ]
      refine wpAnyH_take (i := 11) (v := .bool true) rfl (by kernel_rfl) (by kernel_rfl) (by kernel_rfl) (fun _ _ _ h => h) (Or.inl ⟨by rfl, fun w' hSw => by (try dsimp only at hSw); go_simp⟩) (by assumption) ?_
      simp only [List.getElem_toArray, List.getElem_cons_succ, List.getElem_cons_zero, Act.put, List.setIfInBounds_toArray, List.set_cons_zero, List.set_cons_succ]
      refine wpAnyH_take (i := 12) (v := .agg #[.string ⟨m1.toArray⟩, .slice s1 s2 s3, .bool m3, .bool m4]) rfl (by kernel_rfl) (by kernel_rfl) (by kernel_rfl) (fun _ _ _ h => h) (Or.inl ⟨by rfl, fun w' hSw => by (try dsimp only at hSw); go_simp⟩) (by assumption) ?_
      simp only [List.getElem_toArray, List.getElem_cons_succ, List.getElem_cons_zero, Act.put, List.setIfInBounds_toArray, List.set_cons_zero, List.set_cons_succ]
      refine wpAnyH_ready (rs := [13]) (by kernel_rfl) (by simp) ?_
      refine AllReadyH.cons rfl (fun K hK => ?_) AllReadyH.nil
      try simp only [List.getElem_toArray, List.getElem_cons_succ, List.getElem_cons_zero]
      go_simp
      go_at_call 19
      refine (HP19m.out _ HX.out).mono ?_
      rintro e w7 ⟨rfl, b7⟩
      clear HX
      have HX := Lib.hid b7
      clear b7
      go_wp2_with fail
      refine hK.out _ _ ?_ (fun hHeld => ?_)
      · exact HS8.out _ HX.out
      clear hK K
      try simp only [List.getElem_toArray, List.getElem_cons_succ, List.getElem_cons_zero, Act.put, List.setIfInBounds_toArray, List.set_cons_zero, List.set_cons_succ]
      refine wpAnyH_take (i := 14) (v := .bool true) rfl (by kernel_rfl) (by kernel_rfl) (by kernel_rfl) (fun _ _ _ h => h) (Or.inl ⟨by rfl, fun w' hSw => by (try dsimp only at hSw); go_simp⟩) (by assumption) ?_
      simp only [List.getElem_toArray, List.getElem_cons_succ, List.getElem_cons_zero, Act.put, List.setIfInBounds_toArray, List.set_cons_zero, List.set_cons_succ]
      refine wpAnyH_take (i := 15) (v := .bool true) rfl (by kernel_rfl) (by kernel_rfl) (by kernel_rfl) (fun _ _ _ h => h) (Or.inl ⟨by rfl, fun w' hSw => by (try dsimp only at hSw); go_simp⟩) (by assumption) ?_
      simp only [List.getElem_toArray, List.getElem_cons_succ, List.getElem_cons_zero, Act.put, List.setIfInBounds_toArray, List.set_cons_zero, List.set_cons_succ]
      refine wpAnyH_take (i := 16) (v := .agg #[.string ⟨m1.toArray⟩, .slice s1 s2 s3, .bool m3, .bool m4]) rfl (by kernel_rfl) (by kernel_rfl) (by kernel_rfl) (fun _ _ _ h => h) (Or.inl ⟨by rfl, fun w' hSw => by (try dsimp only at hSw); go_simp⟩) (by assumption) ?_
      simp only [List.getElem_toArray, List.getElem_cons_succ, List.getElem_cons_zero, Act.put, List.setIfInBounds_toArray, List.set_cons_zero, List.set_cons_succ]
      refine wpAnyH_take (i := 18) (v := .agg #[.string ⟨m1.toArray⟩, .slice s1 s2 s3, .bool m3, .bool m4]) rfl (by kernel_rfl) (by kernel_rfl) (by kernel_rfl) (fun _ _ _ h => h) (Or.inl ⟨by rfl, fun w' hSw => by (try dsimp only at hSw); go_simp⟩) (by assumption) ?_
      simp only [List.getElem_toArray, List.getElem_cons_succ, List.getElem_cons_zero, Act.put, List.setIfInBounds_toArray, List.set_cons_zero, List.set_cons_succ]
      refine wpAnyH_ready (rs := [17]) (by kernel_rfl) (by simp) ?_
      refine AllReadyH.cons rfl (fun K hK => ?_) AllReadyH.nil
      try simp only [List.getElem_toArray, List.getElem_cons_succ, List.getElem_cons_zero]
      go_simp
      go_at_call 16
      refine (HP16.out _ HX.out).mono ?_
      rintro e w7 ⟨q1, q2, q3, rfl, b7, hq⟩
      clear HX
      have HX := Lib.hid b7
      have HQ := Lib.hid hq
      clear b7 hq
      go_wp2_with fail
      refine hK.out _ _ ?_ (fun hHeld => ?_)
      · exact HS8.out _ HX.out
      clear hK K
      try simp only [List.getElem_toArray, List.getElem_cons_succ, List.getElem_cons_zero, Act.put, List.setIfInBounds_toArray, List.set_cons_zero, List.set_cons_succ]
      refine wpAnyH_ready (rs := [19]) (by kernel_rfl) (by simp) ?_
      refine AllReadyH.cons rfl (fun K hK => ?_) AllReadyH.nil
      try simp only [List.getElem_toArray, List.getElem_cons_succ, List.getElem_cons_zero]
      go_simp
      go_at_call 17
      refine (HP17b.out _ _ _ _ HX.out HQ.out).mono ?_
      rintro e w7 ⟨rfl, b7⟩
      clear HX HQ
      have HX := Lib.hid b7
      clear b7
      go_wp2_with fail
      refine hK.out _ _ ?_ (fun hHeld => ?_)
      · exact HS8.out _ HX.out
      clear hK K
      try simp only [List.getElem_toArray, List.getElem_cons_succ, List.getElem_cons_zero, Act.put, List.setIfInBounds_toArray, List.set_cons_zero, List.set_cons_succ]
      refine wpAnyH_take (i := 20) (v := .bool true) rfl (by kernel_rfl) (by kernel_rfl) (by kernel_rfl) (fun _ _ _ h => h) (Or.inl ⟨by rfl, fun w' hSw => by (try dsimp only at hSw); go_simp⟩) (by assumption) ?_
      simp only [List.getElem_toArray, List.getElem_cons_succ, List.getElem_cons_zero, Act.put, List.setIfInBounds_toArray, List.set_cons_zero, List.set_cons_succ]
      refine wpAnyH_take (i := 21) (v := .bool true) rfl (by kernel_rfl) (by kernel_rfl) (by kernel_rfl) (fun _ _ _ h => h) (Or.inl ⟨by rfl, fun w' hSw => by (try dsimp only at hSw); go_simp⟩) (by assumption) ?_
      simp only [List.getElem_toArray, List.getElem_cons_succ, List.getElem_cons_zero, Act.put, List.setIfInBounds_toArray, List.set_cons_zero, List.set_cons_succ]
      refine wpAnyH_take (i := 22) (v := .agg #[.string ⟨t1.toArray⟩, .slice u1 u2 u3, .bool t3, .bool t4]) rfl (by kernel_rfl) (by kernel_rfl) (by kernel_rfl) (fun _ _ _ h => h) (Or.inl ⟨by rfl, fun w' hSw => by (try dsimp only at hSw); go_simp⟩) (by assumption) ?_
      simp only [List.getElem_toArray, List.getElem_cons_succ, List.getElem_cons_zero, Act.put, List.setIfInBounds_toArray, List.set_cons_zero, List.set_cons_succ]
      refine wpAnyH_ready (rs := [23]) (by kernel_rfl) (by simp) ?_
      refine AllReadyH.cons rfl (fun K hK => ?_) AllReadyH.nil
      try simp only [List.getElem_toArray, List.getElem_cons_succ, List.getElem_cons_zero]
      go_simp
      go_at_call 19
      refine (HP19t.out _ HX.out).mono ?_
      rintro e w7 ⟨rfl, b7⟩
      clear HX
      have HX := Lib.hid b7
      clear b7
      go_wp2_with fail
      refine hK.out _ _ ?_ (fun hHeld => ?_)
      · exact HS8.out _ HX.out
      clear hK K
      try simp only [List.getElem_toArray, List.getElem_cons_succ, List.getElem_cons_zero, Act.put, List.setIfInBounds_toArray, List.set_cons_zero, List.set_cons_succ]
      refine wpAnyH_take (i := 24) (v := .bool false) rfl (by kernel_rfl) (by kernel_rfl) (by kernel_rfl) (fun _ _ _ h => h) (Or.inl ⟨by rfl, fun w' hSw => by (try dsimp only at hSw); go_simp⟩) (by assumption) ?_
      simp only [List.getElem_toArray, List.getElem_cons_succ, List.getElem_cons_zero, Act.put, List.setIfInBounds_toArray, List.set_cons_zero, List.set_cons_succ]
      refine wpAnyH_take (i := 25) (v := .bool false) rfl (by kernel_rfl) (by kernel_rfl) (by kernel_rfl) (fun _ _ _ h => h) (Or.inl ⟨by rfl, fun w' hSw => by (try dsimp only at hSw); go_simp⟩) (by assumption) ?_
      simp only [List.getElem_toArray, List.getElem_cons_succ, List.getElem_cons_zero, Act.put, List.setIfInBounds_toArray, List.set_cons_zero, List.set_cons_succ]
      refine wpAnyH_take (i := 26) (v := .agg #[.string ⟨m1.toArray⟩, .slice s1 s2 s3, .bool m3, .bool m4]) rfl (by kernel_rfl) (by kernel_rfl) (by kernel_rfl) (fun _ _ _ h => h) (Or.inl ⟨by rfl, fun w' hSw => by (try dsimp only at hSw); go_simp⟩) (by assumption) ?_
      simp only [List.getElem_toArray, List.getElem_cons_succ, List.getElem_cons_zero, Act.put, List.setIfInBounds_toArray, List.set_cons_zero, List.set_cons_succ]
      refine wpAnyH_take (i := 27) (v := .agg #[.string ⟨t1.toArray⟩, .slice u1 u2 u3, .bool t3, .bool t4]) rfl (by kernel_rfl) (by kernel_rfl) (by kernel_rfl) (fun _ _ _ h => h) (Or.inl ⟨by rfl, fun w' hSw => by (try dsimp only at hSw); go_simp⟩) (by assumption) ?_
      simp only [List.getElem_toArray, List.getElem_cons_succ, List.getElem_cons_zero, Act.put, List.setIfInBounds_toArray, List.set_cons_zero, List.set_cons_succ]
      refine wpAnyH_ready (rs := [28]) (by kernel_rfl) (by simp) ?_
      refine AllReadyH.cons rfl (fun K hK => ?_) AllReadyH.nil
      try simp only [List.getElem_toArray, List.getElem_cons_succ, List.getElem_cons_zero]
      go_simp
      go_at_call 17
      refine (HP17s.out _ HX.out).mono ?_
      rintro e w7 ⟨rfl, b7⟩
      clear HX
      have HX := Lib.hid b7
      clear b7
      go_wp2_with fail
      refine hK.out _ _ ?_ (fun hHeld => ?_)
      · exact HS8.out _ HX.out
      clear hK K
      try simp only [List.getElem_toArray, List.getElem_cons_succ, List.getElem_cons_zero, Act.put, List.setIfInBounds_toArray, List.set_cons_zero, List.set_cons_succ]
      refine wpAnyH_take (i := 29) (v := .bool true) rfl (by kernel_rfl) (by kernel_rfl) (by kernel_rfl) (fun _ _ _ h => h) (Or.inl ⟨by rfl, fun w' hSw => by (try dsimp only at hSw); go_simp⟩) (by assumption) ?_
      simp only [List.getElem_toArray, List.getElem_cons_succ, List.getElem_cons_zero, Act.put, List.setIfInBounds_toArray, List.set_cons_zero, List.set_cons_succ]
      refine wpAnyH_take (i := 30) (v := .bool true) rfl (by kernel_rfl) (by kernel_rfl) (by kernel_rfl) (fun _ _ _ h => h) (Or.inl ⟨by rfl, fun w' hSw => by (try dsimp only at hSw); go_simp⟩) (by assumption) ?_
      simp only [List.getElem_toArray, List.getElem_cons_succ, List.getElem_cons_zero, Act.put, List.setIfInBounds_toArray, List.set_cons_zero, List.set_cons_succ]
      refine wpAnyH_take (i := 31) (v := .bool true) rfl (by kernel_rfl) (by kernel_rfl) (by kernel_rfl) (fun _ _ _ h => h) (Or.inl ⟨by rfl, fun w' hSw => by (try dsimp only at hSw); go_simp⟩) (by assumption) ?_
      simp only [List.getElem_toArray, List.getElem_cons_succ, List.getElem_cons_zero, Act.put, List.setIfInBounds_toArray, List.set_cons_zero, List.set_cons_succ]
      refine wpAnyH_ready (rs := [32]) (by kernel_rfl) (by simp) ?_
      refine AllReadyH.cons rfl (fun K hK => ?_) AllReadyH.nil
      try simp only [List.getElem_toArray, List.getElem_cons_succ, List.getElem_cons_zero]
      go_simp
      go_at_call 10
      refine (HP10.out _ HX.out).mono ?_
      rintro e w7 ⟨rfl, b7⟩
      clear HX
      have HX := Lib.hid b7
      clear b7
      go_wp2_with fail
      refine hK.out _ _ ?_ (fun hHeld => ?_)
      · exact HS8.out _ HX.out
      clear hK K
      try simp only [List.getElem_toArray, List.getElem_cons_succ, List.getElem_cons_zero, Act.put, List.setIfInBounds_toArray, List.set_cons_zero, List.set_cons_succ]
      refine wpAnyH_take (i := 33) (v := .bool true) rfl (by kernel_rfl) (by kernel_rfl) (by kernel_rfl) (fun _ _ _ h => h) (Or.inl ⟨by rfl, fun w' hSw => by (try dsimp only at hSw); go_simp⟩) (by assumption) ?_
      simp only [List.getElem_toArray, List.getElem_cons_succ, List.getElem_cons_zero, Act.put, List.setIfInBounds_toArray, List.set_cons_zero, List.set_cons_succ]
      refine wpAnyH_take (i := 34) (v := .bool true) rfl (by kernel_rfl) (by kernel_rfl) (by kernel_rfl) (fun _ _ _ h => h) (Or.inl ⟨by rfl, fun w' hSw => by (try dsimp only at hSw); go_simp⟩) (by assumption) ?_
      simp only [List.getElem_toArray, List.getElem_cons_succ, List.getElem_cons_zero, Act.put, List.setIfInBounds_toArray, List.set_cons_zero, List.set_cons_succ]
      refine wpAnyH_done (by kernel_rfl) ?_ _
      go_wp2_with fail
      go_ret
      exact ⟨rfl, BWX.out.trans (HX.out.mono BWX.out.size)⟩
    | false =>
      clear HP17t
      refine wp_region_held_drew (S := (fun W' => W'.cell? ⟨w.heap.size, 0, none⟩ = some (.string ⟨t1.toArray⟩) ∧ W'.cell? ⟨w.heap.size, 1, none⟩ = some (.slice u1 u2 u3) ∧ W'.cell? ⟨w.heap.size, 2, none⟩ = some (.bool t3) ∧ W'.cell? ⟨w.heap.size, 3, none⟩ = some (.bool t4) ∧ W'.cell? ⟨w3.heap.size, 0, none⟩ = some (.string ⟨m1.toArray⟩) ∧ W'.cell? ⟨w3.heap.size, 1, none⟩ = some (.slice s1 s2 s3) ∧ W'.cell? ⟨w3.heap.size, 2, none⟩ = some (.bool m3) ∧ W'.cell? ⟨w3.heap.size, 3, none⟩ = some (.bool m4))) (by kernel_rfl) ?_ (fun hHeld => ?_)
      · exact HS8.out _ HX.out
      refine wpAnyH_take (i := 0) (v := .agg #[.string ⟨m1.toArray⟩, .slice s1 s2 s3, .bool m3, .bool m4]) rfl (by kernel_rfl) (by kernel_rfl) (by kernel_rfl) (fun _ _ _ h => h) (Or.inl ⟨by rfl, fun w' hSw => by (try dsimp only at hSw); go_simp⟩) (by assumption) ?_
      simp only [List.getElem_toArray, List.getElem_cons_succ, List.getElem_cons_zero, Act.put, List.setIfInBounds_toArray, List.set_cons_zero, List.set_cons_succ]
      refine wpAnyH_take (i := 1) (v := .agg #[.string ⟨t1.toArray⟩, .slice u1 u2 u3, .bool t3, .bool t4]) rfl (by kernel_rfl) (by kernel_rfl) (by kernel_rfl) (fun _ _ _ h => h) (Or.inl ⟨by rfl, fun w' hSw => by (try dsimp only at hSw); go_simp⟩) (by assumption) ?_
      simp only [List.getElem_toArray, List.getElem_cons_succ, List.getElem_cons_zero, Act.put, List.setIfInBounds_toArray, List.set_cons_zero, List.set_cons_succ]
      refine wpAnyH_ready (rs := [2]) (by kernel_rfl) (by simp) ?_
      refine AllReadyH.cons rfl (fun K hK => ?_) AllReadyH.nil
      try simp only [List.getElem_toArray, List.getElem_cons_succ, List.getElem_cons_zero]
      go_simp
      go_at_call 18
      refine (HP18.out _ HX.out).mono ?_
      rintro e w7 ⟨q1, q2, q3, rfl, b7, hq⟩
      clear HX
      have HX := Lib.hid b7
      have HQ := Lib.hid hq
      clear b7 hq
      go_wp2_with fail
      refine hK.out _ _ ?_ (fun hHeld => ?_)
      · exact HS8.out _ HX.out
      clear hK K
      try simp only [List.getElem_toArray, List.getElem_cons_succ, List.getElem_cons_zero, Act.put, List.setIfInBounds_toArray, List.set_cons_zero, List.set_cons_succ]
      refine wpAnyH_ready (rs := [3]) (by kernel_rfl) (by simp) ?_
      refine AllReadyH.cons rfl (fun K hK => ?_) AllReadyH.nil
      try simp only [List.getElem_toArray, List.getElem_cons_succ, List.getElem_cons_zero]
      go_simp
      go_at_call 17
      refine (HP17a.out _ _ _ _ HX.out HQ.out).mono ?_
      rintro e w7 ⟨rfl, b7⟩
      clear HX HQ
      have HX := Lib.hid b7
      clear b7
      go_wp2_with fail
      refine hK.out _ _ ?_ (fun hHeld => ?_)
      · exact HS8.out _ HX.out
      clear hK K
      try simp only [List.getElem_toArray, List.getElem_cons_succ, List.getElem_cons_zero, Act.put, List.setIfInBounds_toArray, List.set_cons_zero, List.set_cons_succ]
      refine wpAnyH_take (i := 4) (v := .bool true) rfl (by kernel_rfl) (by kernel_rfl) (by kernel_rfl) (fun _ _ _ h => h) (Or.inl ⟨by rfl, fun w' hSw => by (try dsimp only at hSw); go_simp⟩) (by assumption) ?_
      simp only [List.getElem_toArray, List.getElem_cons_succ, List.getElem_cons_zero, Act.put, List.setIfInBounds_toArray, List.set_cons_zero, List.set_cons_succ]
      refine wpAnyH_take (i := 5) (v := .agg #[.string ⟨t1.toArray⟩, .slice u1 u2 u3, .bool t3, .bool t4]) rfl (by kernel_rfl) (by kernel_rfl) (by kernel_rfl) (fun _ _ _ h => h) (Or.inl ⟨by rfl, fun w' hSw => by (try dsimp only at hSw); go_simp⟩) (by assumption) ?_
      simp only [List.getElem_toArray, List.getElem_cons_succ, List.getElem_cons_zero, Act.put, List.setIfInBounds_toArray, List.set_cons_zero, List.set_cons_succ]
      refine wpAnyH_take (i := 7) (v := .agg #[.string ⟨t1.toArray⟩, .slice u1 u2 u3, .bool t3, .bool t4]) rfl (by kernel_rfl) (by kernel_rfl) (by kernel_rfl) (fun _ _ _ h => h) (Or.inl ⟨by rfl, fun w' hSw => by (try dsimp only at hSw); go_simp⟩) (by assumption) ?_
      simp only [List.getElem_toArray, List.getElem_cons_succ, List.getElem_cons_zero, Act.put, List.setIfInBounds_toArray, List.set_cons_zero, List.set_cons_succ]
      refine wpAnyH_ready (rs := [6]) (by kernel_rfl) (by simp) ?_
      refine AllReadyH.cons rfl (fun K hK => ?_) AllReadyH.nil
      try simp only [List.getElem_toArray, List.getElem_cons_succ, List.getElem_cons_zero]
      go_simp
      go_at_call 19
      refine (HP19t.out _ HX.out).mono ?_
      rintro e w7 ⟨rfl, b7⟩
      clear HX
      have HX := Lib.hid b7
      clear b7
      go_wp2_with fail
      refine hK.out _ _ ?_ (fun hHeld => ?_)
      · exact HS8.out _ HX.out
      clear hK K
      try simp only [List.getElem_toArray, List.getElem_cons_succ, List.getElem_cons_zero, Act.put, List.setIfInBounds_toArray, List.set_cons_zero, List.set_cons_succ]
      refine wpAnyH_ready (rs := [8]) (by kernel_rfl) (by simp) ?_
      refine AllReadyH.cons rfl (fun K hK => ?_) AllReadyH.nil
      try simp only [List.getElem_toArray, List.getElem_cons_succ, List.getElem_cons_zero]
      go_simp
      go_at_call 20
      refine (HP20t.out _ HX.out).mono ?_
      rintro e w7 ⟨rfl, b7⟩
      clear HX
      have HX := Lib.hid b7
      clear b7
      go_wp2_with fail
      refine hK.out _ _ ?_ (fun hHeld => ?_)
      · exact HS8.out _ HX.out
      clear hK K
      try simp only [List.getElem_toArray, List.getElem_cons_succ, List.getElem_cons_zero, Act.put, List.setIfInBounds_toArray, List.set_cons_zero, List.set_cons_succ]
      refine wpAnyH_take (i := 9) (v := .bool true) rfl (by kernel_rfl) (by kernel_rfl) (by kernel_rfl) (fun _ _ _ h => h) (Or.inl ⟨by rfl, fun w' hSw => by (try dsimp only at hSw); go_simp⟩) (by assumption) ?_
      simp only [List.getElem_toArray, List.getElem_cons_succ, List.getElem_cons_zero, Act.put, List.setIfInBounds_toArray, List.set_cons_zero, List.set_cons_succ]
      refine wpAnyH_take (i := 10) (v := .bool true) rfl (by kernel_rfl) (by kernel_rfl) (by kernel_rfl) (fun _ _ _ h => h) (Or.inl ⟨by rfl, fun w' hSw => by (try dsimp only at hSw); go_simp⟩) (by assumption) ?_
      simp only [List.getElem_toArray, List.getElem_cons_succ, List.getElem_cons_zero, Act.put, List.setIfInBounds_toArray, List.set_cons_zero, List.set_cons_succ]
      refine wpAnyH_take (i := 11) (v := .bool true) rfl (by kernel_rfl) (by kernel_rfl) (by kernel_rfl) (fun _ _ _ h => h) (Or.inl ⟨by rfl, fun w' hSw => by (try dsimp only at hSw); go_simp⟩) (by assumption) ?_
      simp only [List.getElem_toArray, List.getElem_cons_succ, List.getElem_cons_zero, Act.put, List.setIfInBounds_toArray, List.set_cons_zero, List.set_cons_succ]
      refine wpAnyH_take (i := 12) (v := .agg #[.string ⟨m1.toArray⟩, .slice s1 s2 s3, .bool m3, .bool m4]) rfl (by kernel_rfl) (by kernel_rfl) (by kernel_rfl) (fun _ _ _ h => h) (Or.inl ⟨by rfl, fun w' hSw => by (try dsimp only at hSw); go_simp⟩) (by assumption) ?_
      simp only [List.getElem_toArray, List.getElem_cons_succ, List.getElem_cons_zero, Act.put, List.setIfInBounds_toArray, List.set_cons_zero, List.set_cons_succ]
      refine wpAnyH_ready (rs := [13]) (by kernel_rfl) (by simp) ?_
      refine AllReadyH.cons rfl (fun K hK => ?_) AllReadyH.nil
      try simp only [List.getElem_toArray, List.getElem_cons_succ, List.getElem_cons_zero]
      go_simp
      go_at_call 19
      refine (HP19m.out _ HX.out).mono ?_
      rintro e w7 ⟨rfl, b7⟩
      clear HX
      have HX := Lib.hid b7
      clear b7
      go_wp2_with fail
      refine hK.out _ _ ?_ (fun hHeld => ?_)
      · exact HS8.out _ HX.out
      clear hK K
      try simp only [List.getElem_toArray, List.getElem_cons_succ, List.getElem_cons_zero, Act.put, List.setIfInBounds_toArray, List.set_cons_zero, List.set_cons_succ]
      refine wpAnyH_take (i := 14) (v := .bool true) rfl (by kernel_rfl) (by kernel_rfl) (by kernel_rfl) (fun _ _ _ h => h) (Or.inl ⟨by rfl, fun w' hSw => by (try dsimp only at hSw); go_simp⟩) (by assumption) ?_
      simp only [List.getElem_toArray, List.getElem_cons_succ, List.getElem_cons_zero, Act.put, List.setIfInBounds_toArray, List.set_cons_zero, List.set_cons_succ]
      refine wpAnyH_take (i := 15) (v := .bool true) rfl (by kernel_rfl) (by kernel_rfl) (by kernel_rfl) (fun _ _ _ h => h) (Or.inl ⟨by rfl, fun w' hSw => by (try dsimp only at hSw); go_simp⟩) (by assumption) ?_
      simp only [List.getElem_toArray, List.getElem_cons_succ, List.getElem_cons_zero, Act.put, List.setIfInBounds_toArray, List.set_cons_zero, List.set_cons_succ]
      refine wpAnyH_take (i := 16) (v := .agg #[.string ⟨m1.toArray⟩, .slice s1 s2 s3, .bool m3, .bool m4]) rfl (by kernel_rfl) (by kernel_rfl) (by kernel_rfl) (fun _ _ _ h => h) (Or.inl ⟨by rfl, fun w' hSw => by (try dsimp only at hSw); go_simp⟩) (by assumption) ?_
      simp only [List.getElem_toArray, List.getElem_cons_succ, List.getElem_cons_zero, Act.put, List.setIfInBounds_toArray, List.set_cons_zero, List.set_cons_succ]
      refine wpAnyH_take (i := 18) (v := .agg #[.string ⟨m1.toArray⟩, .slice s1 s2 s3, .bool m3, .bool m4]) rfl (by kernel_rfl) (by kernel_rfl) (by kernel_rfl) (fun _ _ _ h => h) (Or.inl ⟨by rfl, fun w' hSw => by (try dsimp only at hSw); go_simp⟩) (by assumption) ?_
      simp only [List.getElem_toArray, List.getElem_cons_succ, List.getElem_cons_zero, Act.put, List.setIfInBounds_toArray, List.set_cons_zero, List.set_cons_succ]
      refine wpAnyH_ready (rs := [17]) (by kernel_rfl) (by simp) ?_
      refine AllReadyH.cons rfl (fun K hK => ?_) AllReadyH.nil
      try simp only [List.getElem_toArray, List.getElem_cons_succ, List.getElem_cons_zero]
      go_simp
      go_at_call 16
      refine (HP16.out _ HX.out).mono ?_
      rintro e w7 ⟨q1, q2, q3, rfl, b7, hq⟩
      clear HX
      have HX := Lib.hid b7
      have HQ := Lib.hid hq
      clear b7 hq
      go_wp2_with fail
      refine hK.out _ _ ?_ (fun hHeld => ?_)
      · exact HS8.out _ HX.out
      clear hK K
      try simp only [List.getElem_toArray, List.getElem_cons_succ, List.getElem_cons_zero, Act.put, List.setIfInBounds_toArray, List.set_cons_zero, List.set_cons_succ]
      refine wpAnyH_ready (rs := [19]) (by kernel_rfl) (by simp) ?_
      refine AllReadyH.cons rfl (fun K hK => ?_) AllReadyH.nil
      try simp only [List.getElem_toArray, List.getElem_cons_succ, List.getElem_cons_zero]
      go_simp
      go_at_call 17
      refine (HP17b.out _ _ _ _ HX.out HQ.out).mono ?_
      rintro e w7 ⟨rfl, b7⟩
      clear HX HQ
      have HX := Lib.hid b7
      clear b7
      go_wp2_with fail
      refine hK.out _ _ ?_ (fun hHeld => ?_)
      · exact HS8.out _ HX.out
      clear hK K
      try simp only [List.getElem_toArray, List.getElem_cons_succ, List.getElem_cons_zero, Act.put, List.setIfInBounds_toArray, List.set_cons_zero, List.set_cons_succ]
      refine wpAnyH_take (i := 20) (v := .bool true) rfl (by kernel_rfl) (by kernel_rfl) (by kernel_rfl) (fun _ _ _ h => h) (Or.inl ⟨by rfl, fun w' hSw => by (try dsimp only at hSw); go_simp⟩) (by assumption) ?_
      simp only [List.getElem_toArray, List.getElem_cons_succ, List.getElem_cons_zero, Act.put, List.setIfInBounds_toArray, List.set_cons_zero, List.set_cons_succ]
      refine wpAnyH_take (i := 21) (v := .bool true) rfl (by kernel_rfl) (by kernel_rfl) (by kernel_rfl) (fun _ _ _ h => h) (Or.inl ⟨by rfl, fun w' hSw => by (try dsimp only at hSw); go_simp⟩) (by assumption) ?_
      simp only [List.getElem_toArray, List.getElem_cons_succ, List.getElem_cons_zero, Act.put, List.setIfInBounds_toArray, List.set_cons_zero, List.set_cons_succ]
      refine wpAnyH_take (i := 22) (v := .agg #[.string ⟨t1.toArray⟩, .slice u1 u2 u3, .bool t3, .bool t4]) rfl (by kernel_rfl) (by kernel_rfl) (by kernel_rfl) (fun _ _ _ h => h) (Or.inl ⟨by rfl, fun w' hSw => by (try dsimp only at hSw); go_simp⟩) (by assumption) ?_
      simp only [List.getElem_toArray, List.getElem_cons_succ, List.getElem_cons_zero, Act.put, List.setIfInBounds_toArray, List.set_cons_zero, List.set_cons_succ]
      refine wpAnyH_ready (rs := [23]) (by kernel_rfl) (by simp) ?_
      refine AllReadyH.cons rfl (fun K hK => ?_) AllReadyH.nil
      try simp only [List.getElem_toArray, List.getElem_cons_succ, List.getElem_cons_zero]
      go_simp
      go_at_call 19
      refine (HP19t.out _ HX.out).mono ?_
      rintro e w7 ⟨rfl, b7⟩
      clear HX
      have HX := Lib.hid b7
      clear b7
      go_wp2_with fail
      refine hK.out _ _ ?_ (fun hHeld => ?_)
      · exact HS8.out _ HX.out
      clear hK K
      try simp only [List.getElem_toArray, List.getElem_cons_succ, List.getElem_cons_zero, Act.put, List.setIfInBounds_toArray, List.set_cons_zero, List.set_cons_succ]
      refine wpAnyH_take (i := 24) (v := .bool true) rfl (by kernel_rfl) (by kernel_rfl) (by kernel_rfl) (fun _ _ _ h => h) (Or.inl ⟨by rfl, fun w' hSw => by (try dsimp only at hSw); go_simp⟩) (by assumption) ?_
      simp only [List.getElem_toArray, List.getElem_cons_succ, List.getElem_cons_zero, Act.put, List.setIfInBounds_toArray, List.set_cons_zero, List.set_cons_succ]
      refine wpAnyH_take (i := 25) (v := .bool true) rfl (by kernel_rfl) (by kernel_rfl) (by kernel_rfl) (fun _ _ _ h => h) (Or.inl ⟨by rfl, fun w' hSw => by (try dsimp only at hSw); go_simp⟩) (by assumption) ?_
      simp only [List.getElem_toArray, List.getElem_cons_succ, List.getElem_cons_zero, Act.put, List.setIfInBounds_toArray, List.set_cons_zero, List.set_cons_succ]
      refine wpAnyH_take (i := 26) (v := undef) rfl (by kernel_rfl) (by kernel_rfl) (by kernel_rfl) (fun _ _ _ h => h) (Or.inr ⟨by rfl, rfl⟩) (by assumption) ?_
      simp only [List.getElem_toArray, List.getElem_cons_succ, List.getElem_cons_zero, Act.put, List.setIfInBounds_toArray, List.set_cons_zero, List.set_cons_succ]
      refine wpAnyH_take (i := 27) (v := undef) rfl (by kernel_rfl) (by kernel_rfl) (by kernel_rfl) (fun _ _ _ h => h) (Or.inr ⟨by rfl, rfl⟩) (by assumption) ?_
      simp only [List.getElem_toArray, List.getElem_cons_succ, List.getElem_cons_zero, Act.put, List.setIfInBounds_toArray, List.set_cons_zero, List.set_cons_succ]
      refine wpAnyH_take (i := 28) (v := undef) rfl (by kernel_rfl) (by kernel_rfl) (by kernel_rfl) (fun _ _ _ h => h) (Or.inr ⟨by rfl, rfl⟩) (by assumption) ?_
      simp only [List.getElem_toArray, List.getElem_cons_succ, List.getElem_cons_zero, Act.put, List.setIfInBounds_toArray, List.set_cons_zero, List.set_cons_succ]
      refine wpAnyH_take (i := 29) (v := .bool true) rfl (by kernel_rfl) (by kernel_rfl) (by kernel_rfl) (fun _ _ _ h => h) (Or.inl ⟨by rfl, fun w' hSw => by (try dsimp only at hSw); go_simp⟩) (by assumption) ?_
      simp only [List.getElem_toArray, List.getElem_cons_succ, List.getElem_cons_zero, Act.put, List.setIfInBounds_toArray, List.set_cons_zero, List.set_cons_succ]
      refine wpAnyH_take (i := 30) (v := .bool true) rfl (by kernel_rfl) (by kernel_rfl) (by kernel_rfl) (fun _ _ _ h => h) (Or.inl ⟨by rfl, fun w' hSw => by (try dsimp only at hSw); go_simp⟩) (by assumption) ?_
      simp only [List.getElem_toArray, List.getElem_cons_succ, List.getElem_cons_zero, Act.put, List.setIfInBounds_toArray, List.set_cons_zero, List.set_cons_succ]
      refine wpAnyH_take (i := 31) (v := .bool true) rfl (by kernel_rfl) (by kernel_rfl) (by kernel_rfl) (fun _ _ _ h => h) (Or.inl ⟨by rfl, fun w' hSw => by (try dsimp only at hSw); go_simp⟩) (by assumption) ?_
      simp only [List.getElem_toArray, List.getElem_cons_succ, List.getElem_cons_zero, Act.put, List.setIfInBounds_toArray, List.set_cons_zero, List.set_cons_succ]
      refine wpAnyH_ready (rs := [32]) (by kernel_rfl) (by simp) ?_
      refine AllReadyH.cons rfl (fun K hK => ?_) AllReadyH.nil
      try simp only [List.getElem_toArray, List.getElem_cons_succ, List.getElem_cons_zero]
      go_simp
      go_at_call 10
      refine (HP10.out _ HX.out).mono ?_
      rintro e w7 ⟨rfl, b7⟩
      clear HX
      have HX := Lib.hid b7
      clear b7
      go_wp2_with fail
      refine hK.out _ _ ?_ (fun hHeld => ?_)
      · exact HS8.out _ HX.out
      clear hK K
      try simp only [List.getElem_toArray, List.getElem_cons_succ, List.getElem_cons_zero, Act.put, List.setIfInBounds_toArray, List.set_cons_zero, List.set_cons_succ]
      refine wpAnyH_take (i := 33) (v := .bool true) rfl (by kernel_rfl) (by kernel_rfl) (by kernel_rfl) (fun _ _ _ h => h) (Or.inl ⟨by rfl, fun w' hSw => by (try dsimp only at hSw); go_simp⟩) (by assumption) ?_
      simp only [List.getElem_toArray, List.getElem_cons_succ, List.getElem_cons_zero, Act.put, List.setIfInBounds_toArray, List.set_cons_zero, List.set_cons_succ]
      refine wpAnyH_take (i := 34) (v := .bool true) rfl (by kernel_rfl) (by kernel_rfl) (by kernel_rfl) (fun _ _ _ h => h) (Or.inl ⟨by rfl, fun w' hSw => by (try dsimp only at hSw); go_simp⟩) (by assumption) ?_
      simp only [List.getElem_toArray, List.getElem_cons_succ, List.getElem_cons_zero, Act.put, List.setIfInBounds_toArray, List.set_cons_zero, List.set_cons_succ]
      refine wpAnyH_done (by kernel_rfl) ?_ _
      go_wp2_with fail
      go_ret
      exact ⟨rfl, BWX.out.trans (HX.out.mono BWX.out.size)⟩
end Go.Proofs.YtienjlbpaedbjaaDoor
