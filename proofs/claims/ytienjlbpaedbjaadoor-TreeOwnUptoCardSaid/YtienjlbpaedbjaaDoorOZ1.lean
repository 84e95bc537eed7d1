/- The walk of TreeSame. -/
import Derived.Test.YtienjlbpaedbjaaDoorOQk
namespace Go.Proofs.YtienjlbpaedbjaaDoor
open Go.RowKit

theorem longB_false {l : List Nd} (h : longB l = false) : nlL l ≤ 600 ∧ dpL l ≤ 40 := by
  unfold longB at h
  simp only [Bool.or_eq_false_iff, decide_eq_false_iff_not] at h
  omega
def hG (t : Tab) : Hd := ⟨0, 0, 0, [], [], t⟩
def nvG (t : Tab) (r : PV) : NV := ⟨0, 0, 0, nilP, nilP, nilP, t.cols, r, t.box, t.all⟩
theorem hd_g {S : Nat → Prop} {w : World} {t : Tab} {r : PV} (h : TrS S w (pv r) t.rows) : HdIs S w (nvG t r) (hG t) := ⟨rfl, rfl, rfl, FsS.nil _ _ _ _, GrS.nil _ _, rfl, h, rfl, rfl⟩
theorem nl_g (t : Tab) : nlL [.mk (hG t) []] = 3 + t.cols.length + trls t.rows := by
  simp [nlL, nlN, hdl, hG, lens]
theorem nl_g2 (s t : Tab) : nlL [.mk (hG s) [], .mk (hG t) []] = 3 + s.cols.length + trls s.rows + (3 + t.cols.length + trls t.rows) := by
  simp [nlL, nlN, hdl, hG, lens]
theorem grids_in {w : World} {s t : Tab} {r1 r2 : PV} {B : Nat} (hs : TrS (fun b => b < B) w (pv r1) s.rows) (ht : TrS (fun b => b < B) w (pv r2) t.rows) (hB : B ≤ w.heap.size) :
    NsS (fun b => b < w.heap.size + 1) (w.alloc (.cells (flatV ncell [nvG s r1, nvG t r2]).toArray 39)) (.slice (some ⟨w.heap.size, 0, none⟩) 2 2) [.mk (hG s) [], .mk (hG t) []] :=
  (ns_lit w [nvG s r1, nvG t r2] [.mk (hG s) [], .mk (hG t) []] rfl (fun b (q : b < w.heap.size) => q) (fun i x y a b => by
    rcases two_at a b with ⟨rfl, rfl⟩ | ⟨rfl, rfl⟩
    · exact ⟨hd_g (hs.mono (fun b q => Nat.lt_of_lt_of_le q hB)), NsS.nil _ _⟩
    · exact ⟨hd_g (ht.mono (fun b q => Nat.lt_of_lt_of_le q hB)), NsS.nil _ _⟩)).mono (fun b q => by rcases q with q | q <;> omega)
set_option maxRecDepth 100000 in
theorem treesame_any (a b : List Nd) (s t : Tab) (r1 r2 : PV) (va vb : Value) (w : World) (hU : U8 w) (ha : NsS (fun b => b < w.heap.size) w va a) (hb : NsS (fun b => b < w.heap.size) w vb b)
    (hs : TrS (fun b => b < w.heap.size) w (pv r1) s.rows) (ht : TrS (fun b => b < w.heap.size) w (pv r2) t.rows) (la : nlL a ≤ 4000000) (lb : nlL b ≤ 4000000) (ls : s.cols.length + trls s.rows ≤ 4000000) (lt : t.cols.length + trls t.rows ≤ 4000000) :
    Calls Tryd.prog 7 #[va, vb, tabV s r1, tabV t r2] w fun e w' => e = .returned (.bool true) ∧ Below w.heap.size w w' := by
  have HK : Hid (∀ W, Below w.heap.size w W → Calls Tryd.prog 10 #[] W fun e w' => e = .returned (.bool true) ∧ Below w.heap.size w w') :=
    Lib.hid (fun W hb => (pknown_any W (hU.below hb)).mono fun e w' ⟨e1, e2⟩ => ⟨e1, hb.trans (e2.mono hb.size)⟩)
  obtain ⟨W0, hW0⟩ : ∃ W, W = (w.alloc (.cells (tabL s r1).toArray 35)).alloc (.cells (tabL t r2).toArray 35) := ⟨_, rfl⟩
  have b0 : Below w.heap.size w W0 := by rw [hW0]; exact bel2 w _ _
  have HLA := Lib.hid (plong_any _ a va W0 (by omega) (below_ns ha b0 (fun b q => q)))
  have HLB : Hid (∀ m, Calls Tryd.prog 9 #[vb] (W0.drewN m) (RdN (.bool (longB b)) (W0.drewN m))) := Lib.hid (fun m => plong_any _ b vb _ (by omega) ((below_ns hb b0 (fun b q => q)).drewN m))
  have HLG : Hid (∀ m, Calls Tryd.prog 9 #[.slice (some ⟨W0.heap.size, 0, none⟩) 2 2] ((W0.drewN m).alloc (.cells (flatV ncell [nvG s r1, nvG t r2]).toArray 39)) (RdN (.bool (longB [.mk (hG s) [], .mk (hG t) []])) ((W0.drewN m).alloc (.cells (flatV ncell [nvG s r1, nvG t r2]).toArray 39)))) := Lib.hid (fun m => by
    have b1 := below_drewN b0 m
    have := grids_in (hs.keep (Kp.below b1 (fun b q => q))) (ht.keep (Kp.below b1 (fun b q => q))) b1.size
    exact plong_any _ _ _ _ (by rw [nl_g2]; omega) this)
  have HSM : Hid (longB a = false → longB b = false → longB [.mk (hG s) [], .mk (hG t) []] = false → nlL a ≤ 600 ∧ nlL b ≤ 600 ∧ trls s.rows ≤ 600 ∧ trls t.rows ≤ 600) := Lib.hid (fun h1 h2 h3 => by
    have k1 := longB_false h1
    have k2 := longB_false h2
    have k3 := longB_false h3
    rw [nl_g2] at k3
    omega)
  obtain ⟨xa, hxa⟩ : ∃ x, longB a = x := ⟨_, rfl⟩
  obtain ⟨xb, hxb⟩ : ∃ x, longB b = x := ⟨_, rfl⟩
  obtain ⟨xg, hxg⟩ : ∃ x, longB [.mk (hG s) [], .mk (hG t) []] = x := ⟨_, rfl⟩
  rw [hxa] at HLA HSM
  rw [hxb] at HLB HSM
  rw [hxg] at HLG HSM
  have B0 := Lib.hid b0
  have HA := Lib.hid ha
  have HB := Lib.hid hb
  have HS := Lib.hid hs
  have HT := Lib.hid ht
  obtain ⟨u1, u2, u3⟩ := r1
  obtain ⟨v1, v2, v3⟩ := r2
  obtain ⟨s1, s2, s3, s4⟩ := s
  obtain ⟨t1, t2, t3, t4⟩ := t
  have HCB : Hid (∀ W, Below W0.heap.size W0 W → (W.cell? ⟨w.heap.size, 0, none⟩ = some (.string ⟨s1.toArray⟩) ∧ W.cell? ⟨w.heap.size, 1, none⟩ = some (.slice u1 u2 u3) ∧ W.cell? ⟨w.heap.size, 2, none⟩ = some (.bool s3) ∧ W.cell? ⟨w.heap.size, 3, none⟩ = some (.bool s4)) ∧
      (W.cell? ⟨w.heap.size + 1, 0, none⟩ = some (.string ⟨t1.toArray⟩) ∧ W.cell? ⟨w.heap.size + 1, 1, none⟩ = some (.slice v1 v2 v3) ∧ W.cell? ⟨w.heap.size + 1, 2, none⟩ = some (.bool t3) ∧ W.cell? ⟨w.heap.size + 1, 3, none⟩ = some (.bool t4))) := Lib.hid (fun W hb => by
    have e : W0.heap.size = w.heap.size + 1 + 1 := by rw [hW0, World.size_alloc, World.size_alloc]
    have e1 : ∀ j, W0.cell? ⟨w.heap.size, j, none⟩ = (tabL ⟨s1, s2, s3, s4⟩ (u1, u2, u3)).toArray[j]? := fun j => by
      rw [hW0, World.cell?_alloc_lt _ _ _ (by rw [World.size_alloc]; exact Nat.lt_succ_self _)]
      exact World.cell?_alloc_new w _ _ j
    have e2 : ∀ j, W0.cell? ⟨w.heap.size + 1, j, none⟩ = (tabL ⟨t1, t2, t3, t4⟩ (v1, v2, v3)).toArray[j]? := fun j => by
      rw [hW0]
      have := World.cell?_alloc_new (w.alloc (.cells (tabL ⟨s1, s2, s3, s4⟩ (u1, u2, u3)).toArray 35)) (tabL ⟨t1, t2, t3, t4⟩ (v1, v2, v3)).toArray 35 j
      rw [World.size_alloc] at this
      exact this
    refine ⟨⟨?_, ?_, ?_, ?_⟩, ?_, ?_, ?_, ?_⟩
    all_goals
      rw [hb.cell (show _ < W0.heap.size by rw [e]; first | (simp; done) | (simp; omega))]
      first
        | (rw [e1]; rfl)
        | (rw [e2]; rfl))
  have HW0 : Hid (W0 = (w.alloc (.cells #[.string ⟨s1.toArray⟩, .slice u1 u2 u3, .bool s3, .bool s4] 35)).alloc (.cells #[.string ⟨t1.toArray⟩, .slice v1 v2 v3, .bool t3, .bool t4] 35)) := Lib.hid hW0
  clear hxa hxb hxg ha hb hs ht la lb ls lt hW0
  have HBD : Hid (∀ m, Below w.heap.size w (W0.drewN m)) := Lib.hid (fun m => below_drewN B0.out m)
  cases xa with
  | true =>
    clear HLB HLG HSM HCB
    go_enter Tryd.func7, Tryd.ntmps7
    simp only [tabV, pv]
    go_wp2_with fail
    rw [← HW0.out]
    refine HLA.out.mono ?_
    rintro e w1 ⟨rfl, m1, hw1⟩
    have HBK : Hid (Below w.heap.size w w1) := Lib.hid (by rw [hw1]; exact HBD.out m1)
    clear hw1
    go_wp2_with fail
    refine (HK.out _ HBK.out).mono ?_
    rintro e w9 ⟨rfl, b9⟩
    have B9 := Lib.hid b9
    clear b9
    go_wp2_with fail
    go_ret
    exact ⟨rfl, B9.out⟩
  | false =>
    cases xb with
    | true =>
      clear HLG HSM HCB
      go_enter Tryd.func7, Tryd.ntmps7
      simp only [tabV, pv]
      go_wp2_with fail
      rw [← HW0.out]
      refine HLA.out.mono ?_
      rintro e w1 ⟨rfl, m1, hw1⟩
      have H2 := Lib.hid (HLB.out m1)
      rw [← hw1] at H2
      have HW1 := Lib.hid hw1
      clear hw1 HLB HLA
      go_wp2_with fail
      refine H2.out.mono ?_
      rintro e w2 ⟨rfl, m2, hw2⟩
      have HBK : Hid (Below w.heap.size w w2) := Lib.hid (by rw [hw2, HW1.out, World.drewN_drewN]; exact HBD.out _)
      clear hw2 H2
      go_wp2_with fail
      refine (HK.out _ HBK.out).mono ?_
      rintro e w9 ⟨rfl, b9⟩
      have B9 := Lib.hid b9
      clear b9
      go_wp2_with fail
      go_ret
      exact ⟨rfl, B9.out⟩
    | false =>
      go_enter Tryd.func7, Tryd.ntmps7
      simp only [tabV, pv]
      go_wp2_with fail
      rw [← HW0.out]
      refine HLA.out.mono ?_
      rintro e w1 ⟨rfl, m1, hw1⟩
      have H2 := Lib.hid (HLB.out m1)
      rw [← hw1] at H2
      have HW1 := Lib.hid hw1
      clear hw1 HLB HLA
      go_wp2_with fail
      refine H2.out.mono ?_
      rintro e w2 ⟨rfl, m2, hw2⟩
      have HW2 : Hid (w2 = W0.drewN (m1 + m2)) := Lib.hid (by rw [hw2, HW1.out, World.drewN_drewN])
      have z2 : W0.heap.size = w2.heap.size := by rw [HW2.out]; rfl
      obtain ⟨W3, hW3⟩ : ∃ W, W = w2.alloc (.cells (flatV ncell [nvG ⟨s1, s2, s3, s4⟩ (u1, u2, u3), nvG ⟨t1, t2, t3, t4⟩ (v1, v2, v3)]).toArray 39) := ⟨_, rfl⟩
      have H3 := Lib.hid (HLG.out (m1 + m2))
      rw [← HW2.out, z2, ← hW3] at H3
      have HW3 : Hid (W3 = w2.alloc (.cells #[.int .i64 0, .int .i64 0, .int .i64 0, .slice none 0 0, .slice none 0 0, .slice none 0 0, .string ⟨s1.toArray⟩, .slice u1 u2 u3, .bool s3, .bool s4, .int .i64 0, .int .i64 0, .int .i64 0, .slice none 0 0, .slice none 0 0, .slice none 0 0, .string ⟨t1.toArray⟩, .slice v1 v2 v3, .bool t3, .bool t4] 39)) := Lib.hid hW3
      have b2 : Below W0.heap.size W0 w2 := by rw [HW2.out]; exact below_drewN (Below.refl _ _) _
      obtain ⟨⟨p0, p1, p2, p3⟩, p4, p5, p6, p7⟩ := HCB.out w2 b2
      have B3 : Hid (Below W0.heap.size W0 W3) := Lib.hid (by rw [hW3]; exact b2.alloc b2.size _)
      clear hw2 H2 HLG z2 hW3 b2
      go_wp2_with fail
      rw [← HW3.out]
      refine H3.out.mono ?_
      rintro e w4 ⟨rfl, m4, hw4⟩
      have B4 : Hid (Below W0.heap.size W0 w4) := Lib.hid (by rw [hw4]; exact below_drewN B3.out m4)
      have BW4 : Hid (Below w.heap.size w w4) := Lib.hid (B0.out.trans (B4.out.mono B0.out.size))
      clear hw4 H3 p0 p1 p2 p3 p4 p5 p6 p7 HW3 HW2 HW1 B3
      cases xg with
      | true =>
        have HBK := BW4
        go_wp2_with fail
        refine (HK.out _ HBK.out).mono ?_
        rintro e w9 ⟨rfl, b9⟩
        have B9 := Lib.hid b9
        clear b9
        go_wp2_with fail
        go_ret
        exact ⟨rfl, B9.out⟩
      | false =>
        obtain ⟨l1, l2, l3, l4⟩ := HSM.out (by first | trivial | rfl) (by first | trivial | rfl) (by first | trivial | rfl)
        clear HSM
        obtain ⟨⟨p0, p1, p2, p3⟩, p4, p5, p6, p7⟩ := HCB.out w4 B4.out
        have HC0 : Hid (∀ W, Below w4.heap.size w4 W → Below w.heap.size w W) := Lib.hid (fun W hb => BW4.out.trans (hb.mono BW4.out.size))
        have HC1 : Hid (∀ W, Below w4.heap.size w4 W → (W.cell? ⟨w.heap.size, 0, none⟩ = some (.string ⟨s1.toArray⟩) ∧ W.cell? ⟨w.heap.size, 1, none⟩ = some (.slice u1 u2 u3) ∧ W.cell? ⟨w.heap.size, 2, none⟩ = some (.bool s3) ∧ W.cell? ⟨w.heap.size, 3, none⟩ = some (.bool s4)) ∧
          (W.cell? ⟨w.heap.size + 1, 0, none⟩ = some (.string ⟨t1.toArray⟩) ∧ W.cell? ⟨w.heap.size + 1, 1, none⟩ = some (.slice v1 v2 v3) ∧ W.cell? ⟨w.heap.size + 1, 2, none⟩ = some (.bool t3) ∧ W.cell? ⟨w.heap.size + 1, 3, none⟩ = some (.bool t4))) := Lib.hid (fun W hb => HCB.out W (B4.out.trans (hb.mono B4.out.size)))
        have HP : Hid (∀ W, Below w4.heap.size w4 W → Calls Tryd.prog 27 #[va, vb] W fun e w' => e = .returned (.bool (eqNs a b)) ∧ Below w4.heap.size w4 w') := Lib.hid (fun W hb => by
          have k := HC0.out W hb
          exact (psame_any _ _ _ a b rfl (by omega) (by omega) va vb W (HA.out.keep (Kp.below k (fun b q => q))) (HB.out.keep (Kp.below k (fun b q => q))) (fun b q => Nat.lt_of_lt_of_le q k.size) (fun b q => Nat.lt_of_lt_of_le q k.size)).mono fun e w' ⟨e1, e2⟩ => ⟨e1, hb.trans (e2.mono hb.size)⟩)
        have HQ : Hid (∀ W, Below w4.heap.size w4 W → Calls Tryd.prog 28 #[va, vb] W fun e w' => e = .returned (.bool (eqNs a b)) ∧ Below w4.heap.size w4 w') := Lib.hid (fun W hb => by
          have k := HC0.out W hb
          exact (rsame_any _ _ _ a b rfl (by omega) (by omega) va vb W (HA.out.keep (Kp.below k (fun b q => q))) (HB.out.keep (Kp.below k (fun b q => q))) (fun b q => Nat.lt_of_lt_of_le q k.size) (fun b q => Nat.lt_of_lt_of_le q k.size)).mono fun e w' ⟨e1, e2⟩ => ⟨e1, hb.trans (e2.mono hb.size)⟩)
        have HP2 : Hid (∀ W, Below w4.heap.size w4 W → Calls Tryd.prog 27 #[va, va] W fun e w' => e = .returned (.bool true) ∧ Below w4.heap.size w4 w') := Lib.hid (fun W hb => by
          have k := HC0.out W hb
          exact (psame_any _ _ _ a a rfl (by omega) (by omega) va va W (HA.out.keep (Kp.below k (fun b q => q))) (HA.out.keep (Kp.below k (fun b q => q))) (fun b q => Nat.lt_of_lt_of_le q k.size) (fun b q => Nat.lt_of_lt_of_le q k.size)).mono fun e w' ⟨e1, e2⟩ => ⟨by rw [e1, eqNs_true rfl], hb.trans (e2.mono hb.size)⟩)
        have HT1 : Hid (∀ W, Below w4.heap.size w4 W → Calls Tryd.prog 29 #[tabV ⟨s1, s2, s3, s4⟩ (u1, u2, u3), tabV ⟨t1, t2, t3, t4⟩ (v1, v2, v3)] W fun e w' => e = .returned (.bool (decide ((⟨s1, s2, s3, s4⟩ : Tab) = ⟨t1, t2, t3, t4⟩))) ∧ Below w4.heap.size w4 w') := Lib.hid (fun W hb => by
          have k := HC0.out W hb
          exact (psametable_any _ _ _ _ _ _ W (HS.out.keep (Kp.below k (fun b q => q))) (HT.out.keep (Kp.below k (fun b q => q))) (Nat.le_trans l3 (by decide)) (Nat.le_trans l4 (by decide)) (fun b q => Nat.lt_of_lt_of_le q k.size) (fun b q => Nat.lt_of_lt_of_le q k.size)).mono fun e w' ⟨e1, e2⟩ => ⟨e1, hb.trans (e2.mono hb.size)⟩)
        have HT2 : Hid (∀ W, Below w4.heap.size w4 W → Calls Tryd.prog 17 #[tabV ⟨s1, s2, s3, s4⟩ (u1, u2, u3), tabV ⟨t1, t2, t3, t4⟩ (v1, v2, v3)] W fun e w' => e = .returned (.bool (decide ((⟨s1, s2, s3, s4⟩ : Tab) = ⟨t1, t2, t3, t4⟩))) ∧ Below w4.heap.size w4 w') := Lib.hid (fun W hb => by
          have k := HC0.out W hb
          exact (rsametable_any _ _ _ _ _ _ W (HS.out.keep (Kp.below k (fun b q => q))) (HT.out.keep (Kp.below k (fun b q => q))) (Nat.le_trans l3 (by decide)) (Nat.le_trans l4 (by decide)) (fun b q => Nat.lt_of_lt_of_le q k.size) (fun b q => Nat.lt_of_lt_of_le q k.size)).mono fun e w' ⟨e1, e2⟩ => ⟨e1, hb.trans (e2.mono hb.size)⟩)
        obtain ⟨qs, hqs⟩ : ∃ q, eqNs a b = q := ⟨_, rfl⟩
        obtain ⟨qt, hqt⟩ : ∃ q, decide ((⟨s1, s2, s3, s4⟩ : Tab) = ⟨t1, t2, t3, t4⟩) = q := ⟨_, rfl⟩
        rw [hqs] at HP HQ
        rw [hqt] at HT1 HT2
        have HKX : Hid (∀ W, Below w4.heap.size w4 W → Calls Tryd.prog 10 #[] W fun e w' => e = .returned (.bool true) ∧ Below w4.heap.size w4 w') := Lib.hid (fun W hb => (pknown_any W (hU.below (HC0.out W hb))).mono fun e w' ⟨e1, e2⟩ => ⟨e1, hb.trans (e2.mono hb.size)⟩)
        simp only [tabV, pv] at HT1 HT2
        have HX : Hid (Below w4.heap.size w4 w4.drew) := Lib.hid (Below.refl _ w4).drew
        have eqs : (qs == qs) = true := beq_self_eq_true qs
        have eqt : (qt == qt) = true := beq_self_eq_true qt
        clear hqs hqt l1 l2 l3 l4 HCB B4 BW4 HK B0 HA HB HS HT HW0 HBD b0
        go_wp2_with fail
        go_region_held3 (fun W' => W'.cell? ⟨w.heap.size, 0, none⟩ = some (.string ⟨s1.toArray⟩) ∧ W'.cell? ⟨w.heap.size, 1, none⟩ = some (.slice u1 u2 u3) ∧ W'.cell? ⟨w.heap.size, 2, none⟩ = some (.bool s3) ∧ W'.cell? ⟨w.heap.size, 3, none⟩ = some (.bool s4) ∧ W'.cell? ⟨w.heap.size + 1, 0, none⟩ = some (.string ⟨t1.toArray⟩) ∧ W'.cell? ⟨w.heap.size + 1, 1, none⟩ = some (.slice v1 v2 v3) ∧ W'.cell? ⟨w.heap.size + 1, 2, none⟩ = some (.bool t3) ∧ W'.cell? ⟨w.heap.size + 1, 3, none⟩ = some (.bool t4))
          (first | assumption | go_keep)
          ((first
            | (go_at_call 27; (with_reducible refine (HP.out _ HX.out).mono ?_); clear HP; rintro e w7 ⟨rfl, b7⟩; clear HX; have HX := Lib.hid b7; obtain ⟨⟨y0, y1, y2, y3⟩, y4, y5, y6, y7⟩ := HC1.out w7 b7; clear b7)
            | (go_at_call 27; (with_reducible refine (HP2.out _ HX.out).mono ?_); clear HP2; rintro e w7 ⟨rfl, b7⟩; clear HX; have HX := Lib.hid b7; obtain ⟨⟨y0, y1, y2, y3⟩, y4, y5, y6, y7⟩ := HC1.out w7 b7; clear b7)
            | (go_at_call 28; (with_reducible refine (HQ.out _ HX.out).mono ?_); clear HQ; rintro e w7 ⟨rfl, b7⟩; clear HX; have HX := Lib.hid b7; obtain ⟨⟨y0, y1, y2, y3⟩, y4, y5, y6, y7⟩ := HC1.out w7 b7; clear b7)
            | (go_at_call 29; (with_reducible refine (HT1.out _ HX.out).mono ?_); clear HT1; rintro e w7 ⟨rfl, b7⟩; clear HX; have HX := Lib.hid b7; obtain ⟨⟨y0, y1, y2, y3⟩, y4, y5, y6, y7⟩ := HC1.out w7 b7; clear b7)
            | (go_at_call 17; (with_reducible refine (HT2.out _ HX.out).mono ?_); clear HT2; rintro e w7 ⟨rfl, b7⟩; clear HX; have HX := Lib.hid b7; obtain ⟨⟨y0, y1, y2, y3⟩, y4, y5, y6, y7⟩ := HC1.out w7 b7; clear b7)
            | (go_at_call 10; (with_reducible refine (HKX.out _ HX.out).mono ?_); rintro e w7 ⟨rfl, b7⟩; clear HX; have HFIN := Lib.hid (HC0.out _ b7); obtain ⟨⟨y0, y1, y2, y3⟩, y4, y5, y6, y7⟩ := HC1.out w7 b7; clear b7)))
        all_goals
          go_wp2_with fail
          go_ret
          exact ⟨rfl, HFIN.out⟩
end Go.Proofs.YtienjlbpaedbjaaDoor
