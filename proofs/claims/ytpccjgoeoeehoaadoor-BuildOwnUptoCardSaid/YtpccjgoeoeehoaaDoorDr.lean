/- The document's own answer for documents: may a node stand there? -/
import Derived.Test.YtpccjgoeoeehoaaDoorDp
set_option linter.unusedVariables false
set_option linter.unusedSimpArgs false
namespace Go.Proofs.YtpccjgoeoeehoaaDoor
open Go.RowKit
attribute [local go_sem ↓ high] binop_eqT binop_neqT
set_option maxRecDepth 100000 in
set_option maxHeartbeats 32000000 in
theorem rnode_c (S : Nat → Prop) (n : Nat) (y : Nd) (hn : cntN y = n) (hb : nlN y ≤ 90000) (x : NV) (m : Int) (w : World) (hh : HdIs S w x y.hd) (hk : NsS S w (pv x.kids) y.kids) (hS : ∀ b, S b → b < w.heap.size) (HIH : Hid (∀ (y : Nd), cntN y < n → nlN y ≤ 90000 → ∀ (x : NV) (m : Int) (w : World), HdIs S w x y.hd → NsS S w (pv x.kids) y.kids → (∀ b, S b → b < w.heap.size) → Calls Tryd.prog 51 #[.agg (ncell x).toArray, .int .i64 m] w fun e w' => e = .returned (.bool (rtN y m)) ∧ Below w.heap.size w w'))
    (hA1 : rh1 y.hd (hasK y.kids) m = true) (hA2 : rh2 y.hd (hasK y.kids) = true) (hA3 : rh3 y.hd = false) :
    Calls Tryd.prog 51 #[.agg (ncell x).toArray, .int .i64 m] w fun e w' => e = .returned (.bool (rtN y m)) ∧ Below w.heap.size w w' := by
    rw [rtN_eq, rh_eq]
    rw [cntN_eq] at hn
    rw [nlN_eq] at hb
    obtain ⟨h, ks⟩ := y
    simp only [Nd.hd, Nd.kids] at hh hk hn hb hA1 hA2 hA3 ⊢
    have hdd : hdl h = 3 + h.text.length + h.grid.cols.length + (h.rows.length + lens h.rows) + trls h.grid.rows := rfl
    have hkl := cnt_len ks
    have hkn := cnt_nlL ks
    obtain ⟨xk, xl, xn, ⟨t1, t2, t3⟩, ⟨s1, s2, s3⟩, ⟨r1, r2, r3⟩, co, ⟨q1, q2, q3⟩, xb, xa⟩ := x
    obtain ⟨w0, hw0⟩ : ∃ W, W = w.alloc (.cells (ncell ⟨xk, xl, xn, (t1, t2, t3), (s1, s2, s3), (r1, r2, r3), co, (q1, q2, q3), xb, xa⟩).toArray 40) := ⟨_, rfl⟩
    obtain ⟨bl, hbk⟩ := one_lit w _ w0 hw0
    have H0 : Hid (RS w ⟨xk, xl, xn, (t1, t2, t3), (s1, s2, s3), (r1, r2, r3), co, (q1, q2, q3), xb, xa⟩ w0) := Lib.hid ⟨bl, hbk⟩
    have e0 : xk = h.kind := hh.kind
    have e1 : xl = h.line := hh.line
    have e2 : xn = h.n := hh.n
    have et := pv_len hh.text.1
    simp only at et
    obtain ⟨ka, kc, ek⟩ := hk.len
    have ek2 : (s1, s2, s3) = (ka, ks.length, kc) := pv_eq ek
    simp only [Prod.mk.injEq] at ek2
    obtain ⟨rfl, ek4, rfl⟩ := ek2
    have hfu := rfull_of hh
    have HH := Lib.hid hh
    have HK := Lib.hid hk
    have HS := Lib.hid hS
    clear hbk bl hk hS hh ek
    subst e0 e1 e2 et ek4
    simp only [hasK_len] at hfu
    obtain ⟨fb, hfb⟩ : ∃ b, fullB h (hasK ks) = b := ⟨_, rfl⟩
    have HFB := Lib.hid hfb
    rw [hfb] at hfu
    have HFU := Lib.hid hfu
    obtain ⟨b1, hb1⟩ : ∃ b, rh1 h (hasK ks) m = b := ⟨_, rfl⟩
    obtain ⟨b2, hb2⟩ : ∃ b, rh2 h (hasK ks) = b := ⟨_, rfl⟩
    obtain ⟨b3, hb3⟩ : ∃ b, rh3 h = b := ⟨_, rfl⟩
    obtain ⟨b4, hb4⟩ : ∃ b, rtL ks h.kind = b := ⟨_, rfl⟩
    rw [hb1, hb2, hb3, hb4]
    try rw [hb1] at hA1
    try rw [hb2] at hA2
    try rw [hb3] at hA3
    have HA1 := Lib.hid hA1
    have HA2 := Lib.hid hA2
    have HA3 := Lib.hid hA3
    clear hA1 hA2 hA3
    have HB1 : Hid (b1 = (stands h.kind m && fb && decide (0 ≤ h.line) && decide (h.line ≤ 1099511627775) && sqd h.text)) := Lib.hid (by rw [← hb1, ← hfb]; rfl)
    have HB2 := Lib.hid hb2
    have HB3 := Lib.hid hb3
    have HB4 := Lib.hid hb4
    have HSQ : Hid (∀ W, Below w.heap.size w W → Calls Tryd.prog 72 #[.slice t1 h.text.length t3] W fun e w' => e = .returned (.bool (sqd h.text)) ∧ Below W.heap.size W w') := Lib.hid (fun W hW => rsqueezed_any h.text _ W (HH.out.text.keep (Kp.below hW HS.out)).1 (by omega))
    have HST := Lib.hid (fun W => rstands_any h.kind m W)
    clear hfb hfu hb1 hb2 hb3 hb4
    have HW0 := Lib.hid hw0
    obtain ⟨K, hK⟩ : ∃ k, h.kind = k := ⟨_, rfl⟩
    obtain ⟨LI, hLI⟩ : ∃ k, h.line = k := ⟨_, rfl⟩
    obtain ⟨NN, hNN⟩ : ∃ k, h.n = k := ⟨_, rfl⟩
    rw [hK, hLI] at HB1
    rw [hK] at HST
    rw [hK, hLI, hNN] at HFU H0 HW0 ⊢
    have EK := Lib.hid hK
    have EL := Lib.hid hLI
    have EN := Lib.hid hNN
    clear hK hLI hNN hw0
    simp only [ncell, pv] at HFU ⊢
    unfold ncell pv at HW0
    simp only at HW0
    go_enter Tryd.func51, Tryd.ntmps51
    go_upto_region 1 with fail
    rw [← HW0.out]
    go_cut [32] (fun c wx => c = .bool (!b1) ∧ RS w ⟨K, LI, NN, (t1, h.text.length, t3), (s1, ks.length, s3), (r1, r2, r3), co, (q1, q2, q3), xb, xa⟩ wx)
    case first =>
      clear HW0
      have key : stands K m = true ∧ fb = true ∧ 0 ≤ LI ∧ LI ≤ 1099511627775 ∧ sqd h.text = true := by
        have hx := HB1.out
        rw [HA1.out] at hx
        have hx := hx.symm
        obtain ⟨hx, hsq⟩ := Bool.and_eq_true_iff.mp hx
        obtain ⟨hx, l1⟩ := Bool.and_eq_true_iff.mp hx
        obtain ⟨hx, l0⟩ := Bool.and_eq_true_iff.mp hx
        obtain ⟨st, hf⟩ := Bool.and_eq_true_iff.mp hx
        exact ⟨st, hf, of_decide_eq_true l0, of_decide_eq_true l1, hsq⟩
      obtain ⟨st, hf, l0, l1, hsq⟩ := key
      rw [st] at HST
      subst hf
      have l0' : ¬ LI < 0 := by omega
      have l1' : ¬ LI > 1099511627775 := by omega
      rw [hsq] at HSQ
      clear st hsq l0 l1
      have c0 : w0.cell? ⟨w.heap.size, 0, none⟩ = some (.int .i64 K) := H0.out.bx.cell 0
      have c1 : w0.cell? ⟨w.heap.size, 1, none⟩ = some (.int .i64 LI) := H0.out.bx.cell 1
      have c2 : w0.cell? ⟨w.heap.size, 2, none⟩ = some (.int .i64 NN) := H0.out.bx.cell 2
      have c3 : w0.cell? ⟨w.heap.size, 3, none⟩ = some (.slice t1 h.text.length t3) := H0.out.bx.cell 3
      have c4 : w0.cell? ⟨w.heap.size, 4, none⟩ = some (.slice s1 ks.length s3) := H0.out.bx.cell 4
      have c5 : w0.cell? ⟨w.heap.size, 5, none⟩ = some (.slice r1 r2 r3) := H0.out.bx.cell 5
      have c6 : w0.cell? ⟨w.heap.size, 6, none⟩ = some (.string ⟨co.toArray⟩) := H0.out.bx.cell 6
      have c7 : w0.cell? ⟨w.heap.size, 7, none⟩ = some (.slice q1 q2 q3) := H0.out.bx.cell 7
      have c8 : w0.cell? ⟨w.heap.size, 8, none⟩ = some (.bool xb) := H0.out.bx.cell 8
      have c9 : w0.cell? ⟨w.heap.size, 9, none⟩ = some (.bool xa) := H0.out.bx.cell 9
      go_wp2_with fail
      refine (HST.out _).mono ?_
      rintro e w1 ⟨rfl, hw1⟩
      rw [hw1]
      clear hw1 HST
      go_wp2_with fail
      refine (HFU.out _).mono ?_
      rintro e w2 ⟨rfl, b2'⟩
      have H2 := Lib.hid (H0.out.keep b2')
      clear b2' HFU c0 c1 c2 c3 c4 c5 c6 c7 c8 c9
      have c1 : w2.cell? ⟨w.heap.size, 1, none⟩ = some (.int .i64 LI) := H2.out.bx.cell 1
      have c3 : w2.cell? ⟨w.heap.size, 3, none⟩ = some (.slice t1 h.text.length t3) := H2.out.bx.cell 3
      have HSQ2 := Lib.hid (HSQ.out w2 H2.out.bel)
      clear HSQ
      go_wp2_with fail
      refine HSQ2.out.mono ?_
      rintro e w3 ⟨rfl, b3'⟩
      have H3 := Lib.hid (H2.out.keep b3')
      clear b3' c1 c3 HSQ2
      go_wp2_with fail
      go_meet
      exact ⟨by rw [HA1.out, decide_eq_false (show ¬ LI < 0 by omega), decide_eq_false (show ¬ 1099511627775 < LI by omega)]; rfl, H3.out⟩
    case rest =>
      obtain ⟨rfl, hc⟩ := hcut
      have HC := Lib.hid hc
      clear hc H0 HW0 HFU HSQ HST
      cases b1
      · exact absurd HA1.out (by decide)
      · go_upto_region 3 with fail
        obtain ⟨wa, hwa⟩ : ∃ W, W = wc := ⟨_, rfl⟩
        rw [← hwa] at HC ⊢
        clear hwa
        go_cut [78] (fun c wx => c = .bool (!b2) ∧ RS w ⟨K, LI, NN, (t1, h.text.length, t3), (s1, ks.length, s3), (r1, r2, r3), co, (q1, q2, q3), xb, xa⟩ wx)
        case first =>
          have c0 : wa.cell? ⟨w.heap.size, 0, none⟩ = some (.int .i64 K) := HC.out.bx.cell 0
          have c2 : wa.cell? ⟨w.heap.size, 2, none⟩ = some (.int .i64 NN) := HC.out.bx.cell 2
          have c3 : wa.cell? ⟨w.heap.size, 3, none⟩ = some (.slice t1 h.text.length t3) := HC.out.bx.cell 3
          have c4 : wa.cell? ⟨w.heap.size, 4, none⟩ = some (.slice s1 ks.length s3) := HC.out.bx.cell 4
          have HB2' : Hid (b2 = (decide (0 ≤ NN) && decide (NN ≤ 200) && (decide (NN = 0) || K == 4 || K == 5) && (decide (h.text = []) || (decide (1 ≤ K) && decide (K ≤ 4))) && (!hasK ks || mayK K))) := Lib.hid (by rw [← HB2.out, ← EK.out, ← EN.out]; rfl)
          by_cases n0 : NN < 0
          · go_wp2_with fail
            go_meet
            exact ⟨by rw [HB2'.out, decide_eq_false (show ¬ 0 ≤ NN by omega)]; simp, HC.out⟩
          by_cases n1 : NN > 200
          · go_wp2_with fail
            go_meet
            exact ⟨by rw [HB2'.out, decide_eq_false (show ¬ NN ≤ 200 by omega)]; simp, HC.out⟩
          rw [decide_eq_true (show 0 ≤ NN by omega), decide_eq_true (show NN ≤ 200 by omega)] at HB2'
          have I45 := Lib.hid (rin45 K)
          have I14 := Lib.hid (rin1234 K)
          have I25 := Lib.hid (rin1245 K)
          rw [c45] at I45
          rw [c1234] at I14
          rw [c1245] at I25
          obtain ⟨mk, hmk⟩ : ∃ b, mayK K = b := ⟨_, rfl⟩
          rw [hmk] at I25 HB2'
          clear hmk
          by_cases gA : NN > 0
          · have hI := I45.out wa
            by_cases hq : K = 4 ∨ K = 5
            · rw [decide_eq_true hq] at hI
              have HA : Hid ((decide (NN = 0) || K == 4 || K == 5) = true) := Lib.hid (by rcases hq with e | e <;> rw [e] <;> simp)
              have HI := Lib.hid hI
              clear hI hq
              go_wp2_with fail
              refine HI.out.mono ?_
              rintro e w1 ⟨rfl, hw⟩
              have H1 := Lib.hid (HC.out.keep (below_lit wa (.cells ([.int .i64 4, .int .i64 5] : List Value).toArray 3)))
              rw [show wa.alloc (.cells ([.int .i64 4, .int .i64 5] : List Value).toArray 3) = w1 from hw.symm] at H1
              clear hw HI
              have c0 : w1.cell? ⟨w.heap.size, 0, none⟩ = some (.int .i64 K) := H1.out.bx.cell 0
              have c2 : w1.cell? ⟨w.heap.size, 2, none⟩ = some (.int .i64 NN) := H1.out.bx.cell 2
              have c3 : w1.cell? ⟨w.heap.size, 3, none⟩ = some (.slice t1 h.text.length t3) := H1.out.bx.cell 3
              have c4 : w1.cell? ⟨w.heap.size, 4, none⟩ = some (.slice s1 ks.length s3) := H1.out.bx.cell 4
              by_cases gB : (h.text.length : Int) > 0
              · have hI := I14.out w1
                by_cases hq : 1 ≤ K ∧ K ≤ 4
                · rw [decide_eq_true hq] at hI
                  have HB : Hid ((decide (h.text = []) || (decide (1 ≤ K) && decide (K ≤ 4))) = true) := Lib.hid (by rw [decide_eq_true hq.1, decide_eq_true hq.2]; simp)
                  have HI := Lib.hid hI
                  clear hI hq
                  go_wp2_with fail
                  refine HI.out.mono ?_
                  rintro e w11 ⟨rfl, hw⟩
                  have H11 := Lib.hid (H1.out.keep (below_lit w1 (.cells ([.int .i64 1, .int .i64 2, .int .i64 3, .int .i64 4] : List Value).toArray 3)))
                  rw [show w1.alloc (.cells ([.int .i64 1, .int .i64 2, .int .i64 3, .int .i64 4] : List Value).toArray 3) = w11 from hw.symm] at H11
                  clear hw HI
                  have c0 : w11.cell? ⟨w.heap.size, 0, none⟩ = some (.int .i64 K) := H11.out.bx.cell 0
                  have c2 : w11.cell? ⟨w.heap.size, 2, none⟩ = some (.int .i64 NN) := H11.out.bx.cell 2
                  have c3 : w11.cell? ⟨w.heap.size, 3, none⟩ = some (.slice t1 h.text.length t3) := H11.out.bx.cell 3
                  have c4 : w11.cell? ⟨w.heap.size, 4, none⟩ = some (.slice s1 ks.length s3) := H11.out.bx.cell 4
                  by_cases gC : (ks.length : Int) > 0
                  · have hI := I25.out w11
                    have HI := Lib.hid hI
                    clear hI
                    have HC' : Hid ((!hasK ks || mk) = mk) := Lib.hid (by rw [show hasK ks = true by rw [← hasK_len]; exact decide_eq_true (by omega)]; rfl)
                    go_wp2_with fail
                    refine HI.out.mono ?_
                    rintro e w111 ⟨rfl, hw⟩
                    have H111 := Lib.hid (H11.out.keep (below_lit w11 (.cells ([.int .i64 1, .int .i64 2, .int .i64 4, .int .i64 5] : List Value).toArray 3)))
                    rw [show w11.alloc (.cells ([.int .i64 1, .int .i64 2, .int .i64 4, .int .i64 5] : List Value).toArray 3) = w111 from hw.symm] at H111
                    clear hw HI
                    go_wp2_with fail
                    go_meet
                    exact ⟨congrArg Value.bool (by rw [HB2'.out, HA.out, HB.out, HC'.out]; simp), H111.out⟩
                  · have HC2 : Hid ((!hasK ks || mk) = true) := Lib.hid (by rw [show hasK ks = false by rw [← hasK_len]; exact decide_eq_false (by omega)]; simp)
                    go_wp2_with fail
                    go_meet
                    exact ⟨congrArg Value.bool (by rw [HB2'.out, HA.out, HB.out, HC2.out]; simp), H11.out⟩
                · rw [decide_eq_false hq] at hI
                  have HB : Hid ((decide (h.text = []) || (decide (1 ≤ K) && decide (K ≤ 4))) = false) := Lib.hid (by rw [decide_eq_false (show ¬ h.text = [] by intro e; rw [e] at gB; simp at gB)]; by_cases q1 : 1 ≤ K; (rw [decide_eq_false (show ¬ K ≤ 4 by omega)]; simp); (rw [decide_eq_false q1]; simp))
                  exfalso
                  have hx := HB2'.out
                  rw [HA2.out, HA.out, HB.out] at hx
                  simp at hx
              · have HB : Hid ((decide (h.text = []) || (decide (1 ≤ K) && decide (K ≤ 4))) = true) := Lib.hid (by rw [decide_eq_true (show h.text = [] by cases ht : h.text with | nil => rfl | cons a b => rw [ht] at gB; simp at gB)]; simp)
                by_cases gC : (ks.length : Int) > 0
                · have hI := I25.out w1
                  have HI := Lib.hid hI
                  clear hI
                  have HC' : Hid ((!hasK ks || mk) = mk) := Lib.hid (by rw [show hasK ks = true by rw [← hasK_len]; exact decide_eq_true (by omega)]; rfl)
                  go_wp2_with fail
                  refine HI.out.mono ?_
                  rintro e w101 ⟨rfl, hw⟩
                  have H101 := Lib.hid (H1.out.keep (below_lit w1 (.cells ([.int .i64 1, .int .i64 2, .int .i64 4, .int .i64 5] : List Value).toArray 3)))
                  rw [show w1.alloc (.cells ([.int .i64 1, .int .i64 2, .int .i64 4, .int .i64 5] : List Value).toArray 3) = w101 from hw.symm] at H101
                  clear hw HI
                  go_wp2_with fail
                  go_meet
                  exact ⟨congrArg Value.bool (by rw [HB2'.out, HA.out, HB.out, HC'.out]; simp), H101.out⟩
                · have HC2 : Hid ((!hasK ks || mk) = true) := Lib.hid (by rw [show hasK ks = false by rw [← hasK_len]; exact decide_eq_false (by omega)]; simp)
                  go_wp2_with fail
                  go_meet
                  exact ⟨congrArg Value.bool (by rw [HB2'.out, HA.out, HB.out, HC2.out]; simp), H1.out⟩
            · rw [decide_eq_false hq] at hI
              have HA : Hid ((decide (NN = 0) || K == 4 || K == 5) = false) := Lib.hid (by simp only [Bool.or_eq_false_iff, decide_eq_false_iff_not, beq_eq_false_iff_ne]; omega)
              exfalso
              have hx := HB2'.out
              rw [HA2.out, HA.out] at hx
              simp at hx
          · have HA : Hid ((decide (NN = 0) || K == 4 || K == 5) = true) := Lib.hid (by rw [decide_eq_true (show NN = 0 by omega)]; simp)
            by_cases gB : (h.text.length : Int) > 0
            · have hI := I14.out wa
              by_cases hq : 1 ≤ K ∧ K ≤ 4
              · rw [decide_eq_true hq] at hI
                have HB : Hid ((decide (h.text = []) || (decide (1 ≤ K) && decide (K ≤ 4))) = true) := Lib.hid (by rw [decide_eq_true hq.1, decide_eq_true hq.2]; simp)
                have HI := Lib.hid hI
                clear hI hq
                go_wp2_with fail
                refine HI.out.mono ?_
                rintro e w01 ⟨rfl, hw⟩
                have H01 := Lib.hid (HC.out.keep (below_lit wa (.cells ([.int .i64 1, .int .i64 2, .int .i64 3, .int .i64 4] : List Value).toArray 3)))
                rw [show wa.alloc (.cells ([.int .i64 1, .int .i64 2, .int .i64 3, .int .i64 4] : List Value).toArray 3) = w01 from hw.symm] at H01
                clear hw HI
                have c0 : w01.cell? ⟨w.heap.size, 0, none⟩ = some (.int .i64 K) := H01.out.bx.cell 0
                have c2 : w01.cell? ⟨w.heap.size, 2, none⟩ = some (.int .i64 NN) := H01.out.bx.cell 2
                have c3 : w01.cell? ⟨w.heap.size, 3, none⟩ = some (.slice t1 h.text.length t3) := H01.out.bx.cell 3
                have c4 : w01.cell? ⟨w.heap.size, 4, none⟩ = some (.slice s1 ks.length s3) := H01.out.bx.cell 4
                by_cases gC : (ks.length : Int) > 0
                · have hI := I25.out w01
                  have HI := Lib.hid hI
                  clear hI
                  have HC' : Hid ((!hasK ks || mk) = mk) := Lib.hid (by rw [show hasK ks = true by rw [← hasK_len]; exact decide_eq_true (by omega)]; rfl)
                  go_wp2_with fail
                  refine HI.out.mono ?_
                  rintro e w011 ⟨rfl, hw⟩
                  have H011 := Lib.hid (H01.out.keep (below_lit w01 (.cells ([.int .i64 1, .int .i64 2, .int .i64 4, .int .i64 5] : List Value).toArray 3)))
                  rw [show w01.alloc (.cells ([.int .i64 1, .int .i64 2, .int .i64 4, .int .i64 5] : List Value).toArray 3) = w011 from hw.symm] at H011
                  clear hw HI
                  go_wp2_with fail
                  go_meet
                  exact ⟨congrArg Value.bool (by rw [HB2'.out, HA.out, HB.out, HC'.out]; simp), H011.out⟩
                · have HC2 : Hid ((!hasK ks || mk) = true) := Lib.hid (by rw [show hasK ks = false by rw [← hasK_len]; exact decide_eq_false (by omega)]; simp)
                  go_wp2_with fail
                  go_meet
                  exact ⟨congrArg Value.bool (by rw [HB2'.out, HA.out, HB.out, HC2.out]; simp), H01.out⟩
              · rw [decide_eq_false hq] at hI
                have HB : Hid ((decide (h.text = []) || (decide (1 ≤ K) && decide (K ≤ 4))) = false) := Lib.hid (by rw [decide_eq_false (show ¬ h.text = [] by intro e; rw [e] at gB; simp at gB)]; by_cases q1 : 1 ≤ K; (rw [decide_eq_false (show ¬ K ≤ 4 by omega)]; simp); (rw [decide_eq_false q1]; simp))
                exfalso
                have hx := HB2'.out
                rw [HA2.out, HA.out, HB.out] at hx
                simp at hx
            · have HB : Hid ((decide (h.text = []) || (decide (1 ≤ K) && decide (K ≤ 4))) = true) := Lib.hid (by rw [decide_eq_true (show h.text = [] by cases ht : h.text with | nil => rfl | cons a b => rw [ht] at gB; simp at gB)]; simp)
              by_cases gC : (ks.length : Int) > 0
              · have hI := I25.out wa
                have HI := Lib.hid hI
                clear hI
                have HC' : Hid ((!hasK ks || mk) = mk) := Lib.hid (by rw [show hasK ks = true by rw [← hasK_len]; exact decide_eq_true (by omega)]; rfl)
                go_wp2_with fail
                refine HI.out.mono ?_
                rintro e w001 ⟨rfl, hw⟩
                have H001 := Lib.hid (HC.out.keep (below_lit wa (.cells ([.int .i64 1, .int .i64 2, .int .i64 4, .int .i64 5] : List Value).toArray 3)))
                rw [show wa.alloc (.cells ([.int .i64 1, .int .i64 2, .int .i64 4, .int .i64 5] : List Value).toArray 3) = w001 from hw.symm] at H001
                clear hw HI
                go_wp2_with fail
                go_meet
                exact ⟨congrArg Value.bool (by rw [HB2'.out, HA.out, HB.out, HC'.out]; simp), H001.out⟩
              · have HC2 : Hid ((!hasK ks || mk) = true) := Lib.hid (by rw [show hasK ks = false by rw [← hasK_len]; exact decide_eq_false (by omega)]; simp)
                go_wp2_with fail
                go_meet
                exact ⟨congrArg Value.bool (by rw [HB2'.out, HA.out, HB.out, HC2.out]; simp), HC.out⟩
        case rest =>
        obtain ⟨rfl, hc⟩ := hcut
        have HD := Lib.hid hc
        clear hc HC
        cases b2
        · exact absurd HA2.out (by decide)
        · go_upto_region 5 with fail
          obtain ⟨wb, hwb⟩ : ∃ W, W = wc := ⟨_, rfl⟩
          rw [← hwb] at HD ⊢
          clear hwb
          go_cut [5] (fun c wx => c = .bool (isNone h.grid) ∧ RS w ⟨K, LI, NN, (t1, h.text.length, t3), (s1, ks.length, s3), (r1, r2, r3), co, (q1, q2, q3), xb, xa⟩ wx)
          case first =>
            have c6 : wb.cell? ⟨w.heap.size, 6, none⟩ = some (.string ⟨co.toArray⟩) := HD.out.bx.cell 6
            have c7 : wb.cell? ⟨w.heap.size, 7, none⟩ = some (.slice q1 q2 q3) := HD.out.bx.cell 7
            have c8 : wb.cell? ⟨w.heap.size, 8, none⟩ = some (.bool xb) := HD.out.bx.cell 8
            have c9 : wb.cell? ⟨w.heap.size, 9, none⟩ = some (.bool xa) := HD.out.bx.cell 9
            have EQ : ∀ W, (eqT (.string ⟨co.toArray⟩) (.string ⟨#[]⟩)).run Tryd.prog W = .ok (.bool (decide (co = []))) W := eqT_run co []
            have HNN : Hid (isNone h.grid = (decide (co = []) && decide (q2 = 0) && !xb && !xa)) := Lib.hid (by
              have e1 : co = h.grid.cols := HH.out.cols
              have e3 : xb = h.grid.box := HH.out.box
              have e4 : xa = h.grid.all := HH.out.all
              obtain ⟨z1, z2, z3⟩ := HH.out.trows.len
              have e2 := pv_eq z3
              injection e2 with _ e5
              injection e5 with e6 _
              rw [e1, e3, e4, e6]
              unfold isNone
              congr 3
              cases h.grid.rows <;> simp)
            by_cases e0 : co = []
            · rw [decide_eq_true e0] at EQ HNN
              clear e0
              by_cases e1 : q2 = 0
              · have hb1 : ((q2 : Int) == 0) = true := by rw [e1]; rfl
                rw [decide_eq_true e1] at HNN
                clear e1
                cases xb <;> cases xa
                · go_wp2_with fail
                  go_meet
                  exact ⟨congrArg Value.bool (by rw [HNN.out]; simp), HD.out⟩
                · go_wp2_with fail
                  go_meet
                  exact ⟨congrArg Value.bool (by rw [HNN.out]; simp), HD.out⟩
                · go_wp2_with fail
                  go_meet
                  exact ⟨congrArg Value.bool (by rw [HNN.out]; simp), HD.out⟩
                · go_wp2_with fail
                  go_meet
                  exact ⟨congrArg Value.bool (by rw [HNN.out]; simp), HD.out⟩
              · have hb1 : ((q2 : Int) == 0) = false := by simp; omega
                rw [decide_eq_false e1] at HNN
                clear e1
                go_wp2_with fail
                go_meet
                exact ⟨congrArg Value.bool (by rw [HNN.out]; simp), HD.out⟩
            · rw [decide_eq_false e0] at EQ HNN
              clear e0
              go_wp2_with fail
              go_meet
              exact ⟨congrArg Value.bool (by rw [HNN.out]; simp), HD.out⟩
          case rest =>
          obtain ⟨rfl, hc⟩ := hcut
          have HE := Lib.hid hc
          clear hc HD
          obtain ⟨ng, hng⟩ : ∃ b, isNone h.grid = b := ⟨_, rfl⟩
          rw [hng]
          have HNG := Lib.hid hng
          clear hng
          go_upto_region 6 with fail
          obtain ⟨wd, hwd⟩ : ∃ W, W = wc := ⟨_, rfl⟩
          rw [← hwd] at HE ⊢
          clear hwd
          go_cut [130] (fun c wx => c = .bool (!b3) ∧ RS w ⟨K, LI, NN, (t1, h.text.length, t3), (s1, ks.length, s3), (r1, r2, r3), co, (q1, q2, q3), xb, xa⟩ wx)
          case first =>
            have c0 : wd.cell? ⟨w.heap.size, 0, none⟩ = some (.int .i64 K) := HE.out.bx.cell 0
            have c5 : wd.cell? ⟨w.heap.size, 5, none⟩ = some (.slice r1 r2 r3) := HE.out.bx.cell 5
            have c6 : wd.cell? ⟨w.heap.size, 6, none⟩ = some (.string ⟨co.toArray⟩) := HE.out.bx.cell 6
            have c7 : wd.cell? ⟨w.heap.size, 7, none⟩ = some (.slice q1 q2 q3) := HE.out.bx.cell 7
            have c8 : wd.cell? ⟨w.heap.size, 8, none⟩ = some (.bool xb) := HE.out.bx.cell 8
            have c9 : wd.cell? ⟨w.heap.size, 9, none⟩ = some (.bool xa) := HE.out.bx.cell 9
            obtain ⟨rg, hrg⟩ : ∃ b, rightT h.grid = b := ⟨_, rfl⟩
            have hR := rright_any S h.grid (q1, q2, q3) wd (HH.out.trows.keep (Kp.below HE.out.bel HS.out)) (by omega) (by omega) (fun b q => Nat.lt_of_lt_of_le (HS.out b q) HE.out.bel.size)
            have e1 : co = h.grid.cols := HH.out.cols
            have e3 : xb = h.grid.box := HH.out.box
            have e4 : xa = h.grid.all := HH.out.all
            unfold tabV pv at hR
            rw [hrg, ← e1, ← e3, ← e4] at hR
            simp only at hR
            have HR := Lib.hid hR
            have HB3' : Hid (b3 = ((decide (r2 = 0) || K == 6) && (if K = 7 then rg else ng))) := Lib.hid (by
              rw [← HB3.out, ← EK.out, ← hrg, ← HNG.out]
              unfold rh3
              obtain ⟨z1, z2, z3⟩ := HH.out.rows.len
              have e2 := pv_eq z3
              injection e2 with _ e5
              injection e5 with e6 _
              rw [e6]
              congr 2
              cases h.rows <;> simp)
            clear hR hrg e1 e3 e4
            by_cases gR : (r2 : Int) > 0
            · by_cases k6 : K = 6
              · have F1 : Hid ((decide (r2 = 0) || K == 6) = true) := Lib.hid (by rw [k6]; simp)
                have F2 : Hid ((if K = 7 then rg else ng) = ng) := Lib.hid (by rw [if_neg (by omega)])
                have b1 : (K == 6) = true := by rw [k6]; rfl
                have b2 : (K != 6) = false := by rw [k6]; rfl
                have b3 : (K == 7) = false := by rw [k6]; rfl
                have b4 : (K != 7) = true := by rw [k6]; rfl
                clear k6 HR
                go_wp2_with fail
                go_meet
                exact ⟨congrArg Value.bool (by rw [HB3'.out, F1.out, F2.out]; simp), HE.out⟩
              · have F1 : Hid ((decide (r2 = 0) || K == 6) = false) := Lib.hid (by rw [decide_eq_false (by omega)]; simpa using k6)
                have b1 : (K == 6) = false := by simpa using k6
                have b2 : (K != 6) = true := by simpa using k6
                clear k6 HR
                go_wp2_with fail
                go_meet
                exact ⟨congrArg Value.bool (by rw [HB3'.out, F1.out]; simp), HE.out⟩
            · have F1 : Hid ((decide (r2 = 0) || K == 6) = true) := Lib.hid (by rw [decide_eq_true (by omega)]; simp)
              by_cases k7 : K = 7
              · have F2 : Hid ((if K = 7 then rg else ng) = rg) := Lib.hid (by rw [if_pos k7])
                have b3 : (K == 7) = true := by rw [k7]; rfl
                have b4 : (K != 7) = false := by rw [k7]; rfl
                clear k7
                go_wp2_with fail
                refine HR.out.mono ?_
                rintro e w5 ⟨rfl, b5⟩
                have HE5 := Lib.hid (HE.out.keep b5)
                have c0' : w5.cell? ⟨w.heap.size, 0, none⟩ = some (.int .i64 K) := HE5.out.bx.cell 0
                clear b5 HR c0 c5 c6 c7 c8 c9
                cases rg
                · go_wp2_with fail
                  go_meet
                  exact ⟨congrArg Value.bool (by rw [HB3'.out, F1.out, F2.out]; simp), HE5.out⟩
                · go_wp2_with fail
                  go_meet
                  exact ⟨congrArg Value.bool (by rw [HB3'.out, F1.out, F2.out]; simp), HE5.out⟩
              · have F2 : Hid ((if K = 7 then rg else ng) = ng) := Lib.hid (by rw [if_neg k7])
                have b3 : (K == 7) = false := by simpa using k7
                have b4 : (K != 7) = true := by simpa using k7
                clear k7 HR
                go_wp2_with fail
                go_meet
                exact ⟨congrArg Value.bool (by rw [HB3'.out, F1.out, F2.out]; simp), HE.out⟩
          case rest =>
          obtain ⟨rfl, hc⟩ := hcut
          have HF := Lib.hid hc
          clear hc HE
          cases b3
          · go_wp2_with fail
            go_ret
            exact ⟨ret_bool (by simp), HF.out.bel⟩
          · exact absurd HA3.out (by decide)
end Go.Proofs.YtpccjgoeoeehoaaDoor
