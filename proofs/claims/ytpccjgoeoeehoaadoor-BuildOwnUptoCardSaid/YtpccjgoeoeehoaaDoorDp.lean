/- The document's own answer for documents: may a node stand there? -/
import Derived.Test.YtpccjgoeoeehoaaDoorBs
import Derived.Deep.DeepCutAuto
import Derived.StillTailTactics
set_option linter.unusedVariables false
set_option linter.unusedSimpArgs false
namespace Go.Proofs.YtpccjgoeoeehoaaDoor
open Go.RowKit
attribute [local go_sem ↓ high] binop_eqT binop_neqT
def rh1 (h : Hd) (kids : Bool) (w : Int) : Bool := stands h.kind w && fullB h kids && decide (0 ≤ h.line) && decide (h.line ≤ 1099511627775) && sqd h.text
def rh2 (h : Hd) (kids : Bool) : Bool := decide (0 ≤ h.n) && decide (h.n ≤ 200) && (decide (h.n = 0) || h.kind == 4 || h.kind == 5) && (decide (h.text = []) || (decide (1 ≤ h.kind) && decide (h.kind ≤ 4))) && (!kids || mayK h.kind)
def rh3 (h : Hd) : Bool := (decide (h.rows = []) || h.kind == 6) && (if h.kind = 7 then rightT h.grid else isNone h.grid)
theorem rh_eq (h : Hd) (kids : Bool) (w : Int) : rightH h kids w = (rh1 h kids w && rh2 h kids && rh3 h) := by
  unfold rightH rh1 rh2 rh3
  simp only [Bool.and_assoc]
/-- What stands in right's walk: the node's block, older ones as they stood. -/
structure RS (w : World) (x : NV) (W : World) : Prop where
  bel : Below w.heap.size w W
  bx : Blk W w.heap.size 40 (ncell x)
theorem RS.keep {w W W' : World} {x : NV} (h : RS w x W) (hb : Below W.heap.size W W') : RS w x W' := ⟨h.bel.trans (hb.mono h.bel.size), h.bx.below hb⟩
set_option maxRecDepth 100000 in
set_option maxHeartbeats 32000000 in
theorem rnode_a (S : Nat → Prop) (n : Nat) (y : Nd) (hn : cntN y = n) (hb : nlN y ≤ 90000) (x : NV) (m : Int) (w : World) (hh : HdIs S w x y.hd) (hk : NsS S w (pv x.kids) y.kids) (hS : ∀ b, S b → b < w.heap.size) (HIH : Hid (∀ (y : Nd), cntN y < n → nlN y ≤ 90000 → ∀ (x : NV) (m : Int) (w : World), HdIs S w x y.hd → NsS S w (pv x.kids) y.kids → (∀ b, S b → b < w.heap.size) → Calls Tryd.prog 51 #[.agg (ncell x).toArray, .int .i64 m] w fun e w' => e = .returned (.bool (rtN y m)) ∧ Below w.heap.size w w'))
    (hA1 : rh1 y.hd (hasK y.kids) m = false) (hA2 : rh2 y.hd (hasK y.kids) = rh2 y.hd (hasK y.kids)) (hA3 : rh3 y.hd = rh3 y.hd) :
    Calls Tryd.prog 51 #[.agg (ncell x).toArray, .int .i64 m] w fun e w' => e = .returned (.bool (rtN y m)) ∧ Below w.heap.size w w' := by
    rw [rtN_eq, rh_eq]
    rw [cntN_eq] at hn
    rw [nlN_eq] at hb
    obtain ⟨h, ks⟩ := y
    simp only [Nd.hd, Nd.kids] at hh hk hn hb hA1 hA2 hA3 ⊢
    have hdd : hdl h = 3 + h.text.length + h.grid.cols.length + (h.rows.length + lens h.rows) + trls h.grid.rows := rfl
    have hkl := cnt_len ks
    have hkn := cnt_nlL ks
    obtain ⟨xk, xl, xn, ⟨t1, t2, t3⟩, ⟨s1, s2, s3⟩, ⟨r1, r2, r3⟩, co, ⟨q1, q2, q3⟩, xb, xa⟩ := x
    obtain ⟨w0, hw0⟩ : ∃ W, W = w.alloc (.cells (ncell ⟨xk, xl, xn, (t1, t2, t3), (s1, s2, s3), (r1, r2, r3), co, (q1, q2, q3), xb, xa⟩).toArray 40) := ⟨_, rfl⟩
    obtain ⟨bl, hbk⟩ := one_lit w _ w0 hw0
    have H0 : Hid (RS w ⟨xk, xl, xn, (t1, t2, t3), (s1, s2, s3), (r1, r2, r3), co, (q1, q2, q3), xb, xa⟩ w0) := Lib.hid ⟨bl, hbk⟩
    have e0 : xk = h.kind := hh.kind
    have e1 : xl = h.line := hh.line
    have e2 : xn = h.n := hh.n
    have et := pv_len hh.text.1
    simp only at et
    obtain ⟨ka, kc, ek⟩ := hk.len
    have ek2 : (s1, s2, s3) = (ka, ks.length, kc) := pv_eq ek
    simp only [Prod.mk.injEq] at ek2
    obtain ⟨rfl, ek4, rfl⟩ := ek2
    have hfu := rfull_of hh
    have HH := Lib.hid hh
    have HK := Lib.hid hk
    have HS := Lib.hid hS
    clear hbk bl hk hS hh ek
    subst e0 e1 e2 et ek4
    simp only [hasK_len] at hfu
    obtain ⟨fb, hfb⟩ : ∃ b, fullB h (hasK ks) = b := ⟨_, rfl⟩
    have HFB := Lib.hid hfb
    rw [hfb] at hfu
    have HFU := Lib.hid hfu
    obtain ⟨b1, hb1⟩ : ∃ b, rh1 h (hasK ks) m = b := ⟨_, rfl⟩
    obtain ⟨b2, hb2⟩ : ∃ b, rh2 h (hasK ks) = b := ⟨_, rfl⟩
    obtain ⟨b3, hb3⟩ : ∃ b, rh3 h = b := ⟨_, rfl⟩
    obtain ⟨b4, hb4⟩ : ∃ b, rtL ks h.kind = b := ⟨_, rfl⟩
    rw [hb1, hb2, hb3, hb4]
    try rw [hb1] at hA1
    try rw [hb2] at hA2
    try rw [hb3] at hA3
    have HA1 := Lib.hid hA1
    have HA2 := Lib.hid hA2
    have HA3 := Lib.hid hA3
    clear hA1 hA2 hA3
    have HB1 : Hid (b1 = (stands h.kind m && fb && decide (0 ≤ h.line) && decide (h.line ≤ 1099511627775) && sqd h.text)) := Lib.hid (by rw [← hb1, ← hfb]; rfl)
    have HB2 := Lib.hid hb2
    have HB3 := Lib.hid hb3
    have HB4 := Lib.hid hb4
    have HSQ : Hid (∀ W, Below w.heap.size w W → Calls Tryd.prog 72 #[.slice t1 h.text.length t3] W fun e w' => e = .returned (.bool (sqd h.text)) ∧ Below W.heap.size W w') := Lib.hid (fun W hW => rsqueezed_any h.text _ W (HH.out.text.keep (Kp.below hW HS.out)).1 (by omega))
    have HST := Lib.hid (fun W => rstands_any h.kind m W)
    clear hfb hfu hb1 hb2 hb3 hb4
    have HW0 := Lib.hid hw0
    obtain ⟨K, hK⟩ : ∃ k, h.kind = k := ⟨_, rfl⟩
    obtain ⟨LI, hLI⟩ : ∃ k, h.line = k := ⟨_, rfl⟩
    obtain ⟨NN, hNN⟩ : ∃ k, h.n = k := ⟨_, rfl⟩
    rw [hK, hLI] at HB1
    rw [hK] at HST
    rw [hK, hLI, hNN] at HFU H0 HW0 ⊢
    have EK := Lib.hid hK
    have EL := Lib.hid hLI
    have EN := Lib.hid hNN
    clear hK hLI hNN hw0
    simp only [ncell, pv] at HFU ⊢
    unfold ncell pv at HW0
    simp only at HW0
    go_enter Tryd.func51, Tryd.ntmps51
    go_upto_region 1 with fail
    rw [← HW0.out]
    go_cut [32] (fun c wx => c = .bool (!b1) ∧ RS w ⟨K, LI, NN, (t1, h.text.length, t3), (s1, ks.length, s3), (r1, r2, r3), co, (q1, q2, q3), xb, xa⟩ wx)
    case first =>
      clear HW0
      have c0 : w0.cell? ⟨w.heap.size, 0, none⟩ = some (.int .i64 K) := H0.out.bx.cell 0
      by_cases st : stands K m = true
      · rw [st] at HST HB1
        have c1 : w0.cell? ⟨w.heap.size, 1, none⟩ = some (.int .i64 LI) := H0.out.bx.cell 1
        have c2 : w0.cell? ⟨w.heap.size, 2, none⟩ = some (.int .i64 NN) := H0.out.bx.cell 2
        have c3 : w0.cell? ⟨w.heap.size, 3, none⟩ = some (.slice t1 h.text.length t3) := H0.out.bx.cell 3
        have c4 : w0.cell? ⟨w.heap.size, 4, none⟩ = some (.slice s1 ks.length s3) := H0.out.bx.cell 4
        have c5 : w0.cell? ⟨w.heap.size, 5, none⟩ = some (.slice r1 r2 r3) := H0.out.bx.cell 5
        have c6 : w0.cell? ⟨w.heap.size, 6, none⟩ = some (.string ⟨co.toArray⟩) := H0.out.bx.cell 6
        have c7 : w0.cell? ⟨w.heap.size, 7, none⟩ = some (.slice q1 q2 q3) := H0.out.bx.cell 7
        have c8 : w0.cell? ⟨w.heap.size, 8, none⟩ = some (.bool xb) := H0.out.bx.cell 8
        have c9 : w0.cell? ⟨w.heap.size, 9, none⟩ = some (.bool xa) := H0.out.bx.cell 9
        clear st
        go_wp2_with fail
        refine (HST.out _).mono ?_
        rintro e w1 ⟨rfl, hw1⟩
        rw [hw1]
        clear hw1 HST
        go_wp2_with fail
        refine (HFU.out _).mono ?_
        rintro e w2 ⟨rfl, b2'⟩
        have H2 := Lib.hid (H0.out.keep b2')
        clear b2' HFU c0 c1 c2 c3 c4 c5 c6 c7 c8 c9
        cases fb
        · go_wp2_with fail
          go_meet
          exact ⟨by rw [HB1.out]; simp, H2.out⟩
        · have c1 : w2.cell? ⟨w.heap.size, 1, none⟩ = some (.int .i64 LI) := H2.out.bx.cell 1
          have c3 : w2.cell? ⟨w.heap.size, 3, none⟩ = some (.slice t1 h.text.length t3) := H2.out.bx.cell 3
          by_cases l0 : LI < 0
          · go_wp2_with fail
            go_meet
            exact ⟨by rw [HB1.out, decide_eq_false (show ¬ 0 ≤ LI by omega)]; simp, H2.out⟩
          · by_cases l1 : LI > 1099511627775
            · go_wp2_with fail
              go_meet
              exact ⟨by rw [HB1.out, decide_eq_false (show ¬ LI ≤ 1099511627775 by omega)]; simp, H2.out⟩
            · have HSQ2 := Lib.hid (HSQ.out w2 H2.out.bel)
              rw [decide_eq_true (show 0 ≤ LI by omega), decide_eq_true (show LI ≤ 1099511627775 by omega)] at HB1
              obtain ⟨sq, hsq⟩ : ∃ b, sqd h.text = b := ⟨_, rfl⟩
              rw [hsq] at HSQ2 HB1
              clear hsq HSQ
              go_wp2_with fail
              refine HSQ2.out.mono ?_
              rintro e w3 ⟨rfl, b3'⟩
              have H3 := Lib.hid (H2.out.keep b3')
              clear b3' c1 c3 HSQ2
              go_wp2_with fail
              go_meet
              exact ⟨by rw [HB1.out]; simp; intro hq; exfalso; omega, H3.out⟩
      · have st' : stands K m = false := by simpa using st
        rw [st'] at HST HB1
        clear st st'
        go_wp2_with fail
        refine (HST.out _).mono ?_
        rintro e w1 ⟨rfl, hw1⟩
        rw [hw1]
        clear hw1 HST
        go_wp2_with fail
        go_meet
        exact ⟨by rw [HB1.out]; simp, H0.out⟩
    case rest =>
      obtain ⟨rfl, hc⟩ := hcut
      have HC := Lib.hid hc
      clear hc H0 HW0 HFU HSQ HST
      cases b1
      · go_wp2_with fail
        go_ret
        exact ⟨ret_bool (by simp), HC.out.bel⟩
      · exact absurd HA1.out (by decide)
end Go.Proofs.YtpccjgoeoeehoaaDoor
