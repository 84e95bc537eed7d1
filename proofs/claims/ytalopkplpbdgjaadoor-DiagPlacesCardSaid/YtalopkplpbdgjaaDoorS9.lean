/- symMergeCmpFunc: one on the right. -/
import Derived.Test.YtalopkplpbdgjaaDoorS8
namespace Go.Proofs.YtalopkplpbdgjaaDoor
open Go.RowKit

set_option maxRecDepth 100000 in
set_option maxHeartbeats 2000000 in
theorem sym_last (base g n cap a m b : Nat) (w : World) (ds : List D) (h : Rw base g n cap w ds) (ham : a + 1 < m) (hmb : m + 1 = b) (hb : b ≤ n) (hn : n ≤ 1000) (hso : So ds a m) :
    Calls Tryd.prog 49 #[.slice (some ⟨g, 0, none⟩) n cap, .int .i64 a, .int .i64 m, .int .i64 b, .func (.func 34) #[] #[]] w fun e w' => e = .returned (.tuple #[]) ∧ ∃ es, Rw base g n cap w' es ∧ Re ds es a b ∧ So es a b ∧ Below base w w' := by
  have H := Lib.hid h
  have HSO := Lib.hid hso
  have hdl := h.1
  have hmb1 : (b : Int) - (m : Int) = 1 := by omega
  obtain ⟨z, hz⟩ : ∃ z : Nat, m - a = z := ⟨_, rfl⟩
  have hz1 : (m : Int) - (a : Int) = (z : Int) := by omega
  have hz2 : ((z : Int) == 1) = false := by simp; omega
  have hz3 : ¬ (z : Int) = 1 := by omega
  have HMB := Lib.hid hmb
  have hmn : m < n := by omega
  clear h hso hmb hz
  go_enter Tryd.func49, Tryd.ntmps49
  go_wp2_with fail
  go_loopw [14, 15] (fun vi vj wr => ∃ i j : Nat, vi = .int .i64 i ∧ vj = .int .i64 j ∧ a ≤ i ∧ i ≤ j ∧ j ≤ m ∧ (∀ p, a ≤ p → p < i → 0 ≤ cmpD (at' ds m) (at' ds p)) ∧ (∀ p, j ≤ p → p < m → cmpD (at' ds m) (at' ds p) < 0) ∧ Below w.heap.size w wr) (fun vi vj _ => (intOf vj).toNat - (intOf vi).toNat)
  case atStart => exact ⟨a, m, rfl, rfl, by omega, by omega, by omega, fun p h1 h2 => by omega, fun p h1 h2 => by omega, Below.refl _ _⟩
  case round =>
    obtain ⟨i, j, rfl, rfl, h1, h2, h3, hlo, hhi, hbl⟩ := hrel
    have HLO := Lib.hid hlo
    have HHI := Lib.hid hhi
    have HBL := Lib.hid hbl
    have hbs := hbl.size
    clear hlo hhi hbl
    by_cases hlt : i < j
    · have g1 : (i : Int) < (j : Int) := by omega
      have hib : (i : Int) ≤ 1000 := by omega
      have hjb : (j : Int) ≤ 1000 := by omega
      obtain ⟨c, hc⟩ : ∃ c : Nat, (i + j) / 2 = c := ⟨_, rfl⟩
      have hcz : ((i : Int) + (j : Int)) / 2 = (c : Int) := by omega
      have hcr : i ≤ c ∧ c < j := by omega
      have HR := Lib.hid (H.out.below HBL.out)
      have hp1 : (c : Int) < (n : Int) := by omega
      have hp0 : (0 : Int) ≤ (c : Int) := by omega
      have ha1 : (m : Int) < (n : Int) := by omega
      have ha0 : (0 : Int) ≤ (m : Int) := by omega
      have hwc : IntKind.i64.wrap (c : Int) = (c : Int) := by simp [IntKind.wrap, IntKind.bits, IntKind.signed]; omega
      have hwa : IntKind.i64.wrap (m : Int) = (m : Int) := by simp [IntKind.wrap, IntKind.bits, IntKind.signed]; omega
      have SK := Lib.hid (HR.out.two (p := m) (q := c) (by omega) (by omega))
      have hL := Lib.hid (fun (hl : ¬ cmpD (at' ds m) (at' ds c) < 0) => show ∀ p, a ≤ p → p < c + 1 → 0 ≤ cmpD (at' ds m) (at' ds p) from fun p k1 k2 => Int.not_lt.1 (by
        by_cases e : p < c
        · have k3 := HSO.out p c k1 e (by omega)
          rw [cmpD_lt] at hl ⊢
          rw [leD_iff] at k3
          omega
        · have e2 : p = c := by omega
          rw [e2]; exact hl))
      have hG := Lib.hid (fun (hl : cmpD (at' ds m) (at' ds c) < 0) => show ∀ p, c ≤ p → p < m → cmpD (at' ds m) (at' ds p) < 0 from fun p k1 k2 => by
        by_cases e : p = c
        · rw [e]; exact hl
        · have k3 := HSO.out c p (by omega) (by omega) k2
          rw [cmpD_lt] at hl ⊢
          rw [leD_iff] at k3
          omega)
      unfold Two at SK
      obtain ⟨⟨xk, xl, xc⟩, ex⟩ : ∃ x, at' ds m = x := ⟨_, rfl⟩
      obtain ⟨⟨yk, yl, yc⟩, ey⟩ : ∃ x, at' ds c = x := ⟨_, rfl⟩
      have hO := fun W => order_any (xk, xl, xc) (yk, yl, yc) W
      simp only at hO
      have HO := Lib.hid hO
      obtain ⟨CC, hCC⟩ : ∃ CC, cmpD (at' ds m) (at' ds c) = CC := ⟨_, rfl⟩
      rw [ex, ey] at SK hCC
      simp only at SK
      have hL' := Lib.hid (fun (h : ¬ CC < 0) => hL.out (by rw [ex, ey, hCC]; exact h))
      have hG' := Lib.hid (fun (h : CC < 0) => hG.out (by rw [ex, ey, hCC]; exact h))
      rw [hCC] at HO
      clear hL hG ex ey hCC hO hc
      by_cases hcc : CC < 0
      · have hccb : decide (CC < 0) = true := decide_eq_true hcc
        go_wp2_with fail
        go_region_held3 (fun W' => W'.cell? ⟨g, m * 3, none⟩ = some (.int .i64 xk) ∧ W'.cell? ⟨g, m * 3 + 1, none⟩ = some (.int .i64 xl) ∧ W'.cell? ⟨g, m * 3 + 2, none⟩ = some (.int .i64 xc) ∧ W'.cell? ⟨g, c * 3, none⟩ = some (.int .i64 yk) ∧ W'.cell? ⟨g, c * 3 + 1, none⟩ = some (.int .i64 yl) ∧ W'.cell? ⟨g, c * 3 + 2, none⟩ = some (.int .i64 yc))
          (first | assumption | exact SK.out _ (Below.refl _ wr).drew | exact SK.out _ B5.out)
          ((first
            | (go_at_call 34; (with_reducible refine (HO.out _).mono ?_); rintro e w5 ⟨rfl, b5⟩; have B5 : Hid (Below wr.heap.size wr w5) := Lib.hid ((Below.refl _ wr).drew.trans b5); clear b5)))
        all_goals
          have HB5 := Lib.hid (HBL.out.trans (B5.out.mono hbs))
          go_wp2_with fail
          all_goals
            go_roundw
            case rel => exact ⟨i, c, rfl, by go_num, h1, by omega, by omega, HLO.out, hG'.out hcc, HB5.out⟩
            case measure => simp [intOf]; omega
      · have hccb : decide (CC < 0) = false := decide_eq_false hcc
        go_wp2_with fail
        go_region_held3 (fun W' => W'.cell? ⟨g, m * 3, none⟩ = some (.int .i64 xk) ∧ W'.cell? ⟨g, m * 3 + 1, none⟩ = some (.int .i64 xl) ∧ W'.cell? ⟨g, m * 3 + 2, none⟩ = some (.int .i64 xc) ∧ W'.cell? ⟨g, c * 3, none⟩ = some (.int .i64 yk) ∧ W'.cell? ⟨g, c * 3 + 1, none⟩ = some (.int .i64 yl) ∧ W'.cell? ⟨g, c * 3 + 2, none⟩ = some (.int .i64 yc))
          (first | assumption | exact SK.out _ (Below.refl _ wr).drew | exact SK.out _ B5.out)
          ((first
            | (go_at_call 34; (with_reducible refine (HO.out _).mono ?_); rintro e w5 ⟨rfl, b5⟩; have B5 : Hid (Below wr.heap.size wr w5) := Lib.hid ((Below.refl _ wr).drew.trans b5); clear b5)))
        have HB5 := Lib.hid (HBL.out.trans (B5.out.mono hbs))
        go_wp2_with fail
        go_roundw
        case rel => exact ⟨c + 1, j, by go_num, rfl, by omega, by omega, h3, hL'.out hcc, HHI.out, HB5.out⟩
        case measure => simp [intOf]; omega
    · obtain rfl : i = j := by omega
      have HR := Lib.hid (H.out.below HBL.out)
      have HB0 := Lib.hid (HBL.out.mono H.out.size)
      obtain ⟨wq, hwq⟩ : ∃ wq : World, wq = wr := ⟨wr, rfl⟩
      subst hwq
      go_wp2_with fail
      go_loopw [17] (fun vk wr => ∃ (k : Nat) (es : List D), vk = .int .i64 k ∧ i ≤ k ∧ k ≤ m ∧ Rw base g n cap wr es ∧ Re ds es a b ∧ (∀ p, at' es p = if k < p ∧ p ≤ m then at' ds (p - 1) else if p = k then at' ds m else at' ds p) ∧ Below base w wr) (fun vk _ => (intOf vk).toNat)
      case atStart => exact ⟨m, ds, rfl, h3, by omega, HR.out, Re.refl _ _ _, fun p => by rw [if_neg (by omega)]; split <;> simp_all, HB0.out⟩
      case round =>
        obtain ⟨k, es, rfl, k1, k2, hr, hre, hat, hbl⟩ := hrel
        have hel : es.length = n := hr.1
        have HRE := Lib.hid hre
        have HAT := Lib.hid hat
        have HB1 := Lib.hid hbl
        have hbb := HMB.out
        clear hre hat hbl
        by_cases hk : i < k
        · have g1 : (i : Int) < (k : Int) := by omega
          obtain ⟨q, hq⟩ : ∃ q : Nat, q + 1 = k := ⟨k - 1, by omega⟩
          have hqz : (k : Int) - 1 = (q : Int) := by omega
          have hx := at_some (ds := es) (p := k) (by omega)
          have hy := at_some (ds := es) (p := q) (by omega)
          have hsw := Lib.hid (fun r => at_swp es (p := k) (q := q) (by omega) (by omega) r)
          have HE := Lib.hid (HRE.out.swp (p := k) (q := q) (by omega) (by omega) (by omega))
          have HW := Lib.hid (hr.swp k q _ _ hx hy)
          obtain ⟨x0, x1, x2⟩ := hr.cells k _ hx
          obtain ⟨y0, y1, y2⟩ := hr.cells q _ hy
          have fz := fun i => World.ownsRow.frozenAt hr.2 i
          have HB2 := Lib.hid (fun o0 o1 o2 o3 o4 o5 v0 v1 v2 v3 v4 v5 => below_six HB1.out hr.base o0 o1 o2 o3 o4 o5 v0 v1 v2 v3 v4 v5)
          obtain ⟨⟨xk, xl, xc⟩, ex⟩ : ∃ x, at' es k = x := ⟨_, rfl⟩
          obtain ⟨⟨yk, yl, yc⟩, ey⟩ : ∃ x, at' es q = x := ⟨_, rfl⟩
          rw [ex] at x0 x1 x2
          rw [ey] at y0 y1 y2
          rw [ex, ey] at HW
          simp only at x0 x1 x2 y0 y1 y2 HW
          have hp1 : (k : Int) < (n : Int) := by omega
          have hp0 : (0 : Int) ≤ (k : Int) := by omega
          have hq1 : (q : Int) < (n : Int) := by omega
          have hq0 : (0 : Int) ≤ (q : Int) := by omega
          have hwq : IntKind.i64.wrap (q : Int) = (q : Int) := by simp [IntKind.wrap, IntKind.bits, IntKind.signed]; omega
          have n00 : ¬ k * 3 = q * 3 := by omega
          have m00 : ¬ q * 3 = k * 3 := by omega
          have n01 : ¬ k * 3 = q * 3 + 1 := by omega
          have m01 : ¬ q * 3 + 1 = k * 3 := by omega
          have n02 : ¬ k * 3 = q * 3 + 2 := by omega
          have m02 : ¬ q * 3 + 2 = k * 3 := by omega
          have n10 : ¬ k * 3 + 1 = q * 3 := by omega
          have m10 : ¬ q * 3 = k * 3 + 1 := by omega
          have n11 : ¬ k * 3 + 1 = q * 3 + 1 := by omega
          have m11 : ¬ q * 3 + 1 = k * 3 + 1 := by omega
          have n12 : ¬ k * 3 + 1 = q * 3 + 2 := by omega
          have m12 : ¬ q * 3 + 2 = k * 3 + 1 := by omega
          have n20 : ¬ k * 3 + 2 = q * 3 := by omega
          have m20 : ¬ q * 3 = k * 3 + 2 := by omega
          have n21 : ¬ k * 3 + 2 = q * 3 + 1 := by omega
          have m21 : ¬ q * 3 + 1 = k * 3 + 2 := by omega
          have n22 : ¬ k * 3 + 2 = q * 3 + 2 := by omega
          have m22 : ¬ q * 3 + 2 = k * 3 + 2 := by omega
          have HQ := Lib.hid hq
          clear hr hx hy ex ey hq hbb
          go_wp2_with fail
          go_region
          go_wp2_with fail
          go_roundw
          case rel =>
            have e := HQ.out
            refine ⟨q, _, by go_num, by omega, by omega, HW.out, HE.out, fun p => ?_, HB2.out _ _ _ _ _ _ _ _ _ _ _ _⟩
            rw [hsw.out p, HAT.out, HAT.out, HAT.out]
            by_cases e1 : p = q
            · rw [if_pos e1, if_neg (by omega), if_pos rfl, if_neg (by omega), if_pos e1]
            · rw [if_neg e1]
              by_cases e2 : p = k
              · rw [if_pos e2, if_neg (by omega), if_neg (by omega), if_pos (by omega)]
                congr 1; omega
              · rw [if_neg e2]
                by_cases e3 : k < p ∧ p ≤ m
                · rw [if_pos e3, if_pos (by omega)]
                · rw [if_neg e3, if_neg e2, if_neg (by omega), if_neg e1]
          case measure => have e := HQ.out; simp [intOf]; omega
        · obtain rfl : k = i := by omega
          have HSO2 := Lib.hid (show So es a b from move_down (m := m) (i := k) HMB.out.symm HSO.out ⟨h1, h3⟩ (fun p e1 e2 => show ¬ _ from Int.not_lt.2 (HLO.out p e1 e2)) (fun p e1 e2 => leD_of_lt (HHI.out p e1 e2)) HAT.out)
          have HRR := Lib.hid hr
          clear hr hbb
          go_wp2_with fail
          refine bodyPost_ret (results_none rfl _ _ _) rfl ?_
          exact ⟨rfl, es, HRR.out, HRE.out, HSO2.out, HB1.out⟩
end Go.Proofs.YtalopkplpbdgjaaDoor
