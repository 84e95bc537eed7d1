/- The walk of RunesTexts. -/
import Derived.Test.YtblhofoikpnbkaaDoorV3
import Derived.Deep.RegionWith
namespace Go.Proofs.YtblhofoikpnbkaaDoor
open Go.RowKit
attribute [local go_sem ↓ high] builtin_app24

/-- What '[]byte(s)' hands back, and leaves. -/
noncomputable def uB (b : List UInt8) (W : World) : Value := Classical.choose (bytes_of_str W b)
noncomputable def wB (b : List UInt8) (W : World) : World := Classical.choose (Classical.choose_spec (bytes_of_str W b))
theorem uB_spec (b : List UInt8) (W : World) : (convert 9 22 (.string ⟨b.toArray⟩)).run Tryd.prog W = .ok (uB b W) (wB b W) ∧ By (wB b W) (uB b W) b ∧ Below W.heap.size W (wB b W) :=
  Classical.choose_spec (Classical.choose_spec (bytes_of_str W b))

set_option maxRecDepth 100000 in
set_option maxHeartbeats 4000000 in
theorem textsL_any (b : List UInt8) (w : World) (hT : Tabs w) (hU : Lib.Utf8Tabs 0 1 w) (ms : b.length ≤ maxLen) :
    Calls Tryd.prog 9 #[.string ⟨b.toArray⟩] w fun e W' => e = .returned (.bool true) ∧ Below w.heap.size w W' := by
  unfold maxLen at ms
  have HT := Lib.hid hT
  have HU := Lib.hid hU
  have hsz : (⟨b.toArray⟩ : ByteArray).size = b.length := by simp [Go.Lib.size_eq]
  clear hT hU
  by_cases h1 : 1000 < b.length
  · have HK := Lib.hid (known_any w HT.out)
    have hz : (1000 : Int) < (b.length : Int) := by omega
    go_enter Tryd.func9, Tryd.ntmps9
    go_wp2_with (go_at_call 10; refine HK.out.mono ?_; rintro e w' ⟨rfl, hb⟩)
    go_ret
    exact ⟨rfl, hb⟩
  · have hz : ¬ (1000 : Int) < (b.length : Int) := by omega
    have hbl : b.length ≤ 1000 := by omega
    have dl := dec_le b
    have de := enc_len (dec b)
    obtain ⟨u1, w1, k1, o1, b1⟩ := runes_own w b (by omega)
    obtain ⟨x, w2, k2, o2, g2, -⟩ := app24_own (Own.nil w1.heap.size 21 .i32 w1) o1.sl (Nat.le_refl _) (by simp; omega)
    have b2 := (Own.nil w1.heap.size 21 .i32 w1).below (Below.refl _ w1) (Nat.le_refl _) g2
    rw [List.nil_append] at o2
    have B2 := Lib.hid (b1.trans (b2.mono b1.size))
    have z2 := B2.out.size
    have SX := Lib.hid o2.sl
    have HSX := Lib.hid (fun W (h : Below w2.heap.size w2 W) => str_of_runes (Sl.below SX.out h))
    have hconv : ∀ W : World, (convert 9 22 (.string ⟨b.toArray⟩)).run Tryd.prog W = .ok (uB b W) (wB b W) := fun W => (uB_spec b W).1
    obtain ⟨B, hB⟩ : ∃ B, decide (enc (dec b) = b) = B := ⟨_, rfl⟩
    have hBq : (enc (dec b) == b) = B := by
      rw [← hB]
      exact bool_of_iff (by simp)
    have HRT := Lib.hid (fun W (h : Below w2.heap.size w2 W) (v : Value) (hv : By W v b) => right_any b v W (by omega) hv (Utf8Tabs_below HU.out (B2.out.trans (h.mono z2))))
    rw [hB] at HRT
    have HKN := Lib.hid (fun W (h : Below w2.heap.size w2 W) => known_any W (HT.out.below (B2.out.trans (h.mono z2))))
    obtain ⟨D, hD⟩ : ∃ D, dec b = D := ⟨_, rfl⟩
    have HDC := Lib.hid (fun W v (hv : By W v b) => decode_any b v W hv (by omega))
    rw [hD] at SX HSX hBq dl de HDC
    obtain ⟨E, hE⟩ : ∃ E, enc D = E := ⟨_, rfl⟩
    have HEN := Lib.hid (fun W (h : Below w2.heap.size w2 W) => encode_any D x W (Sl.below SX.out h))
    rw [hE] at HSX hBq HEN
    have hconv2 : ∀ W : World, (convert 9 22 (.string ⟨E.toArray⟩)).run Tryd.prog W = .ok (uB E W) (wB E W) := fun W => (uB_spec E W).1
    have H33A := Lib.hid (fun u7 w7 (h : By w7 u7 E) => same0_any E E u7 (uB E w7) (wB E w7) (By.below h (uB_spec E w7).2.2) (uB_spec E w7).2.1)
    have H33B := Lib.hid (fun u7 w6 w7 (h : By w7 u7 E) (hb : Below (wB E w6).heap.size (wB E w6) w7) => same0_any E E u7 (uB E w6) w7 h (By.below (uB_spec E w6).2.1 hb))
    rw [decide_eq_true (rfl : E = E)] at H33A H33B
    clear o1 o2 b1 b2 g2 hD hE hB
    go_enter Tryd.func9, Tryd.ntmps9
    go_wp2_with fail
    go_region_with ((first
      | (go_at_call 13; (with_reducible refine (HDC.out _ _ (uB_spec b _).2.1).mono ?_); rintro e w4 ⟨u4, rfl, s4, b4⟩; have S4 := Lib.hid s4; have C4 : Hid (Below w2.heap.size w2 w4) := Lib.hid (((Below.refl _ w2).drew.trans ((uB_spec b w2.drew).2.2)).trans (b4.mono (uB_spec b w2.drew).2.2.size)); clear s4 b4)
      | (go_at_call 12; (with_reducible refine (same_any D u4 x w4 S4.out (Sl.below SX.out C4.out) (by omega)).mono ?_); rintro e w5 ⟨rfl, b5⟩; have C5 := Lib.hid (C4.out.trans (b5.mono C4.out.size)); have C5' := Lib.hid (C5.out.trans ((uB_spec b w5).2.2.mono C5.out.size)); have hx5 := HSX.out w5 C5.out; have hx5' := HSX.out _ C5'.out; clear b5)
      | (go_at_call 14; (with_reducible refine (HRT.out _ C5'.out _ (uB_spec b w5).2.1).mono ?_); rintro e w6 ⟨rfl, b6⟩; have C6 := Lib.hid (C5'.out.trans (b6.mono C5'.out.size)); have C6' := Lib.hid (C6.out.trans ((uB_spec E w6).2.2.mono C6.out.size)); have hx6 := HSX.out w6 C6.out; clear b6)
      | (go_at_call 25; (with_reducible refine (HEN.out w6 C6.out).mono ?_); rintro e w7 ⟨u7, rfl, s7, b7⟩; have C7 := Lib.hid (C6.out.trans (b7.mono C6.out.size)); have CF := Lib.hid (C7.out.trans ((uB_spec E w7).2.2.mono C7.out.size)); have hx7 := HSX.out w7 C7.out; have H33 := Lib.hid (H33A.out u7 w7 s7); have HKF := Lib.hid (HKN.out _ CF.out); clear s7 b7)
      | (go_at_call 25; (with_reducible refine (HEN.out (wB E w6) C6'.out).mono ?_); rintro e w7 ⟨u7, rfl, s7, b7⟩; have CF := Lib.hid (C6'.out.trans (b7.mono C6'.out.size)); have H33 := Lib.hid (H33B.out u7 w6 w7 s7 b7); have HKF := Lib.hid (HKN.out _ CF.out); clear s7 b7)
      | (go_at_call 15; (with_reducible refine H33.out.mono ?_); rintro e w8 ⟨rfl, rfl⟩)
      | (go_at_call 10; (with_reducible refine HKF.out.mono ?_); rintro e w9 ⟨rfl, b9⟩; have CG := Lib.hid (CF.out.trans (b9.mono CF.out.size)); clear b9)))
    all_goals
      go_wp2_with fail
      go_ret
      exact ⟨rfl, B2.out.trans (CG.out.mono z2)⟩

theorem texts_any (s : ByteArray) (w : World) (hT : Tabs w) (hU : Lib.Utf8Tabs 0 1 w) (ms : s.size ≤ maxLen) :
    Calls Tryd.prog 9 #[.string s] w fun e W' => e = .returned (.bool true) ∧ Below w.heap.size w W' := by
  have hs : (⟨s.data.toList.toArray⟩ : ByteArray) = s := by cases s; simp
  have := textsL_any s.data.toList w hT hU (by rw [← Lib.size_eq]; exact ms)
  rw [hs] at this
  exact this
end Go.Proofs.YtblhofoikpnbkaaDoor
