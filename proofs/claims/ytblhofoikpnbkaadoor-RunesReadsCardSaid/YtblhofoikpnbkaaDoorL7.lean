/- The walk of RunesReads. -/
import Derived.Test.YtblhofoikpnbkaaDoorV3
import Derived.Test.YtblhofoikpnbkaaDoorW9
namespace Go.Proofs.YtblhofoikpnbkaaDoor
open Go.RowKit

set_option maxRecDepth 100000 in
set_option maxHeartbeats 4000000 in
theorem reads_any (b : List UInt8) (vb : Value) (w : World) (hT : Tabs w) (hU : Lib.Utf8Tabs 0 1 w) (hb : By w vb b) (mb : b.length ≤ maxLen) :
    Calls Tryd.prog 3 #[vb] w fun e W' => e = .returned (.bool true) ∧ Below w.heap.size w W' := by
  unfold maxLen at mb
  have HT := Lib.hid hT
  have HU := Lib.hid hU
  have HB := Lib.hid hb
  obtain ⟨ab, cb, rfl, -, -⟩ := hb
  rw [List.length_map] at HB ⊢
  clear hT hU
  by_cases h1 : 2000 < b.length
  · have HK := Lib.hid (known_any w HT.out)
    have hz : (2000 : Int) < (b.length : Int) := by omega
    go_enter Tryd.func3, Tryd.ntmps3
    go_wp2_with (go_at_call 10; refine HK.out.mono ?_; rintro e w' ⟨rfl, hb⟩)
    go_ret
    exact ⟨rfl, hb⟩
  · have hz : ¬ (2000 : Int) < (b.length : Int) := by omega
    have HD := Lib.hid (rdecode_any b (by omega) _ w HB.out)
    have dl := dec_le b
    have hvd := Lib.hid (dec_vld _ b (Nat.le_refl _))
    go_enter Tryd.func3, Tryd.ntmps3
    go_wp2_with fail
    refine HD.out.mono ?_
    rintro e w1 ⟨u1, rfl, s1, b1⟩
    have S1 := Lib.hid s1
    have B1 := Lib.hid b1
    have z1 := b1.size
    have HD2 := Lib.hid (decode_any b _ w1 (By.below HB.out b1) (by omega))
    clear s1 b1 HD
    go_wp2_with fail
    refine HD2.out.mono ?_
    rintro e w2 ⟨u2, rfl, s2, b2⟩
    have C2 := Lib.hid b2
    have B2 := Lib.hid (B1.out.trans (b2.mono z1))
    have z2 := B2.out.size
    have y2 := b2.size
    have HS := Lib.hid (same_any (dec b) u2 u1 w2 s2 (Sl.below S1.out b2) (by omega))
    clear s2 b2 HD2
    go_wp2_with fail
    refine HS.out.mono ?_
    rintro e w3 ⟨rfl, b3⟩
    have C3 := Lib.hid (C2.out.trans (b3.mono y2))
    have B3 := Lib.hid (B2.out.trans (b3.mono z2))
    have z3 := B3.out.size
    have y3 := C3.out.size
    have HR := Lib.hid (right_any b _ w3 (by omega) (By.below HB.out B3.out) (Utf8Tabs_below HU.out B3.out))
    obtain ⟨B, hB⟩ : ∃ B, decide (enc (dec b) = b) = B := ⟨_, rfl⟩
    rw [hB] at HR
    have HBq := Lib.hid hB
    clear b3 HS hB
    go_wp2_with fail
    refine HR.out.mono ?_
    rintro e w4 ⟨rfl, b4⟩
    have C4 := Lib.hid (C3.out.trans (b4.mono y3))
    have B4 := Lib.hid (B3.out.trans (b4.mono z3))
    have z4 := B4.out.size
    have y4 := C4.out.size
    have HE := Lib.hid (rencode_any (dec b) (by omega) (fun z hz' => by
      have := hvd.out z hz'
      simp only [vld, decide_eq_true_eq] at this
      omega) u1 w4 (Sl.below S1.out C4.out))
    clear b4 HR
    go_wp2_with fail
    refine HE.out.mono ?_
    rintro e w5 ⟨u5, rfl, s5, b5⟩
    have B5 := Lib.hid (B4.out.trans (b5.mono z4))
    have z5 := B5.out.size
    have H0 := Lib.hid (same0_any (enc (dec b)) b u5 _ w5 s5 (By.below HB.out B5.out))
    rw [HBq.out] at H0
    have HK := Lib.hid (known_any w5 (HT.out.below B5.out))
    clear s5 b5 HE
    cases B
    all_goals
      go_wp2_with (first
        | (go_at_call 15; refine H0.out.mono ?_; rintro e w' ⟨rfl, rfl⟩)
        | (go_at_call 10; refine HK.out.mono ?_; rintro e w6 ⟨rfl, b6⟩))
      go_ret
      exact ⟨rfl, B5.out.trans (b6.mono z5)⟩
end Go.Proofs.YtblhofoikpnbkaaDoor
