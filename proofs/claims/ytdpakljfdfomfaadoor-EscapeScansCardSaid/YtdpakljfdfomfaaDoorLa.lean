/- The walks of EscapeScans and EscapeNames. -/
import Derived.Test.YtdpakljfdfomfaaDoorEs
namespace Go.Proofs.YtdpakljfdfomfaaDoor
open Go.RowKit

set_option maxRecDepth 100000 in
set_option maxHeartbeats 4000000 in
theorem scansL_any (b : List UInt8) (w : World) (hM : Mx w) (ms : b.length ≤ maxLen) :
    Calls Tryd.prog 3 #[.string ⟨b.toArray⟩] w fun e W' => e = .returned (.bool true) ∧ Below w.heap.size w W' := by
  unfold maxLen at ms
  have HM := Lib.hid hM
  have hsz : (⟨b.toArray⟩ : ByteArray).size = b.length := by simp [Go.Lib.size_eq]
  clear hM
  by_cases h1 : 1500 < b.length
  · have HK := Lib.hid (known_any w HM.out)
    have hz : (1500 : Int) < (b.length : Int) := by omega
    go_enter Tryd.func3, Tryd.ntmps3
    go_wp2_with (go_at_call 10; refine HK.out.mono ?_; rintro e w' ⟨rfl, hb⟩)
    go_ret
    exact ⟨rfl, hb⟩
  · have hz : ¬ (1500 : Int) < (b.length : Int) := by omega
    have HA := Lib.hid (scan_any b w (by omega))
    have HB := Lib.hid (fun W => rscan_any b W (by omega))
    have hdl := dec_le b
    have tl := (Sofar.start (dec b))
    unfold ScanEnd at HA HB
    obtain ⟨TT, hTT⟩ : ∃ TT, (scanL 0 (dec b)).1 = TT := ⟨_, rfl⟩
    obtain ⟨DD, hDD⟩ : ∃ DD, (scanL 0 (dec b)).2 = DD := ⟨_, rfl⟩
    have htl : TT.length ≤ 1500 ∧ DD.length ≤ 1500 := by
      have := scan_len (dec b)
      rw [hTT, hDD] at this
      omega
    rw [hTT, hDD] at HA HB
    obtain ⟨htl, hdl2⟩ := htl
    clear hTT hDD tl hdl
    go_enter Tryd.func3, Tryd.ntmps3
    go_wp2_with fail
    refine HA.out.mono ?_
    rintro e w1 ⟨vt, vd, rfl, o1, o2, b1⟩
    have S1 := Lib.hid (FOwn.sl tcell_len o1)
    have S2 := Lib.hid (FOwn.sl dcell_len o2)
    have B1 := Lib.hid b1
    have HB1 := Lib.hid (HB.out w1)
    clear o1 o2 b1 HA HB
    go_wp2_with fail
    refine HB1.out.mono ?_
    rintro e w2 ⟨vt2, vd2, rfl, o1, o2, b2⟩
    have S3 := Lib.hid (FOwn.sl dcell_len o2)
    have C2 := Lib.hid b2
    have B2 := Lib.hid (B1.out.trans (b2.mono B1.out.size))
    have HS := Lib.hid (rsamet_any TT TT vt vt2 w2 (Fs.below S1.out b2) (FOwn.sl tcell_len o1) (by omega) (by omega))
    rw [decide_eq_true (rfl : TT = TT)] at HS
    clear o1 o2 b2 HB1
    go_wp2_with fail
    refine HS.out.mono ?_
    rintro e w3 ⟨rfl, b3⟩
    have C3 := Lib.hid (C2.out.trans (b3.mono C2.out.size))
    have B3 := Lib.hid (B2.out.trans (b3.mono B2.out.size))
    have HD := Lib.hid (rsamed_any DD DD vd vd2 w3 (Fs.below S2.out C3.out) (Fs.below S3.out b3) (by omega) (by omega))
    rw [decide_eq_true (rfl : DD = DD)] at HD
    clear b3 HS
    go_wp2_with fail
    refine HD.out.mono ?_
    rintro e w4 ⟨rfl, b4⟩
    have B4 := Lib.hid (B3.out.trans (b4.mono B3.out.size))
    have HK := Lib.hid (known_any w4 (HM.out.below B4.out))
    clear b4 HD
    go_wp2_with fail
    refine HK.out.mono ?_
    rintro e w5 ⟨rfl, b5⟩
    go_wp2_with fail
    go_ret
    exact ⟨rfl, B4.out.trans (b5.mono B4.out.size)⟩
theorem scans_any (s : ByteArray) (w : World) (hM : Mx w) (ms : s.size ≤ maxLen) :
    Calls Tryd.prog 3 #[.string s] w fun e W' => e = .returned (.bool true) ∧ Below w.heap.size w W' := by
  have hs : (⟨s.data.toList.toArray⟩ : ByteArray) = s := by cases s; simp
  have := scansL_any s.data.toList w hM (by rw [← Lib.size_eq]; exact ms)
  rw [hs] at this
  exact this
end Go.Proofs.YtdpakljfdfomfaaDoor
