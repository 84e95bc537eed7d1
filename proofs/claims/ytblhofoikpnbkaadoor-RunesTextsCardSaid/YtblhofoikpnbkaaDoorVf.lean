/- utf8.Valid of a slice of bytes: no step of the decoder is at fault. -/
import Derived.Test.YtblhofoikpnbkaaDoorVa
import Derived.Test.YtblhofoikpnbkaaDoorVb
import Derived.Test.YtblhofoikpnbkaaDoorVc
import Derived.Test.YtblhofoikpnbkaaDoorVd
import Derived.Test.YtblhofoikpnbkaaDoorVe
namespace Go.Proofs.YtblhofoikpnbkaaDoor
open Go.RowKit Go.Shelf Go.Proofs

attribute [local go_sem ↓ high] slice_cut22 slice_clip22
set_option maxHeartbeats 4000000 in
set_option maxRecDepth 1000000 in
theorem uvalid_any (b : List UInt8) (v0 : Value) (w : World) (hs : b.length ≤ 100000) (hv0 : By w v0 b) (hT : Lib.Utf8Tabs 0 1 w) :
    Calls Tryd.prog 31 #[v0] w fun e w' => e = .returned (.bool (Lib.validD b)) ∧ Below w.heap.size w w' := by
  obtain ⟨vc, hclip, hB0⟩ := By.clip hv0
  obtain ⟨ac, cc, rfl, -, -⟩ := hv0
  rw [List.length_map] at hclip ⊢
  obtain ⟨ANS, hANS⟩ : ∃ ANS, Lib.validD b = ANS := ⟨_, rfl⟩
  have hANS' : Lib.validD (⟨b.toArray⟩ : ByteArray).data.toList = ANS := hANS
  have hz0 : (⟨b.toArray⟩ : ByteArray).size = b.length := by simp [Go.Lib.size_eq]
  rw [hANS]
  clear hANS
  have HA := Lib.hid hANS'
  have HB0 := Lib.hid hB0
  have HZ0 := Lib.hid hz0
  have HT := Lib.hid hT
  clear hANS' hB0 hz0 hT
  go_enter Tryd.func31, Tryd.ntmps31
  go_wp2
  go_loopg [0] (b.length + 1) (fun gk s0 wx => Below w.heap.size w wx ∧ ∃ t : ByteArray, Bs w s0 t ∧ Lib.validD t.data.toList = ANS ∧ t.size < gk ∧ t.size ≤ 9223372036854775807)
  case atStart => exact ⟨Below.refl _ _, _, HB0.out, HA.out, by rw [HZ0.out]; omega, by rw [HZ0.out]; omega⟩
  case round =>
    obtain ⟨hbw, t, hBs, hv, hg, hts⟩ := hrel
    have hBs' := hBs
    obtain ⟨ab, rfl, hat⟩ := hBs
    clear HB0 HA HZ0
    by_cases h0 : 0 < t.size
    · obtain ⟨gb, ob, rfl, hgb, hbt⟩ := hat h0
      clear hat
      by_cases hasc : (t.get! 0).toNat < 128
      · exact fast (by assumption) (by assumption) hbw HT.out hBs' hgb hbt hv hg hts h0 hasc
      · by_cases s2 : Lib.firstT (t.get! 0).toNat % 8 = 2
        · exact lead2 (by assumption) (by assumption) hbw HT.out hBs' hgb hbt hv hg hts h0 hasc s2
        · by_cases s3 : Lib.firstT (t.get! 0).toNat % 8 = 3
          · exact lead3 (by assumption) (by assumption) hbw HT.out hBs' hgb hbt hv hg hts h0 hasc s3
          · by_cases s4 : Lib.firstT (t.get! 0).toNat % 8 = 4
            · exact lead4 (by assumption) (by assumption) hbw HT.out hBs' hgb hbt hv hg hts h0 hasc s4
            · exact leadBad (by assumption) (by assumption) hbw HT.out hBs' hgb hbt hv hg hts h0 hasc ⟨s2, s3, s4⟩
    · have h0z : ¬ ((0 : Int) < (t.size : Int)) := by omega
      have ht0 : t.data.toList = [] := List.eq_nil_of_length_eq_zero (by rw [← Lib.size_eq]; omega)
      rw [ht0, Lib.validD_nil] at hv
      subst hv
      go_wp2
      go_ret
      exact ⟨rfl, hbw⟩
end Go.Proofs.YtblhofoikpnbkaaDoor
