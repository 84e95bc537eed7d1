/- The walk of CellsTrims. -/
import Derived.Test.YtkiglnfapoifiaaDoorGa
import Derived.Test.YtkiglnfapoifiaaDoorGb
namespace Go.Proofs.YtkiglnfapoifiaaDoor
open Go.RowKit
attribute [local go_sem ↓ high] slice_frontG slice_backG

set_option maxRecDepth 100000 in
set_option maxHeartbeats 4000000 in
theorem trims_any (l : List Gly) (v : Value) (q n : Int) (w : World) (hT : Tabs w) (hv : Gs w v l) (ml : l.length ≤ maxLen) (q0 : 0 ≤ q) (q1 : q ≤ 65535) (n0 : 0 ≤ n) (n1 : n ≤ 255) :
    Calls Tryd.prog 9 #[v, .int .u16 q, .int .u8 n] w fun e W' => e = .returned (.bool true) ∧ Below w.heap.size w W' := by
  unfold maxLen at ml
  have HT := Lib.hid hT
  have HV := Lib.hid hv
  obtain ⟨a, cap, rfl⟩ := hv.len
  clear hT hv
  by_cases h1 : 300 < l.length
  · have HK := Lib.hid (known_any w HT.out)
    have hz : (300 : Int) < (l.length : Int) := by omega
    go_enter Tryd.func9, Tryd.ntmps9
    go_wp2_with (go_at_call 10; refine HK.out.mono ?_; rintro e w' ⟨rfl, hb⟩)
    go_ret
    exact ⟨rfl, hb⟩
  · by_cases h2 : 2000 < q
    · have HK := Lib.hid (known_any w HT.out)
      have hz : ¬ (300 : Int) < (l.length : Int) := by omega
      go_enter Tryd.func9, Tryd.ntmps9
      go_wp2_with (go_at_call 10; refine HK.out.mono ?_; rintro e w' ⟨rfl, hb⟩)
      go_ret
      exact ⟨rfl, hb⟩
    · have hz : ¬ (300 : Int) < (l.length : Int) := by omega
      have hTl := trimL_len l
      have hTn := trimN_le l
      have HTL := Lib.hid (trimN_last l)
      have HTT := Lib.hid (trimN_tail l)
      have HTk : Hid (l.take (trimN l) = trimL l) := Lib.hid rfl
      have hbn : blankN n = n.toNat := by unfold blankN; omega
      have hfl : fillL l q = l ++ List.replicate (blankN (q - gsm l)) bg := rfl
      have HF1 : Hid (trimL (fillL l q) = trimL l) := Lib.hid (by rw [hfl]; exact trimL_app_blanks l _)
      have HF2 : Hid ((fillL l q).length ≤ 66000) := Lib.hid (by rw [hfl]; simp; unfold blankN; omega)
      have HB1 : Hid (trimL (l ++ List.replicate n.toNat bg) = trimL l) := Lib.hid (trimL_app_blanks l _)
      have HC := Lib.hid (trim_any l _ w HV.out (by omega))
      have HFI := Lib.hid (fun W (h : Below w.heap.size w W) => fill_any l _ q W (HT.out.below h) (Fs.below HV.out h) (by omega) q0 q1)
      have HBL := Lib.hid (fun W => blank_any n W)
      rw [hbn] at HBL
      obtain ⟨N, hN⟩ : ∃ N, n.toNat = N := ⟨_, rfl⟩
      have hNn : n = (N : Int) := by omega
      rw [hN] at HBL HB1
      obtain ⟨t, ht⟩ : ∃ t, trimN l = t := ⟨_, rfl⟩
      rw [ht] at hTl hTn HTL HTT HTk
      obtain ⟨T, hT2⟩ : ∃ T, trimL l = T := ⟨_, rfl⟩
      rw [hT2] at hTl HTk HF1 HB1 HC
      obtain ⟨F, hF⟩ : ∃ F, fillL l q = F := ⟨_, rfl⟩
      rw [hF] at HF1 HF2 HFI
      clear hbn hfl hF hT2 ht hN
      subst hNn
      subst hTl
      have htz : ¬ (l.length : Int) < (T.length : Int) := by omega
      have htd : decide (l.length < T.length) = false := by rw [decide_eq_false_iff_not]; omega
      go_enter Tryd.func9, Tryd.ntmps9
      go_wp2_with fail
      refine HC.out.mono ?_
      rintro e w1 ⟨u1, rfl, o1, b1⟩
      have S1 := Lib.hid (o1.sl gcell_len)
      have B1 := Lib.hid b1
      have z1 := b1.size
      obtain ⟨at1, ct1, rfl⟩ := S1.out.len
      obtain ⟨uf, f1, s2, -⟩ := frontG_run HV.out T.length hTn
      rw [HTk.out] at s2
      have HS := Lib.hid (rsameg_any T T uf (.slice at1 T.length ct1) w1 (Fs.below s2 b1) S1.out (by omega) (by omega))
      rw [decide_eq_true (rfl : T = T)] at HS
      clear o1 b1 s2 HC
      go_wp2_with fail
      refine HS.out.mono ?_
      rintro e w2 ⟨rfl, b2⟩
      have C2 := Lib.hid b2
      have B2 := Lib.hid (B1.out.trans (b2.mono z1))
      have z2 := B2.out.size
      have S2 := Lib.hid (Fs.below S1.out b2)
      clear b2 HS
      by_cases hTe : T = []
      · subst hTe
        simp only [List.length_nil] at *
        have B4 := Lib.hid B2.out
        have S4 := Lib.hid S2.out
        obtain ⟨w4, hw4⟩ : ∃ w4, w2 = w4 := ⟨_, rfl⟩
        subst hw4
        have z4 := B4.out.size
        go_wp2_with fail
        go_loopw [8] (fun i wr => ∃ j : Nat, 0 ≤ j ∧ j ≤ l.length ∧ i = .int .i64 j ∧ wr = w2) (fun i _ => l.length - (intOf i).toNat)
        case atStart => exact ⟨0, Nat.le_refl _, by first | omega | simp, rfl, rfl⟩
        case round =>
          obtain ⟨j, hj1, hj, rfl, rfl⟩ := hrel
          by_cases hlt : j < l.length
          · obtain ⟨z, hz⟩ : ∃ z, l[j]? = some z := ⟨l[j], List.getElem?_eq_getElem hlt⟩
            obtain ⟨g2, off2, rfl, c0, c1, -⟩ := Gs.at (Fs.below HV.out B4.out) hz
            have hz32 := HTT.out j z hj1 hz
            have hzb : (z.1 != 32) = false := by simp [hz32]
            have hi0 : (j : Int) < (l.length : Int) := by omega
            have hi1 : (0 : Int) ≤ (j : Int) := by omega
            clear hz hz32 c1
            go_wp2_with fail
            go_roundw
            case rel => exact ⟨j + 1, by omega, by omega, by go_num, by first | trivial | rfl⟩
            case measure => (simp [intOf]; try omega)
          · obtain rfl : j = l.length := by omega
            have HBq := Lib.hid (HBL.out wr)
            clear hj1
            go_wp2_with fail
            refine HBq.out.mono ?_
            rintro e w5 ⟨u5, rfl, o5, b5⟩
            have B5 := Lib.hid (B4.out.trans (b5.mono z4))
            have D5 := Lib.hid b5
            have y5 := b5.size
            have HJ := Lib.hid (join_any l (List.replicate N bg) _ u5 w5 (Fs.below HV.out B5.out) (o5.sl gcell_len) (by simp; omega))
            clear o5 b5 HBq
            go_wp2_with fail
            refine HJ.out.mono ?_
            rintro e w6 ⟨u6, rfl, o6, b6⟩
            have B6 := Lib.hid (B5.out.trans (b6.mono B5.out.size))
            have D6 := Lib.hid (D5.out.trans (b6.mono y5))
            have S6 := Lib.hid (FOwn.sl gcell_len o6)
            have HF := Lib.hid (HFI.out w6 B6.out)
            clear o6 b6 HJ
            go_wp2_with fail
            refine HF.out.mono ?_
            rintro e w7 ⟨u7, rfl, o7, b7⟩
            have B7 := Lib.hid (B6.out.trans (b7.mono B6.out.size))
            have D7 := Lib.hid (D6.out.trans (b7.mono D6.out.size))
            have S7 := Lib.hid (FOwn.sl gcell_len o7)
            have HT1 := Lib.hid (trim_any (l ++ List.replicate N bg) u6 w7 (Fs.below S6.out b7) (by simp; omega))
            rw [HB1.out] at HT1
            clear o7 b7 HF
            go_wp2_with fail
            refine HT1.out.mono ?_
            rintro e w8 ⟨u8, rfl, o8, b8⟩
            have B8 := Lib.hid (B7.out.trans (b8.mono B7.out.size))
            have D8 := Lib.hid (D7.out.trans (b8.mono D7.out.size))
            have S78 := Lib.hid (Fs.below S7.out b8)
            have HS1 := Lib.hid (rsameg_any ([] : List Gly) ([] : List Gly) u8 _ w8 (o8.sl gcell_len) (Fs.below S4.out D8.out) (by first | omega | simp) (by first | omega | simp))
            rw [decide_eq_true (rfl : ([] : List Gly) = ([] : List Gly))] at HS1
            clear o8 b8 HT1
            go_wp2_with fail
            refine HS1.out.mono ?_
            rintro e w9 ⟨rfl, b9⟩
            have B9 := Lib.hid (B8.out.trans (b9.mono B8.out.size))
            have D9 := Lib.hid (D8.out.trans (b9.mono D8.out.size))
            have HT2 := Lib.hid (trim_any F u7 w9 (Fs.below S78.out b9) (by have := HF2.out; omega))
            rw [HF1.out] at HT2
            clear b9 HS1
            go_wp2_with fail
            refine HT2.out.mono ?_
            rintro e w10 ⟨u10, rfl, o10, b10⟩
            have B10 := Lib.hid (B9.out.trans (b10.mono B9.out.size))
            have D10 := Lib.hid (D9.out.trans (b10.mono D9.out.size))
            have HS2 := Lib.hid (rsameg_any ([] : List Gly) ([] : List Gly) u10 _ w10 (o10.sl gcell_len) (Fs.below S4.out D10.out) (by first | omega | simp) (by first | omega | simp))
            rw [decide_eq_true (rfl : ([] : List Gly) = ([] : List Gly))] at HS2
            clear o10 b10 HT2
            go_wp2_with fail
            refine HS2.out.mono ?_
            rintro e w11 ⟨rfl, b11⟩
            have B11 := Lib.hid (B10.out.trans (b11.mono B10.out.size))
            have HB2 := Lib.hid (HBL.out w11)
            clear b11 HS2
            go_wp2_with fail
            refine HB2.out.mono ?_
            rintro e w12 ⟨u12, rfl, o12, b12⟩
            have B12 := Lib.hid (B11.out.trans (b12.mono B11.out.size))
            have S12 := o12.sl gcell_len
            obtain ⟨a12, c12, rfl⟩ := S12.len
            simp only [List.length_replicate]
            have HK := Lib.hid (known_any w12 (HT.out.below B12.out))
            clear o12 b12 HB2 S12
            go_wp2_with fail
            refine HK.out.mono ?_
            rintro e w13 ⟨rfl, b13⟩
            go_wp2_with fail
            go_ret
            exact ⟨rfl, B12.out.trans (b13.mono B12.out.size)⟩
      · have hTp : 0 < T.length := List.length_pos_iff.2 hTe
        obtain ⟨m, hm⟩ : ∃ m, T.length = m + 1 := ⟨T.length - 1, by omega⟩
        obtain ⟨x, hx⟩ : ∃ x, T[m]? = some x := ⟨T[m]'(by omega), List.getElem?_eq_getElem _⟩
        have hxl : l[m]? = some x := by
          have h := hx
          rw [← HTk.out, List.getElem?_take_of_lt (by omega)] at h
          exact h
        have hx32 : x.1 ≠ 32 := HTL.out x (by omega) (by rw [hm]; exact hxl)
        have hTml : T.length ≤ 300 := by omega
        simp only [hm] at *
        obtain ⟨gx, ox, rfl, d0, d1, -⟩ := Gs.at S2.out hx
        have hxb : (x.1 == 32) = false := by simpa using hx32
        have hm0 : (0 : Int) < ((m + 1 : Nat) : Int) := by omega
        have hm1 : (0 : Int) ≤ (m : Int) := by omega
        have hm2 : (m : Int) < ((m + 1 : Nat) : Int) := by omega
        have hTm : T.length ≤ 301 := by
          obtain ⟨_, _, hv⟩ := S2.out.len
          injection hv with _ h _
          omega
        have B4 := Lib.hid B2.out
        have S4 := Lib.hid S2.out
        clear hx hxl hx32 hm hTp hTe d1
        have z4 := B4.out.size
        go_wp2_with fail
        go_loopw [8] (fun i wr => ∃ j : Nat, m + 1 ≤ j ∧ j ≤ l.length ∧ i = .int .i64 j ∧ wr = w2) (fun i _ => l.length - (intOf i).toNat)
        case atStart => exact ⟨m + 1, Nat.le_refl _, by first | omega | simp, by go_num, rfl⟩
        case round =>
          obtain ⟨j, hj1, hj, rfl, rfl⟩ := hrel
          by_cases hlt : j < l.length
          · obtain ⟨z, hz⟩ : ∃ z, l[j]? = some z := ⟨l[j], List.getElem?_eq_getElem hlt⟩
            obtain ⟨g2, off2, rfl, c0, c1, -⟩ := Gs.at (Fs.below HV.out B4.out) hz
            have hz32 := HTT.out j z hj1 hz
            have hzb : (z.1 != 32) = false := by simp [hz32]
            have hi0 : (j : Int) < (l.length : Int) := by omega
            have hi1 : (0 : Int) ≤ (j : Int) := by omega
            clear hz hz32 c1
            go_wp2_with fail
            go_roundw
            case rel => exact ⟨j + 1, by omega, by omega, by go_num, by first | trivial | rfl⟩
            case measure => (simp [intOf]; try omega)
          · obtain rfl : j = l.length := by omega
            have HBq := Lib.hid (HBL.out wr)
            clear hj1
            go_wp2_with fail
            refine HBq.out.mono ?_
            rintro e w5 ⟨u5, rfl, o5, b5⟩
            have B5 := Lib.hid (B4.out.trans (b5.mono z4))
            have D5 := Lib.hid b5
            have y5 := b5.size
            have HJ := Lib.hid (join_any l (List.replicate N bg) _ u5 w5 (Fs.below HV.out B5.out) (o5.sl gcell_len) (by simp; omega))
            clear o5 b5 HBq
            go_wp2_with fail
            refine HJ.out.mono ?_
            rintro e w6 ⟨u6, rfl, o6, b6⟩
            have B6 := Lib.hid (B5.out.trans (b6.mono B5.out.size))
            have D6 := Lib.hid (D5.out.trans (b6.mono y5))
            have S6 := Lib.hid (FOwn.sl gcell_len o6)
            have HF := Lib.hid (HFI.out w6 B6.out)
            clear o6 b6 HJ
            go_wp2_with fail
            refine HF.out.mono ?_
            rintro e w7 ⟨u7, rfl, o7, b7⟩
            have B7 := Lib.hid (B6.out.trans (b7.mono B6.out.size))
            have D7 := Lib.hid (D6.out.trans (b7.mono D6.out.size))
            have S7 := Lib.hid (FOwn.sl gcell_len o7)
            have HT1 := Lib.hid (trim_any (l ++ List.replicate N bg) u6 w7 (Fs.below S6.out b7) (by simp; omega))
            rw [HB1.out] at HT1
            clear o7 b7 HF
            go_wp2_with fail
            refine HT1.out.mono ?_
            rintro e w8 ⟨u8, rfl, o8, b8⟩
            have B8 := Lib.hid (B7.out.trans (b8.mono B7.out.size))
            have D8 := Lib.hid (D7.out.trans (b8.mono D7.out.size))
            have S78 := Lib.hid (Fs.below S7.out b8)
            have HS1 := Lib.hid (rsameg_any T T u8 _ w8 (o8.sl gcell_len) (Fs.below S4.out D8.out) (by omega) (by omega))
            rw [decide_eq_true (rfl : T = T)] at HS1
            clear o8 b8 HT1
            go_wp2_with fail
            refine HS1.out.mono ?_
            rintro e w9 ⟨rfl, b9⟩
            have B9 := Lib.hid (B8.out.trans (b9.mono B8.out.size))
            have D9 := Lib.hid (D8.out.trans (b9.mono D8.out.size))
            have HT2 := Lib.hid (trim_any F u7 w9 (Fs.below S78.out b9) (by have := HF2.out; omega))
            rw [HF1.out] at HT2
            clear b9 HS1
            go_wp2_with fail
            refine HT2.out.mono ?_
            rintro e w10 ⟨u10, rfl, o10, b10⟩
            have B10 := Lib.hid (B9.out.trans (b10.mono B9.out.size))
            have D10 := Lib.hid (D9.out.trans (b10.mono D9.out.size))
            have HS2 := Lib.hid (rsameg_any T T u10 _ w10 (o10.sl gcell_len) (Fs.below S4.out D10.out) (by omega) (by omega))
            rw [decide_eq_true (rfl : T = T)] at HS2
            clear o10 b10 HT2
            go_wp2_with fail
            refine HS2.out.mono ?_
            rintro e w11 ⟨rfl, b11⟩
            have B11 := Lib.hid (B10.out.trans (b11.mono B10.out.size))
            have HB2 := Lib.hid (HBL.out w11)
            clear b11 HS2
            go_wp2_with fail
            refine HB2.out.mono ?_
            rintro e w12 ⟨u12, rfl, o12, b12⟩
            have B12 := Lib.hid (B11.out.trans (b12.mono B11.out.size))
            have S12 := o12.sl gcell_len
            obtain ⟨a12, c12, rfl⟩ := S12.len
            simp only [List.length_replicate]
            have HK := Lib.hid (known_any w12 (HT.out.below B12.out))
            clear o12 b12 HB2 S12
            go_wp2_with fail
            refine HK.out.mono ?_
            rintro e w13 ⟨rfl, b13⟩
            go_wp2_with fail
            go_ret
            exact ⟨rfl, B12.out.trans (b13.mono B12.out.size)⟩
end Go.Proofs.YtkiglnfapoifiaaDoor
