/- The walk of RunesLengths. -/
import Derived.Test.YtblhofoikpnbkaaDoorW6
import Derived.Deep.DeepCutAuto
namespace Go.Proofs.YtblhofoikpnbkaaDoor
open Go.RowKit

theorem below_lit1 (w : World) (o : Obj) : Below w.heap.size w (w.alloc o) := (Below.refl _ w).alloc (Nat.le_refl _) _
theorem enc_one (r : Int) : (enc [r]).length = (Lib.encodeRuneZ r).length := by simp [enc, Lib.encodeRune]
theorem enc_mono {r s : Int} (hr : vld r = true) (hs : vld s = true) (h : r < s) : (Lib.encodeRuneZ r).length ≤ (Lib.encodeRuneZ s).length := by
  simp only [vld, decide_eq_true_eq] at hr hs
  unfold Lib.encodeRuneZ
  repeat' split
  all_goals first | (exfalso; omega) | simp

theorem Sl.tail {k : IntKind} {w : World} {g off cap n : Nat} {z : Int} {l : List Int} (h : Sl k w (.slice (some ⟨g, off, none⟩) n cap) (z :: l)) :
    Sl k w (.slice (some ⟨g, off + 1, none⟩) l.length (cap - 1)) l := by
  obtain ⟨a, c, e, hc, hr⟩ := h
  cases e
  simp only [List.length_cons] at hc
  refine ⟨_, _, rfl, by omega, fun j y hj => ?_⟩
  obtain ⟨g', off', e, h0⟩ := hr (j + 1) y (by simpa using hj)
  cases e
  refine ⟨g, off + 1, rfl, ?_⟩
  rw [show off + 1 + j = off + (j + 1) by omega]
  exact h0

attribute [local go_sem ↓ high] builtin_app22
set_option maxRecDepth 100000 in
set_option maxHeartbeats 2000000 in
theorem lengths_any (b : List UInt8) (r s c : Int) (hc0 : 0 ≤ c) (hc1 : c ≤ 255) (v : Value) (w : World) (hT : Tabs w) (hv : By w v b) (ml : b.length ≤ maxLen) :
    Calls Tryd.prog 7 #[v, .int .i32 r, .int .i32 s, .int .u8 c] w fun e W' => e = .returned (.bool true) ∧ Below w.heap.size w W' := by
  unfold maxLen at ml
  have HT := Lib.hid hT
  by_cases h1 : 1000 < b.length
  · have HK := Lib.hid (known_any w hT)
    obtain ⟨a, cap, rfl, -, -⟩ := hv
    rw [List.length_map]
    have hz : (1000 : Int) < (b.length : Int) := by omega
    clear hT
    go_enter Tryd.func7, Tryd.ntmps7
    go_wp2_with (go_at_call 10; refine HK.out.mono ?_; rintro e w' ⟨rfl, hb⟩)
    go_ret
    exact ⟨rfl, hb⟩
  · have HV := Lib.hid hv
    obtain ⟨a, cap, hva, -, hr⟩ := hv
    rw [List.length_map] at hva
    have hn : ¬ (1000 : Int) < (b.length : Int) := by omega
    have hD := Lib.hid (decode_any b v w HV.out (by omega))
    have ld := dec_le b
    have lp : 0 < b.length → 0 < (dec b).length := fun h => dec_pos b (by intro h0; simp [h0] at h)
    have HASC := Lib.hid (fun (q : UInt8) (hq : q.toNat < 128) => dec_ascii q b hq)
    obtain ⟨D, hDD⟩ : ∃ D, dec b = D := ⟨_, rfl⟩
    rw [hDD] at hD ld lp
    simp only [hDD] at HASC
    clear hDD
    have HLP := Lib.hid lp
    clear lp
    subst hva
    clear hT hr
    go_enter Tryd.func7, Tryd.ntmps7
    go_wp2_with fail
    refine hD.out.mono ?_
    rintro e w1 ⟨u1, rfl, s1, b1⟩
    obtain ⟨a1, c1, hu1, -, -⟩ := id s1
    subst hu1
    have S1 := Lib.hid s1
    have B1 := Lib.hid b1
    have z1 := b1.size
    clear hD s1 b1
    go_wp2_with fail
    refine (encode_any [r] _ _ (sl_lit (k := .i32) w1 21 [r])).mono ?_
    rintro e w2 ⟨u2, rfl, s2, b2⟩
    obtain ⟨a2, c2, hu2, -, -⟩ := id s2
    rw [List.length_map, enc_one] at hu2
    subst hu2
    have C2 := Lib.hid ((below_lit1 w1 _).trans (b2.mono (by simp)))
    have z2 := C2.out.size
    clear s2 b2
    go_wp2_with fail
    refine (encode_any [s] _ _ (sl_lit (k := .i32) w2 21 [s])).mono ?_
    rintro e w3 ⟨u3, rfl, s3, b3⟩
    obtain ⟨a3, c3, hu3, -, -⟩ := id s3
    rw [List.length_map, enc_one] at hu3
    subst hu3
    have C3 := Lib.hid (C2.out.trans (((below_lit1 w2 _).trans (b3.mono (by simp))).mono z2))
    have B3 := Lib.hid (B1.out.trans (C3.out.mono z1))
    have z3 := B3.out.size
    have y3 := C3.out.size
    clear s3 b3
    obtain ⟨X, hX⟩ : ∃ X, (Lib.encodeRuneZ r).length = X := ⟨_, rfl⟩
    obtain ⟨Y, hY⟩ : ∃ Y, (Lib.encodeRuneZ s).length = Y := ⟨_, rfl⟩
    have lx := Lib.encodeRuneZ_length r
    have lm : vld r = true → vld s = true → r < s → X ≤ Y := fun h1 h2 h3 => by rw [← hX, ← hY]; exact enc_mono h1 h2 h3
    rw [hX] at lx ⊢
    rw [hY]
    have V1 := fun W => valid_any r W
    have V2 := fun W => valid_any s W
    obtain ⟨bv1, ev1⟩ : ∃ x, vld r = x := ⟨_, rfl⟩
    obtain ⟨bv2, ev2⟩ : ∃ x, vld s = x := ⟨_, rfl⟩
    rw [ev1] at lm
    rw [ev2] at lm
    simp only [ev1] at V1
    simp only [ev2] at V2
    have HV1 := Lib.hid V1
    have HV2 := Lib.hid V2
    have HLM := Lib.hid lm
    clear ev1 ev2 V1 V2 lm hX hY
    go_upto_region 6 with fail
    go_cut [68] from 28 to 68 (fun c wx => c = .bool false ∧ wx = w3)
    case first =>
      have hx1 : ¬ (X : Int) < 1 := by omega
      have hx4 : ¬ (4 : Int) < (X : Int) := by omega
      have hl : ¬ (b.length : Int) < (D.length : Int) := by omega
      rcases Nat.eq_zero_or_pos b.length with hb0 | hb0
      · have hz0 : ¬ (0 : Int) < (b.length : Int) := by omega
        clear hb0
        cases bv1
        · go_wp2_with (first | (go_at_call 17; refine (HV1.out _).mono ?_; rintro e w' ⟨rfl, rfl⟩))
          go_meet
          exact ⟨rfl, rfl⟩
        · cases bv2
          · go_wp2_with (first | (go_at_call 17; (with_reducible first | refine (HV1.out _).mono ?_ | refine (HV2.out _).mono ?_); rintro e w' ⟨rfl, rfl⟩))
            go_meet
            exact ⟨rfl, rfl⟩
          · by_cases hrs : r < s
            · have hxy := HLM.out rfl rfl hrs
              have hxy' : ¬ (Y : Int) < (X : Int) := by omega
              go_wp2_with (first | (go_at_call 17; (with_reducible first | refine (HV1.out _).mono ?_ | refine (HV2.out _).mono ?_); rintro e w' ⟨rfl, rfl⟩))
              go_meet
              exact ⟨congrArg Value.bool (decide_eq_false (by omega)), rfl⟩
            · go_wp2_with (first | (go_at_call 17; (with_reducible first | refine (HV1.out _).mono ?_ | refine (HV2.out _).mono ?_); rintro e w' ⟨rfl, rfl⟩))
              go_meet
              exact ⟨rfl, rfl⟩
      · have hz0 : (0 : Int) < (b.length : Int) := by omega
        have hd0 := HLP.out hb0
        have hd1 : ((D.length : Int) == 0) = false := by simp; intro h; simp [h] at hd0
        clear hd0 hb0
        cases bv1
        · go_wp2_with (first | (go_at_call 17; refine (HV1.out _).mono ?_; rintro e w' ⟨rfl, rfl⟩))
          go_meet
          exact ⟨rfl, rfl⟩
        · cases bv2
          · go_wp2_with (first | (go_at_call 17; (with_reducible first | refine (HV1.out _).mono ?_ | refine (HV2.out _).mono ?_); rintro e w' ⟨rfl, rfl⟩))
            go_meet
            exact ⟨rfl, rfl⟩
          · by_cases hrs : r < s
            · have hxy := HLM.out rfl rfl hrs
              have hxy' : ¬ (Y : Int) < (X : Int) := by omega
              go_wp2_with (first | (go_at_call 17; (with_reducible first | refine (HV1.out _).mono ?_ | refine (HV2.out _).mono ?_); rintro e w' ⟨rfl, rfl⟩))
              go_meet
              exact ⟨congrArg Value.bool (decide_eq_false (by omega)), rfl⟩
            · go_wp2_with (first | (go_at_call 17; (with_reducible first | refine (HV1.out _).mono ?_ | refine (HV2.out _).mono ?_); rintro e w' ⟨rfl, rfl⟩))
              go_meet
              exact ⟨rfl, rfl⟩
    case rest =>
      obtain ⟨rfl, rfl⟩ := hcut
      by_cases hc : 127 < c
      · have HK := Lib.hid (known_any wc (HT.out.below B3.out))
        go_wp2_with (go_at_call 10; refine HK.out.mono ?_; rintro e w' ⟨rfl, hb⟩)
        go_ret
        exact ⟨rfl, B3.out.trans (hb.mono z3)⟩
      · obtain ⟨q, rfl⟩ : ∃ q : UInt8, c = (q.toNat : Int) := ⟨UInt8.ofNat c.toNat, by rw [UInt8.toNat_ofNat']; omega⟩
        have hq' : q.toNat < 128 := by omega
        have ba := below_lit1 wc (.cells #[.int .u8 q.toNat] 5)
        have oa : Own wc.heap.size 5 .u8 (wc.alloc (.cells #[.int .u8 q.toNat] 5)) (.slice (some ⟨wc.heap.size, 0, none⟩) 1 1) [(q.toNat : Int)] := own_lit (k := .u8) wc (Nat.le_refl _) 5 [(q.toNat : Int)] (by simp [maxLen])
        have hva : By (wc.alloc (.cells #[.int .u8 q.toNat] 5)) (.slice a b.length cap) b := By.below HV.out (B3.out.trans (ba.mono z3))
        obtain ⟨x', w4, k4, o4, g4, -⟩ := app22_own oa hva (by simp) (by simp; omega)
        have b4 := oa.below ba (by simp) g4
        have hx' : By w4 x' (q :: b) := by
          have := o4.sl
          unfold By
          rw [List.map_cons]
          exact this
        have B4 := Lib.hid (B3.out.trans (b4.mono z3))
        have C4 := Lib.hid (C3.out.trans (b4.mono y3))
        have y4 := C4.out.size
        have HX := Lib.hid hx'
        have hm := Lib.hid (decode_any (q :: b) x' w4 hx' (by simp; omega))
        rw [HASC.out q hq'] at hm
        have z4 := B4.out.size
        clear o4 g4 b4 hx' oa ba hva
        go_wp2_with fail
        refine hm.out.mono ?_
        rintro e w5 ⟨u5, rfl, s5, b5⟩
        have B5 := Lib.hid (B4.out.trans (b5.mono z4))
        have S1' := Lib.hid (Sl.below S1.out (C4.out.trans (b5.mono y4)))
        obtain ⟨a5, c5, hu5, hc5, h5⟩ := id s5
        obtain ⟨g5, o5, ha5, e5⟩ := h5 0 _ rfl
        subst ha5
        subst hu5
        have T5 := Lib.hid (Sl.tail s5)
        have HK := fun W (h : Below w.heap.size w W) => known_any W (HT.out.below h)
        have HK' := Lib.hid HK
        have z5 := B5.out.size
        clear s5 b5 h5 HK
        simp only [List.length_cons] at hc5 ⊢
        have e5' : w5.cell? ⟨g5, o5, none⟩ = some (.int .i32 (q.toNat : Int)) := e5
        clear e5
        by_cases q5 : c5 = 1
        · subst q5
          obtain rfl : D = [] := List.eq_nil_of_length_eq_zero (by omega)
          have T6 : Sl .i32 w5 (.slice (some ⟨g5, o5, none⟩) 0 0) [] := ⟨_, _, rfl, by simp, fun j z hj => by simp at hj⟩
          have S6 : Sl .i32 w5 (.slice a1 0 c1) [] := S1'.out
          have hsame := Lib.hid (same_any [] _ _ w5 T6 S6 (by simp))
          clear T6 S6
          simp only [List.length_nil]
          go_wp2_with (first
            | (go_at_call 12; refine hsame.out.mono ?_; rintro e w6 ⟨rfl, b6⟩; have B6 := Lib.hid (B5.out.trans (b6.mono z5)); have HK6 := Lib.hid (HK'.out _ B6.out); clear b6)
            | (go_at_call 10; refine HK6.out.mono ?_; rintro e w' ⟨rfl, hbk⟩))
          go_ret
          exact ⟨rfl, B6.out.trans (hbk.mono B6.out.size)⟩
        · have hsame := Lib.hid (same_any D _ _ w5 T5.out S1'.out (by omega))
          go_wp2_with (first
            | (go_at_call 12; refine hsame.out.mono ?_; rintro e w6 ⟨rfl, b6⟩; have B6 := Lib.hid (B5.out.trans (b6.mono z5)); have HK6 := Lib.hid (HK'.out _ B6.out); clear b6)
            | (go_at_call 10; refine HK6.out.mono ?_; rintro e w' ⟨rfl, hbk⟩))
          go_ret
          exact ⟨rfl, B6.out.trans (hbk.mono B6.out.size)⟩
end Go.Proofs.YtblhofoikpnbkaaDoor
