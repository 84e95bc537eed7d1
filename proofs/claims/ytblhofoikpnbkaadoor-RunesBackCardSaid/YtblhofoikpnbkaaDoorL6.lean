/- The walk of RunesBack. -/
import Derived.Test.YtblhofoikpnbkaaDoorV3
import Derived.Deep.DeepCutAuto
namespace Go.Proofs.YtblhofoikpnbkaaDoor
open Go.RowKit
attribute [local go_sem ↓ high] builtin_app22 builtin_app24

theorem allv_take {l : List Int} {j : Nat} {z : Int} (h : l[j]? = some z) : (l.take (j + 1)).all vld = ((l.take j).all vld && vld z) := by
  rw [List.take_add_one, h]
  simp

set_option maxRecDepth 100000 in
set_option maxHeartbeats 4000000 in
theorem back_any (l : List Int) (a b : List UInt8) (vl va vb : Value) (w : World) (hT : Tabs w) (hU : Lib.Utf8Tabs 0 1 w) (hl : Sl .i32 w vl l) (ha : By w va a) (hb : By w vb b)
    (ml : l.length ≤ maxLen) (ma : a.length ≤ maxLen) (mb : b.length ≤ maxLen) :
    Calls Tryd.prog 5 #[vl, va, vb] w fun e W' => e = .returned (.bool true) ∧ Below w.heap.size w W' := by
  unfold maxLen at ml ma mb
  have HT := Lib.hid hT
  have HU := Lib.hid hU
  have HL := Lib.hid hl
  have HA := Lib.hid ha
  have HB := Lib.hid hb
  obtain ⟨al, cl, rfl, -, hrl⟩ := hl
  obtain ⟨aa, ca, rfl, -, -⟩ := ha
  obtain ⟨ab, cb, rfl, -, -⟩ := hb
  rw [List.length_map] at HA ⊢
  rw [List.length_map] at HB ⊢
  clear hT hU
  by_cases h1 : 500 < l.length
  · have HK := Lib.hid (known_any w HT.out)
    have hz : (500 : Int) < (l.length : Int) := by omega
    clear hrl
    go_enter Tryd.func5, Tryd.ntmps5
    go_wp2_with (go_at_call 10; refine HK.out.mono ?_; rintro e w' ⟨rfl, hb⟩)
    go_ret
    exact ⟨rfl, hb⟩
  · by_cases h2 : 1000 < a.length
    · have HK := Lib.hid (known_any w HT.out)
      have hz : ¬ (500 : Int) < (l.length : Int) := by omega
      have hz2 : (1000 : Int) < (a.length : Int) := by omega
      clear hrl
      go_enter Tryd.func5, Tryd.ntmps5
      go_wp2_with (go_at_call 10; refine HK.out.mono ?_; rintro e w' ⟨rfl, hb⟩)
      go_ret
      exact ⟨rfl, hb⟩
    · by_cases h3 : 1000 < b.length
      · have HK := Lib.hid (known_any w HT.out)
        have hz : ¬ (500 : Int) < (l.length : Int) := by omega
        have hz2 : ¬ (1000 : Int) < (a.length : Int) := by omega
        have hz3 : (1000 : Int) < (b.length : Int) := by omega
        clear hrl
        go_enter Tryd.func5, Tryd.ntmps5
        go_wp2_with (go_at_call 10; refine HK.out.mono ?_; rintro e w' ⟨rfl, hb⟩)
        go_ret
        exact ⟨rfl, hb⟩
      · have hz : ¬ (500 : Int) < (l.length : Int) := by omega
        have hz2 : ¬ (1000 : Int) < (a.length : Int) := by omega
        have hz3 : ¬ (1000 : Int) < (b.length : Int) := by omega
        have HR := Lib.hid hrl
        clear hrl
        go_enter Tryd.func5, Tryd.ntmps5
        go_wp2_with fail
        go_loopw [7, 8] (fun s i wr => ∃ (j : Nat) (q : Bool), j ≤ l.length ∧ i = .int .i64 j ∧ s = .bool q ∧ (l.take j).all vld = q ∧ wr = w) (fun _ i _ => l.length - (intOf i).toNat)
        case atStart => exact ⟨0, true, by omega, rfl, rfl, rfl, rfl⟩
        case round =>
          obtain ⟨j, q, hj, rfl, rfl, hq, rfl⟩ := hrel
          by_cases hlt : j < l.length
          · obtain ⟨z, hzj⟩ : ∃ z, l[j]? = some z := ⟨l[j], List.getElem?_eq_getElem hlt⟩
            obtain ⟨g, off, rfl, c0⟩ := HR.out j z hzj
            have hn := allv_take hzj
            have V := valid_any z wr
            obtain ⟨bz, hbz⟩ : ∃ bz, vld z = bz := ⟨_, rfl⟩
            rw [hq, hbz] at hn
            rw [hbz] at V
            have HN := Lib.hid hn
            clear hn hbz hq hzj
            have hi0 : (j : Int) < (l.length : Int) := by omega
            have hi1 : (0 : Int) ≤ (j : Int) := by omega
            cases q
            · go_wp2_with (go_at_call 17; refine V.mono ?_; rintro e w' ⟨rfl, rfl⟩)
              go_roundw
              case rel => exact ⟨j + 1, false, by omega, by go_num, rfl, HN.out, by first | trivial | rfl⟩
              case measure => simp [intOf]; omega
            · go_wp2_with (go_at_call 17; refine V.mono ?_; rintro e w' ⟨rfl, rfl⟩)
              go_roundw
              case rel => exact ⟨j + 1, bz, by omega, by go_num, rfl, by rw [HN.out]; simp, by first | trivial | rfl⟩
              case measure => simp [intOf]; omega
          · obtain rfl : j = l.length := by omega
            rw [List.take_length] at hq
            have HQ := Lib.hid hq
            clear hq
            have HE := Lib.hid (encode_any l _ wr HL.out)
            go_wp2_with fail
            refine HE.out.mono ?_
            rintro e w1 ⟨u1, rfl, s1, b1⟩
            have S1 := Lib.hid s1
            have B1 := Lib.hid b1
            have z1 := b1.size
            have hel := enc_len l
            clear s1 b1 HE
            have HRt := Lib.hid (fun W (h : Below w1.heap.size w1 W) => right_any (enc l) u1 W (by omega) (S1.out.below h) (Utf8Tabs_below HU.out (B1.out.trans (h.mono z1))))
            have hval : decide (enc (dec (enc l)) = enc l) = true := decide_eq_true ((valid_iff _ (enc l) (Nat.le_refl _)).1 (enc_valid l))
            rw [hval] at HRt
            clear hval
            have HD1 := Lib.hid (decode_any (enc l) u1 w1 S1.out (by omega))
            go_upto_region 9 with fail
            go_cut [54] from 42 to 54 (fun c wx => c = .bool false ∧ Below w1.heap.size w1 wx)
            case first =>
              cases q
              · have hr := Lib.hid (HRt.out w1 (Below.refl _ _))
                go_wp2_with (go_at_call 14; refine hr.out.mono ?_; rintro e w2 ⟨rfl, b2⟩)
                go_meet
                exact ⟨rfl, b2⟩
              · have hd : dec (enc l) = l := dec_enc l (fun z hz => by have := List.all_eq_true.1 HQ.out z hz; exact this)
                rw [hd] at HD1
                clear hd
                go_wp2_with fail
                refine HD1.out.mono ?_
                rintro e w2 ⟨u2, rfl, s2, b2⟩
                have z2 := b2.size
                have hs2 := Lib.hid (same_any l u2 _ w2 s2 (Sl.below HL.out (B1.out.trans (b2.mono z1))) (by omega))
                have B2 := Lib.hid b2
                clear s2 b2
                go_wp2_with fail
                refine hs2.out.mono ?_
                rintro e w3 ⟨rfl, b3⟩
                have B3 := Lib.hid (B2.out.trans (b3.mono z2))
                have hr := Lib.hid (HRt.out w3 B3.out)
                clear b3
                go_wp2_with (go_at_call 14; refine hr.out.mono ?_; rintro e w4 ⟨rfl, b4⟩)
                go_meet
                exact ⟨rfl, B3.out.trans (b4.mono B3.out.size)⟩
            case rest =>
              obtain ⟨rfl, bc⟩ := hcut
              have BC := Lib.hid (B1.out.trans (bc.mono z1))
              have zc := BC.out.size
              clear bc HRt HD1
              have HD2 := Lib.hid (decode_own a _ wc (By.below HA.out BC.out) (by omega))
              go_wp2_with fail
              refine HD2.out.mono ?_
              rintro e w4 ⟨u3, rfl, o3, b4⟩
              have O3 := Lib.hid o3
              have C4 := Lib.hid b4
              have y4 := b4.size
              have dl := dec_le a
              have HE2 := Lib.hid (encode_any (dec a) u3 w4 o3.sl)
              clear o3 b4 HD2
              go_wp2_with fail
              refine HE2.out.mono ?_
              rintro e w5 ⟨u4, rfl, s5, b5⟩
              have D5 := Lib.hid b5
              have el4 := enc_len (dec a)
              have y5 := b5.size
              have HD3 := Lib.hid (decode_any (enc (dec a)) u4 w5 s5 (by omega))
              rw [dec_enc_dec] at HD3
              clear s5 b5 HE2
              go_wp2_with fail
              refine HD3.out.mono ?_
              rintro e w6 ⟨u5, rfl, s6, b6⟩
              have D6 := Lib.hid (D5.out.trans (b6.mono y5))
              have y6 := D6.out.size
              have hs6 := Lib.hid (same_any (dec a) u5 u3 w6 s6 (Sl.below O3.out.sl D6.out) (by omega))
              clear s6 b6 HD3
              go_wp2_with fail
              refine hs6.out.mono ?_
              rintro e w7 ⟨rfl, b7⟩
              have D7 := Lib.hid (D6.out.trans (b7.mono y6))
              have y7 := D7.out.size
              have C7 := Lib.hid (C4.out.trans (D7.out.mono y4))
              have B7 := Lib.hid (BC.out.trans (C7.out.mono zc))
              have z7 := B7.out.size
              clear b7 hs6
              have HR7 := Lib.hid (right_any a _ w7 (by omega) (By.below HA.out B7.out) (Utf8Tabs_below HU.out B7.out))
              by_cases hra : enc (dec a) = a
              · rw [decide_eq_true hra] at HR7
                have hva : Lib.validD a = true := (valid_iff _ a (Nat.le_refl _)).2 hra
                have HDA := Lib.hid (dec_app a b hva)
                clear hva hra
                go_wp2_with fail
                refine HR7.out.mono ?_
                rintro e w8 ⟨rfl, b8⟩
                have D8 := Lib.hid (D7.out.trans (b8.mono y7))
                have B8 := Lib.hid (B7.out.trans (b8.mono z7))
                have y8 := D8.out.size
                have z8 := B8.out.size
                have HC := Lib.hid (copy_own a _ w8 (By.below HA.out B8.out) (by omega))
                clear b8 HR7
                go_wp2_with fail
                refine HC.out.mono ?_
                rintro e w9 ⟨x1, rfl, o9, b9⟩
                have D9 := Lib.hid (D8.out.trans (b9.mono y8))
                have B9 := Lib.hid (B8.out.trans (b9.mono z8))
                have q9 := b9.size
                have z9 := B9.out.size
                have E9 := Lib.hid b9
                obtain ⟨x2, wa, ka, oa, ga, -⟩ := app22_own o9 (By.below HB.out B9.out) q9 (by simp; omega)
                have Ea := Lib.hid (o9.below E9.out q9 ga)
                have OA := Lib.hid oa
                have Da := Lib.hid (D8.out.trans (Ea.out.mono y8))
                have Ba := Lib.hid (B8.out.trans (Ea.out.mono z8))
                have za := Ba.out.size
                have ya := Da.out.size
                have qa := Ea.out.size
                clear oa ga o9 b9 HC
                have HDb := Lib.hid (decode_any b _ wa (By.below HB.out Ba.out) (by omega))
                go_wp2_with fail
                refine HDb.out.mono ?_
                rintro e wb ⟨u9, rfl, sb, bb⟩
                have Db := Lib.hid (Da.out.trans (bb.mono ya))
                have yb := Db.out.size
                have Bb := Lib.hid (Ba.out.trans (bb.mono za))
                have zb := Bb.out.size
                have OB := Lib.hid (OA.out.keep bb)
                have O3b := Lib.hid (O3.out.keep Db.out)
                have dlb := dec_le b
                obtain ⟨x3, wd, kd, od, gd, -⟩ := app24_own O3b.out sb (by omega) (by omega)
                have Bd := Lib.hid (Below.trans BC.out (((O3b.out.below (Below.trans C4.out (Db.out.mono y4)) (by omega) gd)).mono zc))
                have hx3 := World.ownsRow.lt O3.out
                have hx2 := World.ownsRow.lt OB.out
                have OBd := Lib.hid (show Own w8.heap.size 5 .u8 wd x2 _ from World.ownsRow.kept OB.out gd (by
                  cases h : x2.ownBlock with
                  | none => exact .inl rfl
                  | some k2 =>
                    refine .inr fun e => ?_
                    have h2 := (hx2 k2 h).1
                    have h3 := (hx3 k2 e.symm).2
                    omega))
                have hboth : By wd x2 (a ++ b) := by
                  have := OBd.out.sl
                  unfold By
                  rw [List.map_append]
                  exact this
                have HDd := Lib.hid (decode_any (a ++ b) x2 wd hboth (by simp; omega))
                rw [HDA.out] at HDd
                have SD := Lib.hid od.sl
                have zd := Bd.out.size
                clear sb bb od gd hx2 hx3 hboth HDb
                go_wp2_with fail
                refine HDd.out.mono ?_
                rintro e we ⟨u10, rfl, se, be⟩
                have Be := Lib.hid (Bd.out.trans (be.mono zd))
                have ze := Be.out.size
                have hse := Lib.hid (same_any (dec a ++ dec b) u10 x3 we se (Sl.below SD.out be) (by simp; omega))
                clear se be HDd
                go_wp2_with fail
                refine hse.out.mono ?_
                rintro e wf ⟨rfl, bf⟩
                have Bf := Lib.hid (Be.out.trans (bf.mono ze))
                have zf := Bf.out.size
                have HK := Lib.hid (known_any wf (HT.out.below Bf.out))
                clear bf hse
                go_wp2_with fail
                refine HK.out.mono ?_
                rintro e wg ⟨rfl, bg⟩
                go_wp2_with fail
                go_ret
                exact ⟨rfl, Bf.out.trans (bg.mono zf)⟩
              · rw [decide_eq_false hra] at HR7
                clear hra
                go_wp2_with fail
                refine HR7.out.mono ?_
                rintro e w8 ⟨rfl, b8⟩
                have B8 := Lib.hid (B7.out.trans (b8.mono z7))
                have z8 := B8.out.size
                have HK := Lib.hid (known_any w8 (HT.out.below B8.out))
                clear b8 HR7
                go_wp2_with fail
                refine HK.out.mono ?_
                rintro e w9 ⟨rfl, b9⟩
                go_wp2_with fail
                go_ret
                exact ⟨rfl, B8.out.trans (b9.mono z8)⟩
end Go.Proofs.YtblhofoikpnbkaaDoor
