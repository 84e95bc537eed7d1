/- Whether two rows of rows are the same; the walk of CellsRows. -/
import Derived.Test.YtkiglnfapoifiaaDoorN5
import Derived.Test.YtkiglnfapoifiaaDoorL6
import Derived.Test.YtkiglnfapoifiaaDoorG6
import Derived.Test.YtkiglnfapoifiaaDoorGb
import Derived.Test.YtkiglnfapoifiaaDoorGd
namespace Go.Proofs.YtkiglnfapoifiaaDoor
open Go.RowKit

set_option maxRecDepth 100000 in
set_option maxHeartbeats 2000000 in
theorem samerows_any (rs : List (List Gly)) (v u : Value) (b1 b2 : Nat) (w : World) (hv : Rws b1 w v rs) (hu : Rws b2 w u rs) (hl : rs.length ≤ 100000) (hr : ∀ r ∈ rs, r.length ≤ 100000) :
    Calls Tryd.prog 15 #[v, u] w fun e w' => e = .returned (.bool true) ∧ Below w.heap.size w w' := by
  have HV := Lib.hid hv
  have HU := Lib.hid hu
  have HRL := Lib.hid hr
  obtain ⟨a1, c1, rfl⟩ := hv.len
  obtain ⟨a2, c2, rfl⟩ := hu.len
  clear hv hu hr
  go_enter Tryd.func15, Tryd.ntmps15
  go_wp2_with fail
  go_loopw [5] (fun i wr => ∃ j : Nat, j ≤ rs.length ∧ i = .int .i64 j ∧ Below w.heap.size w wr) (fun i _ => rs.length - (intOf i).toNat)
  case atStart => exact ⟨0, by omega, rfl, Below.refl _ _⟩
  case round =>
    obtain ⟨j, hj, rfl, hbw⟩ := hrel
    have HBW := Lib.hid hbw
    have bw := hbw.size
    clear hbw
    by_cases hlt : j < rs.length
    · obtain ⟨r, hr⟩ : ∃ r, rs[j]? = some r := ⟨rs[j], List.getElem?_eq_getElem hlt⟩
      have hrl := HRL.out r (List.mem_of_getElem? hr)
      obtain ⟨b, off, x1, y1, he, k1, o1⟩ := (HV.out.keep HBW.out).at hr
      subst he
      obtain ⟨b', off', x2, y2, he, k2, o2⟩ := (HU.out.keep HBW.out).at hr
      subst he
      have hi0 : (j : Int) < (rs.length : Int) := by omega
      have hi1 : (0 : Int) ≤ (j : Int) := by omega
      have S1 := Lib.hid (FOwn.sl gcell_len o1)
      have S2 := Lib.hid (FOwn.sl gcell_len o2)
      have HS := Lib.hid (fun W (h : Below wr.heap.size wr W) => rsameg_any r r _ _ W (Fs.below S1.out h) (Fs.below S2.out h) (by omega) (by omega))
      rw [decide_eq_true (rfl : r = r)] at HS
      clear hr o1 o2
      go_wp2_with fail
      go_region_with ((go_at_call 18; (with_reducible refine (HS.out _ (Below.refl _ wr).drew).mono ?_); rintro e w2 ⟨rfl, hb2⟩; have B2 : Hid (Below w.heap.size w w2) := Lib.hid (HBW.out.trans (((Below.refl _ wr).drew.trans hb2).mono bw)); clear hb2))
      all_goals
        try go_simp
        go_wp2_with fail
        go_roundw
        case rel => exact ⟨j + 1, by omega, by go_num, B2.out⟩
        case measure => (simp [intOf]; try omega)
    · obtain rfl : j = rs.length := by omega
      go_wp2_with fail
      go_ret
      exact ⟨rfl, HBW.out⟩

set_option maxRecDepth 100000 in
set_option maxHeartbeats 4000000 in
theorem rows_any (l : List Gly) (v : Value) (w : World) (hT : Tabs w) (hv : Gs w v l) (hok : okG l) (ml : l.length ≤ maxLen) :
    Calls Tryd.prog 3 #[v] w fun e W' => e = .returned (.bool true) ∧ Below w.heap.size w W' := by
  unfold maxLen at ml
  have HT := Lib.hid hT
  have HV := Lib.hid hv
  have HOK := Lib.hid hok
  obtain ⟨a, cap, rfl⟩ := hv.len
  clear hT hv hok
  by_cases h1 : 500 < l.length
  · have HK := Lib.hid (known_any w HT.out)
    have hz : (500 : Int) < (l.length : Int) := by omega
    go_enter Tryd.func3, Tryd.ntmps3
    go_wp2_with (go_at_call 10; refine HK.out.mono ?_; rintro e w' ⟨rfl, hb⟩)
    go_ret
    exact ⟨rfl, hb⟩
  · have hz : ¬ (500 : Int) < (l.length : Int) := by omega
    have HLe : Hid (l.length ≤ 500) := Lib.hid (by omega)
    have H1 := Lib.hid (gwidth_any l _ w HT.out HV.out (by omega))
    obtain ⟨S, hS⟩ : ∃ S, gsm l = S := ⟨_, rfl⟩
    have HSS := Lib.hid hS
    rw [hS] at H1
    clear hS
    go_enter Tryd.func3, Tryd.ntmps3
    go_wp2_with fail
    refine H1.out.mono ?_
    rintro e w1 ⟨rfl, b1⟩
    have B1 := Lib.hid b1
    have H2 := Lib.hid (grwidth_any l _ w1 (Fs.below HV.out b1) (by have := HLe.out; omega))
    rw [HSS.out] at H2
    clear b1 H1
    go_wp2_with fail
    refine H2.out.mono ?_
    rintro e w2 ⟨rfl, b2⟩
    have B2 := Lib.hid (B1.out.trans (b2.mono B1.out.size))
    have H3 := Lib.hid (text_any l _ w2 (Fs.below HV.out B2.out) (by have := HLe.out; omega))
    obtain ⟨E, hE⟩ : ∃ E, enc (rn l) = E := ⟨_, rfl⟩
    have HE := Lib.hid hE
    rw [hE] at H3
    clear b2 H2 hE
    go_wp2_with fail
    refine H3.out.mono ?_
    rintro e w3 ⟨rfl, b3⟩
    have B3 := Lib.hid (B2.out.trans (b3.mono B2.out.size))
    have H4 := Lib.hid (rtext_any l _ w3 (Fs.below HV.out B3.out) (fun g hg => (HOK.out g hg).1) (by have := HLe.out; omega))
    rw [HE.out] at H4
    have hEE : (E == E) = true := by simp
    clear b3 H3
    go_wp2_with fail
    refine H4.out.mono ?_
    rintro e w4 ⟨rfl, b4⟩
    have B4 := Lib.hid (B3.out.trans (b4.mono B3.out.size))
    have H5 := Lib.hid (runs_any l _ w4 (Fs.below HV.out B4.out) (by have := HLe.out; omega))
    clear b4 H4
    go_wp2_with fail
    refine H5.out.mono ?_
    rintro e w5 ⟨u5, rfl, r5, b5⟩
    have R5 := Lib.hid r5
    have B5 := Lib.hid (B4.out.trans (b5.mono B4.out.size))
    have H6 := Lib.hid (rruns_any l _ w5 (Fs.below HV.out B5.out) (by have := HLe.out; omega))
    clear r5 b5 H5
    go_wp2_with fail
    refine H6.out.mono ?_
    rintro e w6 ⟨u6, rfl, r6, b6⟩
    have B6 := Lib.hid (B5.out.trans (b6.mono B5.out.size))
    have H7 := Lib.hid (samerows_any (runsL l) u5 u6 _ _ w6 (R5.out.keep b6) r6 (by have := HLe.out; have := runsL_len l; omega) (fun r hr => by have h := mem_flat_le hr; rw [runsL_flat] at h; have := HLe.out; omega))
    clear r6 b6 H6
    go_wp2_with fail
    refine H7.out.mono ?_
    rintro e w7 ⟨rfl, b7⟩
    have B7 := Lib.hid (B6.out.trans (b7.mono B6.out.size))
    have H8 := Lib.hid (cleang_any l _ w7 (HT.out.below B7.out) (Fs.below HV.out B7.out) HOK.out (by have := HLe.out; omega))
    clear b7 H7
    go_wp2_with fail
    refine H8.out.mono ?_
    rintro e w8 ⟨u8, rfl, o8, b8⟩
    have S8 := Lib.hid (FOwn.sl gcell_len o8)
    have B8 := Lib.hid (B7.out.trans (b8.mono B7.out.size))
    have H9 := Lib.hid (rcleang_any l _ w8 (Fs.below HV.out B8.out) HOK.out (by have := HLe.out; omega))
    clear o8 b8 H8
    go_wp2_with fail
    refine H9.out.mono ?_
    rintro e w9 ⟨u9, rfl, o9, b9⟩
    have B9 := Lib.hid (B8.out.trans (b9.mono B8.out.size))
    have Ha := Lib.hid (rsameg_any (cleanL l) (cleanL l) u8 u9 w9 (Fs.below S8.out b9) (o9.sl gcell_len) (by have := HLe.out; have := cleanL_len l; omega) (by have := HLe.out; have := cleanL_len l; omega))
    rw [decide_eq_true (rfl : cleanL l = cleanL l)] at Ha
    clear o9 b9 H9
    go_wp2_with fail
    refine Ha.out.mono ?_
    rintro e wa ⟨rfl, ba⟩
    have BA := Lib.hid (B9.out.trans (ba.mono B9.out.size))
    have Hb := Lib.hid (trim_any l _ wa (Fs.below HV.out BA.out) (by have := HLe.out; omega))
    clear ba Ha
    go_wp2_with fail
    refine Hb.out.mono ?_
    rintro e wb ⟨ub, rfl, ob, bb⟩
    have SB := Lib.hid (FOwn.sl gcell_len ob)
    have BB := Lib.hid (BA.out.trans (bb.mono BA.out.size))
    have Hc := Lib.hid (rtrim_any l _ wb (Fs.below HV.out BB.out) (by have := HLe.out; omega))
    clear ob bb Hb
    go_wp2_with fail
    refine Hc.out.mono ?_
    rintro e wc ⟨uc, rfl, sc, rfl⟩
    have Hd := Lib.hid (rsameg_any (trimL l) (trimL l) ub uc wb SB.out sc (by have := HLe.out; have := trimL_len l; have := trimN_le l; omega) (by have := HLe.out; have := trimL_len l; have := trimN_le l; omega))
    rw [decide_eq_true (rfl : trimL l = trimL l)] at Hd
    clear sc Hc
    go_wp2_with fail
    refine Hd.out.mono ?_
    rintro e wd ⟨rfl, bd⟩
    have BD := Lib.hid (BB.out.trans (bd.mono BB.out.size))
    have HK := Lib.hid (known_any wd (HT.out.below BD.out))
    clear bd Hd
    go_wp2_with fail
    refine HK.out.mono ?_
    rintro e we ⟨rfl, be⟩
    go_wp2_with fail
    go_ret
    exact ⟨rfl, BD.out.trans (be.mono BD.out.size)⟩
end Go.Proofs.YtkiglnfapoifiaaDoor
