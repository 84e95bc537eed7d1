/- The walk of CellsClean. -/
import Derived.Test.YtkiglnfapoifiaaDoorG6
namespace Go.Proofs.YtkiglnfapoifiaaDoor
open Go.RowKit

set_option maxRecDepth 100000 in
set_option maxHeartbeats 1000000 in
theorem cleans_any (l : List Gly) (v : Value) (w : World) (hT : Tabs w) (hv : Gs w v l) (hok : okG l) (ml : l.length ≤ maxLen) :
    Calls Tryd.prog 6 #[v] w fun e W' => e = .returned (.bool true) ∧ Below w.heap.size w W' := by
  unfold maxLen at ml
  have HT := Lib.hid hT
  have HV := Lib.hid hv
  obtain ⟨a, cap, rfl, -, -⟩ := hv
  clear hT
  by_cases h1 : 300 < l.length
  · have HK := Lib.hid (known_any w HT.out)
    have hz : (300 : Int) < (l.length : Int) := by omega
    clear hok
    go_enter Tryd.func6, Tryd.ntmps6
    go_wp2_with (go_at_call 10; refine HK.out.mono ?_; rintro e w' ⟨rfl, hb⟩)
    go_ret
    exact ⟨rfl, hb⟩
  · have hz : ¬ (300 : Int) < (l.length : Int) := by omega
    have HC1 := Lib.hid (cleang_any l _ w HT.out HV.out hok (by omega))
    have hlen := cleanL_len l
    have HC2 := Lib.hid (fun u W (hW : Below w.heap.size w W) (hu : Gs W u (cleanL l)) => cleang_any (cleanL l) u W (HT.out.below hW) hu (cleanL_ok hok) (by omega))
    rw [cleanL_cleanL] at HC2
    have HM := Lib.hid (fun g (hg : g ∈ cleanL l) => cleanL_mem hg)
    have HM2 := Lib.hid (fun g (hg : g ∈ cleanL l) => dropW_mem _ _ hg)
    have HH := Lib.hid (fun g (hg : (cleanL l)[0]? = some g) => cleanL_head hg)
    have HOK := Lib.hid hok
    obtain ⟨C, hC⟩ : ∃ C, cleanL l = C := ⟨_, rfl⟩
    rw [hC] at HC1 HC2 HM HM2 HH hlen
    clear hC hok
    have hlz : ¬ (l.length : Int) < (C.length : Int) := by omega
    go_enter Tryd.func6, Tryd.ntmps6
    go_wp2_with fail
    refine HC1.out.mono ?_
    rintro e w1 ⟨u1, rfl, o1, b1⟩
    have S1 := Lib.hid (o1.sl gcell_len)
    have B1 := Lib.hid b1
    have z1 := b1.size
    have H2 := Lib.hid (HC2.out u1 w1 b1 S1.out)
    clear o1 b1 HC1 HC2
    go_wp2_with fail
    refine H2.out.mono ?_
    rintro e w2 ⟨u2, rfl, o2, b2⟩
    have C2 := Lib.hid b2
    have y2 := b2.size
    have HS := Lib.hid (rsameg_any C C u2 u1 w2 (o2.sl gcell_len) (Fs.below S1.out b2) (by omega) (by omega))
    rw [decide_eq_true (rfl : C = C)] at HS
    clear o2 b2 H2
    go_wp2_with fail
    refine HS.out.mono ?_
    rintro e w3 ⟨rfl, b3⟩
    have C3 := Lib.hid (C2.out.trans (b3.mono y2))
    have B3 := Lib.hid (B1.out.trans (C3.out.mono z1))
    have z3 := B3.out.size
    have S3 := Lib.hid (Fs.below S1.out C3.out)
    obtain ⟨a1, c1, rfl⟩ := S1.out.len
    clear b3 HS
    by_cases hCe : C = []
    · subst hCe
      simp only [List.length_nil] at S3 ⊢
      go_wp2_with fail
      go_loopw [4] (fun i wr => i = .int .i64 0 ∧ wr = w3) (fun i _ => (intOf i).toNat)
      case atStart => exact ⟨rfl, rfl⟩
      case round =>
        obtain ⟨rfl, rfl⟩ := hrel
        have HE := Lib.hid (csame_any ([] : List Gly) ([] : List Gly) _ _ wr S3.out S3.out (by first | omega | simp) (by first | omega | simp))
        rw [decide_eq_true (rfl : ([] : List Gly) = ([] : List Gly))] at HE
        go_wp2_with fail
        refine HE.out.mono ?_
        rintro e w5 ⟨rfl, b5⟩
        have B5 := Lib.hid (B3.out.trans (b5.mono B3.out.size))
        have HK := Lib.hid (known_any w5 (HT.out.below B5.out))
        clear b5 HE
        go_wp2_with fail
        refine HK.out.mono ?_
        rintro e w6 ⟨rfl, b6⟩
        go_wp2_with fail
        go_ret
        exact ⟨rfl, B5.out.trans (b6.mono B5.out.size)⟩
    · have hCp : 0 < C.length := List.length_pos_iff.2 hCe
      have hC0 : (0 : Int) < (C.length : Int) := by omega
      obtain ⟨x, hx⟩ : ∃ x, C[0]? = some x := ⟨C[0], List.getElem?_eq_getElem hCp⟩
      obtain ⟨g, off, rfl, c0, c1, -⟩ := Gs.at S3.out hx
      rw [Nat.zero_mul, Nat.add_zero] at c0 c1
      have hxw := HH.out x hx
      have hW := rwidth_any x.1 w3
      obtain ⟨Z, hZ⟩ : ∃ Z, wd x.1 = Z := ⟨_, rfl⟩
      rw [hZ] at hW hxw
      have HW := Lib.hid hW
      have hzz : (Z == 0) = false := by simp; omega
      clear hx hW hZ hCe
      go_wp2_with fail
      refine HW.out.mono ?_
      rintro e w4 ⟨rfl, b4⟩
      have B4 := Lib.hid (B3.out.trans (b4.mono z3))
      have S4 := Lib.hid (Fs.below S3.out b4)
      clear b4 HW c0 c1
      go_wp2_with fail
      go_loopw [4] (fun i wr => ∃ j : Nat, j ≤ C.length ∧ i = .int .i64 j ∧ Below w4.heap.size w4 wr) (fun i _ => C.length - (intOf i).toNat)
      case atStart => exact ⟨0, by omega, rfl, Below.refl _ _⟩
      case round =>
        obtain ⟨j, hj, rfl, hbw⟩ := hrel
        by_cases hlt : j < C.length
        · obtain ⟨y, hy⟩ : ∃ y, C[j]? = some y := ⟨C[j], List.getElem?_eq_getElem hlt⟩
          obtain ⟨g', off', he, c0, c1, -⟩ := Gs.at (Fs.below S4.out hbw) hy
          cases he
          have hym := List.mem_of_getElem? hy
          have hys : sf y.1 = y.1 := by
            obtain ⟨q, rfl⟩ := HM.out y hym
            exact clF_sf q
          have hyh : (y.1 == 160) = false := by
            obtain ⟨q, rfl⟩ := HM.out y hym
            simpa using clF_not_hard q
          have hy3 : y.2 ≤ 3 := by
            have := HM2.out y hym
            simp only [List.mem_map] at this
            obtain ⟨q, hq, rfl⟩ := this
            exact (clF_ok (HOK.out q hq)).2.2
          have hy4 : decide (3 < y.2) = false := by simp; omega
          have HSf := Lib.hid (fun W => (rsafe_any y.1 W).mono (fun e w' h => show e = .returned (.int .i32 y.1) ∧ w' = W from ⟨hys ▸ h.1, h.2.symm⟩))
          clear hys hym hy hzz
          have hi0 : (j : Int) < (C.length : Int) := by omega
          have hi1 : (0 : Int) ≤ (j : Int) := by omega
          go_wp2_with fail
          go_quiet ((go_at_call 31; exact Calls.quiet_of_same (HSf.out _)))
          go_wp2
          go_roundw
          case rel => exact ⟨j + 1, by omega, by go_num, below_drewN hbw _⟩
          case measure => simp [intOf]; omega
        · obtain rfl : j = C.length := by omega
          have Bw := Lib.hid (B4.out.trans (hbw.mono B4.out.size))
          have Sw := Lib.hid (Fs.below S4.out hbw)
          clear hzz hbw
          have HE := Lib.hid (csame_any C C _ _ wr Sw.out Sw.out (by first | omega | simp) (by first | omega | simp))
          rw [decide_eq_true (rfl : C = C)] at HE
          go_wp2_with fail
          refine HE.out.mono ?_
          rintro e w5 ⟨rfl, b5⟩
          have B5 := Lib.hid (Bw.out.trans (b5.mono Bw.out.size))
          have HK := Lib.hid (known_any w5 (HT.out.below B5.out))
          clear b5 HE
          go_wp2_with fail
          refine HK.out.mono ?_
          rintro e w6 ⟨rfl, b6⟩
          go_wp2_with fail
          go_ret
          exact ⟨rfl, B5.out.trans (b6.mono B5.out.size)⟩
end Go.Proofs.YtkiglnfapoifiaaDoor
