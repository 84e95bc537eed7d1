/- The walk of CellsSame. -/
import Derived.Test.YtkiglnfapoifiaaDoorN3
import Derived.Test.YtkiglnfapoifiaaDoorG4
namespace Go.Proofs.YtkiglnfapoifiaaDoor
open Go.RowKit
attribute [local go_sem ↓ high] builtin_appG

theorem flat_succ {rs : List (List Gly)} {i : Nat} {r : List Gly} (h : rs[i]? = some r) : (rs.take (i + 1)).flatten = (rs.take i).flatten ++ r := by
  rw [List.take_add_one, h]
  simp
theorem flat_take_le (rs : List (List Gly)) (i : Nat) : (rs.take i).flatten.length ≤ rs.flatten.length := by
  have h := List.take_append_drop i rs
  conv => rhs; rw [← h]
  simp only [List.flatten_append, List.length_append]
  omega
theorem mem_flat_le {rs : List (List Gly)} {r : List Gly} (h : r ∈ rs) : r.length ≤ rs.flatten.length := by
  induction rs with
  | nil => simp at h
  | cons x rs ih =>
    simp only [List.flatten_cons, List.length_append]
    rcases List.mem_cons.1 h with rfl | h
    · omega
    · have := ih h
      omega

set_option maxRecDepth 100000 in
set_option maxHeartbeats 4000000 in
theorem same_law (la lb : List Gly) (va vb : Value) (w : World) (hT : Tabs w) (ha : Gs w va la) (hb : Gs w vb lb) (ma : la.length ≤ maxLen) (mb : lb.length ≤ maxLen) :
    Calls Tryd.prog 7 #[va, vb] w fun e W' => e = .returned (.bool true) ∧ Below w.heap.size w W' := by
  unfold maxLen at ma mb
  have HT := Lib.hid hT
  have HA := Lib.hid ha
  have HB := Lib.hid hb
  obtain ⟨aa, ca, rfl⟩ := ha.len
  obtain ⟨ab, cb, rfl⟩ := hb.len
  clear hT ha hb
  by_cases h1 : 300 < la.length
  · have HK := Lib.hid (known_any w HT.out)
    have hz : (300 : Int) < (la.length : Int) := by omega
    go_enter Tryd.func7, Tryd.ntmps7
    go_wp2_with (go_at_call 10; refine HK.out.mono ?_; rintro e w' ⟨rfl, hb⟩)
    go_ret
    exact ⟨rfl, hb⟩
  · by_cases h2 : 300 < lb.length
    · have HK := Lib.hid (known_any w HT.out)
      have hz : ¬ (300 : Int) < (la.length : Int) := by omega
      have hz2 : (300 : Int) < (lb.length : Int) := by omega
      go_enter Tryd.func7, Tryd.ntmps7
      go_wp2_with (go_at_call 10; refine HK.out.mono ?_; rintro e w' ⟨rfl, hb⟩)
      go_ret
      exact ⟨rfl, hb⟩
    · have hz : ¬ (300 : Int) < (la.length : Int) := by omega
      have hz2 : ¬ (300 : Int) < (lb.length : Int) := by omega
      have HR := Lib.hid (runs_any la _ w HA.out (by omega))
      have HFL := Lib.hid (runsL_flat la)
      have HFU := Lib.hid (runsL_full la)
      have HON := Lib.hid (runsL_one la)
      have HDI := Lib.hid (runsL_diff la)
      have hrl := runsL_len la
      obtain ⟨rs, hrs⟩ : ∃ rs, runsL la = rs := ⟨_, rfl⟩
      rw [hrs] at HR HFL HFU HON HDI hrl
      have HTL := Lib.hid (fun i => flat_take_le rs i)
      have HML := Lib.hid (fun r (h : r ∈ rs) => mem_flat_le h)
      rw [HFL.out] at HTL HML
      clear hrs
      go_enter Tryd.func7, Tryd.ntmps7
      go_wp2_with fail
      refine HR.out.mono ?_
      rintro e w1 ⟨u1, rfl, r1, b1⟩
      have R1 := Lib.hid r1
      have B1 := Lib.hid b1
      have z1 := b1.size
      obtain ⟨ar, cr, rfl⟩ := r1.len
      clear r1 b1 HR
      go_wp2_with fail
      go_loopw [6, 7] (fun s i wr => ∃ j : Nat, j ≤ rs.length ∧ i = .int .i64 j ∧ GOwn w1.heap.size wr s ((rs.take j).flatten) ∧ Below w1.heap.size w1 wr) (fun _ i _ => rs.length - (intOf i).toNat)
      case atStart => exact ⟨0, by omega, rfl, FOwn.nil _ _, Below.refl _ _⟩
      case round =>
        obtain ⟨j, hj, rfl, ho, hbw⟩ := hrel
        have HO := Lib.hid ho
        have HBW := Lib.hid hbw
        have bw := hbw.size
        have htl := HTL.out j
        clear ho hbw
        by_cases hlt : j < rs.length
        · obtain ⟨r, hr⟩ : ∃ r, rs[j]? = some r := ⟨rs[j], List.getElem?_eq_getElem hlt⟩
          have hrm := List.mem_of_getElem? hr
          have hrn := HFU.out r hrm
          have hr0 : 0 < r.length := List.length_pos_iff.2 hrn
          have hrle := HML.out r hrm
          obtain ⟨b, off, a2, c2, he, k0, o2⟩ := (R1.out.keep HBW.out).at hr
          subst he
          have SR := Lib.hid (FOwn.sl gcell_len o2)
          obtain ⟨x, hx⟩ : ∃ x, r[0]? = some x := ⟨r[0], List.getElem?_eq_getElem hr0⟩
          obtain ⟨g, of2, he, x0, x1, hgl⟩ := Gs.at SR.out hx
          subst he
          rw [Nat.zero_mul, Nat.add_zero] at x0 x1
          have HN := Lib.hid (flat_succ hr)
          have HON' := Lib.hid (fun y hy => HON.out r hrm y hy x hx)
          have hl0 : ((r.length : Int) == 0) = false := by simp; omega
          have hi0 : (j : Int) < (rs.length : Int) := by omega
          have hi1 : (0 : Int) ≤ (j : Int) := by omega
          have hr1 : (0 : Int) < (r.length : Int) := by omega
          obtain ⟨wo, hwo⟩ : ∃ wo : World, wo = wr := ⟨wr, rfl⟩
          subst hwo
          have hblk := World.block_lt_of_cell? wo _ k0
          simp only at hblk
          rcases j with _ | m
          · rw [Nat.add_zero] at k0
            have hg0 : decide ((0 : Int) < 0) = false := by decide
            clear hx hr hrm hrn hi0 hi1
            go_wp2_with fail
            go_quiet (fail)
            go_wp2
            go_loopw [8] (fun k wi => ∃ kk : Nat, kk ≤ r.length ∧ k = .int .i64 kk ∧ Below wo.heap.size wo wi) (fun k _ => r.length - (intOf k).toNat)
            case atStart => exact ⟨0, by omega, rfl, below_drewN (Below.refl _ _) _⟩
            case round =>
              obtain ⟨k, hk, rfl, hbi⟩ := hrel
              have k0' := (hbi.cell (p := ⟨b, off, none⟩) hblk).trans k0
              have x1' := (hbi.cell (p := ⟨g, of2 + 1, none⟩) hgl).trans x1
              by_cases hkl : k < r.length
              · obtain ⟨y, hy⟩ : ∃ y, r[k]? = some y := ⟨r[k], List.getElem?_eq_getElem hkl⟩
                obtain ⟨g3, of3, he, y0, y1, -⟩ := Gs.at (Fs.below SR.out hbi) hy
                cases he
                have hyx : (y.2 != x.2) = false := by simp [HON'.out y (List.mem_of_getElem? hy)]
                have hk0 : (k : Int) < (r.length : Int) := by omega
                have hk1 : (0 : Int) ≤ (k : Int) := by omega
                clear hy
                go_wp2_with fail
                go_quiet (fail)
                go_wp2
                go_roundw
                case rel => exact ⟨k + 1, by omega, by go_num, below_drewN hbi _⟩
                case measure => (simp [intOf]; try omega)
              · obtain rfl : k = r.length := by omega
                have bi := hbi.size
                obtain ⟨x', w3, k3, o3, g3, -⟩ := appG_own (HO.out.keep hbi) (Fs.below SR.out hbi) (by omega) (by omega)
                have B3 := Lib.hid (FOwn.below (HO.out.keep hbi) (HBW.out.trans (hbi.mono bw)) (by omega) g3)
                have O3 := Lib.hid o3
                clear o3 g3
                go_wp2_with fail
                go_roundw
                case rel => exact ⟨0 + 1, by omega, by go_num, by rw [HN.out]; exact O3.out, B3.out⟩
                case measure => (simp [intOf]; try omega)
          · obtain ⟨r', hr'⟩ : ∃ r', rs[m]? = some r' := ⟨rs[m]'(by omega), List.getElem?_eq_getElem _⟩
            have hrn' := HFU.out r' (List.mem_of_getElem? hr')
            have hr0' : 0 < r'.length := List.length_pos_iff.2 hrn'
            obtain ⟨b', off', a3, c3, he, k1, o3⟩ := (R1.out.keep HBW.out).at hr'
            cases he
            have SR' := Lib.hid (FOwn.sl gcell_len o3)
            obtain ⟨y, hy⟩ : ∃ y, r'[0]? = some y := ⟨r'[0], List.getElem?_eq_getElem hr0'⟩
            obtain ⟨g4, of4, he, y0, y1, -⟩ := Gs.at SR'.out hy
            subst he
            rw [Nat.zero_mul, Nat.add_zero] at y0 y1
            have hxy : (x.2 == y.2) = false := by
              have := HDI.out m r' r y x hr' hr hy hx
              simp
              exact fun e => this e.symm
            have hr1' : (0 : Int) < (r'.length : Int) := by omega
            have hm1 : (m : Int) < (rs.length : Int) := by omega
            have hm2 : (0 : Int) ≤ (m : Int) := by omega
            have hm3 : (0 : Int) < ((m + 1 : Nat) : Int) := by omega
            clear hx hr hrm hrn hr' hrn' hy o2 o3
            go_wp2_with fail
            go_quiet (fail)
            go_wp2
            go_loopw [8] (fun k wi => ∃ kk : Nat, kk ≤ r.length ∧ k = .int .i64 kk ∧ Below wo.heap.size wo wi) (fun k _ => r.length - (intOf k).toNat)
            case atStart => exact ⟨0, by omega, rfl, below_drewN (Below.refl _ _) _⟩
            case round =>
              obtain ⟨k, hk, rfl, hbi⟩ := hrel
              have k0' := (hbi.cell (p := ⟨b, off + (m + 1), none⟩) hblk).trans k0
              have x1' := (hbi.cell (p := ⟨g, of2 + 1, none⟩) hgl).trans x1
              by_cases hkl : k < r.length
              · obtain ⟨y, hy⟩ : ∃ y, r[k]? = some y := ⟨r[k], List.getElem?_eq_getElem hkl⟩
                obtain ⟨g3, of3, he, y0, y1, -⟩ := Gs.at (Fs.below SR.out hbi) hy
                cases he
                have hyx : (y.2 != x.2) = false := by simp [HON'.out y (List.mem_of_getElem? hy)]
                have hk0 : (k : Int) < (r.length : Int) := by omega
                have hk1 : (0 : Int) ≤ (k : Int) := by omega
                clear hy
                go_wp2_with fail
                go_quiet (fail)
                go_wp2
                go_roundw
                case rel => exact ⟨k + 1, by omega, by go_num, below_drewN hbi _⟩
                case measure => (simp [intOf]; try omega)
              · obtain rfl : k = r.length := by omega
                have bi := hbi.size
                obtain ⟨x', w3, k3, o3, g3, -⟩ := appG_own (HO.out.keep hbi) (Fs.below SR.out hbi) (by omega) (by omega)
                have B3 := Lib.hid (FOwn.below (HO.out.keep hbi) (HBW.out.trans (hbi.mono bw)) (by omega) g3)
                have O3 := Lib.hid o3
                clear o3 g3
                go_wp2_with fail
                go_roundw
                case rel => exact ⟨m + 1 + 1, by omega, by go_num, by rw [HN.out]; exact O3.out, B3.out⟩
                case measure => (simp [intOf]; try omega)
        · obtain rfl : j = rs.length := by omega
          have HO' : Hid (Gs wr u6 la) := Lib.hid (by
            have h := HO.out.sl gcell_len
            rw [List.take_length, HFL.out] at h
            exact h)
          have B3 := Lib.hid (B1.out.trans (HBW.out.mono z1))
          have z3 := B3.out.size
          have H3 := Lib.hid (rsameg_any la la u6 _ wr HO'.out (Fs.below HA.out B3.out) (by omega) (by omega))
          rw [decide_eq_true (rfl : la = la)] at H3
          clear HO
          go_wp2_with fail
          refine H3.out.mono ?_
          rintro e w4 ⟨rfl, b4⟩
          have B4 := Lib.hid (B3.out.trans (b4.mono z3))
          have H4 := Lib.hid (csame_any la lb _ _ w4 (Fs.below HA.out B4.out) (Fs.below HB.out B4.out) (by omega) (by omega))
          obtain ⟨Bq, hBq⟩ : ∃ B, decide (la = lb) = B := ⟨_, rfl⟩
          have HBq := Lib.hid hBq
          rw [hBq] at H4
          clear b4 H3 hBq
          go_wp2_with fail
          refine H4.out.mono ?_
          rintro e w5 ⟨rfl, b5⟩
          have B5 := Lib.hid (B4.out.trans (b5.mono B4.out.size))
          have H5 := Lib.hid (rsameg_any la lb _ _ w5 (Fs.below HA.out B5.out) (Fs.below HB.out B5.out) (by omega) (by omega))
          rw [HBq.out] at H5
          clear b5 H4
          go_wp2_with fail
          refine H5.out.mono ?_
          rintro e w6 ⟨rfl, b6⟩
          have B6 := Lib.hid (B5.out.trans (b6.mono B5.out.size))
          have HK := Lib.hid (known_any w6 (HT.out.below B6.out))
          clear b6 H5
          go_wp2_with fail
          refine HK.out.mono ?_
          rintro e w7 ⟨rfl, b7⟩
          go_wp2_with fail
          go_ret
          exact ⟨rfl, B6.out.trans (b7.mono B6.out.size)⟩
end Go.Proofs.YtkiglnfapoifiaaDoor
