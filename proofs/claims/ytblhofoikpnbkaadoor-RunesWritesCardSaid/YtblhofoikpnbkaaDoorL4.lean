/- The walk of RunesWrites. -/
import Derived.Test.YtblhofoikpnbkaaDoorW7
namespace Go.Proofs.YtblhofoikpnbkaaDoor
open Go.RowKit

set_option maxRecDepth 100000 in
set_option maxHeartbeats 1000000 in
theorem writes_any (l : List Int) (v : Value) (w : World) (hT : Tabs w) (hv : Sl .i32 w v l) (hz : ∀ z ∈ l, -2147483648 ≤ z ∧ z ≤ 2147483647) (ml : l.length ≤ maxLen) :
    Calls Tryd.prog 4 #[v] w fun e W' => e = .returned (.bool true) ∧ Below w.heap.size w W' := by
  unfold maxLen at ml
  have HT := Lib.hid hT
  by_cases h1 : 1000 < l.length
  · have HK := Lib.hid (known_any w hT)
    obtain ⟨a, cap, rfl, -, -⟩ := hv
    have hz : (1000 : Int) < (l.length : Int) := by omega
    clear hT
    go_enter Tryd.func4, Tryd.ntmps4
    go_wp2_with (go_at_call 10; refine HK.out.mono ?_; rintro e w' ⟨rfl, hb⟩)
    go_ret
    exact ⟨rfl, hb⟩
  · have HV := Lib.hid hv
    have HZ := Lib.hid hz
    obtain ⟨a, cap, rfl, -, hr⟩ := hv
    have HR := Lib.hid hr
    have hn : ¬ (1000 : Int) < (l.length : Int) := by omega
    clear hT hr hz
    go_enter Tryd.func4, Tryd.ntmps4
    go_wp2_with fail
    go_loopw [3] (fun i wr => ∃ j : Nat, j ≤ l.length ∧ i = .int .i64 j ∧ Below w.heap.size w wr) (fun i _ => l.length - (intOf i).toNat)
    case atStart => exact ⟨0, by omega, rfl, Below.refl _ _⟩
    case round =>
      obtain ⟨j, hj, rfl, hbw⟩ := hrel
      have hbs := hbw.size
      by_cases hlt : j < l.length
      · obtain ⟨z, hz⟩ : ∃ z, l[j]? = some z := ⟨l[j], List.getElem?_eq_getElem hlt⟩
        obtain ⟨g, off, rfl, h0⟩ := HR.out j z hz
        have hg := World.block_lt_of_cell? w _ h0
        have c0 : wr.cell? ⟨g, off + j, none⟩ = some (.int .i32 z) := (hbw.cell hg).trans h0
        have Tr := HT.out.below hbw
        have hWz := width_any z wr Tr
        have hRz := rwidth_any z wr
        have V1 := valid_any z wr
        have V2 := rvalid_any z wr
        have C1 := control_any z wr
        have C2 := rcontrol_any z wr
        have S1 := fun W => safe_any z W
        have S2 := fun W => rsafe_any z W
        obtain ⟨Z, e1⟩ : ∃ Z, wd z = Z := ⟨_, rfl⟩
        obtain ⟨b1, e2⟩ : ∃ Z, vld z = Z := ⟨_, rfl⟩
        obtain ⟨b2, e3⟩ : ∃ Z, ctl z = Z := ⟨_, rfl⟩
        obtain ⟨s, e4⟩ : ∃ Z, sf z = Z := ⟨_, rfl⟩
        rw [e1] at hWz hRz
        rw [e2] at V1 V2
        rw [e3] at C1 C2
        have HS1 := Lib.hid S1
        have HS2 := Lib.hid S2
        rw [e4] at HS1 HS2
        clear e1 e2 e3 e4 h0 hg hz Tr S1 S2
        have hi0 : (j : Int) < (l.length : Int) := by omega
        have hi1 : (0 : Int) ≤ (j : Int) := by omega
        cases b1 <;> cases b2
        all_goals
          go_wp2_with (first
            | (go_at_call 17; refine V1.mono ?_; rintro e w' ⟨rfl, rfl⟩)
            | (go_at_call 18; refine V2.mono ?_; rintro e w' ⟨rfl, rfl⟩)
            | (go_at_call 19; refine C1.mono ?_; rintro e w' ⟨rfl, rfl⟩)
            | (go_at_call 20; refine C2.mono ?_; rintro e w' ⟨rfl, rfl⟩)
            | (go_at_call 21; refine hWz.mono ?_; rintro e w' ⟨rfl, rfl⟩)
            | (go_at_call 22; refine hRz.mono ?_; rintro e w' ⟨rfl, hb'⟩)
            | (go_at_call 23; refine (HS1.out _).mono ?_; rintro e w' ⟨rfl, rfl⟩)
            | (go_at_call 24; refine (HS2.out _).mono ?_; rintro e w' ⟨rfl, rfl⟩))
          go_roundw
          case rel => exact ⟨j + 1, by omega, by go_num, hbw.trans (hb'.mono hbs)⟩
          case measure => simp [intOf]; omega
      · obtain rfl : j = l.length := by omega
        have HE1 := Lib.hid (encode_any l _ wr (Sl.below HV.out hbw))
        have HB := Lib.hid hbw
        clear hbw
        go_wp2_with fail
        refine HE1.out.mono ?_
        rintro e w1 ⟨u1, rfl, h1, b1⟩
        have B1 := HB.out.trans (b1.mono hbs)
        have B1s := B1.size
        have HE2 := Lib.hid (rencode_any l (by omega) HZ.out _ w1 (Sl.below HV.out B1))
        clear HE1 b1
        go_wp2_with fail
        refine HE2.out.mono ?_
        rintro e w2 ⟨u2, rfl, h2, b2⟩
        have h1' := By.below h1 b2
        have B2 := B1.trans (b2.mono B1s)
        have B2s := B2.size
        have HD := Lib.hid (same0_any (enc l) (enc l) u1 u2 w2 h1' h2)
        have Sum1 := sum_any l _ w2 (HT.out.below B2) (Sl.below HV.out B2) (by omega)
        have Sum2 := rsum_any l _ w2 (Sl.below HV.out B2) (by omega)
        obtain ⟨S, hS⟩ : ∃ S, sm l = S := ⟨_, rfl⟩
        rw [hS] at Sum1 Sum2
        rw [decide_eq_true (rfl : enc l = enc l)] at HD
        have HB2 := Lib.hid B2
        clear HE2 b2 h1 h2 h1' B1 B2 hS
        go_wp2_with (first
          | (go_at_call 15; refine HD.out.mono ?_; rintro e w' ⟨rfl, rfl⟩)
          | (go_at_call 26; refine Sum1.mono ?_; rintro e w' ⟨rfl, rfl⟩)
          | (go_at_call 27; refine Sum2.mono ?_; rintro e w3 ⟨rfl, b3⟩; have B3 := Lib.hid (HB2.out.trans (b3.mono B2s)); have HK := Lib.hid (known_any w3 (HT.out.below B3.out)); clear b3)
          | (go_at_call 10; refine HK.out.mono ?_; rintro e w' ⟨rfl, hbk⟩))
        go_ret
        exact ⟨rfl, B3.out.trans (hbk.mono B3.out.size)⟩
end Go.Proofs.YtblhofoikpnbkaaDoor
