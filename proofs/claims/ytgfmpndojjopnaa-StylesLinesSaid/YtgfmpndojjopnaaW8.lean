/- The document's own value of bytes; whether they are just one rune's. -/
import Derived.Test.YtgfmpndojjopnaaW7
import Derived.Test.YtgfmpndojjopnaaM4
import Derived.Deep.RegionWith
namespace Go.Proofs.Ytgfmpndojjopnaa
open Go.RowKit

set_option maxRecDepth 100000 in
set_option maxHeartbeats 400000 in
theorem value_1 (a : Int) (r : List Int) (hr : r.length = 0) (ha : 0 ≤ a ∧ a ≤ 255) (hx : ∀ x ∈ r, 0 ≤ x ∧ x ≤ 255) (v : Value) (w : World) (hv : Sl .u8 w v (a :: r)) :
    Calls Try.prog 40 #[v] w fun e w' => e = .returned (.int .i64 (valF a r)) ∧ w = w' := by
  obtain ⟨aa, cap, rfl, hcap, hc⟩ := hv
  have hlen : (a :: r).length = 1 := by simp [hr]
  rw [hlen] at hcap ⊢
  obtain ⟨g, off, rfl, c0⟩ := hc 0 a rfl
  have HC := Lib.hid hc
  have HX := Lib.hid hx
  have HRr := Lib.hid hr
  have HRl : r.length ≤ 3 := by omega
  have hcz : (0 : Int) < (1 : Int) := by omega
  obtain ⟨ha0, ha1⟩ := ha
  clear hc hx hr hlen hcap
  simp only [Nat.add_zero] at c0
  go_enter Try.func40, Try.ntmps40
  go_wp2_with fail
  go_loopw [3, 4] (fun n i wr => ∃ j : Nat, j ≤ 0 ∧ i = .int .i64 (j + 1 : Nat) ∧ n = .int .i64 (valF a (r.take j)) ∧ wr = w) (fun _ i _ => 5 - (intOf i).toNat)
  case atStart => exact ⟨0, by omega, rfl, rfl, rfl⟩
  case round =>
    obtain ⟨j, hj, rfl, rfl, rfl⟩ := hrel
    obtain ⟨S, hS⟩ : ∃ S, valF a (r.take j) = S := ⟨_, rfl⟩
    have hSb : -100000000 ≤ S ∧ S ≤ 100000000 := by
      rw [← hS]
      exact valF_bd (fun x h => HX.out x (List.mem_of_mem_take h)) (by omega) (by omega) (by rw [List.length_take]; omega)
    rw [hS]
    by_cases hlt : j < 0
    · exact absurd hlt (by omega)
    · obtain rfl : j = 0 := by omega
      have hS' : valF a r = S := by rw [← hS, List.take_of_length_le (by rw [HRr.out]; omega)]
      have HS' := Lib.hid hS'
      clear hS hS'
      have hi0 : ¬ ((0 + 1 : Nat) : Int) < 1 := by omega
      go_wp2_with fail
      go_ret
      exact ⟨ret_int HS'.out.symm, rfl⟩

set_option maxRecDepth 100000 in
set_option maxHeartbeats 400000 in
theorem value_2 (a : Int) (r : List Int) (hr : r.length = 1) (ha : 0 ≤ a ∧ a ≤ 255) (hx : ∀ x ∈ r, 0 ≤ x ∧ x ≤ 255) (v : Value) (w : World) (hv : Sl .u8 w v (a :: r)) :
    Calls Try.prog 40 #[v] w fun e w' => e = .returned (.int .i64 (valF (a - 192) r)) ∧ w = w' := by
  obtain ⟨aa, cap, rfl, hcap, hc⟩ := hv
  have hlen : (a :: r).length = 2 := by simp [hr]
  rw [hlen] at hcap ⊢
  obtain ⟨g, off, rfl, c0⟩ := hc 0 a rfl
  have HC := Lib.hid hc
  have HX := Lib.hid hx
  have HRr := Lib.hid hr
  have HRl : r.length ≤ 3 := by omega
  have hcz : (0 : Int) < (2 : Int) := by omega
  obtain ⟨ha0, ha1⟩ := ha
  clear hc hx hr hlen hcap
  simp only [Nat.add_zero] at c0
  go_enter Try.func40, Try.ntmps40
  go_wp2_with fail
  go_loopw [3, 4] (fun n i wr => ∃ j : Nat, j ≤ 1 ∧ i = .int .i64 (j + 1 : Nat) ∧ n = .int .i64 (valF (a - 192) (r.take j)) ∧ wr = w) (fun _ i _ => 5 - (intOf i).toNat)
  case atStart => exact ⟨0, by omega, rfl, rfl, rfl⟩
  case round =>
    obtain ⟨j, hj, rfl, rfl, rfl⟩ := hrel
    obtain ⟨S, hS⟩ : ∃ S, valF (a - 192) (r.take j) = S := ⟨_, rfl⟩
    have hSb : -100000000 ≤ S ∧ S ≤ 100000000 := by
      rw [← hS]
      exact valF_bd (fun x h => HX.out x (List.mem_of_mem_take h)) (by omega) (by omega) (by rw [List.length_take]; omega)
    rw [hS]
    by_cases hlt : j < 1
    · obtain ⟨z, hz⟩ : ∃ z, r[j]? = some z := ⟨r[j]'(by rw [HRr.out]; exact hlt), List.getElem?_eq_getElem _⟩
      obtain ⟨g', off', e, c1⟩ := HC.out (j + 1) z (by simpa using hz)
      cases e
      have hzb := HX.out z (List.mem_of_getElem? hz)
      have hn : valF (a - 192) (r.take (j + 1)) = S * 64 + z - 128 := by
        rw [List.take_add_one, hz, ← hS]
        exact valF_snoc _ _ _
      have HN := Lib.hid hn
      obtain ⟨hS1, hS2⟩ := hSb
      obtain ⟨hz1, hz2⟩ := hzb
      clear hn hz hS
      have hi0 : ((j + 1 : Nat) : Int) < 2 := by omega
      have hi1 : (0 : Int) ≤ ((j + 1 : Nat) : Int) := by omega
      go_wp2_with fail
      go_roundw
      case rel => exact ⟨j + 1, by omega, by go_num, by rw [HN.out], by first | trivial | rfl⟩
      case measure => simp [intOf]; omega
    · obtain rfl : j = 1 := by omega
      have hS' : valF (a - 192) r = S := by rw [← hS, List.take_of_length_le (by rw [HRr.out]; omega)]
      have HS' := Lib.hid hS'
      clear hS hS'
      have hi0 : ¬ ((1 + 1 : Nat) : Int) < 2 := by omega
      go_wp2_with fail
      go_ret
      exact ⟨ret_int HS'.out.symm, rfl⟩

set_option maxRecDepth 100000 in
set_option maxHeartbeats 400000 in
theorem value_3 (a : Int) (r : List Int) (hr : r.length = 2) (ha : 0 ≤ a ∧ a ≤ 255) (hx : ∀ x ∈ r, 0 ≤ x ∧ x ≤ 255) (v : Value) (w : World) (hv : Sl .u8 w v (a :: r)) :
    Calls Try.prog 40 #[v] w fun e w' => e = .returned (.int .i64 (valF (a - 224) r)) ∧ w = w' := by
  obtain ⟨aa, cap, rfl, hcap, hc⟩ := hv
  have hlen : (a :: r).length = 3 := by simp [hr]
  rw [hlen] at hcap ⊢
  obtain ⟨g, off, rfl, c0⟩ := hc 0 a rfl
  have HC := Lib.hid hc
  have HX := Lib.hid hx
  have HRr := Lib.hid hr
  have HRl : r.length ≤ 3 := by omega
  have hcz : (0 : Int) < (3 : Int) := by omega
  obtain ⟨ha0, ha1⟩ := ha
  clear hc hx hr hlen hcap
  simp only [Nat.add_zero] at c0
  go_enter Try.func40, Try.ntmps40
  go_wp2_with fail
  go_loopw [3, 4] (fun n i wr => ∃ j : Nat, j ≤ 2 ∧ i = .int .i64 (j + 1 : Nat) ∧ n = .int .i64 (valF (a - 224) (r.take j)) ∧ wr = w) (fun _ i _ => 5 - (intOf i).toNat)
  case atStart => exact ⟨0, by omega, rfl, rfl, rfl⟩
  case round =>
    obtain ⟨j, hj, rfl, rfl, rfl⟩ := hrel
    obtain ⟨S, hS⟩ : ∃ S, valF (a - 224) (r.take j) = S := ⟨_, rfl⟩
    have hSb : -100000000 ≤ S ∧ S ≤ 100000000 := by
      rw [← hS]
      exact valF_bd (fun x h => HX.out x (List.mem_of_mem_take h)) (by omega) (by omega) (by rw [List.length_take]; omega)
    rw [hS]
    by_cases hlt : j < 2
    · obtain ⟨z, hz⟩ : ∃ z, r[j]? = some z := ⟨r[j]'(by rw [HRr.out]; exact hlt), List.getElem?_eq_getElem _⟩
      obtain ⟨g', off', e, c1⟩ := HC.out (j + 1) z (by simpa using hz)
      cases e
      have hzb := HX.out z (List.mem_of_getElem? hz)
      have hn : valF (a - 224) (r.take (j + 1)) = S * 64 + z - 128 := by
        rw [List.take_add_one, hz, ← hS]
        exact valF_snoc _ _ _
      have HN := Lib.hid hn
      obtain ⟨hS1, hS2⟩ := hSb
      obtain ⟨hz1, hz2⟩ := hzb
      clear hn hz hS
      have hi0 : ((j + 1 : Nat) : Int) < 3 := by omega
      have hi1 : (0 : Int) ≤ ((j + 1 : Nat) : Int) := by omega
      go_wp2_with fail
      go_roundw
      case rel => exact ⟨j + 1, by omega, by go_num, by rw [HN.out], by first | trivial | rfl⟩
      case measure => simp [intOf]; omega
    · obtain rfl : j = 2 := by omega
      have hS' : valF (a - 224) r = S := by rw [← hS, List.take_of_length_le (by rw [HRr.out]; omega)]
      have HS' := Lib.hid hS'
      clear hS hS'
      have hi0 : ¬ ((2 + 1 : Nat) : Int) < 3 := by omega
      go_wp2_with fail
      go_ret
      exact ⟨ret_int HS'.out.symm, rfl⟩

set_option maxRecDepth 100000 in
set_option maxHeartbeats 400000 in
theorem value_4 (a : Int) (r : List Int) (hr : r.length = 3) (ha : 0 ≤ a ∧ a ≤ 255) (hx : ∀ x ∈ r, 0 ≤ x ∧ x ≤ 255) (v : Value) (w : World) (hv : Sl .u8 w v (a :: r)) :
    Calls Try.prog 40 #[v] w fun e w' => e = .returned (.int .i64 (valF (a - 240) r)) ∧ w = w' := by
  obtain ⟨aa, cap, rfl, hcap, hc⟩ := hv
  have hlen : (a :: r).length = 4 := by simp [hr]
  rw [hlen] at hcap ⊢
  obtain ⟨g, off, rfl, c0⟩ := hc 0 a rfl
  have HC := Lib.hid hc
  have HX := Lib.hid hx
  have HRr := Lib.hid hr
  have HRl : r.length ≤ 3 := by omega
  have hcz : (0 : Int) < (4 : Int) := by omega
  obtain ⟨ha0, ha1⟩ := ha
  clear hc hx hr hlen hcap
  simp only [Nat.add_zero] at c0
  go_enter Try.func40, Try.ntmps40
  go_wp2_with fail
  go_loopw [3, 4] (fun n i wr => ∃ j : Nat, j ≤ 3 ∧ i = .int .i64 (j + 1 : Nat) ∧ n = .int .i64 (valF (a - 240) (r.take j)) ∧ wr = w) (fun _ i _ => 5 - (intOf i).toNat)
  case atStart => exact ⟨0, by omega, rfl, rfl, rfl⟩
  case round =>
    obtain ⟨j, hj, rfl, rfl, rfl⟩ := hrel
    obtain ⟨S, hS⟩ : ∃ S, valF (a - 240) (r.take j) = S := ⟨_, rfl⟩
    have hSb : -100000000 ≤ S ∧ S ≤ 100000000 := by
      rw [← hS]
      exact valF_bd (fun x h => HX.out x (List.mem_of_mem_take h)) (by omega) (by omega) (by rw [List.length_take]; omega)
    rw [hS]
    by_cases hlt : j < 3
    · obtain ⟨z, hz⟩ : ∃ z, r[j]? = some z := ⟨r[j]'(by rw [HRr.out]; exact hlt), List.getElem?_eq_getElem _⟩
      obtain ⟨g', off', e, c1⟩ := HC.out (j + 1) z (by simpa using hz)
      cases e
      have hzb := HX.out z (List.mem_of_getElem? hz)
      have hn : valF (a - 240) (r.take (j + 1)) = S * 64 + z - 128 := by
        rw [List.take_add_one, hz, ← hS]
        exact valF_snoc _ _ _
      have HN := Lib.hid hn
      obtain ⟨hS1, hS2⟩ := hSb
      obtain ⟨hz1, hz2⟩ := hzb
      clear hn hz hS
      have hi0 : ((j + 1 : Nat) : Int) < 4 := by omega
      have hi1 : (0 : Int) ≤ ((j + 1 : Nat) : Int) := by omega
      go_wp2_with fail
      go_roundw
      case rel => exact ⟨j + 1, by omega, by go_num, by rw [HN.out], by first | trivial | rfl⟩
      case measure => simp [intOf]; omega
    · obtain rfl : j = 3 := by omega
      have hS' : valF (a - 240) r = S := by rw [← hS, List.take_of_length_le (by rw [HRr.out]; omega)]
      have HS' := Lib.hid hS'
      clear hS hS'
      have hi0 : ¬ ((3 + 1 : Nat) : Int) < 4 := by omega
      go_wp2_with fail
      go_ret
      exact ⟨ret_int HS'.out.symm, rfl⟩

theorem value_any (l : List Int) (h1 : 1 ≤ l.length) (h4 : l.length ≤ 4) (hx : ∀ x ∈ l, 0 ≤ x ∧ x ≤ 255) (v : Value) (w : World) (hv : Sl .u8 w v l) :
    Calls Try.prog 40 #[v] w fun e w' => e = .returned (.int .i64 (valZ l)) ∧ w = w' := by
  match l, h1, h4 with
  | [a], _, _ => exact value_1 a [] rfl (hx a (by simp)) (fun x h => hx x (List.mem_cons_of_mem _ h)) v w hv
  | [a, b], _, _ => exact value_2 a [b] rfl (hx a (by simp)) (fun x h => hx x (List.mem_cons_of_mem _ h)) v w hv
  | [a, b, c], _, _ => exact value_3 a [b, c] rfl (hx a (by simp)) (fun x h => hx x (List.mem_cons_of_mem _ h)) v w hv
  | [a, b, c, d], _, _ => exact value_4 a [b, c, d] rfl (hx a (by simp)) (fun x h => hx x (List.mem_cons_of_mem _ h)) v w hv

set_option maxRecDepth 100000 in
set_option maxHeartbeats 1000000 in
theorem is_any (l : List UInt8) (h1 : 1 ≤ l.length) (h4 : l.length ≤ 4) (v : Value) (w : World) (hv : By w v l) :
    Calls Try.prog 39 #[v] w fun e w' => e = .returned (.bool (isR (ints l))) ∧ Below w.heap.size w w' := by
  have hx : ∀ x ∈ ints l, 0 ≤ x ∧ x ≤ 255 := by
    intro x hx
    simp only [ints, List.mem_map] at hx
    obtain ⟨y, _, rfl⟩ := hx
    have := y.toNat_lt
    omega
  have hil : (ints l).length = l.length := by simp [ints]
  have V := value_any (ints l) (by omega) (by omega) hx v w hv
  have hb := valZ_bd hx (by omega)
  have HSS := Lib.hid (fun W (h : Below w.heap.size w W) => str_of_bytes (By.below hv h))
  have hR : isR (ints l) = (vld (valZ (ints l)) && decide (Lib.encodeRuneZ (valZ (ints l)) = ints l)) := rfl
  obtain ⟨n, hn⟩ : ∃ n, valZ (ints l) = n := ⟨_, rfl⟩
  rw [hn] at V hb hR
  rw [hR]
  obtain ⟨hb1, hb2⟩ := hb
  clear hn hR hx hv hil
  obtain ⟨bv, hbv⟩ : ∃ b, vld n = b := ⟨_, rfl⟩
  have VV := rvalid_any n w
  rw [hbv] at VV ⊢
  cases bv with
  | false =>
    simp only [Bool.false_and]
    have HBV := Lib.hid hbv
    clear hbv
    by_cases c1 : n < 0
    · go_enter Try.func39, Try.ntmps39
      go_wp2_with (first
        | (go_at_call 40; refine V.mono ?_; rintro e w' ⟨rfl, rfl⟩)
        | (go_at_call 48; refine VV.mono ?_; rintro e w' ⟨rfl, rfl⟩))
      go_ret
      exact ⟨rfl, Below.refl _ _⟩
    · by_cases c2 : 1114111 < n
      · go_enter Try.func39, Try.ntmps39
        go_wp2_with (first
          | (go_at_call 40; refine V.mono ?_; rintro e w' ⟨rfl, rfl⟩)
          | (go_at_call 48; refine VV.mono ?_; rintro e w' ⟨rfl, rfl⟩))
        go_ret
        exact ⟨rfl, Below.refl _ _⟩
      · go_enter Try.func39, Try.ntmps39
        go_wp2_with (first
          | (go_at_call 40; refine V.mono ?_; rintro e w' ⟨rfl, rfl⟩)
          | (go_at_call 48; refine VV.mono ?_; rintro e w' ⟨rfl, rfl⟩))
        go_ret
        exact ⟨rfl, Below.refl _ _⟩
  | true =>
    have hv' := hbv
    simp only [vld, decide_eq_true_eq] at hv'
    have c1 : ¬ n < 0 := by omega
    have c2 : ¬ 1114111 < n := by omega
    have hO := Lib.hid (fun W => one_good n hbv W)
    simp only [Bool.true_and]
    clear hbv hv'
    have hdec : decide (Lib.encodeRuneZ n = ints l) = decide (Lib.encodeRune n = l) := by
      by_cases h : Lib.encodeRune n = l
      · rw [decide_eq_true h, ← h, ints_encode]
        simp
      · rw [decide_eq_false h, decide_eq_false]
        intro h'
        exact h (ints_inj (by rw [ints_encode, h']))
    rw [hdec]
    have HSS0 := HSS.out _ (Below.refl _ w).drew
    have hwr : IntKind.i32.wrap n = n := by simp [IntKind.wrap, IntKind.bits, IntKind.signed]; omega
    have HWR := Lib.hid hwr
    clear hwr
    clear hdec
    go_enter Try.func39, Try.ntmps39
    go_wp2_with (first
      | (go_at_call 40; refine V.mono ?_; rintro e w' ⟨rfl, rfl⟩)
      | (go_at_call 48; refine VV.mono ?_; rintro e w' ⟨rfl, rfl⟩))
    go_region_with ((first
      | (go_at_call 49; (try rw [HWR.out]); (with_reducible refine (hO.out _).mono ?_); rintro e w5 ⟨u, rfl, su, b5⟩; have B5 : Below w.heap.size w w5 := (Below.refl _ w).drew.trans b5; have hku := str_of_bytes (v := u) (b := Lib.encodeRune n) (w := w5) (by unfold By; rw [encodeRune_ints]; exact su); have hv5 := HSS.out w5 B5; clear su b5)))
    all_goals
      go_wp2_with fail
      go_ret
      exact ⟨ret_bool (bool_of_iff (by simp)), B5⟩
end Go.Proofs.Ytgfmpndojjopnaa
