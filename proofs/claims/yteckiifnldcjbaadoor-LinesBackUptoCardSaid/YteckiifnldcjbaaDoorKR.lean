/- The document's own answer for lines: Check. -/
import Derived.Test.YteckiifnldcjbaaDoorKQ
namespace Go.Proofs.YteckiifnldcjbaaDoor
open Go.RowKit
attribute [local go_sem ↓ high] binop_eqlS binop_neqS

set_option maxRecDepth 100000 in
set_option maxHeartbeats 4000000 in
theorem rcheckT_any (n : Int) (a : Option Addr × Nat × Nat) (l : List (List UInt8)) (t : List UInt8) (w : World) (hv : Ss w (avOf a) l) (ht : t.length ≤ 4000000000000000000) :
    Calls Tryd.prog 19 #[rowV n [] a t] w fun e w' => e = .returned (.int .i64 (if isT [] l t then 0 else 2)) ∧ Below w.heap.size w w' := by
  obtain ⟨a0, a1, a2⟩ := a
  obtain ⟨aa, ca, hav, -, -⟩ := hv
  unfold avOf at hav
  simp only at hav
  injection hav with h1 h2 h3
  subst h1 h2 h3
  unfold rowV avOf
  simp only
  have P1 := Lib.hid (fun W => rsign_any t W)
  have C1 := Lib.hid (fun W => rhas_any t [10, 92] W ht (by decide))
  rw [show t.any (([10, 92] : List UInt8).contains ·) = badT t from rfl] at C1
  have E1 : ∀ W, (eqlS (.string ⟨#[]⟩) (.string ⟨#[]⟩)).run Tryd.prog W = .ok (.bool true) W := eqlS_run [] []
  have hsz := arr_size t
  by_cases hl : l = []
  · subst hl
    have hT : isT [] [] t = (!ptd t && !(t.getLast? == some 13) && !badT t) := by unfold isT; simp
    rw [hT]
    clear hT
    obtain ⟨p, hp⟩ : ∃ p, ptd t = p := ⟨_, rfl⟩
    obtain ⟨c, hc⟩ : ∃ c, badT t = c := ⟨_, rfl⟩
    rw [hp] at P1 ⊢
    rw [hc] at C1 ⊢
    clear hp hc
    have HB := Lib.hid (fun m => below_drewN (below_lit w (.cells #[.int .i64 n, .string ⟨#[]⟩, .slice a0 0 a2, .string ⟨t.toArray⟩] 34)) m)
    cases c
    · cases p
      · rcases nil_or_snoc t with rfl | ⟨u, x, htx⟩
        · go_enter Tryd.func19, Tryd.ntmps19
          go_wp2_with (first
            | (go_at_call 33; refine (C1.out _).mono ?_; rintro e w1 ⟨rfl, m1, rfl⟩)
            | (go_at_call 34; refine (P1.out _).mono ?_; rintro e w1 ⟨rfl, rfl⟩))
          go_ret
          exact ⟨rfl, HB.out _⟩
        · have hlen : t.length = u.length + 1 := by rw [htx]; simp
          have hx : t[t.length - 1]? = some x := by
            rw [hlen, htx]
            simp
          have hlast : (t.getLast? == some 13) = (x == 13) := by rw [htx]; simp
          have k1 : ∀ W, (Instr.index 9 (.string ⟨t.toArray⟩) (.int .i64 ((t.length : Int) - 1))).run Tryd.prog W = .ok (.int .u8 (x.toNat : Int)) W := by
            have h := str_idx t (t.length - 1) x hx
            have c : ((t.length - 1 : Nat) : Int) = (t.length : Int) - 1 := by omega
            rw [c] at h
            exact h
          have hw : IntKind.i64.wrap ((t.length : Int) - 1) = (t.length : Int) - 1 := by
            rw [IntKind.wrap_i64]
            omega
          have hl1 : decide ((0 : Int) < (t.length : Int)) = true := decide_eq_true (by omega)
          have hl2 : decide (0 < t.length) = true := decide_eq_true (by omega)
          rw [hlast]
          clear hlast hx htx hlen
          by_cases h13 : x = 13
          · subst h13
            have k1' : ∀ W, (Instr.index 9 (.string ⟨t.toArray⟩) (.int .i64 ((t.length : Int) - 1))).run Tryd.prog W = .ok (.int .u8 13) W := k1
            clear k1
            rw [show (if (!false && !((13 : UInt8) == 13) && !false) = true then (0 : Int) else 2) = 2 from rfl]
            go_enter Tryd.func19, Tryd.ntmps19
            go_wp2_with (first
              | (go_at_call 33; refine (C1.out _).mono ?_; rintro e w1 ⟨rfl, m1, rfl⟩)
              | (go_at_call 34; refine (P1.out _).mono ?_; rintro e w1 ⟨rfl, rfl⟩))
            go_ret
            exact ⟨rfl, HB.out _⟩
          · have hne : ((x.toNat : Int) == 13) = false := byte_ne h13
            have hne2 : (x == 13) = false := by simpa using h13
            rw [hne2]
            clear hne2 h13
            go_enter Tryd.func19, Tryd.ntmps19
            go_wp2_with (first
              | (go_at_call 33; refine (C1.out _).mono ?_; rintro e w1 ⟨rfl, m1, rfl⟩)
              | (go_at_call 34; refine (P1.out _).mono ?_; rintro e w1 ⟨rfl, rfl⟩))
            go_ret
            exact ⟨rfl, HB.out _⟩
      · rw [show (if (!true && !(t.getLast? == some 13) && !false) = true then (0 : Int) else 2) = 2 by simp]
        go_enter Tryd.func19, Tryd.ntmps19
        go_wp2_with (first
          | (go_at_call 33; refine (C1.out _).mono ?_; rintro e w1 ⟨rfl, m1, rfl⟩)
          | (go_at_call 34; refine (P1.out _).mono ?_; rintro e w1 ⟨rfl, rfl⟩))
        go_ret
        exact ⟨rfl, HB.out _⟩
    · rw [show (if (!p && !(t.getLast? == some 13) && !true) = true then (0 : Int) else 2) = 2 by simp]
      go_enter Tryd.func19, Tryd.ntmps19
      go_wp2_with (go_at_call 33; refine (C1.out _).mono ?_; rintro e w1 ⟨rfl, m1, rfl⟩)
      go_ret
      exact ⟨rfl, HB.out _⟩
  · have hl0 : (0 : Int) < (l.length : Int) := by
      have : 0 < l.length := List.length_pos_iff.2 hl
      omega
    have hl1 : decide ((0 : Int) < (l.length : Int)) = true := decide_eq_true hl0
    have hl2 : decide (0 < l.length) = true := decide_eq_true (by omega)
    have hT : isT [] l t = false := by unfold isT; rw [decide_eq_false hl]; simp
    rw [hT]
    go_enter Tryd.func19, Tryd.ntmps19
    go_wp2_with fail
    go_ret
    exact ⟨rfl, below_lit w _⟩

set_option maxRecDepth 100000 in
set_option maxHeartbeats 4000000 in
theorem rcheckM_any (n : Int) (m : List UInt8) (a : Option Addr × Nat × Nat) (l : List (List UInt8)) (t : List UInt8) (w : World) (hv : Ss w (avOf a) l) (hne : m ≠ []) (hm : m.length ≤ 4000000000000000000) (ha : ∀ x ∈ l, x.length ≤ 4000000000000000000) :
    Calls Tryd.prog 19 #[rowV n m a t] w fun e w' => e = .returned (.int .i64 (if isM m l t then 0 else 2)) ∧ Below w.heap.size w w' := by
  have HV0 := Lib.hid hv
  obtain ⟨a0, a1, a2⟩ := a
  obtain ⟨aa, ca, hav, -, -⟩ := hv
  unfold avOf at hav HV0
  simp only at hav HV0
  injection hav with h1 h2 h3
  subst h1 h2 h3
  unfold rowV avOf
  simp only
  have P1 := Lib.hid (fun W => rsign_any m W)
  have C1 := Lib.hid (fun W => rhas_any m [32, 9, 10, 13, 92, 34] W hm (by decide))
  rw [show m.any (([32, 9, 10, 13, 92, 34] : List UInt8).contains ·) = badN m from rfl] at C1
  have D1 : Hid (∀ x ∈ l, ∀ W, Calls Tryd.prog 33 #[.string ⟨x.toArray⟩, .string ⟨#[10, 13, 92]⟩] W fun e w' => e = .returned (.bool (badA x)) ∧ ∃ m, w' = W.drewN m) := Lib.hid (fun x hx W => rhas_any x [10, 13, 92] W (ha x hx) (by decide))
  have E1 : ∀ W, (eqlS (.string ⟨m.toArray⟩) (.string ⟨#[]⟩)).run Tryd.prog W = .ok (.bool false) W := fun W => by
    have h := eqlS_run m [] W
    rw [decide_eq_false hne] at h
    exact h
  have N2 := neqS_run t []
  have hM : isM m l t = (decide (t = []) && !ptd m && !badN m && decide (l.length ≤ 200) && !(l.any badA)) := by unfold isM; rw [decide_eq_false hne]; simp
  rw [hM]
  clear hM hne ha
  obtain ⟨p, hp⟩ : ∃ p, ptd m = p := ⟨_, rfl⟩
  obtain ⟨c, hc⟩ : ∃ c, badN m = c := ⟨_, rfl⟩
  obtain ⟨e1, he1⟩ : ∃ e, decide (t = []) = e := ⟨_, rfl⟩
  rw [hp] at P1 ⊢
  rw [hc] at C1 ⊢
  rw [he1] at N2 ⊢
  clear hp hc he1
  have hblow := below_lit w (.cells #[.int .i64 n, .string ⟨m.toArray⟩, .slice a0 l.length a2, .string ⟨t.toArray⟩] 34)
  have HV := Lib.hid (HV0.out.below hblow)
  have HB := Lib.hid (fun k => below_drewN hblow k)
  clear hblow HV0
  cases c
  · cases p
    · cases e1
      · rw [show (if (false && !false && !false && decide (l.length ≤ 200) && !l.any badA) = true then (0 : Int) else 2) = 2 from rfl]
        go_enter Tryd.func19, Tryd.ntmps19
        go_wp2_with (first
          | (go_at_call 33; refine (C1.out _).mono ?_; rintro e w1 ⟨rfl, m1, rfl⟩)
          | (go_at_call 34; refine (P1.out _).mono ?_; rintro e w1 ⟨rfl, rfl⟩))
        go_ret
        exact ⟨rfl, HB.out _⟩
      · by_cases h200 : l.length ≤ 200
        · obtain ⟨R, hR⟩ : ∃ R : Int, (if (true && !false && !false && decide (l.length ≤ 200) && !l.any badA) = true then (0 : Int) else 2) = R := ⟨_, rfl⟩
          rw [hR]
          rw [decide_eq_true h200] at hR
          have HR := Lib.hid hR
          have hz : ¬ (200 : Int) < (l.length : Int) := by omega
          clear hR
          go_enter Tryd.func19, Tryd.ntmps19
          go_wp2_with (first
            | (go_at_call 33; refine (C1.out _).mono ?_; rintro e w1 ⟨rfl, m1, rfl⟩)
            | (go_at_call 34; refine (P1.out _).mono ?_; rintro e w1 ⟨rfl, rfl⟩))
          go_loopw [3] (fun i wr => ∃ q k : Nat, wr = (w.alloc (.cells #[.int .i64 n, .string ⟨m.toArray⟩, .slice a0 l.length a2, .string ⟨t.toArray⟩] 34)).drewN k ∧ i = .int .i64 (q : Int) ∧ q ≤ l.length ∧ (l.take q).any badA = false) (fun i _ => l.length - (intOf i).toNat)
          case atStart => exact ⟨0, _, rfl, rfl, by omega, by simp⟩
          case round =>
            obtain ⟨q, k, rfl, rfl, hq, hno⟩ := hrel
            have HN := Lib.hid hno
            clear hno
            by_cases hlt : q < l.length
            · obtain ⟨x, hx⟩ : ∃ x, l[q]? = some x := ⟨l[q], List.getElem?_eq_getElem hlt⟩
              have HX := Lib.hid hx
              obtain ⟨g, off, rfl, c0⟩ := Ss.at (fs_drewN HV.out k) hx
              have D2 := Lib.hid (D1.out x (List.mem_iff_getElem?.2 ⟨q, hx⟩))
              have hlt' : (q : Int) < (l.length : Int) := by omega
              have hq0 : (0 : Int) ≤ (q : Int) := by omega
              obtain ⟨b, hb⟩ : ∃ b, badA x = b := ⟨_, rfl⟩
              rw [hb] at D2
              have HBB := Lib.hid hb
              clear hx hb
              go_wp2_with fail
              refine (D2.out _).mono ?_
              rintro e w1 ⟨rfl, m1, rfl⟩
              clear D2
              cases b
              · go_wp2_with fail
                go_roundw
                case rel => exact ⟨q + 1, _, by first | rfl | rw [drewN_add], by go_num, by omega, any_next HN.out HX.out HBB.out⟩
                case measure => simp [intOf]; omega
              · have hh : l.any badA = true := any_hit HX.out HBB.out
                have hr2 : R = 2 := by rw [← HR.out, hh]; rfl
                subst hr2
                clear hh HR
                go_wp2_with fail
                go_ret
                exact ⟨rfl, by first | exact HB.out _ | (rw [drewN_add]; exact HB.out _)⟩
            · obtain rfl : q = l.length := by omega
              have hlt' : ¬ (l.length : Int) < (l.length : Int) := by omega
              have hall : l.any badA = false := by have := HN.out; rwa [List.take_length] at this
              have hr2 : R = 0 := by rw [← HR.out, hall]; rfl
              subst hr2
              clear hall HR HN
              go_wp2_with fail
              go_ret
              exact ⟨rfl, HB.out _⟩
        · have hz : (200 : Int) < (l.length : Int) := by omega
          rw [show (if (true && !false && !false && decide (l.length ≤ 200) && !l.any badA) = true then (0 : Int) else 2) = 2 by rw [decide_eq_false h200]; simp]
          go_enter Tryd.func19, Tryd.ntmps19
          go_wp2_with (first
            | (go_at_call 33; refine (C1.out _).mono ?_; rintro e w1 ⟨rfl, m1, rfl⟩)
            | (go_at_call 34; refine (P1.out _).mono ?_; rintro e w1 ⟨rfl, rfl⟩))
          go_ret
          exact ⟨rfl, HB.out _⟩
    · rw [show (if (e1 && !true && !false && decide (l.length ≤ 200) && !l.any badA) = true then (0 : Int) else 2) = 2 by simp]
      go_enter Tryd.func19, Tryd.ntmps19
      go_wp2_with (first
        | (go_at_call 33; refine (C1.out _).mono ?_; rintro e w1 ⟨rfl, m1, rfl⟩)
        | (go_at_call 34; refine (P1.out _).mono ?_; rintro e w1 ⟨rfl, rfl⟩))
      go_ret
      exact ⟨rfl, HB.out _⟩
  · rw [show (if (e1 && !p && !true && decide (l.length ≤ 200) && !l.any badA) = true then (0 : Int) else 2) = 2 by simp]
    go_enter Tryd.func19, Tryd.ntmps19
    go_wp2_with (go_at_call 33; refine (C1.out _).mono ?_; rintro e w1 ⟨rfl, m1, rfl⟩)
    go_ret
    exact ⟨rfl, HB.out _⟩
/-- The document's own answer, and the code's, are one (check_any). -/
theorem rcheck_any (n : Int) (m : List UInt8) (a : Option Addr × Nat × Nat) (l : List (List UInt8)) (t : List UInt8) (w : World) (hv : Ss w (avOf a) l) (hm : m.length ≤ 4000000000000000000) (ht : t.length ≤ 4000000000000000000) (ha : ∀ x ∈ l, x.length ≤ 4000000000000000000) :
    Calls Tryd.prog 19 #[rowV n m a t] w fun e w' => e = .returned (.int .i64 (if okRow m l t then 0 else 2)) ∧ Below w.heap.size w w' := by
  by_cases hne : m = []
  · subst hne
    have h := rcheckT_any n a l t w hv ht
    have e : okRow [] l t = isT [] l t := by unfold okRow isM; simp
    rw [e]
    exact h
  · have h := rcheckM_any n m a l t w hv hne hm ha
    have e : okRow m l t = isM m l t := by unfold okRow isT; rw [decide_eq_false hne]; simp
    rw [e]
    exact h
end Go.Proofs.YteckiifnldcjbaaDoor
