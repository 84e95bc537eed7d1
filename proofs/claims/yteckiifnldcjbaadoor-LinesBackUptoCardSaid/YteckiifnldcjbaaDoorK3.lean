/- Loops over a text: where its first blank is, where its comment begins, where what is quoted ends. -/
import Derived.Test.YteckiifnldcjbaaDoorK2
namespace Go.Proofs.YteckiifnldcjbaaDoor
open Go.RowKit

theorem isB_at {b : List UInt8} {j : Nat} {x : UInt8} (h : b[j]? = some x) : isB b j = (blk x && !sl (b.take j)) := by unfold isB; rw [h]
theorem isC_at {b : List UInt8} {j : Nat} {x : UInt8} (h : b[j]? = some x) : isC b j = (x == 34 && sl (b.take j)) := by
  unfold isC
  rw [h]
  rfl
theorem upto_succ {p : Nat → Bool} {j : Nat} (h : ∀ k, k < j → p k = false) (hj : p j = false) : ∀ k, k < j + 1 → p k = false := fun k hk => by
  by_cases e : k = j
  · rw [e]; exact hj
  · exact h k (by omega)
theorem byte_ne {x c : UInt8} (h : x ≠ c) : ((x.toNat : Int) == (c.toNat : Int)) = false := by
  rw [beq_eq_false_iff_ne]
  intro e
  exact h (UInt8.toNat_inj.1 (by omega))

set_option maxHeartbeats 1000000 in
theorem unblank_any (b : List UInt8) (w : World) (hb : b.length ≤ 1000000) : Calls Tryd.prog 27 #[.string ⟨b.toArray⟩] w fun e w' => e = .returned (.int .i64 (ubl b : Int)) ∧ w = w' := by
  have hsz := arr_size b
  have HI := Lib.hid (fun j x (h : b[j]? = some x) => str_idx b j x h)
  have HT := Lib.hid (fun j (h : j ≤ b.length) => str_to b j h)
  have HN := Lib.hid (fun (h : ∀ i, i < b.length → isB b i = false) => ubl_none h)
  have HS := Lib.hid (fun i hi h hb => ubl_some (l := b) (i := i) hi h hb)
  obtain ⟨U, hU⟩ : ∃ U, ubl b = U := ⟨_, rfl⟩
  rw [hU] at HN HS ⊢
  clear hU
  go_enter Tryd.func27, Tryd.ntmps27
  go_wp2_with fail
  go_loopw [6] (fun n wr => ∃ j : Nat, wr = w ∧ n = .int .i64 j ∧ j ≤ b.length ∧ ∀ k, k < j → isB b k = false) (fun n _ => b.length - (intOf n).toNat)
  case atStart => exact ⟨0, rfl, rfl, by omega, fun k hk => by omega⟩
  case round =>
    obtain ⟨j, rfl, rfl, hj, hbf⟩ := hrel
    have HBF := Lib.hid hbf
    clear hbf
    by_cases hlt : j < b.length
    · obtain ⟨x, hx⟩ : ∃ x, b[j]? = some x := ⟨b[j], List.getElem?_eq_getElem hlt⟩
      have k1 := HI.out j x hx
      have k2 := HT.out j hj
      have B1 := Lib.hid (fun W => blank_any x W)
      have S1 := Lib.hid (fun W => slashed_any (b.take j) W (by rw [List.length_take]; omega))
      have E := Lib.hid (isB_at hx)
      have hlt' : (j : Int) < (b.length : Int) := by omega
      obtain ⟨p, hp⟩ : ∃ p, blk x = p := ⟨_, rfl⟩
      rw [hp] at B1 E
      obtain ⟨q, hq⟩ : ∃ q, sl (b.take j) = q := ⟨_, rfl⟩
      rw [hq] at S1 E
      generalize b.take j = tk at k2 S1 hq
      clear hp hq hx
      cases p
      · go_wp2_with (go_at_call 25; refine (B1.out _).mono ?_; rintro e w' ⟨rfl, rfl⟩)
        go_roundw
        case rel => exact ⟨j + 1, by first | rfl | trivial, by go_num, by omega, upto_succ HBF.out E.out⟩
        case measure => simp [intOf]; omega
      · cases q
        · go_wp2_with (first
            | (go_at_call 25; refine (B1.out _).mono ?_; rintro e w' ⟨rfl, rfl⟩)
            | (go_at_call 46; refine (S1.out _).mono ?_; rintro e w' ⟨rfl, rfl⟩))
          go_ret
          exact ⟨by rw [HS.out j hlt E.out HBF.out]; rfl, rfl⟩
        · go_wp2_with (first
            | (go_at_call 25; refine (B1.out _).mono ?_; rintro e w' ⟨rfl, rfl⟩)
            | (go_at_call 46; refine (S1.out _).mono ?_; rintro e w' ⟨rfl, rfl⟩))
          go_roundw
          case rel => exact ⟨j + 1, by first | rfl | trivial, by go_num, by omega, upto_succ HBF.out E.out⟩
          case measure => simp [intOf]; omega
    · obtain rfl : j = b.length := by omega
      have e := HN.out HBF.out
      subst e
      go_wp2_with fail
      go_ret
      exact ⟨rfl, rfl⟩

set_option maxHeartbeats 1000000 in
theorem uncomment_any (b : List UInt8) (w : World) (hb : b.length ≤ 1000000) : Calls Tryd.prog 56 #[.string ⟨b.toArray⟩] w fun e w' => e = .returned (.tuple #[.string ⟨(unc b).1.toArray⟩, .bool (unc b).2]) ∧ w = w' := by
  have hsz := arr_size b
  have HI := Lib.hid (fun j x (h : b[j]? = some x) => str_idx b j x h)
  have HT := Lib.hid (fun j (h : j ≤ b.length) => str_to b j h)
  have HN := Lib.hid (fun (h : ∀ i, i < b.length → isC b i = false) => unc_none h)
  have HS := Lib.hid (fun i hi h hb => unc_some (l := b) (i := i) hi h hb)
  obtain ⟨U, hU⟩ : ∃ U, unc b = U := ⟨_, rfl⟩
  rw [hU] at HN HS ⊢
  clear hU
  go_enter Tryd.func56, Tryd.ntmps56
  go_wp2_with fail
  go_loopw [7] (fun n wr => ∃ j : Nat, wr = w ∧ n = .int .i64 j ∧ j ≤ b.length ∧ ∀ k, k < j → isC b k = false) (fun n _ => b.length - (intOf n).toNat)
  case atStart => exact ⟨0, rfl, rfl, by omega, fun k hk => by omega⟩
  case round =>
    obtain ⟨j, rfl, rfl, hj, hbf⟩ := hrel
    have HBF := Lib.hid hbf
    clear hbf
    by_cases hlt : j < b.length
    · obtain ⟨x, hx⟩ : ∃ x, b[j]? = some x := ⟨b[j], List.getElem?_eq_getElem hlt⟩
      have k1 := HI.out j x hx
      have E := Lib.hid (isC_at hx)
      have hlt' : (j : Int) < (b.length : Int) := by omega
      by_cases h34 : x = 34
      · subst h34
        have k2 := HT.out j hj
        have S1 := Lib.hid (fun W => slashed_any (b.take j) W (by rw [List.length_take]; omega))
        have HP := Lib.hid (fun h : isC b j = true => isC_pos h)
        obtain ⟨q, hq⟩ : ∃ q, sl (b.take j) = q := ⟨_, rfl⟩
        rw [hq] at S1 E
        generalize b.take j = tk at k2 S1 hq
        have k1' : ∀ W, (Instr.index 9 (.string ⟨b.toArray⟩) (.int .i64 (j : Int))).run Tryd.prog W = .ok (.int .u8 34) W := k1
        clear hq hx k1
        cases q
        · go_wp2_with (go_at_call 46; refine (S1.out _).mono ?_; rintro e w' ⟨rfl, rfl⟩)
          go_roundw
          case rel => exact ⟨j + 1, by first | rfl | trivial, by go_num, by omega, upto_succ HBF.out E.out⟩
          case measure => simp [intOf]; omega
        · have hp := HP.out E.out
          have k3 : ∀ W, (Instr.slice 9 (.string ⟨b.toArray⟩) none (some (.int .i64 ((j : Int) - 1))) none).run Tryd.prog W = .ok (.string ⟨(b.take (j - 1)).toArray⟩) W := by
            have h := HT.out (j - 1) (by omega)
            have c : ((j - 1 : Nat) : Int) = (j : Int) - 1 := by omega
            rw [c] at h
            exact h
          have hj1 : (0 : Int) ≤ (j : Int) - 1 := by omega
          have e := HS.out j hlt E.out HBF.out
          subst e
          obtain ⟨tk2, ht2⟩ : ∃ t, b.take (j - 1) = t := ⟨_, rfl⟩
          rw [ht2] at k3
          have HT2 := Lib.hid ht2
          clear ht2
          go_wp2_with (go_at_call 46; refine (S1.out _).mono ?_; rintro e w' ⟨rfl, rfl⟩)
          go_ret2
          exact ⟨by rw [HT2.out]; rfl, rfl⟩
      · have hne := byte_ne h34
        have hne' : ((x.toNat : Int) == 34) = false := hne
        have e0 : (x == 34) = false := by simpa using h34
        rw [e0, Bool.false_and] at E
        clear hne h34 e0 hx
        go_wp2_with fail
        go_roundw
        case rel => exact ⟨j + 1, by first | rfl | trivial, by go_num, by omega, upto_succ HBF.out E.out⟩
        case measure => simp [intOf]; omega
    · obtain rfl : j = b.length := by omega
      have e := HN.out HBF.out
      subst e
      go_wp2_with fail
      go_ret2
      exact ⟨rfl, rfl⟩

/-- What is quoted, as far as it is read. -/
structure QAt (b : List UInt8) (A R : List UInt8) (F : Bool) (j : Nat) (P : List UInt8) : Prop where
  le : j ≤ b.length
  at' : j = 1 + (dbl P).length
  eq : b.drop 1 = dbl P ++ b.drop j
  res : uq (b.drop 1) = (A, R, F)
theorem QAt.start {b A R : List UInt8} {F : Bool} (h1 : 1 ≤ b.length) (h : uq (b.drop 1) = (A, R, F)) : QAt b A R F 1 [] := ⟨h1, by simp [dbl_nil], by simp [dbl_nil], h⟩
theorem QAt.piece {b A R : List UInt8} {F : Bool} {j : Nat} {P : List UInt8} (h : QAt b A R F j P) : (b.drop 1).take (j - 1) = dbl P := by
  rw [h.eq, h.at', Nat.add_sub_cancel_left]
  exact List.take_left' rfl
theorem QAt.next {b A R : List UInt8} {F : Bool} {j : Nat} {P : List UInt8} (h : QAt b A R F j P) {x : UInt8} (hx : b[j]? = some x) (h34 : x ≠ 34) : QAt b A R F (j + 1) (P ++ [x]) := by
  obtain ⟨hj, hx'⟩ := List.getElem?_eq_some_iff.1 hx
  have e := h.at'
  have d : dbl [x] = [x] := by rw [dbl_cons, if_neg h34, dbl_nil]; rfl
  refine ⟨hj, ?_, ?_, h.res⟩
  · rw [dbl_app, d, List.length_append, List.length_singleton]; omega
  · rw [dbl_app, d, List.append_assoc, h.eq, List.drop_eq_getElem_cons hj, hx']; rfl
theorem QAt.two {b A R : List UInt8} {F : Bool} {j : Nat} {P : List UInt8} (h : QAt b A R F j P) (hp : Lib.hasPrefix (b.drop j) [34, 34] = true) : QAt b A R F (j + 2) (P ++ [34]) := by
  have e := h.at'
  have hp' : ([34, 34] : List UInt8) <+: b.drop j := by rwa [Lib.hasPrefix, List.isPrefixOf_iff_prefix] at hp
  obtain ⟨t, ht⟩ := hp'
  have hl := congrArg List.length ht
  simp only [List.length_append, List.length_cons, List.length_nil, List.length_drop] at hl
  have d : dbl [34] = [34, 34] := by rw [dbl_cons, if_pos rfl, dbl_nil]; rfl
  have ht2 : b.drop (j + 2) = t := by rw [← List.drop_drop, ← ht]; rfl
  refine ⟨by omega, ?_, ?_, h.res⟩
  · rw [dbl_app, d, List.length_append]; simp; omega
  · rw [dbl_app, d, List.append_assoc, h.eq, ht2, ht]
theorem QAt.ends {b A R : List UInt8} {F : Bool} {j : Nat} {P : List UInt8} (h : QAt b A R F j P) (hx : b[j]? = some 34) (hp : Lib.hasPrefix (b.drop j) [34, 34] = false) : A = P ∧ R = b.drop (j + 1) ∧ F = true := by
  obtain ⟨hj, hx'⟩ := List.getElem?_eq_some_iff.1 hx
  have r := h.res
  have hc : b.drop j = 34 :: b.drop (j + 1) := by rw [List.drop_eq_getElem_cons hj, hx']
  rw [h.eq, hc, uq_dbl, uq_end] at r
  · simp only [List.append_nil, Prod.mk.injEq] at r
    exact ⟨r.1.symm, r.2.1.symm, r.2.2.symm⟩
  · intro hh
    rw [hc] at hp
    cases hd : b.drop (j + 1) with
    | nil => rw [hd] at hh; simp at hh
    | cons y t =>
      rw [hd] at hh hp
      simp at hh
      subst hh
      simp [Lib.hasPrefix, List.isPrefixOf] at hp
theorem QAt.open {b A R : List UInt8} {F : Bool} {P : List UInt8} (h : QAt b A R F b.length P) : A = P ∧ R = [] ∧ F = false ∧ b.drop 1 = dbl P := by
  have r := h.res
  have e := h.eq
  rw [List.drop_length, List.append_nil] at e
  have e2 : dbl P = dbl P ++ [] := by simp
  rw [e, e2, uq_dbl] at r
  simp [uq] at r
  exact ⟨r.1.symm, r.2.1, r.2.2, e⟩
theorem QAt.lenP {b A R : List UInt8} {F : Bool} {j : Nat} {P : List UInt8} (h : QAt b A R F j P) : P.length ≤ b.length := by
  have h1 := h.at'
  have h2 := h.le
  have h3 := (dbl_len P).1
  omega

set_option maxHeartbeats 2000000 in
theorem unquoted_any (b : List UInt8) (w : World) (hM : Mx w) (hb1 : 1 ≤ b.length) (hb : b.length ≤ 1000000) :
    Calls Tryd.prog 26 #[.string ⟨b.toArray⟩] w fun e w' => e = .returned (.tuple #[.string ⟨(uq (b.drop 1)).1.toArray⟩, .int .i64 ((b.length - (uq (b.drop 1)).2.1.length : Nat) : Int), .bool (uq (b.drop 1)).2.2]) ∧ Below w.heap.size w w' := by
  have hsz := arr_size b
  have HI := Lib.hid (fun j x (h : b[j]? = some x) => str_idx b j x h)
  have HF := Lib.hid (fun j (h : j ≤ b.length) => str_from b j h)
  have HD := Lib.hid (fun i j h1 h2 => str_mid b i j h1 h2)
  obtain ⟨A, R, F, hU⟩ : ∃ A R F, uq (b.drop 1) = (A, R, F) := ⟨_, _, _, rfl⟩
  have HQ := Lib.hid (QAt.start hb1 hU)
  rw [hU]
  simp only
  obtain ⟨N, hN⟩ : ∃ N, b.length - R.length = N := ⟨_, rfl⟩
  rw [hN]
  have HN := Lib.hid hN
  clear hU hN
  go_enter Tryd.func26, Tryd.ntmps26
  go_wp2_with fail
  go_loopw [5] (fun n wr => ∃ (j : Nat) (P : List UInt8), wr = w ∧ n = .int .i64 j ∧ QAt b A R F j P) (fun n _ => b.length - (intOf n).toNat)
  case atStart => exact ⟨1, [], rfl, rfl, HQ.out⟩
  case round =>
    obtain ⟨j, P, rfl, rfl, hq⟩ := hrel
    have Q := Lib.hid hq
    have hj := hq.le
    have hP := hq.lenP
    have hj1 : 1 ≤ j := by have := hq.at'; omega
    clear hq HQ
    by_cases hlt : j < b.length
    · obtain ⟨x, hx⟩ : ∃ x, b[j]? = some x := ⟨b[j], List.getElem?_eq_getElem hlt⟩
      have k1 := HI.out j x hx
      have hlt' : (j : Int) < (b.length : Int) := by omega
      by_cases h34 : x = 34
      · subst h34
        have k1' : ∀ W, (Instr.index 9 (.string ⟨b.toArray⟩) (.int .i64 (j : Int))).run Tryd.prog W = .ok (.int .u8 34) W := k1
        have k2 := HF.out j hj
        have P1 := Lib.hid (fun W => hasPrefix_any (b.drop j) [34, 34] W)
        cases hpf : Lib.hasPrefix (b.drop j) [34, 34]
        · rw [hpf] at P1
          obtain ⟨rfl, rfl, rfl⟩ := Q.out.ends hx hpf
          have k3 := HD.out 1 j hj1 hj
          rw [Q.out.piece] at k3
          have k3' : ∀ W, (Instr.slice 9 (.string ⟨b.toArray⟩) (some (.int .i64 1)) (some (.int .i64 (j : Int))) none).run Tryd.prog W = .ok (.string ⟨(dbl A).toArray⟩) W := k3
          have S1 := Lib.hid (fun W hM => single_any A W hM (by omega))
          obtain rfl : N = j + 1 := by rw [← HN.out, List.length_drop]; omega
          have HM := Lib.hid hM
          generalize b.drop j = bj at k2 P1 hpf
          clear hpf hx k1 k3 hM HN
          go_wp2_with (first
            | (go_at_call 44; refine (P1.out _).mono ?_; rintro e w' ⟨rfl, rfl⟩)
            | (go_at_call 45; refine (S1.out _ HM.out).mono ?_; rintro e w' ⟨rfl, b1⟩))
          go_ret3
          exact ⟨by go_num, b1⟩
        · rw [hpf] at P1
          have Q2 := Lib.hid (Q.out.two hpf)
          have hj2 := Q2.out.le
          generalize b.drop j = bj at k2 P1 hpf
          clear hpf hx k1
          go_wp2_with (go_at_call 44; refine (P1.out _).mono ?_; rintro e w' ⟨rfl, rfl⟩)
          go_roundw
          case rel => exact ⟨j + 2, P ++ [34], by first | rfl | trivial, by go_num, Q2.out⟩
          case measure => simp [intOf]; omega
      · have hne : ((x.toNat : Int) == 34) = false := byte_ne h34
        have hne' : ((x.toNat : Int) != 34) = true := by rw [bne, hne]; rfl
        have Q2 := Lib.hid (Q.out.next hx h34)
        clear h34 hx hne
        go_wp2_with fail
        go_roundw
        case rel => exact ⟨j + 1, P ++ [x], by first | rfl | trivial, by go_num, Q2.out⟩
        case measure => simp [intOf]; omega
    · obtain rfl : j = b.length := by omega
      obtain ⟨rfl, rfl, rfl, hd⟩ := Q.out.open
      have k2 := HF.out 1 (by omega)
      rw [hd] at k2
      have k2' : ∀ W, (Instr.slice 9 (.string ⟨b.toArray⟩) (some (.int .i64 1)) none none).run Tryd.prog W = .ok (.string ⟨(dbl A).toArray⟩) W := k2
      have S1 := Lib.hid (fun W hM => single_any A W hM (by omega))
      have HM := Lib.hid hM
      obtain rfl : N = b.length := by rw [← HN.out]; simp
      clear hd k2 hM HN
      go_wp2_with (go_at_call 45; refine (S1.out _ HM.out).mono ?_; rintro e w' ⟨rfl, b1⟩)
      go_ret3
      exact ⟨rfl, b1⟩
end Go.Proofs.YteckiifnldcjbaaDoor
