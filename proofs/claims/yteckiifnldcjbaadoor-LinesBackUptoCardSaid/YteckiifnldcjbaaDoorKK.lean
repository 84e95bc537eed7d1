/- The document's own answer: an odd number of backslashes; a text quoted; arguments. -/
import Derived.Test.YteckiifnldcjbaaDoorK5
import Derived.Deep.QuietTactic
import Derived.BigQuiet
namespace Go.Proofs.YteckiifnldcjbaaDoor
open Go.RowKit
attribute [local go_sem ↓ high] builtin_appS binop_addS

theorem sl_rep (l : List UInt8) : ∀ n : Nat, sl (l ++ List.replicate n 92) = (if n % 2 = 1 then !sl l else sl l)
  | 0 => by simp
  | n + 1 => by
    have ih := sl_rep l n
    rw [List.replicate_succ', ← List.append_assoc, sl_snoc, ih]
    by_cases h : n % 2 = 1
    · rw [if_pos h, if_neg (by omega)]
      simp
    · rw [if_neg h, if_pos (by omega)]
      simp
/-- n backslashes end the first k bytes. -/
structure OddAt (b : List UInt8) (k n : Nat) : Prop where
  le : n ≤ k
  eq : b.take k = b.take (k - n) ++ List.replicate n 92
theorem OddAt.start (b : List UInt8) (k : Nat) : OddAt b k 0 := ⟨by omega, by simp⟩
theorem OddAt.next {b : List UInt8} {k n : Nat} (h : OddAt b k n) (hn : n < k) (hx : b[k - 1 - n]? = some 92) : OddAt b k (n + 1) := by
  refine ⟨by omega, ?_⟩
  rw [h.eq, show k - n = (k - 1 - n) + 1 by omega, List.take_add_one, hx, List.append_assoc]
  show b.take (k - 1 - n) ++ (92 :: List.replicate n 92) = _
  rw [show k - (n + 1) = k - 1 - n by omega]
  rfl
theorem OddAt.stop {b : List UInt8} {k n : Nat} (h : OddAt b k n) (hs : n = k ∨ ∃ x, b[k - 1 - n]? = some x ∧ x ≠ 92) : sl (b.take k) = decide (n % 2 = 1) := by
  have h0 : sl (b.take (k - n)) = false := by
    rcases hs with rfl | ⟨x, hx, hne⟩
    · simp [sl]
    · by_cases hnk : n = k
      · subst hnk; simp [sl]
      · have := h.le
        rw [show k - n = (k - 1 - n) + 1 by omega, sl_take hx]
        simp [hne]
  rw [h.eq, sl_rep, h0]
  by_cases hp : n % 2 = 1
  · rw [if_pos hp, decide_eq_true hp]; rfl
  · rw [if_neg hp, decide_eq_false hp]
theorem wrap_any {q : Int} (h0 : -1000000000 ≤ q) (h1 : q ≤ 1000000000) : IntKind.i64.wrap q = q := by
  simp [IntKind.wrap, IntKind.bits, IntKind.signed]
  omega

set_option maxHeartbeats 1000000 in
theorem rodd_any (b : List UInt8) (k : Nat) (w : World) (hk : k ≤ b.length) (hb : b.length ≤ 1000000) : Calls Tryd.prog 29 #[.string ⟨b.toArray⟩, .int .i64 (k : Int)] w fun e w' => e = .returned (.bool (sl (b.take k))) ∧ w = w' := by
  have hsz := arr_size b
  have HO := Lib.hid (fun n (h : OddAt b k n) hs => h.stop hs)
  have HI := Lib.hid (fun j x (h : b[j]? = some x) => str_idx b j x h)
  obtain ⟨S, hS⟩ : ∃ S, sl (b.take k) = S := ⟨_, rfl⟩
  rw [hS] at HO ⊢
  clear hS
  go_enter Tryd.func29, Tryd.ntmps29
  go_wp2_with fail
  go_loopw [5] (fun i wr => ∃ n : Nat, wr = w ∧ i = .int .i64 n ∧ OddAt b k n) (fun i _ => k - (intOf i).toNat)
  case atStart => exact ⟨0, rfl, rfl, OddAt.start b k⟩
  case round =>
    obtain ⟨n, rfl, rfl, hn⟩ := hrel
    have hle := hn.le
    have HN := Lib.hid hn
    clear hn
    have hw1 : IntKind.i64.wrap ((k : Int) - 1) = (k : Int) - 1 := wrap_any (by omega) (by omega)
    have hw2 : IntKind.i64.wrap ((k : Int) - 1 - (n : Int)) = (k : Int) - 1 - (n : Int) := wrap_any (by omega) (by omega)
    have fin : ∀ (P : Prop) [Decidable P], sl [] = false := fun _ _ => rfl
    by_cases hlt : n < k
    · obtain ⟨x, hx⟩ : ∃ x, b[k - 1 - n]? = some x := ⟨b[k - 1 - n]'(by omega), List.getElem?_eq_getElem _⟩
      have k1 : ∀ W, (Instr.index 9 (.string ⟨b.toArray⟩) (.int .i64 ((k : Int) - 1 - (n : Int)))).run Tryd.prog W = .ok (.int .u8 (x.toNat : Int)) W := by
        have h := HI.out (k - 1 - n) x hx
        have c : ((k - 1 - n : Nat) : Int) = (k : Int) - 1 - (n : Int) := by omega
        rw [c] at h
        exact h
      have hge : (0 : Int) ≤ (k : Int) - 1 - (n : Int) := by omega
      by_cases h92 : x = 92
      · subst h92
        have k2 : ∀ W, (Instr.index 9 (.string ⟨b.toArray⟩) (.int .i64 ((k : Int) - 1 - (n : Int)))).run Tryd.prog W = .ok (.int .u8 92) W := k1
        have HT := Lib.hid (HN.out.next hlt hx)
        clear k1 hx HO HI fin
        go_wp2_with fail
        go_roundw
        case rel => exact ⟨n + 1, by first | rfl | trivial, by go_num, HT.out⟩
        case measure => simp [intOf]; omega
      · have hne : ((x.toNat : Int) == 92) = false := byte_ne h92
        have e := HO.out n HN.out (.inr ⟨x, hx, h92⟩)
        have hE := Lib.hid e
        clear hx HO HI h92 e fin
        go_wp2_with fail
        go_ret
        refine ⟨ret_bool ?_, rfl⟩
        rw [hE.out]
        apply bool_of_iff
        simp
        try omega
    · have hge : ¬ (0 : Int) ≤ (k : Int) - 1 - (n : Int) := by omega
      have e := HO.out n HN.out (.inl (by omega))
      have hE := Lib.hid e
      clear HO HI e fin
      go_wp2_with fail
      go_ret
      refine ⟨ret_bool ?_, rfl⟩
      rw [hE.out]
      apply bool_of_iff
      simp
      try omega

theorem dbl_take {b : List UInt8} {j : Nat} {x : UInt8} (h : b[j]? = some x) : dbl (b.take (j + 1)) = dbl (b.take j) ++ (if x = 34 then [34, 34] else [x]) := by
  rw [List.take_add_one, h, dbl_app]
  simp [dbl_cons, dbl_nil]
theorem one_at {b : List UInt8} {j : Nat} {x : UInt8} (hx : b[j]? = some x) (w : World) : (Instr.slice 9 (.string ⟨b.toArray⟩) (some (.int .i64 (j : Int))) (some (.int .i64 ((j : Int) + 1))) none).run Tryd.prog w = .ok (.string ⟨[x].toArray⟩) w := by
  obtain ⟨hlt, hx'⟩ := List.getElem?_eq_some_iff.1 hx
  have k2 := str_mid b j (j + 1) (by omega) (by omega) w
  have e2 : (b.drop j).take (j + 1 - j) = [x] := by
    rw [show j + 1 - j = 1 by omega, List.drop_eq_getElem_cons hlt]
    simp [hx']
  rw [e2] at k2
  exact k2
set_option maxHeartbeats 1000000 in
theorem rquoted_any (b : List UInt8) (w : World) (hb : b.length ≤ 1000000) :
    Calls Tryd.prog 16 #[.string ⟨b.toArray⟩] w fun e w' => e = .returned (.string ⟨(qt b).toArray⟩) ∧ w = w' := by
  have hsz := arr_size b
  have HQ := Lib.hid (fun j x (h : b[j]? = some x) => dbl_take h)
  have HI := Lib.hid (fun j x (h : b[j]? = some x) => str_idx b j x h)
  have HM := Lib.hid (fun j x (h : b[j]? = some x) => one_at h)
  go_enter Tryd.func16, Tryd.ntmps16
  go_wp2_with fail
  go_loopw [3, 4] (fun o i wr => ∃ j : Nat, j ≤ b.length ∧ i = .int .i64 j ∧ o = .string ⟨(34 :: dbl (b.take j)).toArray⟩ ∧ wr = w) (fun _ i _ => b.length - (intOf i).toNat)
  case atStart => exact ⟨0, by omega, rfl, rfl, rfl⟩
  case round =>
    obtain ⟨j, hj, rfl, rfl, rfl⟩ := hrel
    by_cases hlt : j < b.length
    · obtain ⟨x, hx⟩ : ∃ x, b[j]? = some x := ⟨b[j], List.getElem?_eq_getElem hlt⟩
      have k1 := HI.out j x hx
      have k2' := HM.out j x hx
      have HN := Lib.hid (HQ.out j x hx)
      have hol := (dbl_len (b.take j)).2
      rw [List.length_take] at hol
      obtain ⟨o, ho⟩ : ∃ o, 34 :: dbl (b.take j) = o := ⟨_, rfl⟩
      have hol2 : o.length ≤ 2 * b.length + 1 := by rw [← ho, List.length_cons]; omega
      have k3 := str_add o [x] (by simp; omega)
      have k4 : ∀ w, (addS (.string ⟨(o ++ [x]).toArray⟩) (.string ⟨#[34]⟩)).run Tryd.prog w = .ok (.string ⟨(o ++ [x] ++ [34]).toArray⟩) w := str_add (o ++ [x]) [34] (by simp; omega)
      have HO := Lib.hid ho
      rw [ho]
      have hi0 : (j : Int) < (b.length : Int) := by omega
      have hi1 : (0 : Int) ≤ (j : Int) := by omega
      clear hx ho hol hol2
      by_cases hq : x = 34
      · have hne : ((x.toNat : Int) == 34) = true := by rw [hq]; decide
        rw [if_pos hq] at HN
        have HE := Lib.hid hq
        clear hq
        go_wp2_with fail
        go_roundw
        case rel => exact ⟨j + 1, by omega, by go_num, by rw [HN.out, ← HO.out]; simp [HE.out], by first | trivial | rfl⟩
        case measure => simp [intOf]; omega
      · have hne : ((x.toNat : Int) == 34) = false := byte_ne hq
        rw [if_neg hq] at HN
        clear hq
        go_wp2_with fail
        go_roundw
        case rel => exact ⟨j + 1, by omega, by go_num, by rw [HN.out, ← HO.out]; simp, by first | trivial | rfl⟩
        case measure => simp [intOf]; omega
    · obtain rfl : j = b.length := by omega
      rw [List.take_length]
      have hol := (dbl_len b).2
      have k3 : ∀ w, (addS (.string ⟨(34 :: dbl b).toArray⟩) (.string ⟨#[34]⟩)).run Tryd.prog w = .ok (.string ⟨(34 :: dbl b ++ [34]).toArray⟩) w := str_add (34 :: dbl b) [34] (by simp; omega)
      obtain ⟨o, ho⟩ : ∃ o, 34 :: dbl b = o := ⟨_, rfl⟩
      have e : 34 :: dbl b ++ [34] = qt b := by simp [qt]
      rw [e, ho] at k3
      rw [ho]
      clear ho e
      go_wp2_with fail
      go_ret
      exact ⟨rfl, rfl⟩
end Go.Proofs.YteckiifnldcjbaaDoor
