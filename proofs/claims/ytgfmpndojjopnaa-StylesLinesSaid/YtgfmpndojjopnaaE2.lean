/- A rune that is named: by a digit, by its number, by its name; fonts. -/
import Derived.Test.YtgfmpndojjopnaaE1
import Derived.Test.YtgfmpndojjopnaaW7
import Derived.Laws.RangeString
import Derived.Laws.RangeAny
namespace Go.Proofs.Ytgfmpndojjopnaa
open Go.RowKit

theorem ret_ib {k : IntKind} {a b : Int} {x y : Bool} (h : a = b) (h2 : x = y) : Ending.returned (.tuple #[.int k a, .bool x]) = .returned (.tuple #[.int k b, .bool y]) := by rw [h, h2]
theorem hexd_bd {c d : Int} (h : hexd c = some d) : 0 ≤ d ∧ d ≤ 15 := by
  unfold hexd at h
  split at h
  · cases h; omega
  · split at h
    · cases h; omega
    · cases h

set_option maxHeartbeats 400000 in
theorem digit_any (c : Int) (h0 : 0 ≤ c) (h1 : c ≤ 2147483647) (w : World) : Calls Try.prog 57 #[.int .i32 c] w fun e w' => e = .returned (.tuple #[.int .i32 ((hexd c).getD 0), .bool (hexd c).isSome]) ∧ w = w' := by
  obtain ⟨H, hH⟩ : ∃ H, hexd c = H := ⟨_, rfl⟩
  rw [hH]
  by_cases a : 48 ≤ c ∧ c ≤ 57
  · have e : H = some (c - 48) := by rw [← hH]; unfold hexd; rw [if_pos a]
    obtain ⟨a1, a2⟩ := a
    subst e
    clear hH
    simp only [Option.getD_some, Option.isSome_some]
    go_enter Try.func57, Try.ntmps57
    go_wp2
    go_ret2
    exact ⟨rfl, rfl⟩
  · by_cases b : 65 ≤ c ∧ c ≤ 70
    · have e : H = some (c - 55) := by rw [← hH]; unfold hexd; rw [if_neg a, if_pos b]
      obtain ⟨b1, b2⟩ := b
      have a3 : ¬ c ≤ 57 := by omega
      have a1 : 48 ≤ c := by omega
      subst e
      clear hH a
      simp only [Option.getD_some, Option.isSome_some]
      go_enter Try.func57, Try.ntmps57
      go_wp2
      go_ret2
      exact ⟨ret_ib (by omega) rfl, rfl⟩
    · have e : H = none := by rw [← hH]; unfold hexd; rw [if_neg a, if_neg b]
      subst e
      clear hH
      simp only [Option.getD_none, Option.isSome_none]
      by_cases a1 : 48 ≤ c
      · have a2 : ¬ c ≤ 57 := fun h => a ⟨a1, h⟩
        clear a
        by_cases b1 : 65 ≤ c
        · have b2 : ¬ c ≤ 70 := fun h => b ⟨b1, h⟩
          clear b
          go_enter Try.func57, Try.ntmps57
          go_wp2
          go_ret2
          exact ⟨rfl, rfl⟩
        · clear b
          go_enter Try.func57, Try.ntmps57
          go_wp2
          go_ret2
          exact ⟨rfl, rfl⟩
      · have b1 : ¬ 65 ≤ c := by omega
        clear a b
        go_enter Try.func57, Try.ntmps57
        go_wp2
        go_ret2
        exact ⟨rfl, rfl⟩
end Go.Proofs.Ytgfmpndojjopnaa
