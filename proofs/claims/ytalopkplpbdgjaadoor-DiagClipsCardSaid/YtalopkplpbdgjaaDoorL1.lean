/- The law DiagClips returns true at every input, and leaves old memory as it was. -/
import Derived.Test.YtalopkplpbdgjaaDoorX3
namespace Go.Proofs.YtalopkplpbdgjaaDoor
open Go.RowKit Go.Shelf Go.Extern.Stop Go.Stop Go.Extern

theorem clip_bd (n : Int) : 0 ≤ clip n ∧ clip n ≤ 1099511627775 := by unfold clip; omega
theorem clip_clip (n : Int) : clip (clip n) = clip n := by unfold clip; omega
theorem clip_in {n : Int} (h0 : 0 ≤ n) (h1 : n ≤ 1099511627775) : clip n = n := by unfold clip; omega
theorem clip_mono {n m : Int} (h : n ≤ m) : clip n ≤ clip m := by unfold clip; omega

set_option maxRecDepth 100000 in
set_option maxHeartbeats 1000000 in
theorem clips_any (n m : Int) (w : World) (hE : ErrType w) : Calls Tryd.prog 6 #[.int .i64 n, .int .i64 m] w fun e W' => e = .returned (.bool true) ∧ Below w.heap.size w W' := by
  have HK := Lib.hid (known_any w hE)
  clear hE
  obtain ⟨a0, a1⟩ := clip_bd n
  have cc : ∀ w, Calls Tryd.prog 23 #[.int .i64 (clip n)] w fun e w' => e = .returned (.int .i64 (clip n)) ∧ w = w' := fun w => (clip_any (clip n) w).mono fun e w' ⟨he, hw⟩ => ⟨by rw [he, clip_clip], hw⟩
  have HC := Lib.hid cc
  clear cc
  have hmono : n ≤ m → clip n ≤ clip m := clip_mono
  have hin : 0 ≤ n → n ≤ 1099511627775 → clip n = n := clip_in
  have C1 := Lib.hid (clip_any n)
  have C2 := Lib.hid (clip_any m)
  generalize clip n = a at *
  generalize clip m = b at *
  have key : (m < n ∨ (n ≤ m ∧ a ≤ b)) ∧ (n < 0 ∨ (0 ≤ n ∧ 1099511627775 < n) ∨ (0 ≤ n ∧ n ≤ 1099511627775 ∧ a = n)) := by omega
  clear hmono hin
  obtain ⟨k1, k2⟩ := key
  rcases k1 with k1 | ⟨k1, k1'⟩ <;> rcases k2 with k2 | ⟨k2, k2'⟩ | ⟨k2, k2', rfl⟩
  all_goals
    go_enter Tryd.func6, Tryd.ntmps6
    go_wp2_with fail
    refine (C1.out _).mono ?_
    rintro e w' ⟨rfl, rfl⟩
    go_wp2_with fail
    refine (C2.out _).mono ?_
    rintro e w' ⟨rfl, rfl⟩
    go_wp2_with fail
    refine (HC.out _).mono ?_
    rintro e w' ⟨rfl, rfl⟩
    go_wp2_with fail
    refine HK.out.mono ?_
    rintro e w1 ⟨rfl, hb⟩
    go_wp2_with fail
    go_ret
    exact ⟨rfl, hb⟩
end Go.Proofs.YtalopkplpbdgjaaDoor
