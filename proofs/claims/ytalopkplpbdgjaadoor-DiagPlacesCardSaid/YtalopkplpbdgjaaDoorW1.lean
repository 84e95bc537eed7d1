/- Contracts of the small functions of diag: Clip, New, Move, reach.of, short. -/
import Derived.Test.YtalopkplpbdgjaaDoorProg
import Derived.Test.YtalopkplpbdgjaaDoorM
import Derived.WalkKit
import Derived.WalkSpells
import Derived.WalkLawsBesides
namespace Go.Proofs.YtalopkplpbdgjaaDoor
open Go.RowKit

theorem ret_int {k : IntKind} {a b : Int} (h : a = b) : Ending.returned (.int k a) = .returned (.int k b) := by rw [h]

set_option maxHeartbeats 400000 in
theorem clip_any (n : Int) (w : World) : Calls Tryd.prog 23 #[.int .i64 n] w fun e w' => e = .returned (.int .i64 (clip n)) ∧ w = w' := by
  go_enter Tryd.func23, Tryd.ntmps23
  go_wp2
  all_goals
    go_ret
    exact ⟨ret_int (by unfold clip; omega), rfl⟩

set_option maxHeartbeats 400000 in
theorem short_any (n : Int) (w : World) : Calls Tryd.prog 56 #[.int .i64 n] w fun e w' => e = .returned (.int .i64 (min (max n (-1099511627775)) 1099511627775)) ∧ w = w' := by
  go_enter Tryd.func56, Tryd.ntmps56
  go_wp2
  all_goals
    go_ret
    exact ⟨ret_int (by omega), rfl⟩

set_option maxHeartbeats 400000 in
theorem new_zero (l c : Int) (w : World) : Calls Tryd.prog 24 #[.int .i64 0, .int .i64 l, .int .i64 c] w fun e w' => e = .returned .nilIface ∧ w = w' := by
  go_enter Tryd.func24, Tryd.ntmps24
  go_wp2_with fail
  go_ret
  exact ⟨rfl, rfl⟩

set_option maxHeartbeats 400000 in
theorem new_pos (k l c : Int) (w : World) (hk : (k == 0) = false) : Calls Tryd.prog 24 #[.int .i64 k, .int .i64 l, .int .i64 c] w fun e w' => e = .returned (.iface 62 (.pointer (some ⟨w.heap.size, 0, none⟩))) ∧ w.alloc (.cells #[.int .i64 k, .int .i64 (clip l), .int .i64 (clip c)] 69) = w' := by
  go_enter Tryd.func24, Tryd.ntmps24
  go_wp2_with (go_at_call 23; refine (clip_any _ _).mono ?_; rintro e w' ⟨rfl, rfl⟩)
  go_ret
  exact ⟨rfl, rfl⟩

set_option maxHeartbeats 400000 in
theorem move_nil (l c : Int) (w : World) : Calls Tryd.prog 21 #[.nilIface, .int .i64 l, .int .i64 c] w fun e w' => e = .returned .nilIface ∧ w = w' := by
  go_enter Tryd.func21, Tryd.ntmps21
  go_wp2_with fail
  go_ret
  exact ⟨rfl, rfl⟩

set_option maxHeartbeats 400000 in
theorem move_any (t : TypeId) (v : Value) (l c : Int) (w : World) : Calls Tryd.prog 21 #[.iface t v, .int .i64 l, .int .i64 c] w fun e w' => e = .returned (.iface 75 (.pointer (some ⟨w.heap.size, 0, none⟩))) ∧ w.alloc (.cells #[.iface t v, .int .i64 l, .int .i64 c] 77) = w' := by
  go_enter Tryd.func21, Tryd.ntmps21
  go_wp2_with fail
  go_ret
  exact ⟨rfl, rfl⟩

set_option maxHeartbeats 400000 in
theorem of_any (add lo hi n : Int) (w : World) (h1 : -9223372036854775808 ≤ n + add) (h2 : n + add ≤ 9223372036854775807) :
   Calls Tryd.prog 39 #[.agg #[.int .i64 add, .int .i64 lo, .int .i64 hi], .int .i64 n] w fun e w' => e = .returned (.int .i64 (min (max (n + add) lo) hi)) ∧ w.alloc (.cells #[.int .i64 add, .int .i64 lo, .int .i64 hi] 64) = w' := by
  go_enter Tryd.func39, Tryd.ntmps39
  go_wp2
  all_goals
    go_ret
    exact ⟨ret_int (by omega), rfl⟩
end Go.Proofs.YtalopkplpbdgjaaDoor
