/- Contracts of still and reach.within: what each returns, at every input in bounds; old memory is as it was. -/
import Derived.Test.YtalopkplpbdgjaaDoorW1
import Derived.Deep.RegionHeld3
import Derived.Outline
namespace Go.Proofs.YtalopkplpbdgjaaDoor
open Go.RowKit

set_option maxHeartbeats 400000 in
theorem still_any (w : World) : Calls Tryd.prog 38 #[] w fun e w' => e = .returned (.agg #[.int .i64 0, .int .i64 0, .int .i64 1099511627775, .int .i64 0, .int .i64 0, .int .i64 1099511627775]) ∧ Below w.heap.size w w' := by
  go_enter Tryd.func38, Tryd.ntmps38
  go_wp2
  exact bodyPost_ret (v := .agg #[.int .i64 0, .int .i64 0, .int .i64 1099511627775, .int .i64 0, .int .i64 0, .int .i64 1099511627775]) (by simp [results, Tryd.results38, go_sem]) rfl ⟨rfl, ((Below.refl _ _).alloc (Nat.le_refl _) _).alloc (by simp) _⟩

set_option maxHeartbeats 1000000 in
theorem within_any (add lo hi n : Int) (w : World) (h1 : -1152921504606846976 ≤ add) (h2 : add ≤ 1152921504606846976) :
   Calls Tryd.prog 51 #[.agg #[.int .i64 add, .int .i64 lo, .int .i64 hi], .int .i64 n] w fun e w' => e = .returned (.agg #[.int .i64 (min (max n (-1099511627775)) 1099511627775 + add), .int .i64 (min (max add lo) hi), .int .i64 (min (max (1099511627775 + add) lo) hi)]) ∧ Below w.heap.size w w' := by
  have hw : IntKind.i64.wrap (min (max n (-1099511627775)) 1099511627775 + add) = min (max n (-1099511627775)) 1099511627775 + add := IntWalk.i64_in _ (by omega)
  go_enter Tryd.func51, Tryd.ntmps51
  go_wp2_with fail
  go_region_held3 (fun w' => w'.cell? ⟨w.heap.size, 0, none⟩ = some (.int .i64 add) ∧ w'.cell? ⟨w.heap.size, 1, none⟩ = some (.int .i64 lo) ∧ w'.cell? ⟨w.heap.size, 2, none⟩ = some (.int .i64 hi))
    (first
      | go_keep)
    ((first | (go_at_call 56; refine (short_any _ _).mono ?_; rintro e w' ⟨rfl, rfl⟩) | (go_at_call 39; refine (of_any _ _ _ _ _ (by omega) (by omega)).mono ?_; rintro e w' ⟨rfl, rfl⟩)))
  clear hw
  go_wp2
  exact bodyPost_ret (v := .agg #[.int .i64 (min (max n (-1099511627775)) 1099511627775 + add), .int .i64 (min (max add lo) hi), .int .i64 (min (max (1099511627775 + add) lo) hi)]) (by simp [results, Tryd.results51, go_sem]) rfl ⟨rfl, by
    refine Below.drew ?_
    exact ((((Below.refl _ _).alloc (Nat.le_refl _) _).alloc (by simp) _).alloc (by simp; omega) _).alloc (by simp; omega) _⟩

end Go.Proofs.YtalopkplpbdgjaaDoor
