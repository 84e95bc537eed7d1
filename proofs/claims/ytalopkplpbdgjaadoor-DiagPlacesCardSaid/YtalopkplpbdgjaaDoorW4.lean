/- The contract of spot.of: what it returns, where no sum passes an int; old memory is as it was. -/
import Derived.Test.YtalopkplpbdgjaaDoorW3
namespace Go.Proofs.YtalopkplpbdgjaaDoor
open Go.RowKit

theorem of_below (add lo hi n : Int) (w : World) (h1 : -9223372036854775808 ≤ n + add) (h2 : n + add ≤ 9223372036854775807) :
   Calls Tryd.prog 39 #[.agg #[.int .i64 add, .int .i64 lo, .int .i64 hi], .int .i64 n] w fun e w' => e = .returned (.int .i64 (min (max (n + add) lo) hi)) ∧ Below w.heap.size w w' :=
  (of_any add lo hi n w h1 h2).mono fun e w' ⟨he, hw⟩ => ⟨he, by subst hw; exact (Below.refl _ _).alloc (Nat.le_refl _) _⟩

set_option maxHeartbeats 2000000 in
theorem spotof_any (a1 l1 h1 a2 l2 h2 k l c : Int) (w : World)
   (k1 : -9223372036854775808 ≤ l + a1) (k2 : l + a1 ≤ 9223372036854775807) (k3 : -9223372036854775808 ≤ c + a2) (k4 : c + a2 ≤ 9223372036854775807) :
   Calls Tryd.prog 30 #[.agg #[.int .i64 a1, .int .i64 l1, .int .i64 h1, .int .i64 a2, .int .i64 l2, .int .i64 h2], .agg #[.int .i64 k, .int .i64 l, .int .i64 c]] w fun e w' => e = .returned (.agg #[.int .i64 k, .int .i64 (min (max (l + a1) l1) h1), .int .i64 (min (max (c + a2) l2) h2)]) ∧ Below w.heap.size w w' := by
  go_enter Tryd.func30, Tryd.ntmps30
  go_wp2_with fail
  go_region_held3 (fun w' => w'.cell? ⟨w.heap.size, 0, none⟩ = some (.int .i64 a1) ∧ w'.cell? ⟨w.heap.size, 1, none⟩ = some (.int .i64 l1) ∧ w'.cell? ⟨w.heap.size, 2, none⟩ = some (.int .i64 h1) ∧ w'.cell? ⟨w.heap.size, 3, none⟩ = some (.int .i64 a2) ∧ w'.cell? ⟨w.heap.size, 4, none⟩ = some (.int .i64 l2) ∧ w'.cell? ⟨w.heap.size, 5, none⟩ = some (.int .i64 h2) ∧ w'.cell? ⟨w.heap.size + 1, 0, none⟩ = some (.int .i64 k) ∧ w'.cell? ⟨w.heap.size + 1, 1, none⟩ = some (.int .i64 l) ∧ w'.cell? ⟨w.heap.size + 1, 2, none⟩ = some (.int .i64 c))
    (first
      | (go_split_ands
         refine ⟨?_, ?_, ?_, ?_, ?_, ?_, ?_, ?_, ?_⟩ <;> (rw [hcc _ _ (by first | omega | (simp; done) | (simp; omega))]; assumption))
      | (go_split_ands
         refine ⟨?_, ?_, ?_, ?_, ?_, ?_, ?_, ?_, ?_⟩ <;> ((repeat rw [World.cell?_setCell_far _ _ _ _ (by first | assumption | (simp; done) | (dsimp only; omega))]); assumption))
      | go_keep)
    ((first
      | (go_at_call 39; (with_reducible refine (of_below a1 l1 h1 l _ k1 k2).mono ?_); rintro e w1 ⟨rfl, hb⟩; obtain ⟨hcc, hff⟩ := bcell hb; have hcc1 := hcc; have hz := hb.size; simp at hz; have hn : w.heap.size + 1 + 1 < w1.heap.size := by omega)
      | (go_at_call 39; (with_reducible refine (of_below a2 l2 h2 c _ k3 k4).mono ?_); rintro e w2 ⟨rfl, hb2⟩; obtain ⟨hcc, hff⟩ := bcell hb2; have hz2 := hb2.size; have hn2 : w.heap.size + 1 + 1 < w2.heap.size := by omega)))
  go_wp2
  have hB : Below w.heap.size w w2 := (((((Below.refl _ w).alloc (Nat.le_refl _) _).alloc (by simp) _).alloc (by simp; omega) _).drew.trans (hb.mono (by simp; omega))).trans (hb2.mono (by omega))
  have q : ∀ o, o < 3 → w2.cell? ⟨w.heap.size + 1 + 1, o, none⟩ = some (.int .i64 0) := fun o ho => by
    rw [hcc _ _ hn, hcc1 _ _ (by simp)]
    rw [World.cell?_drew, World.cell?_alloc_at _ _ _ _ (by simp)]
    match o, ho with
    | 0, _ => rfl
    | 1, _ => rfl
    | 2, _ => rfl
  have q0 := q 0 (by omega)
  have q1 := q 1 (by omega)
  have q2 := q 2 (by omega)
  clear q hcc hff hcc1
  exact bodyPost_ret (v := .agg #[.int .i64 k, .int .i64 (min (max (l + a1) l1) h1), .int .i64 (min (max (c + a2) l2) h2)]) (by simp [results, Tryd.results30, go_sem, World.cell?_setCell_same', q0, q1, q2]) rfl ⟨rfl, by
    refine Below.setCell (Below.setCell (Below.setCell hB ?_ _) ?_ _) ?_ _ <;> (simp; try omega)⟩
end Go.Proofs.YtalopkplpbdgjaaDoor
