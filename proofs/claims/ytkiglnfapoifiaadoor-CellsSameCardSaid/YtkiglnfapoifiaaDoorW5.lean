/- known() is true; the document's own Width and Sum. -/
import Derived.Test.YtkiglnfapoifiaaDoorW4
namespace Go.Proofs.YtkiglnfapoifiaaDoor
open Go.RowKit

/-- A literal's row. -/
theorem sl_lit {k : IntKind} (w : World) (t : TypeId) (l : List Int) :
    Sl k (w.alloc (.cells (l.map (Value.int k)).toArray t)) (.slice (some ⟨w.heap.size, 0, none⟩) l.length l.length) l :=
  sl_new (k := k) (w := w) (l.map (Value.int k)).toArray t (0, 0) l l.length (Nat.le_refl _) (fun j z hj => by simp [hj])

set_option maxRecDepth 100000 in
theorem within_nones (r : Int) (w : World) : Calls Tryd.prog 46 #[.int .i32 r, .slice (some ⟨w.heap.size, 0, none⟩) 24 24] (w.alloc (.cells #[.int .i32 768, .int .i32 879, .int .i32 1155, .int .i32 1161, .int .i32 1425, .int .i32 1469, .int .i32 1552, .int .i32 1562, .int .i32 1611, .int .i32 1631, .int .i32 6832, .int .i32 6911, .int .i32 7616, .int .i32 7679, .int .i32 8203, .int .i32 8207, .int .i32 8400, .int .i32 8447, .int .i32 65024, .int .i32 65039, .int .i32 65056, .int .i32 65071, .int .i32 917760, .int .i32 917999] 21)) fun e w' => e = .returned (.bool (inT nones r)) ∧ (w.alloc (.cells #[.int .i32 768, .int .i32 879, .int .i32 1155, .int .i32 1161, .int .i32 1425, .int .i32 1469, .int .i32 1552, .int .i32 1562, .int .i32 1611, .int .i32 1631, .int .i32 6832, .int .i32 6911, .int .i32 7616, .int .i32 7679, .int .i32 8203, .int .i32 8207, .int .i32 8400, .int .i32 8447, .int .i32 65024, .int .i32 65039, .int .i32 65056, .int .i32 65071, .int .i32 917760, .int .i32 917999] 21)) = w' :=
  within_any nones r _ _ (sl_lit (k := .i32) w 21 (flat nones)) (by decide)
set_option maxRecDepth 100000 in
theorem within_twos (r : Int) (w : World) : Calls Tryd.prog 46 #[.int .i32 r, .slice (some ⟨w.heap.size, 0, none⟩) 32 32] (w.alloc (.cells #[.int .i32 4352, .int .i32 4447, .int .i32 9001, .int .i32 9002, .int .i32 11904, .int .i32 12350, .int .i32 12353, .int .i32 13311, .int .i32 13312, .int .i32 19903, .int .i32 19968, .int .i32 42191, .int .i32 43360, .int .i32 43391, .int .i32 44032, .int .i32 55203, .int .i32 63744, .int .i32 64255, .int .i32 65072, .int .i32 65135, .int .i32 65280, .int .i32 65376, .int .i32 65504, .int .i32 65510, .int .i32 127744, .int .i32 128591, .int .i32 129280, .int .i32 129535, .int .i32 131072, .int .i32 196605, .int .i32 196608, .int .i32 262141] 21)) fun e w' => e = .returned (.bool (inT twos r)) ∧ (w.alloc (.cells #[.int .i32 4352, .int .i32 4447, .int .i32 9001, .int .i32 9002, .int .i32 11904, .int .i32 12350, .int .i32 12353, .int .i32 13311, .int .i32 13312, .int .i32 19903, .int .i32 19968, .int .i32 42191, .int .i32 43360, .int .i32 43391, .int .i32 44032, .int .i32 55203, .int .i32 63744, .int .i32 64255, .int .i32 65072, .int .i32 65135, .int .i32 65280, .int .i32 65376, .int .i32 65504, .int .i32 65510, .int .i32 127744, .int .i32 128591, .int .i32 129280, .int .i32 129535, .int .i32 131072, .int .i32 196605, .int .i32 196608, .int .i32 262141] 21)) = w' :=
  within_any twos r _ _ (sl_lit (k := .i32) w 21 (flat twos)) (by decide)

set_option maxRecDepth 100000 in
set_option maxHeartbeats 1000000 in
theorem rwidth_zero (r : Int) (w : World) (h : vld r = false ∨ ctl r = true) : Calls Tryd.prog 30 #[.int .i32 r] w fun e W' => e = .returned (.int .i64 0) ∧ Below w.heap.size w W' := by
  obtain ⟨b1, e1⟩ : ∃ b, vld r = b := ⟨_, rfl⟩
  obtain ⟨b2, e2⟩ : ∃ b, ctl r = b := ⟨_, rfl⟩
  have V1 := rvalid_any r w
  have V2 := rcontrol_any r w
  rw [e1] at V1
  rw [e2] at V2
  rw [e1, e2] at h
  clear e1 e2
  rcases h with rfl | rfl
  · cases b2
    all_goals
      go_enter Tryd.func30, Tryd.ntmps30
      go_wp2_with (first
        | (go_at_call 44; refine V1.mono ?_; rintro e w' ⟨rfl, rfl⟩)
        | (go_at_call 45; refine V2.mono ?_; rintro e w' ⟨rfl, rfl⟩))
      go_ret
      exact ⟨rfl, Below.refl _ _⟩
  · cases b1
    all_goals
      go_enter Tryd.func30, Tryd.ntmps30
      go_wp2_with (first
        | (go_at_call 44; refine V1.mono ?_; rintro e w' ⟨rfl, rfl⟩)
        | (go_at_call 45; refine V2.mono ?_; rintro e w' ⟨rfl, rfl⟩))
      go_ret
      exact ⟨rfl, Below.refl _ _⟩

set_option maxRecDepth 100000 in
set_option maxHeartbeats 1000000 in
theorem rwidth_some (r : Int) (w : World) (h1 : vld r = true) (h2 : ctl r = false) (bn bt : Bool) (hn : inT nones r = bn) (ht : inT twos r = bt) :
    Calls Tryd.prog 30 #[.int .i32 r] w fun e W' => e = .returned (.int .i64 (if bn = true then 0 else if bt = true then 2 else 1)) ∧ Below w.heap.size w W' := by
  have V1 := rvalid_any r w
  have V2 := rcontrol_any r w
  rw [h1] at V1
  rw [h2] at V2
  have V3 := within_nones r w
  rw [hn] at V3
  have B2 : Below w.heap.size w (w.alloc (.cells #[.int .i32 768, .int .i32 879, .int .i32 1155, .int .i32 1161, .int .i32 1425, .int .i32 1469, .int .i32 1552, .int .i32 1562, .int .i32 1611, .int .i32 1631, .int .i32 6832, .int .i32 6911, .int .i32 7616, .int .i32 7679, .int .i32 8203, .int .i32 8207, .int .i32 8400, .int .i32 8447, .int .i32 65024, .int .i32 65039, .int .i32 65056, .int .i32 65071, .int .i32 917760, .int .i32 917999] 21)) := (Below.refl _ w).alloc (Nat.le_refl _) _
  have H3 := Lib.hid V3
  have H4 := Lib.hid (fun W => within_twos r W)
  rw [ht] at H4
  clear h1 h2 hn ht V3
  go_enter Tryd.func30, Tryd.ntmps30
  go_wp2_with (first
    | (go_at_call 44; refine V1.mono ?_; rintro e w' ⟨rfl, rfl⟩)
    | (go_at_call 45; refine V2.mono ?_; rintro e w' ⟨rfl, rfl⟩))
  refine Calls.mono H3.out ?_
  obtain ⟨W1, hW1⟩ : ∃ W1, w.alloc (.cells #[.int .i32 768, .int .i32 879, .int .i32 1155, .int .i32 1161, .int .i32 1425, .int .i32 1469, .int .i32 1552, .int .i32 1562, .int .i32 1611, .int .i32 1631, .int .i32 6832, .int .i32 6911, .int .i32 7616, .int .i32 7679, .int .i32 8203, .int .i32 8207, .int .i32 8400, .int .i32 8447, .int .i32 65024, .int .i32 65039, .int .i32 65056, .int .i32 65071, .int .i32 917760, .int .i32 917999] 21) = W1 := ⟨_, rfl⟩
  rw [hW1] at B2 ⊢
  clear H3 hW1
  rintro e w' ⟨rfl, rfl⟩
  cases bn with
  | true =>
    go_wp2_with fail
    go_ret
    exact ⟨rfl, B2⟩
  | false =>
    have B3 : Below w.heap.size w (W1.alloc (.cells #[.int .i32 4352, .int .i32 4447, .int .i32 9001, .int .i32 9002, .int .i32 11904, .int .i32 12350, .int .i32 12353, .int .i32 13311, .int .i32 13312, .int .i32 19903, .int .i32 19968, .int .i32 42191, .int .i32 43360, .int .i32 43391, .int .i32 44032, .int .i32 55203, .int .i32 63744, .int .i32 64255, .int .i32 65072, .int .i32 65135, .int .i32 65280, .int .i32 65376, .int .i32 65504, .int .i32 65510, .int .i32 127744, .int .i32 128591, .int .i32 129280, .int .i32 129535, .int .i32 131072, .int .i32 196605, .int .i32 196608, .int .i32 262141] 21)) := B2.alloc B2.size _
    go_wp2_with fail
    refine Calls.mono (H4.out W1) ?_
    obtain ⟨W2, hW2⟩ : ∃ W2, W1.alloc (.cells #[.int .i32 4352, .int .i32 4447, .int .i32 9001, .int .i32 9002, .int .i32 11904, .int .i32 12350, .int .i32 12353, .int .i32 13311, .int .i32 13312, .int .i32 19903, .int .i32 19968, .int .i32 42191, .int .i32 43360, .int .i32 43391, .int .i32 44032, .int .i32 55203, .int .i32 63744, .int .i32 64255, .int .i32 65072, .int .i32 65135, .int .i32 65280, .int .i32 65376, .int .i32 65504, .int .i32 65510, .int .i32 127744, .int .i32 128591, .int .i32 129280, .int .i32 129535, .int .i32 131072, .int .i32 196605, .int .i32 196608, .int .i32 262141] 21) = W2 := ⟨_, rfl⟩
    rw [hW2] at B3 ⊢
    clear H4 hW2
    rintro e w' ⟨rfl, rfl⟩
    cases bt with
    | true =>
      go_wp2_with fail
      go_ret
      exact ⟨rfl, B3⟩
    | false =>
      go_wp2_with fail
      go_ret
      exact ⟨rfl, B3⟩

theorem rwidth_any (r : Int) (w : World) : Calls Tryd.prog 30 #[.int .i32 r] w fun e W' => e = .returned (.int .i64 (wd r)) ∧ Below w.heap.size w W' := by
  unfold wd
  by_cases h : vld r = false ∨ ctl r = true
  · rw [if_pos (by rcases h with h | h; exact .inl h; exact .inr (.inl h))]
    exact rwidth_zero r w h
  · have h1 : vld r = true := by cases hv : vld r with
      | true => rfl
      | false => exact absurd (.inl hv) h
    have h2 : ctl r = false := by cases hv : ctl r with
      | false => rfl
      | true => exact absurd (.inr hv) h
    have := rwidth_some r w h1 h2 _ _ rfl rfl
    simpa [h1, h2] using this
end Go.Proofs.YtkiglnfapoifiaaDoor
