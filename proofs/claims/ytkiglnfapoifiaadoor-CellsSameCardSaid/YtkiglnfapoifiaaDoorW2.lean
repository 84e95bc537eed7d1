/- The two tables of Width as the world holds them; hasNone, hasTwo, Width, Sum. -/
import Derived.Test.YtkiglnfapoifiaaDoorW1
import Derived.Lib.Hide
import Derived.Below
namespace Go.Proofs.YtkiglnfapoifiaaDoor
open Go.RowKit

/-- The number that a value of an integer holds. -/
def intOf : Value → Int
  | .int _ n => n
  | _ => 0
@[simp] theorem intOf_int (k : IntKind) (n : Int) : intOf (.int k n) = n := rfl

theorem next_lt {f : Nat → Int} {r : Int} {j : Nat} (h : ∀ k, k < j → f k < r) (hj : ¬ r ≤ f j) : ∀ k, k < j + 1 → f k < r := by
  intro k hk
  by_cases hkj : k < j
  · exact h k hkj
  · obtain rfl : k = j := by omega
    omega

/-- The two tables lie in their variables. -/
def Tabs (w : World) : Prop :=
  (∀ i, i < 12 → w.cell? ⟨0, i * 2, none⟩ = some (.int .i32 (lo nones i)) ∧ w.cell? ⟨0, i * 2 + 1, none⟩ = some (.int .i32 (hi nones i))) ∧
  (∀ i, i < 16 → w.cell? ⟨1, i * 2, none⟩ = some (.int .i32 (lo twos i)) ∧ w.cell? ⟨1, i * 2 + 1, none⟩ = some (.int .i32 (hi twos i)))
theorem Tabs.below {w w' : World} (h : Tabs w) (hb : Below w.heap.size w w') : Tabs w' := by
  constructor
  · intro i hi
    obtain ⟨h0, h1⟩ := h.1 i hi
    have hlt := World.block_lt_of_cell? w _ h0
    exact ⟨(hb.cell hlt).trans h0, (hb.cell (p := ⟨0, i * 2 + 1, none⟩) hlt).trans h1⟩
  · intro i hi
    obtain ⟨h0, h1⟩ := h.2 i hi
    have hlt := World.block_lt_of_cell? w _ h0
    exact ⟨(hb.cell hlt).trans h0, (hb.cell (p := ⟨1, i * 2 + 1, none⟩) hlt).trans h1⟩
theorem Tabs.size {w : World} (h : Tabs w) : 1 < w.heap.size := World.block_lt_of_cell? w _ (h.2 0 (by omega)).1

set_option maxRecDepth 100000 in
set_option maxHeartbeats 400000 in
theorem none_any (r : Int) (w : World) (hT : Tabs w) : Calls Tryd.prog 51 #[.int .i32 r] w fun e w' => e = .returned (.bool (inT nones r)) ∧ w = w' := by
  have HT := Lib.hid hT.1
  clear hT
  go_enter Tryd.func51, Tryd.ntmps51
  go_wp2_with fail
  go_loopw [4] (fun i wr => ∃ j : Nat, j ≤ 12 ∧ i = .int .i64 j ∧ wr = w ∧ ∀ k, k < j → hi nones k < r) (fun i _ => 13 - (intOf i).toNat)
  case atStart => exact ⟨0, by omega, rfl, rfl, fun k hk => by omega⟩
  case round =>
    obtain ⟨j, hj, rfl, rfl, hb⟩ := hrel
    have HB := Lib.hid hb
    clear hb
    by_cases hlt : j < 12
    · obtain ⟨c0, c1⟩ := HT.out j hlt
      have hltz : (j : Int) < 12 := by omega
      by_cases hle : r ≤ hi nones j
      · have hres := Lib.hid (inT_at nones 0 r rises_nones j hlt HB.out hle)
        go_wp2_with fail
        go_ret
        exact ⟨ret_bool hres.out.symm, rfl⟩
      · go_wp2_with fail
        go_roundw
        case rel => exact ⟨j + 1, by omega, by go_num, by first | trivial | rfl, next_lt HB.out hle⟩
        case measure => simp [intOf]; omega
    · obtain rfl : j = 12 := by omega
      have hres := Lib.hid (inT_none nones r HB.out)
      go_wp2_with fail
      go_ret
      exact ⟨ret_bool hres.out.symm, rfl⟩

set_option maxRecDepth 100000 in
set_option maxHeartbeats 400000 in
theorem two_any (r : Int) (w : World) (hT : Tabs w) : Calls Tryd.prog 52 #[.int .i32 r] w fun e w' => e = .returned (.bool (inT twos r)) ∧ w = w' := by
  have HT := Lib.hid hT.2
  clear hT
  go_enter Tryd.func52, Tryd.ntmps52
  go_wp2_with fail
  go_loopw [4] (fun i wr => ∃ j : Nat, j ≤ 16 ∧ i = .int .i64 j ∧ wr = w ∧ ∀ k, k < j → hi twos k < r) (fun i _ => 17 - (intOf i).toNat)
  case atStart => exact ⟨0, by omega, rfl, rfl, fun k hk => by omega⟩
  case round =>
    obtain ⟨j, hj, rfl, rfl, hb⟩ := hrel
    have HB := Lib.hid hb
    clear hb
    by_cases hlt : j < 16
    · obtain ⟨c0, c1⟩ := HT.out j hlt
      have hltz : (j : Int) < 16 := by omega
      by_cases hle : r ≤ hi twos j
      · have hres := Lib.hid (inT_at twos 0 r rises_twos j hlt HB.out hle)
        go_wp2_with fail
        go_ret
        exact ⟨ret_bool hres.out.symm, rfl⟩
      · go_wp2_with fail
        go_roundw
        case rel => exact ⟨j + 1, by omega, by go_num, by first | trivial | rfl, next_lt HB.out hle⟩
        case measure => simp [intOf]; omega
    · obtain rfl : j = 16 := by omega
      have hres := Lib.hid (inT_none twos r HB.out)
      go_wp2_with fail
      go_ret
      exact ⟨ret_bool hres.out.symm, rfl⟩

set_option maxRecDepth 100000 in
set_option maxHeartbeats 400000 in
theorem width_any (r : Int) (w : World) (hT : Tabs w) : Calls Tryd.prog 34 #[.int .i32 r] w fun e w' => e = .returned (.int .i64 (wd r)) ∧ w = w' := by
  have HN := Lib.hid (none_any r w hT)
  have HW := Lib.hid (two_any r w hT)
  clear hT
  obtain ⟨W, hW⟩ : ∃ W, wd r = W := ⟨_, rfl⟩
  rw [hW]
  unfold wd at hW
  obtain ⟨b1, e1⟩ : ∃ b, vld r = b := ⟨_, rfl⟩
  obtain ⟨b2, e2⟩ : ∃ b, ctl r = b := ⟨_, rfl⟩
  obtain ⟨b3, e3⟩ : ∃ b, inT nones r = b := ⟨_, rfl⟩
  obtain ⟨b4, e4⟩ : ∃ b, inT twos r = b := ⟨_, rfl⟩
  have V1 := Lib.hid (valid_any r w)
  have V2 := Lib.hid (control_any r w)
  rw [e1, e2, e3, e4] at hW
  rw [e1] at V1
  rw [e2] at V2
  rw [e3] at HN
  rw [e4] at HW
  clear e1 e2 e3 e4
  cases b1 <;> cases b2 <;> cases b3 <;> cases b4
  all_goals
    simp at hW
    subst hW
    have V1' := V1.out
    have V2' := V2.out
    have V3' := HN.out
    have V4' := HW.out
    clear V1 V2 HN HW
    go_enter Tryd.func34, Tryd.ntmps34
    go_wp2_with (first
      | (go_at_call 49; refine V1'.mono ?_; rintro e w' ⟨rfl, rfl⟩)
      | (go_at_call 50; refine V2'.mono ?_; rintro e w' ⟨rfl, rfl⟩)
      | (go_at_call 51; refine V3'.mono ?_; rintro e w' ⟨rfl, rfl⟩)
      | (go_at_call 52; refine V4'.mono ?_; rintro e w' ⟨rfl, rfl⟩))
    go_ret
    exact ⟨rfl, rfl⟩
end Go.Proofs.YtkiglnfapoifiaaDoor
