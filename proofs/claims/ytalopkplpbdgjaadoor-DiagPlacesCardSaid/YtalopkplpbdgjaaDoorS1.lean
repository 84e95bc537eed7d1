/- The order of diags: cmp.Compare, cmp.Or, order. -/
import Derived.Test.YtalopkplpbdgjaaDoorX8
import Derived.Deep.RegionHeld3
namespace Go.Proofs.YtalopkplpbdgjaaDoor
open Go.RowKit

def cmpI (a b : Int) : Int := if a < b then -1 else if b < a then 1 else 0
/-- By line, then column, then kind. -/
def cmpD (x y : D) : Int :=
  if cmpI x.2.1 y.2.1 ≠ 0 then cmpI x.2.1 y.2.1 else if cmpI x.2.2 y.2.2 ≠ 0 then cmpI x.2.2 y.2.2 else cmpI x.1 y.1

set_option maxHeartbeats 400000 in
theorem nan_any (a : Int) (w : World) : Calls Tryd.prog 50 #[.int .i64 a] w fun e w' => e = .returned (.bool false) ∧ w = w' := by
  go_enter Tryd.func50, Tryd.ntmps50
  go_wp2
  go_ret
  exact ⟨by simp, rfl⟩

set_option maxHeartbeats 400000 in
theorem compare_any (a b : Int) (w : World) : Calls Tryd.prog 44 #[.int .i64 a, .int .i64 b] w fun e w' => e = .returned (.int .i64 (cmpI a b)) ∧ w = w' := by
  by_cases h1 : a < b
  · have e : cmpI a b = -1 := if_pos h1
    rw [e]
    clear e
    go_enter Tryd.func44, Tryd.ntmps44
    go_wp2_with (go_at_call 50; refine (nan_any _ _).mono ?_; rintro e w' ⟨rfl, rfl⟩)
    go_ret
    exact ⟨rfl, rfl⟩
  · by_cases h2 : b < a
    · have e : cmpI a b = 1 := by unfold cmpI; rw [if_neg h1, if_pos h2]
      rw [e]
      clear e
      go_enter Tryd.func44, Tryd.ntmps44
      go_wp2_with (go_at_call 50; refine (nan_any _ _).mono ?_; rintro e w' ⟨rfl, rfl⟩)
      go_ret
      exact ⟨rfl, rfl⟩
    · have e : cmpI a b = 0 := by unfold cmpI; rw [if_neg h1, if_neg h2]
      rw [e]
      clear e
      go_enter Tryd.func44, Tryd.ntmps44
      go_wp2_with (go_at_call 50; refine (nan_any _ _).mono ?_; rintro e w' ⟨rfl, rfl⟩)
      go_ret
      exact ⟨rfl, rfl⟩

/-- The first that is not 0. -/
def orZ : List Int → Int
  | [] => 0
  | a :: l => if a ≠ 0 then a else orZ l

set_option maxRecDepth 100000 in
set_option maxHeartbeats 1000000 in
theorem or_any (l : List Int) (g : Nat) (w : World) (hl : l.length ≤ 100) (hc : ∀ j z, l[j]? = some z → w.cell? ⟨g, j, none⟩ = some (.int .i64 z)) :
    Calls Tryd.prog 43 #[.slice (some ⟨g, 0, none⟩) l.length l.length] w fun e w' => e = .returned (.int .i64 (orZ l)) ∧ w = w' := by
  have HC := Lib.hid hc
  clear hc
  go_enter Tryd.func43, Tryd.ntmps43
  go_wp2_with fail
  go_loopw [8] (fun i wr => ∃ j : Nat, j ≤ l.length ∧ i = .int .i64 j ∧ orZ (l.drop j) = orZ l ∧ wr = w) (fun i _ => l.length - (intOf i).toNat)
  case atStart => exact ⟨0, by omega, rfl, rfl, rfl⟩
  case round =>
    obtain ⟨j, hj, rfl, ho, rfl⟩ := hrel
    by_cases hlt : j < l.length
    · obtain ⟨z, hz⟩ : ∃ z, l[j]? = some z := ⟨l[j], List.getElem?_eq_getElem hlt⟩
      have c0 := HC.out j z hz
      have hd : l.drop j = z :: l.drop (j + 1) := by
        rw [List.drop_eq_getElem_cons hlt]
        congr 1
        rw [List.getElem?_eq_getElem hlt] at hz
        exact Option.some.inj hz
      rw [hd] at ho
      have HO := Lib.hid ho
      clear ho hd hz
      have hi0 : (j : Int) < (l.length : Int) := by omega
      have hi1 : (0 : Int) ≤ (j : Int) := by omega
      by_cases hz0 : z = 0
      · subst hz0
        go_wp2_with fail
        go_roundw
        case rel => exact ⟨j + 1, by omega, by go_num, by simpa [orZ] using HO.out, by first | trivial | rfl⟩
        case measure => simp [intOf]; omega
      · have hzb : (z == 0) = false := by simpa using hz0
        have hres := Lib.hid (show z = orZ l by have := HO.out; simpa [orZ, hz0] using this)
        go_wp2_with fail
        go_ret
        exact ⟨by rw [← hres.out]; rfl, rfl⟩
    · obtain rfl : j = l.length := by omega
      have hres := Lib.hid (show orZ l = 0 by rw [← ho]; simp [orZ])
      clear ho
      go_wp2_with fail
      go_ret
      exact ⟨by rw [hres.out]; rfl, rfl⟩

set_option maxRecDepth 100000 in
set_option maxHeartbeats 1000000 in
theorem order_any (x y : D) (w : World) : Calls Tryd.prog 34 #[.agg #[.int .i64 x.1, .int .i64 x.2.1, .int .i64 x.2.2], .agg #[.int .i64 y.1, .int .i64 y.2.1, .int .i64 y.2.2]] w fun e w' => e = .returned (.int .i64 (cmpD x y)) ∧ Below w.heap.size w w' := by
  obtain ⟨k, l, c⟩ := x
  obtain ⟨k', l', c'⟩ := y
  simp only
  have hD : cmpD (k, l, c) (k', l', c') = orZ [cmpI l l', cmpI c c', cmpI k k'] := by
    simp only [cmpD, orZ]
    split
    · rfl
    · split
      · rfl
      · split
        · rfl
        · rename_i h; simpa using h
  rw [hD]
  clear hD
  go_enter Tryd.func34, Tryd.ntmps34
  go_wp2_with fail
  obtain ⟨W1, hW1⟩ : ∃ W1, (w.alloc (.cells #[.int .i64 k, .int .i64 l, .int .i64 c] 29)).alloc (.cells #[.int .i64 k', .int .i64 l', .int .i64 c'] 29) = W1 := ⟨_, rfl⟩
  have bW : Below w.heap.size w W1 := by rw [← hW1]; exact ((Below.refl _ w).alloc (Nat.le_refl _) _).alloc (by simp) _
  have d0 : W1.cell? ⟨w.heap.size, 0, none⟩ = some (.int .i64 k) := by rw [← hW1]; simp
  have d1 : W1.cell? ⟨w.heap.size, 1, none⟩ = some (.int .i64 l) := by rw [← hW1]; simp
  have d2 : W1.cell? ⟨w.heap.size, 2, none⟩ = some (.int .i64 c) := by rw [← hW1]; simp
  have e0 : W1.cell? ⟨w.heap.size + 1, 0, none⟩ = some (.int .i64 k') := by rw [← hW1]; simp
  have e1 : W1.cell? ⟨w.heap.size + 1, 1, none⟩ = some (.int .i64 l') := by rw [← hW1]; simp
  have e2 : W1.cell? ⟨w.heap.size + 1, 2, none⟩ = some (.int .i64 c') := by rw [← hW1]; simp
  rw [hW1]
  clear hW1
  have hor := (or_any [cmpI l l', cmpI c c', cmpI k k'] W1.heap.size ((W1.alloc (.cells #[.int .i64 (cmpI l l'), .int .i64 (cmpI c c'), .int .i64 (cmpI k k')] 3)).drew) (by simp) (fun j z hj => by
    match j, hj with
    | 0, hj => simp at hj; subst hj; simp
    | 1, hj => simp at hj; subst hj; simp
    | 2, hj => simp at hj; subst hj; simp
    | j + 3, hj => simp at hj))
  simp only [List.length_cons, List.length_nil, Nat.reduceAdd] at hor
  have HOR := Lib.hid hor
  clear hor
  have HBW := Lib.hid bW
  have hbs := bW.size
  clear bW
  go_region_held3 (fun W' => W'.cell? ⟨w.heap.size, 0, none⟩ = some (.int .i64 k) ∧ W'.cell? ⟨w.heap.size, 1, none⟩ = some (.int .i64 l) ∧ W'.cell? ⟨w.heap.size, 2, none⟩ = some (.int .i64 c) ∧ W'.cell? ⟨w.heap.size + 1, 0, none⟩ = some (.int .i64 k') ∧ W'.cell? ⟨w.heap.size + 1, 1, none⟩ = some (.int .i64 l') ∧ W'.cell? ⟨w.heap.size + 1, 2, none⟩ = some (.int .i64 c'))
    (first | assumption | go_keep)
    ((first
      | (go_at_call 44; (with_reducible refine (compare_any _ _ _).mono ?_); rintro e w' ⟨rfl, rfl⟩)
      | (go_at_call 43; (with_reducible refine HOR.out.mono ?_); rintro e w' ⟨rfl, rfl⟩)))
  go_wp2_with fail
  go_ret
  exact ⟨rfl, (HBW.out.alloc hbs _).drew⟩
end Go.Proofs.YtalopkplpbdgjaaDoor
