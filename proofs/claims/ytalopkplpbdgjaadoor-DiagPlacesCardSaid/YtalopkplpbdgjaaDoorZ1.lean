/- What DiagMakes makes, said plainly; contracts of at (both), of the document's Clip and Add. -/
import Derived.Test.YtalopkplpbdgjaaDoorL3
namespace Go.Proofs.YtalopkplpbdgjaaDoor
open Go.RowKit Go.Shelf Go.Extern.Stop Go.Stop Go.Extern

/-- What is to be made: kind, a, b, c. -/
abbrev Do4 := Int × Int × Int × Int
/-- The k-th of l, or z. -/
def atZ {α : Type} (z : α) (l : List α) (k : Int) : α := if k < 0 then z else l.getD k.toNat z
def stepD (out : List (List D)) (d : Do4) : List D :=
  if d.1 = 1 then told d.2.1 d.2.2.1 d.2.2.2
  else if d.1 = 2 then (atZ [] out d.2.1).map (mv d.2.2.1 d.2.2.2)
  else atZ [] out d.2.1 ++ atZ [] out d.2.2.1
def genD : List (List D) → List Do4 → List (List D)
  | out, [] => out
  | out, d :: r => genD (out ++ [stepD out d]) r

/-- A slice value of cells of one. -/
def Cells1 (W : World) (u : Value) (vs : List Value) : Prop :=
  ∃ a cap, u = .slice a vs.length cap ∧ ∀ j v, vs[j]? = some v → ∃ g off, a = some ⟨g, off, none⟩ ∧ W.cell? ⟨g, off + j, none⟩ = some v
theorem Cells1.of_owns {W : World} {base : Nat} {e : TypeId} {u : Value} {vs : List Value} (h : W.ownsRow base e 1 u vs.length vs) : Cells1 W u vs := by
  rcases h.2 with ⟨rfl, h0⟩ | ⟨g, cap, cur, rfl, _⟩
  · refine ⟨none, 0, by rw [h0], fun j d hj => ?_⟩
    rw [List.eq_nil_of_length_eq_zero h0] at hj
    simp at hj
  · refine ⟨_, cap, rfl, fun j d hj => ⟨g, 0, rfl, ?_⟩⟩
    have hjl := (List.getElem?_eq_some_iff.1 hj).1
    rw [Nat.zero_add, h.cellAt _ (by omega)]
    exact hj

set_option maxRecDepth 100000 in
set_option maxHeartbeats 1000000 in
theorem at_any (u : Value) (vs : List Value) (k : Int) (w : World) (h : Cells1 w u vs) :
    Calls Tryd.prog 25 #[u, .int .i64 k] w fun e w' => e = .returned (atZ .nilIface vs k) ∧ w' = w := by
  obtain ⟨a, cap, rfl, hc⟩ := h
  have HC := Lib.hid hc
  clear hc
  by_cases h1 : k < 0
  · go_enter Tryd.func25, Tryd.ntmps25
    go_wp2
    go_ret
    exact ⟨by simp [atZ, h1], rfl⟩
  · by_cases h2 : (vs.length : Int) ≤ k
    · go_enter Tryd.func25, Tryd.ntmps25
      go_wp2
      go_ret
      refine ⟨?_, rfl⟩
      have : vs.length ≤ k.toNat := by omega
      simp [atZ, List.getElem?_eq_none this]
    · obtain ⟨j, rfl⟩ : ∃ j : Nat, k = j := ⟨k.toNat, by omega⟩
      have hj : j < vs.length := by omega
      obtain ⟨g, off, rfl, hcell⟩ := HC.out j vs[j] (List.getElem?_eq_getElem hj)
      have h1' : (0 : Int) ≤ (j : Int) := by omega
      have h2' : (j : Int) < (vs.length : Int) := by omega
      generalize hv : vs[j] = v at hcell
      have hz : atZ .nilIface vs (j : Int) = v := by simp only [atZ, if_neg h1, Int.toNat_natCast, List.getD_eq_getElem?_getD, List.getElem?_eq_getElem hj, hv, Option.getD_some]
      rw [hz]
      clear hz hv
      go_enter Tryd.func25, Tryd.ntmps25
      go_wp2
      go_ret
      exact ⟨rfl, rfl⟩

set_option maxRecDepth 100000 in
set_option maxHeartbeats 1000000 in
theorem refat_any (u : Value) (vs : List Value) (k : Int) (w : World) (h : Cells1 w u vs) :
    Calls Tryd.prog 26 #[u, .int .i64 k] w fun e w' => e = .returned (atZ (.slice none 0 0) vs k) ∧ w' = w := by
  obtain ⟨a, cap, rfl, hc⟩ := h
  have HC := Lib.hid hc
  clear hc
  by_cases h1 : k < 0
  · go_enter Tryd.func26, Tryd.ntmps26
    go_wp2
    go_ret
    exact ⟨by simp [atZ, h1], rfl⟩
  · by_cases h2 : (vs.length : Int) ≤ k
    · go_enter Tryd.func26, Tryd.ntmps26
      go_wp2
      go_ret
      refine ⟨?_, rfl⟩
      have : vs.length ≤ k.toNat := by omega
      simp [atZ, List.getElem?_eq_none this]
    · obtain ⟨j, rfl⟩ : ∃ j : Nat, k = j := ⟨k.toNat, by omega⟩
      have hj : j < vs.length := by omega
      obtain ⟨g, off, rfl, hcell⟩ := HC.out j vs[j] (List.getElem?_eq_getElem hj)
      have h1' : (0 : Int) ≤ (j : Int) := by omega
      have h2' : (j : Int) < (vs.length : Int) := by omega
      generalize hv : vs[j] = v at hcell
      have hz : atZ (.slice none 0 0) vs (j : Int) = v := by simp only [atZ, if_neg h1, Int.toNat_natCast, List.getD_eq_getElem?_getD, List.getElem?_eq_getElem hj, hv, Option.getD_some]
      rw [hz]
      clear hz hv
      go_enter Tryd.func26, Tryd.ntmps26
      go_wp2
      go_ret
      exact ⟨rfl, rfl⟩

theorem refclip_any (n : Int) (w : World) : Calls Tryd.prog 20 #[.int .i64 n] w fun e w' => e = .returned (.int .i64 (clip n)) ∧ w' = w := by
  go_enter Tryd.func20, Tryd.ntmps20
  go_wp2
  all_goals
    go_ret
    exact ⟨congrArg (fun z => Ending.returned (Value.int .i64 z)) (by unfold clip; omega), rfl⟩
theorem refadd_any (a b : Int) (w : World) (ha : 0 ≤ a ∧ a ≤ 1099511627775) : Calls Tryd.prog 27 #[.int .i64 a, .int .i64 b] w fun e w' => e = .returned (.int .i64 (clip (a + short b))) ∧ w' = w := by
  obtain ⟨ha0, ha1⟩ := ha
  go_enter Tryd.func27, Tryd.ntmps27
  go_wp2_with fail
  all_goals
    refine (refclip_any _ w).mono ?_
    rintro e w' ⟨rfl, rfl⟩
    go_wp2
    go_ret
    exact ⟨congrArg (fun z => Ending.returned (Value.int .i64 z)) (by unfold clip short; omega), rfl⟩
end Go.Proofs.YtalopkplpbdgjaaDoor
