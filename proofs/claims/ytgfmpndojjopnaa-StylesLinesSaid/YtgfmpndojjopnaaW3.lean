/- Slices of integers as lists; Sum; the document's own within, Width, Sum. -/
import Derived.Test.YtgfmpndojjopnaaW2
namespace Go.Proofs.Ytgfmpndojjopnaa
open Go.RowKit

/-- A slice of integers of one kind, that reads as l. -/
def Sl (k : IntKind) (w : World) (v : Value) (l : List Int) : Prop :=
  ∃ a cap, v = .slice a l.length cap ∧ l.length ≤ cap ∧ ∀ j z, l[j]? = some z → ∃ g off, a = some ⟨g, off, none⟩ ∧ w.cell? ⟨g, off + j, none⟩ = some (.int k z)
theorem Sl.below {k : IntKind} {w w' : World} {v : Value} {l : List Int} (h : Sl k w v l) (hb : Below w.heap.size w w') : Sl k w' v l := by
  obtain ⟨a, cap, rfl, hc, hr⟩ := h
  refine ⟨a, cap, rfl, hc, fun j z hj => ?_⟩
  obtain ⟨g, off, rfl, h0⟩ := hr j z hj
  have hlt := World.block_lt_of_cell? w _ h0
  exact ⟨g, off, rfl, (hb.cell hlt).trans h0⟩

/-- All widths, together. -/
def sm (l : List Int) : Int := (l.map wd).sum
theorem sm_take_succ {l : List Int} {j : Nat} {z : Int} (h : l[j]? = some z) : sm (l.take (j + 1)) = sm (l.take j) + wd z := by
  simp [sm, List.take_add_one, h]
theorem sm_bd : ∀ l : List Int, 0 ≤ sm l ∧ sm l ≤ 2 * l.length
  | [] => by simp [sm]
  | z :: l => by
    have h := sm_bd l
    have hz := wd_bd z
    have : sm (z :: l) = wd z + sm l := by simp [sm]
    rw [this]
    simp only [List.length_cons]
    omega
theorem sm_app (a b : List Int) : sm (a ++ b) = sm a + sm b := by simp [sm]

theorem inT_some {l : List (Int × Int)} {r : Int} {j : Nat} (hj : j < l.length) (h : lo l j ≤ r ∧ r ≤ hi l j) : inT l r = true := by
  unfold inT
  rw [List.any_eq_true]
  refine ⟨l[j], List.getElem_mem hj, ?_⟩
  unfold lo hi at h
  simp only [List.getD, List.getElem?_eq_getElem hj, Option.getD_some] at h
  exact decide_eq_true h
theorem inT_no {l : List (Int × Int)} {r : Int} (h : ∀ j, j < l.length → ¬ (lo l j ≤ r ∧ r ≤ hi l j)) : inT l r = false := by
  unfold inT
  rw [List.any_eq_false]
  intro p hp
  obtain ⟨j, hj, rfl⟩ := List.getElem_of_mem hp
  have := h j hj
  unfold lo hi at this
  simp only [List.getD, List.getElem?_eq_getElem hj, Option.getD_some] at this
  simpa using this
/-- Ranges as one row of numbers. -/
def flat (T : List (Int × Int)) : List Int := (T.map fun p => [p.1, p.2]).flatten
theorem flat_at : ∀ (T : List (Int × Int)) (j : Nat), j < T.length → (flat T)[j * 2]? = some (lo T j) ∧ (flat T)[j * 2 + 1]? = some (hi T j)
  | [], _, h => by simp at h
  | p :: T, 0, _ => by simp [flat, lo, hi]
  | p :: T, j + 1, h => by
    have := flat_at T j (by simpa using h)
    have e : flat (p :: T) = p.1 :: p.2 :: flat T := by simp [flat]
    rw [e]
    have e1 : (j + 1) * 2 = j * 2 + 1 + 1 := by omega
    rw [e1]
    simpa [lo, hi] using this
theorem flat_length (T : List (Int × Int)) : (flat T).length = 2 * T.length := by
  induction T with
  | nil => rfl
  | cons p T ih =>
    have e : flat (p :: T) = p.1 :: p.2 :: flat T := by simp [flat]
    rw [e]; simp [ih]; omega

theorem next_no {P : Nat → Prop} {j : Nat} (h : ∀ k, k < j → ¬ P k) (hj : ¬ P j) : ∀ k, k < j + 1 → ¬ P k := by
  intro k hk
  by_cases hkj : k < j
  · exact h k hkj
  · obtain rfl : k = j := by omega
    exact hj

end Go.Proofs.Ytgfmpndojjopnaa
