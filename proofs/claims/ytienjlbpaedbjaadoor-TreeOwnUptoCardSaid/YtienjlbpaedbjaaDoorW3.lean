/- Plain maths of layer 2: what may be, what is a control, how wide a rune is. Contracts of what needs no table: Valid, Control, Safe, each in the program and in the document's answer. The two tables of Width as the world holds them; hasNone, hasTwo, Width, Sum. Slices of integers as lists; Sum; the document's own within, Width, Sum. -/
import Derived.WalkKit
import Derived.Test.YtienjlbpaedbjaaDoorProg
import Derived.WalkSpells
import Derived.WalkLawsBesides
import Derived.Lib.Hide
import Derived.Below
namespace Go.Proofs.YtienjlbpaedbjaaDoor

def vld (r : Int) : Bool := decide ((0 ≤ r ∧ r < 55296) ∨ (57343 < r ∧ r ≤ 1114111))
def ctl (r : Int) : Bool := decide ((0 ≤ r ∧ r < 32) ∨ (127 ≤ r ∧ r ≤ 159) ∨ r = 8232 ∨ r = 8233)
def sf (r : Int) : Int := if vld r = true ∧ ctl r = false then r else 65533
def nones : List (Int × Int) := [(768, 879), (1155, 1161), (1425, 1469), (1552, 1562), (1611, 1631), (6832, 6911), (7616, 7679), (8203, 8207), (8400, 8447), (65024, 65039), (65056, 65071), (917760, 917999)]
def twos : List (Int × Int) := [(4352, 4447), (9001, 9002), (11904, 12350), (12353, 13311), (13312, 19903), (19968, 42191), (43360, 43391), (44032, 55203), (63744, 64255), (65072, 65135), (65280, 65376), (65504, 65510), (127744, 128591), (129280, 129535), (131072, 196605), (196608, 262141)]
def inT (l : List (Int × Int)) (r : Int) : Bool := l.any fun p => decide (p.1 ≤ r ∧ r ≤ p.2)
def wd (r : Int) : Int := if vld r = false ∨ ctl r = true ∨ inT nones r = true then 0 else if inT twos r = true then 2 else 1
def lo (l : List (Int × Int)) (i : Nat) : Int := (l.getD i (0, 0)).1
def hi (l : List (Int × Int)) (i : Nat) : Int := (l.getD i (0, 0)).2

/-- Ranges that rise. -/
def rises : List (Int × Int) → Int → Bool
  | [], _ => true
  | p :: l, b => decide (b < p.1) && decide (p.1 ≤ p.2) && rises l p.2
theorem rises_above : ∀ (l : List (Int × Int)) (b r : Int), rises l b = true → r ≤ b → inT l r = false
  | [], _, _, _, _ => rfl
  | p :: l, b, r, h, hr => by
    simp only [rises, Bool.and_eq_true, decide_eq_true_eq] at h
    have := rises_above l p.2 r h.2 (by omega)
    simp only [inT, List.any_cons] at this ⊢
    rw [this]
    simp
    omega
theorem inT_at : ∀ (l : List (Int × Int)) (b r : Int), rises l b = true → ∀ i, i < l.length → (∀ j, j < i → hi l j < r) → r ≤ hi l i → inT l r = decide (lo l i ≤ r)
  | [], _, _, _, i, h, _, _ => by simp at h
  | p :: l, b, r, h, 0, _, _, he => by
    simp only [rises, Bool.and_eq_true, decide_eq_true_eq] at h
    have he' : r ≤ p.2 := he
    have := rises_above l p.2 r h.2 he'
    simp only [inT, List.any_cons] at this ⊢
    rw [this]
    simp [lo, he']
  | p :: l, b, r, h, i + 1, hil, hb, he => by
    simp only [rises, Bool.and_eq_true, decide_eq_true_eq] at h
    have h0 : p.2 < r := hb 0 (by omega)
    have := inT_at l p.2 r h.2 i (by simpa using hil) (fun j hj => hb (j + 1) (by omega)) he
    have e : inT (p :: l) r = inT l r := by
      simp only [inT, List.any_cons]
      have : decide (p.1 ≤ r ∧ r ≤ p.2) = false := by simp; omega
      rw [this]; rfl
    rw [e, this]
    rfl
theorem inT_none : ∀ (l : List (Int × Int)) (r : Int), (∀ j, j < l.length → hi l j < r) → inT l r = false
  | [], _, _ => rfl
  | p :: l, r, h => by
    have h0 : p.2 < r := h 0 (by simp)
    have := inT_none l r (fun j hj => h (j + 1) (by simpa using hj))
    simp only [inT, List.any_cons] at this ⊢
    rw [this]
    simp
    omega
theorem rises_nones : rises nones 0 = true := by decide
theorem rises_twos : rises twos 0 = true := by decide

theorem inT_app (a b : List (Int × Int)) (r : Int) : inT (a ++ b) r = (inT a r || inT b r) := by simp [inT]

/-- What may be written may be: no control, so again. -/
theorem vld_sf (r : Int) : vld (sf r) = true := by
  unfold sf; split
  · rename_i h; exact h.1
  · decide
theorem ctl_sf (r : Int) : ctl (sf r) = false := by
  unfold sf; split
  · rename_i h; exact h.2
  · decide
theorem sf_sf (r : Int) : sf (sf r) = sf r := by
  have h : sf (sf r) = if vld (sf r) = true ∧ ctl (sf r) = false then sf r else 65533 := rfl
  rw [h, if_pos ⟨vld_sf r, ctl_sf r⟩]
theorem sf_ne {r : Int} (h : sf r ≠ r) : sf r = 65533 ∧ wd r = 0 := by
  unfold sf at h ⊢
  split at h
  · exact absurd rfl h
  · rename_i hh
    rw [if_neg hh]
    refine ⟨rfl, ?_⟩
    unfold wd
    rw [if_pos]
    cases hv : vld r with
    | false => exact .inl rfl
    | true => cases hc : ctl r with
      | true => exact .inr (.inl rfl)
      | false => exact absurd ⟨hv, hc⟩ hh
theorem wd_odd : wd 65533 = 1 := by decide
theorem wd_bd (r : Int) : 0 ≤ wd r ∧ wd r ≤ 2 := by
  unfold wd
  split <;> (try split) <;> omega
theorem sf_bd (r : Int) (h1 : -2147483648 ≤ r) (h2 : r ≤ 2147483647) : -2147483648 ≤ sf r ∧ sf r ≤ 2147483647 := by
  unfold sf; split <;> omega
end Go.Proofs.YtienjlbpaedbjaaDoor
namespace Go.Proofs.YtienjlbpaedbjaaDoor
open Go.RowKit

theorem ret_bool {a b : Bool} (h : a = b) : Ending.returned (.bool a) = .returned (.bool b) := by rw [h]
theorem ret_int {k : IntKind} {a b : Int} (h : a = b) : Ending.returned (.int k a) = .returned (.int k b) := by rw [h]

/-- Two ways to say a test on numbers. -/
theorem bool_of_iff {a b : Bool} (h : a = true ↔ b = true) : a = b := by cases a <;> cases b <;> simp at h ⊢

end Go.Proofs.YtienjlbpaedbjaaDoor
namespace Go.Proofs.YtienjlbpaedbjaaDoor
open Go.RowKit

/-- The number that a value of an integer holds. -/
def intOf : Value → Int
  | .int _ n => n
  | _ => 0
@[simp] theorem intOf_int (k : IntKind) (n : Int) : intOf (.int k n) = n := rfl

theorem next_lt {f : Nat → Int} {r : Int} {j : Nat} (h : ∀ k, k < j → f k < r) (hj : ¬ r ≤ f j) : ∀ k, k < j + 1 → f k < r := by
  intro k hk
  by_cases hkj : k < j
  · exact h k hkj
  · obtain rfl : k = j := by omega
    omega

end Go.Proofs.YtienjlbpaedbjaaDoor
namespace Go.Proofs.YtienjlbpaedbjaaDoor
open Go.RowKit

/-- A slice of integers of one kind, that reads as l. -/
def Sl (k : IntKind) (w : World) (v : Value) (l : List Int) : Prop :=
  ∃ a cap, v = .slice a l.length cap ∧ l.length ≤ cap ∧ ∀ j z, l[j]? = some z → ∃ g off, a = some ⟨g, off, none⟩ ∧ w.cell? ⟨g, off + j, none⟩ = some (.int k z)
theorem Sl.below {k : IntKind} {w w' : World} {v : Value} {l : List Int} (h : Sl k w v l) (hb : Below w.heap.size w w') : Sl k w' v l := by
  obtain ⟨a, cap, rfl, hc, hr⟩ := h
  refine ⟨a, cap, rfl, hc, fun j z hj => ?_⟩
  obtain ⟨g, off, rfl, h0⟩ := hr j z hj
  have hlt := World.block_lt_of_cell? w _ h0
  exact ⟨g, off, rfl, (hb.cell hlt).trans h0⟩

/-- All widths, together. -/
def sm (l : List Int) : Int := (l.map wd).sum
theorem sm_take_succ {l : List Int} {j : Nat} {z : Int} (h : l[j]? = some z) : sm (l.take (j + 1)) = sm (l.take j) + wd z := by
  simp [sm, List.take_add_one, h]
theorem sm_bd : ∀ l : List Int, 0 ≤ sm l ∧ sm l ≤ 2 * l.length
  | [] => by simp [sm]
  | z :: l => by
    have h := sm_bd l
    have hz := wd_bd z
    have : sm (z :: l) = wd z + sm l := by simp [sm]
    rw [this]
    simp only [List.length_cons]
    omega
theorem sm_app (a b : List Int) : sm (a ++ b) = sm a + sm b := by simp [sm]

theorem inT_some {l : List (Int × Int)} {r : Int} {j : Nat} (hj : j < l.length) (h : lo l j ≤ r ∧ r ≤ hi l j) : inT l r = true := by
  unfold inT
  rw [List.any_eq_true]
  refine ⟨l[j], List.getElem_mem hj, ?_⟩
  unfold lo hi at h
  simp only [List.getD, List.getElem?_eq_getElem hj, Option.getD_some] at h
  exact decide_eq_true h
theorem inT_no {l : List (Int × Int)} {r : Int} (h : ∀ j, j < l.length → ¬ (lo l j ≤ r ∧ r ≤ hi l j)) : inT l r = false := by
  unfold inT
  rw [List.any_eq_false]
  intro p hp
  obtain ⟨j, hj, rfl⟩ := List.getElem_of_mem hp
  have := h j hj
  unfold lo hi at this
  simp only [List.getD, List.getElem?_eq_getElem hj, Option.getD_some] at this
  simpa using this
/-- Ranges as one row of numbers. -/
def flat (T : List (Int × Int)) : List Int := (T.map fun p => [p.1, p.2]).flatten
theorem flat_at : ∀ (T : List (Int × Int)) (j : Nat), j < T.length → (flat T)[j * 2]? = some (lo T j) ∧ (flat T)[j * 2 + 1]? = some (hi T j)
  | [], _, h => by simp at h
  | p :: T, 0, _ => by simp [flat, lo, hi]
  | p :: T, j + 1, h => by
    have := flat_at T j (by simpa using h)
    have e : flat (p :: T) = p.1 :: p.2 :: flat T := by simp [flat]
    rw [e]
    have e1 : (j + 1) * 2 = j * 2 + 1 + 1 := by omega
    rw [e1]
    simpa [lo, hi] using this
theorem flat_length (T : List (Int × Int)) : (flat T).length = 2 * T.length := by
  induction T with
  | nil => rfl
  | cons p T ih =>
    have e : flat (p :: T) = p.1 :: p.2 :: flat T := by simp [flat]
    rw [e]; simp [ih]; omega

theorem next_no {P : Nat → Prop} {j : Nat} (h : ∀ k, k < j → ¬ P k) (hj : ¬ P j) : ∀ k, k < j + 1 → ¬ P k := by
  intro k hk
  by_cases hkj : k < j
  · exact h k hkj
  · obtain rfl : k = j := by omega
    exact hj

end Go.Proofs.YtienjlbpaedbjaaDoor
