/- Plain maths of layer 2: what may be, what is a control, how wide a rune is. -/
import Derived.WalkKit
namespace Go.Proofs.Ytgfmpndojjopnaa

def vld (r : Int) : Bool := decide ((0 ≤ r ∧ r < 55296) ∨ (57343 < r ∧ r ≤ 1114111))
def ctl (r : Int) : Bool := decide ((0 ≤ r ∧ r < 32) ∨ (127 ≤ r ∧ r ≤ 159) ∨ r = 8232 ∨ r = 8233)
def sf (r : Int) : Int := if vld r = true ∧ ctl r = false then r else 65533
def nones : List (Int × Int) := [(768, 879), (1155, 1161), (1425, 1469), (1552, 1562), (1611, 1631), (6832, 6911), (7616, 7679), (8203, 8207), (8400, 8447), (65024, 65039), (65056, 65071), (917760, 917999)]
def twos : List (Int × Int) := [(4352, 4447), (9001, 9002), (11904, 12350), (12353, 13311), (13312, 19903), (19968, 42191), (43360, 43391), (44032, 55203), (63744, 64255), (65072, 65135), (65280, 65376), (65504, 65510), (127744, 128591), (129280, 129535), (131072, 196605), (196608, 262141)]
def inT (l : List (Int × Int)) (r : Int) : Bool := l.any fun p => decide (p.1 ≤ r ∧ r ≤ p.2)
def wd (r : Int) : Int := if vld r = false ∨ ctl r = true ∨ inT nones r = true then 0 else if inT twos r = true then 2 else 1
def lo (l : List (Int × Int)) (i : Nat) : Int := (l.getD i (0, 0)).1
def hi (l : List (Int × Int)) (i : Nat) : Int := (l.getD i (0, 0)).2

/-- Ranges that rise. -/
def rises : List (Int × Int) → Int → Bool
  | [], _ => true
  | p :: l, b => decide (b < p.1) && decide (p.1 ≤ p.2) && rises l p.2
theorem rises_above : ∀ (l : List (Int × Int)) (b r : Int), rises l b = true → r ≤ b → inT l r = false
  | [], _, _, _, _ => rfl
  | p :: l, b, r, h, hr => by
    simp only [rises, Bool.and_eq_true, decide_eq_true_eq] at h
    have := rises_above l p.2 r h.2 (by omega)
    simp only [inT, List.any_cons] at this ⊢
    rw [this]
    simp
    omega
theorem inT_at : ∀ (l : List (Int × Int)) (b r : Int), rises l b = true → ∀ i, i < l.length → (∀ j, j < i → hi l j < r) → r ≤ hi l i → inT l r = decide (lo l i ≤ r)
  | [], _, _, _, i, h, _, _ => by simp at h
  | p :: l, b, r, h, 0, _, _, he => by
    simp only [rises, Bool.and_eq_true, decide_eq_true_eq] at h
    have he' : r ≤ p.2 := he
    have := rises_above l p.2 r h.2 he'
    simp only [inT, List.any_cons] at this ⊢
    rw [this]
    simp [lo, he']
  | p :: l, b, r, h, i + 1, hil, hb, he => by
    simp only [rises, Bool.and_eq_true, decide_eq_true_eq] at h
    have h0 : p.2 < r := hb 0 (by omega)
    have := inT_at l p.2 r h.2 i (by simpa using hil) (fun j hj => hb (j + 1) (by omega)) he
    have e : inT (p :: l) r = inT l r := by
      simp only [inT, List.any_cons]
      have : decide (p.1 ≤ r ∧ r ≤ p.2) = false := by simp; omega
      rw [this]; rfl
    rw [e, this]
    rfl
theorem inT_none : ∀ (l : List (Int × Int)) (r : Int), (∀ j, j < l.length → hi l j < r) → inT l r = false
  | [], _, _ => rfl
  | p :: l, r, h => by
    have h0 : p.2 < r := h 0 (by simp)
    have := inT_none l r (fun j hj => h (j + 1) (by simpa using hj))
    simp only [inT, List.any_cons] at this ⊢
    rw [this]
    simp
    omega
theorem rises_nones : rises nones 0 = true := by decide
theorem rises_twos : rises twos 0 = true := by decide

theorem inT_app (a b : List (Int × Int)) (r : Int) : inT (a ++ b) r = (inT a r || inT b r) := by simp [inT]

/-- What may be written may be: no control, so again. -/
theorem vld_sf (r : Int) : vld (sf r) = true := by
  unfold sf; split
  · rename_i h; exact h.1
  · decide
theorem ctl_sf (r : Int) : ctl (sf r) = false := by
  unfold sf; split
  · rename_i h; exact h.2
  · decide
theorem sf_sf (r : Int) : sf (sf r) = sf r := by
  have h : sf (sf r) = if vld (sf r) = true ∧ ctl (sf r) = false then sf r else 65533 := rfl
  rw [h, if_pos ⟨vld_sf r, ctl_sf r⟩]
theorem sf_ne {r : Int} (h : sf r ≠ r) : sf r = 65533 ∧ wd r = 0 := by
  unfold sf at h ⊢
  split at h
  · exact absurd rfl h
  · rename_i hh
    rw [if_neg hh]
    refine ⟨rfl, ?_⟩
    unfold wd
    rw [if_pos]
    cases hv : vld r with
    | false => exact .inl rfl
    | true => cases hc : ctl r with
      | true => exact .inr (.inl rfl)
      | false => exact absurd ⟨hv, hc⟩ hh
theorem wd_odd : wd 65533 = 1 := by decide
theorem wd_bd (r : Int) : 0 ≤ wd r ∧ wd r ≤ 2 := by
  unfold wd
  split <;> (try split) <;> omega
theorem sf_bd (r : Int) (h1 : -2147483648 ≤ r) (h2 : r ≤ 2147483647) : -2147483648 ≤ sf r ∧ sf r ≤ 2147483647 := by
  unfold sf; split <;> omega
end Go.Proofs.Ytgfmpndojjopnaa
