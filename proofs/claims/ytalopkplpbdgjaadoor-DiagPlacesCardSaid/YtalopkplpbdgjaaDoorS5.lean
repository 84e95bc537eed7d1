/- rotateCmpFunc lets two neighbouring parts change places. -/
import Derived.Test.YtalopkplpbdgjaaDoorS4
namespace Go.Proofs.YtalopkplpbdgjaaDoor
open Go.RowKit

theorem swps_perm (ds : List D) (a b : Nat) : ∀ m, a + m ≤ ds.length → b + m ≤ ds.length → (swps ds a b m).Perm ds
  | 0, _, _ => List.Perm.refl _
  | m + 1, ha, hb => by
    have ih := swps_perm ds a b m (by omega) (by omega)
    have hl := swps_length ds a b m
    exact (swp_perm _ (by omega) (by omega)).trans ih
theorem at_swps (ds : List D) (a b : Nat) : ∀ m, a + m ≤ b → b + m ≤ ds.length → ∀ r, at' (swps ds a b m) r = if a ≤ r ∧ r < a + m then at' ds (r + b - a) else if b ≤ r ∧ r < b + m then at' ds (r + a - b) else at' ds r
  | 0, _, _, r => by
    rw [if_neg (by omega), if_neg (by omega)]
    rfl
  | m + 1, ha, hb, r => by
    have ih := at_swps ds a b m (by omega) (by omega)
    have hl := swps_length ds a b m
    rw [swps, at_swp _ (by omega) (by omega), ih, ih, ih]
    by_cases h1 : r = b + m
    · subst h1
      rw [if_pos rfl, if_neg (by omega), if_neg (by omega), if_neg (by omega), if_pos (by omega)]
      congr 1; omega
    · rw [if_neg h1]
      by_cases h2 : r = a + m
      · subst h2
        rw [if_pos rfl, if_neg (by omega), if_neg (by omega), if_pos (by omega)]
        congr 1; omega
      · rw [if_neg h2]
        by_cases h3 : a ≤ r ∧ r < a + m
        · rw [if_pos h3, if_pos (by omega)]
        · rw [if_neg h3]
          by_cases h4 : b ≤ r ∧ r < b + m
          · rw [if_pos h4, if_neg (by omega), if_pos (by omega)]
          · rw [if_neg h4, if_neg (by omega), if_neg (by omega)]

/-- What a rotate is under way to: T is the aim; from m - i to m + j is left. -/
structure Ro (T : Nat → D) (es : List D) (a m b i j : Nat) : Prop where
  fin : ∀ p, (a ≤ p ∧ p < m - i) ∨ (m + j ≤ p ∧ p < b) → at' es p = T p
  lo : ∀ p, m - i ≤ p → p < m - i + j → at' es (p + i) = T p
  hi : ∀ p, m - i + j ≤ p → p < m + j → at' es (p - j) = T p

theorem Ro.gt {T : Nat → D} {es : List D} {a m b i j : Nat} (h : Ro T es a m b i j) (hm : a + i ≤ m) (hb : m + j ≤ b) (hj : 0 < j) (hij : j < i) (hl : b ≤ es.length) : Ro T (swps es (m - i) m j) a m b (i - j) j := by
  have e := at_swps es (m - i) m j (by omega) (by omega)
  refine ⟨fun p hp => ?_, fun p h1 h2 => ?_, fun p h1 h2 => ?_⟩
  · rw [e]
    by_cases h1 : m - i ≤ p ∧ p < m - i + j
    · rw [if_pos h1, ← h.lo p h1.1 h1.2]
      congr 1; omega
    · rw [if_neg h1, if_neg (by omega)]
      exact h.fin p (by omega)
  · rw [e, if_neg (by omega), if_pos (by omega), ← h.hi p (by omega) (by omega)]
    congr 1; omega
  · rw [e, if_neg (by omega), if_neg (by omega)]
    exact h.hi p (by omega) h2
theorem Ro.lt {T : Nat → D} {es : List D} {a m b i j : Nat} (h : Ro T es a m b i j) (hm : a + i ≤ m) (hb : m + j ≤ b) (hi : 0 < i) (hij : i < j) (hl : b ≤ es.length) : Ro T (swps es (m - i) (m + j - i) i) a m b i (j - i) := by
  have e := at_swps es (m - i) (m + j - i) i (by omega) (by omega)
  refine ⟨fun p hp => ?_, fun p h1 h2 => ?_, fun p h1 h2 => ?_⟩
  · rw [e]
    by_cases h1 : m + j - i ≤ p ∧ p < m + j - i + i
    · rw [if_neg (by omega), if_pos h1, ← h.hi p (by omega) (by omega)]
      congr 1; omega
    · rw [if_neg (by omega), if_neg h1]
      exact h.fin p (by omega)
  · rw [e, if_neg (by omega), if_neg (by omega)]
    exact h.lo p h1 (by omega)
  · rw [e, if_pos (by omega), ← h.lo p (by omega) (by omega)]
    congr 1; omega
theorem Ro.eq {T : Nat → D} {es : List D} {a m b i : Nat} (h : Ro T es a m b i i) (hm : a + i ≤ m) (hb : m + i ≤ b) (hl : b ≤ es.length) : ∀ p, a ≤ p → p < b → at' (swps es (m - i) m i) p = T p := by
  intro p h1 h2
  rw [at_swps es (m - i) m i (by omega) (by omega)]
  by_cases h3 : m - i ≤ p ∧ p < m - i + i
  · rw [if_pos h3, ← h.lo p h3.1 h3.2]
    congr 1; omega
  · rw [if_neg h3]
    by_cases h4 : m ≤ p ∧ p < m + i
    · rw [if_pos h4, ← h.hi p (by omega) (by omega)]
      congr 1; omega
    · rw [if_neg h4]
      exact h.fin p (by omega)

/-- The aim. -/
def rotT (ds : List D) (a m b : Nat) (p : Nat) : D := if p < a + (b - m) then at' ds (p + (m - a)) else at' ds (p - (b - m))
theorem Ro.start (ds : List D) {a m b : Nat} (h1 : a ≤ m) (h2 : m ≤ b) : Ro (rotT ds a m b) ds a m b (m - a) (b - m) := by
  refine ⟨fun p hp => by omega, fun p h1 h2 => ?_, fun p h1 h2 => ?_⟩
  · unfold rotT
    rw [if_pos (by omega)]
  · unfold rotT
    rw [if_neg (by omega)]

theorem Re.trans {ds es fs : List D} {a b : Nat} (h : Re ds es a b) (k : Re es fs a b) : Re ds fs a b := ⟨k.perm.trans h.perm, fun p hp => (k.out p hp).trans (h.out p hp)⟩
theorem Re.swps {ds : List D} {a b p q m : Nat} (h1 : a ≤ p) (h2 : p + m ≤ q) (h3 : q + m ≤ b) (hb : b ≤ ds.length) : Re ds (YtalopkplpbdgjaaDoor.swps ds p q m) a b :=
  ⟨swps_perm ds p q m (by omega) (by omega), fun r hr => by rw [at_swps ds p q m h2 (by omega), if_neg (by omega), if_neg (by omega)]⟩
end Go.Proofs.YtalopkplpbdgjaaDoor
