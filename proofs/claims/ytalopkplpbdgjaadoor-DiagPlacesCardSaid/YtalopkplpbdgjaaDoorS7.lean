/- Plain maths of symMerge: where it cuts, and what is so behind its rotate. -/
import Derived.Test.YtalopkplpbdgjaaDoorS6
namespace Go.Proofs.YtalopkplpbdgjaaDoor

theorem So.mono {ds : List D} {a b c d : Nat} (h : So ds a b) (h1 : a ≤ c) (h2 : d ≤ b) : So ds c d := fun p q e1 e2 e3 => h p q (by omega) e2 (by omega)
theorem So.le {ds : List D} {a b p q : Nat} (h : So ds a b) (h1 : a ≤ p) (h2 : p ≤ q) (h3 : q < b) : leD (at' ds p) (at' ds q) := by
  by_cases e : p = q
  · subst e; exact leD_refl _
  · exact h p q h1 (by omega) h3
theorem So.of_at {ds es : List D} {a b c d k : Nat} (h : So ds c d) (he : ∀ p, a ≤ p → p < b → at' es p = at' ds (p + c - a)) (hk : k = 0) (hcd : b - a ≤ d - c) : So es a b := by
  intro p q h1 h2 h3
  rw [he p h1 (by omega), he q (by omega) h3]
  exact h _ _ (by omega) (by omega) (by omega)

/-- All of one front stand before all of what follows. -/
def Cut (ds : List D) (a m b : Nat) : Prop := ∀ p q, a ≤ p → p < m → m ≤ q → q < b → leD (at' ds p) (at' ds q)
theorem So.join {ds : List D} {a m b : Nat} (h1 : So ds a m) (h2 : So ds m b) (h3 : Cut ds a m b) : So ds a b := by
  intro p q e1 e2 e3
  by_cases hq : q < m
  · exact h1 p q e1 e2 hq
  · by_cases hp : p < m
    · exact h3 p q e1 hp (by omega) e3
    · exact h2 p q (by omega) e2 e3

/-- Behind the rotate from s to e (s + e = mid + m): four sorted pieces, and the middle cuts. -/
theorem sym_cut {ds es : List D} {a m b s e mid : Nat} (h1 : So ds a m) (h2 : So ds m b) (hs : a ≤ s) (hsm : s ≤ m) (hme : m ≤ e) (heb : e ≤ b) (hse : s + e = mid + m)
    (hlo : a < s → e < b → leD (at' ds (s - 1)) (at' ds e)) (hhi : s < m → m < e → leD (at' ds (e - 1)) (at' ds s))
    (hout : ∀ p, p < s ∨ e ≤ p → at' es p = at' ds p) (hrot : ∀ p, s ≤ p → p < e → at' es p = rotT ds s m e p) :
    So es a s ∧ So es s mid ∧ So es mid e ∧ So es e b ∧ Cut es a mid b := by
  have r1 : ∀ p, s ≤ p → p < mid → at' es p = at' ds (p + m - s) := fun p k1 k2 => by
    rw [hrot p k1 (by omega)]
    unfold rotT
    rw [if_pos (by omega)]
    congr 1; omega
  have r2 : ∀ p, mid ≤ p → p < e → at' es p = at' ds (p + s - mid) := fun p k1 k2 => by
    rw [hrot p (by omega) k2]
    unfold rotT
    rw [if_neg (by omega)]
    congr 1; omega
  have o1 : So es a s := fun p q k1 k2 k3 => by
    rw [hout p (by omega), hout q (by omega)]
    exact h1 p q k1 k2 (by omega)
  have o2 : So es s mid := fun p q k1 k2 k3 => by
    rw [r1 p k1 (by omega), r1 q (by omega) k3]
    exact h2 _ _ (by omega) (by omega) (by omega)
  have o3 : So es mid e := fun p q k1 k2 k3 => by
    rw [r2 p k1 (by omega), r2 q (by omega) k3]
    exact h1 _ _ (by omega) (by omega) (by omega)
  have o4 : So es e b := fun p q k1 k2 k3 => by
    rw [hout p (by omega), hout q (by omega)]
    exact h2 p q (by omega) k2 k3
  refine ⟨o1, o2, o3, o4, fun p q k1 k2 k3 k4 => ?_⟩
  by_cases hp : p < s
  · rw [hout p (.inl hp)]
    by_cases hq : q < e
    · rw [r2 q k3 hq]
      exact h1.le k1 (by omega) (by omega)
    · rw [hout q (.inr (by omega))]
      have e1 := h1.le (p := p) (q := s - 1) k1 (by omega) (by omega)
      have e2 := hlo (by omega) (by omega)
      have e3 := h2.le (p := e) (q := q) (by omega) (by omega) k4
      exact leD_trans e1 (leD_trans e2 e3)
  · rw [r1 p (by omega) k2]
    by_cases hq : q < e
    · rw [r2 q k3 hq]
      have e1 := h2.le (p := p + m - s) (q := e - 1) (by omega) (by omega) (by omega)
      have e2 := hhi (by omega) (by omega)
      have e3 := h1.le (p := s) (q := q + s - mid) hs (by omega) (by omega)
      exact leD_trans e1 (leD_trans e2 e3)
    · rw [hout q (.inr (by omega))]
      exact h2.le (by omega) (by omega) k4

/-- Inserted in place: one, moved from its begin to behind all that are less. -/
theorem move_up {ds es : List D} {a m b i : Nat} (ham : m = a + 1) (h2 : So ds m b) (hi : m ≤ i ∧ i ≤ b) (hlt : ∀ p, m ≤ p → p < i → leD (at' ds p) (at' ds a)) (hge : ∀ p, i ≤ p → p < b → leD (at' ds a) (at' ds p))
    (he : ∀ p, at' es p = if a ≤ p ∧ p + 1 < i then at' ds (p + 1) else if p + 1 = i then at' ds a else at' ds p) : So es a b := by
  intro p q k1 k2 k3
  rw [he p, he q]
  by_cases hp : p + 1 < i
  · rw [if_pos ⟨k1, hp⟩]
    by_cases hq : q + 1 < i
    · rw [if_pos ⟨by omega, hq⟩]
      exact h2 _ _ (by omega) (by omega) (by omega)
    · rw [if_neg (by omega)]
      by_cases hq2 : q + 1 = i
      · rw [if_pos hq2]
        exact hlt _ (by omega) hp
      · rw [if_neg hq2]
        exact h2 _ _ (by omega) (by omega) k3
  · rw [if_neg (by omega)]
    by_cases hp2 : p + 1 = i
    · rw [if_pos hp2, if_neg (by omega), if_neg (by omega)]
      exact hge _ (by omega) k3
    · rw [if_neg hp2, if_neg (by omega), if_neg (by omega)]
      exact h2 _ _ (by omega) k2 k3
/-- .. or from its end to ahead of all that are greater. -/
theorem move_down {ds es : List D} {a m b i : Nat} (hbm : b = m + 1) (h1 : So ds a m) (hi : a ≤ i ∧ i ≤ m) (hlt : ∀ p, a ≤ p → p < i → leD (at' ds p) (at' ds m)) (hge : ∀ p, i ≤ p → p < m → leD (at' ds m) (at' ds p))
    (he : ∀ p, at' es p = if i < p ∧ p ≤ m then at' ds (p - 1) else if p = i then at' ds m else at' ds p) : So es a b := by
  intro p q k1 k2 k3
  rw [he p, he q]
  by_cases hp : i < p ∧ p ≤ m
  · rw [if_pos hp, if_pos (by omega)]
    exact h1 _ _ (by omega) (by omega) (by omega)
  · rw [if_neg hp]
    by_cases hp2 : p = i
    · rw [if_pos hp2, if_pos (by omega)]
      exact hge _ (by omega) (by omega)
    · rw [if_neg hp2]
      by_cases hq : i < q ∧ q ≤ m
      · rw [if_pos hq]
        by_cases e : p = q - 1
        · omega
        · exact h1 _ _ k1 (by omega) (by omega)
      · rw [if_neg hq]
        by_cases hq2 : q = i
        · rw [if_pos hq2]
          exact hlt _ k1 (by omega)
        · rw [if_neg hq2]
          exact h1 _ _ k1 k2 (by omega)

/-- One sorted list alone has these, in order. -/
theorem so_unique {ds es : List D} (hp : es.Perm ds) (h1 : So ds 0 ds.length) (h2 : So es 0 es.length) : es = ds := by
  have pw : ∀ l : List D, So l 0 l.length → l.Pairwise leD := fun l h => by
    rw [List.pairwise_iff_getElem]
    intro i j hi hj hij
    have := h i j (by omega) hij hj
    unfold at' at this
    rw [List.getD_eq_getElem?_getD, List.getD_eq_getElem?_getD, List.getElem?_eq_getElem hi, List.getElem?_eq_getElem hj] at this
    exact this
  exact List.Perm.eq_of_pairwise (fun a b _ _ k1 k2 => leD_anti k1 k2) (pw es h2) (pw ds h1) hp
end Go.Proofs.YtalopkplpbdgjaaDoor
