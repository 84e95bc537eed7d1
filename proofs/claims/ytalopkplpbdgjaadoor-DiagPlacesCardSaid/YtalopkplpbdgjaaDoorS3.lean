/- The order is total; insertion sorts a front. -/
import Derived.Test.YtalopkplpbdgjaaDoorS2
import Derived.Deep.RegionWith
namespace Go.Proofs.YtalopkplpbdgjaaDoor
open Go.RowKit

theorem cmpD_lt (x y : D) : cmpD x y < 0 ↔ x.2.1 < y.2.1 ∨ (x.2.1 = y.2.1 ∧ (x.2.2 < y.2.2 ∨ (x.2.2 = y.2.2 ∧ x.1 < y.1))) := by
  unfold cmpD cmpI
  repeat' split
  all_goals omega
def leD (x y : D) : Prop := ¬ cmpD y x < 0
theorem leD_iff (x y : D) : leD x y ↔ x.2.1 < y.2.1 ∨ (x.2.1 = y.2.1 ∧ (x.2.2 < y.2.2 ∨ (x.2.2 = y.2.2 ∧ x.1 ≤ y.1))) := by
  unfold leD
  rw [cmpD_lt]
  omega
theorem leD_trans {x y z : D} (h1 : leD x y) (h2 : leD y z) : leD x z := by
  rw [leD_iff] at *
  omega
theorem leD_anti {x y : D} (h1 : leD x y) (h2 : leD y x) : x = y := by
  obtain ⟨a, b, c⟩ := x
  obtain ⟨a', b', c'⟩ := y
  rw [leD_iff] at *
  simp only [Prod.mk.injEq] at *
  omega
theorem leD_of_lt {x y : D} (h : cmpD x y < 0) : leD x y := by
  rw [leD_iff]
  rw [cmpD_lt] at h
  omega
theorem leD_refl (x : D) : leD x x := by rw [leD_iff]; omega

def at' (ds : List D) (p : Nat) : D := ds.getD p (0, 0, 0)
theorem at_some {ds : List D} {p : Nat} (h : p < ds.length) : ds[p]? = some (at' ds p) := by
  unfold at'
  rw [List.getD_eq_getElem?_getD, List.getElem?_eq_getElem h]
  rfl
theorem at_swp (ds : List D) {p q : Nat} (hp : p < ds.length) (hq : q < ds.length) (r : Nat) : at' (swp ds p q) r = if r = q then at' ds p else if r = p then at' ds q else at' ds r := by
  unfold at' swp
  simp only [List.getD_eq_getElem?_getD, List.getElem?_set]
  by_cases h1 : r = q
  · subst h1
    simp [hq]
  · by_cases h2 : r = p
    · subst h2
      simp [hp, h1, Ne.symm h1]
    · simp [h1, h2, Ne.symm h1, Ne.symm h2]
theorem swp_perm (ds : List D) {p q : Nat} (hp : p < ds.length) (hq : q < ds.length) : (swp ds p q).Perm ds := by
  have h := Array.swap_perm (xs := ds.toArray) (i := p) (j := q) (by simpa using hp) (by simpa using hq)
  have h2 := h.toList
  have e : (ds.toArray.swap p q (by simpa using hp) (by simpa using hq)).toList = swp ds p q := by
    rw [Array.toList_swap]
    unfold swp
    rw [List.getD_eq_getElem?_getD, List.getD_eq_getElem?_getD, List.getElem?_eq_getElem hp, List.getElem?_eq_getElem hq]
    simp
  rw [e] at h2
  exact h2

/-- Sorted from a to b. -/
def So (ds : List D) (a b : Nat) : Prop := ∀ p q, a ≤ p → p < q → q < b → leD (at' ds p) (at' ds q)
/-- The same but from a to b, and the same in all. -/
structure Re (ds es : List D) (a b : Nat) : Prop where
  perm : es.Perm ds
  out : ∀ p, p < a ∨ b ≤ p → at' es p = at' ds p
theorem Re.refl (ds : List D) (a b : Nat) : Re ds ds a b := ⟨List.Perm.refl _, fun _ _ => rfl⟩
theorem Re.length {ds es : List D} {a b : Nat} (h : Re ds es a b) : es.length = ds.length := h.perm.length_eq
theorem Re.swp {ds es : List D} {a b : Nat} (h : Re ds es a b) {p q : Nat} (hp : a ≤ p ∧ p < b) (hq : a ≤ q ∧ q < b) (hb : b ≤ ds.length) : Re ds (YtalopkplpbdgjaaDoor.swp es p q) a b := by
  have hl := h.length
  refine ⟨(swp_perm es (by omega) (by omega)).trans h.perm, fun r hr => ?_⟩
  rw [at_swp es (by omega) (by omega), if_neg (by omega), if_neg (by omega)]
  exact h.out r hr

/-- While one is let down: all but it stand in order. -/
def Ins (ds : List D) (a i j : Nat) : Prop := ∀ p q, a ≤ p → p < q → q ≤ i → q ≠ j → leD (at' ds p) (at' ds q)
theorem Ins.start {ds : List D} {a i : Nat} (h : So ds a i) : Ins ds a i i := fun p q h1 h2 h3 h4 => h p q h1 h2 (by omega)
theorem Ins.step {ds : List D} {a i j : Nat} (h : Ins ds a i j) (ha : a < j) (hj : j ≤ i) (hi : i < ds.length) (hlt : cmpD (at' ds j) (at' ds (j - 1)) < 0) : Ins (swp ds j (j - 1)) a i (j - 1) := by
  intro p q h1 h2 h3 h4
  have e := fun r => at_swp ds (p := j) (q := j - 1) (by omega) (by omega) r
  rw [e p, e q]
  have hl := leD_of_lt hlt
  by_cases hq : q = j
  · subst hq
    rw [if_neg (by omega : ¬ q = q - 1), if_pos rfl]
    by_cases hp : p = q - 1
    · rw [if_pos hp]; exact hl
    · rw [if_neg hp, if_neg (by omega)]
      exact h p (q - 1) h1 (by omega) (by omega) (by omega)
  · rw [if_neg h4, if_neg hq]
    by_cases hp : p = j - 1
    · rw [if_pos hp]
      exact h j q (by omega) (by omega) h3 hq
    · rw [if_neg hp]
      by_cases hp2 : p = j
      · rw [if_pos hp2]
        exact h (j - 1) q (by omega) (by omega) h3 hq
      · rw [if_neg hp2]
        exact h p q h1 h2 h3 hq
theorem Ins.done {ds : List D} {a i j : Nat} (h : Ins ds a i j) (hj : j ≤ i) (hd : j = a ∨ (a < j ∧ ¬ cmpD (at' ds j) (at' ds (j - 1)) < 0)) : So ds a (i + 1) := by
  intro p q h1 h2 h3
  by_cases hq : q = j
  · subst hq
    rcases hd with hd | ⟨hd, hn⟩
    · omega
    · have hn' : leD (at' ds (q - 1)) (at' ds q) := hn
      by_cases hp : p = q - 1
      · rw [hp]; exact hn'
      · exact leD_trans (h p (q - 1) h1 (by omega) (by omega) (by omega)) hn'
  · exact h p q h1 h2 (by omega) hq
end Go.Proofs.YtalopkplpbdgjaaDoor
