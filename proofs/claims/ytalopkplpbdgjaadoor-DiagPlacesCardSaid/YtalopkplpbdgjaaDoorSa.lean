/- Plain maths: an exchange within a part keeps what stands in it. -/
import Derived.Test.YtalopkplpbdgjaaDoorS9
namespace Go.Proofs.YtalopkplpbdgjaaDoor

theorem Re.widen {ds es : List D} {a b c d : Nat} (h : Re ds es a b) (h1 : c ≤ a) (h2 : b ≤ d) : Re ds es c d := ⟨h.perm, fun p hp => h.out p (by omega)⟩
theorem list_ext_at {ds es : List D} (hl : es.length = ds.length) (h : ∀ p, p < ds.length → at' es p = at' ds p) : es = ds := by
  apply List.ext_getElem hl
  intro i h1 h2
  have := h i h2
  unfold at' at this
  rw [List.getD_eq_getElem?_getD, List.getD_eq_getElem?_getD, List.getElem?_eq_getElem h1, List.getElem?_eq_getElem h2] at this
  exact this
theorem at_take {ds : List D} {k p : Nat} (h : p < k) : at' (ds.take k) p = at' ds p := by
  unfold at'
  rw [List.getD_eq_getElem?_getD, List.getD_eq_getElem?_getD, List.getElem?_take, if_pos h]
theorem at_drop (ds : List D) (k p : Nat) : at' (ds.drop k) p = at' ds (k + p) := by
  unfold at'
  rw [List.getD_eq_getElem?_getD, List.getD_eq_getElem?_getD, List.getElem?_drop]
theorem Re.mem {ds es : List D} {a b p : Nat} (h : Re ds es a b) (hb : b ≤ ds.length) (h1 : a ≤ p) (h2 : p < b) : ∃ q, a ≤ q ∧ q < b ∧ at' es p = at' ds q := by
  have hl := h.length
  have e1 : es.take a = ds.take a := list_ext_at (by simp [hl]) (fun p hp => by
    have hp2 : p < a := by simp at hp; omega
    rw [at_take hp2, at_take hp2]
    exact h.out p (.inl hp2))
  have e2 : es.drop b = ds.drop b := list_ext_at (by simp [hl]) (fun p _ => by
    rw [at_drop, at_drop]
    exact h.out _ (.inr (by omega)))
  have s : ∀ l : List D, l.take a ++ ((l.drop a).take (b - a) ++ l.drop b) = l := fun l => by
    have e : l.drop b = (l.drop a).drop (b - a) := by rw [List.drop_drop]; congr 1; omega
    rw [e, List.take_append_drop, List.take_append_drop]
  have hp := h.perm
  have hp2 : (es.take a ++ ((es.drop a).take (b - a) ++ es.drop b)).Perm (ds.take a ++ ((ds.drop a).take (b - a) ++ ds.drop b)) := by rw [s, s]; exact hp
  rw [e1, e2] at hp2
  have hp4 := (List.perm_append_right_iff _).1 ((List.perm_append_left_iff _).1 hp2)
  have hm : at' es p ∈ (es.drop a).take (b - a) := by
    have k : p - a < ((es.drop a).take (b - a)).length := by simp; omega
    have e : at' ((es.drop a).take (b - a)) (p - a) = at' es p := by
      rw [at_take (by omega), at_drop]
      congr 1; omega
    rw [← e]
    unfold at'
    rw [List.getD_eq_getElem?_getD, List.getElem?_eq_getElem k]
    exact List.getElem_mem k
  obtain ⟨i, hi, e⟩ := List.getElem_of_mem (hp4.mem_iff.1 hm)
  have hi2 : i < b - a := by simp at hi; omega
  refine ⟨a + i, by omega, by omega, ?_⟩
  rw [← e, ← at_drop, ← at_take (k := b - a) hi2]
  unfold at'
  rw [List.getD_eq_getElem?_getD, List.getElem?_eq_getElem hi]
  rfl
theorem Cut.left {es fs : List D} {a m b : Nat} (h : Cut es a m b) (r : Re es fs a m) (hm : m ≤ es.length) : Cut fs a m b := fun p q h1 h2 h3 h4 => by
  obtain ⟨p', k1, k2, e⟩ := r.mem hm h1 h2
  rw [e, r.out q (.inr h3)]
  exact h p' q k1 k2 h3 h4
theorem Cut.right {es fs : List D} {a m b : Nat} (h : Cut es a m b) (r : Re es fs m b) (hb : b ≤ es.length) : Cut fs a m b := fun p q h1 h2 h3 h4 => by
  obtain ⟨q', k1, k2, e⟩ := r.mem hb h3 h4
  rw [e, r.out p (.inl h2)]
  exact h p q' h1 h2 k1 k2
theorem So.same {es fs : List D} {a b c d : Nat} (h : So es c d) (r : Re es fs a b) (ho : d ≤ a ∨ b ≤ c) : So fs c d := fun p q h1 h2 h3 => by
  rw [r.out p (by omega), r.out q (by omega)]
  exact h p q h1 h2 h3

/-- Behind the rotate. -/
structure Q1 (ds es : List D) (a s mid e b : Nat) : Prop where
  re : Re ds es a b
  ls : So es a s
  sm : So es s mid
  me : So es mid e
  eb : So es e b
  cut : Cut es a mid b
/-- Behind the left call. -/
structure Q2 (ds es : List D) (a mid e b : Nat) : Prop where
  re : Re ds es a b
  am : So es a mid
  me : So es mid e
  eb : So es e b
  cut : Cut es a mid b
theorem Q1.call {ds es fs : List D} {a s mid e b : Nat} (h : Q1 ds es a s mid e b) (r : Re es fs a mid) (k : So fs a mid) (h1 : mid ≤ e) (h2 : mid ≤ b) (hb : b ≤ es.length) : Q2 ds fs a mid e b :=
  ⟨h.re.trans (r.widen (Nat.le_refl _) h2), k, h.me.same r (.inr (Nat.le_refl _)), h.eb.same r (.inr h1), h.cut.left r (by omega)⟩
theorem Q1.none {ds es : List D} {a s mid e b : Nat} (h : Q1 ds es a s mid e b) (k : s = a ∨ s = mid) : Q2 ds es a mid e b := by
  rcases k with rfl | rfl
  · exact ⟨h.re, h.sm, h.me, h.eb, h.cut⟩
  · exact ⟨h.re, h.ls, h.me, h.eb, h.cut⟩
theorem Q2.call {ds es fs : List D} {a mid e b : Nat} (h : Q2 ds es a mid e b) (r : Re es fs mid b) (k : So fs mid b) (h1 : a ≤ mid) (hb : b ≤ es.length) : Re ds fs a b ∧ So fs a b :=
  ⟨h.re.trans (r.widen h1 (Nat.le_refl _)), (h.am.same r (.inl (Nat.le_refl _))).join k (h.cut.right r hb)⟩
theorem Q2.none {ds es : List D} {a mid e b : Nat} (h : Q2 ds es a mid e b) (k : e = mid ∨ e = b) : Re ds es a b ∧ So es a b := by
  rcases k with rfl | rfl
  · exact ⟨h.re, h.am.join h.eb h.cut⟩
  · exact ⟨h.re, h.am.join h.me h.cut⟩
theorem q1_rot {ds es : List D} {a m b s e mid : Nat} (h1 : So ds a m) (h2 : So ds m b) (hs : a ≤ s) (hsm : s ≤ m) (hme : m ≤ e) (heb : e ≤ b) (hse : s + e = mid + m)
    (hlo : a < s → e < b → leD (at' ds (s - 1)) (at' ds e)) (hhi : s < m → m < e → leD (at' ds (e - 1)) (at' ds s))
    (r : Re ds es s e) (hrot : ∀ p, s ≤ p → p < e → at' es p = rotT ds s m e p) : Q1 ds es a s mid e b := by
  obtain ⟨k1, k2, k3, k4, k5⟩ := sym_cut h1 h2 hs hsm hme heb hse hlo hhi r.out hrot
  exact ⟨r.widen hs heb, k1, k2, k3, k4, k5⟩
theorem q1_none {ds : List D} {a m b s e mid : Nat} (h1 : So ds a m) (h2 : So ds m b) (hs : a ≤ s) (hsm : s ≤ m) (hme : m ≤ e) (heb : e ≤ b) (hse : s + e = mid + m)
    (hlo : a < s → e < b → leD (at' ds (s - 1)) (at' ds e)) (hhi : s < m → m < e → leD (at' ds (e - 1)) (at' ds s)) (k : s = m ∨ e = m) : Q1 ds ds a s mid e b := by
  refine q1_rot h1 h2 hs hsm hme heb hse hlo hhi (Re.refl _ _ _) (fun p k1 k2 => ?_)
  unfold rotT
  rcases k with rfl | rfl
  · rw [if_pos (by omega)]; congr 1; omega
  · rw [if_neg (by omega)]; congr 1; omega

/-- The halving's invariant, and what it says at its end. -/
theorem half_ends {ds : List D} {a m b s0 r0 nn s e : Nat} (h1 : a ≤ s0) (h2 : s0 ≤ s) (h3 : s ≤ r0) (h4 : r0 ≤ m) (h5 : m + r0 ≤ nn) (h6 : nn ≤ b + s0) (h7 : s0 = a ∨ nn = b + s0) (h8 : r0 = m ∨ nn = m + r0) (hse : s + e = nn)
    (hlo : ∀ c, s0 ≤ c → c < s → 0 ≤ cmpD (at' ds (nn - 1 - c)) (at' ds c)) (hhi : ∀ c, s ≤ c → c < r0 → cmpD (at' ds (nn - 1 - c)) (at' ds c) < 0) :
    (a < s → e < b → leD (at' ds (s - 1)) (at' ds e)) ∧ (s < m → m < e → leD (at' ds (e - 1)) (at' ds s)) := by
  refine ⟨fun k1 k2 => ?_, fun k1 k2 => ?_⟩
  · have := hlo (s - 1) (by omega) (by omega)
    rw [show nn - 1 - (s - 1) = e by omega] at this
    exact Int.not_lt.2 this
  · have := hhi s (Nat.le_refl _) (by omega)
    rw [show nn - 1 - s = e - 1 by omega] at this
    exact leD_of_lt this
theorem half_lo {ds : List D} {a m b s0 r0 nn c : Nat} (h1 : So ds a m) (h2 : So ds m b) (k1 : a ≤ s0) (k2 : c < r0) (k3 : r0 ≤ m) (k4 : m + r0 ≤ nn) (k5 : nn ≤ b + s0)
    (h : ¬ cmpD (at' ds (nn - 1 - c)) (at' ds c) < 0) : ∀ d, s0 ≤ d → d < c + 1 → 0 ≤ cmpD (at' ds (nn - 1 - d)) (at' ds d) := fun d e1 e2 => Int.not_lt.1 (by
  have x1 : leD (at' ds d) (at' ds c) := h1.le (by omega) (by omega) (by omega)
  have x2 : leD (at' ds (nn - 1 - c)) (at' ds (nn - 1 - d)) := h2.le (by omega) (by omega) (by omega)
  exact leD_trans x1 (leD_trans h x2))
theorem half_hi {ds : List D} {a m b s0 r0 nn c : Nat} (h1 : So ds a m) (h2 : So ds m b) (k1 : a ≤ s0) (k2 : s0 ≤ c) (k3 : r0 ≤ m) (k4 : m + r0 ≤ nn) (k5 : nn ≤ b + s0)
    (h : cmpD (at' ds (nn - 1 - c)) (at' ds c) < 0) : ∀ d, c ≤ d → d < r0 → cmpD (at' ds (nn - 1 - d)) (at' ds d) < 0 := fun d e1 e2 => by
  have x1 : leD (at' ds c) (at' ds d) := h1.le (by omega) (by omega) (by omega)
  have x2 : leD (at' ds (nn - 1 - d)) (at' ds (nn - 1 - c)) := h2.le (by omega) (by omega) (by omega)
  rw [cmpD_lt] at h ⊢
  rw [leD_iff] at x1 x2
  omega
end Go.Proofs.YtalopkplpbdgjaaDoor
