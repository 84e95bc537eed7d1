/- Plain maths: what comes out of any text; in which order is told what is wrong. -/
import Derived.Test.YtdpakljfdfomfaaDoorEm
import Derived.Test.YtdpakljfdfomfaaDoorEu
namespace Go.Proofs.YtdpakljfdfomfaaDoor
open Go.Lib

/-- A token that may be. -/
def okT (t : Tok) : Prop := (t.1 = 1 ∧ sf t.2 = t.2) ∨ (t.1 = 2 ∧ t.2 = 0) ∨ (t.1 = 3 ∧ 0 ≤ t.2 ∧ t.2 ≤ 4)
theorem sf_of {x : Int} (h1 : vld x = true) (h2 : ctl x = false) : sf x = x := by unfold sf; rw [if_pos ⟨h1, h2⟩]
theorem nmTab_sf : ∀ p ∈ nmTab, sf p.2 = p.2 := by decide +kernel
theorem nmLook_val : ∀ (l : List (List UInt8 × Int)) (b : List UInt8) (x : Int), nmLook l b = some x → ∃ p ∈ l, p.2 = x
  | [], _, _, h => by cases h
  | p :: l, b, x, h => by
    unfold nmLook at h
    split at h
    · cases h; exact ⟨p, by simp, rfl⟩
    · obtain ⟨q, hq, e⟩ := nmLook_val l b x h
      exact ⟨q, by simp [hq], e⟩
theorem numOf_ok {b : List UInt8} {x : Int} (h : numOf b = some x) : vld x = true ∧ ctl x = false := by
  unfold numOf at h
  split at h
  · cases h
  · split at h
    · cases h
    · split at h
      · rename_i hv; cases h; exact hv
      · cases h
theorem nmOf_sf {b : List UInt8} {x : Int} (h : nmOf b = some x) : sf x = x := by
  unfold nmOf at h
  cases hl : nmLook nmTab b with
  | some r =>
    rw [hl] at h
    cases h
    obtain ⟨p, hp, rfl⟩ := nmLook_val _ _ _ hl
    exact nmTab_sf p hp
  | none =>
    rw [hl] at h
    have := numOf_ok h
    exact sf_of this.1 this.2
theorem simC_sf {d x : Int} (h : simC d = some x) : sf x = x := by
  rcases simC_some h with ⟨rfl, rfl⟩ | ⟨rfl, rfl⟩ | ⟨rfl, rfl⟩ | ⟨rfl, rfl⟩ | ⟨rfl, rfl⟩ | ⟨rfl, rfl⟩ | ⟨rfl, rfl⟩ | ⟨rfl, rfl⟩ | ⟨rfl, rfl⟩ <;> decide
theorem one_mem {x t : Tok} (h : t ∈ [x]) : t = x := by simpa using h
theorem escL_ok (r : List Int) : ∀ t ∈ (escL r).1, okT t := by
  cases r with
  | nil => simp [escL]
  | cons d q =>
    intro t ht
    rw [escL_cons] at ht
    cases hs : simC d with
    | some x =>
      rw [hs] at ht
      rw [one_mem ht]
      exact .inl ⟨rfl, simC_sf hs⟩
    | none =>
      rw [hs] at ht
      simp only at ht
      split at ht
      · cases ht
      · split at ht
        · cases ht
        · split at ht
          · split at ht
            · cases ht
            · split at ht
              · rename_i x hx
                rw [one_mem ht]
                exact .inl ⟨rfl, nmOf_sf hx⟩
              · cases ht
          · split at ht
            · split at ht
              · cases ht
              · split at ht
                · rename_i x hx
                  rw [one_mem ht]
                  exact .inr (.inr ⟨rfl, ftOf_bd hx⟩)
                · cases ht
            · cases ht
theorem one1_ok {c : Int} (h : vld c = true) : ∀ t ∈ one1 c, okT t := by
  intro t ht
  unfold one1 at ht
  split at ht
  · rw [one_mem ht]; exact .inr (.inl ⟨rfl, rfl⟩)
  · split at ht
    · rw [one_mem ht]; exact .inl ⟨rfl, by decide⟩
    · rename_i hc
      rw [one_mem ht]
      exact .inl ⟨rfl, sf_of h (by simpa using hc)⟩
theorem stepL_ok (s : List Int) (h : ∀ z ∈ s, vld z = true) : ∀ t ∈ (stepL s).1, okT t := by
  cases s with
  | nil => simp [stepL]
  | cons c r =>
    by_cases h92 : c = 92
    · subst h92
      exact escL_ok r
    · rw [(step_one h92 r).1]
      exact one1_ok (h c (by simp))
theorem tk_ok : ∀ (n : Nat) (s : List Int), s.length ≤ n → (∀ z ∈ s, vld z = true) → ∀ t ∈ tk s, okT t
  | 0, s, hn, _ => by
    have : s = [] := List.eq_nil_of_length_eq_zero (by omega)
    subst this
    simp [tk_nil]
  | n + 1, s, hn, h => by
    by_cases hne : s = []
    · subst hne; simp [tk_nil]
    · have hb := stepL_bd s
      intro t ht
      rw [tk_step s hne] at ht
      rcases List.mem_append.1 ht with ht | ht
      · exact stepL_ok s h t ht
      · exact tk_ok n _ (by rw [List.length_drop]; omega) (fun z hz => h z (List.mem_of_mem_drop hz)) t ht

theorem escL_kind (r : List Int) : ∀ k ∈ (escL r).2.1, 1 ≤ k ∧ k ≤ 3 := by
  cases r with
  | nil => simp [escL]
  | cons d q =>
    intro t ht
    rw [escL_cons] at ht
    cases hs : simC d with
    | some x => rw [hs] at ht; cases ht
    | none =>
      rw [hs] at ht
      simp only at ht
      split at ht
      · cases ht
      · split at ht
        · cases ht
        · split at ht
          · split at ht
            · have : t = 1 := by simpa using ht
              omega
            · split at ht
              · cases ht
              · have : t = 2 := by simpa using ht
                omega
          · split at ht
            · split at ht
              · have : t = 1 := by simpa using ht
                omega
              · split at ht
                · cases ht
                · have : t = 2 := by simpa using ht
                  omega
            · have : t = 1 := by simpa using ht
              omega
theorem stepL_kind (s : List Int) : ∀ k ∈ (stepL s).2.1, 1 ≤ k ∧ k ≤ 3 := by
  cases s with
  | nil => simp [stepL]
  | cons c r =>
    intro k hk
    unfold stepL at hk
    simp only at hk
    split at hk
    · exact escL_kind r k hk
    · split at hk
      · cases hk
      · split at hk
        · have : k = 3 := by simpa using hk
          omega
        · cases hk
/-- What is wrong is told in order. -/
theorem scanF_dg : ∀ (n p : Nat) (s : List Int), s.length ≤ n → (∀ d ∈ (scanF n p s).2, d.2.1 = 0 ∧ (p : Int) + 1 ≤ d.2.2 ∧ d.2.2 ≤ p + s.length ∧ 1 ≤ d.1 ∧ d.1 ≤ 3) ∧ (scanF n p s).2.Pairwise (fun a b => a.2.2 < b.2.2)
  | 0, p, s, _ => by simp [scanF]
  | n + 1, p, s, hn => by
    unfold scanF
    by_cases hne : s = []
    · simp [hne]
    · rw [if_neg hne]
      simp only
      have hb := stepL_bd s
      have hw := hb.2.2.2 hne
      have hl : 0 < s.length := List.length_pos_iff.2 hne
      obtain ⟨i1, i2⟩ := scanF_dg n (p + (stepL s).2.2) (s.drop (stepL s).2.2) (by rw [List.length_drop]; omega)
      have h0 : ∀ d ∈ dgs p (stepL s).2.1, d.2.1 = 0 ∧ d.2.2 = (p : Int) + 1 ∧ 1 ≤ d.1 ∧ d.1 ≤ 3 := by
        intro d hd
        unfold dgs at hd
        obtain ⟨k, hk, rfl⟩ := List.mem_map.1 hd
        have := stepL_kind s k hk
        exact ⟨rfl, rfl, this.1, this.2⟩
      constructor
      · intro d hd
        rcases List.mem_append.1 hd with hd | hd
        · obtain ⟨a, b, c, e⟩ := h0 d hd
          refine ⟨a, by omega, by omega, c, e⟩
        · obtain ⟨a, b, c, e, f⟩ := i1 d hd
          rw [List.length_drop] at c
          refine ⟨a, by omega, by omega, e, f⟩
      · rw [List.pairwise_append]
        refine ⟨?_, i2, ?_⟩
        · have : (dgs p (stepL s).2.1).length ≤ 1 := by unfold dgs; rw [List.length_map]; exact hb.2.1
          match hd : dgs p (stepL s).2.1, this with
          | [], _ => exact List.Pairwise.nil
          | [x], _ => exact List.pairwise_singleton _ _
          | x :: y :: l, h => simp at h
        · intro a ha b hb'
          obtain ⟨_, h1, _⟩ := h0 a ha
          obtain ⟨_, h2, _⟩ := i1 b hb'
          omega
def okD (n : Nat) (d : Dg) : Prop := d.2.1 = 0 ∧ 1 ≤ d.2.2 ∧ d.2.2 ≤ n ∧ 1 ≤ d.1 ∧ d.1 ≤ 3
theorem scan_okD (L : List Int) {i : Nat} {d : Dg} (h : (scanL 0 L).2[i]? = some d) : okD L.length d := by
  have := (scanF_dg L.length 0 L (Nat.le_refl _)).1 d (List.mem_of_getElem? h)
  obtain ⟨a, b, c, e, f⟩ := this
  exact ⟨a, by omega, by omega, e, f⟩
theorem scan_rise (L : List Int) {i : Nat} {c d : Dg} (h : (scanL 0 L).2[i]? = some c) (h' : (scanL 0 L).2[i + 1]? = some d) : c.2.2 < d.2.2 := by
  have := (scanF_dg L.length 0 L (Nat.le_refl _)).2
  obtain ⟨h1, e1⟩ := List.getElem?_eq_some_iff.1 h
  obtain ⟨h2, e2⟩ := List.getElem?_eq_some_iff.1 h'
  have := List.pairwise_iff_getElem.1 this i (i + 1) h1 h2 (by omega)
  have e1' : (scanF L.length 0 L).2[i]'h1 = c := e1
  have e2' : (scanF L.length 0 L).2[i + 1]'h2 = d := e2
  rw [e1', e2'] at this
  exact this
end Go.Proofs.YtdpakljfdfomfaaDoor
