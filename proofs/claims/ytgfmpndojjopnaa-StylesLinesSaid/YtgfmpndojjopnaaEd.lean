/- A reader's escape, whatever it is; Scan. -/
import Derived.Test.YtgfmpndojjopnaaEc
namespace Go.Proofs.Ytgfmpndojjopnaa
open Go.RowKit

theorem escL_cons (d : Int) (q : List Int) : escL (d :: q) = match simC d with
    | some x => ([(1, x)], [], 2)
    | none =>
      if d = 38 ∨ d = 37 ∨ d = 47 ∨ d = 44 ∨ d = 58 then ([], [], 2)
      else if d = 34 then ([], [], q.length + 2)
      else if d = 40 ∨ d = 91 then (match nameL (d :: q) with
        | none => ([], [1], q.length + 2)
        | some (n, k) => match nmOf (enc n) with
          | some x => ([(1, x)], [], k + 1)
          | none => ([], [2], k + 1))
      else if d = 102 then (match nameL q with
        | none => ([], [1], q.length + 2)
        | some (n, k) => match ftOf (enc n) with
          | some x => ([(3, x)], [], k + 2)
          | none => ([], [2], k + 2))
      else ([], [1], 2) := rfl
theorem simC_some {d x : Int} (h : simC d = some x) : (d = 92 ∧ x = 92) ∨ (d = 101 ∧ x = 92) ∨ (d = 45 ∧ x = 45) ∨ (d = 96 ∧ x = 96) ∨ (d = 46 ∧ x = 46) ∨ (d = 39 ∧ x = 180) ∨ (d = 32 ∧ x = 160) ∨ (d = 126 ∧ x = 160) ∨ (d = 48 ∧ x = 160) := by
  unfold simC at h
  split at h
  · rename_i hd; cases h; rcases hd with rfl | rfl <;> decide
  · split at h
    · rename_i hd; cases h; rcases hd with rfl | rfl | rfl <;> decide
    · split at h
      · rename_i hd; cases h; subst hd; decide
      · split at h
        · rename_i hd; cases h; rcases hd with rfl | rfl | rfl <;> decide
        · cases h
theorem simC_none {d : Int} (h : simC d = none) : d ≠ 92 ∧ d ≠ 101 ∧ d ≠ 45 ∧ d ≠ 96 ∧ d ≠ 46 ∧ d ≠ 39 ∧ d ≠ 32 ∧ d ≠ 126 ∧ d ≠ 48 := by
  refine ⟨?_, ?_, ?_, ?_, ?_, ?_, ?_, ?_, ?_⟩ <;> (rintro rfl; exact absurd h (by decide))

section
variable {w0 : World} {B : Nat} {tv : Value} {L : List Int} {nx : Int} {T : List Tok} {D : List Dg}
def EscEnd (w0 : World) (B : Nat) (tv : Value) (L : List Int) (p : Nat) (T : List Tok) (D : List Dg) (t : List Tok) (d : List Int) (k : Nat) (e : Ending) (w' : World) : Prop :=
  ∃ (b : Bool) (nx' : Int), e = .returned (.bool b) ∧ Rd w0 B tv L w' nx' (T ++ t) (D ++ dgs p d) ∧ (b = true → nx' = ((p + k : Nat) : Int)) ∧ (b = false → L.length ≤ p + k)
theorem dgs_nil (D : List Dg) (p : Nat) : D ++ dgs p [] = D := by simp [dgs]
theorem escape_any (p : Nat) (w : World) (h : Rd w0 B tv L w nx T D) (hp : p < L.length) (hL : L.length ≤ 20000) (hT : T.length ≤ 20000) (hD : D.length ≤ 20000) {t : List Tok} {d : List Int} {k : Nat} (hs : escL (L.drop (p + 1)) = (t, d, k)) :
    Calls Try.prog 27 #[.pointer (some ⟨B, 0, none⟩), .int .i64 (p : Int)] w (EscEnd w0 B tv L p T D t d k) := by
  cases hR : L[p + 1]? with
  | none =>
    have hlen : L.length = p + 1 := by
      have := List.getElem?_eq_none_iff.1 hR
      omega
    rw [List.drop_eq_nil_of_le (by omega)] at hs
    cases hs
    exact (esc_end p w h hlen hL hD).mono fun e w' ⟨he, hr⟩ => ⟨false, _, he, by rw [List.append_nil]; exact hr, by simp, fun _ => by omega⟩
  | some c =>
    have hlt := (List.getElem?_eq_some_iff.1 hR).1
    have hql : (L.drop (p + 1 + 1)).length = L.length - (p + 2) := by rw [List.length_drop]
    have hdc := drop_cons hR
    rw [hdc, escL_cons, hql] at hs
    cases hsim : simC c with
    | some x =>
      rw [hsim] at hs
      cases hs
      exact (esc_char p c x w h hR hL hT hD (simC_some hsim)).mono fun e w' ⟨he, hr⟩ => ⟨true, _, he, by rw [dgs_nil]; exact hr, fun _ => by omega, by simp⟩
    | none =>
      rw [hsim] at hs
      simp only at hs
      obtain ⟨x1, x2, x3, x4, x5, x6, x7, x8, x9⟩ := simC_none hsim
      by_cases a1 : c = 38 ∨ c = 37 ∨ c = 47 ∨ c = 44 ∨ c = 58
      · rw [if_pos a1] at hs
        cases hs
        exact (esc_nothing p c w h hR hL hT hD a1).mono fun e w' ⟨he, hr⟩ => ⟨true, _, he, by rw [dgs_nil, List.append_nil]; exact hr, fun _ => by omega, by simp⟩
      · rw [if_neg a1] at hs
        by_cases a2 : c = 34
        · rw [if_pos a2] at hs
          cases hs
          exact (esc_comment p c w h hR hL hT hD a2).mono fun e w' ⟨he, hr⟩ => ⟨false, _, he, by rw [dgs_nil, List.append_nil]; exact hr, by simp, fun _ => by omega⟩
        · rw [if_neg a2] at hs
          by_cases a3 : c = 40 ∨ c = 91
          · rw [if_pos a3, ← hdc] at hs
            refine esc_named p c _ w h hR hL hT hD a3 (fun W v hv => by obtain ⟨b, nx', he, _⟩ := hv; exact ⟨b, he⟩) fun W hW => ?_
            cases hn : nameL (L.drop (p + 1)) with
            | none =>
              rw [hn] at hs
              cases hs
              exact (named_none p W hW (by omega) hL hD hn).mono fun e w' ⟨he, hr⟩ => ⟨false, _, he, by rw [List.append_nil]; exact hr, by simp, fun _ => by omega⟩
            | some nk =>
              obtain ⟨n, k'⟩ := nk
              rw [hn] at hs
              simp only at hs
              cases hm : nmOf (enc n) with
              | some x =>
                rw [hm] at hs
                cases hs
                exact (named_some p W hW (by omega) hL hT hD hn (.inl ⟨x, hm, rfl, rfl⟩)).mono fun e w' ⟨he, hr⟩ => ⟨true, _, he, hr, fun _ => by omega, by simp⟩
              | none =>
                rw [hm] at hs
                cases hs
                exact (named_some p W hW (by omega) hL hT hD hn (.inr ⟨hm, rfl, rfl⟩)).mono fun e w' ⟨he, hr⟩ => ⟨true, _, he, hr, fun _ => by omega, by simp⟩
          · rw [if_neg a3] at hs
            by_cases a4 : c = 102
            · rw [if_pos a4] at hs
              refine esc_font p c _ w h hR hL hT hD a4 (fun W v hv => by obtain ⟨b, nx', he, _⟩ := hv; exact ⟨b, he⟩) fun W hW => ?_
              cases hn : nameL (L.drop (p + 2)) with
              | none =>
                rw [show p + 1 + 1 = p + 2 by omega, hn] at hs
                cases hs
                exact (rfont_none p W hW (by omega) hL hD hn).mono fun e w' ⟨he, hr⟩ => ⟨false, _, he, by rw [List.append_nil]; exact hr, by simp, fun _ => by omega⟩
              | some nk =>
                obtain ⟨n, k'⟩ := nk
                rw [show p + 1 + 1 = p + 2 by omega, hn] at hs
                simp only at hs
                cases hm : ftOf (enc n) with
                | some x =>
                  rw [hm] at hs
                  cases hs
                  exact (rfont_some p W hW (by omega) hL hT hD hn (.inl ⟨x, hm, rfl, rfl⟩)).mono fun e w' ⟨he, hr⟩ => ⟨true, _, he, hr, fun _ => by omega, by simp⟩
                | none =>
                  rw [hm] at hs
                  cases hs
                  exact (rfont_some p W hW (by omega) hL hT hD hn (.inr ⟨hm, rfl, rfl⟩)).mono fun e w' ⟨he, hr⟩ => ⟨true, _, he, hr, fun _ => by omega, by simp⟩
            · rw [if_neg a4] at hs
              cases hs
              exact (esc_other p c w h hR hL hT hD ⟨x1, x2, x3, x4, x5, x6, x7, x8, x9, fun e => a1 (by simp [e]), fun e => a1 (by simp [e]), fun e => a1 (by simp [e]), fun e => a1 (by simp [e]), fun e => a1 (by simp [e]), a2, fun e => a3 (.inl e), fun e => a3 (.inr e), a4⟩).mono fun e w' ⟨he, hr⟩ => ⟨true, _, he, by rw [List.append_nil]; exact hr, fun _ => by omega, by simp⟩
end
end Go.Proofs.Ytgfmpndojjopnaa
