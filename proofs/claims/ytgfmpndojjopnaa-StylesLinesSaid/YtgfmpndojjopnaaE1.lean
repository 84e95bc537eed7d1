/- Plain maths of layer 4: what a line of text says, rune by rune. -/
import Derived.Test.YtgfmpndojjopnaaM3
namespace Go.Proofs.Ytgfmpndojjopnaa
open Go.Lib

abbrev Tok := Int × Int
abbrev Dg := Int × Int × Int

/-- Names, and the rune of each. -/
def nmTab : List (List UInt8 × Int) := [([101, 109], 8212), ([101, 110], 8211), ([104, 121], 8208), ([98, 117], 8226), ([108, 113], 8220), ([114, 113], 8221), ([111, 113], 8216), ([99, 113], 8217), ([97, 113], 39), ([100, 113], 34), ([99, 111], 169), ([114, 103], 174), ([116, 109], 8482), ([114, 115], 92), ([104, 97], 94), ([116, 105], 126), ([109, 117], 215), ([100, 105], 247), ([60, 45], 8592), ([45, 62], 8594), ([60, 61], 8804), ([62, 61], 8805), ([33, 61], 8800), ([100, 101], 176), ([115, 99], 167), ([69, 117], 8364), ([117, 58], 252), ([111, 58], 246), ([97, 58], 228), ([115, 115], 223)]
def nmLook : List (List UInt8 × Int) → List UInt8 → Option Int
  | [], _ => none
  | p :: t, b => if p.1 = b then some p.2 else nmLook t b
/-- A digit's number. -/
def hexd (c : Int) : Option Int := if 48 ≤ c ∧ c ≤ 57 then some (c - 48) else if 65 ≤ c ∧ c ≤ 70 then some (c - 55) else none
def hexN : List UInt8 → Int → Option Int
  | [], n => some n
  | c :: r, n => match hexd (c.toNat : Int) with
    | none => none
    | some d => hexN r (n * 16 + d)
/-- A rune that is named by its number. -/
def numOf (b : List UInt8) : Option Int :=
  if b.length < 5 ∨ 7 < b.length ∨ b.head? ≠ some 117 then none
  else match hexN b.tail 0 with
    | none => none
    | some n => if vld n = true ∧ ctl n = false then some n else none
def nmOf (b : List UInt8) : Option Int := match nmLook nmTab b with
  | some r => some r
  | none => numOf b
def ftOf (b : List UInt8) : Option Int :=
  if b = [82] ∨ b = [49] then some 0 else if b = [66] ∨ b = [50] then some 1 else if b = [73] ∨ b = [51] then some 2 else if b = [66, 73] ∨ b = [52] then some 3 else if b = [80] then some 4 else none

/-- Where the first bracket stands that closes. -/
def ix : List Int → Option Nat
  | [] => none
  | c :: r => if c = 93 then some 0 else (ix r).map (· + 1)
/-- A name that begins here, and how many runes it takes. -/
def nameL : List Int → Option (List Int × Nat)
  | [] => none
  | c :: r => if c = 40 then (if r.length < 2 then none else some (r.take 2, 3)) else if c = 91 then (match ix r with
    | none => none
    | some k => some (r.take k, k + 2)) else some ([c], 1)
def simC (d : Int) : Option Int := if d = 92 ∨ d = 101 then some 92 else if d = 45 ∨ d = 96 ∨ d = 46 then some d else if d = 39 then some 180 else if d = 32 ∨ d = 126 ∨ d = 48 then some 160 else none
/-- What is behind a backslash: tokens, what is wrong, how many runes it takes with its backslash. -/
def escL (r : List Int) : List Tok × List Int × Nat := match r with
  | [] => ([], [1], 1)
  | d :: q => match simC d with
    | some x => ([(1, x)], [], 2)
    | none =>
      if d = 38 ∨ d = 37 ∨ d = 47 ∨ d = 44 ∨ d = 58 then ([], [], 2)
      else if d = 34 then ([], [], q.length + 2)
      else if d = 40 ∨ d = 91 then (match nameL (d :: q) with
        | none => ([], [1], q.length + 2)
        | some (n, k) => match nmOf (enc n) with
          | some x => ([(1, x)], [], k + 1)
          | none => ([], [2], k + 1))
      else if d = 102 then (match nameL q with
        | none => ([], [1], q.length + 2)
        | some (n, k) => match ftOf (enc n) with
          | some x => ([(3, x)], [], k + 2)
          | none => ([], [2], k + 2))
      else ([], [1], 2)
def stepL (s : List Int) : List Tok × List Int × Nat := match s with
  | [] => ([], [], 1)
  | c :: r => if c = 92 then escL r else if c = 32 ∨ c = 9 then ([(2, 0)], [], 1) else if ctl c = true then ([(1, 65533)], [3], 1) else ([(1, c)], [], 1)
def dgs (p : Nat) (l : List Int) : List Dg := l.map fun k => (k, 0, (p : Int) + 1)
def scanF : Nat → Nat → List Int → List Tok × List Dg
  | 0, _, _ => ([], [])
  | n + 1, p, s => if s = [] then ([], []) else ((stepL s).1 ++ (scanF n (p + (stepL s).2.2) (s.drop (stepL s).2.2)).1, dgs p (stepL s).2.1 ++ (scanF n (p + (stepL s).2.2) (s.drop (stepL s).2.2)).2)
/-- All that a text says from a place on. -/
def scanL (p : Nat) (s : List Int) : List Tok × List Dg := scanF s.length p s

theorem ix_lt : ∀ (l : List Int) (k : Nat), ix l = some k → k < l.length
  | [], k, h => by cases h
  | c :: r, k, h => by
    unfold ix at h
    split at h
    · cases h; simp
    · cases hr : ix r with
      | none => rw [hr] at h; cases h
      | some j =>
        rw [hr] at h
        cases h
        have := ix_lt r j hr
        simpa using this
theorem nameL_cons (c : Int) (r : List Int) : nameL (c :: r) = if c = 40 then (if r.length < 2 then none else some (r.take 2, 3)) else if c = 91 then (match ix r with
    | none => none
    | some k => some (r.take k, k + 2)) else some ([c], 1) := rfl
theorem nameL_le {s : List Int} {n : List Int} {k : Nat} (h : nameL s = some (n, k)) : 1 ≤ k ∧ k ≤ s.length := by
  cases s with
  | nil => cases h
  | cons c r =>
    rw [nameL_cons] at h
    split at h
    · split at h
      · cases h
      · cases h; simp only [List.length_cons]; omega
    · split at h
      · cases hr : ix r with
        | none => rw [hr] at h; cases h
        | some j =>
          rw [hr] at h
          cases h
          have := ix_lt r j hr
          simp only [List.length_cons]; omega
      · cases h; simp
theorem nameL_some_len {s n : List Int} {k : Nat} (h : nameL s = some (n, k)) : n.length ≤ s.length := by
  cases s with
  | nil => cases h
  | cons c r =>
    rw [nameL_cons] at h
    split at h
    · split at h
      · cases h
      · cases h; simp only [List.length_cons, List.length_take]; omega
    · split at h
      · cases hr : ix r with
        | none => rw [hr] at h; cases h
        | some j =>
          rw [hr] at h
          cases h
          simp only [List.length_cons, List.length_take]; omega
      · cases h; simp
theorem escL_bd (r : List Int) : (escL r).1.length ≤ 1 ∧ (escL r).2.1.length ≤ 1 ∧ 1 ≤ (escL r).2.2 ∧ (escL r).2.2 ≤ r.length + 1 := by
  cases r with
  | nil => simp [escL]
  | cons d q =>
    unfold escL
    simp only
    split
    · simp
    · split
      · simp
      · split
        · simp
        · split
          · split
            · simp
            · rename_i n k hn
              have hk := nameL_le hn
              simp only [List.length_cons] at hk
              split <;> simp <;> omega
          · split
            · split
              · simp
              · rename_i n k hn
                have hk := nameL_le hn
                split <;> simp <;> omega
            · simp
theorem stepL_bd (s : List Int) : (stepL s).1.length ≤ 1 ∧ (stepL s).2.1.length ≤ 1 ∧ 1 ≤ (stepL s).2.2 ∧ (s ≠ [] → (stepL s).2.2 ≤ s.length) := by
  cases s with
  | nil => simp [stepL]
  | cons c r =>
    have h := escL_bd r
    unfold stepL
    simp only
    split
    · exact ⟨h.1, h.2.1, h.2.2.1, fun _ => by simpa using h.2.2.2⟩
    · split
      · simp
      · split <;> simp
theorem scanF_nil : ∀ n p, scanF n p [] = ([], [])
  | 0, _ => rfl
  | _ + 1, _ => by simp [scanF]
theorem scanF_fuel : ∀ (n m p : Nat) (s : List Int), s.length ≤ n → s.length ≤ m → scanF n p s = scanF m p s
  | 0, m, p, s, hn, _ => by
    have : s = [] := List.eq_nil_of_length_eq_zero (by omega)
    subst this
    rw [scanF_nil, scanF_nil]
  | n + 1, 0, p, s, _, hm => by
    have : s = [] := List.eq_nil_of_length_eq_zero (by omega)
    subst this
    rw [scanF_nil, scanF_nil]
  | n + 1, m + 1, p, s, hn, hm => by
    unfold scanF
    by_cases hne : s = []
    · simp [hne]
    · have hw := (stepL_bd s).2.2.1
      have hl : 0 < s.length := List.length_pos_iff.2 hne
      rw [if_neg hne, if_neg hne, scanF_fuel n m _ (s.drop (stepL s).2.2) (by rw [List.length_drop]; omega) (by rw [List.length_drop]; omega)]
theorem scanL_nil (p : Nat) : scanL p [] = ([], []) := rfl
theorem scanL_step (p : Nat) (s : List Int) (hne : s ≠ []) : scanL p s = ((stepL s).1 ++ (scanL (p + (stepL s).2.2) (s.drop (stepL s).2.2)).1, dgs p (stepL s).2.1 ++ (scanL (p + (stepL s).2.2) (s.drop (stepL s).2.2)).2) := by
  have hl : 0 < s.length := List.length_pos_iff.2 hne
  have hw := (stepL_bd s).2.2.1
  obtain ⟨n, hn⟩ : ∃ n, s.length = n + 1 := ⟨s.length - 1, by omega⟩
  unfold scanL
  rw [hn]
  show (if s = [] then _ else _) = _
  rw [if_neg hne, scanF_fuel n (s.drop (stepL s).2.2).length _ _ (by rw [List.length_drop]; omega) (Nat.le_refl _)]

/-- What was told so far, and what is told from here on, is all. -/
structure Sofar (L : List Int) (TT : List Tok) (DD : List Dg) (p : Nat) (T : List Tok) (D : List Dg) : Prop where
  t : T ++ (scanL p (L.drop p)).1 = TT
  d : D ++ (scanL p (L.drop p)).2 = DD
  tl : T.length ≤ p
  dl : D.length ≤ p
theorem Sofar.start (L : List Int) : Sofar L (scanL 0 L).1 (scanL 0 L).2 0 [] [] := ⟨by simp, by simp, by simp, by simp⟩
theorem Sofar.next {L : List Int} {TT : List Tok} {DD : List Dg} {p : Nat} {T : List Tok} {D : List Dg} (h : Sofar L TT DD p T D) (hp : p < L.length) {t : List Tok} {d : List Int} {k : Nat} (hs : stepL (L.drop p) = (t, d, k)) :
    Sofar L TT DD (p + k) (T ++ t) (D ++ dgs p d) := by
  have hne : L.drop p ≠ [] := by
    intro h0
    have := congrArg List.length h0
    simp only [List.length_drop, List.length_nil] at this
    omega
  have hst := scanL_step p _ hne
  rw [hs] at hst
  simp only [List.drop_drop] at hst
  have hb := stepL_bd (L.drop p)
  rw [hs] at hb
  obtain ⟨b1, b2, b3, -⟩ := hb
  simp only at b1 b2 b3
  have h1 := h.t
  have h2 := h.d
  have tl := h.tl
  have dl := h.dl
  rw [hst] at h1 h2
  refine ⟨?_, ?_, ?_, ?_⟩
  · rw [List.append_assoc]; exact h1
  · rw [List.append_assoc]; exact h2
  · rw [List.length_append]; omega
  · rw [List.length_append]; unfold dgs; rw [List.length_map]; omega
theorem Sofar.done {L : List Int} {TT : List Tok} {DD : List Dg} {p : Nat} {T : List Tok} {D : List Dg} (h : Sofar L TT DD p T D) (hp : L.length ≤ p) : T = TT ∧ D = DD := by
  have h1 := h.t
  have h2 := h.d
  have h0 : L.drop p = [] := List.drop_eq_nil_of_le hp
  rw [h0, scanL_nil, List.append_nil] at h1 h2
  exact ⟨h1, h2⟩
theorem scanF_len : ∀ (n p : Nat) (s : List Int), s.length ≤ n → (scanF n p s).1.length ≤ s.length ∧ (scanF n p s).2.length ≤ s.length
  | 0, p, s, _ => by simp [scanF]
  | n + 1, p, s, hn => by
    unfold scanF
    by_cases hne : s = []
    · simp [hne]
    · have hb := stepL_bd s
      have hw := hb.2.2.2 hne
      have ih := scanF_len n (p + (stepL s).2.2) (s.drop (stepL s).2.2) (by rw [List.length_drop]; omega)
      rw [if_neg hne]
      simp only [List.length_append, List.length_drop, dgs, List.length_map] at ih ⊢
      omega
theorem scan_len (L : List Int) : (scanL 0 L).1.length ≤ L.length ∧ (scanL 0 L).2.length ≤ L.length := scanF_len _ _ _ (Nat.le_refl _)
theorem drop_cons {L : List Int} {p : Nat} {c : Int} (h : L[p]? = some c) : L.drop p = c :: L.drop (p + 1) := by
  obtain ⟨hp, rfl⟩ := List.getElem?_eq_some_iff.1 h
  exact List.drop_eq_getElem_cons hp
theorem step_at {L : List Int} {p : Nat} {c : Int} (h : L[p]? = some c) : stepL (L.drop p) = if c = 92 then escL (L.drop (p + 1)) else if c = 32 ∨ c = 9 then ([(2, 0)], [], 1) else if ctl c = true then ([(1, 65533)], [3], 1) else ([(1, c)], [], 1) := by
  rw [drop_cons h]; rfl
end Go.Proofs.Ytgfmpndojjopnaa
