/- Plain maths of UTF-8: what bytes are as runes (dec), what runes are as bytes (enc). Plain maths of layer 4: what a line of text says, rune by rune. -/
import Derived.Lib.MapLaws
import Derived.Lib.ValidLaws
import Derived.Lib.ValidAsc
import Derived.Lib.QuoteLoop
import Derived.Laws.Cover4
import Derived.Test.YtpcbbhfbldchlaaW3
set_option linter.unusedVariables false
set_option linter.unusedSimpArgs false
namespace Go.Proofs.Ytpcbbhfbldchlaa
open Go.Lib
def decGo : Nat → List UInt8 → List Int
  | 0, _ => []
  | n + 1, l => if l = [] then [] else ((decodeL l).1 : Int) :: decGo n (l.drop (decodeL l).2)
def dec (l : List UInt8) : List Int := decGo l.length l
def enc (l : List Int) : List UInt8 := (l.map encodeRune).flatten
theorem decGo_nil : ∀ n, decGo n [] = []
  | 0 => rfl
  | _ + 1 => by simp [decGo]
theorem decGo_fuel : ∀ (n m : Nat) (l : List UInt8), l.length ≤ n → l.length ≤ m → decGo n l = decGo m l
  | 0, m, l, hn, _ => by
    have : l = [] := List.eq_nil_of_length_eq_zero (by omega)
    subst this
    rw [decGo_nil, decGo_nil]
  | n + 1, 0, l, _, hm => by
    have : l = [] := List.eq_nil_of_length_eq_zero (by omega)
    subst this
    rw [decGo_nil, decGo_nil]
  | n + 1, m + 1, l, hn, hm => by
    unfold decGo
    by_cases hne : l = []
    · simp [hne]
    · have hw := decodeL_width l
      have hl : 0 < l.length := List.length_pos_iff.2 hne
      rw [if_neg hne, if_neg hne, decGo_fuel n m (l.drop (decodeL l).2) (by rw [List.length_drop]; omega) (by rw [List.length_drop]; omega)]
theorem dec_nil : dec [] = [] := rfl
theorem dec_step (l : List UInt8) (hne : l ≠ []) : dec l = ((decodeL l).1 : Int) :: dec (l.drop (decodeL l).2) := by
  have hl : 0 < l.length := List.length_pos_iff.2 hne
  have hw := decodeL_width l
  obtain ⟨n, hn⟩ : ∃ n, l.length = n + 1 := ⟨l.length - 1, by omega⟩
  unfold dec
  rw [hn]
  show (if l = [] then [] else _) = _
  rw [if_neg hne, decGo_fuel n (l.drop (decodeL l).2).length _ (by rw [List.length_drop]; omega) (Nat.le_refl _)]
theorem dec_len : ∀ (n : Nat) (l : List UInt8), l.length ≤ n → (dec l).length ≤ l.length
  | 0, l, h => by
    have : l = [] := List.eq_nil_of_length_eq_zero (by omega)
    subst this
    simp [dec_nil]
  | n + 1, l, h => by
    by_cases hne : l = []
    · subst hne; simp [dec_nil]
    · have hl : 0 < l.length := List.length_pos_iff.2 hne
      have hw := decodeL_width l
      have := dec_len n (l.drop (decodeL l).2) (by rw [List.length_drop]; omega)
      rw [dec_step l hne]
      simp only [List.length_cons, List.length_drop] at this ⊢
      omega
theorem dec_le (l : List UInt8) : (dec l).length ≤ l.length := dec_len _ l (Nat.le_refl _)
theorem dec_ascii (c : UInt8) (l : List UInt8) (h : c.toNat < 128) : dec (c :: l) = (c.toNat : Int) :: dec l := by
  rw [dec_step _ (by simp), decodeL_ascii c l h]
  simp
/-- The model's own reading, as dec. -/
theorem runesFrom_dec (s : ByteArray) : ∀ (n i : Nat) (acc : Array Value), Conv.runesFrom s n i acc = acc ++ ((decGo n (s.data.toList.drop i)).map (Value.int .i32)).toArray
  | 0, i, acc => by simp [Conv.runesFrom, decGo]
  | n + 1, i, acc => by
    unfold Conv.runesFrom decGo
    have hsz : s.size = s.data.toList.length := Go.Lib.size_eq s
    by_cases h : i < s.size
    · rw [if_pos h]
      have hne : s.data.toList.drop i ≠ [] := by
        intro h0
        have := congrArg List.length h0
        simp only [List.length_drop, List.length_nil] at this
        omega
      rw [if_neg hne, decodeL_drop]
      simp only
      rw [runesFrom_dec s n]
      apply Array.ext'
      simp only [List.drop_drop, Array.toList_append, Array.toList_push, List.map_cons, List.append_assoc, List.cons_append, List.nil_append]
      rfl
    · rw [if_neg h]
      have hnil : s.data.toList.drop i = [] := List.drop_eq_nil_of_le (by omega)
      rw [hnil]
      simp
theorem runesFrom_all (l : List UInt8) : Conv.runesFrom ⟨l.toArray⟩ l.length 0 #[] = ((dec l).map (Value.int .i32)).toArray := by
  rw [runesFrom_dec]
  simp [dec]
set_option maxRecDepth 100000 in
/-- The model's own writing, as enc. -/
theorem encode_eq (r : Int) : (Utf8.encode r).data.toList = encodeRune r := by
  unfold encodeRune
  by_cases h1 : (0 ≤ r ∧ r < 55296) ∨ (57344 ≤ r ∧ r ≤ 1114111)
  · have hv : Utf8.valid r = true := by unfold Utf8.valid; simpa using h1
    obtain ⟨n, rfl⟩ : ∃ n : Nat, r = n := ⟨r.toNat, by omega⟩
    unfold Utf8.encode
    rw [if_pos hv]
    simp only [Int.toNat_natCast]
    by_cases a : n < 128
    · rw [if_pos a, encodeRuneZ_one (by omega) (by omega)]
      simp
    · rw [if_neg a]
      by_cases b : n < 2048
      · rw [if_pos b, encodeRuneZ_two (by omega) (by omega)]
        simp only [List.map_cons, List.map_nil]
        have e1 : (192 + (n : Int) / 64).toNat = 192 + n / 64 := by omega
        have e2 : (128 + (n : Int) % 64).toNat = 128 + n % 64 := by omega
        rw [e1, e2]
      · rw [if_neg b]
        by_cases c : n < 65536
        · rw [if_pos c, encodeRuneZ_three (by omega)]
          simp only [List.map_cons, List.map_nil]
          have e1 : (224 + (n : Int) / 4096).toNat = 224 + n / 4096 := by omega
          have e2 : (128 + (n : Int) / 64 % 64).toNat = 128 + n / 64 % 64 := by omega
          have e3 : (128 + (n : Int) % 64).toNat = 128 + n % 64 := by omega
          rw [e1, e2, e3]
        · rw [if_neg c, encodeRuneZ_four (by omega) (by omega)]
          simp only [List.map_cons, List.map_nil]
          have e0 : (240 + (n : Int) / 262144).toNat = 240 + n / 262144 := by omega
          have e1 : (128 + (n : Int) / 4096 % 64).toNat = 128 + n / 4096 % 64 := by omega
          have e2 : (128 + (n : Int) / 64 % 64).toNat = 128 + n / 64 % 64 := by omega
          have e3 : (128 + (n : Int) % 64).toNat = 128 + n % 64 := by omega
          rw [e0, e1, e2, e3]
  · have hv : ¬ Utf8.valid r = true := by unfold Utf8.valid; simpa using h1
    unfold Utf8.encode
    rw [if_neg hv, encodeRuneZ_bad (by omega)]
    decide
theorem foldl_enc : ∀ (l : List Int) (s : ByteArray), (l.foldl (fun r n => r ++ Utf8.encode n) s).data.toList = s.data.toList ++ enc l
  | [], s => by simp [enc]
  | z :: l, s => by
    rw [List.foldl_cons, foldl_enc l]
    simp [enc, encode_eq]
theorem runesBytes_enc (l : List Int) : runesBytes l = ⟨(enc l).toArray⟩ := by
  have h := foldl_enc l ByteArray.empty
  unfold runesBytes
  have he : ByteArray.empty.data.toList = [] := rfl
  rw [he, List.nil_append] at h
  generalize List.foldl (fun r n => r ++ Utf8.encode n) ByteArray.empty l = s at h
  cases s
  simp only at h
  rw [← h]
theorem enc_cons (z : Int) (l : List Int) : enc (z :: l) = encodeRune z ++ enc l := by simp [enc]
theorem encodeRune_len (z : Int) : 1 ≤ (encodeRune z).length ∧ (encodeRune z).length ≤ 4 := by
  have := encodeRuneZ_length z
  simpa [encodeRune] using this
theorem enc_len (l : List Int) : (enc l).length ≤ 4 * l.length := by
  induction l with
  | nil => simp [enc]
  | cons z l ih =>
    have := encodeRune_len z
    rw [enc_cons]
    simp only [List.length_append, List.length_cons]
    omega
end Go.Proofs.Ytpcbbhfbldchlaa
namespace Go.Proofs.Ytpcbbhfbldchlaa
open Go.Lib
abbrev Tok := Int × Int
abbrev Dg := Int × Int × Int
/-- Names, and the rune of each. -/
def nmTab : List (List UInt8 × Int) := [([101, 109], 8212), ([101, 110], 8211), ([104, 121], 8208), ([98, 117], 8226), ([108, 113], 8220), ([114, 113], 8221), ([111, 113], 8216), ([99, 113], 8217), ([97, 113], 39), ([100, 113], 34), ([99, 111], 169), ([114, 103], 174), ([116, 109], 8482), ([114, 115], 92), ([104, 97], 94), ([116, 105], 126), ([109, 117], 215), ([100, 105], 247), ([60, 45], 8592), ([45, 62], 8594), ([60, 61], 8804), ([62, 61], 8805), ([33, 61], 8800), ([100, 101], 176), ([115, 99], 167), ([69, 117], 8364), ([117, 58], 252), ([111, 58], 246), ([97, 58], 228), ([115, 115], 223)]
def nmLook : List (List UInt8 × Int) → List UInt8 → Option Int
  | [], _ => none
  | p :: t, b => if p.1 = b then some p.2 else nmLook t b
/-- A digit's number. -/
def hexd (c : Int) : Option Int := if 48 ≤ c ∧ c ≤ 57 then some (c - 48) else if 65 ≤ c ∧ c ≤ 70 then some (c - 55) else none
def hexN : List UInt8 → Int → Option Int
  | [], n => some n
  | c :: r, n => match hexd (c.toNat : Int) with
    | none => none
    | some d => hexN r (n * 16 + d)
/-- A rune that is named by its number. -/
def numOf (b : List UInt8) : Option Int :=
  if b.length < 5 ∨ 7 < b.length ∨ b.head? ≠ some 117 then none
  else match hexN b.tail 0 with
    | none => none
    | some n => if vld n = true ∧ ctl n = false then some n else none
def nmOf (b : List UInt8) : Option Int := match nmLook nmTab b with
  | some r => some r
  | none => numOf b
def ftOf (b : List UInt8) : Option Int :=
  if b = [82] ∨ b = [49] then some 0 else if b = [66] ∨ b = [50] then some 1 else if b = [73] ∨ b = [51] then some 2 else if b = [66, 73] ∨ b = [52] then some 3 else if b = [80] then some 4 else none
/-- Where the first bracket stands that closes. -/
def ix : List Int → Option Nat
  | [] => none
  | c :: r => if c = 93 then some 0 else (ix r).map (· + 1)
/-- A name that begins here, and how many runes it takes. -/
def nameL : List Int → Option (List Int × Nat)
  | [] => none
  | c :: r => if c = 40 then (if r.length < 2 then none else some (r.take 2, 3)) else if c = 91 then (match ix r with
    | none => none
    | some k => some (r.take k, k + 2)) else some ([c], 1)
def simC (d : Int) : Option Int := if d = 92 ∨ d = 101 then some 92 else if d = 45 ∨ d = 96 ∨ d = 46 then some d else if d = 39 then some 180 else if d = 32 ∨ d = 126 ∨ d = 48 then some 160 else none
/-- What is behind a backslash: tokens, what is wrong, how many runes it takes with its backslash. -/
def escL (r : List Int) : List Tok × List Int × Nat := match r with
  | [] => ([], [1], 1)
  | d :: q => match simC d with
    | some x => ([(1, x)], [], 2)
    | none =>
      if d = 38 ∨ d = 37 ∨ d = 47 ∨ d = 44 ∨ d = 58 then ([], [], 2)
      else if d = 34 then ([], [], q.length + 2)
      else if d = 40 ∨ d = 91 then (match nameL (d :: q) with
        | none => ([], [1], q.length + 2)
        | some (n, k) => match nmOf (enc n) with
          | some x => ([(1, x)], [], k + 1)
          | none => ([], [2], k + 1))
      else if d = 102 then (match nameL q with
        | none => ([], [1], q.length + 2)
        | some (n, k) => match ftOf (enc n) with
          | some x => ([(3, x)], [], k + 2)
          | none => ([], [2], k + 2))
      else ([], [1], 2)
def stepL (s : List Int) : List Tok × List Int × Nat := match s with
  | [] => ([], [], 1)
  | c :: r => if c = 92 then escL r else if c = 32 ∨ c = 9 then ([(2, 0)], [], 1) else if ctl c = true then ([(1, 65533)], [3], 1) else ([(1, c)], [], 1)
def dgs (p : Nat) (l : List Int) : List Dg := l.map fun k => (k, 0, (p : Int) + 1)
def scanF : Nat → Nat → List Int → List Tok × List Dg
  | 0, _, _ => ([], [])
  | n + 1, p, s => if s = [] then ([], []) else ((stepL s).1 ++ (scanF n (p + (stepL s).2.2) (s.drop (stepL s).2.2)).1, dgs p (stepL s).2.1 ++ (scanF n (p + (stepL s).2.2) (s.drop (stepL s).2.2)).2)
/-- All that a text says from a place on. -/
def scanL (p : Nat) (s : List Int) : List Tok × List Dg := scanF s.length p s
theorem ix_lt : ∀ (l : List Int) (k : Nat), ix l = some k → k < l.length
  | [], k, h => by cases h
  | c :: r, k, h => by
    unfold ix at h
    split at h
    · cases h; simp
    · cases hr : ix r with
      | none => rw [hr] at h; cases h
      | some j =>
        rw [hr] at h
        cases h
        have := ix_lt r j hr
        simpa using this
theorem nameL_cons (c : Int) (r : List Int) : nameL (c :: r) = if c = 40 then (if r.length < 2 then none else some (r.take 2, 3)) else if c = 91 then (match ix r with
    | none => none
    | some k => some (r.take k, k + 2)) else some ([c], 1) := rfl
theorem nameL_le {s : List Int} {n : List Int} {k : Nat} (h : nameL s = some (n, k)) : 1 ≤ k ∧ k ≤ s.length := by
  cases s with
  | nil => cases h
  | cons c r =>
    rw [nameL_cons] at h
    split at h
    · split at h
      · cases h
      · cases h; simp only [List.length_cons]; omega
    · split at h
      · cases hr : ix r with
        | none => rw [hr] at h; cases h
        | some j =>
          rw [hr] at h
          cases h
          have := ix_lt r j hr
          simp only [List.length_cons]; omega
      · cases h; simp
theorem nameL_some_len {s n : List Int} {k : Nat} (h : nameL s = some (n, k)) : n.length ≤ s.length := by
  cases s with
  | nil => cases h
  | cons c r =>
    rw [nameL_cons] at h
    split at h
    · split at h
      · cases h
      · cases h; simp only [List.length_cons, List.length_take]; omega
    · split at h
      · cases hr : ix r with
        | none => rw [hr] at h; cases h
        | some j =>
          rw [hr] at h
          cases h
          simp only [List.length_cons, List.length_take]; omega
      · cases h; simp
theorem escL_bd (r : List Int) : (escL r).1.length ≤ 1 ∧ (escL r).2.1.length ≤ 1 ∧ 1 ≤ (escL r).2.2 ∧ (escL r).2.2 ≤ r.length + 1 := by
  cases r with
  | nil => simp [escL]
  | cons d q =>
    unfold escL
    simp only
    split
    · simp
    · split
      · simp
      · split
        · simp
        · split
          · split
            · simp
            · rename_i n k hn
              have hk := nameL_le hn
              simp only [List.length_cons] at hk
              split <;> simp <;> omega
          · split
            · split
              · simp
              · rename_i n k hn
                have hk := nameL_le hn
                split <;> simp <;> omega
            · simp
theorem stepL_bd (s : List Int) : (stepL s).1.length ≤ 1 ∧ (stepL s).2.1.length ≤ 1 ∧ 1 ≤ (stepL s).2.2 ∧ (s ≠ [] → (stepL s).2.2 ≤ s.length) := by
  cases s with
  | nil => simp [stepL]
  | cons c r =>
    have h := escL_bd r
    unfold stepL
    simp only
    split
    · exact ⟨h.1, h.2.1, h.2.2.1, fun _ => by simpa using h.2.2.2⟩
    · split
      · simp
      · split <;> simp
theorem scanF_nil : ∀ n p, scanF n p [] = ([], [])
  | 0, _ => rfl
  | _ + 1, _ => by simp [scanF]
theorem scanF_fuel : ∀ (n m p : Nat) (s : List Int), s.length ≤ n → s.length ≤ m → scanF n p s = scanF m p s
  | 0, m, p, s, hn, _ => by
    have : s = [] := List.eq_nil_of_length_eq_zero (by omega)
    subst this
    rw [scanF_nil, scanF_nil]
  | n + 1, 0, p, s, _, hm => by
    have : s = [] := List.eq_nil_of_length_eq_zero (by omega)
    subst this
    rw [scanF_nil, scanF_nil]
  | n + 1, m + 1, p, s, hn, hm => by
    unfold scanF
    by_cases hne : s = []
    · simp [hne]
    · have hw := (stepL_bd s).2.2.1
      have hl : 0 < s.length := List.length_pos_iff.2 hne
      rw [if_neg hne, if_neg hne, scanF_fuel n m _ (s.drop (stepL s).2.2) (by rw [List.length_drop]; omega) (by rw [List.length_drop]; omega)]
theorem scanL_nil (p : Nat) : scanL p [] = ([], []) := rfl
theorem scanL_step (p : Nat) (s : List Int) (hne : s ≠ []) : scanL p s = ((stepL s).1 ++ (scanL (p + (stepL s).2.2) (s.drop (stepL s).2.2)).1, dgs p (stepL s).2.1 ++ (scanL (p + (stepL s).2.2) (s.drop (stepL s).2.2)).2) := by
  have hl : 0 < s.length := List.length_pos_iff.2 hne
  have hw := (stepL_bd s).2.2.1
  obtain ⟨n, hn⟩ : ∃ n, s.length = n + 1 := ⟨s.length - 1, by omega⟩
  unfold scanL
  rw [hn]
  show (if s = [] then _ else _) = _
  rw [if_neg hne, scanF_fuel n (s.drop (stepL s).2.2).length _ _ (by rw [List.length_drop]; omega) (Nat.le_refl _)]
/-- What was told so far, and what is told from here on, is all. -/
structure Sofar (L : List Int) (TT : List Tok) (DD : List Dg) (p : Nat) (T : List Tok) (D : List Dg) : Prop where
  t : T ++ (scanL p (L.drop p)).1 = TT
  d : D ++ (scanL p (L.drop p)).2 = DD
  tl : T.length ≤ p
  dl : D.length ≤ p
theorem Sofar.start (L : List Int) : Sofar L (scanL 0 L).1 (scanL 0 L).2 0 [] [] := ⟨by simp, by simp, by simp, by simp⟩
theorem Sofar.next {L : List Int} {TT : List Tok} {DD : List Dg} {p : Nat} {T : List Tok} {D : List Dg} (h : Sofar L TT DD p T D) (hp : p < L.length) {t : List Tok} {d : List Int} {k : Nat} (hs : stepL (L.drop p) = (t, d, k)) :
    Sofar L TT DD (p + k) (T ++ t) (D ++ dgs p d) := by
  have hne : L.drop p ≠ [] := by
    intro h0
    have := congrArg List.length h0
    simp only [List.length_drop, List.length_nil] at this
    omega
  have hst := scanL_step p _ hne
  rw [hs] at hst
  simp only [List.drop_drop] at hst
  have hb := stepL_bd (L.drop p)
  rw [hs] at hb
  obtain ⟨b1, b2, b3, -⟩ := hb
  simp only at b1 b2 b3
  have h1 := h.t
  have h2 := h.d
  have tl := h.tl
  have dl := h.dl
  rw [hst] at h1 h2
  refine ⟨?_, ?_, ?_, ?_⟩
  · rw [List.append_assoc]; exact h1
  · rw [List.append_assoc]; exact h2
  · rw [List.length_append]; omega
  · rw [List.length_append]; unfold dgs; rw [List.length_map]; omega
theorem Sofar.done {L : List Int} {TT : List Tok} {DD : List Dg} {p : Nat} {T : List Tok} {D : List Dg} (h : Sofar L TT DD p T D) (hp : L.length ≤ p) : T = TT ∧ D = DD := by
  have h1 := h.t
  have h2 := h.d
  have h0 : L.drop p = [] := List.drop_eq_nil_of_le hp
  rw [h0, scanL_nil, List.append_nil] at h1 h2
  exact ⟨h1, h2⟩
theorem scanF_len : ∀ (n p : Nat) (s : List Int), s.length ≤ n → (scanF n p s).1.length ≤ s.length ∧ (scanF n p s).2.length ≤ s.length
  | 0, p, s, _ => by simp [scanF]
  | n + 1, p, s, hn => by
    unfold scanF
    by_cases hne : s = []
    · simp [hne]
    · have hb := stepL_bd s
      have hw := hb.2.2.2 hne
      have ih := scanF_len n (p + (stepL s).2.2) (s.drop (stepL s).2.2) (by rw [List.length_drop]; omega)
      rw [if_neg hne]
      simp only [List.length_append, List.length_drop, dgs, List.length_map] at ih ⊢
      omega
theorem scan_len (L : List Int) : (scanL 0 L).1.length ≤ L.length ∧ (scanL 0 L).2.length ≤ L.length := scanF_len _ _ _ (Nat.le_refl _)
theorem drop_cons {L : List Int} {p : Nat} {c : Int} (h : L[p]? = some c) : L.drop p = c :: L.drop (p + 1) := by
  obtain ⟨hp, rfl⟩ := List.getElem?_eq_some_iff.1 h
  exact List.drop_eq_getElem_cons hp
theorem step_at {L : List Int} {p : Nat} {c : Int} (h : L[p]? = some c) : stepL (L.drop p) = if c = 92 then escL (L.drop (p + 1)) else if c = 32 ∨ c = 9 then ([(2, 0)], [], 1) else if ctl c = true then ([(1, 65533)], [3], 1) else ([(1, c)], [], 1) := by
  rw [drop_cons h]; rfl
end Go.Proofs.Ytpcbbhfbldchlaa
