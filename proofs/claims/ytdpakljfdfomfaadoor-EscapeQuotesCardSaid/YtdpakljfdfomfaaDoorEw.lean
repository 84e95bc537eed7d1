/- Plain maths: a text that is quoted is read as it was. -/
import Derived.Test.YtdpakljfdfomfaaDoorEr
import Derived.Test.YtdpakljfdfomfaaDoorEu
import Derived.Test.YtdpakljfdfomfaaDoorM4
namespace Go.Proofs.YtdpakljfdfomfaaDoor
open Go.Lib

/-- Each backslash with an e behind it, rune by rune. -/
def qr (l : List Int) : List Int := l.flatMap fun c => if c = 92 then [92, 101] else [c]
theorem qr_cons (c : Int) (l : List Int) : qr (c :: l) = (if c = 92 then [92, 101] else [c]) ++ qr l := by simp [qr]
/-- A rune of more than one byte has none of ASCII. -/
theorem high_bytes {s : List Int} {a : Int} {t : List Int} (h : isR s = true) (hs : s = a :: t) (ha : 128 ≤ a) : (∀ x ∈ s, 128 ≤ x) ∧ 128 ≤ valZ s := by
  unfold isR at h
  simp only [Bool.and_eq_true, decide_eq_true_eq] at h
  obtain ⟨hv, he⟩ := h
  have hv2 : (0 ≤ valZ s ∧ valZ s < 55296) ∨ (57343 < valZ s ∧ valZ s ≤ 1114111) := by
    simpa [vld] using hv
  generalize valZ s = z at he hv2
  by_cases c1 : z < 128
  · rw [encodeRuneZ_one (by omega) (by omega), hs] at he
    injection he with h1 _
    omega
  · refine ⟨?_, by omega⟩
    rw [← he]
    intro x hx
    by_cases c2 : z < 2048
    · rw [encodeRuneZ_two (by omega) (by omega)] at hx
      simp only [List.mem_cons, List.not_mem_nil, or_false] at hx
      omega
    · by_cases c3 : z < 65536
      · rw [encodeRuneZ_three (by omega)] at hx
        simp only [List.mem_cons, List.not_mem_nil, or_false] at hx
        omega
      · rw [encodeRuneZ_four (by omega) (by omega)] at hx
        simp only [List.mem_cons, List.not_mem_nil, or_false] at hx
        omega
theorem quoteB_app (a b : List UInt8) : quoteB (a ++ b) = quoteB a ++ quoteB b := by simp [quoteB]
theorem quoteB_no {a : List UInt8} (h : ∀ x ∈ a, x ≠ 92) : quoteB a = a := by
  induction a with
  | nil => rfl
  | cons x a ih => rw [quoteB_cons, if_neg (h x (by simp)), ih (fun y hy => h y (by simp [hy]))]; rfl
/-- Where no backslash stands, the quoted text is the text. -/
theorem quoteB_take : ∀ (b : List UInt8) (k : Nat), k ≤ (quoteB b).length → (∀ x ∈ (quoteB b).take k, x ≠ 92) → (quoteB b).take k = b.take k ∧ k ≤ b.length
  | [], k, hk, _ => by simp [quoteB] at hk; subst hk; simp [quoteB]
  | x :: b, 0, _, _ => by simp
  | x :: b, k + 1, hk, h => by
    by_cases hx : x = 92
    · subst hx
      rw [quoteB_cons, if_pos rfl] at h
      exact absurd rfl (h 92 (by simp))
    · rw [quoteB_cons, if_neg hx] at hk h ⊢
      have ih := quoteB_take b k (by simpa using hk) (fun y hy => h y (by simp [hy]))
      rw [List.singleton_append, List.take_succ_cons, List.take_succ_cons, ih.1]
      exact ⟨rfl, by simpa using ih.2⟩
theorem ints_high {l : List UInt8} (h : ∀ x ∈ ints l, 128 ≤ x) : ∀ x ∈ l, x ≠ 92 := by
  intro x hx e
  subst e
  have := h _ (List.mem_map.2 ⟨92, hx, rfl⟩)
  revert this
  decide
theorem ints_take_head {c : UInt8} {r : List UInt8} {k : Nat} (hk : 1 ≤ k) : ints ((c :: r).take k) = (c.toNat : Int) :: ints (r.take (k - 1)) := by
  obtain ⟨j, rfl⟩ : ∃ j, k = j + 1 := ⟨k - 1, by omega⟩
  rw [List.take_succ_cons, Nat.add_sub_cancel]
  rfl
theorem take_len_left {α : Type} {a b : List α} {k : Nat} (h : a.length = k) : (a ++ b).take k = a := by subst h; exact List.take_left
theorem drop_len_left {α : Type} {a b : List α} {k : Nat} (h : a.length = k) : (a ++ b).drop k = b := by subst h; exact List.drop_left
/-- Quoted, and read: rune by rune as it was. -/
theorem dec_quote : ∀ (n : Nat) (b : List UInt8), b.length ≤ n → dec (quoteB b) = qr (dec b)
  | 0, b, hn => by
    have : b = [] := List.eq_nil_of_length_eq_zero (by omega)
    subst this
    rfl
  | n + 1, b, hn => by
    cases b with
    | nil => rfl
    | cons c r =>
      have hr : r.length ≤ n := by simpa using hn
      by_cases h92 : c = 92
      · subst h92
        rw [quoteB_cons, if_pos rfl, show [92, 101] ++ quoteB r = 92 :: 101 :: quoteB r from rfl, dec_ascii 92 _ (by decide), dec_ascii 101 _ (by decide), dec_quote n r hr, dec_ascii 92 r (by decide), qr_cons]
        rfl
      · have hc92 : ¬ (c.toNat : Int) = 92 := by
          intro e
          exact h92 (UInt8.toNat_inj.1 (by have : c.toNat = 92 := by omega
                                           exact this))
        have hq : quoteB (c :: r) = c :: quoteB r := by rw [quoteB_cons, if_neg h92]; rfl
        by_cases h128 : c.toNat < 128
        · rw [hq, dec_ascii c _ h128, dec_quote n r hr, dec_ascii c r h128, qr_cons, if_neg hc92]
          rfl
        · by_cases hex : ∃ k, 1 ≤ k ∧ k ≤ 4 ∧ k ≤ (c :: r).length ∧ isR (ints ((c :: r).take k)) = true
          · obtain ⟨k, k1, k4, kl, hk⟩ := hex
            have hh := high_bytes hk (ints_take_head k1) (by omega)
            have hno := ints_high hh.1
            have e1 : quoteB (c :: r) = (c :: r).take k ++ quoteB ((c :: r).drop k) := by
              conv => lhs; rw [← List.take_append_drop k (c :: r)]
              rw [quoteB_app, quoteB_no hno]
            have hlen : ((c :: r).take k).length = k := by rw [List.length_take]; omega
            have e2 : (quoteB (c :: r)).take k = (c :: r).take k := by rw [e1]; exact take_len_left hlen
            have e3 : (quoteB (c :: r)).drop k = quoteB ((c :: r).drop k) := by rw [e1]; exact drop_len_left hlen
            have kq : k ≤ (quoteB (c :: r)).length := by rw [e1, List.length_append]; omega
            rw [dec_found k1 kq (by rw [e2]; exact hk), e2, e3, dec_quote n _ (by rw [List.length_drop]; simp only [List.length_cons] at hn ⊢; omega), dec_found k1 kl hk, qr_cons, if_neg (by have := hh.2; omega)]
            rfl
          · have hodd : ∀ k, 1 ≤ k → k ≤ 4 → k ≤ (c :: r).length → isR (ints ((c :: r).take k)) = false := by
              intro k k1 k4 kl
              cases hk : isR (ints ((c :: r).take k)) with
              | false => rfl
              | true => exact absurd ⟨k, k1, k4, kl, hk⟩ hex
            have hodd2 : ∀ k, 1 ≤ k → k ≤ 4 → k ≤ (quoteB (c :: r)).length → isR (ints ((quoteB (c :: r)).take k)) = false := by
              intro k k1 k4 kl
              cases hk : isR (ints ((quoteB (c :: r)).take k)) with
              | false => rfl
              | true =>
                exfalso
                have hk' := hk
                rw [hq] at hk'
                have hh := high_bytes hk' (ints_take_head k1) (by omega)
                rw [← hq] at hh
                have hno := ints_high hh.1
                obtain ⟨e1, e2⟩ := quoteB_take (c :: r) k kl hno
                rw [e1] at hk
                exact hex ⟨k, k1, k4, e2, hk⟩
            rw [dec_odd (by rw [hq]; simp) hodd2, dec_odd (by simp) hodd, hq, List.drop_succ_cons, List.drop_succ_cons, List.drop_zero, List.drop_zero, dec_quote n r hr, qr_cons]
            rfl

/-- What a rune says that was quoted. -/
def oneQ (c : Int) : Tok := if c = 32 ∨ c = 9 then (2, 0) else if ctl c = true then (1, 65533) else (1, c)
theorem one1_Q (c : Int) : one1 c = [oneQ c] := by
  unfold one1 oneQ
  split
  · rfl
  · split <;> rfl
theorem esc_e (r : List Int) : stepL (92 :: 101 :: r) = ([(1, 92)], [], 2) := rfl
theorem tk_quote (l : List Int) : tk (qr l) = l.map oneQ := by
  induction l with
  | nil => rfl
  | cons c l ih =>
    by_cases h : c = 92
    · subst h
      rw [qr_cons, if_pos rfl, show [(92 : Int), 101] ++ qr l = 92 :: 101 :: qr l from rfl, tk_step _ (by simp), esc_e]
      simp only [List.drop_succ_cons, List.drop_zero]
      rw [ih]
      rfl
    · rw [qr_cons, if_neg h, List.singleton_append, tk_cons h, ih, one1_Q]
      rfl
/-- The kinds of what is wrong. -/
def dk (s : List Int) : List Int := (scanL 0 s).2.map (·.1)
theorem scanF_dk : ∀ (n p q : Nat) (s : List Int), (scanF n p s).2.map (·.1) = (scanF n q s).2.map (·.1)
  | 0, _, _, _ => rfl
  | n + 1, p, q, s => by
    unfold scanF
    by_cases hne : s = []
    · simp [hne]
    · rw [if_neg hne, if_neg hne]
      simp only [List.map_append, dgs, List.map_map]
      rw [scanF_dk n (p + (stepL s).2.2) (q + (stepL s).2.2)]
      rfl
theorem dk_step (s : List Int) (hne : s ≠ []) : dk s = (stepL s).2.1 ++ dk (s.drop (stepL s).2.2) := by
  unfold dk
  rw [scanL_step 0 s hne]
  simp only [List.map_append, dgs, List.map_map]
  unfold scanL
  rw [scanF_dk _ (0 + (stepL s).2.2) 0]
  congr 1
  simp [Function.comp_def]
/-- A control that is no blank. -/
def badC (c : Int) : Bool := !(decide (c = 32 ∨ c = 9)) && ctl c
theorem dk_quote (l : List Int) : dk (qr l) = l.flatMap fun c => if badC c = true then [3] else [] := by
  induction l with
  | nil => rfl
  | cons c l ih =>
    rw [List.flatMap_cons]
    by_cases h : c = 92
    · subst h
      rw [qr_cons, if_pos rfl, show [(92 : Int), 101] ++ qr l = 92 :: 101 :: qr l from rfl, dk_step _ (by simp), esc_e]
      simp only [List.drop_succ_cons, List.drop_zero]
      rw [ih]
      rfl
    · rw [qr_cons, if_neg h, List.singleton_append]
      have hs : stepL (c :: qr l) = if c = 32 ∨ c = 9 then ([(2, 0)], [], 1) else if ctl c = true then ([(1, 65533)], [3], 1) else ([(1, c)], [], 1) := by
        show (if c = 92 then _ else _) = _
        rw [if_neg h]
      rw [dk_step _ (by simp), hs]
      by_cases hb : c = 32 ∨ c = 9
      · rw [if_pos hb]
        simp only [List.drop_succ_cons, List.drop_zero]
        rw [ih]
        simp [badC, hb]
      · rw [if_neg hb]
        cases hc : ctl c with
        | true =>
          simp only [if_true, List.drop_succ_cons, List.drop_zero]
          rw [ih]
          simp [badC, hb, hc]
        | false =>
          simp only [Bool.false_eq_true, if_false, List.drop_succ_cons, List.drop_zero]
          rw [ih]
          simp [badC, hb, hc]
def cntB (l : List Int) : Nat := (l.filter badC).length
theorem dk_cnt (l : List Int) : (dk (qr l)).length = cntB l ∧ ∀ k ∈ dk (qr l), k = 3 := by
  rw [dk_quote]
  constructor
  · unfold cntB
    induction l with
    | nil => rfl
    | cons c l ih =>
      rw [List.flatMap_cons, List.length_append, ih]
      by_cases h : badC c = true
      · simp [h]; omega
      · simp [h]
  · intro k hk
    obtain ⟨c, _, hk⟩ := List.mem_flatMap.1 hk
    split at hk
    · simpa using hk
    · cases hk
theorem cnt_snoc {l : List Int} {j : Nat} {c : Int} (h : l[j]? = some c) : cntB (l.take (j + 1)) = cntB (l.take j) + if badC c = true then 1 else 0 := by
  unfold cntB
  rw [List.take_add_one, h, List.filter_append, List.length_append]
  by_cases hb : badC c = true <;> simp [hb]
theorem cnt_le (l : List Int) : cntB l ≤ l.length := List.length_filter_le _ _
/-- A text, quoted, and read. -/
theorem quote_scan (b : List UInt8) : tk (dec (quoteB b)) = (dec b).map oneQ ∧ (scanL 0 (dec (quoteB b))).2.length = cntB (dec b) ∧ ∀ d ∈ (scanL 0 (dec (quoteB b))).2, d.1 = 3 := by
  rw [dec_quote _ b (Nat.le_refl _)]
  have h := dk_cnt (dec b)
  refine ⟨tk_quote _, ?_, fun d hd => h.2 d.1 (List.mem_map.2 ⟨d, hd, rfl⟩)⟩
  have := h.1
  unfold dk at this
  rw [List.length_map] at this
  exact this
end Go.Proofs.YtdpakljfdfomfaaDoor
