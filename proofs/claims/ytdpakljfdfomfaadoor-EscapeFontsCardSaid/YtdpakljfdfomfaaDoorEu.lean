/- Plain maths: a rune that is named, with whatever behind it. -/
import Derived.Test.YtdpakljfdfomfaaDoorEt
import Derived.Test.YtdpakljfdfomfaaDoorE3
namespace Go.Proofs.YtdpakljfdfomfaaDoor
open Go.Lib

theorem enc_asc (b : List UInt8) (h : ∀ x ∈ b, x.toNat < 128) : enc (b.map fun x => (x.toNat : Int)) = b := by
  induction b with
  | nil => rfl
  | cons x b ih =>
    rw [List.map_cons, enc_cons, ih (fun y hy => h y (by simp [hy]))]
    have hx := h x (by simp)
    unfold encodeRune
    rw [encodeRuneZ_one (by omega) (by omega)]
    simp
theorem hexN_asc : ∀ (l : List UInt8) (n x : Int), hexN l n = some x → ∀ c ∈ l, c.toNat < 128 ∧ c ≠ 93
  | [], _, _, _, c, hc => by cases hc
  | y :: l, n, x, h, c, hc => by
    unfold hexN at h
    cases hd : hexd (y.toNat : Int) with
    | none => rw [hd] at h; cases h
    | some d =>
      rw [hd] at h
      rcases List.mem_cons.1 hc with rfl | hc
      · have hb : (48 ≤ c.toNat ∧ c.toNat ≤ 57) ∨ (65 ≤ c.toNat ∧ c.toNat ≤ 70) := by
          unfold hexd at hd
          split at hd
          · omega
          · split at hd
            · omega
            · cases hd
        refine ⟨by omega, ?_⟩
        rintro rfl
        have e : (93 : UInt8).toNat = 93 := by decide
        omega
      · exact hexN_asc l _ x h c hc
theorem nmTab_asc : ∀ p ∈ nmTab, ∀ c ∈ p.1, c.toNat < 128 ∧ c ≠ 93 := by decide +kernel
theorem nmLook_mem : ∀ (l : List (List UInt8 × Int)) (b : List UInt8) (x : Int), nmLook l b = some x → ∃ p ∈ l, p.1 = b
  | [], _, _, h => by cases h
  | p :: l, b, x, h => by
    unfold nmLook at h
    split at h
    · rename_i e; exact ⟨p, by simp, e⟩
    · obtain ⟨q, hq, e⟩ := nmLook_mem l b x h
      exact ⟨q, by simp [hq], e⟩
theorem numOf_asc {b : List UInt8} {x : Int} (h : numOf b = some x) : ∀ c ∈ b, c.toNat < 128 ∧ c ≠ 93 := by
  by_cases h0 : b.length < 5
  · rw [numOf_short h0] at h; cases h
  · by_cases h1 : 7 < b.length
    · rw [numOf_long h1] at h; cases h
    · by_cases h2 : b.head? = some 117
      · rw [numOf_hex (by omega) (by omega) h2] at h
        cases hn : hexN b.tail 0 with
        | none => rw [hn] at h; cases h
        | some n =>
          intro c hc
          cases b with
          | nil => cases hc
          | cons y r =>
            simp at h2
            subst h2
            rcases List.mem_cons.1 hc with rfl | hc
            · decide
            · exact hexN_asc r 0 n hn c hc
      · rw [numOf_other h2] at h; cases h
theorem nmOf_asc {b : List UInt8} {x : Int} (h : nmOf b = some x) : ∀ c ∈ b, c.toNat < 128 ∧ c ≠ 93 := by
  unfold nmOf at h
  cases hl : nmLook nmTab b with
  | some r =>
    obtain ⟨p, hp, rfl⟩ := nmLook_mem _ _ _ hl
    exact nmTab_asc p hp
  | none =>
    rw [hl] at h
    exact numOf_asc h
theorem nmOf_len {b : List UInt8} {x : Int} (h : nmOf b = some x) : b.length ≤ 7 := by
  unfold nmOf at h
  cases hl : nmLook nmTab b with
  | some r =>
    obtain ⟨p, hp, rfl⟩ := nmLook_mem _ _ _ hl
    have : ∀ p ∈ nmTab, p.1.length ≤ 7 := by decide +kernel
    exact this p hp
  | none =>
    rw [hl] at h
    by_cases h1 : 7 < b.length
    · have h2 : numOf b = some x := h
      rw [numOf_long h1] at h2; cases h2
    · omega
theorem ix_app : ∀ (a r : List Int), (∀ z ∈ a, z ≠ 93) → ix (a ++ 93 :: r) = some a.length
  | [], r, _ => rfl
  | z :: a, r, h => by
    rw [List.cons_append, ix_cons' z, if_neg (h z (by simp)), ix_app a r (fun y hy => h y (by simp [hy]))]
    rfl
where
  ix_cons' (c : Int) {r : List Int} : ix (c :: r) = if c = 93 then some 0 else (ix r).map (· + 1) := rfl
/-- How much is wrong. -/
def dn (s : List Int) : Nat := (scanL 0 s).2.length
theorem scanF_dn : ∀ (n p q : Nat) (s : List Int), (scanF n p s).2.length = (scanF n q s).2.length
  | 0, _, _, _ => rfl
  | n + 1, p, q, s => by
    unfold scanF
    by_cases hne : s = []
    · simp [hne]
    · rw [if_neg hne, if_neg hne]
      simp only [List.length_append, dgs, List.length_map]
      rw [scanF_dn n (p + (stepL s).2.2) (q + (stepL s).2.2)]
theorem dn_step (s : List Int) (hne : s ≠ []) : dn s = (stepL s).2.1.length + dn (s.drop (stepL s).2.2) := by
  unfold dn
  rw [scanL_step 0 s hne]
  simp only [List.length_append, dgs, List.length_map]
  unfold scanL
  rw [scanF_dn _ (0 + (stepL s).2.2) 0]
theorem esc_brack (n r : List Int) {x : Int} (hz : ∀ z ∈ n, z ≠ 93) (h : nmOf (enc n) = some x) : stepL (92 :: 91 :: (n ++ 93 :: r)) = ([(1, x)], [], n.length + 3) := by
  have hn : nameL (91 :: (n ++ 93 :: r)) = some (n, n.length + 2) := by
    rw [nameL_cons, if_neg (by decide), if_pos rfl, ix_app n r hz]
    simp
  have hs : simC 91 = none := by decide
  have e : stepL (92 :: 91 :: (n ++ 93 :: r)) = escL (91 :: (n ++ 93 :: r)) := rfl
  rw [e]
  unfold escL
  simp only
  rw [hs]
  simp only
  rw [if_neg (by decide), if_neg (by decide), if_pos (by simp), hn]
  simp only
  rw [h]
theorem esc_paren (n r : List Int) {x : Int} (hl : n.length = 2) (h : nmOf (enc n) = some x) : stepL (92 :: 40 :: (n ++ r)) = ([(1, x)], [], 4) := by
  have hn : nameL (40 :: (n ++ r)) = some (n, 3) := by
    rw [nameL_cons, if_pos rfl, if_neg (by rw [List.length_append]; omega), ← hl, List.take_left]
  have hs : simC 40 = none := by decide
  have e : stepL (92 :: 40 :: (n ++ r)) = escL (40 :: (n ++ r)) := rfl
  rw [e]
  unfold escL
  simp only
  rw [hs]
  simp only
  rw [if_neg (by decide), if_neg (by decide), if_pos (by simp), hn]
  simp only
  rw [h]
theorem ints_no {s : List UInt8} (h : ∀ c ∈ s, c.toNat < 128 ∧ c ≠ 93) : ∀ z ∈ s.map (fun x => (x.toNat : Int)), z ≠ 93 := by
  intro z hz e
  obtain ⟨c, hc, rfl⟩ := List.mem_map.1 hz
  exact (h c hc).2 (UInt8.toNat_inj.1 (by have : c.toNat = 93 := by omega
                                          exact this))
theorem named_dec (s t : List UInt8) (h : ∀ c ∈ s, c.toNat < 128 ∧ c ≠ 93) : dec ([92, 91] ++ s ++ [93] ++ t) = 92 :: 91 :: (s.map (fun x => (x.toNat : Int)) ++ 93 :: dec t) := by
  have : ∀ x ∈ [92, 91] ++ s ++ [93], x.toNat < 128 := by
    intro x hx
    simp only [List.mem_append, List.mem_cons, List.not_mem_nil, or_false] at hx
    rcases hx with ((rfl | rfl) | hx) | rfl
    · decide
    · decide
    · exact (h x hx).1
    · decide
  rw [dec_asc_app _ t this]
  simp
theorem named_dec2 (s t : List UInt8) (h : ∀ c ∈ s, c.toNat < 128 ∧ c ≠ 93) : dec ([92, 40] ++ s ++ t) = 92 :: 40 :: (s.map (fun x => (x.toNat : Int)) ++ dec t) := by
  have : ∀ x ∈ [92, 40] ++ s, x.toNat < 128 := by
    intro x hx
    simp only [List.mem_append, List.mem_cons, List.not_mem_nil, or_false] at hx
    rcases hx with (rfl | rfl) | hx
    · decide
    · decide
    · exact (h x hx).1
  rw [dec_asc_app _ t this]
  simp
/-- A rune that is named in brackets. -/
theorem named_scan {s : List UInt8} {x : Int} (t : List UInt8) (h : nmOf s = some x) : tk (dec ([92, 91] ++ s ++ [93] ++ t)) = [(1, x)] ++ tk (dec t) ∧ dn (dec ([92, 91] ++ s ++ [93] ++ t)) = dn (dec t) := by
  have ha := nmOf_asc h
  have he := enc_asc s (fun c hc => (ha c hc).1)
  rw [named_dec s t ha]
  have hst := esc_brack (s.map fun x => (x.toNat : Int)) (dec t) (x := x) (ints_no ha) (by rw [he]; exact h)
  have hd : (92 :: 91 :: (s.map (fun x => (x.toNat : Int)) ++ 93 :: dec t)).drop ((s.map fun x => (x.toNat : Int)).length + 3) = dec t := by
    rw [show (s.map fun x => (x.toNat : Int)).length + 3 = (s.map fun x => (x.toNat : Int)).length + 1 + 1 + 1 by omega, List.drop_succ_cons, List.drop_succ_cons, List.drop_append]
    simp
  constructor
  · rw [tk_step _ (by simp), hst]
    simp only
    rw [hd]
  · rw [dn_step _ (by simp), hst]
    simp only
    rw [hd]
    simp
/-- .. behind a parenthesis. -/
theorem named_scan2 {s : List UInt8} {x : Int} (t : List UInt8) (hl : s.length = 2) (h : nmOf s = some x) : tk (dec ([92, 40] ++ s ++ t)) = [(1, x)] ++ tk (dec t) := by
  have ha := nmOf_asc h
  have he := enc_asc s (fun c hc => (ha c hc).1)
  rw [named_dec2 s t ha]
  have hll : (s.map fun x => (x.toNat : Int)).length = 2 := by rw [List.length_map]; exact hl
  have hst := esc_paren (s.map fun x => (x.toNat : Int)) (dec t) (x := x) hll (by rw [he]; exact h)
  rw [tk_step _ (by simp), hst]
  simp only
  rw [List.drop_succ_cons, List.drop_succ_cons, ← hll, List.drop_left]
end Go.Proofs.YtdpakljfdfomfaaDoor
