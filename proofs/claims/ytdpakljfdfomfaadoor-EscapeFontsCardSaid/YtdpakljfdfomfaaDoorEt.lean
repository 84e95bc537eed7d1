/- Plain maths: what texts say, one behind the other. -/
import Derived.Test.YtdpakljfdfomfaaDoorE1
namespace Go.Proofs.YtdpakljfdfomfaaDoor
open Go.Lib

theorem scanF_tok : ∀ (n p q : Nat) (s : List Int), (scanF n p s).1 = (scanF n q s).1
  | 0, _, _, _ => rfl
  | n + 1, p, q, s => by
    unfold scanF
    by_cases hne : s = []
    · simp [hne]
    · rw [if_neg hne, if_neg hne]
      simp only
      rw [scanF_tok n (p + (stepL s).2.2) (q + (stepL s).2.2)]
/-- The tokens of runes. -/
def tk (s : List Int) : List Tok := (scanL 0 s).1
theorem tk_at (p : Nat) (s : List Int) : (scanL p s).1 = tk s := scanF_tok _ _ _ _
theorem tk_nil : tk [] = [] := rfl
theorem tk_step (s : List Int) (hne : s ≠ []) : tk s = (stepL s).1 ++ tk (s.drop (stepL s).2.2) := by
  unfold tk
  rw [scanL_step 0 s hne]
  simp only
  rw [tk_at]
  rfl
/-- What a rune says that begins no escape. -/
def one1 (c : Int) : List Tok := if c = 32 ∨ c = 9 then [(2, 0)] else if ctl c = true then [(1, 65533)] else [(1, c)]
theorem step_one {c : Int} (h : c ≠ 92) (r : List Int) : (stepL (c :: r)).1 = one1 c ∧ (stepL (c :: r)).2.2 = 1 := by
  unfold stepL one1
  simp only
  rw [if_neg h]
  split
  · exact ⟨rfl, rfl⟩
  · split
    · exact ⟨rfl, rfl⟩
    · exact ⟨rfl, rfl⟩
theorem tk_cons {c : Int} (h : c ≠ 92) (r : List Int) : tk (c :: r) = one1 c ++ tk r := by
  obtain ⟨h1, h2⟩ := step_one h r
  rw [tk_step _ (by simp), h1, h2]
  rfl
theorem tk_app (a c : List Int) (h : ∀ z ∈ a, z ≠ 92) : tk (a ++ c) = tk a ++ tk c := by
  induction a with
  | nil => rfl
  | cons z a ih =>
    rw [List.cons_append, tk_cons (h z (by simp)), tk_cons (h z (by simp)), ih (fun y hy => h y (by simp [hy])), List.append_assoc]
theorem dec_asc_app (a c : List UInt8) (h : ∀ x ∈ a, x.toNat < 128) : dec (a ++ c) = a.map (fun x => (x.toNat : Int)) ++ dec c := by
  induction a with
  | nil => rfl
  | cons x a ih =>
    rw [List.cons_append, dec_ascii x _ (h x (by simp)), ih (fun y hy => h y (by simp [hy]))]
    rfl
theorem dec_asc (a : List UInt8) (h : ∀ x ∈ a, x.toNat < 128) : dec a = a.map (fun x => (x.toNat : Int)) := by
  have := dec_asc_app a [] h
  rw [List.append_nil, dec_nil, List.append_nil] at this
  exact this
/-- Of a text of ASCII without a backslash, and any other behind it. -/
theorem tk_joins (a c : List UInt8) (h : ∀ x ∈ a, x.toNat ≤ 127 ∧ x ≠ 92) : tk (dec (a ++ c)) = tk (dec a) ++ tk (dec c) := by
  have h1 : ∀ x ∈ a, x.toNat < 128 := fun x hx => by have := (h x hx).1; omega
  rw [dec_asc_app a c h1, dec_asc a h1]
  refine tk_app _ _ fun z hz => ?_
  obtain ⟨x, hx, rfl⟩ := List.mem_map.1 hz
  intro e
  exact (h x hx).2 (UInt8.toNat_inj.1 (by have : x.toNat = 92 := by omega
                                          exact this))
theorem tk_len (s : List Int) : (tk s).length ≤ s.length := (scan_len s).1
end Go.Proofs.YtdpakljfdfomfaaDoor
