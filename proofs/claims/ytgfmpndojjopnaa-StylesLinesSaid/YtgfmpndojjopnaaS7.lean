/- A plain text, set. -/
import Derived.Test.YtgfmpndojjopnaaS5
import Derived.Deep.QuietTactic
import Derived.BigQuiet
import Derived.Deep.RegionWith
namespace Go.Proofs.Ytgfmpndojjopnaa
open Go.RowKit Go.Lib

theorem dec_asc7_app (a c : List UInt8) (h : ∀ x ∈ a, x.toNat < 128) : dec (a ++ c) = a.map (fun x => (x.toNat : Int)) ++ dec c := by
  induction a with
  | nil => rfl
  | cons x a ih =>
    rw [List.cons_append, dec_ascii x _ (h x (by simp)), ih (fun y hy => h y (by simp [hy]))]
    rfl
theorem dec_asc7 (a : List UInt8) (h : ∀ x ∈ a, x.toNat < 128) : dec a = a.map (fun x => (x.toNat : Int)) := by
  have := dec_asc7_app a [] h
  rw [List.append_nil, dec_nil, List.append_nil] at this
  exact this
def plTok (c : Int) : Tok := if c = 32 then (2, 0) else (1, c)
def plGly (n : Int) (c : Int) : Gly := (c, if c = 32 then 0 else n)
theorem step_plain {c : Int} (h : 32 ≤ c ∧ c ≤ 126 ∧ c ≠ 92) (r : List Int) : stepL (c :: r) = ([plTok c], [], 1) := by
  unfold stepL plTok
  simp only
  rw [if_neg h.2.2]
  by_cases h1 : c = 32
  · rw [if_pos (.inl h1), if_pos h1]
  · have h2 : ctl c = false := by unfold ctl; simp; omega
    rw [if_neg (by omega), h2, if_neg (by decide), if_neg h1]
theorem scan_plain : ∀ (L : List Int) (p : Nat), (∀ c ∈ L, 32 ≤ c ∧ c ≤ 126 ∧ c ≠ 92) → scanL p L = (L.map plTok, [])
  | [], p, _ => rfl
  | c :: r, p, h => by
    rw [scanL_step p (c :: r) (by simp), step_plain (h c (by simp)) r]
    have := scan_plain r (p + 1) (fun x hx => h x (by simp [hx]))
    simp only [List.drop_succ_cons, List.drop_zero, this, dgs]
    simp
theorem set_plain (f : Fce) : ∀ (L : List Int), gset f (L.map plTok) = (L.map (plGly f.1), f)
  | [] => rfl
  | c :: r => by
    have e : (c :: r).map plTok = [plTok c] ++ r.map plTok := rfl
    have h1 : gset f [plTok c] = ([plGly f.1 c], f) := by
      unfold gset plTok plGly
      by_cases h : c = 32
      · simp [gstep, h]
      · simp [gstep, h]
    rw [e, gset_app, h1]
    simp only
    rw [set_plain f r]
    rfl
/-- A byte of plain text. -/
def plB (x : UInt8) : Prop := ¬ ((x.toNat : Int) < 32) ∧ ¬ (126 < (x.toNat : Int)) ∧ ¬ ((x.toNat : Int) = 92)
theorem line_plain (f : Fce) (b : List UInt8) (h : ∀ x ∈ b, plB x) : gset f (scanL 0 (dec b)).1 = (b.map (fun x => plGly f.1 (x.toNat : Int)), f) ∧ (scanL 0 (dec b)).2 = [] := by
  have h1 : ∀ x ∈ b, x.toNat < 128 := fun x hx => by have := h x hx; unfold plB at this; omega
  rw [dec_asc7 b h1, scan_plain _ 0 (fun c hc => by
    obtain ⟨x, hx, rfl⟩ := List.mem_map.1 hc
    have := h x hx
    unfold plB at this
    omega)]
  refine ⟨?_, rfl⟩
  simp only
  rw [set_plain, List.map_map]
  rfl
end Go.Proofs.Ytgfmpndojjopnaa
