/- Plain maths of layer 8: what a builder holds, and what becomes of it. -/
import Derived.Test.YtpccjgoeoeehoaaDoorQ2
set_option linter.unusedVariables false
set_option linter.unusedSimpArgs false
namespace Go.Proofs.YtpccjgoeoeehoaaDoor
open Go.RowKit
/-- Two texts, one behind the other. -/
def jn (a b : List Gly) : List Gly := if a = [] then b else if b = [] then a else a ++ [(32, 0)] ++ b
theorem ink_two (a b : List Gly) : ink (a ++ b) = ink a ++ ink b := by simp [ink]
/-- What a builder has: the document's names and nodes; what is open, the innermost last; a paragraph. -/
structure Bt where
  nm : Nm
  kids : List Nd
  opn : List Nd
  text : List Gly
  line : Int
  has : Bool
def ownKid (y x : Nd) : Nd := .mk y.hd (y.kids ++ [x])
def bLay (t : Bt) (x : Nd) : Bt :=
  match t.opn.getLast? with
  | none => { t with kids := t.kids ++ [x] }
  | some y => { t with opn := t.opn.dropLast ++ [ownKid y x] }
def paraN (t : Bt) : Nd := .mk ⟨3, t.line, 0, t.text, [], noGrid⟩ []
def bFlat (t : Bt) : Bt := { t with text := [], line := 0, has := false }
def bEnd (t : Bt) : Bt := bFlat (if ink t.text = [] then t else bLay t (paraN t))
def bText (t : Bt) (l : List Gly) (line : Int) : Bt := { t with text := jn t.text l, line := if t.has then t.line else line, has := true }
def bAdd (t : Bt) (x : Nd) : Bt := bLay (bEnd t) x
def bOpen (t : Bt) (x : Nd) : Bt := { bEnd t with opn := (bEnd t).opn ++ [x] }
def bPop (t : Bt) : Bt :=
  match t.opn.getLast? with
  | none => t
  | some x => bLay { t with opn := t.opn.dropLast } x
def bIn (t : Bt) (k : Int) : Bool := t.opn.any fun y => y.hd.kind == k
def popTo (k : Int) : Nat → Bt → Bt
  | 0, t => t
  | n + 1, t => match t.opn.getLast? with
    | none => t
    | some y => if y.hd.kind = k then bPop t else popTo k n (bPop t)
def bClose (t : Bt) (k : Int) : Bt × Bool := if bIn (bEnd t) k then (popTo k (bEnd t).opn.length (bEnd t), true) else (bEnd t, false)
def popAll (K : List Int) : Nat → Bt → Bt
  | 0, t => t
  | n + 1, t => match t.opn.getLast? with
    | none => t
    | some y => if y.hd.kind ∈ K then popAll K n (bPop t) else t
def bShut (t : Bt) (K : List Int) : Bt := popAll K (bEnd t).opn.length (bEnd t)
/-- All nodes, were all closed. -/
def wrapK : List Nd → List Nd
  | [] => []
  | y :: r => [.mk y.hd (y.kids ++ wrapK r)]
def bAll (t : Bt) : List Nd := t.kids ++ wrapK t.opn
def bDoc (t : Bt) : List Nd := tidyL (bAll (bEnd t))
theorem nd_eta (x : Nd) : Nd.mk x.hd x.kids = x := by cases x; rfl
theorem wrapK_two : ∀ (l : List Nd) (y x : Nd), wrapK (l ++ [y, x]) = wrapK (l ++ [ownKid y x])
  | [], y, x => by
    cases y; cases x
    simp [wrapK, ownKid, Nd.hd, Nd.kids]
  | z :: l, y, x => by
    have := wrapK_two l y x
    simp only [List.cons_append, wrapK, this]
theorem lay_none {t : Bt} (x : Nd) (h : t.opn = []) : bLay t x = { t with kids := t.kids ++ [x] } := by unfold bLay; rw [h]; rfl
theorem lay_some {t : Bt} (x : Nd) {l : List Nd} {y : Nd} (h : t.opn = l ++ [y]) : bLay t x = { t with opn := l ++ [ownKid y x] } := by unfold bLay; rw [h]; simp
theorem opn_cases (l : List Nd) : l = [] ∨ ∃ r y, l = r ++ [y] := by
  rcases List.eq_nil_or_concat l with h | ⟨r, y, h⟩
  · exact .inl h
  · exact .inr ⟨r, y, by simpa using h⟩
theorem pop_none {t : Bt} (h : t.opn = []) : bPop t = t := by unfold bPop; rw [h]; rfl
theorem pop_some {t : Bt} {l : List Nd} {x : Nd} (h : t.opn = l ++ [x]) : bPop t = bLay { t with opn := l } x := by unfold bPop; rw [h]; simp
theorem pop_all (t : Bt) : bAll (bPop t) = bAll t := by
  rcases opn_cases t.opn with h | ⟨l, x, h⟩
  · rw [pop_none h]
  · rw [pop_some h]
    rcases opn_cases l with h2 | ⟨r, y, h2⟩
    · rw [lay_none x (by exact h2)]
      unfold bAll
      simp only
      rw [h, h2]
      simp [wrapK, nd_eta]
    · rw [lay_some x (show ({ t with opn := l } : Bt).opn = r ++ [y] from h2)]
      unfold bAll
      simp only
      rw [h, h2, List.append_assoc]
      rw [show [y] ++ [x] = [y, x] from rfl, wrapK_two]
theorem pop_len (t : Bt) : (bPop t).opn.length = t.opn.length - 1 := by
  rcases opn_cases t.opn with h | ⟨l, x, h⟩
  · rw [pop_none h, h]; rfl
  · rw [pop_some h]
    rcases opn_cases l with h2 | ⟨r, y, h2⟩
    · rw [lay_none x (by exact h2), h]; simp [h2]
    · rw [lay_some x (show ({ t with opn := l } : Bt).opn = r ++ [y] from h2), h, h2]; simp
/-- What is kept by laying, popping: the names, the paragraph. -/
def sameP (t u : Bt) : Prop := u.nm = t.nm ∧ u.text = t.text ∧ u.line = t.line ∧ u.has = t.has
theorem sameP.trans {a b c : Bt} (h : sameP a b) (k : sameP b c) : sameP a c := ⟨k.1.trans h.1, k.2.1.trans h.2.1, k.2.2.1.trans h.2.2.1, k.2.2.2.trans h.2.2.2⟩
theorem lay_sameP (t : Bt) (x : Nd) : sameP t (bLay t x) := by
  unfold bLay
  split <;> exact ⟨rfl, rfl, rfl, rfl⟩
theorem pop_sameP (t : Bt) : sameP t (bPop t) := by
  unfold bPop
  split
  · exact ⟨rfl, rfl, rfl, rfl⟩
  · exact (show sameP t { t with opn := t.opn.dropLast } from ⟨rfl, rfl, rfl, rfl⟩).trans (lay_sameP _ _)
/-- No paragraph. -/
def flatB (t : Bt) : Prop := t.text = [] ∧ t.line = 0 ∧ t.has = false
theorem end_of {t : Bt} (h : flatB t) : bEnd t = t := by
  obtain ⟨nm, kids, opn, text, line, has⟩ := t
  obtain ⟨h1, h2, h3⟩ := h
  simp only at h1 h2 h3
  subst h1 h2 h3
  rfl
end Go.Proofs.YtpccjgoeoeehoaaDoor
