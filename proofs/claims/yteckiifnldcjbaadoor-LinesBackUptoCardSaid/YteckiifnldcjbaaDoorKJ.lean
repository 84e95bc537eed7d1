/- What a text reads as, line by line; what the laws' walks want. -/
import Derived.Test.YteckiifnldcjbaaDoorKI
namespace Go.Proofs.YteckiifnldcjbaaDoor
open Go.RowKit

theorem cr_plain {l : List UInt8} (h : (13 : UInt8) ∉ l) : cr l = l := by
  unfold cr Lib.trimSuffix
  have : Lib.hasSuffix l [13] = false := by
    rw [Bool.eq_false_iff]
    intro hs
    rw [Lib.hasSuffix, List.isSuffixOf_iff_suffix] at hs
    obtain ⟨t, rfl⟩ := hs
    exact h (by simp)
  rw [this]
  rfl
theorem trimLF (l : List UInt8) (c : UInt8) : Lib.trimSuffix (l ++ [c]) [c] = l := by
  unfold Lib.trimSuffix
  have : Lib.hasSuffix (l ++ [c]) [c] = true := by
    rw [Lib.hasSuffix, List.isSuffixOf_iff_suffix]
    exact ⟨l, rfl⟩
  rw [this]
  simp
theorem trim_other (l : List UInt8) (c d : UInt8) (h : d ≠ c) : Lib.trimSuffix (l ++ [d]) [c] = l ++ [d] := by
  unfold Lib.trimSuffix
  have : Lib.hasSuffix (l ++ [d]) [c] = false := by
    rw [Bool.eq_false_iff]
    intro hs
    rw [Lib.hasSuffix, List.isSuffixOf_iff_suffix] at hs
    obtain ⟨t, ht⟩ := hs
    have := List.append_inj_right' ht rfl
    simp at this
    exact h this.symm
  rw [this]
  rfl
theorem nil_or_snoc {α : Type} (l : List α) : l = [] ∨ ∃ m c, l = m ++ [c] := by
  rcases List.eq_nil_or_concat l with h | ⟨m, c, h⟩
  · exact .inl h
  · exact .inr ⟨m, c, by rw [h, List.concat_eq_append]⟩
/-- A carriage return at the end goes; what stands ahead stays. -/
theorem cr_app (a n : List UInt8) (h : a ++ n = [] ∨ n ≠ [] ∨ (a.getLast? ≠ some 13)) : ∃ n', cr (a ++ n) = a ++ n' := by
  rcases nil_or_snoc n with rfl | ⟨m, c, rfl⟩
  · rcases nil_or_snoc a with rfl | ⟨b, d, rfl⟩
    · exact ⟨[], rfl⟩
    · rcases h with h | h | h
      · simp at h
      · exact absurd rfl h
      · have hd : d ≠ 13 := fun e => h (by simp [e])
        refine ⟨[], ?_⟩
        simp only [List.append_nil]
        exact trim_other b 13 d hd
  · by_cases hc : c = 13
    · subst hc
      refine ⟨m, ?_⟩
      rw [← List.append_assoc]
      exact trimLF (a ++ m) 13
    · refine ⟨m ++ [c], ?_⟩
      rw [← List.append_assoc]
      exact trim_other (a ++ m) 13 c hc
theorem pcs_no : ∀ l : List UInt8, (10 : UInt8) ∉ l → pcs l = [l]
  | [], _ => rfl
  | c :: t, h => by
    simp only [List.mem_cons, not_or] at h
    unfold pcs
    rw [if_neg (Ne.symm h.1), pcs_no t h.2]
    rfl
theorem pcs_cut : ∀ (a b : List UInt8), (10 : UInt8) ∉ a → pcs (a ++ 10 :: b) = a :: pcs b
  | [], b, _ => by simp [pcs]
  | c :: t, b, h => by
    simp only [List.mem_cons, not_or] at h
    show pcs (c :: (t ++ 10 :: b)) = _
    conv => lhs; unfold pcs
    rw [if_neg (Ne.symm h.1), pcs_cut t b h.2]
    rfl
theorem unc_plain {l : List UInt8} (h : (92 : UInt8) ∉ l) : unc l = (l, false) := unc_none fun i _ => isC_no fun hm => h (List.mem_of_mem_take hm)
/-- A comment behind a text without backslashes. -/
theorem unc_note {a : List UInt8} (h : (92 : UInt8) ∉ a) (n : List UInt8) : unc (a ++ 92 :: 34 :: n) = (a, true) := by
  have h1 : a.length + 1 < (a ++ 92 :: 34 :: n).length := by simp
  have ht : (a ++ 92 :: 34 :: n).take (a.length + 1) = a ++ [92] := by
    rw [show a ++ 92 :: 34 :: n = (a ++ [92]) ++ 34 :: n by simp, List.take_left' (by simp)]
  have hc : isC (a ++ 92 :: 34 :: n) (a.length + 1) = true := by
    unfold isC
    rw [ht, sl_snoc, sl_none a h, List.getElem?_append_right (by omega)]
    simp
  rw [unc_some h1 hc (fun j hj => isC_no fun hm => ?_)]
  · simp
  · rw [List.take_append_of_le_length (by omega)] at hm
    exact h (List.mem_of_mem_take hm)
/-- A line that goes on. -/
theorem unc_more {a : List UInt8} (h : (92 : UInt8) ∉ a) : unc (a ++ [92]) = (a ++ [92], false) := unc_none fun i hi => by
  by_cases hia : i < a.length
  · refine isC_no fun hm => ?_
    rw [List.take_append_of_le_length (by omega)] at hm
    exact h (List.mem_of_mem_take hm)
  · have : i = a.length := by simp at hi; omega
    subst this
    unfold isC
    rw [List.getElem?_append_right (Nat.le_refl _)]
    simp
theorem more_plain (s : St) (fi : Int) {u : List UInt8} (h : (92 : UInt8) ∉ u) : s.more fi u = ⟨s.ln + 1, 0, [], s.rows ++ (tellRow fi (s.tx ++ u)).1, s.dg ++ (tellRow fi (s.tx ++ u)).2⟩ := by
  unfold St.more
  rw [if_neg (by rw [sl_none u h]; decide)]
theorem step_plain (s : St) (h0 : s.fi = 0) {l : List UInt8} (h : (92 : UInt8) ∉ l) : s.step l = ⟨s.ln + 1, 0, [], s.rows ++ (tellRow (s.ln + 1) (s.tx ++ l)).1, s.dg ++ (tellRow (s.ln + 1) (s.tx ++ l)).2⟩ := by
  unfold St.step
  rw [if_pos h0, unc_plain h, if_neg (by simp), more_plain _ _ h]
theorem readL_eq {s : List UInt8} (h : s ≠ []) : readL s = ((readS s).rows, (readS s).dg) := by unfold readL; rw [if_neg h]
theorem stop_zero (s : St) (h : s.fi = 0) : s.stop = s := by unfold St.stop; rw [if_pos h]

/-- One line without a backslash. -/
theorem read_line {l : List UInt8} (h92 : (92 : UInt8) ∉ l) (h10 : (10 : UInt8) ∉ l) (h13 : (13 : UInt8) ∉ l) : readL (l ++ [10]) = tellRow 1 l := by
  rw [readL_eq (by simp)]
  unfold readS
  rw [trimLF, pcs_no l h10]
  show ((st0.step (cr l)).stop.rows, (st0.step (cr l)).stop.dg) = _
  rw [cr_plain h13, step_plain st0 rfl h92, stop_zero _ rfl]
  simp [st0]
/-- A line that goes on. -/
theorem read_cut {a b : List UInt8} (h92 : (92 : UInt8) ∉ a ++ b) (h10 : (10 : UInt8) ∉ a ++ b) (h13 : (13 : UInt8) ∉ a ++ b) : readL (a ++ [92, 10] ++ b ++ [10]) = tellRow 1 (a ++ b) := by
  simp only [List.mem_append, not_or] at h92 h10 h13
  rw [readL_eq (by simp)]
  unfold readS
  rw [trimLF]
  have e : a ++ [92, 10] ++ b = (a ++ [92]) ++ 10 :: b := by simp
  rw [e, pcs_cut _ _ (by simp [h10.1]), pcs_no b h10.2]
  show (((st0.step (cr (a ++ [92]))).step (cr b)).stop.rows, ((st0.step (cr (a ++ [92]))).step (cr b)).stop.dg) = _
  rw [cr_plain (l := a ++ [92]) (by simp [h13.1]), cr_plain h13.2]
  have e1 : st0.step (a ++ [92]) = ⟨1, 1, a, [], []⟩ := by
    unfold St.step
    rw [if_pos (show st0.fi = 0 from rfl), unc_more h92.1, if_neg (by simp)]
    unfold St.more
    rw [if_pos (by rw [sl_snoc, sl_none a h92.1]; rfl)]
    simp [st0]
  rw [e1]
  have e2 : St.step ⟨1, 1, a, [], []⟩ b = ⟨2, 0, [], (tellRow 1 (a ++ b)).1, (tellRow 1 (a ++ b)).2⟩ := by
    unfold St.step
    rw [if_neg (by simp), unc_plain h92.2, more_plain _ _ h92.2]
    simp
  rw [e2, stop_zero _ rfl]
/-- A note behind a text. -/
theorem read_note {a n : List UInt8} (h92 : (92 : UInt8) ∉ a) (h10 : (10 : UInt8) ∉ a) (hn : (10 : UInt8) ∉ n) : readL (a ++ [92, 34] ++ n ++ [10]) = if a = [] then ([], []) else tellRow 1 a := by
  rw [readL_eq (by simp)]
  unfold readS
  rw [trimLF, pcs_no _ (by simp [h10, hn])]
  obtain ⟨n', hn'⟩ := cr_app (a ++ [92, 34]) n (.inr (.inr (by simp)))
  show ((st0.step (cr (a ++ [92, 34] ++ n))).stop.rows, (st0.step (cr (a ++ [92, 34] ++ n))).stop.dg) = _
  rw [hn']
  have e : a ++ [92, 34] ++ n' = a ++ 92 :: 34 :: n' := by simp
  rw [e]
  unfold St.step
  rw [if_pos (show st0.fi = 0 from rfl), unc_note h92 n']
  by_cases ha : a = []
  · rw [if_pos ha, if_pos ⟨rfl, ha⟩, stop_zero _ rfl]
    rfl
  · rw [if_neg ha, if_neg (fun h => ha h.2), more_plain _ _ h92, stop_zero _ rfl]
    simp [st0]
theorem tell_bare : tellRow 1 [46, 32, 32] = ([], []) := by kernel_rfl
theorem read_notes {n : List UInt8} (hn : (10 : UInt8) ∉ n) : readL ([46, 32, 32, 92, 34] ++ n ++ [10, 92, 34] ++ n ++ [10]) = ([], []) := by
  rw [readL_eq (by simp)]
  unfold readS
  rw [trimLF]
  have e : ([46, 32, 32, 92, 34] : List UInt8) ++ n ++ [10, 92, 34] ++ n = ([46, 32, 32, 92, 34] ++ n) ++ 10 :: ([92, 34] ++ n) := by simp
  rw [e, pcs_cut _ _ (by simp [hn]), pcs_no _ (by simp [hn])]
  obtain ⟨n1, hn1⟩ := cr_app [46, 32, 32, 92, 34] n (.inr (.inr (by decide)))
  obtain ⟨n2, hn2⟩ := cr_app [92, 34] n (.inr (.inr (by decide)))
  show (((st0.step (cr ([46, 32, 32, 92, 34] ++ n))).step (cr ([92, 34] ++ n))).stop.rows, ((st0.step (cr ([46, 32, 32, 92, 34] ++ n))).step (cr ([92, 34] ++ n))).stop.dg) = _
  rw [hn1, hn2]
  have e1 : st0.step ([46, 32, 32, 92, 34] ++ n1) = ⟨1, 0, [], [], []⟩ := by
    have u := unc_note (a := [46, 32, 32]) (by decide) n1
    have e0 : ([46, 32, 32, 92, 34] : List UInt8) ++ n1 = [46, 32, 32] ++ 92 :: 34 :: n1 := rfl
    unfold St.step
    rw [if_pos (show st0.fi = 0 from rfl), e0, u, if_neg (by simp), more_plain _ _ (by decide)]
    show St.mk 1 0 [] ([] ++ (tellRow 1 [46, 32, 32]).1) ([] ++ (tellRow 1 [46, 32, 32]).2) = _
    rw [tell_bare]
    rfl
  rw [e1]
  have e2 : St.step ⟨1, 0, [], [], []⟩ ([92, 34] ++ n2) = ⟨2, 0, [], [], []⟩ := by
    have u := unc_note (a := []) (by simp) n2
    have e0 : ([92, 34] : List UInt8) ++ n2 = [] ++ 92 :: 34 :: n2 := rfl
    unfold St.step
    rw [if_pos (show (0 : Int) = 0 from rfl), e0, u, if_pos ⟨rfl, rfl⟩]
    rfl
  rw [e2, stop_zero _ rfl]

/-- What lines.Read leaves. -/
def RdP (w : World) (r : List Row × List Dg) (e : Ending) (w' : World) : Prop :=
  ∃ ra rc da dc, e = .returned (.tuple #[.slice ra r.1.length rc, .slice da r.2.length dc]) ∧ Rws w' (.slice ra r.1.length rc) r.1 ∧ Fs 3 dcell w' (.slice da r.2.length dc) r.2 ∧ Below w.heap.size w w'
theorem read_law (s : List UInt8) (w : World) (hM : Mx w) (hs : s.length ≤ 40000) : Calls Tryd.prog 23 #[.string ⟨s.toArray⟩] w (RdP w (readL s)) := by
  refine (read_all s w hM hs).mono ?_
  rintro e w' ⟨vr, vd, rfl, h1, h2, h3, -⟩
  obtain ⟨ra, rc, rfl⟩ := h1.len
  obtain ⟨da, dc, rfl⟩ := (FOwn.sl dcell_len h2).len
  exact ⟨ra, rc, da, dc, rfl, h1.sl, FOwn.sl dcell_len h2, h3⟩
theorem mem_next {a : List UInt8} {P : UInt8 → Prop} {j : Nat} {x : UInt8} (h : ∀ y ∈ a.take j, P y) (hx : a[j]? = some x) (hp : P x) : ∀ y ∈ a.take (j + 1), P y := by
  intro y hy
  rw [List.take_add_one, hx] at hy
  rcases List.mem_append.1 hy with hy | hy
  · exact h y hy
  · simp at hy; subst hy; exact hp
theorem tell_args (fi : Int) (tx : List UInt8) : ∀ y ∈ (tellRow fi tx).1, y.2.2.1.length ≤ 200 := by
  unfold tellRow
  intro y hy
  split at hy
  · split at hy
    · simp at hy
    · simp only [List.mem_singleton] at hy
      subst hy
      simp only [mrow, List.length_take]
      omega
  · simp only [List.mem_singleton] at hy
    subst hy
    simp
end Go.Proofs.YteckiifnldcjbaaDoor
