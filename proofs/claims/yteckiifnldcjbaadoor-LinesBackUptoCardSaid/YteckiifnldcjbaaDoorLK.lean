/- Plain maths of LinesBack: rows that may be written are read from their lines as they were. -/
import Derived.Test.YteckiifnldcjbaaDoorKT
import Derived.Test.YteckiifnldcjbaaDoorLG
import Derived.Test.YteckiifnldcjbaaDoorLD
namespace Go.Proofs.YteckiifnldcjbaaDoor
open Go.RowKit

/-- A row's line, without its end. -/
def ln1 (y : Row) : List UInt8 := if y.2.1 = [] then y.2.2.2 else 46 :: (y.2.1 ++ sepq y.2.2.1)
theorem wr1_ln {y : Row} (h : okRow y.2.1 y.2.2.1 y.2.2.2 = true) : wr1 y = ln1 y ++ [10] := by
  unfold wr1 ln1
  rw [if_pos h]
  split <;> rfl
structure Txt (m : List UInt8) (l : List (List UInt8)) (t : List UInt8) : Prop where
  m : m = []
  l : l = []
  pt : ptd t = false
  cr : t.getLast? ≠ some 13
  bad : badT t = false
theorem ok_ways {y : Row} (h : okRow y.2.1 y.2.2.1 y.2.2.2 = true) : Txt y.2.1 y.2.2.1 y.2.2.2 ∨ (Mac y.2.1 y.2.2.1 ∧ y.2.2.2 = []) := by
  by_cases hm : y.2.1 = []
  · left
    unfold okRow isT isM at h
    have e : decide (y.2.1 = []) = true := decide_eq_true hm
    rw [e] at h
    simp only [Bool.true_and, Bool.not_true, Bool.false_and, Bool.or_false, Bool.and_eq_true, Bool.not_eq_true', decide_eq_true_eq] at h
    exact ⟨hm, h.1.1.1, h.1.1.2, fun e => by rw [e] at h; simp at h, h.2⟩
  · right
    have ht : y.2.2.2 = [] := by
      unfold okRow isT isM at h
      have e : decide (y.2.1 = []) = false := decide_eq_false hm
      rw [e] at h
      simp only [Bool.false_and, Bool.false_or, Bool.not_false, Bool.true_and, Bool.and_eq_true, Bool.not_eq_true', decide_eq_true_eq] at h
      exact h.1.1.1.1
    rw [ht] at h
    exact ⟨Mac.of hm h, ht⟩
/-- What a row's line is. -/
structure LnOk (y : Row) : Prop where
  n10 : (10 : UInt8) ∉ ln1 y
  n92 : (92 : UInt8) ∉ ln1 y
  cr : cr (ln1 y) = ln1 y
  tell : tellRow 1 (ln1 y) = ([(1, y.2)], [])
theorem ln_ok {y : Row} (h : okRow y.2.1 y.2.2.1 y.2.2.2 = true) : LnOk y := by
  have hw := ok_ways h
  clear h
  rcases hw with h | ⟨h, ht⟩
  · obtain ⟨y0, y1, y2, y3⟩ := y
    obtain ⟨rfl, rfl, h3, h4, h5⟩ := h
    simp only at h3 h4 h5
    have e : ln1 (y0, [], [], y3) = y3 := rfl
    refine ⟨?_, ?_, ?_, ?_⟩
    · rw [e]; exact not_bad h5 (c := 10) (by decide)
    · rw [e]; exact not_bad h5 (c := 92) (by decide)
    · rw [e]
      rcases nil_or_snoc y3 with rfl | ⟨t, c, rfl⟩
      · rfl
      · exact trim_other t 13 c (fun e => h4 (by simp [e]))
    · rw [e]
      unfold tellRow
      rw [if_neg (by rw [h3]; decide)]
  · obtain ⟨y0, y1, y2, y3⟩ := y
    simp only at h ht
    subst ht
    have e : ln1 (y0, y1, y2, []) = 46 :: (List.replicate 0 32 ++ (y1 ++ sepq y2)) := by
      unfold ln1
      rw [if_neg h.ne]
      rfl
    refine ⟨?_, ?_, ?_, ?_⟩
    · rw [e]; exact line_no h (.inl rfl) 0 (.inl rfl)
    · rw [e]; exact line_no h (.inl rfl) 0 (.inr (.inr rfl))
    · rw [e]; exact cr_plain (line_no h (.inl rfl) 0 (.inr (.inl rfl)))
    · rw [e]; exact h.tell 46 (.inl rfl) 0
theorem tell_at {l : List UInt8} {r : List UInt8 × List (List UInt8) × List UInt8} (h : tellRow 1 l = ([(1, r)], [])) (q : Int) : tellRow q l = ([(q, r)], []) := by
  have h1 : (tellRow q l).1 = [(q, r)] := by
    have := tell_sh (q - 1) 1 l
    rw [h] at this
    have e : (1 : Int) + (q - 1) = q := by omega
    rw [e] at this
    rw [this]
    simp only [List.map_cons, List.map_nil, sh, e]
  have h2 : (tellRow q l).2 = [] := by
    have h0 : (tellRow 1 l).2 = [] := by rw [h]
    unfold tellRow mdgs at h0 ⊢
    split
    · rename_i hp
      rw [if_pos hp] at h0
      split
      · rfl
      · rename_i hq
        rw [if_neg hq] at h0
        simp only [List.append_eq_nil_iff] at h0 ⊢
        refine ⟨?_, ?_⟩
        · split
          · rfl
          · rename_i hz; rw [if_neg hz] at h0; simp at h0
        · split
          · rename_i hz; rw [if_pos hz] at h0; simp at h0
          · rfl
    · rfl
  rw [← h1, ← h2]
/-- Rows that may be written, numbered as they will be read. -/
def okY (y : Row) : Bool := okRow y.2.1 y.2.2.1 y.2.2.2
def oks (l : List Row) : List Row := l.filter okY
def nums : Nat → List Row → List Row
  | _, [] => []
  | n, y :: l => (((n : Int) + 1), y.2) :: nums (n + 1) l
theorem nums_len : ∀ (n : Nat) (l : List Row), (nums n l).length = l.length
  | _, [] => rfl
  | n, y :: l => by simp [nums, nums_len (n + 1) l]
theorem nums_snoc : ∀ (n : Nat) (l : List Row) (y : Row), nums n (l ++ [y]) = nums n l ++ [(((n + l.length : Nat) : Int) + 1, y.2)]
  | n, [], y => rfl
  | n, x :: l, y => by
    have := nums_snoc (n + 1) l y
    simp only [List.cons_append, nums, this, List.length_cons]
    congr 4
    omega
theorem oks_ok {l : List Row} {y : Row} (h : y ∈ oks l) : okRow y.2.1 y.2.2.1 y.2.2.2 = true := by
  have := (List.mem_filter.1 h).2
  exact this
theorem oks_next {l : List Row} {p : Nat} {y : Row} (hy : l[p]? = some y) : oks (l.take (p + 1)) = oks (l.take p) ++ (if okRow y.2.1 y.2.2.1 y.2.2.2 then [y] else []) := by
  rw [List.take_add_one, hy]
  unfold oks
  rw [List.filter_append]
  congr 1
  simp only [Option.toList_some]
  by_cases h : okRow y.2.1 y.2.2.1 y.2.2.2 = true
  · rw [if_pos h, List.filter_cons_of_pos (show okY y = true from h)]; rfl
  · rw [if_neg h, List.filter_cons_of_neg (show ¬ okY y = true from h)]; rfl
theorem wrs_oks (l : List Row) : wrs l = (oks l).flatMap fun y => ln1 y ++ [10] := by
  induction l with
  | nil => rfl
  | cons y l ih =>
    unfold wrs oks at ih ⊢
    rw [List.flatMap_cons, ih]
    by_cases h : okRow y.2.1 y.2.2.1 y.2.2.2 = true
    · rw [List.filter_cons_of_pos (show okY y = true from h), List.flatMap_cons, wr1_ln h]
    · rw [List.filter_cons_of_neg (show ¬ okY y = true from h)]
      have : wr1 y = [] := by unfold wr1; rw [if_neg h]
      rw [this, List.nil_append]
theorem all_lns : ∀ (L : List Row) (n : Nat) (R : List Row), (∀ y ∈ L, LnOk y) → St.all ⟨(n : Int), 0, [], R, []⟩ (L.map ln1) = ⟨((n + L.length : Nat) : Int), 0, [], R ++ nums n L, []⟩
  | [], n, R, _ => by simp [St.all, nums]
  | y :: L, n, R, h => by
    have hy := h y (by simp)
    have e : St.all ⟨(n : Int), 0, [], R, []⟩ ((y :: L).map ln1) = St.all (St.step ⟨(n : Int), 0, [], R, []⟩ (cr (ln1 y))) (L.map ln1) := rfl
    rw [e, hy.cr, step_plain _ rfl hy.n92]
    simp only [List.nil_append]
    rw [tell_at hy.tell ((n : Int) + 1)]
    simp only [List.append_nil]
    have ih := all_lns L (n + 1) (R ++ [((n : Int) + 1, y.2)]) (fun z hz => h z (by simp [hz]))
    have e2 : (((n + 1 : Nat)) : Int) = (n : Int) + 1 := by omega
    rw [e2] at ih
    rw [ih]
    have e3 : n + 1 + L.length = n + (y :: L).length := by simp; omega
    rw [e3]
    simp [nums]
theorem pcs_lns : ∀ (L : List Row) (y : Row), (∀ z ∈ L, LnOk z) → LnOk y → pcs ((L.flatMap fun z => ln1 z ++ [10]) ++ ln1 y) = L.map ln1 ++ [ln1 y]
  | [], y, _, hy => by
    simp only [List.flatMap_nil, List.nil_append, List.map_nil]
    exact pcs_no _ hy.n10
  | z :: L, y, h, hy => by
    have ih := pcs_lns L y (fun x hx => h x (by simp [hx])) hy
    have hz := h z (by simp)
    rw [List.flatMap_cons]
    have e : (ln1 z ++ [10] ++ L.flatMap fun z => ln1 z ++ [10]) ++ ln1 y = ln1 z ++ 10 :: ((L.flatMap fun z => ln1 z ++ [10]) ++ ln1 y) := by simp
    rw [e, pcs_cut _ _ hz.n10, ih]
    simp
/-- What is written is read. -/
theorem read_wrs (l : List Row) : readL (wrs l) = (nums 0 (oks l), []) := by
  have hok : ∀ y ∈ oks l, LnOk y := fun y hy => ln_ok (oks_ok hy)
  rw [wrs_oks]
  generalize oks l = L at hok
  rcases nil_or_snoc L with rfl | ⟨M, y, rfl⟩
  · rfl
  · have hM : ∀ z ∈ M, LnOk z := fun z hz => hok z (by simp [hz])
    have hy := hok y (by simp)
    have e : ((M ++ [y]).flatMap fun z => ln1 z ++ [10]) = ((M.flatMap fun z => ln1 z ++ [10]) ++ ln1 y) ++ [10] := by simp
    rw [e, readL_eq (by simp)]
    unfold readS
    rw [trimLF, pcs_lns M y hM hy]
    have h0 : M.map ln1 ++ [ln1 y] = (M ++ [y]).map ln1 := by simp
    rw [h0]
    have h1 := all_lns (M ++ [y]) 0 [] hok
    have h2 : st0 = ⟨((0 : Nat) : Int), 0, [], [], []⟩ := rfl
    rw [h2, h1, stop_zero _ rfl]
    simp
end Go.Proofs.YteckiifnldcjbaaDoor
