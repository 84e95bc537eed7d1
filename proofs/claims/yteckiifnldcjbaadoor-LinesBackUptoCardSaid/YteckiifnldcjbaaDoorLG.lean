/- Plain maths of LinesMacros: a macro's line, its arguments quoted, is read as it was. -/
import Derived.Test.YteckiifnldcjbaaDoorKN
import Derived.Test.YteckiifnldcjbaaDoorKK
namespace Go.Proofs.YteckiifnldcjbaaDoor
open Go.RowKit

/-- Texts, quoted, a blank ahead of each. -/
def sepq (l : List (List UInt8)) : List UInt8 := l.flatMap fun x => 32 :: qt x
theorem sepq_nil : sepq [] = [] := rfl
theorem sepq_cons (x : List UInt8) (l : List (List UInt8)) : sepq (x :: l) = 32 :: qt x ++ sepq l := by simp [sepq]
theorem sepq_snoc (l : List (List UInt8)) (x : List UInt8) : sepq (l ++ [x]) = sepq l ++ 32 :: qt x := by simp [sepq]
theorem sepq_head (l : List (List UInt8)) : (sepq l).head? ≠ some 34 := by
  cases l with
  | nil => simp [sepq_nil]
  | cons x l => simp [sepq_cons]
theorem args_sepq : ∀ l : List (List UInt8), args (sepq l) = (l, true)
  | [] => args_nil
  | x :: l => by
    have ih := args_sepq l
    have hq : uq (dbl x ++ ([34] ++ sepq l)) = (x, sepq l, true) := by
      rw [uq_dbl]
      show (x ++ (uq (34 :: sepq l)).1, (uq (34 :: sepq l)).2) = _
      rw [uq_end _ (sepq_head l)]
      simp
    have e : sepq (x :: l) = 32 :: (34 :: (dbl x ++ ([34] ++ sepq l))) := by simp [sepq_cons, qt]
    rw [e, args_blank (by decide), args_quote (by rw [hq]), hq]
    simp only
    rw [ih]
def tot (l : List (List UInt8)) : Nat := (l.map List.length).sum
theorem tot_snoc (l : List (List UInt8)) (x : List UInt8) : tot (l ++ [x]) = tot l + x.length := by simp [tot]
theorem tot_mem {l : List (List UInt8)} {x : List UInt8} (h : x ∈ l) : x.length ≤ tot l := by
  induction l with
  | nil => simp at h
  | cons y l ih =>
    simp only [tot, List.map_cons, List.sum_cons] at ih ⊢
    rcases List.mem_cons.1 h with rfl | h
    · omega
    · have := ih h
      omega
theorem tot_le {l : List (List UInt8)} {B : Nat} (h : ∀ x ∈ l, x.length ≤ B) : tot l ≤ l.length * B := by
  induction l with
  | nil => simp [tot]
  | cons x l ih =>
    have h1 := ih (fun y hy => h y (by simp [hy]))
    have h2 := h x (by simp)
    simp only [tot, List.map_cons, List.sum_cons, List.length_cons, Nat.add_mul, Nat.one_mul] at h1 ⊢
    omega
theorem sepq_len (l : List (List UInt8)) : (sepq l).length ≤ 3 * l.length + 2 * tot l := by
  induction l with
  | nil => simp [sepq_nil]
  | cons x l ih =>
    have := (dbl_len x).2
    rw [sepq_cons]
    simp only [tot, List.map_cons, List.sum_cons, List.length_cons, List.length_append, qt] at ih ⊢
    simp only [List.length_nil]
    omega

theorem not_bad {l : List UInt8} {S : List UInt8} (h : l.any (S.contains ·) = false) {c : UInt8} (hc : c ∈ S) : c ∉ l := by
  intro hm
  rw [List.any_eq_false] at h
  exact h c hm (by simpa using hc)
/-- What a macro that may be written is. -/
structure Mac (m : List UInt8) (l : List (List UInt8)) : Prop where
  ne : m ≠ []
  pt : ptd m = false
  bad : badN m = false
  num : l.length ≤ 200
  ok : ∀ x ∈ l, badA x = false
theorem Mac.of {m : List UInt8} {l : List (List UInt8)} (hne : m ≠ []) (h : okRow m l [] = true) : Mac m l := by
  unfold okRow isT isM at h
  have e : decide (m = []) = false := decide_eq_false hne
  rw [e] at h
  simp only [Bool.false_and, Bool.false_or, Bool.not_false, Bool.true_and, decide_true, Bool.and_eq_true, Bool.not_eq_true', decide_eq_true_eq] at h
  exact ⟨hne, h.1.1.1, h.1.1.2, h.1.2, List.any_eq_false.1 h.2 |> fun k x hx => by simpa using k x hx⟩
theorem Mac.mem {m : List UInt8} {l : List (List UInt8)} (h : Mac m l) {c : UInt8} (hc : c = 10 ∨ c = 13 ∨ c = 92) : c ∉ m ++ sepq l := by
  intro hm
  rcases List.mem_append.1 hm with hm | hm
  · refine not_bad h.bad (c := c) ?_ hm
    rcases hc with rfl | rfl | rfl <;> decide
  · unfold sepq at hm
    obtain ⟨x, hx, hcx⟩ := List.mem_flatMap.1 hm
    have hb := h.ok x hx
    have hn : c ∉ x := not_bad hb (by rcases hc with rfl | rfl | rfl <;> decide)
    have h32 : c ≠ 32 := by rcases hc with rfl | rfl | rfl <;> decide
    have h34 : c ≠ 34 := by rcases hc with rfl | rfl | rfl <;> decide
    have hd : c ∉ dbl x := by
      intro hd
      unfold dbl at hd
      obtain ⟨y, hy, hcy⟩ := List.mem_flatMap.1 hd
      split at hcy
      · simp [h34] at hcy
      · simp at hcy; subst hcy; exact hn hy
    simp [qt, h32, h34, hd] at hcx
theorem takeWhile_app {P : UInt8 → Bool} {a b : List UInt8} (ha : ∀ x ∈ a, P x = true) (hb : ∀ x, b.head? = some x → P x = false) : (a ++ b).takeWhile P = a := by
  induction a with
  | nil =>
    cases b with
    | nil => rfl
    | cons x t => simp [List.takeWhile_cons, hb x rfl]
  | cons x t ih =>
    simp [List.takeWhile_cons, ha x (by simp), ih (fun y hy => ha y (by simp [hy]))]
theorem Mac.nm {m : List UInt8} {l : List (List UInt8)} (h : Mac m l) : nmN (m ++ sepq l) = m.length := by
  unfold nmN
  rw [takeWhile_app]
  · intro x hx
    have h32 : x ≠ 32 := fun e => not_bad h.bad (c := 32) (by decide) (e ▸ hx)
    have h9 : x ≠ 9 := fun e => not_bad h.bad (c := 9) (by decide) (e ▸ hx)
    simp [blk, h32, h9]
  · intro x hx
    cases l with
    | nil => simp [sepq_nil] at hx
    | cons y l => simp [sepq_cons] at hx; subst hx; rfl
theorem Mac.trim {m : List UInt8} {l : List (List UInt8)} (h : Mac m l) (r : Nat) : Lib.trimLeftS (List.replicate r 32 ++ (m ++ sepq l)) [32, 9] = m ++ sepq l := by
  unfold Lib.trimLeftS
  induction r with
  | zero =>
    cases m with
    | nil => exact absurd rfl h.ne
    | cons x m =>
      have h32 : x ≠ 32 := fun e => not_bad h.bad (c := 32) (by decide) (by simp [e])
      have h9 : x ≠ 9 := fun e => not_bad h.bad (c := 9) (by decide) (by simp [e])
      simp [List.dropWhile_cons, h32, h9]
  | succ r ih =>
    rw [List.replicate_succ, List.cons_append, List.dropWhile_cons]
    simpa using ih
theorem Mac.tell {m : List UInt8} {l : List (List UInt8)} (h : Mac m l) (c : UInt8) (hc : c = 46 ∨ c = 39) (r : Nat) : tellRow 1 (c :: (List.replicate r 32 ++ (m ++ sepq l))) = ([(1, m, l, [])], []) := by
  have hp : ptd (c :: (List.replicate r 32 ++ (m ++ sepq l))) = true := by rcases hc with rfl | rfl <;> rfl
  unfold tellRow
  rw [if_pos hp, List.drop_succ_cons, List.drop_zero, h.trim, if_neg (by intro e; exact h.ne (List.append_eq_nil_iff.1 e).1)]
  unfold mrow mdgs
  rw [h.nm, List.take_left' rfl, List.drop_left' rfl, args_sepq]
  have hn := h.num
  simp only [if_true, List.nil_append]
  rw [List.take_of_length_le hn, if_neg (by omega)]
theorem line_no {m : List UInt8} {l : List (List UInt8)} (h : Mac m l) {c : UInt8} (hc : c = 46 ∨ c = 39) (r : Nat) {d : UInt8} (hd : d = 10 ∨ d = 13 ∨ d = 92) : d ∉ c :: (List.replicate r 32 ++ (m ++ sepq l)) := by
  have h1 := h.mem hd
  intro hm
  rcases List.mem_cons.1 hm with e | hm
  · rcases hc with rfl | rfl <;> rcases hd with rfl | rfl | rfl <;> simp at e
  · rcases List.mem_append.1 hm with hm | hm
    · have := (List.mem_replicate.1 hm).2
      rcases hd with rfl | rfl | rfl <;> simp at this
    · exact h1 hm
theorem Mac.read {m : List UInt8} {l : List (List UInt8)} (h : Mac m l) (c : UInt8) (hc : c = 46 ∨ c = 39) (r : Nat) : readL (c :: (List.replicate r 32 ++ (m ++ sepq l)) ++ [10]) = ([(1, m, l, [])], []) := by
  rw [read_line (line_no h hc r (.inr (.inr rfl))) (line_no h hc r (.inl rfl)) (line_no h hc r (.inr (.inl rfl)))]
  exact h.tell c hc r
theorem read_line0 {l : List UInt8} (hne : l ≠ []) (h10 : (10 : UInt8) ∉ l) : readL l = readL (l ++ [10]) := by
  rw [readL_eq hne, readL_eq (by simp)]
  unfold readS
  rw [trimLF]
  have : Lib.trimSuffix l [10] = l := by
    rcases nil_or_snoc l with rfl | ⟨t, c, rfl⟩
    · exact absurd rfl hne
    · exact trim_other t 10 c (fun e => h10 (by simp [e]))
  rw [this]
theorem Mac.read0 {m : List UInt8} {l : List (List UInt8)} (h : Mac m l) (c : UInt8) (hc : c = 46 ∨ c = 39) (r : Nat) : readL (c :: (List.replicate r 32 ++ (m ++ sepq l))) = ([(1, m, l, [])], []) := by
  rw [read_line0 (by simp) (line_no h hc r (.inl rfl))]
  exact h.read c hc r
end Go.Proofs.YteckiifnldcjbaaDoor
