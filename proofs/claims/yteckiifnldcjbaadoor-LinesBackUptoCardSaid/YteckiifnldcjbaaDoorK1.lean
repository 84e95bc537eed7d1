/- Plain maths of layer 5: blanks, backslashes, comments, what is quoted, arguments. -/
import Derived.WalkKit
import Derived.Lib.Hide
import Derived.Lib.Replace
import Derived.Lib.TrimByte
namespace Go.Proofs.YteckiifnldcjbaaDoor

theorem snocInd {α : Type} {p : List α → Prop} (h0 : p []) (h1 : ∀ l c, p l → p (l ++ [c])) (l : List α) : p l := by
  rw [← l.reverse_reverse]
  induction l.reverse with
  | nil => simpa using h0
  | cons c t ih => rw [List.reverse_cons]; exact h1 _ _ ih

def blk (c : UInt8) : Bool := c == 32 || c == 9
/-- Does an odd number of backslashes stand at its end? -/
def sl (l : List UInt8) : Bool := l.foldl (fun p c => c == 92 && !p) false
theorem sl_nil : sl [] = false := rfl
theorem sl_snoc (l : List UInt8) (c : UInt8) : sl (l ++ [c]) = (c == 92 && !sl l) := by simp [sl, List.foldl_append]
theorem sl_take {l : List UInt8} {i : Nat} {c : UInt8} (h : l[i]? = some c) : sl (l.take (i + 1)) = (c == 92 && !sl (l.take i)) := by
  rw [List.take_add_one, h]; exact sl_snoc _ _
theorem sl_none (l : List UInt8) (h : (92 : UInt8) ∉ l) : sl l = false := by
  revert h
  refine snocInd (p := fun l => (92 : UInt8) ∉ l → sl l = false) (fun _ => rfl) (fun l c _ h => ?_) l
  rw [sl_snoc]
  have : c ≠ 92 := fun e => h (by simp [e])
  simp [this]
theorem trimR_snoc (l : List UInt8) (c : UInt8) : Lib.trimRightB (l ++ [c]) 92 = if c = 92 then Lib.trimRightB l 92 else l ++ [c] := by
  unfold Lib.trimRightB
  rw [List.reverse_append, List.reverse_cons, List.reverse_nil, List.nil_append, List.singleton_append, List.dropWhile_cons]
  by_cases h : c = 92
  · simp [h]
  · simp [h]
theorem trimR_le (l : List UInt8) : (Lib.trimRightB l 92).length ≤ l.length := by
  unfold Lib.trimRightB
  rw [List.length_reverse]
  have := (List.dropWhile_sublist (· == (92 : UInt8)) (l := l.reverse)).length_le
  rwa [List.length_reverse] at this
theorem trimR_sl (l : List UInt8) : (l.length - (Lib.trimRightB l 92).length) % 2 = if sl l then 1 else 0 := by
  refine snocInd (p := fun l => (l.length - (Lib.trimRightB l 92).length) % 2 = if sl l then 1 else 0) (by simp [Lib.trimRightB, sl]) (fun l c ih => ?_) l
  rw [trimR_snoc, sl_snoc, List.length_append, List.length_singleton]
  have := trimR_le l
  by_cases h : c = 92
  · subst h
    simp only [if_true, beq_self_eq_true, Bool.true_and]
    cases hs : sl l
    · rw [hs] at ih; simp at ih ⊢; omega
    · rw [hs] at ih; simp at ih ⊢; omega
  · simp [h]

/-- A comment's mark stands at i, behind its backslash. -/
def isC (l : List UInt8) (i : Nat) : Bool := l[i]? == some 34 && sl (l.take i)
def cmt (l : List UInt8) : Option Nat := (List.range l.length).find? (isC l)
def unc (l : List UInt8) : List UInt8 × Bool := match cmt l with
  | some i => (l.take (i - 1), true)
  | none => (l, false)
theorem cmt_none {l : List UInt8} (h : ∀ i, i < l.length → isC l i = false) : cmt l = none := by
  unfold cmt
  rw [List.find?_range_eq_none]
  intro i hi
  rw [h i hi]; rfl
theorem cmt_some {l : List UInt8} {i : Nat} (hi : i < l.length) (h : isC l i = true) (hb : ∀ j, j < i → isC l j = false) : cmt l = some i := by
  unfold cmt
  rw [List.find?_range_eq_some]
  refine ⟨h, by simpa using hi, fun j hj => ?_⟩
  rw [hb j hj]; rfl
theorem unc_none {l : List UInt8} (h : ∀ i, i < l.length → isC l i = false) : unc l = (l, false) := by unfold unc; rw [cmt_none h]
theorem unc_some {l : List UInt8} {i : Nat} (hi : i < l.length) (h : isC l i = true) (hb : ∀ j, j < i → isC l j = false) : unc l = (l.take (i - 1), true) := by unfold unc; rw [cmt_some hi h hb]
theorem isC_pos {l : List UInt8} {i : Nat} (h : isC l i = true) : 1 ≤ i := by
  rcases i with _ | i
  · simp [isC, sl] at h
  · omega
theorem isC_no {l : List UInt8} {i : Nat} (h : (92 : UInt8) ∉ l.take i) : isC l i = false := by unfold isC; rw [sl_none _ h]; simp

/-- The first blank that is one, or the end. -/
def isB (l : List UInt8) (i : Nat) : Bool := (match l[i]? with | some c => blk c | none => false) && !sl (l.take i)
def ubl (l : List UInt8) : Nat := ((List.range l.length).find? (isB l)).getD l.length
theorem ubl_none {l : List UInt8} (h : ∀ i, i < l.length → isB l i = false) : ubl l = l.length := by
  unfold ubl
  have : (List.range l.length).find? (isB l) = none := by
    rw [List.find?_range_eq_none]
    intro i hi
    rw [h i hi]; rfl
  rw [this]; rfl
theorem ubl_some {l : List UInt8} {i : Nat} (hi : i < l.length) (h : isB l i = true) (hb : ∀ j, j < i → isB l j = false) : ubl l = i := by
  unfold ubl
  have : (List.range l.length).find? (isB l) = some i := by
    rw [List.find?_range_eq_some]
    refine ⟨h, by simpa using hi, fun j hj => ?_⟩
    rw [hb j hj]; rfl
  rw [this]; rfl
theorem ubl_le (l : List UInt8) : ubl l ≤ l.length := by
  unfold ubl
  cases h : (List.range l.length).find? (isB l) with
  | none => simp
  | some i =>
    have := List.mem_of_find?_eq_some h
    simp at this ⊢
    omega
theorem ubl_pos {c : UInt8} {t : List UInt8} (h : blk c = false) : 1 ≤ ubl (c :: t) := by
  unfold ubl
  cases h1 : (List.range (c :: t).length).find? (isB (c :: t)) with
  | none => simp
  | some i =>
    have := List.find?_some h1
    rcases i with _ | i
    · simp [isB, h] at this
    · simp

/-- Each quotation mark twice. -/
def dbl (b : List UInt8) : List UInt8 := b.flatMap fun c => if c = 34 then [34, 34] else [c]
theorem dbl_nil : dbl [] = [] := rfl
theorem dbl_cons (c : UInt8) (l : List UInt8) : dbl (c :: l) = (if c = 34 then [34, 34] else [c]) ++ dbl l := by simp [dbl]
theorem dbl_app (a b : List UInt8) : dbl (a ++ b) = dbl a ++ dbl b := by simp [dbl]
theorem dbl_len (b : List UInt8) : b.length ≤ (dbl b).length ∧ (dbl b).length ≤ 2 * b.length := by
  induction b with
  | nil => simp [dbl]
  | cons c l ih =>
    rw [dbl_cons, List.length_append, List.length_cons]
    split <;> simp <;> omega
theorem rk_skip (O new : List UInt8) (b : UInt8) (l : List UInt8) (hp : List.isPrefixOf O (b :: l) = false) : ∀ k, Lib.replaceK O new k (b :: l) = b :: Lib.replaceK O new k l
  | 0 => rfl
  | k + 1 => by
    have hge := Lib.index_ge l O
    have hi : Lib.index (b :: l) O = if Lib.index l O == -1 then -1 else Lib.index l O + 1 := by
      conv => lhs; unfold Lib.index
      rw [hp]
      rfl
    unfold Lib.replaceK
    rw [hi]
    by_cases hm : Lib.index l O = -1
    · rw [hm]; rfl
    · have h1 : (Lib.index l O == -1) = false := by simpa using hm
      have h2 : (Lib.index l O + 1 == -1) = false := by rw [beq_eq_false_iff_ne]; omega
      rw [h1]
      simp only [Bool.false_eq_true, if_false]
      rw [h2]
      simp only [Bool.false_eq_true, if_false]
      have e : (Lib.index l O + 1).toNat = (Lib.index l O).toNat + 1 := by omega
      rw [e, List.take_succ_cons, show (Lib.index l O).toNat + 1 + O.length = ((Lib.index l O).toNat + O.length) + 1 by omega, List.drop_succ_cons]
      rfl
theorem rk_hit0 (O new l : List UInt8) (hO : O ≠ []) (k : Nat) : Lib.replaceK O new (k + 1) (O ++ l) = new ++ Lib.replaceK O new k l := by
  have hi : Lib.index (O ++ l) O = 0 := by
    rcases O with _ | ⟨c, O⟩
    · exact absurd rfl hO
    · rw [List.cons_append]
      unfold Lib.index
      have : List.isPrefixOf (c :: O) (c :: (O ++ l)) = true := by
        rw [List.isPrefixOf_iff_prefix]
        exact ⟨l, rfl⟩
      rw [this]; rfl
  rw [Lib.replaceK_hit O new k (O ++ l) 0 hi]
  simp
theorem rk_dbl : ∀ l : List UInt8, Lib.replaceK [34] [34, 34] (l.count 34) l = dbl l
  | [] => rfl
  | b :: l => by
    by_cases h : b = 34
    · subst h
      rw [List.count_cons_self, dbl_cons, if_pos rfl]
      have := rk_hit0 [34] [34, 34] l (by simp) (l.count 34)
      rw [List.singleton_append] at this
      rw [this, rk_dbl l]
    · rw [List.count_cons_of_ne h, rk_skip [34] _ b l (by simp [List.isPrefixOf, Ne.symm h]), rk_dbl l, dbl_cons, if_neg h]
      rfl
theorem replace_dbl (l : List UInt8) : Lib.replaceAll l [34] [34, 34] = dbl l := by
  unfold Lib.replaceAll Lib.replace
  rw [if_neg (by decide)]
  unfold Lib.replaceNum
  rw [if_pos (.inl (by decide)), Lib.count_one, rk_dbl]
theorem rk_undbl : ∀ P : List UInt8, Lib.replaceK [34, 34] [34] (P.count 34) (dbl P) = P
  | [] => rfl
  | b :: l => by
    by_cases h : b = 34
    · subst h
      rw [List.count_cons_self, dbl_cons, if_pos rfl, rk_hit0 [34, 34] [34] (dbl l) (by simp), rk_undbl l]
      rfl
    · rw [List.count_cons_of_ne h, dbl_cons, if_neg h, List.singleton_append, rk_skip [34, 34] _ b (dbl l) (by simp [List.isPrefixOf, Ne.symm h]), rk_undbl l]
theorem cf_skip (O : List UInt8) (b : UInt8) (l : List UInt8) (hp : List.isPrefixOf O (b :: l) = false) : ∀ f, Lib.countFrom O f (b :: l) = Lib.countFrom O f l
  | 0 => rfl
  | f + 1 => by
    have hge := Lib.index_ge l O
    have hi : Lib.index (b :: l) O = if Lib.index l O == -1 then -1 else Lib.index l O + 1 := by
      conv => lhs; unfold Lib.index
      rw [hp]
      rfl
    unfold Lib.countFrom
    rw [hi]
    by_cases hm : Lib.index l O = -1
    · rw [hm]; rfl
    · have h1 : (Lib.index l O == -1) = false := by simpa using hm
      have h2 : (Lib.index l O + 1 == -1) = false := by rw [beq_eq_false_iff_ne]; omega
      rw [h1]
      simp only [Bool.false_eq_true, if_false]
      rw [h2]
      simp only [Bool.false_eq_true, if_false]
      have e : (Lib.index l O + 1).toNat = (Lib.index l O).toNat + 1 := by omega
      rw [e, show (Lib.index l O).toNat + 1 + O.length = ((Lib.index l O).toNat + O.length) + 1 by omega, List.drop_succ_cons]
theorem cf_dbl : ∀ (P : List UInt8) (f : Nat), P.count 34 < f → Lib.countFrom [34, 34] f (dbl P) = P.count 34
  | [], 0, h => by simp at h
  | [], f + 1, _ => rfl
  | b :: l, f, h => by
    by_cases hb : b = 34
    · subst hb
      rw [List.count_cons_self] at h ⊢
      rcases f with _ | f
      · omega
      · have hi : Lib.index (dbl (34 :: l)) [34, 34] = 0 := by
          rw [dbl_cons, if_pos rfl]
          show Lib.index (34 :: 34 :: dbl l) [34, 34] = 0
          unfold Lib.index
          simp [List.isPrefixOf]
        unfold Lib.countFrom
        rw [hi]
        have e : (dbl (34 :: l)).drop ((0 : Int).toNat + ([34, 34] : List UInt8).length) = dbl l := by rw [dbl_cons, if_pos rfl]; rfl
        rw [e, cf_dbl l f (by omega)]
        simp
        omega
    · rw [List.count_cons_of_ne hb] at h ⊢
      rw [dbl_cons, if_neg hb, List.singleton_append, cf_skip [34, 34] b (dbl l) (by simp [List.isPrefixOf, Ne.symm hb]), cf_dbl l f h]
theorem count_dbl (P : List UInt8) : Lib.count (dbl P) [34, 34] = P.count 34 := by
  unfold Lib.count
  refine cf_dbl P _ ?_
  have h1 := (dbl_len P).1
  have h2 := List.count_le_length (a := (34 : UInt8)) (l := P)
  omega
theorem replace_undbl (P : List UInt8) : Lib.replaceAll (dbl P) [34, 34] [34] = P := by
  unfold Lib.replaceAll Lib.replace
  rw [if_neg (by decide)]
  unfold Lib.replaceNum
  rw [if_pos (.inl (by decide)), count_dbl, rk_undbl]

/-- Behind an opening mark: the argument, what is behind it, whether it ends. -/
def uq : List UInt8 → List UInt8 × List UInt8 × Bool
  | [] => ([], [], false)
  | [c] => if c = 34 then ([], [], true) else ([c], [], false)
  | c :: d :: t => if c = 34 then (if d = 34 then (34 :: (uq t).1, (uq t).2) else ([], d :: t, true)) else (c :: (uq (d :: t)).1, (uq (d :: t)).2)
theorem uq_cons (c : UInt8) (h : c ≠ 34) : ∀ l : List UInt8, uq (c :: l) = (c :: (uq l).1, (uq l).2)
  | [] => by simp [uq, h]
  | d :: t => by
    conv => lhs; unfold uq
    rw [if_neg h]
theorem uq_two (t : List UInt8) : uq (34 :: 34 :: t) = (34 :: (uq t).1, (uq t).2) := by
  conv => lhs; unfold uq
  simp
theorem uq_end : ∀ r : List UInt8, r.head? ≠ some 34 → uq (34 :: r) = ([], r, true)
  | [], _ => by simp [uq]
  | d :: t, h => by
    conv => lhs; unfold uq
    have : d ≠ 34 := fun e => h (by simp [e])
    simp [this]
theorem uq_dbl : ∀ P r : List UInt8, uq (dbl P ++ r) = (P ++ (uq r).1, (uq r).2)
  | [], r => by simp [dbl_nil]
  | c :: P, r => by
    rw [dbl_cons]
    by_cases h : c = 34
    · subst h
      rw [if_pos rfl]
      show uq (34 :: 34 :: (dbl P ++ r)) = _
      rw [uq_two, uq_dbl P r]
      rfl
    · rw [if_neg h]
      show uq (c :: (dbl P ++ r)) = _
      rw [uq_cons c h, uq_dbl P r]
      rfl
theorem uq_len : ∀ (n : Nat) (l : List UInt8), l.length ≤ n → (uq l).2.1.length ≤ l.length
  | _, [], _ => by simp [uq]
  | _, [c], _ => by unfold uq; split <;> simp
  | 0, c :: d :: t, h => by simp at h
  | n + 1, c :: d :: t, h => by
    unfold uq
    simp only [List.length_cons] at h
    split
    · split
      · have := uq_len n t (by omega)
        simp only [List.length_cons]; omega
      · simp
    · have := uq_len n (d :: t) (by simp only [List.length_cons]; omega)
      simp only [List.length_cons] at this ⊢; omega
theorem uq_le (l : List UInt8) : (uq l).2.1.length ≤ l.length := uq_len _ l (Nat.le_refl _)

/-- The arguments of a text, and whether all end. -/
def argsF : Nat → List UInt8 → List (List UInt8) × Bool
  | 0, _ => ([], true)
  | _ + 1, [] => ([], true)
  | n + 1, c :: t =>
    if blk c then argsF n t
    else if c = 34 then
      (if (uq t).2.2 then ((uq t).1 :: (argsF n (uq t).2.1).1, (argsF n (uq t).2.1).2) else ([(uq t).1], false))
    else ((c :: t).take (ubl (c :: t)) :: (argsF n ((c :: t).drop (ubl (c :: t)))).1, (argsF n ((c :: t).drop (ubl (c :: t)))).2)
def args (l : List UInt8) : List (List UInt8) × Bool := argsF l.length l
theorem argsF_nil : ∀ n, argsF n [] = ([], true)
  | 0 => rfl
  | _ + 1 => rfl
theorem argsF_fuel : ∀ (n m : Nat) (l : List UInt8), l.length ≤ n → l.length ≤ m → argsF n l = argsF m l
  | 0, m, l, hn, _ => by
    obtain rfl : l = [] := List.eq_nil_of_length_eq_zero (by omega)
    rw [argsF_nil, argsF_nil]
  | n + 1, 0, l, _, hm => by
    obtain rfl : l = [] := List.eq_nil_of_length_eq_zero (by omega)
    rw [argsF_nil, argsF_nil]
  | n + 1, m + 1, [], _, _ => rfl
  | n + 1, m + 1, c :: t, hn, hm => by
    simp only [List.length_cons] at hn hm
    have hu := uq_le t
    unfold argsF
    by_cases hb : blk c = true
    · rw [if_pos hb, if_pos hb, argsF_fuel n m t (by omega) (by omega)]
    · rw [if_neg hb, if_neg hb]
      have hp := ubl_pos (t := t) (Bool.not_eq_true _ ▸ hb)
      rw [argsF_fuel n m (uq t).2.1 (by omega) (by omega), argsF_fuel n m ((c :: t).drop (ubl (c :: t))) (by rw [List.length_drop, List.length_cons]; omega) (by rw [List.length_drop, List.length_cons]; omega)]
theorem args_nil : args [] = ([], true) := rfl
theorem args_blank {c : UInt8} {t : List UInt8} (h : blk c = true) : args (c :: t) = args t := by
  show argsF (t.length + 1) (c :: t) = argsF t.length t
  conv => lhs; unfold argsF
  rw [if_pos h]
theorem args_quote {t : List UInt8} (h : (uq t).2.2 = true) : args (34 :: t) = ((uq t).1 :: (args (uq t).2.1).1, (args (uq t).2.1).2) := by
  show argsF (t.length + 1) (34 :: t) = _
  conv => lhs; unfold argsF
  rw [if_neg (by decide), if_pos rfl, if_pos h, argsF_fuel t.length (uq t).2.1.length _ (uq_le t) (Nat.le_refl _)]
  rfl
theorem args_open {t : List UInt8} (h : (uq t).2.2 = false) : args (34 :: t) = ([(uq t).1], false) := by
  show argsF (t.length + 1) (34 :: t) = _
  conv => lhs; unfold argsF
  rw [if_neg (by decide), if_pos rfl, if_neg (by rw [h]; decide)]
theorem args_plain {c : UInt8} {t : List UInt8} (h : blk c = false) (hq : c ≠ 34) : args (c :: t) = ((c :: t).take (ubl (c :: t)) :: (args ((c :: t).drop (ubl (c :: t)))).1, (args ((c :: t).drop (ubl (c :: t)))).2) := by
  have hp := ubl_pos (t := t) h
  show argsF (t.length + 1) (c :: t) = _
  conv => lhs; unfold argsF
  rw [if_neg (by rw [h]; decide), if_neg hq, argsF_fuel t.length ((c :: t).drop (ubl (c :: t))).length _ (by rw [List.length_drop, List.length_cons]; omega) (Nat.le_refl _)]
  rfl
theorem argsF_len : ∀ (n : Nat) (l : List UInt8), (argsF n l).1.length ≤ l.length
  | 0, l => by simp [argsF]
  | n + 1, [] => by simp [argsF]
  | n + 1, c :: t => by
    have hu := uq_le t
    unfold argsF
    by_cases hb : blk c = true
    · rw [if_pos hb]
      have := argsF_len n t
      rw [List.length_cons]; omega
    · rw [if_neg hb]
      have hp := ubl_pos (t := t) (Bool.not_eq_true _ ▸ hb)
      split
      · split
        · have := argsF_len n (uq t).2.1
          simp only [List.length_cons]; omega
        · simp
      · have := argsF_len n ((c :: t).drop (ubl (c :: t)))
        rw [List.length_drop] at this
        simp only [List.length_cons] at this ⊢
        have h2 := ubl_le (c :: t)
        simp only [List.length_cons] at h2
        omega
theorem args_len (l : List UInt8) : (args l).1.length ≤ l.length := argsF_len _ l
end Go.Proofs.YteckiifnldcjbaaDoor
