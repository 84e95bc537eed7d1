/- Plain maths of LinesOrder: rows rise; what is wrong is told of a row; two texts, one behind the other. -/
import Derived.Test.YteckiifnldcjbaaDoorKJ
namespace Go.Proofs.YteckiifnldcjbaaDoor
open Go.RowKit

theorem pcs_c (c : UInt8) (t : List UInt8) : pcs (c :: t) = if c = 10 then [] :: pcs t else (c :: (pcs t).headD []) :: (pcs t).tail := rfl
theorem pcs_app : ∀ (a b : List UInt8), pcs (a ++ 10 :: b) = pcs a ++ pcs b
  | [], b => by simp [pcs]
  | c :: t, b => by
    show pcs (c :: (t ++ 10 :: b)) = _
    have ih := pcs_app t b
    have hne := pcs_ne t
    rw [pcs_c, pcs_c]
    by_cases hc : c = 10
    · rw [if_pos hc, if_pos hc, ih]
      rfl
    · rw [if_neg hc, if_neg hc, ih]
      cases h : pcs t with
      | nil => exact absurd h hne
      | cons x q => rfl
theorem pcs_len : ∀ a : List UInt8, (pcs a).length = a.count 10 + 1
  | [] => rfl
  | c :: t => by
    have ih := pcs_len t
    unfold pcs
    by_cases hc : c = 10
    · subst hc
      rw [if_pos rfl, List.length_cons, ih, List.count_cons_self]
    · rw [if_neg hc, List.count_cons_of_ne hc, List.length_cons, List.length_tail, ih]
      omega
theorem pcs_mem : ∀ (a : List UInt8) (x : List UInt8), x ∈ pcs a → ∀ c ∈ x, c ∈ a
  | [], x, h, c, hc => by simp [pcs] at h; subst h; simp at hc
  | d :: t, x, h, c, hc => by
    have ih := pcs_mem t
    unfold pcs at h
    split at h
    · rcases List.mem_cons.1 h with rfl | h
      · simp at hc
      · exact List.mem_cons_of_mem _ (ih x h c hc)
    · rcases List.mem_cons.1 h with rfl | h
      · rcases List.mem_cons.1 hc with rfl | hc
        · simp
        · refine List.mem_cons_of_mem _ (ih _ ?_ c hc)
          cases hp : pcs t with
          | nil => exact absurd hp (pcs_ne t)
          | cons x q => simp
      · exact List.mem_cons_of_mem _ (ih x (List.mem_of_mem_tail h) c hc)
theorem cr_sub (x : List UInt8) : ∀ c ∈ cr x, c ∈ x := by
  intro c hc
  unfold cr Lib.trimSuffix at hc
  split at hc
  · exact List.mem_of_mem_take hc
  · exact hc

/-- Rows rise, from above 0 to n; what is wrong is told of one of them. -/
structure Rise (n : Int) (r : List Row × List Dg) : Prop where
  up : r.1.Pairwise (fun x y => x.1 < y.1)
  lo : ∀ y ∈ r.1, 1 ≤ y.1 ∧ y.1 ≤ n
  of : ∀ d ∈ r.2, ∃ y ∈ r.1, y.1 = d.2.1
structure PSt (s : St) : Prop where
  fi : s.fi = 0
  tx : s.tx = []
  ln : 0 ≤ s.ln
  rise : Rise s.ln (s.rows, s.dg)
theorem tell_line (q : Int) (l : List UInt8) : (∀ y ∈ (tellRow q l).1, y.1 = q) ∧ (∀ d ∈ (tellRow q l).2, ∃ y ∈ (tellRow q l).1, y.1 = d.2.1) := by
  unfold tellRow
  split
  · split
    · simp
    · refine ⟨fun y hy => by simp only [List.mem_singleton] at hy; subst hy; rfl, fun d hd => ⟨mrow q (Lib.trimLeftS (l.drop 1) [32, 9]), by simp only [List.mem_singleton], ?_⟩⟩
      simp only [mdgs, List.mem_append] at hd
      rcases hd with hd | hd
      · split at hd
        · simp at hd
        · simp only [List.mem_singleton] at hd; subst hd; rfl
      · split at hd
        · simp only [List.mem_singleton] at hd; subst hd; rfl
        · simp at hd
  · refine ⟨fun y hy => by simp only [List.mem_singleton] at hy; subst hy; rfl, fun d hd => by simp at hd⟩
theorem PSt.step {s : St} (h : PSt s) {l : List UInt8} (hl : (92 : UInt8) ∉ l) : PSt (s.step l) ∧ (s.step l).ln = s.ln + 1 := by
  have hr := h.rise
  have hln := h.ln
  obtain ⟨t1, t2⟩ := tell_line (s.ln + 1) l
  have tle := (tell_le (s.ln + 1) l).1
  rw [step_plain s h.fi hl, h.tx, List.nil_append]
  refine ⟨⟨rfl, rfl, by simp only; omega, ⟨?_, ?_, ?_⟩⟩, rfl⟩
  · show (s.rows ++ (tellRow (s.ln + 1) l).1).Pairwise _
    rw [List.pairwise_append]
    refine ⟨hr.up, ?_, fun x hx y hy => ?_⟩
    · match hh : (tellRow (s.ln + 1) l).1 with
      | [] => exact List.Pairwise.nil
      | [x] => exact List.pairwise_singleton _ _
      | x :: y :: t => rw [hh] at tle; simp at tle
    · have h1 : x.1 ≤ s.ln := (hr.lo x hx).2
      have h2 := t1 y hy
      omega
  · intro y hy
    simp only [List.mem_append] at hy
    rcases hy with hy | hy
    · have : 1 ≤ y.1 ∧ y.1 ≤ s.ln := hr.lo y hy
      show 1 ≤ y.1 ∧ y.1 ≤ s.ln + 1
      omega
    · have := t1 y hy
      show 1 ≤ y.1 ∧ y.1 ≤ s.ln + 1
      omega
  · intro d hd
    simp only [List.mem_append] at hd
    rcases hd with hd | hd
    · obtain ⟨y, hy, e⟩ := hr.of d hd
      exact ⟨y, List.mem_append_left _ hy, e⟩
    · obtain ⟨y, hy, e⟩ := t2 d hd
      exact ⟨y, List.mem_append_right _ hy, e⟩
theorem PSt.all : ∀ (q : List (List UInt8)) {s : St}, PSt s → (∀ x ∈ q, (92 : UInt8) ∉ x) → PSt (s.all q) ∧ (s.all q).ln = s.ln + q.length
  | [], s, h, _ => ⟨h, by simp [St.all]⟩
  | x :: q, s, h, hq => by
    have h1 := h.step (l := cr x) (fun hm => hq x (by simp) (cr_sub x _ hm))
    have h2 := PSt.all q h1.1 (fun y hy => hq y (by simp [hy]))
    have e : s.all (x :: q) = (s.step (cr x)).all q := rfl
    rw [e]
    refine ⟨h2.1, ?_⟩
    rw [h2.2, h1.2, List.length_cons]
    omega
theorem pst0 : PSt st0 := ⟨rfl, rfl, Int.le_refl _, ⟨List.Pairwise.nil, fun y hy => by simp [st0] at hy, fun d hd => by simp [st0] at hd⟩⟩

/-- A row, some lines further down. -/
def sh (k : Int) (y : Row) : Row := (y.1 + k, y.2)
structure Sft (k : Int) (P : List Row) (s t : St) : Prop where
  ln : t.ln = s.ln + k
  tx : t.tx = s.tx
  fi : (s.fi = 0 ∧ t.fi = 0) ∨ (1 ≤ s.fi ∧ t.fi = s.fi + k)
  lo : 0 ≤ s.ln
  rows : t.rows = P ++ s.rows.map (sh k)
theorem tell_sh (k q : Int) (l : List UInt8) : (tellRow (q + k) l).1 = (tellRow q l).1.map (sh k) := by
  unfold tellRow
  split
  · split
    · rfl
    · rfl
  · rfl
theorem Sft.more {k : Int} (hk : 0 ≤ k) {P : List Row} {s t : St} (h : Sft k P s t) {q q' : Int} (h1 : 1 ≤ q) (hq : q' = q + k) (u : List UInt8) : Sft k P (s.more q u) (t.more q' u) := by
  have hl := h.ln
  have h0 := h.lo
  unfold St.more
  split
  · exact ⟨by simp only; omega, by simp only; rw [h.tx], .inr ⟨h1, hq⟩, by simp only; omega, h.rows⟩
  · refine ⟨by simp only; omega, rfl, .inl ⟨rfl, rfl⟩, by simp only; omega, ?_⟩
    simp only
    rw [h.rows, h.tx, hq, tell_sh, List.map_append, List.append_assoc]
theorem Sft.step {k : Int} (hk : 0 ≤ k) {P : List Row} {s t : St} (h : Sft k P s t) (l : List UInt8) : Sft k P (s.step l) (t.step l) := by
  have hl := h.ln
  have h0 := h.lo
  unfold St.step
  rcases h.fi with ⟨e1, e2⟩ | ⟨e1, e2⟩
  · rw [if_pos e1, if_pos e2]
    split
    · exact ⟨by simp only; omega, h.tx, h.fi, by simp only; omega, h.rows⟩
    · exact h.more hk (by omega) (by omega) _
  · rw [if_neg (by omega), if_neg (by omega)]
    exact h.more hk e1 e2 _
theorem Sft.all {k : Int} (hk : 0 ≤ k) {P : List Row} : ∀ (q : List (List UInt8)) {s t : St}, Sft k P s t → Sft k P (s.all q) (t.all q)
  | [], _, _, h => h
  | x :: q, s, t, h => Sft.all hk q (h.step hk (cr x))
theorem Sft.stop {k : Int} (hk : 0 ≤ k) {P : List Row} {s t : St} (h : Sft k P s t) : t.stop.rows = P ++ s.stop.rows.map (sh k) := by
  unfold St.stop
  rcases h.fi with ⟨e1, e2⟩ | ⟨e1, e2⟩
  · rw [if_pos e1, if_pos e2]
    exact h.rows
  · rw [if_neg (by omega), if_neg (by omega)]
    simp only
    rw [h.rows, h.tx, e2, tell_sh, List.map_append, List.append_assoc]

theorem trim_tail (a b : List UInt8) (hb : b ≠ []) : Lib.trimSuffix (a ++ 10 :: b) [10] = a ++ 10 :: Lib.trimSuffix b [10] := by
  rcases nil_or_snoc b with rfl | ⟨m, c, rfl⟩
  · exact absurd rfl hb
  · have e : a ++ 10 :: (m ++ [c]) = (a ++ 10 :: m) ++ [c] := by simp
    by_cases hc : c = 10
    · subst hc
      rw [e, trimLF, trimLF]
    · rw [e, trim_other _ _ _ hc, trim_other _ _ _ hc]
      simp
/-- The row of an empty line behind a line feed. -/
def xtra (a : List UInt8) : List Row := if a = [] ∨ a.getLast? = some 10 then [((a.count 10 : Int) + 1, [], [], [])] else []
theorem ra_is (a : List UInt8) (h : (92 : UInt8) ∉ a) : (st0.all (pcs a)).rows = (readL a).1 ++ xtra a := by
  rcases nil_or_snoc a with rfl | ⟨m, c, rfl⟩
  · rfl
  · rw [readL_eq (by simp)]
    unfold readS xtra
    simp only [List.mem_append, not_or] at h
    have hm : ∀ x ∈ pcs m, (92 : UInt8) ∉ x := fun x hx hq => h.1 (pcs_mem m x hx _ hq)
    obtain ⟨p1, p2⟩ := PSt.all (pcs m) pst0 hm
    by_cases hc : c = 10
    · subst hc
      rw [trimLF, if_pos (.inr (by simp)), pcs_app, stop_zero _ p1.fi]
      have e : pcs ([] : List UInt8) = [[]] := rfl
      rw [e, St.all_snoc]
      have e2 : cr [] = [] := rfl
      rw [e2, step_plain _ p1.fi (by simp), p1.tx, p2]
      simp only
      congr 1
      have e3 : st0.ln + ((pcs m).length : Int) + 1 = ((m ++ [10]).count 10 : Int) + 1 := by
        rw [pcs_len, List.count_append]
        simp [st0]
      rw [e3]
      rfl
    · rw [trim_other _ _ _ hc, if_neg (by simp [hc]), List.append_nil, stop_zero]
      refine (PSt.all (pcs (m ++ [c])) pst0 (fun x hx hq => ?_)).1.fi
      have := pcs_mem _ x hx _ hq
      simp only [List.mem_append] at this
      rcases this with q | q
      · exact h.1 q
      · exact h.2 q
theorem read_both (a b : List UInt8) (h : (92 : UInt8) ∉ a) : (readL (a ++ 10 :: b)).1 = (readL a).1 ++ xtra a ++ (readL b).1.map (sh ((a.count 10 : Int) + 1)) := by
  have hm : ∀ x ∈ pcs a, (92 : UInt8) ∉ x := fun x hx hq => h (pcs_mem a x hx _ hq)
  obtain ⟨p1, p2⟩ := PSt.all (pcs a) pst0 hm
  rw [readL_eq (by simp), ← ra_is a h]
  unfold readS
  simp only
  by_cases hb : b = []
  · subst hb
    rw [trimLF, stop_zero _ p1.fi]
    show _ = _ ++ List.map _ []
    simp
  · rw [trim_tail a b hb, pcs_app, readL_eq hb]
    have e : st0.all (pcs a ++ pcs (Lib.trimSuffix b [10])) = (st0.all (pcs a)).all (pcs (Lib.trimSuffix b [10])) := by simp [St.all, List.foldl_append]
    rw [e]
    unfold readS
    refine Sft.stop (by omega) (Sft.all (by omega) _ ⟨?_, p1.tx, .inl ⟨rfl, p1.fi⟩, Int.le_refl _, by simp [st0]⟩)
    rw [p2, pcs_len]
    simp [st0]
theorem read_rise (a : List UInt8) (h : (92 : UInt8) ∉ a) : Rise ((a.count 10 : Int) + 1) (readL a) := by
  by_cases ha : a = []
  · subst ha
    exact ⟨List.Pairwise.nil, fun y hy => by simp [readL] at hy, fun d hd => by simp [readL] at hd⟩
  · have hm : ∀ x ∈ pcs (Lib.trimSuffix a [10]), (92 : UInt8) ∉ x := fun x hx hq => h (by
      have := pcs_mem _ x hx _ hq
      unfold Lib.trimSuffix at this
      split at this
      · exact List.mem_of_mem_take this
      · exact this)
    obtain ⟨p1, p2⟩ := PSt.all (pcs (Lib.trimSuffix a [10])) pst0 hm
    have hr := p1.rise
    rw [readL_eq ha]
    unfold readS
    rw [stop_zero _ p1.fi]
    refine ⟨hr.up, fun y hy => ?_, hr.of⟩
    have := hr.lo y hy
    rw [p2, pcs_len] at this
    have hc : (Lib.trimSuffix a [10]).count 10 ≤ a.count 10 := by
      unfold Lib.trimSuffix
      split
      · exact (List.take_sublist _ _).count_le _
      · exact Nat.le_refl _
    simp only [st0] at this
    omega
theorem Rise.next {n : Int} {r : List Row × List Dg} (h : Rise n r) {j : Nat} {x y : Row} (hx : r.1[j]? = some x) (hy : r.1[j + 1]? = some y) : x.1 < y.1 := by
  obtain ⟨h1, e1⟩ := List.getElem?_eq_some_iff.1 hx
  obtain ⟨h2, e2⟩ := List.getElem?_eq_some_iff.1 hy
  have := List.pairwise_iff_getElem.1 h.up j (j + 1) h1 h2 (by omega)
  rw [e1, e2] at this
  exact this

/-- How much lines.Read tells. -/
structure ArgsLe (s : St) : Prop where
  rows : ∀ y ∈ s.rows, y.2.2.1.length ≤ 200
theorem ArgsLe.more {s : St} (h : ArgsLe s) (q : Int) (u : List UInt8) : ArgsLe (s.more q u) := by
  unfold St.more
  split
  · exact ⟨h.rows⟩
  · exact ⟨fun y hy => by
      rcases List.mem_append.1 hy with hy | hy
      · exact h.rows y hy
      · exact tell_args _ _ y hy⟩
theorem ArgsLe.step {s : St} (h : ArgsLe s) (l : List UInt8) : ArgsLe (s.step l) := by
  unfold St.step
  split
  · split
    · exact ⟨h.rows⟩
    · exact h.more _ _
  · exact h.more _ _
theorem ArgsLe.all : ∀ (q : List (List UInt8)) {s : St}, ArgsLe s → ArgsLe (s.all q)
  | [], _, h => h
  | x :: q, s, h => ArgsLe.all q (h.step (cr x))
theorem read_args (s : List UInt8) : ∀ y ∈ (readL s).1, y.2.2.1.length ≤ 200 := by
  unfold readL
  split
  · simp
  · have h : ArgsLe (st0.all (pcs (Lib.trimSuffix s [10]))) := ArgsLe.all _ ⟨fun y hy => by simp [st0] at hy⟩
    intro y hy
    unfold readS St.stop at hy
    split at hy
    · exact h.rows y hy
    · rcases List.mem_append.1 hy with hy | hy
      · exact h.rows y hy
      · exact tell_args _ _ y hy
theorem read_num (s : List UInt8) : (readL s).1.length ≤ s.length + 2 ∧ (readL s).2.length ≤ 2 * s.length + 4 := by
  unfold readL
  split
  · simp
  · have h := St.all_le (pcs (Lib.trimSuffix s [10])) st0_le
    have h1 := h.rows
    have h2 := h.dg
    have hp := pcs_sum (Lib.trimSuffix s [10])
    have ht := trimS_le s [10]
    unfold readS St.stop
    split
    · simp only; omega
    · have tl := tell_le (st0.all (pcs (Lib.trimSuffix s [10]))).fi (st0.all (pcs (Lib.trimSuffix s [10]))).tx
      simp only [List.length_append]
      omega

structure LnLe (s : St) : Prop where
  f0 : 0 ≤ s.fi
  f1 : s.fi ≤ s.ln
  rows : ∀ y ∈ s.rows, 0 ≤ y.1 ∧ y.1 ≤ s.ln
theorem LnLe.more {s : St} (h : LnLe s) {q : Int} (h0 : 0 ≤ q) (h1 : q ≤ s.ln + 1) (u : List UInt8) : LnLe (s.more q u) := by
  have hr : ∀ y ∈ s.rows, 0 ≤ y.1 ∧ y.1 ≤ s.ln + 1 := fun y hy => by
    have := h.rows y hy
    omega
  have hz := h.f0
  have hz1 := h.f1
  unfold St.more
  split
  · exact ⟨h0, h1, hr⟩
  · refine ⟨Int.le_refl _, by simp only; omega, fun y hy => ?_⟩
    rcases List.mem_append.1 hy with hy | hy
    · exact hr y hy
    · have := (tell_line _ _).1 y hy
      show 0 ≤ y.1 ∧ y.1 ≤ s.ln + 1
      omega
theorem LnLe.step {s : St} (h : LnLe s) (l : List UInt8) : LnLe (s.step l) := by
  have hz := h.f0
  have hz1 := h.f1
  unfold St.step
  split
  · split
    · refine ⟨hz, by simp only; omega, fun y hy => ?_⟩
      have := h.rows y hy
      show 0 ≤ y.1 ∧ y.1 ≤ s.ln + 1
      omega
    · exact h.more (by omega) (by omega) _
  · exact h.more hz (by omega) _
theorem LnLe.all : ∀ (q : List (List UInt8)) {s : St}, LnLe s → LnLe (s.all q)
  | [], _, h => h
  | x :: q, s, h => LnLe.all q (h.step (cr x))
theorem read_lns (s : List UInt8) : ∀ y ∈ (readL s).1, 0 ≤ y.1 ∧ y.1 ≤ (s.length : Int) + 1 := by
  unfold readL
  split
  · simp
  · have h : LnLe (st0.all (pcs (Lib.trimSuffix s [10]))) := LnLe.all _ ⟨Int.le_refl _, Int.le_refl _, fun y hy => by simp [st0] at hy⟩
    have hl := (St.all_le (pcs (Lib.trimSuffix s [10])) st0_le).ln
    have hp := pcs_sum (Lib.trimSuffix s [10])
    have ht := trimS_le s [10]
    have h0 := h.f0
    have h1 := h.f1
    intro y hy
    unfold readS St.stop at hy
    split at hy
    · have := h.rows y hy
      omega
    · rcases List.mem_append.1 hy with hy | hy
      · have := h.rows y hy
        omega
      · have := (tell_line _ _).1 y hy
        omega
end Go.Proofs.YteckiifnldcjbaaDoor
