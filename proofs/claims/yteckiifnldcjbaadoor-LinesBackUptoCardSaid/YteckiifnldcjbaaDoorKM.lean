/- Which rows may be written: lines.Check. -/
import Derived.Test.YteckiifnldcjbaaDoorKL
import Derived.Test.YteckiifnldcjbaaDoorKJ
namespace Go.Proofs.YteckiifnldcjbaaDoor
open Go.RowKit
attribute [local go_sem ↓ high] binop_eqlS binop_neqS

def badA (l : List UInt8) : Bool := l.any (([10, 13, 92] : List UInt8).contains ·)
def badN (l : List UInt8) : Bool := l.any (([32, 9, 10, 13, 92, 34] : List UInt8).contains ·)
def badT (l : List UInt8) : Bool := l.any (([10, 92] : List UInt8).contains ·)
theorem asc3 : ∀ (j : Nat) b, ([10, 13, 92] : List UInt8)[j]? = some b → b.toNat < 128 := by
  intro j b h
  match j, h with
  | 0, h => simp at h; subst h; decide
  | 1, h => simp at h; subst h; decide
  | 2, h => simp at h; subst h; decide
theorem asc6 : ∀ (j : Nat) b, ([32, 9, 10, 13, 92, 34] : List UInt8)[j]? = some b → b.toNat < 128 := by
  intro j b h
  match j, h with
  | 0, h => simp at h; subst h; decide
  | 1, h => simp at h; subst h; decide
  | 2, h => simp at h; subst h; decide
  | 3, h => simp at h; subst h; decide
  | 4, h => simp at h; subst h; decide
  | 5, h => simp at h; subst h; decide
theorem asc2 : ∀ (j : Nat) b, ([10, 92] : List UInt8)[j]? = some b → b.toNat < 128 := by
  intro j b h
  match j, h with
  | 0, h => simp at h; subst h; decide
  | 1, h => simp at h; subst h; decide
theorem bad_any (a : List UInt8) (w : World) (ha : a.length ≤ 1000000) :
    Calls Tryd.prog 52 #[.string ⟨a.toArray⟩] w fun e w' => e = .returned (.bool (badA a)) ∧ Below w.heap.size w w' := by
  have H := Lib.hid (containsAny_any a [10, 13, 92] w (by decide) (by decide) ha asc3)
  rw [show a.any (([10, 13, 92] : List UInt8).contains ·) = badA a from rfl] at H
  generalize badA a = q at H ⊢
  go_enter Tryd.func52, Tryd.ntmps52
  go_wp2_with fail
  refine H.out.mono ?_
  rintro e w1 ⟨rfl, b1⟩
  go_wp2_with fail
  go_ret
  exact ⟨rfl, b1⟩
theorem any_next {l : List (List UInt8)} {p : Nat} {y : List UInt8} {P : List UInt8 → Bool} (h : (l.take p).any P = false) (hy : l[p]? = some y) (hP : P y = false) : (l.take (p + 1)).any P = false := by
  rw [List.take_add_one, hy, List.any_append, h]
  simp [hP]
theorem any_hit {l : List (List UInt8)} {p : Nat} {y : List UInt8} {P : List UInt8 → Bool} (hy : l[p]? = some y) (hP : P y = true) : l.any P = true := List.any_eq_true.2 ⟨y, List.mem_iff_getElem?.2 ⟨p, hy⟩, hP⟩
def IdxOf (w : World) (q : Bool) (e : Ending) (w' : World) : Prop := (∃ i : Int, e = .returned (.int .i64 i) ∧ decide (0 ≤ i) = q) ∧ Below w.heap.size w w'
set_option maxRecDepth 100000 in
set_option maxHeartbeats 2000000 in
theorem indexFunc_any (l : List (List UInt8)) (v : Value) (w : World) (hv : Ss w v l) (hl : l.length ≤ 1000000) (ha : ∀ x ∈ l, x.length ≤ 1000000) :
    Calls Tryd.prog 68 #[v, .func (.func 52) #[] #[]] w (IdxOf w (l.any badA)) := by
  have HV := Lib.hid hv
  obtain ⟨aa, ca, rfl, -, -⟩ := hv
  have HB := Lib.hid (fun x (hx : x ∈ l) W => bad_any x W (ha x hx))
  clear ha
  go_enter Tryd.func68, Tryd.ntmps68
  go_wp2_with fail
  go_loopw [5, 8] (fun _ i wr => ∃ p : Nat, i = .int .i64 (p : Int) ∧ p ≤ l.length ∧ (l.take p).any badA = false ∧ Below w.heap.size w wr) (fun _ i _ => l.length - (intOf i).toNat)
  case atStart => exact ⟨0, rfl, by omega, by simp, Below.refl _ _⟩
  case round =>
    obtain ⟨p, rfl, hp, hno, hb⟩ := hrel
    have HN := Lib.hid hno
    have BB := Lib.hid hb
    clear hno hb
    by_cases hlt : p < l.length
    · obtain ⟨x, hx⟩ : ∃ x, l[p]? = some x := ⟨l[p], List.getElem?_eq_getElem hlt⟩
      have HXX := Lib.hid hx
      obtain ⟨g, off, rfl, c0⟩ := Ss.at (HV.out.below BB.out) hx
      have hlt' : (p : Int) < (l.length : Int) := by omega
      have hp0 : (0 : Int) ≤ (p : Int) := by omega
      have H1 := Lib.hid (HB.out x (List.mem_iff_getElem?.2 ⟨p, hx⟩))
      obtain ⟨q, hq⟩ : ∃ q, badA x = q := ⟨_, rfl⟩
      rw [hq] at H1
      have HQ := Lib.hid hq
      clear hx hq
      go_wp2_with fail
      refine (H1.out _).mono ?_
      rintro e w1 ⟨rfl, b1⟩
      have B2 := Lib.hid (BB.out.trans (b1.mono BB.out.size))
      clear b1 H1
      cases q
      · go_wp2_with fail
        go_roundw
        case rel => exact ⟨p + 1, by go_num, by omega, any_next HN.out HXX.out HQ.out, B2.out⟩
        case measure => simp [intOf]; omega
      · go_wp2_with fail
        go_ret
        exact ⟨⟨(p : Int), rfl, by rw [any_hit HXX.out HQ.out]; simp⟩, B2.out⟩
    · obtain rfl : p = l.length := by omega
      have hlt' : ¬ (l.length : Int) < (l.length : Int) := by omega
      have hall : l.any badA = false := by have := HN.out; rwa [List.take_length] at this
      have HALL := Lib.hid hall
      clear hall HN
      go_wp2_with fail
      go_ret
      exact ⟨⟨(-1 : Int), rfl, by rw [HALL.out]; decide⟩, BB.out⟩
theorem containsFunc_any (l : List (List UInt8)) (v : Value) (w : World) (hv : Ss w v l) (hl : l.length ≤ 1000000) (ha : ∀ x ∈ l, x.length ≤ 1000000) :
    Calls Tryd.prog 51 #[v, .func (.func 52) #[] #[]] w fun e w' => e = .returned (.bool (l.any badA)) ∧ Below w.heap.size w w' := by
  have H := Lib.hid (indexFunc_any l v w hv hl ha)
  clear hv ha
  generalize l.any badA = q at H ⊢
  go_enter Tryd.func51, Tryd.ntmps51
  go_wp2_with fail
  refine H.out.mono ?_
  rintro e w1 ⟨⟨i, rfl, hi⟩, b1⟩
  have HI := Lib.hid hi
  clear hi H
  go_wp2_with fail
  go_ret
  exact ⟨ret_bool HI.out, b1⟩
theorem hasSuffix1 (b : List UInt8) (c : UInt8) : Lib.hasSuffix b [c] = (b.getLast? == some c) := by
  rcases nil_or_snoc b with rfl | ⟨m, d, rfl⟩
  · rfl
  · apply bool_of_iff
    simp only [Lib.hasSuffix, List.isSuffixOf_iff_suffix, List.getLast?_append, List.getLast?_singleton, Option.some_or, beq_iff_eq, Option.some.injEq]
    constructor
    · rintro ⟨t, ht⟩
      have := List.append_inj_right' ht rfl
      simpa using this.symm
    · rintro rfl
      exact ⟨m, rfl⟩
/-- A row, handed over by value. -/
def rowV (n : Int) (m : List UInt8) (a : Option Addr × Nat × Nat) (t : List UInt8) : Value := .agg #[.int .i64 n, .string ⟨m.toArray⟩, avOf a, .string ⟨t.toArray⟩]
def isT (m : List UInt8) (l : List (List UInt8)) (t : List UInt8) : Bool := decide (m = []) && decide (l = []) && !ptd t && !(t.getLast? == some 13) && !badT t
def isM (m : List UInt8) (l : List (List UInt8)) (t : List UInt8) : Bool := !decide (m = []) && decide (t = []) && !ptd m && !badN m && decide (l.length ≤ 200) && !(l.any badA)
set_option maxRecDepth 100000 in
set_option maxHeartbeats 2000000 in
theorem isText_any (n : Int) (m : List UInt8) (a : Option Addr × Nat × Nat) (l : List (List UInt8)) (t : List UInt8) (w : World) (hv : Ss w (avOf a) l) (ht : t.length ≤ 1000000) :
    Calls Tryd.prog 31 #[rowV n m a t] w fun e w' => e = .returned (.bool (isT m l t)) ∧ Below w.heap.size w w' := by
  obtain ⟨a0, a1, a2⟩ := a
  obtain ⟨aa, ca, hav, -, -⟩ := hv
  unfold avOf at hav
  simp only at hav
  injection hav with h1 h2 h3
  subst h1 h2 h3
  unfold rowV avOf
  simp only
  have P1 := Lib.hid (fun W => pointed_any t W)
  have S1 := Lib.hid (fun W => hasSuffix_any t [13] W (by omega))
  have C1 := Lib.hid (fun W => containsAny_any t [10, 92] W (by decide) (by decide) ht asc2)
  rw [show t.any (([10, 92] : List UInt8).contains ·) = badT t from rfl] at C1
  rw [hasSuffix1] at S1
  unfold isT
  obtain ⟨p, hp⟩ : ∃ p, ptd t = p := ⟨_, rfl⟩
  obtain ⟨s, hs⟩ : ∃ s, (t.getLast? == some 13) = s := ⟨_, rfl⟩
  obtain ⟨c, hc⟩ : ∃ c, badT t = c := ⟨_, rfl⟩
  rw [hp] at P1 ⊢
  rw [hs] at S1 ⊢
  rw [hc] at C1 ⊢
  clear hp hs hc
  have N1 := neqS_run m []
  obtain ⟨e0, he0⟩ : ∃ e, decide (m = []) = e := ⟨_, rfl⟩
  rw [he0] at N1 ⊢
  obtain ⟨e1, he1⟩ : ∃ e, decide (l = []) = e := ⟨_, rfl⟩
  have hq : decide ((0 : Int) < (l.length : Int)) = !e1 := by
    rw [← he1]
    cases l with
    | nil => rfl
    | cons x t => simp
  have hq2 : decide (0 < l.length) = !e1 := by
    rw [← hq]
    apply bool_of_iff
    simp
  rw [he1]
  clear he0 he1
  have fin : ∀ (a b : Bool) (w' : World), a = b → Below w.heap.size w w' → (Ending.returned (.bool a) = Ending.returned (.bool b) ∧ Below w.heap.size w w') := fun a b w' h hb => ⟨by rw [h], hb⟩
  cases e0
  · go_enter Tryd.func31, Tryd.ntmps31
    go_wp2_with fail
    go_ret
    exact fin _ _ _ (by simp) (below_lit w _)
  · cases e1
    · go_enter Tryd.func31, Tryd.ntmps31
      go_wp2_with fail
      go_ret
      exact fin _ _ _ (by simp) (below_lit w _)
    · cases p
      · cases s
        · go_enter Tryd.func31, Tryd.ntmps31
          go_wp2_with (first
            | (go_at_call 48; refine (P1.out _).mono ?_; rintro e w' ⟨rfl, rfl⟩)
            | (go_at_call 49; refine (S1.out _).mono ?_; rintro e w' ⟨rfl, rfl⟩)
            | (go_at_call 50; refine (C1.out _).mono ?_; rintro e w1 ⟨rfl, b1⟩))
          go_ret
          exact fin _ _ _ (by simp) ((below_lit w _).trans (b1.mono (by rw [World.size_alloc]; omega)))
        · go_enter Tryd.func31, Tryd.ntmps31
          go_wp2_with (first
            | (go_at_call 48; refine (P1.out _).mono ?_; rintro e w' ⟨rfl, rfl⟩)
            | (go_at_call 49; refine (S1.out _).mono ?_; rintro e w' ⟨rfl, rfl⟩))
          go_ret
          exact fin _ _ _ (by simp) (below_lit w _)
      · go_enter Tryd.func31, Tryd.ntmps31
        go_wp2_with (go_at_call 48; refine (P1.out _).mono ?_; rintro e w' ⟨rfl, rfl⟩)
        go_ret
        exact fin _ _ _ (by simp) (below_lit w _)

set_option maxRecDepth 100000 in
set_option maxHeartbeats 2000000 in
theorem isMacro_any (n : Int) (m : List UInt8) (a : Option Addr × Nat × Nat) (l : List (List UInt8)) (t : List UInt8) (w : World) (hv : Ss w (avOf a) l) (hl : l.length ≤ 1000000) (hm : m.length ≤ 1000000) (ha : ∀ x ∈ l, x.length ≤ 1000000) :
    Calls Tryd.prog 32 #[rowV n m a t] w fun e w' => e = .returned (.bool (isM m l t)) ∧ Below w.heap.size w w' := by
  have HF := Lib.hid (fun W (hb : Below w.heap.size w W) => containsFunc_any l (avOf a) W (hv.below hb) hl ha)
  obtain ⟨a0, a1, a2⟩ := a
  obtain ⟨aa, ca, hav, -, -⟩ := hv
  unfold avOf at hav HF
  simp only at hav HF
  injection hav with h1 h2 h3
  subst h1 h2 h3
  unfold rowV avOf
  simp only
  have P1 := Lib.hid (fun W => pointed_any m W)
  have C1 := Lib.hid (fun W => containsAny_any m [32, 9, 10, 13, 92, 34] W (by decide) (by decide) hm asc6)
  rw [show m.any (([32, 9, 10, 13, 92, 34] : List UInt8).contains ·) = badN m from rfl] at C1
  unfold isM
  obtain ⟨p, hp⟩ : ∃ p, ptd m = p := ⟨_, rfl⟩
  obtain ⟨c, hc⟩ : ∃ c, badN m = c := ⟨_, rfl⟩
  obtain ⟨f, hf⟩ : ∃ f, l.any badA = f := ⟨_, rfl⟩
  rw [hp] at P1 ⊢
  rw [hc] at C1 ⊢
  rw [hf] at HF ⊢
  clear hp hc hf ha
  have N1 := eqlS_run m []
  obtain ⟨e0, he0⟩ : ∃ e, decide (m = []) = e := ⟨_, rfl⟩
  rw [he0] at N1 ⊢
  have N2 := neqS_run t []
  obtain ⟨e1, he1⟩ : ∃ e, decide (t = []) = e := ⟨_, rfl⟩
  rw [he1] at N2 ⊢
  obtain ⟨g, hg⟩ : ∃ g, decide (l.length ≤ 200) = g := ⟨_, rfl⟩
  have hq : decide ((l.length : Int) ≤ 200) = g := by
    rw [← hg]
    apply bool_of_iff
    simp only [decide_eq_true_eq]
    omega
  rw [hg]
  have hG := Lib.hid hg
  clear he0 he1 hg
  have fin : ∀ (a b : Bool) (w' : World), a = b → Below w.heap.size w w' → (Ending.returned (.bool a) = Ending.returned (.bool b) ∧ Below w.heap.size w w') := fun a b w' h hb => ⟨by rw [h], hb⟩
  have HC2 : Hid (∀ w1, Below (w.alloc (.cells #[.int .i64 n, .string ⟨m.toArray⟩, .slice a0 l.length a2, .string ⟨t.toArray⟩] 34)).heap.size (w.alloc (.cells #[.int .i64 n, .string ⟨m.toArray⟩, .slice a0 l.length a2, .string ⟨t.toArray⟩] 34)) w1 → w1.cell? ⟨w.heap.size, 2, none⟩ = some (.slice a0 l.length a2)) := Lib.hid fun w1 b1 =>
    (b1.cell (p := ⟨w.heap.size, 2, none⟩) (by simp)).trans ((blk_new w [.int .i64 n, .string ⟨m.toArray⟩, .slice a0 l.length a2, .string ⟨t.toArray⟩] 34).cell 2)
  cases e0
  · cases e1
    · go_enter Tryd.func32, Tryd.ntmps32
      go_wp2_with fail
      go_ret
      exact fin _ _ _ (by simp) (below_lit w _)
    · cases p
      · cases c
        · cases g
          · have hz : ¬ (l.length : Int) ≤ 200 := of_decide_eq_false hq
            go_enter Tryd.func32, Tryd.ntmps32
            go_wp2_with (first
              | (go_at_call 48; refine (P1.out _).mono ?_; rintro e w' ⟨rfl, rfl⟩)
              | (go_at_call 50; refine (C1.out _).mono ?_; rintro e w1 ⟨rfl, b1⟩; have c2 := HC2.out w1 b1))
            go_ret
            exact fin _ _ _ (by simp) ((below_lit w _).trans (b1.mono (by rw [World.size_alloc]; omega)))
          · have hz : (l.length : Int) ≤ 200 := of_decide_eq_true hq
            go_enter Tryd.func32, Tryd.ntmps32
            go_wp2_with (first
              | (go_at_call 48; refine (P1.out _).mono ?_; rintro e w' ⟨rfl, rfl⟩)
              | (go_at_call 50; refine (C1.out _).mono ?_; rintro e w1 ⟨rfl, b1⟩; have c2 := HC2.out w1 b1))
            have B1 := Lib.hid ((below_lit w _).trans (b1.mono (by rw [World.size_alloc]; omega)))
            have F1 := Lib.hid (HF.out _ B1.out)
            clear b1 HF
            go_wp2_with fail
            refine F1.out.mono ?_
            rintro e w2 ⟨rfl, b2⟩
            have B2 := Lib.hid (B1.out.trans (b2.mono B1.out.size))
            clear b2 F1
            go_wp2_with fail
            go_ret
            exact fin _ _ _ (by simp) B2.out
        · go_enter Tryd.func32, Tryd.ntmps32
          go_wp2_with (first
            | (go_at_call 48; refine (P1.out _).mono ?_; rintro e w' ⟨rfl, rfl⟩)
            | (go_at_call 50; refine (C1.out _).mono ?_; rintro e w1 ⟨rfl, b1⟩))
          go_ret
          exact fin _ _ _ (by simp) ((below_lit w _).trans (b1.mono (by rw [World.size_alloc]; omega)))
      · go_enter Tryd.func32, Tryd.ntmps32
        go_wp2_with (go_at_call 48; refine (P1.out _).mono ?_; rintro e w' ⟨rfl, rfl⟩)
        go_ret
        exact fin _ _ _ (by simp) (below_lit w _)
  · go_enter Tryd.func32, Tryd.ntmps32
    go_wp2_with fail
    go_ret
    exact fin _ _ _ (by simp) (below_lit w _)
end Go.Proofs.YteckiifnldcjbaaDoor
