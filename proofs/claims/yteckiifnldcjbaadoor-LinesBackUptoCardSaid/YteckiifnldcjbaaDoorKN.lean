/- lines.Check: of rows that are small, and of a macro with too many arguments, however long its name. -/
import Derived.Test.YteckiifnldcjbaaDoorKM
namespace Go.Proofs.YteckiifnldcjbaaDoor
open Go.RowKit
attribute [local go_sem ↓ high] binop_eqlS binop_neqS

set_option maxRecDepth 100000 in
set_option maxHeartbeats 2000000 in
theorem isMacro_big (n : Int) (m : List UInt8) (a : Option Addr × Nat × Nat) (l : List (List UInt8)) (w : World) (hv : Ss w (avOf a) l) (hl : 200 < l.length) (hm : m.length ≤ 4000000000000000000) :
    Calls Tryd.prog 32 #[rowV n m a []] w fun e w' => e = .returned (.bool false) ∧ Below w.heap.size w w' := by
  obtain ⟨a0, a1, a2⟩ := a
  obtain ⟨aa, ca, hav, -, -⟩ := hv
  unfold avOf at hav
  simp only at hav
  injection hav with h1 h2 h3
  subst h1 h2 h3
  unfold rowV avOf
  simp only
  have P1 := Lib.hid (fun W => pointed_any m W)
  have C1 := Lib.hid (fun W => containsAny_big m [32, 9, 10, 13, 92, 34] W (by decide) (by decide) hm asc6)
  obtain ⟨p, hp⟩ : ∃ p, ptd m = p := ⟨_, rfl⟩
  rw [hp] at P1
  clear hp
  have N1 := eqlS_run m []
  obtain ⟨e0, he0⟩ : ∃ e, decide (m = []) = e := ⟨_, rfl⟩
  rw [he0] at N1
  have N2 : ∀ W, (neqS (.string ⟨#[]⟩) (.string ⟨#[]⟩)).run Tryd.prog W = .ok (.bool false) W := neqS_run [] []
  have hz : ¬ (l.length : Int) ≤ 200 := by omega
  clear he0
  have HC2 : Hid (∀ w1, Below (w.alloc (.cells #[.int .i64 n, .string ⟨m.toArray⟩, .slice a0 l.length a2, .string ⟨#[]⟩] 34)).heap.size (w.alloc (.cells #[.int .i64 n, .string ⟨m.toArray⟩, .slice a0 l.length a2, .string ⟨#[]⟩] 34)) w1 → w1.cell? ⟨w.heap.size, 2, none⟩ = some (.slice a0 l.length a2)) := Lib.hid fun w1 b1 =>
    (b1.cell (p := ⟨w.heap.size, 2, none⟩) (by simp)).trans ((blk_new w [.int .i64 n, .string ⟨m.toArray⟩, .slice a0 l.length a2, .string ⟨#[]⟩] 34).cell 2)
  cases e0
  · cases p
    · go_enter Tryd.func32, Tryd.ntmps32
      go_wp2_with (go_at_call 48; refine (P1.out _).mono ?_; rintro e w' ⟨rfl, rfl⟩)
      refine (C1.out _).mono ?_
      rintro e w1 ⟨q, rfl, b1⟩
      have c2 := HC2.out w1 b1
      have B1 := Lib.hid ((below_lit w _).trans (b1.mono (by rw [World.size_alloc]; omega)))
      clear b1
      cases q
      · go_wp2_with fail
        go_ret
        exact ⟨rfl, B1.out⟩
      · go_wp2_with fail
        go_ret
        exact ⟨rfl, B1.out⟩
    · go_enter Tryd.func32, Tryd.ntmps32
      go_wp2_with (go_at_call 48; refine (P1.out _).mono ?_; rintro e w' ⟨rfl, rfl⟩)
      go_ret
      exact ⟨rfl, below_lit w _⟩
  · go_enter Tryd.func32, Tryd.ntmps32
    go_wp2_with fail
    go_ret
    exact ⟨rfl, below_lit w _⟩

def okRow (m : List UInt8) (l : List (List UInt8)) (t : List UInt8) : Bool := isT m l t || isM m l t
set_option maxRecDepth 100000 in
set_option maxHeartbeats 2000000 in
theorem check_of (n : Int) (m : List UInt8) (a : Option Addr × Nat × Nat) (t : List UInt8) (w : World) (q1 q2 : Bool) (D : Nat) (hD : D ≤ w.heap.size)
    (H1 : ∀ W, Below D w W → Calls Tryd.prog 31 #[rowV n m a t] W fun e w' => e = .returned (.bool q1) ∧ Below W.heap.size W w')
    (H2 : ∀ W, Below D w W → Calls Tryd.prog 32 #[rowV n m a t] W fun e w' => e = .returned (.bool q2) ∧ Below W.heap.size W w') :
    Calls Tryd.prog 18 #[rowV n m a t] w fun e w' => e = .returned (.int .i64 (if q1 || q2 then 0 else 2)) ∧ Below D w w' := by
  have HH1 := Lib.hid H1
  have HH2 := Lib.hid H2
  clear H1 H2
  unfold rowV at HH1 HH2 ⊢
  obtain ⟨a0, hav⟩ : ∃ a0, avOf a = a0 := ⟨_, rfl⟩
  have hone : a0.cells = #[a0] := by rw [← hav]; rfl
  rw [hav] at HH1 HH2 ⊢
  have HC : Hid (∀ w1, Below (w.alloc (.cells #[.int .i64 n, .string ⟨m.toArray⟩, a0, .string ⟨t.toArray⟩] 34)).heap.size (w.alloc (.cells #[.int .i64 n, .string ⟨m.toArray⟩, a0, .string ⟨t.toArray⟩] 34)) w1 → (w1.cell? ⟨w.heap.size, 0, none⟩ = some (.int .i64 n) ∧ w1.cell? ⟨w.heap.size, 1, none⟩ = some (.string ⟨m.toArray⟩)) ∧ w1.cell? ⟨w.heap.size, 2, none⟩ = some a0 ∧ w1.cell? ⟨w.heap.size, 3, none⟩ = some (.string ⟨t.toArray⟩)) := Lib.hid fun w1 b1 =>
    have k := blk_new w [.int .i64 n, .string ⟨m.toArray⟩, a0, .string ⟨t.toArray⟩] 34
    ⟨⟨(b1.cell (p := ⟨w.heap.size, 0, none⟩) (by simp)).trans (k.cell 0), (b1.cell (p := ⟨w.heap.size, 1, none⟩) (by simp)).trans (k.cell 1)⟩, (b1.cell (p := ⟨w.heap.size, 2, none⟩) (by simp)).trans (k.cell 2), (b1.cell (p := ⟨w.heap.size, 3, none⟩) (by simp)).trans (k.cell 3)⟩
  have hbl := (below_lit w (.cells #[.int .i64 n, .string ⟨m.toArray⟩, a0, .string ⟨t.toArray⟩] 34)).mono hD
  have HBL := Lib.hid hbl
  obtain ⟨R, hR⟩ : ∃ R : Int, (if (q1 || q2) = true then 0 else 2) = R := ⟨_, rfl⟩
  rw [hR]
  have HR := Lib.hid hR
  clear hbl hav hR
  go_enter Tryd.func18, Tryd.ntmps18
  go_wp2_with fail
  refine (HH1.out _ HBL.out).mono ?_
  rintro e w1 ⟨rfl, b1⟩
  obtain ⟨⟨c0, c1⟩, c2, c3⟩ := HC.out w1 b1
  have B1 := Lib.hid (HBL.out.trans (b1.mono (Nat.le_trans hD HBL.out.size)))
  clear b1 HC HH1 HBL
  cases q1
  · go_wp2_with fail
    refine (HH2.out _ B1.out).mono ?_
    rintro e w2 ⟨rfl, b2⟩
    have B2 := Lib.hid (B1.out.trans (b2.mono (Nat.le_trans hD B1.out.size)))
    clear b2 HH2 c0 c1 c2 c3
    cases q2
    · go_wp2_with fail
      go_ret
      exact ⟨by rw [← HR.out]; rfl, B2.out⟩
    · go_wp2_with fail
      go_ret
      exact ⟨by rw [← HR.out]; rfl, B2.out⟩
  · go_wp2_with fail
    go_ret
    exact ⟨by rw [← HR.out]; rfl, B1.out⟩
theorem check_any (n : Int) (m : List UInt8) (a : Option Addr × Nat × Nat) (l : List (List UInt8)) (t : List UInt8) (w : World) (hv : Ss w (avOf a) l) (hl : l.length ≤ 1000000) (hm : m.length ≤ 1000000) (ht : t.length ≤ 1000000) (ha : ∀ x ∈ l, x.length ≤ 1000000) :
    Calls Tryd.prog 18 #[rowV n m a t] w fun e w' => e = .returned (.int .i64 (if okRow m l t then 0 else 2)) ∧ Below w.heap.size w w' :=
  check_of n m a t w (isT m l t) (isM m l t) w.heap.size (Nat.le_refl _) (fun W hb => isText_any n m a l t W (hv.below hb) ht) (fun W hb => isMacro_any n m a l t W (hv.below hb) hl hm ha)
/-- Too many arguments: a name may be as long as it likes. -/
theorem check_big (n : Int) (m : List UInt8) (a : Option Addr × Nat × Nat) (l : List (List UInt8)) (w : World) (hv : Ss w (avOf a) l) (hl : 200 < l.length) (hm : m.length ≤ 4000000000000000000) :
    Calls Tryd.prog 18 #[rowV n m a []] w fun e w' => e = .returned (.int .i64 2) ∧ Below w.heap.size w w' := by
  have h : isT m l [] = false := by
    have : decide (l = []) = false := decide_eq_false (fun h => by rw [h] at hl; simp at hl)
    unfold isT
    rw [this]
    simp
  refine check_of n m a [] w false false w.heap.size (Nat.le_refl _) (fun W hb => ?_) (fun W hb => isMacro_big n m a l W (hv.below hb) hl hm)
  have := isText_any n m a l [] W (hv.below hb) (by simp)
  rw [h] at this
  exact this
end Go.Proofs.YteckiifnldcjbaaDoor
