/- lines.Same of rows with themselves. -/
import Derived.Test.YteckiifnldcjbaaDoorKR
namespace Go.Proofs.YteckiifnldcjbaaDoor
open Go.RowKit
attribute [local go_sem ↓ high] binop_eqlS binop_neqS

theorem eqlS_same (x : List UInt8) (W : World) : (eqlS (.string ⟨x.toArray⟩) (.string ⟨x.toArray⟩)).run Tryd.prog W = .ok (.bool true) W := by
  have := eqlS_run x x W
  simpa using this
set_option maxRecDepth 100000 in
set_option maxHeartbeats 1000000 in
theorem equalS_refl (l : List (List UInt8)) (v : Value) (w : World) (hv : Ss w v l) (hl : l.length ≤ 4000000000000000000) :
    Calls Tryd.prog 39 #[v, v] w fun e w' => e = .returned (.bool true) ∧ ∃ m, w' = w.drewN m := by
  have HV := Lib.hid hv
  obtain ⟨aa, ca, rfl, -, -⟩ := hv
  have hne : ((l.length : Int) != (l.length : Int)) = false := by simp
  go_enter Tryd.func39, Tryd.ntmps39
  go_wp2_with fail
  go_loopw [5, 13] (fun _ i wr => ∃ p m : Nat, wr = w.drewN m ∧ i = .int .i64 (p : Int) ∧ p ≤ l.length) (fun _ i _ => l.length - (intOf i).toNat)
  case atStart => exact ⟨0, 0, rfl, rfl, by omega⟩
  case round =>
    obtain ⟨p, m, rfl, rfl, hp⟩ := hrel
    by_cases hlt : p < l.length
    · obtain ⟨x, hx⟩ : ∃ x, l[p]? = some x := ⟨l[p], List.getElem?_eq_getElem hlt⟩
      obtain ⟨g, off, rfl, c0⟩ := Ss.at (fs_drewN HV.out m) hx
      have hlt' : (p : Int) < (l.length : Int) := by omega
      have hp0 : (0 : Int) ≤ (p : Int) := by omega
      have hq := neqS_same x
      clear hx
      generalize hwd : w.drewN m = wd at c0 ⊢
      have HWD := Lib.hid hwd
      clear hwd
      go_wp2_with fail
      go_quiet (fail)
      go_wp2
      go_roundw
      case rel => exact ⟨p + 1, _, by rw [← HWD.out, drewN_add], by go_num, by omega⟩
      case measure => simp [intOf]; omega
    · obtain rfl : p = l.length := by omega
      have hlt' : ¬ (l.length : Int) < (l.length : Int) := by omega
      go_wp2_with fail
      go_ret
      exact ⟨rfl, _, rfl⟩
/-- Whether two rows are one: of a row and itself. -/
theorem same1_refl (n : Int) (m : List UInt8) (a : Option Addr × Nat × Nat) (l : List (List UInt8)) (t : List UInt8) (w : World) (hv : Ss w (avOf a) l) (hl : l.length ≤ 4000000000000000000) :
    Calls Tryd.prog 38 #[rowV n m a t, rowV n m a t] w fun e w' => e = .returned (.bool true) ∧ Below w.heap.size w w' := by
  have HQ := Lib.hid (fun W (hb : Below w.heap.size w W) => equalS_refl l (avOf a) W (hv.below hb) hl)
  obtain ⟨a0, a1, a2⟩ := a
  obtain ⟨aa, ca, hav, -, -⟩ := hv
  unfold avOf at hav HQ
  simp only at hav HQ
  injection hav with h1 h2 h3
  subst h1 h2 h3
  unfold rowV avOf
  simp only
  have E1 := eqlS_same m
  have E2 := eqlS_same t
  have hn : (n == n) = true := by simp
  have hb2 := below_two w (.cells #[.int .i64 n, .string ⟨m.toArray⟩, .slice a0 l.length a2, .string ⟨t.toArray⟩] 34) (.cells #[.int .i64 n, .string ⟨m.toArray⟩, .slice a0 l.length a2, .string ⟨t.toArray⟩] 34)
  have HB2 := Lib.hid hb2
  clear hb2
  go_enter Tryd.func38, Tryd.ntmps38
  go_wp2_with fail
  refine (HQ.out _ HB2.out).mono ?_
  rintro e w1 ⟨rfl, m1, rfl⟩
  go_wp2_with fail
  go_ret
  exact ⟨rfl, below_drewN HB2.out _⟩
set_option maxRecDepth 100000 in
set_option maxHeartbeats 2000000 in
theorem equalFunc_refl (l : List Row) (v : Value) (w : World) (hv : Rws w v l) (hl : l.length ≤ 4000000000000000000) (ha : ∀ y ∈ l, y.2.2.1.length ≤ 4000000000000000000) :
    Calls Tryd.prog 37 #[v, v, .func (.func 38) #[] #[]] w fun e w' => e = .returned (.bool true) ∧ Below w.heap.size w w' := by
  have HV := Lib.hid hv
  have HA := Lib.hid ha
  obtain ⟨aa, ca, rfl⟩ := hv.len
  have hne : ((l.length : Int) != (l.length : Int)) = false := by simp
  clear hv ha
  go_enter Tryd.func37, Tryd.ntmps37
  go_wp2_with fail
  go_loopw [7, 8, 9, 17] (fun _ _ _ i wr => ∃ p : Nat, i = .int .i64 (p : Int) ∧ p ≤ l.length ∧ Below w.heap.size w wr) (fun _ _ _ i _ => l.length - (intOf i).toNat)
  case atStart => exact ⟨0, rfl, by omega, Below.refl _ _⟩
  case round =>
    obtain ⟨p, rfl, hp, hb⟩ := hrel
    have BB := Lib.hid hb
    clear hb
    by_cases hlt : p < l.length
    · obtain ⟨y, hy⟩ : ∃ y, l[p]? = some y := ⟨l[p], List.getElem?_eq_getElem hlt⟩
      have hyl := HA.out y (List.mem_iff_getElem?.2 ⟨p, hy⟩)
      obtain ⟨g, off, rfl, c0, c1, ⟨a1, n1, p1, c2, s2⟩, c3⟩ := (HV.out.below BB.out).at hy
      have hlt' : (p : Int) < (l.length : Int) := by omega
      have hp0 : (0 : Int) ≤ (p : Int) := by omega
      obtain ⟨y0, y1, y2, y3⟩ := y
      simp only at c0 c1 c2 c3 s2 hyl
      have hb2 := below_two wr (.cells #[.int .i64 y0, .string ⟨y1.toArray⟩, .slice a1 n1 p1, .string ⟨y3.toArray⟩] 34) (.cells #[.int .i64 y0, .string ⟨y1.toArray⟩, .slice a1 n1 p1, .string ⟨y3.toArray⟩] 34)
      have HS := Lib.hid (same1_refl y0 y1 (a1, n1, p1) y2 y3 _ (s2.below hb2) hyl)
      unfold rowV avOf at HS
      have B2 := Lib.hid (BB.out.trans (hb2.mono BB.out.size))
      have hb1 := below_lit wr (.cells #[.int .i64 y0, .string ⟨y1.toArray⟩, .slice a1 n1 p1, .string ⟨y3.toArray⟩] 34)
      have e0 := (hb1.cell (World.block_lt_of_cell? wr _ c0)).trans c0
      have e1 := (hb1.cell (World.block_lt_of_cell? wr _ c1)).trans c1
      have e2 := (hb1.cell (World.block_lt_of_cell? wr _ c2)).trans c2
      have e3 := (hb1.cell (World.block_lt_of_cell? wr _ c3)).trans c3
      clear hb1 hb2 hy s2 hyl
      go_wp2_with fail
      refine HS.out.mono ?_
      rintro e w1 ⟨rfl, b1⟩
      have B3 := Lib.hid (B2.out.trans (b1.mono B2.out.size))
      clear b1 HS c0 c1 c2 c3 e0 e1 e2 e3
      go_wp2_with fail
      go_roundw
      case rel => exact ⟨p + 1, by go_num, by omega, B3.out⟩
      case measure => simp [intOf]; omega
    · obtain rfl : p = l.length := by omega
      have hlt' : ¬ (l.length : Int) < (l.length : Int) := by omega
      go_wp2_with fail
      go_ret
      exact ⟨rfl, BB.out⟩
theorem same_refl (l : List Row) (v : Value) (w : World) (hv : Rws w v l) (hl : l.length ≤ 4000000000000000000) (ha : ∀ y ∈ l, y.2.2.1.length ≤ 4000000000000000000) :
    Calls Tryd.prog 22 #[v, v] w fun e w' => e = .returned (.bool true) ∧ Below w.heap.size w w' := by
  have H := Lib.hid (equalFunc_refl l v w hv hl ha)
  clear hv ha
  go_enter Tryd.func22, Tryd.ntmps22
  go_wp2_with fail
  refine H.out.mono ?_
  rintro e w1 ⟨rfl, b1⟩
  go_wp2_with fail
  go_ret
  exact ⟨rfl, b1⟩
end Go.Proofs.YteckiifnldcjbaaDoor
