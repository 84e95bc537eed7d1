/- Cut; known() is true. known() is true. Trim, in the program and in the document's answer. slices.Concat of three rows; styles.Join. -/
import Derived.Test.YtpcbbhfbldchlaaQ2
import Derived.Deep.RegionWith
import Derived.Deep.LoopGhost
import Derived.Lib.AppendZerosOnto
set_option linter.unusedVariables false
set_option linter.unusedSimpArgs false
namespace Go.Proofs.Ytpcbbhfbldchlaa
open Go.RowKit
attribute [local go_sem ↓ high] slice_frontG
end Go.Proofs.Ytpcbbhfbldchlaa
namespace Go.Proofs.Ytpcbbhfbldchlaa
open Go.RowKit
attribute [local go_sem ↓ high] slice_frontG
def kl : List Gly := [(97, 0), (19968, 0), (98, 0)]
end Go.Proofs.Ytpcbbhfbldchlaa
namespace Go.Proofs.Ytpcbbhfbldchlaa
open Go.RowKit
attribute [local go_sem ↓ high] slice_frontG
end Go.Proofs.Ytpcbbhfbldchlaa
namespace Go.Proofs.Ytpcbbhfbldchlaa
open Go.RowKit
noncomputable def appZ (args : Array Value) : Sem Next := do pure (.value (← Builtin.append_ #[23, 3] 23 args))
theorem builtin_appZ (cs : Array Bool) (args : Array Value) : builtin .append #[23, 3] 23 cs args = appZ args := rfl
theorem front_zero (a : Option Addr) (l c : Nat) (W : World) : (frontG (.slice a l c) (.int .i64 0)).run Try.prog W = .ok (.slice a 0 c) W := by
  obtain ⟨i0, hi, hz0, hz1, hz2⟩ := info_parts infoG
  unfold frontG
  simp [Instr.slice, Instr.sliceBounds, Instr.sliceBound, asIntOf, run_underlying Try.underlying23, sizeOf, typeInfo, hi]
  intro _
  cases a <;> rfl
theorem appZ_run (W : World) (n : Nat) (h0 : 0 < n) (hn : n ≤ 1000000) : ∃ G C, n ≤ G ∧ G ≤ maxLen ∧ C.size = G * 2 ∧ (appZ #[.slice none 0 0, .int .i64 (n : Int)]).run Try.prog W = .ok (.value (.slice (some ⟨W.heap.size, 0, none⟩) n G)) (W.drew.alloc (.cells C 27)) := by
  obtain ⟨i0, hi, hz0, hz1, hz2⟩ := info_parts infoG
  have h := Lib.run_append_grow_zeros (P := Try.prog) W 23 3 23 27 i0 _ .i64 .i64 Try.underlying23 Try.underlying3 hi hz0 none 0 0 [] (run_firstCells_none _ _ _ _ _) n h0 (by rw [hz1]; decide) (by omega) (by omega) (by rw [hz2]; omega) (growslice_fits (by omega) (by rw [hz2]; omega))
  have hg := grownCap_ge W (0 + n) 0 27
  have hm := grownCap_le_maxLen W (0 + n) 0 27 (by unfold maxLen; omega)
  simp only [Nat.zero_add] at h hg hm
  have e : (Value.agg #[Value.int .i32 0, Value.int .u8 0]).cells = #[.int .i32 0, .int .u8 0] := rfl
  rw [e] at h
  obtain ⟨C, hC⟩ : ∃ C, ([] : List Value).toArray ++ Builtin.zeroCells #[Value.int .i32 0, .int .u8 0] n ++ Builtin.zeroCells #[Value.int .i32 0, .int .u8 0] (grownCap W n 0 27 - n) = C := ⟨_, rfl⟩
  rw [hC] at h
  refine ⟨grownCap W n 0 27, C, hg, hm, ?_, ?_⟩
  · rw [← hC]
    simp [Builtin.zeroCells]
    omega
  · unfold appZ
    simp only [Sem.run_bind, Sem.run_pure, Result.andThen_ok, h]
attribute [local go_sem ↓ high] slice_frontG builtin_appZ
set_option maxRecDepth 100000 in
set_option maxHeartbeats 1000000 in
theorem grow_nil (n : Nat) (hn : n ≤ 1000000) (w : World) :
    Calls Try.prog 28 #[.slice none 0 0, .int .i64 (n : Int)] w fun e w' => ∃ u, e = .returned u ∧ GOwn w.heap.size w' u [] ∧ Below w.heap.size w w' := by
  by_cases h0 : n = 0
  · subst h0
    go_enter Try.func28, Try.ntmps28
    go_wp2_with fail
    go_ret
    exact ⟨_, rfl, FOwn.nil _ _, Below.refl _ _⟩
  · have hp : (0 : Int) < (n : Int) := by omega
    have hn0 : (n : Int) ≤ 1000000 := by omega
    obtain ⟨G, C, hG, hGm, hC, k1⟩ := appZ_run w n (by omega) hn
    have f1 : ∀ W : World, (frontG (.slice none 0 0) (.int .i64 0)).run Try.prog W = .ok (.slice none 0 0) W := fun W => front_zero none 0 0 W
    have f2 : ∀ W : World, (frontG (.slice (some ⟨w.heap.size, 0, none⟩) n G) (.int .i64 0)).run Try.prog W = .ok (.slice (some ⟨w.heap.size, 0, none⟩) 0 G) W := fun W => front_zero _ n G W
    have HO : Hid (GOwn w.heap.size (w.drew.alloc (.cells C 27)) (.slice (some ⟨w.heap.size, 0, none⟩) 0 G) []) := Lib.hid (World.ownsRow_made w.drew C G (Nat.le_refl _) hGm hC)
    have HB := Lib.hid ((Below.refl w.heap.size w).drew.alloc (Nat.le_refl _) (.cells C 27))
    clear h0 hG hGm hC
    go_enter Try.func28, Try.ntmps28
    go_wp2_with fail
    go_ret
    exact ⟨_, rfl, HO.out, HB.out⟩
attribute [local go_sem ↓ high] builtin_appG
set_option maxRecDepth 100000 in
set_option maxHeartbeats 2000000 in
theorem concat3_any (a b c : List Gly) (v1 v2 v3 : Value) (g : Nat) (w : World) (c0 : w.cell? ⟨g, 0, none⟩ = some v1) (c1 : w.cell? ⟨g, 1, none⟩ = some v2) (c2 : w.cell? ⟨g, 2, none⟩ = some v3) (h1 : Gs w v1 a) (h2 : Gs w v2 b) (h3 : Gs w v3 c) (hl : a.length + b.length + c.length ≤ 400000) :
    Calls Try.prog 24 #[.slice (some ⟨g, 0, none⟩) 3 3] w fun e w' => ∃ u, e = .returned u ∧ GOwn w.heap.size w' u (a ++ b ++ c) ∧ Below w.heap.size w w' := by
  have H1 := Lib.hid h1
  have H2 := Lib.hid h2
  have H3 := Lib.hid h3
  obtain ⟨a1, k1, rfl⟩ := h1.len
  obtain ⟨a2, k2, rfl⟩ := h2.len
  obtain ⟨a3, k3, rfl⟩ := h3.len
  have hg := World.block_lt_of_cell? w _ c0
  simp only at hg
  have HG := Lib.hid (grow_nil (a.length + b.length + c.length) (by omega))
  have ha0 : (0 : Int) ≤ (a.length : Int) := by omega
  have ha1 : (a.length : Int) ≤ 400000 := by omega
  have hb0 : (0 : Int) ≤ (b.length : Int) := by omega
  have hb1 : (b.length : Int) ≤ 400000 := by omega
  have hc0 : (0 : Int) ≤ (c.length : Int) := by omega
  have hc1 : (c.length : Int) ≤ 400000 := by omega
  clear h1 h2 h3
  go_enter Try.func24, Try.ntmps24
  go_wp2_with fail
  go_loopw [3, 11] (fun s i wr => wr = w ∧ ((i = .int .i64 0 ∧ s = .int .i64 0) ∨ (i = .int .i64 1 ∧ s = .int .i64 (a.length : Int)) ∨ (i = .int .i64 2 ∧ s = .int .i64 ((a.length : Int) + (b.length : Int))) ∨ (i = .int .i64 3 ∧ s = .int .i64 ((a.length : Int) + (b.length : Int) + (c.length : Int))))) (fun _ i _ => 4 - (intOf i).toNat)
  case atStart => exact ⟨rfl, .inl ⟨rfl, rfl⟩⟩
  case round =>
    obtain ⟨rfl, hcase⟩ := hrel
    rcases hcase with ⟨rfl, rfl⟩ | ⟨rfl, rfl⟩ | ⟨rfl, rfl⟩ | ⟨rfl, rfl⟩
    · go_wp2_with fail
      go_roundw
      case rel => exact ⟨by first | trivial | rfl, .inr (.inl ⟨by first | trivial | rfl, by first | trivial | rfl⟩)⟩
      case measure => simp [intOf]
    · go_wp2_with fail
      go_roundw
      case rel => exact ⟨by first | trivial | rfl, .inr (.inr (.inl ⟨by first | trivial | rfl, by first | trivial | rfl⟩))⟩
      case measure => simp [intOf]
    · go_wp2_with fail
      go_roundw
      case rel => exact ⟨by first | trivial | rfl, .inr (.inr (.inr ⟨by first | trivial | rfl, by first | trivial | rfl⟩))⟩
      case measure => simp [intOf]
    · go_wp2_with fail
      refine (HG.out _).mono ?_
      rintro e w1 ⟨u, rfl, o1, b1⟩
      have z1 := b1.size
      have q0 := (b1.cell (p := ⟨g, 0, none⟩) hg).trans c0
      have q1 := (b1.cell (p := ⟨g, 1, none⟩) hg).trans c1
      have q2 := (b1.cell (p := ⟨g, 2, none⟩) hg).trans c2
      obtain ⟨x1, w2, j1, o2, g2, -⟩ := appG_own o1 (Fs.below H1.out b1) z1 (by simp; omega)
      rw [List.nil_append] at o2
      have b2 := o1.below b1 z1 g2
      obtain ⟨x2, w3, j2, o3, g3, -⟩ := appG_own o2 (Fs.below H2.out b2) b2.size (by omega)
      have b3 := o2.below b2 b2.size g3
      obtain ⟨x3, w4, j3, o4, g4, -⟩ := appG_own o3 (Fs.below H3.out b3) b3.size (by rw [List.length_append]; omega)
      have O4 := Lib.hid o4
      have B4 := Lib.hid (o3.below b3 b3.size g4)
      have r0 := (b2.cell (p := ⟨g, 0, none⟩) hg).trans c0
      have r1 := (b2.cell (p := ⟨g, 1, none⟩) hg).trans c1
      have r2 := (b2.cell (p := ⟨g, 2, none⟩) hg).trans c2
      have s0 := (b3.cell (p := ⟨g, 0, none⟩) hg).trans c0
      have s1 := (b3.cell (p := ⟨g, 1, none⟩) hg).trans c1
      have s2 := (b3.cell (p := ⟨g, 2, none⟩) hg).trans c2
      clear o1 b1 o2 g2 b2 o3 g3 o4 g4 b3 HG
      go_wp2_with fail
      go_loopw [6, 27] (fun s i wr => (i = .int .i64 0 ∧ s = u ∧ wr = w1) ∨ (i = .int .i64 1 ∧ s = x1 ∧ wr = w2) ∨ (i = .int .i64 2 ∧ s = x2 ∧ wr = w3) ∨ (i = .int .i64 3 ∧ s = x3 ∧ wr = w4)) (fun _ i _ => 4 - (intOf i).toNat)
      case atStart => exact .inl ⟨rfl, rfl, rfl⟩
      case round =>
        rcases hrel with ⟨rfl, rfl, rfl⟩ | ⟨rfl, rfl, rfl⟩ | ⟨rfl, rfl, rfl⟩ | ⟨rfl, rfl, rfl⟩
        · go_wp2_with fail
          go_roundw
          case rel => exact .inr (.inl ⟨by first | trivial | rfl, by first | trivial | rfl, by first | trivial | rfl⟩)
          case measure => simp [intOf]
        · go_wp2_with fail
          go_roundw
          case rel => exact .inr (.inr (.inl ⟨by first | trivial | rfl, by first | trivial | rfl, by first | trivial | rfl⟩))
          case measure => simp [intOf]
        · go_wp2_with fail
          go_roundw
          case rel => exact .inr (.inr (.inr ⟨by first | trivial | rfl, by first | trivial | rfl, by first | trivial | rfl⟩))
          case measure => simp [intOf]
        · go_wp2_with fail
          go_ret
          exact ⟨_, rfl, O4.out, B4.out⟩
end Go.Proofs.Ytpcbbhfbldchlaa
