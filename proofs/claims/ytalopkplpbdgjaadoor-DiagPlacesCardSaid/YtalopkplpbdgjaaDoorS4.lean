/- insertionSortCmpFunc sorts from a to b. -/
import Derived.Test.YtalopkplpbdgjaaDoorS3
import Derived.Deep.QuietTactic
import Derived.BigQuiet
namespace Go.Proofs.YtalopkplpbdgjaaDoor
open Go.RowKit

theorem Rw.size {base g n cap : Nat} {W : World} {ds : List D} (h : Rw base g n cap W ds) : base ≤ W.heap.size := by
  have := World.ownsRow.lt h.2 g rfl
  omega

theorem rw_drewN {base g n cap : Nat} {W : World} {ds : List D} (h : Rw base g n cap W ds) : ∀ q, Rw base g n cap (W.drewN q) ds
  | 0 => h
  | q + 1 => (rw_drewN h q).drew

set_option maxRecDepth 100000 in
set_option maxHeartbeats 4000000 in
theorem insertion_any (base g n cap a b : Nat) (w : World) (ds : List D) (h : Rw base g n cap w ds) (hab : a ≤ b) (hb : b ≤ n) (hn : n ≤ 1000) :
    Calls Tryd.prog 48 #[.slice (some ⟨g, 0, none⟩) n cap, .int .i64 a, .int .i64 b, .func (.func 34) #[] #[]] w fun e w' => e = .returned (.tuple #[]) ∧ ∃ es, Rw base g n cap w' es ∧ Re ds es a b ∧ So es a b ∧ Below base w w' := by
  have H := Lib.hid h
  have hdl := h.1
  clear h
  go_enter Tryd.func48, Tryd.ntmps48
  go_wp2_with fail
  go_loopw [8] (fun i wr => ∃ (c : Nat) (es : List D), a + 1 ≤ c ∧ (c ≤ b ∨ c = a + 1) ∧ i = .int .i64 c ∧ Rw base g n cap wr es ∧ Re ds es a b ∧ So es a c ∧ Below base w wr) (fun i _ => 2000 - (intOf i).toNat)
  case atStart => exact ⟨a + 1, ds, by omega, by omega, rfl, H.out, Re.refl _ _ _, fun p q h1 h2 h3 => by omega, Below.refl _ _⟩
  case round =>
    obtain ⟨c, es, hc1, hc2, rfl, hr, hre, hso, hbl⟩ := hrel
    obtain ⟨wo, hwo⟩ : ∃ wo : World, wo = wr := ⟨wr, rfl⟩
    subst hwo
    by_cases hlt : c < b
    · have hi0 : (c : Int) < (b : Int) := by omega
      have HST := Lib.hid (show Rw base g n cap wo es ∧ Re ds es a b ∧ Ins es a c c ∧ Below base w wo from ⟨hr, hre, Ins.start hso, hbl⟩)
      clear hr hre hso hbl
      go_wp2_with fail
      go_loopw [9] (fun vj wi => ∃ (j : Nat) (fs : List D), a ≤ j ∧ j ≤ c ∧ vj = .int .i64 j ∧ Rw base g n cap wi fs ∧ Re ds fs a b ∧ Ins fs a c j ∧ Below base w wi) (fun vj _ => (intOf vj).toNat)
      case atStart => exact ⟨c, es, by omega, by omega, rfl, HST.out.1, HST.out.2.1, HST.out.2.2.1, HST.out.2.2.2⟩
      case round =>
        obtain ⟨j, fs, hj1, hj2, rfl, hr, hre, hins, hbl⟩ := hrel
        have hfl := hre.length
        have HRE := Lib.hid hre
        have HINS := Lib.hid hins
        have HBL := Lib.hid hbl
        clear hre hins hbl
        by_cases hja : a < j
        · have g1 : (a : Int) < (j : Int) := by omega
          obtain ⟨q, hq⟩ : ∃ q : Nat, q + 1 = j := ⟨j - 1, by omega⟩
          have hqz : (j : Int) - 1 = (q : Int) := by omega
          have hq' : j - 1 = q := by omega
          have hx := at_some (ds := fs) (p := j) (by omega)
          have hy := at_some (ds := fs) (p := q) (by omega)
          have hat := Lib.hid (fun (hl : cmpD (at' fs j) (at' fs q) < 0) => HINS.out.step hja hj2 (by omega) (by rw [hq']; exact hl))
          have hdone := Lib.hid (fun (hl : ¬ cmpD (at' fs j) (at' fs q) < 0) => HINS.out.done hj2 (.inr ⟨hja, by rw [hq']; exact hl⟩))
          rw [hq'] at hat
          obtain ⟨⟨xk, xl, xc⟩, ex⟩ : ∃ x, at' fs j = x := ⟨_, rfl⟩
          obtain ⟨⟨yk, yl, yc⟩, ey⟩ : ∃ x, at' fs q = x := ⟨_, rfl⟩
          rw [ex] at hx hat hdone
          rw [ey] at hy hat hdone
          obtain ⟨x0, x1, x2⟩ := hr.cells j _ hx
          obtain ⟨y0, y1, y2⟩ := hr.cells q _ hy
          simp only at x0 x1 x2 y0 y1 y2
          have hjb : j ≤ 1000 := by omega
          have hqb : q ≤ 1000 := by omega
          have hjbz : (j : Int) ≤ 1000 := by omega
          have hqbz : (q : Int) ≤ 1000 := by omega
          have hj1z : (1 : Int) ≤ (j : Int) := by omega
          have hwq : IntKind.i64.wrap (q : Int) = (q : Int) := by simp [IntKind.wrap, IntKind.bits, IntKind.signed]; omega
          have hp1 : (j : Int) < (n : Int) := by omega
          have hq1 : (q : Int) < (n : Int) := by omega
          have hp0 : (0 : Int) ≤ (j : Int) := by omega
          have hq0 : (0 : Int) ≤ (q : Int) := by omega
          have n00 : ¬ j * 3 = q * 3 := by omega
          have m00 : ¬ q * 3 = j * 3 := by omega
          have n01 : ¬ j * 3 = q * 3 + 1 := by omega
          have m01 : ¬ q * 3 + 1 = j * 3 := by omega
          have n02 : ¬ j * 3 = q * 3 + 2 := by omega
          have m02 : ¬ q * 3 + 2 = j * 3 := by omega
          have n10 : ¬ j * 3 + 1 = q * 3 := by omega
          have m10 : ¬ q * 3 = j * 3 + 1 := by omega
          have n11 : ¬ j * 3 + 1 = q * 3 + 1 := by omega
          have m11 : ¬ q * 3 + 1 = j * 3 + 1 := by omega
          have n12 : ¬ j * 3 + 1 = q * 3 + 2 := by omega
          have m12 : ¬ q * 3 + 2 = j * 3 + 1 := by omega
          have n20 : ¬ j * 3 + 2 = q * 3 := by omega
          have m20 : ¬ q * 3 = j * 3 + 2 := by omega
          have n21 : ¬ j * 3 + 2 = q * 3 + 1 := by omega
          have m21 : ¬ q * 3 + 1 = j * 3 + 2 := by omega
          have n22 : ¬ j * 3 + 2 = q * 3 + 2 := by omega
          have m22 : ¬ q * 3 + 2 = j * 3 + 2 := by omega
          have HR := Lib.hid hr
          have hgs := World.block_lt_of_cell? wr _ x0
          simp only at hgs
          have SK : Hid (∀ W' : World, Below wr.heap.size wr W' → W'.cell? ⟨g, j * 3, none⟩ = some (.int .i64 xk) ∧ W'.cell? ⟨g, j * 3 + 1, none⟩ = some (.int .i64 xl) ∧ W'.cell? ⟨g, j * 3 + 2, none⟩ = some (.int .i64 xc) ∧ W'.cell? ⟨g, q * 3, none⟩ = some (.int .i64 yk) ∧ W'.cell? ⟨g, q * 3 + 1, none⟩ = some (.int .i64 yl) ∧ W'.cell? ⟨g, q * 3 + 2, none⟩ = some (.int .i64 yc)) := fun W' hb' =>
            ⟨(hb'.cell (p := ⟨g, j * 3, none⟩) hgs).trans x0, (hb'.cell (p := ⟨g, j * 3 + 1, none⟩) hgs).trans x1, (hb'.cell (p := ⟨g, j * 3 + 2, none⟩) hgs).trans x2, (hb'.cell (p := ⟨g, q * 3, none⟩) hgs).trans y0, (hb'.cell (p := ⟨g, q * 3 + 1, none⟩) hgs).trans y1, (hb'.cell (p := ⟨g, q * 3 + 2, none⟩) hgs).trans y2⟩
          have HO := Lib.hid (fun W => order_any (xk, xl, xc) (yk, yl, yc) W)
          simp only at HO
          obtain ⟨CC, hCC⟩ : ∃ CC, cmpD (xk, xl, xc) (yk, yl, yc) = CC := ⟨_, rfl⟩
          rw [hCC] at HO hat hdone
          have HXY := Lib.hid (And.intro hx hy)
          have HQ := Lib.hid hq
          clear hr hx hy hCC ex ey hq hq'
          by_cases hcc : CC < 0
          · go_wp2_with fail
            go_region_held3 (fun W' => W'.cell? ⟨g, j * 3, none⟩ = some (.int .i64 xk) ∧ W'.cell? ⟨g, j * 3 + 1, none⟩ = some (.int .i64 xl) ∧ W'.cell? ⟨g, j * 3 + 2, none⟩ = some (.int .i64 xc) ∧ W'.cell? ⟨g, q * 3, none⟩ = some (.int .i64 yk) ∧ W'.cell? ⟨g, q * 3 + 1, none⟩ = some (.int .i64 yl) ∧ W'.cell? ⟨g, q * 3 + 2, none⟩ = some (.int .i64 yc))
              (first | assumption | exact SK.out _ (Below.refl _ wr).drew | exact SK.out _ B5.out)
              ((first
                | (go_at_call 34; (with_reducible refine (HO.out _).mono ?_); rintro e w5 ⟨rfl, b5⟩; have B5 : Hid (Below wr.heap.size wr w5) := Lib.hid ((Below.refl _ wr).drew.trans b5); clear b5)))
            obtain ⟨x0', x1', x2', y0', y1', y2'⟩ := SK.out _ B5.out
            have hr5 := HR.out.below B5.out
            have fz := fun i => World.ownsRow.frozenAt hr5.2 i
            have HW := Lib.hid (hr5.swp j q _ _ HXY.out.1 HXY.out.2)
            have hB5 := HBL.out.trans (B5.out.mono HR.out.size)
            have HB2 := Lib.hid (fun o0 o1 o2 o3 o4 o5 v0 v1 v2 v3 v4 v5 => below_six hB5 hr5.base o0 o1 o2 o3 o4 o5 v0 v1 v2 v3 v4 v5)
            clear hr5 hB5 x0 x1 x2 y0 y1 y2
            go_wp2_with fail
            go_region
            go_wp2_with fail
            go_roundw
            case rel =>
              have e := HQ.out
              exact ⟨q, _, by omega, by omega, by go_num, HW.out, HRE.out.swp (by omega) (by omega) (by omega), hat.out hcc, HB2.out _ _ _ _ _ _ _ _ _ _ _ _⟩
            case measure =>
              have e := HQ.out
              simp [intOf]; omega
          · have HSO := Lib.hid (hdone.out hcc)
            clear hat hdone
            go_wp2_with fail
            go_region_held3 (fun W' => W'.cell? ⟨g, j * 3, none⟩ = some (.int .i64 xk) ∧ W'.cell? ⟨g, j * 3 + 1, none⟩ = some (.int .i64 xl) ∧ W'.cell? ⟨g, j * 3 + 2, none⟩ = some (.int .i64 xc) ∧ W'.cell? ⟨g, q * 3, none⟩ = some (.int .i64 yk) ∧ W'.cell? ⟨g, q * 3 + 1, none⟩ = some (.int .i64 yl) ∧ W'.cell? ⟨g, q * 3 + 2, none⟩ = some (.int .i64 yc))
              (first | assumption | exact SK.out _ (Below.refl _ wr).drew | exact SK.out _ B5.out)
              ((first
                | (go_at_call 34; (with_reducible refine (HO.out _).mono ?_); rintro e w5 ⟨rfl, b5⟩; have B5 : Hid (Below wr.heap.size wr w5) := Lib.hid ((Below.refl _ wr).drew.trans b5); clear b5)))
            have HW := Lib.hid (HR.out.below B5.out)
            have HB5 := Lib.hid (HBL.out.trans (B5.out.mono HR.out.size))
            go_wp2_with fail
            go_roundw
            case rel => exact ⟨c + 1, fs, by omega, by omega, by go_num, HW.out, HRE.out, HSO.out, HB5.out⟩
            case measure => simp [intOf]; omega
        · have hj3 : j = a := by omega
          have HSO := Lib.hid (HINS.out.done hj2 (.inl hj3))
          have HR := Lib.hid hr
          have g0 : decide ((a : Int) < (j : Int)) = false := decide_eq_false (by omega)
          clear hr hj3
          go_wp2_with fail
          go_quiet (fail)
          go_wp2_with fail
          go_roundw
          case rel => exact ⟨c + 1, fs, by omega, by omega, by go_num, rw_drewN HR.out _, HRE.out, HSO.out, below_drewN HBL.out _⟩
          case measure => simp [intOf]; omega
    · have HSO := Lib.hid (show So es a b from fun p q h1 h2 h3 => hso p q h1 h2 (by omega))
      have HR := Lib.hid hr
      have HRE := Lib.hid hre
      clear hr hre hso
      go_wp2_with fail
      go_end0
      exact ⟨rfl, es, HR.out, HRE.out, HSO.out, hbl⟩
end Go.Proofs.YtalopkplpbdgjaaDoor
