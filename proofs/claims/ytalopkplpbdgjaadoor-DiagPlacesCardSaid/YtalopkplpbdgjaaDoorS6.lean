/- The walk of rotateCmpFunc. -/
import Derived.Test.YtalopkplpbdgjaaDoorS5
namespace Go.Proofs.YtalopkplpbdgjaaDoor
open Go.RowKit

set_option maxRecDepth 100000 in
set_option maxHeartbeats 2000000 in
theorem rotate_any (base g n cap a m b : Nat) (f : Value) (w : World) (ds : List D) (h : Rw base g n cap w ds) (ham : a < m) (hmb : m < b) (hb : b ≤ n) (hn : n ≤ 1000) :
    Calls Tryd.prog 55 #[.slice (some ⟨g, 0, none⟩) n cap, .int .i64 a, .int .i64 m, .int .i64 b, f] w fun e w' => e = .returned (.tuple #[]) ∧ ∃ es, Rw base g n cap w' es ∧ Re ds es a b ∧ (∀ p, a ≤ p → p < b → at' es p = rotT ds a m b p) ∧ Below base w w' := by
  have H := Lib.hid h
  have hdl := h.1
  have HS := Lib.hid (Ro.start ds (Nat.le_of_lt ham) (Nat.le_of_lt hmb))
  obtain ⟨I, hI⟩ : ∃ I, m - a = I := ⟨_, rfl⟩
  obtain ⟨J, hJ⟩ : ∃ J, b - m = J := ⟨_, rfl⟩
  rw [hI, hJ] at HS
  have hIz : (m : Int) - (a : Int) = (I : Int) := by omega
  have hJz : (b : Int) - (m : Int) = (J : Int) := by omega
  obtain ⟨T, hT⟩ : ∃ T, rotT ds a m b = T := ⟨_, rfl⟩
  rw [hT] at HS ⊢
  have HIJ := Lib.hid (And.intro hI hJ)
  have hI1 : 0 < I ∧ I ≤ 1000 ∧ a + I ≤ m := by omega
  have hJ1 : 0 < J ∧ J ≤ 1000 ∧ m + J ≤ b := by omega
  clear h hI hJ hT
  go_enter Tryd.func55, Tryd.ntmps55
  go_wp2_with fail
  go_loopw [10, 11] (fun vi vj wr => ∃ (i j : Nat) (es : List D), vi = .int .i64 i ∧ vj = .int .i64 j ∧ 0 < i ∧ 0 < j ∧ a + i ≤ m ∧ m + j ≤ b ∧ Rw base g n cap wr es ∧ Re ds es a b ∧ Ro T es a m b i j ∧ Below base w wr) (fun vi vj _ => (intOf vi).toNat + (intOf vj).toNat)
  case atStart => exact ⟨I, J, ds, rfl, rfl, hI1.1, hJ1.1, hI1.2.2, hJ1.2.2, H.out, Re.refl _ _ _, HS.out, Below.refl _ _⟩
  case round =>
    obtain ⟨i, j, es, rfl, rfl, hi, hj, him, hjb, hr, hre, hro, hbl⟩ := hrel
    have hel : es.length = n := hr.1
    have HRO := Lib.hid hro
    have HRE := Lib.hid hre
    have HBL := Lib.hid hbl
    have hbs := hr.size
    clear hro hre hbl
    obtain ⟨p, hp⟩ : ∃ p : Nat, m - i = p := ⟨_, rfl⟩
    have hpz : (m : Int) - (i : Int) = (p : Int) := by omega
    by_cases hgt : j < i
    · have HG := Lib.hid (HRO.out.gt him hjb hj hgt (by omega))
      have HE := Lib.hid (HRE.out.trans (Re.swps (ds := es) (a := a) (b := b) (p := p) (q := m) (m := j) (by omega) (by omega) (by omega) (by omega)))
      rw [hp] at HG
      have hC := Lib.hid (swapr_any base g n cap p m j f wr es hr (by omega) (by omega) hn (by omega))
      obtain ⟨d, hd⟩ : ∃ d : Nat, i - j = d := ⟨_, rfl⟩
      have hdz : (i : Int) - (j : Int) = (d : Int) := by omega
      have HD := Lib.hid hd
      rw [hd] at HG
      have g1 : (j : Int) < (i : Int) := by omega
      have g2 : ((i : Int) == (j : Int)) = false := by simp; omega
      have g3 : ¬ (i : Int) = (j : Int) := by omega
      clear hr hp hd
      go_wp2_with (go_at_call 61; (with_reducible refine hC.out.mono ?_); rintro e w3 ⟨rfl, r3, b3⟩; have R3 := Lib.hid r3; have B3 := Lib.hid (HBL.out.trans b3); clear r3 b3)
      go_roundw
      case rel => exact ⟨d, j, _, by go_num, rfl, by have := HD.out; omega, hj, by have := HD.out; omega, hjb, R3.out, HE.out, HG.out, B3.out⟩
      case measure => have := HD.out; simp [intOf]; omega
    · by_cases hlt : i < j
      · obtain ⟨q, hq⟩ : ∃ q : Nat, m + j - i = q := ⟨_, rfl⟩
        have hqz : (m : Int) + (j : Int) - (i : Int) = (q : Int) := by omega
        have HG := Lib.hid (HRO.out.lt him hjb hi hlt (by omega))
        have HE := Lib.hid (HRE.out.trans (Re.swps (ds := es) (a := a) (b := b) (p := p) (q := q) (m := i) (by omega) (by omega) (by omega) (by omega)))
        rw [hp, hq] at HG
        have hC := Lib.hid (swapr_any base g n cap p q i f wr es hr (by omega) (by omega) hn (by omega))
        obtain ⟨d, hd⟩ : ∃ d : Nat, j - i = d := ⟨_, rfl⟩
        have hdz : (j : Int) - (i : Int) = (d : Int) := by omega
        have HD := Lib.hid hd
        rw [hd] at HG
        have g1 : ¬ (j : Int) < (i : Int) := by omega
        have g2 : ((i : Int) == (j : Int)) = false := by simp; omega
        have g3 : ¬ (i : Int) = (j : Int) := by omega
        clear hr hp hd hq
        go_wp2_with (go_at_call 61; (with_reducible refine hC.out.mono ?_); rintro e w3 ⟨rfl, r3, b3⟩; have R3 := Lib.hid r3; have B3 := Lib.hid (HBL.out.trans b3); clear r3 b3)
        go_roundw
        case rel => exact ⟨i, d, _, rfl, by go_num, hi, by have := HD.out; omega, him, by have := HD.out; omega, R3.out, HE.out, HG.out, B3.out⟩
        case measure => have := HD.out; simp [intOf]; omega
      · obtain rfl : i = j := by omega
        have HG := Lib.hid (HRO.out.eq him hjb (by omega))
        have HE := Lib.hid (HRE.out.trans (Re.swps (ds := es) (a := a) (b := b) (p := p) (q := m) (m := i) (by omega) (by omega) (by omega) (by omega)))
        rw [hp] at HG
        have hC := Lib.hid (swapr_any base g n cap p m i f wr es hr (by omega) (by omega) hn (by omega))
        clear hr hp
        go_wp2_with (go_at_call 61; (with_reducible refine hC.out.mono ?_); rintro e w3 ⟨rfl, r3, b3⟩; have R3 := Lib.hid r3; have B3 := Lib.hid (HBL.out.trans b3); clear r3 b3)
        go_end0
        exact ⟨rfl, _, R3.out, HE.out, HG.out, B3.out⟩
end Go.Proofs.YtalopkplpbdgjaaDoor
