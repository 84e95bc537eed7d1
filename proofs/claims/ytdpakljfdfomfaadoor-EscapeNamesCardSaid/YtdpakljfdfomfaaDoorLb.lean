/- The walk of EscapeNames. -/
import Derived.Test.YtdpakljfdfomfaaDoorEs
namespace Go.Proofs.YtdpakljfdfomfaaDoor
open Go.RowKit

/-- 'max', kept whole. -/
noncomputable def maxS (args : Array Value) : Sem Next := do pure (.value (← Builtin.max_ #[3, 3] 3 args))
theorem builtin_maxS (cs : Array Bool) (args : Array Value) : builtin .max #[3, 3] 3 cs args = maxS args := rfl
theorem maxS_run (x y z : Int) (hz : (if y > x then y else x) = z) (w : World) : (maxS #[.int .i64 x, .int .i64 y]).run Tryd.prog w = .ok (.value (.int .i64 z)) w := by
  unfold maxS
  simp only [Sem.run_bind, Sem.run_pure, run_max_int2, Result.andThen_ok, hz]

attribute [local go_sem ↓ high] builtin_maxS
set_option maxRecDepth 100000 in
set_option maxHeartbeats 8000000 in
theorem namesL_any (b : List UInt8) (w : World) (hM : Mx w) (ms : b.length ≤ maxLen) :
    Calls Tryd.prog 4 #[.string ⟨b.toArray⟩] w fun e W' => e = .returned (.bool true) ∧ Below w.heap.size w W' := by
  unfold maxLen at ms
  have HM := Lib.hid hM
  have hsz : (⟨b.toArray⟩ : ByteArray).size = b.length := by simp [Go.Lib.size_eq]
  clear hM
  by_cases h1 : 300 < b.length
  · have HK := Lib.hid (known_any w HM.out)
    have hz : (300 : Int) < (b.length : Int) := by omega
    go_enter Tryd.func4, Tryd.ntmps4
    go_wp2_with (go_at_call 10; refine HK.out.mono ?_; rintro e w' ⟨rfl, hb⟩)
    go_ret
    exact ⟨rfl, hb⟩
  · have hz : ¬ (300 : Int) < (b.length : Int) := by omega
    have HA := Lib.hid (name_any b w (by unfold maxLen; omega))
    have HF := Lib.hid (fun W => font_any b W)
    have HRN := Lib.hid (fun W => rnameS_any b W (by unfold maxLen; omega))
    have HRF := Lib.hid (fun W => rfontS_any b W (by omega))
    have HQ := Lib.hid (fun W (h : Mx W) => quote_any b W h (by omega))
    have HRQ := Lib.hid (fun W => rquote_any b W (by omega))
    have hRb : ∀ x, nmOf b = some x → 0 ≤ x ∧ x ≤ 1114111 := fun x h => nmOf_bd h
    have hFb : ∀ x, ftOf b = some x → 0 ≤ x ∧ x ≤ 4 := fun x h => ftOf_bd h
    obtain ⟨R, hR⟩ : ∃ R, nmOf b = R := ⟨_, rfl⟩
    obtain ⟨Fo, hFo⟩ : ∃ R, ftOf b = R := ⟨_, rfl⟩
    obtain ⟨q, hq⟩ : ∃ q, quoteB b = q := ⟨_, rfl⟩
    rw [hR] at HA HRN hRb
    rw [hFo] at HF HRF hFb
    rw [hq] at HQ HRQ
    skip
    have HRb := Lib.hid hRb
    have HFb := Lib.hid hFb
    clear hR hFo hq hRb hFb
    have hr : ∃ (r X : Int) (is : Bool), R.getD 0 = r ∧ R.isSome = is ∧ R.getD (-1) = X ∧ ((is = true ∧ X = r ∧ 0 ≤ r ∧ r ≤ 1114111) ∨ (is = false ∧ X < 0 ∧ r = 0 ∧ -1 ≤ X)) := by
      cases R with
      | none => exact ⟨_, _, _, rfl, rfl, rfl, .inr ⟨rfl, by decide, rfl, by decide⟩⟩
      | some x =>
        have := HRb.out x rfl
        exact ⟨_, _, _, rfl, rfl, rfl, .inl ⟨rfl, rfl, this.1, this.2⟩⟩
    have hf : ∃ (r X : Int) (is : Bool), Fo.getD 0 = r ∧ Fo.isSome = is ∧ Fo.getD (-1) = X ∧ ((is = true ∧ X = r ∧ 0 ≤ r ∧ r ≤ 1114111) ∨ (is = false ∧ X < 0 ∧ r = 0 ∧ -1 ≤ X)) := by
      cases Fo with
      | none => exact ⟨_, _, _, rfl, rfl, rfl, .inr ⟨rfl, by decide, rfl, by decide⟩⟩
      | some x =>
        have := HFb.out x rfl
        exact ⟨_, _, _, rfl, rfl, rfl, .inl ⟨rfl, rfl, this.1, Int.le_trans this.2 (by decide)⟩⟩
    obtain ⟨r, X, is, e1, e2, e3, hr⟩ := hr
    obtain ⟨f, Y, iF, e4, e5, e6, hf⟩ := hf
    rw [e1, e2] at HA
    rw [e3] at HRN
    rw [e4, e5] at HF
    rw [e6] at HRF
    clear e1 e2 e3 e4 e5 e6 HRb HFb
    rcases hr with ⟨rfl, rfl, r0, r1⟩ | ⟨rfl, r0, rfl, r1⟩ <;> rcases hf with ⟨rfl, rfl, f0, f1⟩ | ⟨rfl, f0, rfl, f1⟩
    all_goals
      have m1 := maxS_run X 0 _ rfl
      have m2 := maxS_run Y 0 _ rfl
      first | rw [if_neg (by omega)] at m1 | rw [if_pos (by omega)] at m1
      first | rw [if_neg (by omega)] at m2 | rw [if_pos (by omega)] at m2
      try have r2 : decide (0 ≤ X) = false := by simp; omega
      try have r4 : decide (0 ≤ X) = true := by simp; omega
      try have f2 : decide (0 ≤ Y) = false := by simp; omega
      try have f4 : decide (0 ≤ Y) = true := by simp; omega
      try have r3 : ¬ X < 0 := by omega
      try have f3 : ¬ Y < 0 := by omega
      go_enter Tryd.func4, Tryd.ntmps4
      go_wp2_with fail
      refine HA.out.mono ?_
      rintro e w1 ⟨rfl, b1⟩
      clear HA
      go_wp2_with fail
      refine (HF.out _).mono ?_
      rintro e w' ⟨rfl, rfl⟩
      clear HF
      go_wp2_with fail
      refine (HRN.out _).mono ?_
      rintro e w2 ⟨rfl, b2⟩
      have B2 := Lib.hid (b1.trans (b2.mono b1.size))
      clear HRN b1 b2
      go_wp2_with fail
      refine (HRF.out _).mono ?_
      rintro e w3 ⟨rfl, b3⟩
      have B3 := Lib.hid (B2.out.trans (b3.mono B2.out.size))
      have HQ3 := Lib.hid (HQ.out w3 (HM.out.below B3.out))
      clear ms h1
      skip
      clear HRF b3 HQ
      go_wp2_with fail
      refine HQ3.out.mono ?_
      rintro e w4 ⟨rfl, b4⟩
      have B4 := Lib.hid (B3.out.trans (b4.mono B3.out.size))
      clear HQ3 b4
      go_wp2_with fail
      refine (HRQ.out _).mono ?_
      rintro e w' ⟨rfl, rfl⟩
      have HK := Lib.hid (known_any w4 (HM.out.below B4.out))
      clear HRQ
      go_wp2_with fail
      refine HK.out.mono ?_
      rintro e w5 ⟨rfl, b5⟩
      have B5 := Lib.hid (B4.out.trans (b5.mono B4.out.size))
      clear HK b5
      go_wp2_with fail
      go_ret
      exact ⟨rfl, B5.out⟩
theorem names_law_any (s : ByteArray) (w : World) (hM : Mx w) (ms : s.size ≤ maxLen) :
    Calls Tryd.prog 4 #[.string s] w fun e W' => e = .returned (.bool true) ∧ Below w.heap.size w W' := by
  have hs : (⟨s.data.toList.toArray⟩ : ByteArray) = s := by cases s; simp
  have := namesL_any s.data.toList w hM (by rw [← Lib.size_eq]; exact ms)
  rw [hs] at this
  exact this
end Go.Proofs.YtdpakljfdfomfaaDoor
