/- The walk of LinesGoesOn. -/
import Derived.Test.YteckiifnldcjbaaDoorKJ
namespace Go.Proofs.YteckiifnldcjbaaDoor
open Go.RowKit
attribute [local go_sem ↓ high] binop_addS binop_eqlS binop_neqS

def Plain3 (y : UInt8) : Prop := y ≠ 92 ∧ y ≠ 10 ∧ y ≠ 13
theorem plain3_no {s : List UInt8} (h : ∀ y ∈ s, Plain3 y) : (92 : UInt8) ∉ s ∧ (10 : UInt8) ∉ s ∧ (13 : UInt8) ∉ s :=
  ⟨fun m => (h _ m).1 rfl, fun m => (h _ m).2.1 rfl, fun m => (h _ m).2.2 rfl⟩

set_option maxRecDepth 100000 in
set_option maxHeartbeats 8000000 in
theorem goesL_any (a b : List UInt8) (w : World) (hM : Mx w) (ma : a.length ≤ maxLen) (mb : b.length ≤ maxLen) :
    Calls Tryd.prog 8 #[.string ⟨a.toArray⟩, .string ⟨b.toArray⟩] w fun e W' => e = .returned (.bool true) ∧ Below w.heap.size w W' := by
  unfold maxLen at ma mb
  have hsz := arr_size a
  have hsz2 := arr_size b
  have HM := Lib.hid (fun W (h : Below w.heap.size w W) => hM.below (Nat.le_refl _) h)
  have HK := Lib.hid (known_any w hM)
  clear hM
  by_cases h1 : 300 < a.length
  · have hz : (300 : Int) < (a.length : Int) := by omega
    go_enter Tryd.func8, Tryd.ntmps8
    go_wp2_with (go_at_call 11; refine HK.out.mono ?_; rintro e w' ⟨rfl, hb⟩)
    go_ret
    exact ⟨rfl, hb⟩
  · have hz : ¬ (300 : Int) < (a.length : Int) := by omega
    by_cases h2 : 300 < b.length
    · have hz2 : (300 : Int) < (b.length : Int) := by omega
      go_enter Tryd.func8, Tryd.ntmps8
      go_wp2_with (go_at_call 11; refine HK.out.mono ?_; rintro e w' ⟨rfl, hb⟩)
      go_ret
      exact ⟨rfl, hb⟩
    · have hz2 : ¬ (300 : Int) < (b.length : Int) := by omega
      obtain ⟨s, hs⟩ : ∃ s, a ++ b = s := ⟨_, rfl⟩
      have hsl : s.length ≤ 600 := by rw [← hs, List.length_append]; omega
      have hsz3 := arr_size s
      have A1 := str_add a b (by omega)
      rw [hs] at A1
      have A2 := str_add s [10] (by simp; omega)
      have A3 := str_add a [92, 10] (by simp; omega)
      have A4 := str_add (a ++ [92, 10]) b (by simp; omega)
      have A5 := str_add (a ++ [92, 10] ++ b) [10] (by simp; omega)
      have R1 := Lib.hid (fun W hM => read_law (s ++ [10]) W hM (by simp; omega))
      have R2 := Lib.hid (fun W hM => read_law (a ++ [92, 10] ++ b ++ [10]) W hM (by simp; omega))
      have HI := Lib.hid (fun j x (h : s[j]? = some x) => str_idx s j x h)
      have HS := Lib.hid hs
      obtain ⟨s1, hs1⟩ : ∃ s1, s ++ [10] = s1 := ⟨_, rfl⟩
      obtain ⟨a1, ha1⟩ : ∃ a1, a ++ [92, 10] = a1 := ⟨_, rfl⟩
      obtain ⟨a2, ha2⟩ : ∃ a2, a ++ [92, 10] ++ b = a2 := ⟨_, rfl⟩
      obtain ⟨a3, ha3⟩ : ∃ a3, a ++ [92, 10] ++ b ++ [10] = a3 := ⟨_, rfl⟩
      have HEQ : Hid ((∀ y ∈ s, Plain3 y) → readL s1 = tellRow 1 s ∧ readL a3 = tellRow 1 s) := Lib.hid fun h => by
        obtain ⟨q1, q2, q3⟩ := plain3_no h
        refine ⟨by rw [← hs1]; exact read_line q1 q2 q3, ?_⟩
        rw [← ha3, ← hs]
        exact read_cut (by rw [hs]; exact q1) (by rw [hs]; exact q2) (by rw [hs]; exact q3)
      rw [hs1] at A2 R1
      rw [ha3] at A5 R2
      rw [ha2] at A4 A5
      rw [ha1] at A3 A4
      clear hs hs1 ha1 ha2 ha3 h1 h2 ma mb
      go_enter Tryd.func8, Tryd.ntmps8
      go_wp2_with fail
      go_loopw [6] (fun i wr => ∃ j : Nat, wr = w ∧ i = .int .i64 j ∧ j ≤ s.length ∧ ∀ y ∈ s.take j, Plain3 y) (fun i _ => s.length - (intOf i).toNat)
      case atStart => exact ⟨0, rfl, rfl, by omega, by simp⟩
      case round =>
        obtain ⟨j, rfl, rfl, hj, hp⟩ := hrel
        have HP := Lib.hid hp
        clear hp
        by_cases hlt : j < s.length
        · obtain ⟨x, hx⟩ : ∃ x, s[j]? = some x := ⟨s[j], List.getElem?_eq_getElem hlt⟩
          have k1 := HI.out j x hx
          have hlt' : (j : Int) < (s.length : Int) := by omega
          by_cases c : Plain3 x
          · have HT := Lib.hid (mem_next HP.out hx c)
            have n1 : ((x.toNat : Int) == 92) = false := byte_ne c.1
            have n2 : ((x.toNat : Int) == 10) = false := byte_ne c.2.1
            have n3 : ((x.toNat : Int) == 13) = false := byte_ne c.2.2
            clear c hx R1 R2 HEQ
            go_wp2_with fail
            go_roundw
            case rel => exact ⟨j + 1, by first | rfl | trivial, by go_num, by omega, HT.out⟩
            case measure => simp [intOf]; omega
          · have hc : x = 92 ∨ x = 10 ∨ x = 13 := by
              by_cases e1 : x = 92
              · exact .inl e1
              · by_cases e2 : x = 10
                · exact .inr (.inl e2)
                · by_cases e3 : x = 13
                  · exact .inr (.inr e3)
                  · exact absurd ⟨e1, e2, e3⟩ c
            clear c hx R1 R2 HEQ A1 A2 A3 A4 A5
            rcases hc with rfl | rfl | rfl
            all_goals
              go_wp2_with (go_at_call 11; refine HK.out.mono ?_; rintro e w' ⟨rfl, hb⟩)
              go_ret
              exact ⟨rfl, hb⟩
        · obtain rfl : j = s.length := by omega
          obtain ⟨e1, e2⟩ := HEQ.out (by have := HP.out; rwa [List.take_length] at this)
          rw [e1] at R1
          rw [e2] at R2
          have hta := tell_args 1 s
          have htl := tell_le 1 s
          obtain ⟨TR, hTR⟩ : ∃ TR, tellRow 1 s = TR := ⟨_, rfl⟩
          rw [hTR] at R1 R2 hta htl
          clear e1 e2 hTR HEQ HI HK
          go_wp2_with fail
          refine (R1.out _ (HM.out _ (Below.refl _ _))).mono ?_
          rintro e W1 ⟨ra, rc, da, dc, rfl, x1, x2, b1⟩
          have X1 := Lib.hid (And.intro x1 b1)
          clear x1 x2 b1 R1
          obtain ⟨m1, hm1⟩ : ∃ m1, TR.1.length = m1 := ⟨_, rfl⟩
          obtain ⟨m2, hm2⟩ : ∃ m2, TR.2.length = m2 := ⟨_, rfl⟩
          have R3 : Hid (∀ W, Mx W → Calls Tryd.prog 23 #[.string ⟨a3.toArray⟩] W fun e w' => ∃ ra rc da dc, e = .returned (.tuple #[.slice ra m1 rc, .slice da m2 dc]) ∧ Rws w' (.slice ra m1 rc) TR.1 ∧ Below W.heap.size W w') := Lib.hid fun W h => (R2.out W h).mono fun e w' ⟨ra, rc, da, dc, h1, h2, h3, h4⟩ => ⟨ra, rc, da, dc, by rw [h1, hm1, hm2], by rw [← hm1]; exact h2, h4⟩
          rw [hm1] at X1
          rw [hm1, hm2]
          clear hm1 hm2 R2
          go_wp2_with fail
          refine (R3.out _ (HM.out _ X1.out.2)).mono ?_
          rintro e W2 ⟨ra2, rc2, da2, dc2, rfl, y1, b2⟩
          have hz1 := X1.out.2.size
          have B2 : Hid (Below wr.heap.size wr W2) := Lib.hid (X1.out.2.trans (b2.mono hz1))
          have s1 := sameR_any _ _ _ _ _ (X1.out.1.below b2) y1 (by omega) (by omega) (fun y hy => by have := hta y hy; omega) (fun y hy => by have := hta y hy; omega)
          rw [decide_eq_true rfl] at s1
          have S1 := Lib.hid s1
          clear y1 b2 R3 s1
          go_wp2_with fail
          refine S1.out.mono ?_
          rintro e W3 ⟨rfl, m, rfl⟩
          obtain ⟨W3, hW3⟩ : ∃ W3, W2.drewN m = W3 := ⟨_, rfl⟩
          have B3 : Hid (Below wr.heap.size wr W3) := Lib.hid (hW3 ▸ below_drewN B2.out m)
          have K3 := Lib.hid (known_any W3 (HM.out _ B3.out))
          rw [hW3]
          clear hW3 S1
          go_wp2_with fail
          refine K3.out.mono ?_
          rintro e W4 ⟨rfl, b4⟩
          have B4 : Hid (Below wr.heap.size wr W4) := Lib.hid (B3.out.trans (b4.mono B3.out.size))
          clear b4 K3
          go_wp2_with fail
          go_ret
          exact ⟨rfl, B4.out⟩
theorem goes_law (s0 s1 : ByteArray) (w : World) (hM : Mx w) (h0 : s0.size ≤ maxLen) (h1 : s1.size ≤ maxLen) :
    Calls Tryd.prog 8 #[.string s0, .string s1] w fun e W' => e = .returned (.bool true) ∧ Below w.heap.size w W' := by
  obtain ⟨a, rfl⟩ : ∃ a : List UInt8, s0 = ⟨a.toArray⟩ := ⟨s0.data.toList, by simp⟩
  obtain ⟨b, rfl⟩ : ∃ b : List UInt8, s1 = ⟨b.toArray⟩ := ⟨s1.data.toList, by simp⟩
  rw [arr_size] at h0 h1
  exact goesL_any a b w hM h0 h1
end Go.Proofs.YteckiifnldcjbaaDoor
