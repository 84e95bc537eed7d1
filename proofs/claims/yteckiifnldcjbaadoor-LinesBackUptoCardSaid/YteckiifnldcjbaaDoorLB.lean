/- The walk of LinesNotes. -/
import Derived.Test.YteckiifnldcjbaaDoorLA
namespace Go.Proofs.YteckiifnldcjbaaDoor
open Go.RowKit
attribute [local go_sem ↓ high] binop_addS binop_eqlS binop_neqS

/-- lines.Read, where what it tells is known. -/
theorem read_is {s : List UInt8} {r : List Row × List Dg} (h : readL s = r) (hs : s.length ≤ 40000) (m1 m2 : Nat) (h1 : r.1.length = m1) (h2 : r.2.length = m2) (W : World) (hM : Mx W) :
    Calls Tryd.prog 23 #[.string ⟨s.toArray⟩] W fun e w' => ∃ ra rc da dc, e = .returned (.tuple #[.slice ra m1 rc, .slice da m2 dc]) ∧ Rws w' (.slice ra m1 rc) r.1 ∧ Fs 3 dcell w' (.slice da m2 dc) r.2 ∧ Below W.heap.size W w' := by
  subst h1 h2 h
  exact read_law s W hM hs

set_option maxRecDepth 100000 in
set_option maxHeartbeats 8000000 in
theorem notesL_any (a b : List UInt8) (w : World) (hM : Mx w) (ma : a.length ≤ maxLen) (mb : b.length ≤ maxLen) :
    Calls Tryd.prog 9 #[.string ⟨a.toArray⟩, .string ⟨b.toArray⟩] w fun e W' => e = .returned (.bool true) ∧ Below w.heap.size w W' := by
  unfold maxLen at ma mb
  have hsz := arr_size a
  have hsz2 := arr_size b
  have HM := Lib.hid (fun W (h : Below w.heap.size w W) => hM.below (Nat.le_refl _) h)
  have HK := Lib.hid (known_any w hM)
  clear hM
  by_cases h1 : 300 < a.length
  · have hz : (300 : Int) < (a.length : Int) := by omega
    go_enter Tryd.func9, Tryd.ntmps9
    go_wp2_with (go_at_call 11; refine HK.out.mono ?_; rintro e w' ⟨rfl, hb⟩)
    go_ret
    exact ⟨rfl, hb⟩
  · have hz : ¬ (300 : Int) < (a.length : Int) := by omega
    by_cases h2 : 300 < b.length
    · have hz2 : (300 : Int) < (b.length : Int) := by omega
      go_enter Tryd.func9, Tryd.ntmps9
      go_wp2_with (go_at_call 11; refine HK.out.mono ?_; rintro e w' ⟨rfl, hb⟩)
      go_ret
      exact ⟨rfl, hb⟩
    · have hz2 : ¬ (300 : Int) < (b.length : Int) := by omega
      have A1 := str_add a [10] (by simp; omega)
      have A2 := str_add a [92, 34] (by simp; omega)
      have A3 := str_add (a ++ [92, 34]) b (by simp; omega)
      have A4 := str_add (a ++ [92, 34] ++ b) [10] (by simp; omega)
      have A5 := str_add [46, 32, 32, 92, 34] b (by simp; omega)
      have A6 := str_add ([46, 32, 32, 92, 34] ++ b) [10, 92, 34] (by simp; omega)
      have A7 := str_add ([46, 32, 32, 92, 34] ++ b ++ [10, 92, 34]) b (by simp; omega)
      have A8 := str_add ([46, 32, 32, 92, 34] ++ b ++ [10, 92, 34] ++ b) [10] (by simp; omega)
      obtain ⟨a1, ha1⟩ : ∃ t, a ++ [10] = t := ⟨_, rfl⟩
      obtain ⟨a2, ha2⟩ : ∃ t, a ++ [92, 34] = t := ⟨_, rfl⟩
      obtain ⟨a3, ha3⟩ : ∃ t, a ++ [92, 34] ++ b = t := ⟨_, rfl⟩
      obtain ⟨a4, ha4⟩ : ∃ t, a ++ [92, 34] ++ b ++ [10] = t := ⟨_, rfl⟩
      obtain ⟨a5, ha5⟩ : ∃ t, ([46, 32, 32, 92, 34] : List UInt8) ++ b = t := ⟨_, rfl⟩
      obtain ⟨a6, ha6⟩ : ∃ t, ([46, 32, 32, 92, 34] : List UInt8) ++ b ++ [10, 92, 34] = t := ⟨_, rfl⟩
      obtain ⟨a7, ha7⟩ : ∃ t, ([46, 32, 32, 92, 34] : List UInt8) ++ b ++ [10, 92, 34] ++ b = t := ⟨_, rfl⟩
      obtain ⟨a8, ha8⟩ : ∃ t, ([46, 32, 32, 92, 34] : List UInt8) ++ b ++ [10, 92, 34] ++ b ++ [10] = t := ⟨_, rfl⟩
      have l1 : a1.length ≤ 40000 := by rw [← ha1]; simp; omega
      have l4 : a4.length ≤ 40000 := by rw [← ha4]; simp; omega
      have l8 : a8.length ≤ 40000 := by rw [← ha8]; simp; omega
      have HEQ : Hid ((∀ y ∈ a, Plain3 y) → (∀ y ∈ b, y ≠ 10) → readL a1 = tellRow 1 a ∧ readL a4 = (if a = [] then ([], []) else tellRow 1 a) ∧ readL a8 = ([], [])) := Lib.hid fun h hb => by
        obtain ⟨q1, q2, q3⟩ := plain3_no h
        have hb' : (10 : UInt8) ∉ b := fun m => hb _ m rfl
        refine ⟨by rw [← ha1]; exact read_line q1 q2 q3, by rw [← ha4]; exact read_note q1 q2 hb', by rw [← ha8]; exact read_notes hb'⟩
      rw [ha8] at A8
      rw [ha7] at A7 A8
      rw [ha6] at A6 A7
      rw [ha5] at A5 A6
      rw [ha4] at A4
      rw [ha3] at A3 A4
      rw [ha2] at A2 A3
      rw [ha1] at A1
      have HI := Lib.hid (fun j x (h : a[j]? = some x) => str_idx a j x h)
      have HJ := Lib.hid (fun j x (h : b[j]? = some x) => str_idx b j x h)
      clear ha1 ha2 ha3 ha4 ha5 ha6 ha7 ha8 h1 h2 ma mb
      go_enter Tryd.func9, Tryd.ntmps9
      go_wp2_with fail
      go_loopw [5] (fun i wr => ∃ j : Nat, wr = w ∧ i = .int .i64 j ∧ j ≤ a.length ∧ ∀ y ∈ a.take j, Plain3 y) (fun i _ => a.length - (intOf i).toNat)
      case atStart => exact ⟨0, rfl, rfl, by omega, by simp⟩
      case round =>
        obtain ⟨j, rfl, rfl, hj, hp⟩ := hrel
        have HP := Lib.hid hp
        clear hp
        by_cases hlt : j < a.length
        · obtain ⟨x, hx⟩ : ∃ x, a[j]? = some x := ⟨a[j], List.getElem?_eq_getElem hlt⟩
          have k1 := HI.out j x hx
          have hlt' : (j : Int) < (a.length : Int) := by omega
          by_cases c : Plain3 x
          · have HT := Lib.hid (mem_next HP.out hx c)
            have n1 : ((x.toNat : Int) == 92) = false := byte_ne c.1
            have n2 : ((x.toNat : Int) == 10) = false := byte_ne c.2.1
            have n3 : ((x.toNat : Int) == 13) = false := byte_ne c.2.2
            clear c hx HEQ A1 A2 A3 A4 A5 A6 A7 A8
            go_wp2_with fail
            go_roundw
            case rel => exact ⟨j + 1, by first | rfl | trivial, by go_num, by omega, HT.out⟩
            case measure => simp [intOf]; omega
          · have hc : x = 92 ∨ x = 10 ∨ x = 13 := by
              by_cases e1 : x = 92
              · exact .inl e1
              · by_cases e2 : x = 10
                · exact .inr (.inl e2)
                · by_cases e3 : x = 13
                  · exact .inr (.inr e3)
                  · exact absurd ⟨e1, e2, e3⟩ c
            clear c hx HEQ A1 A2 A3 A4 A5 A6 A7 A8
            rcases hc with rfl | rfl | rfl
            all_goals
              go_wp2_with (go_at_call 11; refine HK.out.mono ?_; rintro e w' ⟨rfl, hb⟩)
              go_ret
              exact ⟨rfl, hb⟩
        · obtain rfl : j = a.length := by omega
          have HPA : Hid (∀ y ∈ a, Plain3 y) := Lib.hid (by have := HP.out; rwa [List.take_length] at this)
          clear HP HI
          go_wp2_with fail
          go_loopw [6] (fun i wr2 => ∃ j : Nat, wr2 = wr ∧ i = .int .i64 j ∧ j ≤ b.length ∧ ∀ y ∈ b.take j, y ≠ 10) (fun i _ => b.length - (intOf i).toNat)
          case atStart => exact ⟨0, by first | rfl | trivial, rfl, by omega, by simp⟩
          case round =>
            obtain ⟨j, hwr, rfl, hj, hp⟩ := hrel
            subst hwr
            have HP := Lib.hid hp
            clear hp
            by_cases hlt : j < b.length
            · obtain ⟨x, hx⟩ : ∃ x, b[j]? = some x := ⟨b[j], List.getElem?_eq_getElem hlt⟩
              have k1 := HJ.out j x hx
              have hlt' : (j : Int) < (b.length : Int) := by omega
              by_cases c : x = 10
              · subst c
                clear hx HEQ A1 A2 A3 A4 A5 A6 A7 A8
                go_wp2_with (go_at_call 11; refine HK.out.mono ?_; rintro e w' ⟨rfl, hb⟩)
                go_ret
                exact ⟨rfl, hb⟩
              · have HT := Lib.hid (mem_next HP.out hx c)
                have n2 : ((x.toNat : Int) == 10) = false := byte_ne c
                clear c hx HEQ A1 A2 A3 A4 A5 A6 A7 A8
                go_wp2_with fail
                go_roundw
                case rel => exact ⟨j + 1, by first | rfl | trivial, by go_num, by omega, HT.out⟩
                case measure => simp [intOf]; omega
            · obtain rfl : j = b.length := by omega
              obtain ⟨e1, e2, e3⟩ := HEQ.out HPA.out (by have := HP.out; rwa [List.take_length] at this)
              have hta := tell_args 1 a
              have htl := tell_le 1 a
              obtain ⟨TR, hTR⟩ : ∃ TR, tellRow 1 a = TR := ⟨_, rfl⟩
              rw [hTR] at e1 e2 hta htl
              obtain ⟨m1, hm1⟩ : ∃ m1, TR.1.length = m1 := ⟨_, rfl⟩
              obtain ⟨m2, hm2⟩ : ∃ m2, TR.2.length = m2 := ⟨_, rfl⟩
              have R1 := Lib.hid (fun W h => read_is e1 l1 m1 m2 hm1 hm2 W h)
              have R8 := Lib.hid (fun W h => read_is e3 l8 0 0 rfl rfl W h)
              have E4 := Lib.hid e2
              have HM1 := Lib.hid hm1
              have HM2 := Lib.hid hm2
              clear e1 e2 e3 hTR hm1 hm2 HEQ HJ HPA HP
              by_cases ha : a = []
              · have e4 := E4.out
                rw [if_pos ha] at e4
                have R4 := Lib.hid (fun W h => read_is e4 l4 0 0 rfl rfl W h)
                have EA : ∀ W, (eqlS (.string ⟨a.toArray⟩) (.string ⟨#[]⟩)).run Tryd.prog W = .ok (.bool true) W := fun W => by
                  have h := eqlS_run a [] W
                  rw [decide_eq_true ha] at h
                  exact h
                have EN : ∀ W, (neqS (.string ⟨a.toArray⟩) (.string ⟨#[]⟩)).run Tryd.prog W = .ok (.bool false) W := fun W => by
                  have h := neqS_run a [] W
                  rw [decide_eq_true ha] at h
                  exact h
                clear e4 E4 ha
                go_wp2_with fail
                refine (R1.out _ (HM.out _ (Below.refl _ _))).mono ?_
                rintro e W1 ⟨ra, rc, da, dc, rfl, -, -, b1⟩
                have B1 := Lib.hid b1
                clear b1 R1
                go_wp2_with fail
                refine (R4.out _ (HM.out _ B1.out)).mono ?_
                rintro e W2 ⟨ra2, rc2, da2, dc2, rfl, -, -, b2⟩
                have B2 := Lib.hid (B1.out.trans (b2.mono B1.out.size))
                clear b2 R4
                go_wp2_with fail
                refine (R8.out _ (HM.out _ B2.out)).mono ?_
                rintro e W3 ⟨ra3, rc3, da3, dc3, rfl, -, -, b3⟩
                have B3 := Lib.hid (B2.out.trans (b3.mono B2.out.size))
                have K3 := Lib.hid (known_any W3 (HM.out _ B3.out))
                clear b3 R8
                go_wp2_with fail
                refine K3.out.mono ?_
                rintro e W4 ⟨rfl, b4⟩
                have B4 := Lib.hid (B3.out.trans (b4.mono B3.out.size))
                clear b4 K3
                go_wp2_with fail
                go_ret
                exact ⟨rfl, B4.out⟩
              · have e4 := E4.out
                rw [if_neg ha] at e4
                have R4 := Lib.hid (fun W h => read_is e4 l4 m1 m2 HM1.out HM2.out W h)
                have EA : ∀ W, (eqlS (.string ⟨a.toArray⟩) (.string ⟨#[]⟩)).run Tryd.prog W = .ok (.bool false) W := fun W => by
                  have h := eqlS_run a [] W
                  rw [decide_eq_false ha] at h
                  exact h
                have EN : ∀ W, (neqS (.string ⟨a.toArray⟩) (.string ⟨#[]⟩)).run Tryd.prog W = .ok (.bool true) W := fun W => by
                  have h := neqS_run a [] W
                  rw [decide_eq_false ha] at h
                  exact h
                clear e4 E4 ha
                go_wp2_with fail
                refine (R1.out _ (HM.out _ (Below.refl _ _))).mono ?_
                rintro e W1 ⟨ra, rc, da, dc, rfl, x1, -, b1⟩
                have B1 := Lib.hid b1
                have X1 := Lib.hid x1
                clear b1 R1 x1
                go_wp2_with fail
                refine (R4.out _ (HM.out _ B1.out)).mono ?_
                rintro e W2 ⟨ra2, rc2, da2, dc2, rfl, x2, -, b2⟩
                have B2 := Lib.hid (B1.out.trans (b2.mono B1.out.size))
                have X2 := Lib.hid (And.intro (X1.out.below b2) x2)
                clear b2 R4 x2 X1
                go_wp2_with fail
                refine (R8.out _ (HM.out _ B2.out)).mono ?_
                rintro e W3 ⟨ra3, rc3, da3, dc3, rfl, -, -, b3⟩
                have B3 := Lib.hid (B2.out.trans (b3.mono B2.out.size))
                have s1 := sameR_any _ _ _ _ _ (X2.out.1.below b3) (X2.out.2.below b3) (by omega) (by omega) (fun y hy => by have := hta y hy; omega) (fun y hy => by have := hta y hy; omega)
                rw [decide_eq_true rfl] at s1
                have S1 := Lib.hid s1
                clear b3 R8 s1 X2
                go_wp2_with fail
                refine S1.out.mono ?_
                rintro e W5 ⟨rfl, m, hm⟩
                have B5 := Lib.hid (show Below _ _ W5 from hm ▸ below_drewN B3.out m)
                have K3 := Lib.hid (known_any W5 (HM.out _ B5.out))
                clear hm S1
                go_wp2_with fail
                refine K3.out.mono ?_
                rintro e W4 ⟨rfl, b4⟩
                have B4 := Lib.hid (B5.out.trans (b4.mono B5.out.size))
                clear b4 K3
                go_wp2_with fail
                go_ret
                exact ⟨rfl, B4.out⟩
theorem notes_law (s0 s1 : ByteArray) (w : World) (hM : Mx w) (h0 : s0.size ≤ maxLen) (h1 : s1.size ≤ maxLen) :
    Calls Tryd.prog 9 #[.string s0, .string s1] w fun e W' => e = .returned (.bool true) ∧ Below w.heap.size w W' := by
  obtain ⟨a, rfl⟩ : ∃ a : List UInt8, s0 = ⟨a.toArray⟩ := ⟨s0.data.toList, by simp⟩
  obtain ⟨b, rfl⟩ : ∃ b : List UInt8, s1 = ⟨b.toArray⟩ := ⟨s1.data.toList, by simp⟩
  rw [arr_size] at h0 h1
  exact notesL_any a b w hM h0 h1
end Go.Proofs.YteckiifnldcjbaaDoor
