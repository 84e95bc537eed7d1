/- The walk of LinesArgs: the document's own arguments. -/
import Derived.Test.YtigdfknmmjafkaaDoorKK
import Derived.Test.YtigdfknmmjafkaaDoorKI
namespace Go.Proofs.YtigdfknmmjafkaaDoor
open Go.RowKit
attribute [local go_sem ↓ high] builtin_appS binop_addS

theorem drop_at {b : List UInt8} {j k : Nat} {x : UInt8} (h : b[j]? = some x) (hk : k ≤ j) : (b.drop k)[j - k]? = some x := by
  rw [List.getElem?_drop, show k + (j - k) = j by omega]; exact h
theorem two_at {r : List UInt8} {k : Nat} : Lib.hasPrefix (r.drop k) [34, 34] = true ↔ r[k]? = some 34 ∧ r[k + 1]? = some 34 := by
  have e0 : (r.drop k)[0]? = r[k]? := by rw [List.getElem?_drop]; rfl
  have e1 : (r.drop k)[1]? = r[k + 1]? := by rw [List.getElem?_drop]
  rw [← e0, ← e1]
  generalize r.drop k = t
  match t with
  | [] => simp [Lib.hasPrefix, List.isPrefixOf]
  | [x] => simp [Lib.hasPrefix, List.isPrefixOf]
  | x :: y :: t =>
    simp only [Lib.hasPrefix, List.isPrefixOf, Bool.and_true, Bool.and_eq_true, beq_iff_eq, List.getElem?_cons_zero, List.getElem?_cons_succ, Option.some.injEq, Nat.zero_add]
    constructor <;> rintro ⟨rfl, rfl⟩ <;> exact ⟨rfl, rfl⟩

set_option maxRecDepth 100000 in
set_option maxHeartbeats 4000000 in
theorem rargs_any (b : List UInt8) (w : World) (hb : b.length ≤ 100000) :
    Calls Tryd.prog 13 #[.string ⟨b.toArray⟩] w fun e w' => ∃ v, e = .returned (.tuple #[v, .bool (args b).2]) ∧ SOwn w.heap.size w' v (args b).1 ∧ Below w.heap.size w w' ∧ w.heap.size ≤ w'.heap.size := by
  have hsz := arr_size b
  have HI := Lib.hid (fun j x (h : b[j]? = some x) => str_idx b j x h)
  have HF := Lib.hid (fun j (h : j ≤ b.length) => str_from b j h)
  have HD := Lib.hid (fun i j h1 h2 => str_mid b i j h1 h2)
  have HO := Lib.hid (fun j x (h : b[j]? = some x) => one_at h)
  obtain ⟨A, F, hAF⟩ : ∃ A F, args b = (A, F) := ⟨_, _, rfl⟩
  have HA := Lib.hid (AAt.start w b hAF)
  rw [hAF]
  simp only
  obtain ⟨N, hN⟩ : ∃ N, b.length = N := ⟨_, rfl⟩
  have HB := Lib.hid (show N ≤ 500000 by omega)
  rw [hN] at HA
  have HN := Lib.hid hN
  clear hAF hN
  go_enter Tryd.func13, Tryd.ntmps13
  go_wp2_with fail
  go_loopw [4, 5] (fun v i wr => ∃ (j : Nat) (acc : List (List UInt8)), i = .int .i64 (j : Int) ∧ j ≤ b.length ∧ AAt w N A F (b.drop j) acc v wr) (fun _ i _ => b.length - (intOf i).toNat)
  case atStart => exact ⟨0, [], rfl, by omega, HA.out⟩
  case round =>
    obtain ⟨j, acc, rfl, hj, ha⟩ := hrel
    have HX := Lib.hid ha
    clear ha HA
    by_cases hlt : j < b.length
    · obtain ⟨c, hc⟩ : ∃ c, b[j]? = some c := ⟨b[j], List.getElem?_eq_getElem hlt⟩
      have hr0 : (b.drop j)[0]? = some c := by rw [List.getElem?_drop]; exact hc
      have HR := Lib.hid hr0
      have HC := Lib.hid hc
      have k0 := HI.out j c hc
      have hlt' : (j : Int) < (b.length : Int) := by omega
      have B1 := Lib.hid (fun W => rblank_any c W)
      clear hr0
      by_cases hbk : blk c = true
      · rw [hbk] at B1
        have HY := Lib.hid (HX.out.blank HR.out hbk)
        clear hbk hc HX
        go_wp2_with (go_at_call 28; refine (B1.out _).mono ?_; rintro e w' ⟨rfl, rfl⟩)
        go_roundw
        case rel => exact ⟨j + 1, acc, by go_num, by omega, by have := HY.out; rwa [List.drop_drop] at this⟩
        case measure => simp [intOf]; omega
      · have hbk' : blk c = false := by simpa using hbk
        rw [hbk'] at B1
        have HBK := Lib.hid hbk'
        clear hbk hbk'
        by_cases h34 : c = 34
        · subst h34
          have k0' : ∀ W, (Instr.index 9 (.string ⟨b.toArray⟩) (.int .i64 (j : Int))).run Tryd.prog W = .ok (.int .u8 34) W := k0
          clear k0
          obtain ⟨X, R, F1, hu⟩ : ∃ X R F1, uq ((b.drop j).drop 1) = (X, R, F1) := ⟨_, _, _, rfl⟩
          have hrl : 1 ≤ (b.drop j).length := by rw [List.length_drop]; omega
          have HQ := Lib.hid (QAt.start hrl hu)
          have HU := Lib.hid hu
          clear hu hc hrl
          go_wp2_with (go_at_call 28; refine (B1.out _).mono ?_; rintro e w' ⟨rfl, rfl⟩)
          go_loopw [5, 7] (fun i o wr2 => ∃ (p : Nat) (P : List UInt8), wr2 = wr ∧ i = .int .i64 (p : Int) ∧ o = .string ⟨P.toArray⟩ ∧ j < p ∧ p ≤ b.length ∧ QAt (b.drop j) X R F1 (p - j) P) (fun i _ _ => b.length - (intOf i).toNat)
          case atStart => exact ⟨j + 1, [], by first | rfl | trivial, by go_num, rfl, by omega, by omega, by rw [show j + 1 - j = 1 by omega]; exact HQ.out⟩
          case round =>
            obtain ⟨p, P, hwr, rfl, rfl, hjp, hp, hq⟩ := hrel
            subst hwr
            have Q := Lib.hid hq
            have hPl := hq.lenP
            rw [List.length_drop] at hPl
            clear hq HQ
            by_cases hpl : p < b.length
            · obtain ⟨x, hx⟩ : ∃ x, b[p]? = some x := ⟨b[p], List.getElem?_eq_getElem hpl⟩
              have k1 := HI.out p x hx
              have k2 := HO.out p x hx
              have k3 := str_add P [x] (by simp; omega)
              have hxr := drop_at hx (show j ≤ p by omega)
              have hpl' : (p : Int) < (b.length : Int) := by omega
              have hp0 : (0 : Int) ≤ (p : Int) := by omega
              by_cases hx34 : x = 34
              · subst hx34
                have k1' : ∀ W, (Instr.index 9 (.string ⟨b.toArray⟩) (.int .i64 (p : Int))).run Tryd.prog W = .ok (.int .u8 34) W := k1
                clear k1
                have HXR := Lib.hid hxr
                clear hxr hx
                rcases hy : b[p + 1]? with _ | y
                · have hpe : ¬ (p : Int) + 1 < (b.length : Int) := by
                    have := List.getElem?_eq_none_iff.1 hy
                    omega
                  have hno : Lib.hasPrefix ((b.drop j).drop (p - j)) [34, 34] = false := by
                    rw [← Bool.not_eq_true]
                    intro h
                    have h2 := (two_at.1 h).2
                    rw [List.getElem?_drop, show j + (p - j + 1) = p + 1 by omega, hy] at h2
                    cases h2
                  obtain ⟨rfl, rfl, rfl⟩ := Q.out.ends HXR.out hno
                  have hnge : ¬ (b.length : Int) ≤ (p : Int) := by omega
                  obtain ⟨v', w2, k7, h7, -⟩ := HX.out.quote HB.out HR.out HU.out
                  have H7 := Lib.hid h7
                  clear h7 hno hy k2 k3 hPl HI HO HX
                  go_wp2_with fail
                  go_roundw
                  case rel => exact ⟨p + 1, acc ++ [X], by go_num, by omega, by have := H7.out; rwa [List.drop_drop, show j + (p - j + 1) = p + 1 by omega] at this⟩
                  case measure => simp [intOf]; omega
                · have hy1 := (List.getElem?_eq_some_iff.1 hy).1
                  have hpe : (p : Int) + 1 < (b.length : Int) := by omega
                  have k4 : ∀ W, (Instr.index 9 (.string ⟨b.toArray⟩) (.int .i64 ((p : Int) + 1))).run Tryd.prog W = .ok (.int .u8 (y.toNat : Int)) W := by
                    have h := HI.out (p + 1) y hy
                    have c : ((p + 1 : Nat) : Int) = (p : Int) + 1 := by omega
                    rw [c] at h
                    exact h
                  by_cases hy34 : y = 34
                  · subst hy34
                    have k4' : ∀ W, (Instr.index 9 (.string ⟨b.toArray⟩) (.int .i64 ((p : Int) + 1))).run Tryd.prog W = .ok (.int .u8 34) W := k4
                    clear k4
                    have H7 := Lib.hid (Q.out.two (two_at.2 ⟨HXR.out, by rw [List.getElem?_drop, show j + (p - j + 1) = p + 1 by omega, hy]⟩))
                    clear hy HX HI HO
                    go_wp2_with fail
                    go_roundw
                    case rel => exact ⟨p + 2, P ++ [34], by first | rfl | trivial, by go_num, rfl, by omega, by omega, by rw [show p + 2 - j = p - j + 2 by omega]; exact H7.out⟩
                    case measure => simp [intOf]; omega
                  · have hne : ((y.toNat : Int) == 34) = false := byte_ne hy34
                    have hno : Lib.hasPrefix ((b.drop j).drop (p - j)) [34, 34] = false := by
                      rw [← Bool.not_eq_true]
                      intro h
                      have h2 := (two_at.1 h).2
                      rw [List.getElem?_drop, show j + (p - j + 1) = p + 1 by omega, hy] at h2
                      exact hy34 (Option.some.inj h2)
                    obtain ⟨rfl, rfl, rfl⟩ := Q.out.ends HXR.out hno
                    have hnge : ¬ (b.length : Int) ≤ (p : Int) := by omega
                    obtain ⟨v', w2, k7, h7, -⟩ := HX.out.quote HB.out HR.out HU.out
                    have H7 := Lib.hid h7
                    clear h7 hno hy k2 k3 hPl HI HO HX hy34
                    go_wp2_with fail
                    go_roundw
                    case rel => exact ⟨p + 1, acc ++ [X], by go_num, by omega, by have := H7.out; rwa [List.drop_drop, show j + (p - j + 1) = p + 1 by omega] at this⟩
                    case measure => simp [intOf]; omega
              · have hne : ((x.toNat : Int) == 34) = false := byte_ne hx34
                have hne' : ((x.toNat : Int) != 34) = true := by rw [bne, hne]; rfl
                have H7 := Lib.hid (Q.out.next hxr hx34)
                clear hx34 hx hxr HX HI HO
                go_wp2_with fail
                go_roundw
                case rel => exact ⟨p + 1, P ++ [x], by first | rfl | trivial, by go_num, rfl, by omega, by omega, by rw [show p + 1 - j = p - j + 1 by omega]; exact H7.out⟩
                case measure => simp [intOf]; omega
            · obtain rfl : p = b.length := by omega
              have hq := Q.out
              rw [show b.length - j = (b.drop j).length by rw [List.length_drop]] at hq
              obtain ⟨rfl, rfl, rfl, -⟩ := hq.open
              obtain ⟨v', w2, k7, h7⟩ := HX.out.openq HB.out HR.out HU.out
              have H7 := Lib.hid h7
              clear h7 hq HI HO HX
              go_wp2_with fail
              go_ret2
              obtain ⟨q1, q2, q3, q4⟩ := H7.out
              exact ⟨_, by rw [q2]; rfl, q1, q3, q4⟩
        · have hne : ((c.toNat : Int) == 34) = false := byte_ne h34
          have hne' : ((c.toNat : Int) != 34) = true := by rw [bne, hne]; rfl
          have k5 := HF.out j hj
          have H34 := Lib.hid h34
          have HIB := Lib.hid (fun k x (h : (b.drop j)[k]? = some x) => isB_at h)
          have HNO := Lib.hid (fun (h : ∀ i, i < (b.drop j).length → isB (b.drop j) i = false) => ubl_none h)
          have HYE := Lib.hid (fun i hi h hb => ubl_some (l := b.drop j) (i := i) hi h hb)
          have HRO := Lib.hid (fun k W hk => rodd_any (b.drop j) k W hk (by rw [List.length_drop]; omega))
          have HLE : Hid ((b.drop j).length = b.length - j) := Lib.hid (by rw [List.length_drop])
          have HPU : Hid (∀ n, ubl (b.drop j) = n → 1 ≤ n ∧ ∃ v' w2, (appS #[_, .slice (some ⟨wr.heap.size, 0, none⟩) 1 1]).run Tryd.prog (wr.alloc (.cells #[.string ⟨((b.drop j).take n).toArray⟩] 9)) = .ok (.value v') w2 ∧ AAt w N A F (b.drop (j + n)) (acc ++ [(b.drop j).take n]) v' w2) := Lib.hid fun n hn => by
            subst hn
            obtain ⟨v', w2, h1, h2, -⟩ := HX.out.plain HB.out HR.out HBK.out H34.out
            rw [List.drop_drop] at h2
            refine ⟨?_, v', w2, h1, h2⟩
            rw [cons_of HR.out]
            exact ubl_pos HBK.out
          clear hne hc h34 HX HR HF HO
          go_wp2_with (go_at_call 28; refine (B1.out _).mono ?_; rintro e w' ⟨rfl, rfl⟩)
          go_loopw [5] (fun i wr2 => ∃ (p : Nat), wr2 = wr ∧ i = .int .i64 (p : Int) ∧ j ≤ p ∧ p ≤ b.length ∧ ∀ k, k < p - j → isB (b.drop j) k = false) (fun i _ => b.length - (intOf i).toNat)
          case atStart => exact ⟨j, by first | rfl | trivial, rfl, by omega, by omega, fun k hk => by omega⟩
          case round =>
            obtain ⟨p, hwr, rfl, hjp, hp, hq⟩ := hrel
            subst hwr
            have Q := Lib.hid hq
            clear hq
            by_cases hpl : p < b.length
            · obtain ⟨x, hx⟩ : ∃ x, b[p]? = some x := ⟨b[p], List.getElem?_eq_getElem hpl⟩
              have k1 := HI.out p x hx
              have hxr := drop_at hx hjp
              have hpl' : (p : Int) < (b.length : Int) := by omega
              have hw2 : IntKind.i64.wrap ((p : Int) - (j : Int)) = (p : Int) - (j : Int) := wrap_any (by omega) (by omega)
              have C1 := Lib.hid (fun W => rblank_any x W)
              have E := Lib.hid (HIB.out (p - j) x hxr)
              have O1 : Hid (∀ W, Calls Tryd.prog 29 #[.string ⟨(b.drop j).toArray⟩, .int .i64 ((p : Int) - (j : Int))] W fun e w' => e = .returned (.bool (sl ((b.drop j).take (p - j)))) ∧ W = w') := Lib.hid fun W => by
                have h := HRO.out (p - j) W (by rw [HLE.out]; omega)
                have c : ((p - j : Nat) : Int) = (p : Int) - (j : Int) := by omega
                rw [c] at h
                exact h
              obtain ⟨q, hq⟩ : ∃ q, blk x = q := ⟨_, rfl⟩
              rw [hq] at C1 E
              obtain ⟨s, hs⟩ : ∃ s, sl ((b.drop j).take (p - j)) = s := ⟨_, rfl⟩
              rw [hs] at O1 E
              clear hq hs hx hxr
              cases q
              · clear O1 HPU
                go_wp2_with (go_at_call 28; refine (C1.out _).mono ?_; rintro e w' ⟨rfl, rfl⟩)
                go_roundw
                case rel => exact ⟨p + 1, by first | rfl | trivial, by go_num, by omega, by omega, by rw [show p + 1 - j = p - j + 1 by omega]; exact upto_succ Q.out E.out⟩
                case measure => simp [intOf]; omega
              · cases s
                · obtain ⟨hpos, v', w2, k7, h7⟩ := HPU.out (p - j) (HYE.out (p - j) (by rw [HLE.out]; omega) E.out Q.out)
                  have k6 := HD.out j p hjp hp
                  have H7 := Lib.hid h7
                  clear h7 HPU
                  go_wp2_with (first
                    | (go_at_call 28; refine (C1.out _).mono ?_; rintro e w' ⟨rfl, rfl⟩)
                    | (go_at_call 29; refine (O1.out _).mono ?_; rintro e w' ⟨rfl, rfl⟩))
                  go_roundw
                  case rel => exact ⟨p, _, by go_num, by omega, by have := H7.out; rwa [show j + (p - j) = p by omega] at this⟩
                  case measure => simp [intOf]; omega
                · clear HPU
                  go_wp2_with (first
                    | (go_at_call 28; refine (C1.out _).mono ?_; rintro e w' ⟨rfl, rfl⟩)
                    | (go_at_call 29; refine (O1.out _).mono ?_; rintro e w' ⟨rfl, rfl⟩))
                  go_roundw
                  case rel => exact ⟨p + 1, by first | rfl | trivial, by go_num, by omega, by omega, by rw [show p + 1 - j = p - j + 1 by omega]; exact upto_succ Q.out E.out⟩
                  case measure => simp [intOf]; omega
            · obtain rfl : p = b.length := by omega
              obtain ⟨hpos, v', w2, k7, h7⟩ := HPU.out (b.length - j) (by rw [← HLE.out]; exact HNO.out (fun i hi => Q.out i (by rw [← HLE.out]; exact hi)))
              have k6 := HD.out j b.length hjp (Nat.le_refl _)
              have H7 := Lib.hid h7
              clear h7 HPU
              go_wp2_with fail
              go_roundw
              case rel => exact ⟨b.length, _, by go_num, by omega, by have := H7.out; rwa [show j + (b.length - j) = b.length by omega] at this⟩
              case measure => simp [intOf]; omega
    · obtain rfl : j = b.length := by omega
      have hx := HX.out
      rw [List.drop_length] at hx
      obtain ⟨rfl, rfl⟩ := hx.fin
      have HY := Lib.hid hx
      clear hx HX HI HF HD HO
      go_wp2_with fail
      go_ret2
      exact ⟨_, rfl, HY.out.own, HY.out.bel, HY.out.sz⟩

attribute [local go_sem ↓ high] binop_eqlS
set_option maxRecDepth 100000 in
set_option maxHeartbeats 4000000 in
theorem argsL_any (b : List UInt8) (w : World) (hM : Mx w) :
    Calls Tryd.prog 3 #[.string ⟨b.toArray⟩] w fun e W' => e = .returned (.bool true) ∧ Below w.heap.size w W' := by
  have hsz := arr_size b
  have HM := Lib.hid (fun W (h : Below w.heap.size w W) => hM.below (Nat.le_refl _) h)
  by_cases h1 : 800 < b.length
  · have hz : (800 : Int) < (b.length : Int) := by omega
    have HK := Lib.hid (known_any w hM)
    go_enter Tryd.func3, Tryd.ntmps3
    go_wp2_with (go_at_call 11; refine HK.out.mono ?_; rintro e w' ⟨rfl, hb⟩)
    go_ret
    exact ⟨rfl, hb⟩
  · have hz : ¬ (800 : Int) < (b.length : Int) := by omega
    have HA := Lib.hid (fun W h => args_any b W h (by omega))
    have HR := Lib.hid (fun W => rargs_any b W (by omega))
    have HQ := Lib.hid (fun W h => quoted_any b W h (by omega))
    have HQR := Lib.hid (fun W => rquoted_any b W (by omega))
    have hal := args_len b
    obtain ⟨A, F, hAF⟩ : ∃ A F, args b = (A, F) := ⟨_, _, rfl⟩
    rw [hAF] at HA HR hal
    have EQ : ∀ W, (eqlS (.string ⟨(qt b).toArray⟩) (.string ⟨(qt b).toArray⟩)).run Tryd.prog W = .ok (.bool true) W := fun W => by
      have h := eqlS_run (qt b) (qt b) W
      rw [decide_eq_true rfl] at h
      exact h
    simp only at hal HA HR
    have HL : Hid (A.length ≤ 200000) := Lib.hid (by omega)
    clear hAF hal h1 hM
    go_enter Tryd.func3, Tryd.ntmps3
    go_wp2_with fail
    refine (HA.out _ (HM.out _ (Below.refl _ _))).mono ?_
    rintro e W1 ⟨v1, rfl, o1, b1, z1⟩
    have B1 := Lib.hid b1
    have S1 := Lib.hid (FOwn.sl scell_len o1)
    clear b1 o1 HA z1
    go_wp2_with fail
    refine (HR.out _).mono ?_
    rintro e W2 ⟨v2, rfl, o2, b2, z2⟩
    have B2 := Lib.hid (B1.out.trans (b2.mono B1.out.size))
    have s3 := sameS_any A A v1 v2 W2 (S1.out.below b2) (FOwn.sl scell_len o2) HL.out HL.out
    rw [decide_eq_true rfl] at s3
    have S3 := Lib.hid s3
    clear s3 b2 o2 HR z2 S1
    go_wp2_with fail
    refine S3.out.mono ?_
    rintro e W3 ⟨rfl, m, hm⟩
    have B3 := Lib.hid (show Below _ _ W3 from hm ▸ below_drewN B2.out m)
    clear hm S3
    go_wp2_with fail
    refine (HQ.out _ (HM.out _ B3.out)).mono ?_
    rintro e W4 ⟨rfl, b4⟩
    have B4 := Lib.hid (B3.out.trans (b4.mono B3.out.size))
    clear b4 HQ
    go_wp2_with fail
    refine (HQR.out _).mono ?_
    rintro e W5 ⟨rfl, hw5⟩
    subst hw5
    have K3 := Lib.hid (known_any W4 (HM.out _ B4.out))
    clear HQR
    go_wp2_with fail
    refine K3.out.mono ?_
    rintro e W6 ⟨rfl, b6⟩
    have B6 := Lib.hid (B4.out.trans (b6.mono B4.out.size))
    clear b6 K3
    go_wp2_with fail
    go_ret
    exact ⟨rfl, B6.out⟩
theorem args_law (s0 : ByteArray) (w : World) (hM : Mx w) (h0 : s0.size ≤ maxLen) :
    Calls Tryd.prog 3 #[.string s0] w fun e W' => e = .returned (.bool true) ∧ Below w.heap.size w W' := by
  obtain ⟨a, rfl⟩ : ∃ a : List UInt8, s0 = ⟨a.toArray⟩ := ⟨s0.data.toList, by simp⟩
  exact argsL_any a w hM
end Go.Proofs.YtigdfknmmjafkaaDoor
