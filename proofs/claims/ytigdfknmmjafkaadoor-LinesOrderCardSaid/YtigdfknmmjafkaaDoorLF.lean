/- The walk of LinesOrder. -/
import Derived.Test.YtigdfknmmjafkaaDoorLE
namespace Go.Proofs.YtigdfknmmjafkaaDoor
open Go.RowKit
attribute [local go_sem ↓ high] binop_addS binop_eqlS builtin_appR

theorem lf_next {a : List UInt8} {j : Nat} {x : UInt8} (hx : a[j]? = some x) : (a.take (j + 1)).count 10 = (a.take j).count 10 + (if x = 10 then 1 else 0) := by
  rw [List.take_add_one, hx, List.count_append]
  by_cases h : x = 10
  · subst h; simp
  · simp [h, List.count_cons_of_ne h]
theorem ex_next {l : List Row} {p : Nat} {y : Row} {q : Int} (hy : l[p]? = some y) : (l.take (p + 1)).any (fun z => z.1 == q) = ((l.take p).any (fun z => z.1 == q) || (y.1 == q)) := by
  rw [List.take_add_one, hy, List.any_append]
  simp
theorem dgs_at {w : World} {a : Option Addr} {k cap : Nat} {l : List Dg} (h : Fs 3 dcell w (.slice a k cap) l) {j : Nat} {x : Dg} (hj : l[j]? = some x) :
    ∃ b off, a = some ⟨b, off, none⟩ ∧ w.cell? ⟨b, off + j * 3, none⟩ = some (.int .i64 x.1) ∧ w.cell? ⟨b, off + j * 3 + 1, none⟩ = some (.int .i64 x.2.1) ∧ w.cell? ⟨b, off + j * 3 + 2, none⟩ = some (.int .i64 x.2.2) := by
  obtain ⟨a', cap', hv, _, hr⟩ := h
  injection hv with h1 h2 h3
  subst h1
  obtain ⟨b, off, rfl, h0⟩ := hr j x hj
  exact ⟨b, off, rfl, h0 0 _ rfl, h0 1 _ rfl, h0 2 _ rfl⟩
theorem last_is (a : List UInt8) (x : UInt8) (h : a[a.length - 1]? = some x) : xtra a = if x = 10 then [((a.count 10 : Int) + 1, [], [], [])] else [] := by
  have hne : a ≠ [] := by rintro rfl; simp at h
  have hl : a.getLast? = some x := by rw [List.getLast?_eq_getElem?]; exact h
  unfold xtra
  rw [hl]
  by_cases hx : x = 10
  · simp [hx]
  · simp [hx, hne]

theorem xtra_le (a : List UInt8) : (xtra a).length ≤ 1 := by
  unfold xtra
  split <;> simp
set_option maxRecDepth 100000 in
set_option maxHeartbeats 8000000 in
theorem orderL_any (a b : List UInt8) (w : World) (hM : Mx w) (ma : a.length ≤ maxLen) (mb : b.length ≤ maxLen) :
    Calls Tryd.prog 7 #[.string ⟨a.toArray⟩, .string ⟨b.toArray⟩] w fun e W' => e = .returned (.bool true) ∧ Below w.heap.size w W' := by
  unfold maxLen at ma mb
  have hsz := arr_size a
  have hsz2 := arr_size b
  have HM := Lib.hid (fun W (h : Below w.heap.size w W) => hM.below (Nat.le_refl _) h)
  have HK := Lib.hid (fun W h => known_any W h)
  clear hM
  by_cases h1 : 700 < a.length
  · have hz : (700 : Int) < (a.length : Int) := by omega
    have HK2 := Lib.hid (HK.out w (HM.out w (Below.refl _ _)))
    go_enter Tryd.func7, Tryd.ntmps7
    go_wp2_with (go_at_call 11; refine HK2.out.mono ?_; rintro e w' ⟨rfl, hb⟩)
    go_ret
    exact ⟨rfl, hb⟩
  · have hz : ¬ (700 : Int) < (a.length : Int) := by omega
    by_cases h2 : 700 < b.length
    · have hz2 : (700 : Int) < (b.length : Int) := by omega
      have HK2 := Lib.hid (HK.out w (HM.out w (Below.refl _ _)))
      go_enter Tryd.func7, Tryd.ntmps7
      go_wp2_with (go_at_call 11; refine HK2.out.mono ?_; rintro e w' ⟨rfl, hb⟩)
      go_ret
      exact ⟨rfl, hb⟩
    · have hz2 : ¬ (700 : Int) < (b.length : Int) := by omega
      have A1 := str_add a [10] (by simp; omega)
      have A2 := str_add (a ++ [10]) b (by simp; omega)
      obtain ⟨a1, ha1⟩ : ∃ t, a ++ [10] = t := ⟨_, rfl⟩
      obtain ⟨a2, ha2⟩ : ∃ t, a ++ [10] ++ b = t := ⟨_, rfl⟩
      have l2 : a2.length ≤ 40000 := by rw [← ha2]; simp; omega
      have hn2 := read_num a2
      rw [show a2.length = a.length + 1 + b.length by rw [← ha2]; simp; omega] at hn2
      have e2 : a2 = a ++ 10 :: b := by rw [← ha2]; simp
      rw [ha2] at A2
      rw [ha1] at A1 A2
      clear ha1 ha2
      have hna := read_num a
      have hnb := read_num b
      have HPA := Lib.hid (read_args a)
      have HPB := Lib.hid (read_args b)
      have HP2 := Lib.hid (read_args a2)
      have HLN := Lib.hid (read_lns b)
      have HRI := Lib.hid (read_rise a)
      have HBO := Lib.hid (read_both a b)
      rw [← e2] at HBO
      obtain ⟨TA, hTA⟩ : ∃ T, readL a = T := ⟨_, rfl⟩
      obtain ⟨TB, hTB⟩ : ∃ T, readL b = T := ⟨_, rfl⟩
      obtain ⟨TC, hTC⟩ : ∃ T, readL a2 = T := ⟨_, rfl⟩
      rw [hTA] at hna HPA HRI HBO
      rw [hTB] at hnb HPB HBO HLN
      rw [hTC] at hn2 HP2 HBO
      obtain ⟨m1, hm1⟩ : ∃ m, TA.1.length = m := ⟨_, rfl⟩
      obtain ⟨m2, hm2⟩ : ∃ m, TA.2.length = m := ⟨_, rfl⟩
      obtain ⟨k1, hk1⟩ : ∃ m, TB.1.length = m := ⟨_, rfl⟩
      obtain ⟨k2, hk2⟩ : ∃ m, TB.2.length = m := ⟨_, rfl⟩
      obtain ⟨c1, hc1⟩ : ∃ m, TC.1.length = m := ⟨_, rfl⟩
      obtain ⟨c2, hc2⟩ : ∃ m, TC.2.length = m := ⟨_, rfl⟩
      rw [hm1, hm2] at hna
      rw [hk1, hk2] at hnb
      rw [hc1, hc2] at hn2
      have R1 := Lib.hid (fun W h => read_is hTA (by omega) m1 m2 hm1 hm2 W h)
      have R2 := Lib.hid (fun W h => read_is hTB (by omega) k1 k2 hk1 hk2 W h)
      have R3 := Lib.hid (fun W h => read_is hTC l2 c1 c2 hc1 hc2 W h)
      have M1 := Lib.hid hm1
      have M2 := Lib.hid hm2
      have K1 := Lib.hid hk1
      have C1 := Lib.hid hc1
      obtain ⟨nal, hnal⟩ : ∃ n, a.length = n := ⟨_, rfl⟩
      have HI := Lib.hid (fun j x (h : a[j]? = some x) => str_idx a j x h)
      have HX := Lib.hid (fun x h => last_is a x h)
      have HAE : Hid (∀ W, (eqlS (.string ⟨a.toArray⟩) (.string ⟨#[]⟩)).run Tryd.prog W = .ok (.bool (decide (a = []))) W) := Lib.hid (fun W => eqlS_run a [] W)
      have m1b : m1 ≤ 702 := by omega
      have m2b : m2 ≤ 1404 := by omega
      have k1b : k1 ≤ 702 := by omega
      have c1b : c1 ≤ 1403 := by omega
      clear hna hnb hn2 hTA hTB hTC hm1 hm2 hk1 hk2 hc1 hc2 e2 l2 h1 h2 ma mb hnal
      go_enter Tryd.func7, Tryd.ntmps7
      go_wp2_with fail
      refine (R1.out _ (HM.out _ (Below.refl _ _))).mono ?_
      rintro e W1 ⟨ra, rc, da, dc, rfl, x1, d1, b1⟩
      have B1 := Lib.hid b1
      have X1 := Lib.hid x1
      have D1 := Lib.hid d1
      clear b1 x1 d1 R1
      go_wp2_with fail
      go_loopw [7, 8] (fun n i wr => ∃ (j c : Nat), wr = W1 ∧ n = .int .i64 (c : Int) ∧ i = .int .i64 (j : Int) ∧ j ≤ a.length ∧ c ≤ j ∧ (a.take j).count 10 = c ∧ ∀ y ∈ a.take j, y ≠ 92) (fun _ i _ => a.length - (intOf i).toNat)
      case atStart => exact ⟨0, 0, by first | rfl | trivial, rfl, rfl, by omega, by omega, by simp, by simp⟩
      case round =>
        obtain ⟨j, c, hwr, rfl, rfl, hj, hcj, hc, hp⟩ := hrel
        have hwr := hwr.symm
        subst hwr
        have HP := Lib.hid hp
        have HC := Lib.hid hc
        clear hp hc
        by_cases hlt : j < a.length
        · obtain ⟨x, hx⟩ : ∃ x, a[j]? = some x := ⟨a[j], List.getElem?_eq_getElem hlt⟩
          have k1 := HI.out j x hx
          have hlt' : (j : Int) < (a.length : Int) := by omega
          have CN := Lib.hid (lf_next hx)
          rw [HC.out] at CN
          by_cases h92 : x = 92
          · subst h92
            have k1' : ∀ W, (Instr.index 9 (.string ⟨a.toArray⟩) (.int .i64 (j : Int))).run Tryd.prog W = .ok (.int .u8 92) W := k1
            have HK2 := Lib.hid (HK.out W1 (HM.out W1 B1.out))
            clear k1 hx CN HC A1 A2
            go_wp2_with (go_at_call 11; refine HK2.out.mono ?_; rintro e w' ⟨rfl, hb⟩)
            go_ret
            exact ⟨rfl, B1.out.trans (hb.mono B1.out.size)⟩
          · have HT := Lib.hid (mem_next HP.out hx h92)
            have n1 : ((x.toNat : Int) == 92) = false := byte_ne h92
            by_cases h10 : x = 10
            · subst h10
              have k1' : ∀ W, (Instr.index 9 (.string ⟨a.toArray⟩) (.int .i64 (j : Int))).run Tryd.prog W = .ok (.int .u8 10) W := k1
              rw [if_pos rfl] at CN
              clear k1 hx n1 h92 A1 A2
              go_wp2_with fail
              go_roundw
              case rel => exact ⟨j + 1, c + 1, by first | rfl | trivial, by go_num, by go_num, by omega, by omega, CN.out, HT.out⟩
              case measure => simp [intOf]; omega
            · have n2 : ((x.toNat : Int) == 10) = false := byte_ne h10
              rw [if_neg h10, Nat.add_zero] at CN
              clear hx h92 h10 A1 A2
              go_wp2_with fail
              go_roundw
              case rel => exact ⟨j + 1, c, by first | rfl | trivial, by go_num, by go_num, by omega, by omega, CN.out, HT.out⟩
              case measure => simp [intOf]; omega
        · obtain rfl : j = a.length := by omega
          have hno : (92 : UInt8) ∉ a := by
            have := HP.out
            rw [List.take_length] at this
            exact fun m => this _ m rfl
          have hca : a.count 10 = c := by have := HC.out; rwa [List.take_length] at this
          rw [hca] at HRI HBO HX
          have HCA := Lib.hid hca
          have RI := Lib.hid (HRI.out hno)
          have BO := Lib.hid (HBO.out hno)
          clear HP HC hno hca HRI HBO
          go_wp2_with fail
          go_loopw [9] (fun i wr2 => ∃ (j m : Nat), wr2 = W1.drewN m ∧ i = .int .i64 (j : Int) ∧ j ≤ m1) (fun i _ => m1 - (intOf i).toNat)
          case atStart => exact ⟨0, 0, rfl, rfl, by omega⟩
          case round =>
            obtain ⟨j, m, hwr2, rfl, hj2⟩ := hrel
            have HW := Lib.hid hwr2
            have hb2 := below_drewN (Below.refl W1.heap.size W1) m
            rw [← hwr2] at hb2
            have B2 := Lib.hid hb2
            clear hwr2 hb2
            by_cases hlt : j < m1
            · obtain ⟨y, hy⟩ : ∃ y, TA.1[j]? = some y := ⟨TA.1[j]'(by rw [M1.out]; exact hlt), List.getElem?_eq_getElem _⟩
              obtain ⟨g, off, rfl, c0, -, -, -⟩ := (X1.out.below B2.out).at hy
              have hlo := RI.out.lo y (List.mem_iff_getElem?.2 ⟨j, hy⟩)
              have f1 : ¬ y.1 < 1 := by omega
              have f2 : ¬ (c : Int) + 1 < y.1 := by omega
              have hw1 : IntKind.i64.wrap ((c : Int) + 1) = (c : Int) + 1 := wrap_any (by omega) (by omega)
              have hlt' : (j : Int) < (m1 : Int) := by omega
              have hj0 : (0 : Int) ≤ (j : Int) := by omega
              by_cases hj1 : 0 < j
              · obtain ⟨k, hk⟩ : ∃ k, j - 1 = k := ⟨_, rfl⟩
                obtain ⟨z, hz'⟩ : ∃ z, TA.1[k]? = some z := ⟨TA.1[k]'(by rw [M1.out]; omega), List.getElem?_eq_getElem _⟩
                obtain ⟨g', off', hgo, c0', -, -, -⟩ := (X1.out.below B2.out).at hz'
                injection hgo with hgo
                injection hgo with hg1 hg2
                subst hg1 hg2
                have f3 : ¬ y.1 ≤ z.1 := by
                  have := RI.out.next hz' (by rw [show k + 1 = j by omega]; exact hy)
                  omega
                have hw : IntKind.i64.wrap ((j : Int) - 1) = (k : Int) := by rw [wrap_any (by omega) (by omega)]; omega
                have hk0 : (0 : Int) ≤ (k : Int) := by omega
                have hk1 : (k : Int) < (m1 : Int) := by omega
                have hj1' : (0 : Int) < (j : Int) := by omega
                have q4 : decide (0 < j) = true := decide_eq_true hj1
                clear hy hz' hlo hj1
                obtain ⟨y0, y1, y2, y3⟩ := y
                obtain ⟨z0, z1, z2, z3⟩ := z
                simp only at c0 c0'
                have q0 : decide (y0 < 1) = false := decide_eq_false f1
                have q1 : decide ((c : Int) + 1 < y0) = false := decide_eq_false f2
                have q2 : decide ((0 : Int) < (j : Int)) = true := decide_eq_true hj1'
                have q3 : decide (y0 ≤ z0) = false := decide_eq_false f3
                clear f1 f2 f3 hj1'
                go_wp2_with fail
                go_quiet (fail)
                go_wp2
                go_roundw
                case rel => exact ⟨j + 1, _, by rw [HW.out, drewN_add], by go_num, by omega⟩
                case measure => simp [intOf]; omega
              · obtain rfl : j = 0 := by omega
                have c0' : wr.cell? ⟨g, off, none⟩ = some (.int .i64 y.1) := by simpa using c0
                clear hy hlo hj1 c0 hlt' hj0
                have hlt0 : (0 : Int) < (m1 : Int) := by omega
                obtain ⟨y0, y1, y2, y3⟩ := y
                simp only at c0'
                have q0 : decide (y0 < 1) = false := decide_eq_false f1
                have q1 : decide ((c : Int) + 1 < y0) = false := decide_eq_false f2
                clear f1 f2
                go_wp2_with fail
                go_quiet (fail)
                go_wp2
                go_roundw
                case rel => exact ⟨1, _, by rw [HW.out, drewN_add], by go_num, by omega⟩
                case measure => simp [intOf]; omega
            · have XA := Lib.hid (X1.out.below B2.out)
              have DA := Lib.hid (D1.out.below B2.out)
              have BA := Lib.hid (B1.out.trans (B2.out.mono B1.out.size))
              clear HW B2 X1 D1 B1
              obtain ⟨W2, hW2⟩ : ∃ W2, W2 = wr := ⟨_, rfl⟩
              subst hW2
              have hlt' : ¬ (j : Int) < (m1 : Int) := by omega
              go_wp2_with fail
              clear hlt' hlt
              go_loopw [10] (fun i wr2 => ∃ (q m : Nat), wr2 = W2.drewN m ∧ i = .int .i64 (q : Int) ∧ q ≤ m2) (fun i _ => m2 - (intOf i).toNat)
              case atStart => exact ⟨0, 0, rfl, rfl, by omega⟩
              case round =>
                obtain ⟨q, m', hwr2, rfl, hq2⟩ := hrel
                have HW := Lib.hid hwr2
                clear hwr2
                by_cases hlt : q < m2
                · obtain ⟨x, hx⟩ : ∃ x, TA.2[q]? = some x := ⟨TA.2[q]'(by rw [M2.out]; exact hlt), List.getElem?_eq_getElem _⟩
                  have HXX := Lib.hid hx
                  have hlt' : (q : Int) < (m2 : Int) := by omega
                  clear hx A1 A2 R2 R3 BO HX HAE
                  go_wp2_with fail
                  go_loopw [11, 12] (fun s k wr3 => ∃ (p m : Nat), wr3 = W2.drewN m ∧ k = .int .i64 (p : Int) ∧ p ≤ m1 ∧ s = .bool ((TA.1.take p).any (fun z => z.1 == x.2.1))) (fun _ k _ => m1 - (intOf k).toNat)
                  case atStart => exact ⟨0, m', HW.out, rfl, by omega, by simp⟩
                  case round =>
                    obtain ⟨p, m3, hwr3, rfl, hp, rfl⟩ := hrel
                    have HW3 := Lib.hid hwr3
                    have hb3 := below_drewN (Below.refl W2.heap.size W2) m3
                    rw [← hwr3] at hb3
                    have B3 := Lib.hid hb3
                    clear hwr3 hb3
                    by_cases hpl : p < m1
                    · obtain ⟨y, hy⟩ : ∃ y, TA.1[p]? = some y := ⟨TA.1[p]'(by rw [M1.out]; exact hpl), List.getElem?_eq_getElem _⟩
                      obtain ⟨g, off, rfl, c0, -, -, -⟩ := (XA.out.below B3.out).at hy
                      obtain ⟨g2, off2, rfl, -, d1, -⟩ := dgs_at (DA.out.below B3.out) HXX.out
                      have EN := Lib.hid (ex_next (q := x.2.1) hy)
                      have hpl' : (p : Int) < (m1 : Int) := by omega
                      have hp0 : (0 : Int) ≤ (p : Int) := by omega
                      have hq0 : (0 : Int) ≤ (q : Int) := by omega
                      obtain ⟨s, hs⟩ : ∃ s, (TA.1.take p).any (fun z => z.1 == x.2.1) = s := ⟨_, rfl⟩
                      rw [hs] at EN ⊢
                      clear hs hy HW
                      obtain ⟨y0, y1, y2, y3⟩ := y
                      obtain ⟨x0, x1, x2⟩ := x
                      simp only at c0 d1 EN
                      obtain ⟨t, ht⟩ : ∃ t, (y0 == x1) = t := ⟨_, rfl⟩
                      rw [ht] at EN
                      cases s
                      · go_wp2_with fail
                        go_quiet (fail)
                        go_wp2
                        go_roundw
                        case rel => exact ⟨p + 1, _, by rw [HW3.out, drewN_add], by go_num, by omega, by rw [EN.out]; rfl⟩
                        case measure => simp [intOf]; omega
                      · go_wp2_with fail
                        go_quiet (fail)
                        go_wp2
                        go_roundw
                        case rel => exact ⟨p + 1, _, by rw [HW3.out, drewN_add], by go_num, by omega, by rw [EN.out]; rfl⟩
                        case measure => simp [intOf]; omega
                    · obtain rfl : p = m1 := by omega
                      have hany : (TA.1.take p).any (fun z => z.1 == x.2.1) = true := by
                        rw [← M1.out, List.take_length, List.any_eq_true]
                        obtain ⟨y, hy, e⟩ := RI.out.of x (List.mem_iff_getElem?.2 ⟨q, HXX.out⟩)
                        exact ⟨y, hy, by simp [e]⟩
                      rw [hany]
                      have hpl' : ¬ (p : Int) < (p : Int) := by omega
                      clear hany HW
                      go_wp2_with fail
                      go_roundw
                      case rel => exact ⟨q + 1, _, HW3.out, by go_num, by omega⟩
                      case measure => simp [intOf]; omega
                · have hlt' : ¬ (q : Int) < (m2 : Int) := by omega
                  have hb3 := below_drewN (Below.refl W2.heap.size W2) m'
                  rw [← HW.out] at hb3
                  have XB := Lib.hid (XA.out.below hb3)
                  have BB := Lib.hid (BA.out.trans (hb3.mono BA.out.size))
                  clear HW hb3 XA DA BA RI
                  go_wp2_with fail
                  refine (R2.out _ (HM.out _ BB.out)).mono ?_
                  rintro e W3 ⟨rb, rcb, db, dcb, rfl, x2, -, b2⟩
                  have X3 := Lib.hid (And.intro (XB.out.below b2) x2)
                  have B3 := Lib.hid (BB.out.trans (b2.mono BB.out.size))
                  clear b2 x2 R2 XB BB
                  go_wp2_with fail
                  refine (R3.out _ (HM.out _ B3.out)).mono ?_
                  rintro e W4 ⟨re, rce, de, dce, rfl, x3, -, b3⟩
                  have X4 := Lib.hid (And.intro (X3.out.1.below b3) (And.intro (X3.out.2.below b3) x3))
                  have B4 := Lib.hid (B3.out.trans (b3.mono B3.out.size))
                  clear b3 x3 R3 X3 B3
                  obtain ⟨v5, W5, k5, h5⟩ := (RwA.start W4).app X4.out.1 (by rw [M1.out]; simp; omega)
                  rw [List.nil_append] at h5
                  obtain ⟨a5, p5, hv5⟩ := h5.len
                  rw [M1.out] at hv5
                  subst hv5
                  have H5 := Lib.hid h5
                  clear h5
                  have kp := RwA.push H5.out (by rw [M1.out]; omega) (((c : Int) + 1, [], [], []) : Row) (none, 0, 0) (Fs.nil _) #[.int .i64 ((c : Int) + 1), .string ⟨#[]⟩, .slice none 0 0, .string ⟨#[]⟩] rfl
                  have KK : Hid (∀ W, Mx W → Calls Tryd.prog 11 #[] W fun e w' => e = .returned (.bool true) ∧ Below W.heap.size W w') := Lib.hid (fun W h => known_any W h)
                  clear hlt' hlt HK
                  by_cases hae : a = []
                  · have EA : ∀ W, (eqlS (.string ⟨a.toArray⟩) (.string ⟨#[]⟩)).run Tryd.prog W = .ok (.bool true) W := fun W => by
                      have h := HAE.out W
                      rw [decide_eq_true hae] at h
                      exact h
                    have ex : xtra a = [((c : Int) + 1, [], [], [])] := by
                      have hc0 : (c : Int) = (a.count 10 : Int) := by rw [HCA.out]
                      unfold xtra
                      rw [if_pos (.inl hae), hc0]
                    obtain ⟨v6, W6, k6, h6⟩ := kp
                    rw [← ex] at h6
                    have H6 := Lib.hid h6
                    clear h6 ex hae HX HAE
                    go_wp2_with fail
                    obtain ⟨a6, p6, hv6⟩ := H6.out.len
                    clear A1 A2 HI
                    subst hv6
                    go_wp2_with fail
                    go_loopw [17, 18] (fun v i wr4 => ∃ (p : Nat), i = .int .i64 (p : Int) ∧ p ≤ k1 ∧ RwA W4 wr4 v (TA.1 ++ xtra a ++ (TB.1.take p).map (sh ((c : Int) + 1)))) (fun _ i _ => k1 - (intOf i).toNat)
                    case atStart => exact ⟨0, rfl, by omega, by simpa using H6.out⟩
                    case round =>
                      obtain ⟨p, rfl, hp, ha⟩ := hrel
                      have hal : (TA.1 ++ xtra a ++ (TB.1.take p).map (sh ((c : Int) + 1))).length ≤ 500000 := by
                        rw [List.length_append, List.length_append, List.length_map, List.length_take, M1.out]
                        have := xtra_le a
                        omega
                      obtain ⟨acc, hacc⟩ : ∃ acc, TA.1 ++ xtra a ++ (TB.1.take p).map (sh ((c : Int) + 1)) = acc := ⟨_, rfl⟩
                      rw [hacc] at ha hal
                      have HAC := Lib.hid hacc
                      have H7 := Lib.hid ha
                      obtain ⟨a7, p7, hv7⟩ := ha.len
                      subst hv7
                      clear H6 ha hacc
                      by_cases hpl : p < k1
                      · obtain ⟨y, hy⟩ : ∃ y, TB.1[p]? = some y := ⟨TB.1[p]'(by rw [K1.out]; exact hpl), List.getElem?_eq_getElem _⟩
                        obtain ⟨g, off, rfl, c0, c1', ⟨aa, na, ca, c2', s2⟩, c3⟩ := (X4.out.2.1).at hy
                        have e0 := (H7.out.bel.cell (World.block_lt_of_cell? W4 _ c0)).trans c0
                        have e1 := (H7.out.bel.cell (World.block_lt_of_cell? W4 _ c1')).trans c1'
                        have e2 := (H7.out.bel.cell (World.block_lt_of_cell? W4 _ c2')).trans c2'
                        have e3 := (H7.out.bel.cell (World.block_lt_of_cell? W4 _ c3)).trans c3
                        have hyl := HLN.out y (List.mem_iff_getElem?.2 ⟨p, hy⟩)
                        have HT : Hid (TA.1 ++ xtra a ++ (TB.1.take (p + 1)).map (sh ((c : Int) + 1)) = acc ++ [sh ((c : Int) + 1) y]) := Lib.hid (by rw [← HAC.out, List.take_add_one, hy, List.map_append, List.append_assoc (TA.1 ++ xtra a)]; rfl)
                        obtain ⟨v8, W8, k8, h8⟩ := (H7.out.keep (below_lit _ (.cells #[.int .i64 (y.1 + (c : Int) + 1), .string ⟨y.2.1.toArray⟩, .slice aa na ca, .string ⟨y.2.2.2.toArray⟩] 34))).push hal (sh ((c : Int) + 1) y) (aa, na, ca) s2 #[.int .i64 (y.1 + (c : Int) + 1), .string ⟨y.2.1.toArray⟩, .slice aa na ca, .string ⟨y.2.2.2.toArray⟩] (by rw [show y.1 + (c : Int) + 1 = y.1 + ((c : Int) + 1) by omega]; rfl)
                        rw [World.size_alloc] at k8
                        have H8 := Lib.hid h8
                        have hpl' : (p : Int) < (k1 : Int) := by omega
                        have hp0 : (0 : Int) ≤ (p : Int) := by omega
                        have hw1 : IntKind.i64.wrap (y.1 + (c : Int)) = y.1 + (c : Int) := wrap_any (by omega) (by omega)
                        have hw2 : IntKind.i64.wrap (y.1 + (c : Int) + 1) = y.1 + (c : Int) + 1 := wrap_any (by omega) (by omega)
                        obtain ⟨y0, y1, y2, y3⟩ := y
                        clear c0 c1' c2' c3 s2 hy h8 hyl H7
                        simp only at e0 e1 e2 e3 k8 hw1 hw2
                        go_wp2_with fail
                        go_roundw
                        case rel => exact ⟨p + 1, by go_num, by omega, by rw [HT.out]; exact H8.out⟩
                        case measure => simp [intOf]; omega
                      · obtain rfl : p = k1 := by omega
                        have hfin : acc = TC.1 := by rw [BO.out, ← HAC.out, ← K1.out, List.take_length]
                        have H9 := H7.out.fin
                        subst hfin
                        have s1 := sameR_any TC.1 TC.1 _ _ _ (X4.out.2.2.below H7.out.bel) H9 (by rw [C1.out]; omega) (by rw [C1.out]; omega) (fun y hy => by have := HP2.out y hy; omega) (fun y hy => by have := HP2.out y hy; omega)
                        rw [decide_eq_true rfl] at s1
                        rw [C1.out] at s1 ⊢
                        have S1 := Lib.hid s1
                        have B8 := Lib.hid (B4.out.trans (H7.out.bel.mono B4.out.size))
                        have hpl' : ¬ (p : Int) < (p : Int) := by omega
                        clear s1 H9 H7 X4 B4 hal HAC BO
                        go_wp2_with fail
                        refine S1.out.mono ?_
                        rintro e W9 ⟨rfl, m9, hm9⟩
                        have B9 := Lib.hid (show Below _ _ W9 from hm9 ▸ below_drewN B8.out m9)
                        have K3 := Lib.hid (KK.out W9 (HM.out _ B9.out))
                        clear hm9 S1 B8
                        go_wp2_with fail
                        refine K3.out.mono ?_
                        rintro e WA ⟨rfl, bA⟩
                        have BA := Lib.hid (B9.out.trans (bA.mono B9.out.size))
                        clear bA K3
                        go_wp2_with fail
                        go_ret
                        exact ⟨rfl, BA.out⟩
                  · have EA : ∀ W, (eqlS (.string ⟨a.toArray⟩) (.string ⟨#[]⟩)).run Tryd.prog W = .ok (.bool false) W := fun W => by
                      have h := HAE.out W
                      rw [decide_eq_false hae] at h
                      exact h
                    have hal1 : 1 ≤ a.length := by
                      cases a with
                      | nil => exact absurd rfl hae
                      | cons c t => simp
                    obtain ⟨x, hx⟩ : ∃ x, a[a.length - 1]? = some x := ⟨a[a.length - 1]'(by omega), List.getElem?_eq_getElem _⟩
                    have hxt := HX.out x hx
                    have hw0 : IntKind.i64.wrap ((a.length : Int) - 1) = (a.length : Int) - 1 := wrap_any (by omega) (by omega)
                    have k0 : ∀ W, (Instr.index 9 (.string ⟨a.toArray⟩) (.int .i64 ((a.length : Int) - 1))).run Tryd.prog W = .ok (.int .u8 (x.toNat : Int)) W := by
                      have h := HI.out (a.length - 1) x hx
                      have c : ((a.length - 1 : Nat) : Int) = (a.length : Int) - 1 := by omega
                      rw [c] at h
                      exact h
                    clear hae hx HX HAE
                    by_cases h10 : x = 10
                    · subst h10
                      have k0' : ∀ W, (Instr.index 9 (.string ⟨a.toArray⟩) (.int .i64 ((a.length : Int) - 1))).run Tryd.prog W = .ok (.int .u8 10) W := k0
                      have ex : xtra a = [((c : Int) + 1, [], [], [])] := by
                        rw [if_pos rfl] at hxt
                        exact hxt
                      obtain ⟨v6, W6, k6, h6⟩ := kp
                      rw [← ex] at h6
                      have H6 := Lib.hid h6
                      clear h6 ex k0 hxt
                      go_wp2_with fail
                      obtain ⟨a6, p6, hv6⟩ := H6.out.len
                      clear A1 A2 HI
                      subst hv6
                      go_wp2_with fail
                      go_loopw [17, 18] (fun v i wr4 => ∃ (p : Nat), i = .int .i64 (p : Int) ∧ p ≤ k1 ∧ RwA W4 wr4 v (TA.1 ++ xtra a ++ (TB.1.take p).map (sh ((c : Int) + 1)))) (fun _ i _ => k1 - (intOf i).toNat)
                      case atStart => exact ⟨0, rfl, by omega, by simpa using H6.out⟩
                      case round =>
                        obtain ⟨p, rfl, hp, ha⟩ := hrel
                        have hal : (TA.1 ++ xtra a ++ (TB.1.take p).map (sh ((c : Int) + 1))).length ≤ 500000 := by
                          rw [List.length_append, List.length_append, List.length_map, List.length_take, M1.out]
                          have := xtra_le a
                          omega
                        obtain ⟨acc, hacc⟩ : ∃ acc, TA.1 ++ xtra a ++ (TB.1.take p).map (sh ((c : Int) + 1)) = acc := ⟨_, rfl⟩
                        rw [hacc] at ha hal
                        have HAC := Lib.hid hacc
                        have H7 := Lib.hid ha
                        obtain ⟨a7, p7, hv7⟩ := ha.len
                        subst hv7
                        clear H6 ha hacc
                        by_cases hpl : p < k1
                        · obtain ⟨y, hy⟩ : ∃ y, TB.1[p]? = some y := ⟨TB.1[p]'(by rw [K1.out]; exact hpl), List.getElem?_eq_getElem _⟩
                          obtain ⟨g, off, rfl, c0, c1', ⟨aa, na, ca, c2', s2⟩, c3⟩ := (X4.out.2.1).at hy
                          have e0 := (H7.out.bel.cell (World.block_lt_of_cell? W4 _ c0)).trans c0
                          have e1 := (H7.out.bel.cell (World.block_lt_of_cell? W4 _ c1')).trans c1'
                          have e2 := (H7.out.bel.cell (World.block_lt_of_cell? W4 _ c2')).trans c2'
                          have e3 := (H7.out.bel.cell (World.block_lt_of_cell? W4 _ c3)).trans c3
                          have hyl := HLN.out y (List.mem_iff_getElem?.2 ⟨p, hy⟩)
                          have HT : Hid (TA.1 ++ xtra a ++ (TB.1.take (p + 1)).map (sh ((c : Int) + 1)) = acc ++ [sh ((c : Int) + 1) y]) := Lib.hid (by rw [← HAC.out, List.take_add_one, hy, List.map_append, List.append_assoc (TA.1 ++ xtra a)]; rfl)
                          obtain ⟨v8, W8, k8, h8⟩ := (H7.out.keep (below_lit _ (.cells #[.int .i64 (y.1 + (c : Int) + 1), .string ⟨y.2.1.toArray⟩, .slice aa na ca, .string ⟨y.2.2.2.toArray⟩] 34))).push hal (sh ((c : Int) + 1) y) (aa, na, ca) s2 #[.int .i64 (y.1 + (c : Int) + 1), .string ⟨y.2.1.toArray⟩, .slice aa na ca, .string ⟨y.2.2.2.toArray⟩] (by rw [show y.1 + (c : Int) + 1 = y.1 + ((c : Int) + 1) by omega]; rfl)
                          rw [World.size_alloc] at k8
                          have H8 := Lib.hid h8
                          have hpl' : (p : Int) < (k1 : Int) := by omega
                          have hp0 : (0 : Int) ≤ (p : Int) := by omega
                          have hw1 : IntKind.i64.wrap (y.1 + (c : Int)) = y.1 + (c : Int) := wrap_any (by omega) (by omega)
                          have hw2 : IntKind.i64.wrap (y.1 + (c : Int) + 1) = y.1 + (c : Int) + 1 := wrap_any (by omega) (by omega)
                          obtain ⟨y0, y1, y2, y3⟩ := y
                          clear c0 c1' c2' c3 s2 hy h8 hyl H7
                          simp only at e0 e1 e2 e3 k8 hw1 hw2
                          go_wp2_with fail
                          go_roundw
                          case rel => exact ⟨p + 1, by go_num, by omega, by rw [HT.out]; exact H8.out⟩
                          case measure => simp [intOf]; omega
                        · obtain rfl : p = k1 := by omega
                          have hfin : acc = TC.1 := by rw [BO.out, ← HAC.out, ← K1.out, List.take_length]
                          have H9 := H7.out.fin
                          subst hfin
                          have s1 := sameR_any TC.1 TC.1 _ _ _ (X4.out.2.2.below H7.out.bel) H9 (by rw [C1.out]; omega) (by rw [C1.out]; omega) (fun y hy => by have := HP2.out y hy; omega) (fun y hy => by have := HP2.out y hy; omega)
                          rw [decide_eq_true rfl] at s1
                          rw [C1.out] at s1 ⊢
                          have S1 := Lib.hid s1
                          have B8 := Lib.hid (B4.out.trans (H7.out.bel.mono B4.out.size))
                          have hpl' : ¬ (p : Int) < (p : Int) := by omega
                          clear s1 H9 H7 X4 B4 hal HAC BO
                          go_wp2_with fail
                          refine S1.out.mono ?_
                          rintro e W9 ⟨rfl, m9, hm9⟩
                          have B9 := Lib.hid (show Below _ _ W9 from hm9 ▸ below_drewN B8.out m9)
                          have K3 := Lib.hid (KK.out W9 (HM.out _ B9.out))
                          clear hm9 S1 B8
                          go_wp2_with fail
                          refine K3.out.mono ?_
                          rintro e WA ⟨rfl, bA⟩
                          have BA := Lib.hid (B9.out.trans (bA.mono B9.out.size))
                          clear bA K3
                          go_wp2_with fail
                          go_ret
                          exact ⟨rfl, BA.out⟩
                    · have hn10 : ((x.toNat : Int) == 10) = false := byte_ne h10
                      rw [if_neg h10] at hxt
                      have H6 : Hid (RwA W4 W5 (.slice a5 m1 p5) (TA.1 ++ xtra a)) := Lib.hid (by rw [hxt, List.append_nil]; exact H5.out)
                      clear kp hxt h10 H5
                      go_wp2_with fail
                      clear A1 A2 HI
                      go_loopw [17, 18] (fun v i wr4 => ∃ (p : Nat), i = .int .i64 (p : Int) ∧ p ≤ k1 ∧ RwA W4 wr4 v (TA.1 ++ xtra a ++ (TB.1.take p).map (sh ((c : Int) + 1)))) (fun _ i _ => k1 - (intOf i).toNat)
                      case atStart => exact ⟨0, rfl, by omega, by simpa using H6.out⟩
                      case round =>
                        obtain ⟨p, rfl, hp, ha⟩ := hrel
                        have hal : (TA.1 ++ xtra a ++ (TB.1.take p).map (sh ((c : Int) + 1))).length ≤ 500000 := by
                          rw [List.length_append, List.length_append, List.length_map, List.length_take, M1.out]
                          have := xtra_le a
                          omega
                        obtain ⟨acc, hacc⟩ : ∃ acc, TA.1 ++ xtra a ++ (TB.1.take p).map (sh ((c : Int) + 1)) = acc := ⟨_, rfl⟩
                        rw [hacc] at ha hal
                        have HAC := Lib.hid hacc
                        have H7 := Lib.hid ha
                        obtain ⟨a7, p7, hv7⟩ := ha.len
                        subst hv7
                        clear H6 ha hacc
                        by_cases hpl : p < k1
                        · obtain ⟨y, hy⟩ : ∃ y, TB.1[p]? = some y := ⟨TB.1[p]'(by rw [K1.out]; exact hpl), List.getElem?_eq_getElem _⟩
                          obtain ⟨g, off, rfl, c0, c1', ⟨aa, na, ca, c2', s2⟩, c3⟩ := (X4.out.2.1).at hy
                          have e0 := (H7.out.bel.cell (World.block_lt_of_cell? W4 _ c0)).trans c0
                          have e1 := (H7.out.bel.cell (World.block_lt_of_cell? W4 _ c1')).trans c1'
                          have e2 := (H7.out.bel.cell (World.block_lt_of_cell? W4 _ c2')).trans c2'
                          have e3 := (H7.out.bel.cell (World.block_lt_of_cell? W4 _ c3)).trans c3
                          have hyl := HLN.out y (List.mem_iff_getElem?.2 ⟨p, hy⟩)
                          have HT : Hid (TA.1 ++ xtra a ++ (TB.1.take (p + 1)).map (sh ((c : Int) + 1)) = acc ++ [sh ((c : Int) + 1) y]) := Lib.hid (by rw [← HAC.out, List.take_add_one, hy, List.map_append, List.append_assoc (TA.1 ++ xtra a)]; rfl)
                          obtain ⟨v8, W8, k8, h8⟩ := (H7.out.keep (below_lit _ (.cells #[.int .i64 (y.1 + (c : Int) + 1), .string ⟨y.2.1.toArray⟩, .slice aa na ca, .string ⟨y.2.2.2.toArray⟩] 34))).push hal (sh ((c : Int) + 1) y) (aa, na, ca) s2 #[.int .i64 (y.1 + (c : Int) + 1), .string ⟨y.2.1.toArray⟩, .slice aa na ca, .string ⟨y.2.2.2.toArray⟩] (by rw [show y.1 + (c : Int) + 1 = y.1 + ((c : Int) + 1) by omega]; rfl)
                          rw [World.size_alloc] at k8
                          have H8 := Lib.hid h8
                          have hpl' : (p : Int) < (k1 : Int) := by omega
                          have hp0 : (0 : Int) ≤ (p : Int) := by omega
                          have hw1 : IntKind.i64.wrap (y.1 + (c : Int)) = y.1 + (c : Int) := wrap_any (by omega) (by omega)
                          have hw2 : IntKind.i64.wrap (y.1 + (c : Int) + 1) = y.1 + (c : Int) + 1 := wrap_any (by omega) (by omega)
                          obtain ⟨y0, y1, y2, y3⟩ := y
                          clear c0 c1' c2' c3 s2 hy h8 hyl H7
                          simp only at e0 e1 e2 e3 k8 hw1 hw2
                          go_wp2_with fail
                          go_roundw
                          case rel => exact ⟨p + 1, by go_num, by omega, by rw [HT.out]; exact H8.out⟩
                          case measure => simp [intOf]; omega
                        · obtain rfl : p = k1 := by omega
                          have hfin : acc = TC.1 := by rw [BO.out, ← HAC.out, ← K1.out, List.take_length]
                          have H9 := H7.out.fin
                          subst hfin
                          have s1 := sameR_any TC.1 TC.1 _ _ _ (X4.out.2.2.below H7.out.bel) H9 (by rw [C1.out]; omega) (by rw [C1.out]; omega) (fun y hy => by have := HP2.out y hy; omega) (fun y hy => by have := HP2.out y hy; omega)
                          rw [decide_eq_true rfl] at s1
                          rw [C1.out] at s1 ⊢
                          have S1 := Lib.hid s1
                          have B8 := Lib.hid (B4.out.trans (H7.out.bel.mono B4.out.size))
                          have hpl' : ¬ (p : Int) < (p : Int) := by omega
                          clear s1 H9 H7 X4 B4 hal HAC BO
                          go_wp2_with fail
                          refine S1.out.mono ?_
                          rintro e W9 ⟨rfl, m9, hm9⟩
                          have B9 := Lib.hid (show Below _ _ W9 from hm9 ▸ below_drewN B8.out m9)
                          have K3 := Lib.hid (KK.out W9 (HM.out _ B9.out))
                          clear hm9 S1 B8
                          go_wp2_with fail
                          refine K3.out.mono ?_
                          rintro e WA ⟨rfl, bA⟩
                          have BA := Lib.hid (B9.out.trans (bA.mono B9.out.size))
                          clear bA K3
                          go_wp2_with fail
                          go_ret
                          exact ⟨rfl, BA.out⟩
theorem order_law (s0 s1 : ByteArray) (w : World) (hM : Mx w) (h0 : s0.size ≤ maxLen) (h1 : s1.size ≤ maxLen) :
    Calls Tryd.prog 7 #[.string s0, .string s1] w fun e W' => e = .returned (.bool true) ∧ Below w.heap.size w W' := by
  obtain ⟨a, rfl⟩ : ∃ a : List UInt8, s0 = ⟨a.toArray⟩ := ⟨s0.data.toList, by simp⟩
  obtain ⟨b, rfl⟩ : ∃ b : List UInt8, s1 = ⟨b.toArray⟩ := ⟨s1.data.toList, by simp⟩
  rw [arr_size] at h0 h1
  exact orderL_any a b w hM h0 h1
end Go.Proofs.YtigdfknmmjafkaaDoor
