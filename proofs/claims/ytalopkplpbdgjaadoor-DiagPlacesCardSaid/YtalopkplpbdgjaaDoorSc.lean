/- symMergeCmpFunc: the third case, the cut ahead of the middle. -/
import Derived.Test.YtalopkplpbdgjaaDoorSa
import Derived.Deep.DeepCutAuto
namespace Go.Proofs.YtalopkplpbdgjaaDoor
open Go.RowKit

set_option maxRecDepth 100000 in
set_option maxHeartbeats 4000000 in
theorem sym_more_le (base g n cap a m b mid nn : Nat) (w : World) (ds : List D) (h : Rw base g n cap w ds) (ham : a + 1 < m) (hmb : m + 1 < b) (hb : b ≤ n) (hn : n ≤ 1000) (hso1 : So ds a m) (hso2 : So ds m b)
    (hmid : (a + b) / 2 = mid) (hnn : mid + m = nn) (hside : m ≤ mid)
    (ih : ∀ (a' m' b' : Nat) (w1 : World) (ds1 : List D), b' - a' < b - a → Rw base g n cap w1 ds1 → a' < m' → m' < b' → b' ≤ n → So ds1 a' m' → So ds1 m' b' → Calls Tryd.prog 49 #[.slice (some ⟨g, 0, none⟩) n cap, .int .i64 a', .int .i64 m', .int .i64 b', .func (.func 34) #[] #[]] w1 fun e w' => e = .returned (.tuple #[]) ∧ ∃ es, Rw base g n cap w' es ∧ Re ds1 es a' b' ∧ So es a' b' ∧ Below base w1 w') :
    Calls Tryd.prog 49 #[.slice (some ⟨g, 0, none⟩) n cap, .int .i64 a, .int .i64 m, .int .i64 b, .func (.func 34) #[] #[]] w fun e w' => e = .returned (.tuple #[]) ∧ ∃ es, Rw base g n cap w' es ∧ Re ds es a b ∧ So es a b ∧ Below base w w' := by
  have H := Lib.hid h
  have HS1 := Lib.hid hso1
  have HS2 := Lib.hid hso2
  have IH := Lib.hid ih
  have hdl := h.1
  obtain ⟨z1, hz1⟩ : ∃ z : Nat, m - a = z := ⟨_, rfl⟩
  have hy1 : (m : Int) - (a : Int) = (z1 : Int) := by omega
  have hx1 : ((z1 : Int) == 1) = false := by simp; omega
  have hw1 : ¬ (z1 : Int) = 1 := by omega
  obtain ⟨z2, hz2⟩ : ∃ z : Nat, b - m = z := ⟨_, rfl⟩
  have hy2 : (b : Int) - (m : Int) = (z2 : Int) := by omega
  have hx2 : ((z2 : Int) == 1) = false := by simp; omega
  have hw2 : ¬ (z2 : Int) = 1 := by omega
  have hab : (a : Int) ≤ 1000 := by omega
  have hbb : (b : Int) ≤ 1000 := by omega
  have hmz : ((a : Int) + (b : Int)) / 2 = (mid : Int) := by omega
  have hnz : (mid : Int) + (m : Int) = (nn : Int) := by omega
  have hgz : ¬ (mid : Int) < (m : Int) := by omega
  obtain ⟨p, hp⟩ : ∃ p : Nat, p + 1 = nn := ⟨nn - 1, by omega⟩
  have hpz : (nn : Int) - 1 = (p : Int) := by omega
  have K1 : a ≤ a := by omega
  have K2 : a ≤ m := by omega
  have K3 : m ≤ m := by omega
  have K4 : m + m ≤ nn := by omega
  have K5 : nn ≤ b + a := by omega
  have K6 : a < mid ∧ mid < b ∧ mid ≤ n := by omega
  have K7 : m ≤ mid := by omega
  have HNN := Lib.hid hnn
  have HP := Lib.hid hp
  have HSD := Lib.hid hside
  clear h hso1 hso2 ih hz1 hz2 hmid hnn hp hside
  go_enter Tryd.func49, Tryd.ntmps49
  go_wp2_with fail
  go_loopw [20, 21] (fun vi vj wr => ∃ i j : Nat, vi = .int .i64 i ∧ vj = .int .i64 j ∧ a ≤ i ∧ i ≤ j ∧ j ≤ m ∧ (∀ c, a ≤ c → c < i → 0 ≤ cmpD (at' ds (nn - 1 - c)) (at' ds c)) ∧ (∀ c, j ≤ c → c < m → cmpD (at' ds (nn - 1 - c)) (at' ds c) < 0) ∧ Below w.heap.size w wr) (fun vi vj _ => (intOf vj).toNat - (intOf vi).toNat)
  case atStart => exact ⟨a, m, rfl, rfl, by omega, by omega, by omega, fun p h1 h2 => by omega, fun p h1 h2 => by omega, Below.refl _ _⟩
  case round =>
    obtain ⟨i, j, rfl, rfl, h1, h2, h3, hlo, hhi, hbl⟩ := hrel
    have HLO := Lib.hid hlo
    have HHI := Lib.hid hhi
    have HBL := Lib.hid hbl
    have hbs := hbl.size
    clear hlo hhi hbl
    by_cases hlt : i < j
    · have g1 : (i : Int) < (j : Int) := by omega
      have hib : (i : Int) ≤ 1000 := by omega
      have hjb : (j : Int) ≤ 1000 := by omega
      obtain ⟨c, hc⟩ : ∃ c : Nat, (i + j) / 2 = c := ⟨_, rfl⟩
      have hcz : ((i : Int) + (j : Int)) / 2 = (c : Int) := by omega
      have hcr : i ≤ c ∧ c < j := by omega
      have HR := Lib.hid (H.out.below HBL.out)
      obtain ⟨x, hx⟩ : ∃ x : Nat, nn - 1 - c = x := ⟨_, rfl⟩
      have hxr : (p : Int) - (c : Int) = (x : Int) ∧ x < n := by have e1 := HP.out; have e2 := HNN.out; omega
      have hxz := hxr.1
      have hxn := hxr.2
      have hx1 : (x : Int) < (n : Int) := by omega
      have hx0 : (0 : Int) ≤ (x : Int) := by omega
      have hwx : IntKind.i64.wrap (x : Int) = (x : Int) := by simp [IntKind.wrap, IntKind.bits, IntKind.signed]; omega
      have hc1 : (c : Int) < (n : Int) := by omega
      have hc0 : (0 : Int) ≤ (c : Int) := by omega
      have hwc : IntKind.i64.wrap (c : Int) = (c : Int) := by simp [IntKind.wrap, IntKind.bits, IntKind.signed]; omega
      have SK := Lib.hid (HR.out.two (p := x) (q := c) (by omega) (by omega))
      have hL := Lib.hid (fun (hl : ¬ cmpD (at' ds x) (at' ds c) < 0) => half_lo HS1.out HS2.out K1 (show c < m by omega) K3 K4 K5 (by rw [hx]; exact hl))
      have hG := Lib.hid (fun (hl : cmpD (at' ds x) (at' ds c) < 0) => half_hi HS1.out HS2.out K1 (show a ≤ c by omega) K3 K4 K5 (by rw [hx]; exact hl))
      unfold Two at SK
      obtain ⟨⟨xk, xl, xc⟩, ex⟩ : ∃ y, at' ds x = y := ⟨_, rfl⟩
      obtain ⟨⟨yk, yl, yc⟩, ey⟩ : ∃ y, at' ds c = y := ⟨_, rfl⟩
      have hO := fun W => order_any (xk, xl, xc) (yk, yl, yc) W
      simp only at hO
      have HO := Lib.hid hO
      obtain ⟨CC, hCC⟩ : ∃ CC, cmpD (at' ds x) (at' ds c) = CC := ⟨_, rfl⟩
      rw [ex, ey] at SK hCC
      simp only at SK
      have hL' := Lib.hid (fun (h : ¬ CC < 0) => hL.out (by rw [ex, ey, hCC]; exact h))
      have hG' := Lib.hid (fun (h : CC < 0) => hG.out (by rw [ex, ey, hCC]; exact h))
      rw [hCC] at HO
      clear hL hG ex ey hCC hO hc hx hxr
      by_cases hcc : CC < 0
      · have hccb : decide (CC < 0) = true := decide_eq_true hcc
        go_wp2_with fail
        go_region_held3 (fun W' => W'.cell? ⟨g, x * 3, none⟩ = some (.int .i64 xk) ∧ W'.cell? ⟨g, x * 3 + 1, none⟩ = some (.int .i64 xl) ∧ W'.cell? ⟨g, x * 3 + 2, none⟩ = some (.int .i64 xc) ∧ W'.cell? ⟨g, c * 3, none⟩ = some (.int .i64 yk) ∧ W'.cell? ⟨g, c * 3 + 1, none⟩ = some (.int .i64 yl) ∧ W'.cell? ⟨g, c * 3 + 2, none⟩ = some (.int .i64 yc))
          (first | assumption | exact SK.out _ (Below.refl _ wr).drew | exact SK.out _ B5.out)
          ((first
            | (go_at_call 34; (with_reducible refine (HO.out _).mono ?_); rintro e w5 ⟨rfl, b5⟩; have B5 : Hid (Below wr.heap.size wr w5) := Lib.hid ((Below.refl _ wr).drew.trans b5); clear b5)))
        all_goals
          have HB5 := Lib.hid (HBL.out.trans (B5.out.mono hbs))
          go_wp2_with fail
          all_goals
            go_roundw
            case rel => exact ⟨i, c, rfl, by go_num, h1, by omega, by omega, HLO.out, hG'.out hcc, HB5.out⟩
            case measure => simp [intOf]; omega
      · have hccb : decide (CC < 0) = false := decide_eq_false hcc
        go_wp2_with fail
        go_region_held3 (fun W' => W'.cell? ⟨g, x * 3, none⟩ = some (.int .i64 xk) ∧ W'.cell? ⟨g, x * 3 + 1, none⟩ = some (.int .i64 xl) ∧ W'.cell? ⟨g, x * 3 + 2, none⟩ = some (.int .i64 xc) ∧ W'.cell? ⟨g, c * 3, none⟩ = some (.int .i64 yk) ∧ W'.cell? ⟨g, c * 3 + 1, none⟩ = some (.int .i64 yl) ∧ W'.cell? ⟨g, c * 3 + 2, none⟩ = some (.int .i64 yc))
          (first | assumption | exact SK.out _ (Below.refl _ wr).drew | exact SK.out _ B5.out)
          ((first
            | (go_at_call 34; (with_reducible refine (HO.out _).mono ?_); rintro e w5 ⟨rfl, b5⟩; have B5 : Hid (Below wr.heap.size wr w5) := Lib.hid ((Below.refl _ wr).drew.trans b5); clear b5)))
        have HB5 := Lib.hid (HBL.out.trans (B5.out.mono hbs))
        go_wp2_with fail
        go_roundw
        case rel => exact ⟨c + 1, j, by go_num, rfl, by omega, by omega, h3, hL'.out hcc, HHI.out, HB5.out⟩
        case measure => simp [intOf]; omega
    · obtain rfl : i = j := by omega
      have HR := Lib.hid (H.out.below HBL.out)
      have HB0 := Lib.hid (HBL.out.mono H.out.size)
      obtain ⟨e, he⟩ : ∃ e : Nat, i + e = nn := ⟨nn - i, by omega⟩
      have hez : (nn : Int) - (i : Int) = (e : Int) := by omega
      have hgl : ¬ (i : Int) < (i : Int) := by omega
      have ende := half_ends K1 h1 h3 K3 K4 K5 (by have e1 := HSD.out; have e2 := HNN.out; omega) (by have e1 := HSD.out; have e2 := HNN.out; omega) he HLO.out HHI.out
      have E := Lib.hid (show (i ≤ m ∧ m ≤ e ∧ e ≤ b ∧ a ≤ i ∧ i ≤ mid ∧ mid ≤ e ∧ i + e = mid + m) from by have e1 := HSD.out; have e2 := HNN.out; omega)
      have HEND := Lib.hid ende
      clear ende he
      obtain ⟨wq, hwq⟩ : ∃ wq : World, wq = wr := ⟨wr, rfl⟩
      subst hwq
      rcases (show (¬ i < m) ∨ (i < m ∧ ¬ m < e) ∨ (i < m ∧ m < e) by omega) with a1 | ⟨a1, a2⟩ | ⟨a1, a2⟩
      · have ga1 : ¬ (i : Int) < (m : Int) := by omega
        have X := Lib.hid (q1_none HS1.out HS2.out E.out.2.2.2.1 E.out.1 E.out.2.1 E.out.2.2.1 E.out.2.2.2.2.2.2 HEND.out.1 HEND.out.2 (.inl (by have := E.out; omega)))
        have R1 := HR
        have B1 := HB0
        rcases (show (¬ a < i) ∨ (a < i ∧ ¬ i < mid) ∨ (a < i ∧ i < mid) by omega) with b1 | ⟨b1, b2⟩ | ⟨b1, b2⟩
        · have gb1 : ¬ (a : Int) < (i : Int) := by omega
          have Y := Lib.hid (X.out.none (.inl (by have := E.out; omega)))
          have R2 := R1
          have B2 := B1
          rcases (show (¬ mid < e) ∨ (mid < e ∧ ¬ e < b) ∨ (mid < e ∧ e < b) by omega) with c1 | ⟨c1, c2⟩ | ⟨c1, c2⟩
          · have gc1 : ¬ (mid : Int) < (e : Int) := by omega
            have Z := Lib.hid (Y.out.none (.inl (by have := E.out; omega)))
            have R3 := R2
            have B3 := B2
            go_wp2_with fail
            go_end0
            exact ⟨rfl, _, R3.out, Z.out.1, Z.out.2, B3.out⟩
          · have gc1 : (mid : Int) < (e : Int) := by omega
            have gc2 : ¬ (e : Int) < (b : Int) := by omega
            have Z := Lib.hid (Y.out.none (.inr (by have := E.out; omega)))
            have R3 := R2
            have B3 := B2
            go_wp2_with fail
            go_end0
            exact ⟨rfl, _, R3.out, Z.out.1, Z.out.2, B3.out⟩
          · have gc1 : (mid : Int) < (e : Int) := by omega
            have gc2 : (e : Int) < (b : Int) := by omega
            have hC3 := Lib.hid (IH.out mid e b wq ds (by omega) R2.out c1 c2 hb Y.out.me Y.out.eb)
            go_wp2_with fail
            go_at_call 49
            with_reducible refine hC3.out.mono ?_
            rintro _ w6 ⟨rfl, es6, r6, re6, so6, b6⟩
            have Z := Lib.hid (Y.out.call re6 so6 (by omega) (by rw [R2.out.1]; omega))
            have R3 := Lib.hid r6
            have B3 := Lib.hid (B2.out.trans b6)
            clear r6 re6 so6 b6
            go_wp2_with fail
            go_end0
            exact ⟨rfl, _, R3.out, Z.out.1, Z.out.2, B3.out⟩
        · have gb1 : (a : Int) < (i : Int) := by omega
          have gb2 : ¬ (i : Int) < (mid : Int) := by omega
          have Y := Lib.hid (X.out.none (.inr (by have := E.out; omega)))
          have R2 := R1
          have B2 := B1
          rcases (show (¬ mid < e) ∨ (mid < e ∧ ¬ e < b) ∨ (mid < e ∧ e < b) by omega) with c1 | ⟨c1, c2⟩ | ⟨c1, c2⟩
          · have gc1 : ¬ (mid : Int) < (e : Int) := by omega
            have Z := Lib.hid (Y.out.none (.inl (by have := E.out; omega)))
            have R3 := R2
            have B3 := B2
            go_wp2_with fail
            go_end0
            exact ⟨rfl, _, R3.out, Z.out.1, Z.out.2, B3.out⟩
          · have gc1 : (mid : Int) < (e : Int) := by omega
            have gc2 : ¬ (e : Int) < (b : Int) := by omega
            have Z := Lib.hid (Y.out.none (.inr (by have := E.out; omega)))
            have R3 := R2
            have B3 := B2
            go_wp2_with fail
            go_end0
            exact ⟨rfl, _, R3.out, Z.out.1, Z.out.2, B3.out⟩
          · have gc1 : (mid : Int) < (e : Int) := by omega
            have gc2 : (e : Int) < (b : Int) := by omega
            have hC3 := Lib.hid (IH.out mid e b wq ds (by omega) R2.out c1 c2 hb Y.out.me Y.out.eb)
            go_wp2_with fail
            go_at_call 49
            with_reducible refine hC3.out.mono ?_
            rintro _ w6 ⟨rfl, es6, r6, re6, so6, b6⟩
            have Z := Lib.hid (Y.out.call re6 so6 (by omega) (by rw [R2.out.1]; omega))
            have R3 := Lib.hid r6
            have B3 := Lib.hid (B2.out.trans b6)
            clear r6 re6 so6 b6
            go_wp2_with fail
            go_end0
            exact ⟨rfl, _, R3.out, Z.out.1, Z.out.2, B3.out⟩
        · have gb1 : (a : Int) < (i : Int) := by omega
          have gb2 : (i : Int) < (mid : Int) := by omega
          have hC2 := Lib.hid (IH.out a i mid wq ds (by omega) R1.out b1 b2 (by omega) X.out.ls X.out.sm)
          go_wp2_with fail
          go_at_call 49
          with_reducible refine hC2.out.mono ?_
          rintro _ w5 ⟨rfl, es5, r5, re5, so5, b5⟩
          have Y := Lib.hid (X.out.call re5 so5 (by have := E.out; omega) (by omega) (by rw [R1.out.1]; omega))
          have R2 := Lib.hid r5
          have B2 := Lib.hid (B1.out.trans b5)
          clear r5 re5 so5 b5
          rcases (show (¬ mid < e) ∨ (mid < e ∧ ¬ e < b) ∨ (mid < e ∧ e < b) by omega) with c1 | ⟨c1, c2⟩ | ⟨c1, c2⟩
          · have gc1 : ¬ (mid : Int) < (e : Int) := by omega
            have Z := Lib.hid (Y.out.none (.inl (by have := E.out; omega)))
            have R3 := R2
            have B3 := B2
            go_wp2_with fail
            go_end0
            exact ⟨rfl, _, R3.out, Z.out.1, Z.out.2, B3.out⟩
          · have gc1 : (mid : Int) < (e : Int) := by omega
            have gc2 : ¬ (e : Int) < (b : Int) := by omega
            have Z := Lib.hid (Y.out.none (.inr (by have := E.out; omega)))
            have R3 := R2
            have B3 := B2
            go_wp2_with fail
            go_end0
            exact ⟨rfl, _, R3.out, Z.out.1, Z.out.2, B3.out⟩
          · have gc1 : (mid : Int) < (e : Int) := by omega
            have gc2 : (e : Int) < (b : Int) := by omega
            have hC3 := Lib.hid (IH.out mid e b w5 es5 (by omega) R2.out c1 c2 hb Y.out.me Y.out.eb)
            go_wp2_with fail
            go_at_call 49
            with_reducible refine hC3.out.mono ?_
            rintro _ w6 ⟨rfl, es6, r6, re6, so6, b6⟩
            have Z := Lib.hid (Y.out.call re6 so6 (by omega) (by rw [R2.out.1]; omega))
            have R3 := Lib.hid r6
            have B3 := Lib.hid (B2.out.trans b6)
            clear r6 re6 so6 b6
            go_wp2_with fail
            go_end0
            exact ⟨rfl, _, R3.out, Z.out.1, Z.out.2, B3.out⟩
      · have ga1 : (i : Int) < (m : Int) := by omega
        have ga2 : ¬ (m : Int) < (e : Int) := by omega
        have X := Lib.hid (q1_none HS1.out HS2.out E.out.2.2.2.1 E.out.1 E.out.2.1 E.out.2.2.1 E.out.2.2.2.2.2.2 HEND.out.1 HEND.out.2 (.inr (by have := E.out; omega)))
        have R1 := HR
        have B1 := HB0
        rcases (show (¬ a < i) ∨ (a < i ∧ ¬ i < mid) ∨ (a < i ∧ i < mid) by omega) with b1 | ⟨b1, b2⟩ | ⟨b1, b2⟩
        · have gb1 : ¬ (a : Int) < (i : Int) := by omega
          have Y := Lib.hid (X.out.none (.inl (by have := E.out; omega)))
          have R2 := R1
          have B2 := B1
          rcases (show (¬ mid < e) ∨ (mid < e ∧ ¬ e < b) ∨ (mid < e ∧ e < b) by omega) with c1 | ⟨c1, c2⟩ | ⟨c1, c2⟩
          · have gc1 : ¬ (mid : Int) < (e : Int) := by omega
            have Z := Lib.hid (Y.out.none (.inl (by have := E.out; omega)))
            have R3 := R2
            have B3 := B2
            go_wp2_with fail
            go_end0
            exact ⟨rfl, _, R3.out, Z.out.1, Z.out.2, B3.out⟩
          · have gc1 : (mid : Int) < (e : Int) := by omega
            have gc2 : ¬ (e : Int) < (b : Int) := by omega
            have Z := Lib.hid (Y.out.none (.inr (by have := E.out; omega)))
            have R3 := R2
            have B3 := B2
            go_wp2_with fail
            go_end0
            exact ⟨rfl, _, R3.out, Z.out.1, Z.out.2, B3.out⟩
          · have gc1 : (mid : Int) < (e : Int) := by omega
            have gc2 : (e : Int) < (b : Int) := by omega
            have hC3 := Lib.hid (IH.out mid e b wq ds (by omega) R2.out c1 c2 hb Y.out.me Y.out.eb)
            go_wp2_with fail
            go_at_call 49
            with_reducible refine hC3.out.mono ?_
            rintro _ w6 ⟨rfl, es6, r6, re6, so6, b6⟩
            have Z := Lib.hid (Y.out.call re6 so6 (by omega) (by rw [R2.out.1]; omega))
            have R3 := Lib.hid r6
            have B3 := Lib.hid (B2.out.trans b6)
            clear r6 re6 so6 b6
            go_wp2_with fail
            go_end0
            exact ⟨rfl, _, R3.out, Z.out.1, Z.out.2, B3.out⟩
        · have gb1 : (a : Int) < (i : Int) := by omega
          have gb2 : ¬ (i : Int) < (mid : Int) := by omega
          have Y := Lib.hid (X.out.none (.inr (by have := E.out; omega)))
          have R2 := R1
          have B2 := B1
          rcases (show (¬ mid < e) ∨ (mid < e ∧ ¬ e < b) ∨ (mid < e ∧ e < b) by omega) with c1 | ⟨c1, c2⟩ | ⟨c1, c2⟩
          · have gc1 : ¬ (mid : Int) < (e : Int) := by omega
            have Z := Lib.hid (Y.out.none (.inl (by have := E.out; omega)))
            have R3 := R2
            have B3 := B2
            go_wp2_with fail
            go_end0
            exact ⟨rfl, _, R3.out, Z.out.1, Z.out.2, B3.out⟩
          · have gc1 : (mid : Int) < (e : Int) := by omega
            have gc2 : ¬ (e : Int) < (b : Int) := by omega
            have Z := Lib.hid (Y.out.none (.inr (by have := E.out; omega)))
            have R3 := R2
            have B3 := B2
            go_wp2_with fail
            go_end0
            exact ⟨rfl, _, R3.out, Z.out.1, Z.out.2, B3.out⟩
          · have gc1 : (mid : Int) < (e : Int) := by omega
            have gc2 : (e : Int) < (b : Int) := by omega
            have hC3 := Lib.hid (IH.out mid e b wq ds (by omega) R2.out c1 c2 hb Y.out.me Y.out.eb)
            go_wp2_with fail
            go_at_call 49
            with_reducible refine hC3.out.mono ?_
            rintro _ w6 ⟨rfl, es6, r6, re6, so6, b6⟩
            have Z := Lib.hid (Y.out.call re6 so6 (by omega) (by rw [R2.out.1]; omega))
            have R3 := Lib.hid r6
            have B3 := Lib.hid (B2.out.trans b6)
            clear r6 re6 so6 b6
            go_wp2_with fail
            go_end0
            exact ⟨rfl, _, R3.out, Z.out.1, Z.out.2, B3.out⟩
        · have gb1 : (a : Int) < (i : Int) := by omega
          have gb2 : (i : Int) < (mid : Int) := by omega
          have hC2 := Lib.hid (IH.out a i mid wq ds (by omega) R1.out b1 b2 (by omega) X.out.ls X.out.sm)
          go_wp2_with fail
          go_at_call 49
          with_reducible refine hC2.out.mono ?_
          rintro _ w5 ⟨rfl, es5, r5, re5, so5, b5⟩
          have Y := Lib.hid (X.out.call re5 so5 (by have := E.out; omega) (by omega) (by rw [R1.out.1]; omega))
          have R2 := Lib.hid r5
          have B2 := Lib.hid (B1.out.trans b5)
          clear r5 re5 so5 b5
          rcases (show (¬ mid < e) ∨ (mid < e ∧ ¬ e < b) ∨ (mid < e ∧ e < b) by omega) with c1 | ⟨c1, c2⟩ | ⟨c1, c2⟩
          · have gc1 : ¬ (mid : Int) < (e : Int) := by omega
            have Z := Lib.hid (Y.out.none (.inl (by have := E.out; omega)))
            have R3 := R2
            have B3 := B2
            go_wp2_with fail
            go_end0
            exact ⟨rfl, _, R3.out, Z.out.1, Z.out.2, B3.out⟩
          · have gc1 : (mid : Int) < (e : Int) := by omega
            have gc2 : ¬ (e : Int) < (b : Int) := by omega
            have Z := Lib.hid (Y.out.none (.inr (by have := E.out; omega)))
            have R3 := R2
            have B3 := B2
            go_wp2_with fail
            go_end0
            exact ⟨rfl, _, R3.out, Z.out.1, Z.out.2, B3.out⟩
          · have gc1 : (mid : Int) < (e : Int) := by omega
            have gc2 : (e : Int) < (b : Int) := by omega
            have hC3 := Lib.hid (IH.out mid e b w5 es5 (by omega) R2.out c1 c2 hb Y.out.me Y.out.eb)
            go_wp2_with fail
            go_at_call 49
            with_reducible refine hC3.out.mono ?_
            rintro _ w6 ⟨rfl, es6, r6, re6, so6, b6⟩
            have Z := Lib.hid (Y.out.call re6 so6 (by omega) (by rw [R2.out.1]; omega))
            have R3 := Lib.hid r6
            have B3 := Lib.hid (B2.out.trans b6)
            clear r6 re6 so6 b6
            go_wp2_with fail
            go_end0
            exact ⟨rfl, _, R3.out, Z.out.1, Z.out.2, B3.out⟩
      · have ga1 : (i : Int) < (m : Int) := by omega
        have ga2 : (m : Int) < (e : Int) := by omega
        have hC1 := Lib.hid (rotate_any base g n cap i m e (.func (.func 34) #[] #[]) wq ds HR.out a1 a2 (by have := E.out; omega) hn)
        go_wp2_with fail
        go_at_call 55
        with_reducible refine hC1.out.mono ?_
        rintro _ w4 ⟨rfl, es4, r4, re4, hat4, b4⟩
        have X := Lib.hid (q1_rot HS1.out HS2.out E.out.2.2.2.1 E.out.1 E.out.2.1 E.out.2.2.1 E.out.2.2.2.2.2.2 HEND.out.1 HEND.out.2 re4 hat4)
        have R1 := Lib.hid r4
        have B1 := Lib.hid (HB0.out.trans b4)
        clear r4 re4 hat4 b4
        rcases (show (¬ a < i) ∨ (a < i ∧ ¬ i < mid) ∨ (a < i ∧ i < mid) by omega) with b1 | ⟨b1, b2⟩ | ⟨b1, b2⟩
        · have gb1 : ¬ (a : Int) < (i : Int) := by omega
          have Y := Lib.hid (X.out.none (.inl (by have := E.out; omega)))
          have R2 := R1
          have B2 := B1
          rcases (show (¬ mid < e) ∨ (mid < e ∧ ¬ e < b) ∨ (mid < e ∧ e < b) by omega) with c1 | ⟨c1, c2⟩ | ⟨c1, c2⟩
          · have gc1 : ¬ (mid : Int) < (e : Int) := by omega
            have Z := Lib.hid (Y.out.none (.inl (by have := E.out; omega)))
            have R3 := R2
            have B3 := B2
            go_wp2_with fail
            go_end0
            exact ⟨rfl, _, R3.out, Z.out.1, Z.out.2, B3.out⟩
          · have gc1 : (mid : Int) < (e : Int) := by omega
            have gc2 : ¬ (e : Int) < (b : Int) := by omega
            have Z := Lib.hid (Y.out.none (.inr (by have := E.out; omega)))
            have R3 := R2
            have B3 := B2
            go_wp2_with fail
            go_end0
            exact ⟨rfl, _, R3.out, Z.out.1, Z.out.2, B3.out⟩
          · have gc1 : (mid : Int) < (e : Int) := by omega
            have gc2 : (e : Int) < (b : Int) := by omega
            have hC3 := Lib.hid (IH.out mid e b w4 es4 (by omega) R2.out c1 c2 hb Y.out.me Y.out.eb)
            go_wp2_with fail
            go_at_call 49
            with_reducible refine hC3.out.mono ?_
            rintro _ w6 ⟨rfl, es6, r6, re6, so6, b6⟩
            have Z := Lib.hid (Y.out.call re6 so6 (by omega) (by rw [R2.out.1]; omega))
            have R3 := Lib.hid r6
            have B3 := Lib.hid (B2.out.trans b6)
            clear r6 re6 so6 b6
            go_wp2_with fail
            go_end0
            exact ⟨rfl, _, R3.out, Z.out.1, Z.out.2, B3.out⟩
        · have gb1 : (a : Int) < (i : Int) := by omega
          have gb2 : ¬ (i : Int) < (mid : Int) := by omega
          have Y := Lib.hid (X.out.none (.inr (by have := E.out; omega)))
          have R2 := R1
          have B2 := B1
          rcases (show (¬ mid < e) ∨ (mid < e ∧ ¬ e < b) ∨ (mid < e ∧ e < b) by omega) with c1 | ⟨c1, c2⟩ | ⟨c1, c2⟩
          · have gc1 : ¬ (mid : Int) < (e : Int) := by omega
            have Z := Lib.hid (Y.out.none (.inl (by have := E.out; omega)))
            have R3 := R2
            have B3 := B2
            go_wp2_with fail
            go_end0
            exact ⟨rfl, _, R3.out, Z.out.1, Z.out.2, B3.out⟩
          · have gc1 : (mid : Int) < (e : Int) := by omega
            have gc2 : ¬ (e : Int) < (b : Int) := by omega
            have Z := Lib.hid (Y.out.none (.inr (by have := E.out; omega)))
            have R3 := R2
            have B3 := B2
            go_wp2_with fail
            go_end0
            exact ⟨rfl, _, R3.out, Z.out.1, Z.out.2, B3.out⟩
          · have gc1 : (mid : Int) < (e : Int) := by omega
            have gc2 : (e : Int) < (b : Int) := by omega
            have hC3 := Lib.hid (IH.out mid e b w4 es4 (by omega) R2.out c1 c2 hb Y.out.me Y.out.eb)
            go_wp2_with fail
            go_at_call 49
            with_reducible refine hC3.out.mono ?_
            rintro _ w6 ⟨rfl, es6, r6, re6, so6, b6⟩
            have Z := Lib.hid (Y.out.call re6 so6 (by omega) (by rw [R2.out.1]; omega))
            have R3 := Lib.hid r6
            have B3 := Lib.hid (B2.out.trans b6)
            clear r6 re6 so6 b6
            go_wp2_with fail
            go_end0
            exact ⟨rfl, _, R3.out, Z.out.1, Z.out.2, B3.out⟩
        · have gb1 : (a : Int) < (i : Int) := by omega
          have gb2 : (i : Int) < (mid : Int) := by omega
          have hC2 := Lib.hid (IH.out a i mid w4 es4 (by omega) R1.out b1 b2 (by omega) X.out.ls X.out.sm)
          go_wp2_with fail
          go_at_call 49
          with_reducible refine hC2.out.mono ?_
          rintro _ w5 ⟨rfl, es5, r5, re5, so5, b5⟩
          have Y := Lib.hid (X.out.call re5 so5 (by have := E.out; omega) (by omega) (by rw [R1.out.1]; omega))
          have R2 := Lib.hid r5
          have B2 := Lib.hid (B1.out.trans b5)
          clear r5 re5 so5 b5
          rcases (show (¬ mid < e) ∨ (mid < e ∧ ¬ e < b) ∨ (mid < e ∧ e < b) by omega) with c1 | ⟨c1, c2⟩ | ⟨c1, c2⟩
          · have gc1 : ¬ (mid : Int) < (e : Int) := by omega
            have Z := Lib.hid (Y.out.none (.inl (by have := E.out; omega)))
            have R3 := R2
            have B3 := B2
            go_wp2_with fail
            go_end0
            exact ⟨rfl, _, R3.out, Z.out.1, Z.out.2, B3.out⟩
          · have gc1 : (mid : Int) < (e : Int) := by omega
            have gc2 : ¬ (e : Int) < (b : Int) := by omega
            have Z := Lib.hid (Y.out.none (.inr (by have := E.out; omega)))
            have R3 := R2
            have B3 := B2
            go_wp2_with fail
            go_end0
            exact ⟨rfl, _, R3.out, Z.out.1, Z.out.2, B3.out⟩
          · have gc1 : (mid : Int) < (e : Int) := by omega
            have gc2 : (e : Int) < (b : Int) := by omega
            have hC3 := Lib.hid (IH.out mid e b w5 es5 (by omega) R2.out c1 c2 hb Y.out.me Y.out.eb)
            go_wp2_with fail
            go_at_call 49
            with_reducible refine hC3.out.mono ?_
            rintro _ w6 ⟨rfl, es6, r6, re6, so6, b6⟩
            have Z := Lib.hid (Y.out.call re6 so6 (by omega) (by rw [R2.out.1]; omega))
            have R3 := Lib.hid r6
            have B3 := Lib.hid (B2.out.trans b6)
            clear r6 re6 so6 b6
            go_wp2_with fail
            go_end0
            exact ⟨rfl, _, R3.out, Z.out.1, Z.out.2, B3.out⟩
end Go.Proofs.YtalopkplpbdgjaaDoor
