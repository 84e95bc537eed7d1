/- The document's own escape: a font. -/
import Derived.Test.YtgfmpndojjopnaaEm
namespace Go.Proofs.Ytgfmpndojjopnaa
open Go.RowKit
attribute [local go_sem ↓ high] builtin_appT builtin_appDg
section
variable {base : Nat} {w : World} {lv : Value} {L : List Int} {tv dv : Value} {T : List Tok} {D : List Dg} {W : World}
set_option maxRecDepth 100000 in
set_option maxHeartbeats 4000000 in
theorem resc_font_none (q : Nat) (d : Int) (w : World) (hs : Sl .i32 w lv L) (ht : TOwn base w tv T) (hd : DOwn base w dv D) (hb : base ≤ w.heap.size) (hq : L[q]? = some d) (hq1 : 1 ≤ q) (hL : L.length ≤ 2000) (hTl : T.length ≤ 2000) (hDl : D.length ≤ 2000) (hsim : simC d = none)
    (hx : d = 102) (hzr : ∀ z ∈ L, -2147483648 ≤ z ∧ z ≤ 2147483647) (hn : nameL (L.drop (q + 1)) = none) :
    Calls Try.prog 32 #[.agg #[tv, dv], lv, .int .i64 (q : Int)] w (REnd base w tv dv T (D ++ dgs (q - 1) [1]) L.length) := by
  have HX := Lib.hid (Lp.start hs ht hd)
  have HN1 := Lib.hid (fun b (hb : w.heap.size ≤ b) => own_block ht hb)
  have HN2 := Lib.hid (fun b (hb : w.heap.size ≤ b) => own_block hd hb)
  have hlt := (List.getElem?_eq_some_iff.1 hq).1
  have HRN := Lib.hid (fun W (h : Sl .i32 W lv L) => rnm_any L lv (q + 1) W h (by omega) hL hzr)
  rw [hn] at HRN
  clear hn hzr
  obtain ⟨a, cap, rfl⟩ := hs.len
  obtain ⟨ta, tc, hx1⟩ := (FOwn.sl tcell_len ht).len
  obtain ⟨da, dc, hx2⟩ := (FOwn.sl dcell_len hd).len
  obtain ⟨g, off, rfl, c5⟩ := hs.at hq
  obtain ⟨p, rfl⟩ : ∃ p, q = p + 1 := ⟨q - 1, by omega⟩
  try simp only [Nat.add_sub_cancel]
  obtain ⟨N, hN⟩ : ∃ N, L.length = N := ⟨_, rfl⟩
  rw [hN] at HX HRN hlt hL ⊢
  obtain ⟨W3, hW3⟩ : ∃ W3, ((((w.alloc (.cells #[tv, dv] 67)).alloc (.cells #[.slice none 0 0, .slice none 0 0] 67)).alloc (.cells #[.int .i32 92, .int .i32 101, .int .i32 45, .int .i32 46, .int .i32 39, .int .i32 96, .int .i32 32, .int .i32 126, .int .i32 48] 21)).alloc (.cells #[.int .i32 92, .int .i32 92, .int .i32 45, .int .i32 46, .int .i32 180, .int .i32 96, .int .i32 160, .int .i32 160, .int .i32 160] 21)) = W3 := ⟨_, rfl⟩
  rw [hW3] at HX
  subst hx1 hx2
  have HW3 := Lib.hid hW3
  have HQ := Lib.hid hb
  have HHQ := Lib.hid hq
  have HXX := Lib.hid hsim
  have HLN := Lib.hid hN
  have hz : ¬ (N : Int) ≤ (p : Int) + 1 := by omega
  have hz0 : (p : Int) + 1 < (N : Int) := by omega
  have hz1 : (0 : Int) ≤ (p : Int) := by omega
  have hz2 : (p : Int) + 1 ≤ 2000 := by omega
  clear hW3 hs ht hd hN hq hb hsim
  go_enter Try.func32, Try.ntmps32
  go_wp2_with fail
  rw [HW3.out]
  go_loopw [11] (fun i wr => ∃ j : Nat, j ≤ 9 ∧ i = .int .i64 j ∧ Below W3.heap.size W3 wr ∧ smLook (smTab.drop j) d = none) (fun i _ => 9 - (intOf i).toNat)
  case atStart => exact ⟨0, by omega, rfl, Below.refl _ _, by rw [List.drop_zero, ← simC_tab]; exact HXX.out⟩
  case round =>
    obtain ⟨j, hj, rfl, hbw, hl⟩ := hrel
    have HL := Lib.hid hl
    have HXW := Lib.hid (HX.out.keep hbw)
    have HBW := Lib.hid hbw
    clear hl hbw c5
    obtain ⟨g', off', he, c50⟩ := (HXW.out.rx.s).at HHQ.out
    cases he
    have c5 : wr.cell? ⟨g, off + (p + 1), none⟩ = some (.int .i32 d) := c50
    clear c50
    by_cases hlt9 : j < 9
    · obtain ⟨y, hp⟩ : ∃ y, smTab[j]? = some y := ⟨smTab[j]'(by simpa [smTab] using hlt9), List.getElem?_eq_getElem _⟩
      have c6 := HXW.out.plain hp
      have hi0 : (j : Int) < 9 := by omega
      have hi1 : (0 : Int) ≤ (j : Int) := by omega
      by_cases he : y.1 = d
      · have := HL.out
        rw [← he, smLook_hit hp] at this
        cases this
      · have hnx := Lib.hid (show smLook (smTab.drop (j + 1)) d = none by rw [← smLook_miss hp he]; exact HL.out)
        have hdq : (d == y.1) = false := by simpa using fun h : d = y.1 => he h.symm
        clear hp he
        go_wp2_with fail
        go_quiet (fail)
        go_wp2
        go_roundw
        case rel => exact ⟨j + 1, by omega, by go_num, below_drewN HBW.out _, hnx.out⟩
        case measure => simp [intOf]; omega
    · obtain rfl : j = 9 := by omega
      have c8 : wr.cell? ⟨w.heap.size, 0, none⟩ = some (.slice ta T.length tc) := HXW.out.rx.b0.cell 0
      have c9 : wr.cell? ⟨w.heap.size, 1, none⟩ = some (.slice da D.length dc) := HXW.out.rx.b0.cell 1
      subst hx
      have HR1 : Hid (Calls Try.prog 41 #[.slice (some ⟨g, off, none⟩) N cap, .int .i64 ((p : Int) + 1 + 1)] wr (RnEnd wr (p + 1 + 1) (none))) := Lib.hid (HRN.out wr HXW.out.rx.s)
      clear HL HBW HX HXX HRN
      go_wp2_with fail
      refine HR1.out.mono ?_
      rintro e w4 ⟨rfl, b4⟩
      have HX4 := Lib.hid (HXW.out.keep b4)
      have c84 : w4.cell? ⟨w.heap.size, 0, none⟩ = some (.slice ta T.length tc) := HX4.out.rx.b0.cell 0
      have c94 : w4.cell? ⟨w.heap.size, 1, none⟩ = some (.slice da D.length dc) := HX4.out.rx.b0.cell 1
      have HC := Lib.hid (tell_any base _ _ 1 p T D w4 HX4.out.rx.t HX4.out.rx.d (by have := HX4.out.rx.big; have := HQ.out; omega) (by omega) (by omega))
      clear b4 HR1 c8 c9 c5 HXW
      go_wp2_with fail
      refine HC.out.mono ?_
      rintro e w5 ⟨tv', dv', rfl, ht', hd', hbl, hsz, hk⟩
      have HF := HX4.out.rx.fin HQ.out ht' hd' hbl hsz hk
      obtain ⟨ta', tc', hx1⟩ := (FOwn.sl tcell_len ht').len
      obtain ⟨da', dc', hx2⟩ := (FOwn.sl dcell_len hd').len
      obtain ⟨m, hm⟩ : ∃ m, (D ++ dgs p [1]).length = m := ⟨_, rfl⟩
      rw [hm] at hx2
      subst hx1 hx2
      have q0 := HF.c0
      have q1 := HF.c1
      have f0 := HF.f0
      have f1 := HF.f1
      have HR := Lib.hid (HF.fin (N))
      clear HC ht' hd' hbl hsz hk hm HF c84 c94
      go_wp2_with fail
      exact bodyPost_ret (v := .tuple #[.agg #[.slice ta' T.length tc', .slice da' m dc'], .int .i64 (N : Int)]) (by simp [results, Try.results32, go_sem, q0, q1]) rfl HR.out

set_option maxRecDepth 100000 in
set_option maxHeartbeats 4000000 in
theorem resc_font_bad (q : Nat) (d : Int) (w : World) (hs : Sl .i32 w lv L) (ht : TOwn base w tv T) (hd : DOwn base w dv D) (hb : base ≤ w.heap.size) (hq : L[q]? = some d) (hq1 : 1 ≤ q) (hL : L.length ≤ 2000) (hTl : T.length ≤ 2000) (hDl : D.length ≤ 2000) (hsim : simC d = none)
    (hx : d = 102) (hzr : ∀ z ∈ L, -2147483648 ≤ z ∧ z ≤ 2147483647) {n : List Int} {k : Nat} (hn : nameL (L.drop (q + 1)) = some (n, k)) (ho : ftOf (enc n) = none) :
    Calls Try.prog 32 #[.agg #[tv, dv], lv, .int .i64 (q : Int)] w (REnd base w tv dv T (D ++ dgs (q - 1) [2]) ((q + 1) + k)) := by
  have HX := Lib.hid (Lp.start hs ht hd)
  have HN1 := Lib.hid (fun b (hb : w.heap.size ≤ b) => own_block ht hb)
  have HN2 := Lib.hid (fun b (hb : w.heap.size ≤ b) => own_block hd hb)
  have hlt := (List.getElem?_eq_some_iff.1 hq).1
  have hkl := nameL_le hn
  have hnl := nameL_some_len hn
  rw [List.length_drop] at hkl hnl
  have hel := enc_len n
  have HRN := Lib.hid (fun W (h : Sl .i32 W lv L) => rnm_some L lv (q + 1) W h (by omega) hL hzr hn)
  clear hn hzr
  obtain ⟨b, hbn⟩ : ∃ b, enc n = b := ⟨_, rfl⟩
  rw [hbn] at ho hel HRN
  clear hbn
  obtain ⟨nx, hnx⟩ : ∃ nx, (q + 1) + k = nx := ⟨_, rfl⟩
  rw [hnx] at HRN ⊢
  have hnxb : nx ≤ 5000 := by omega
  have hbl : b.length ≤ 100000 := by omega
  have HO := Lib.hid ho
  clear hnx hkl hnl hel ho
  obtain ⟨a, cap, rfl⟩ := hs.len
  obtain ⟨ta, tc, hx1⟩ := (FOwn.sl tcell_len ht).len
  obtain ⟨da, dc, hx2⟩ := (FOwn.sl dcell_len hd).len
  obtain ⟨g, off, rfl, c5⟩ := hs.at hq
  obtain ⟨p, rfl⟩ : ∃ p, q = p + 1 := ⟨q - 1, by omega⟩
  try simp only [Nat.add_sub_cancel]
  obtain ⟨N, hN⟩ : ∃ N, L.length = N := ⟨_, rfl⟩
  rw [hN] at HX HRN hlt hL ⊢
  obtain ⟨W3, hW3⟩ : ∃ W3, ((((w.alloc (.cells #[tv, dv] 67)).alloc (.cells #[.slice none 0 0, .slice none 0 0] 67)).alloc (.cells #[.int .i32 92, .int .i32 101, .int .i32 45, .int .i32 46, .int .i32 39, .int .i32 96, .int .i32 32, .int .i32 126, .int .i32 48] 21)).alloc (.cells #[.int .i32 92, .int .i32 92, .int .i32 45, .int .i32 46, .int .i32 180, .int .i32 96, .int .i32 160, .int .i32 160, .int .i32 160] 21)) = W3 := ⟨_, rfl⟩
  rw [hW3] at HX
  subst hx1 hx2
  have HW3 := Lib.hid hW3
  have HQ := Lib.hid hb
  have HHQ := Lib.hid hq
  have HXX := Lib.hid hsim
  have HLN := Lib.hid hN
  have hz : ¬ (N : Int) ≤ (p : Int) + 1 := by omega
  have hz0 : (p : Int) + 1 < (N : Int) := by omega
  have hz1 : (0 : Int) ≤ (p : Int) := by omega
  have hz2 : (p : Int) + 1 ≤ 2000 := by omega
  clear hW3 hs ht hd hN hq hb hsim
  go_enter Try.func32, Try.ntmps32
  go_wp2_with fail
  rw [HW3.out]
  go_loopw [11] (fun i wr => ∃ j : Nat, j ≤ 9 ∧ i = .int .i64 j ∧ Below W3.heap.size W3 wr ∧ smLook (smTab.drop j) d = none) (fun i _ => 9 - (intOf i).toNat)
  case atStart => exact ⟨0, by omega, rfl, Below.refl _ _, by rw [List.drop_zero, ← simC_tab]; exact HXX.out⟩
  case round =>
    obtain ⟨j, hj, rfl, hbw, hl⟩ := hrel
    have HL := Lib.hid hl
    have HXW := Lib.hid (HX.out.keep hbw)
    have HBW := Lib.hid hbw
    clear hl hbw c5
    obtain ⟨g', off', he, c50⟩ := (HXW.out.rx.s).at HHQ.out
    cases he
    have c5 : wr.cell? ⟨g, off + (p + 1), none⟩ = some (.int .i32 d) := c50
    clear c50
    by_cases hlt9 : j < 9
    · obtain ⟨y, hp⟩ : ∃ y, smTab[j]? = some y := ⟨smTab[j]'(by simpa [smTab] using hlt9), List.getElem?_eq_getElem _⟩
      have c6 := HXW.out.plain hp
      have hi0 : (j : Int) < 9 := by omega
      have hi1 : (0 : Int) ≤ (j : Int) := by omega
      by_cases he : y.1 = d
      · have := HL.out
        rw [← he, smLook_hit hp] at this
        cases this
      · have hnx := Lib.hid (show smLook (smTab.drop (j + 1)) d = none by rw [← smLook_miss hp he]; exact HL.out)
        have hdq : (d == y.1) = false := by simpa using fun h : d = y.1 => he h.symm
        clear hp he
        go_wp2_with fail
        go_quiet (fail)
        go_wp2
        go_roundw
        case rel => exact ⟨j + 1, by omega, by go_num, below_drewN HBW.out _, hnx.out⟩
        case measure => simp [intOf]; omega
    · obtain rfl : j = 9 := by omega
      have c8 : wr.cell? ⟨w.heap.size, 0, none⟩ = some (.slice ta T.length tc) := HXW.out.rx.b0.cell 0
      have c9 : wr.cell? ⟨w.heap.size, 1, none⟩ = some (.slice da D.length dc) := HXW.out.rx.b0.cell 1
      subst hx
      have HR1 : Hid (Calls Try.prog 41 #[.slice (some ⟨g, off, none⟩) N cap, .int .i64 ((p : Int) + 1 + 1)] wr fun e w' => e = .returned (.tuple #[.string ⟨b.toArray⟩, .int .i64 (nx : Int)]) ∧ Below wr.heap.size wr w') := Lib.hid (HRN.out wr HXW.out.rx.s)
      have HNM := Lib.hid (fun W => rfontS_any b W (by omega))
      rw [HO.out] at HNM
      have hnx2 : (nx : Int) ≤ 5000 := by omega
      have hnx0 : ¬ (nx : Int) < 0 := by omega
      simp only [Option.getD_none] at HNM
      clear HL HBW HX HXX HRN HO
      go_wp2_with fail
      refine HR1.out.mono ?_
      rintro e w4 ⟨rfl, b4⟩
      have HX4 := Lib.hid (HXW.out.keep b4)
      clear b4 HR1 c8 c9 c5 HXW
      go_wp2_with fail
      refine (HNM.out w4).mono ?_
      rintro e w5 ⟨rfl, b5⟩
      have HX5 := Lib.hid (HX4.out.keep b5)
      have c85 : w5.cell? ⟨w.heap.size, 0, none⟩ = some (.slice ta T.length tc) := HX5.out.rx.b0.cell 0
      have c95 : w5.cell? ⟨w.heap.size, 1, none⟩ = some (.slice da D.length dc) := HX5.out.rx.b0.cell 1
      clear b5 HX4
      have HC := Lib.hid (tell_any base _ _ 2 p T D w5 HX5.out.rx.t HX5.out.rx.d (by have := HX5.out.rx.big; have := HQ.out; omega) (by omega) (by omega))
      clear HNM
      go_wp2_with fail
      refine HC.out.mono ?_
      rintro e w5 ⟨tv', dv', rfl, ht', hd', hbl, hsz, hk⟩
      have HF := HX5.out.rx.fin HQ.out ht' hd' hbl hsz hk
      obtain ⟨ta', tc', hx1⟩ := (FOwn.sl tcell_len ht').len
      obtain ⟨da', dc', hx2⟩ := (FOwn.sl dcell_len hd').len
      obtain ⟨m, hm⟩ : ∃ m, (D ++ dgs p [2]).length = m := ⟨_, rfl⟩
      rw [hm] at hx2
      subst hx1 hx2
      have q0 := HF.c0
      have q1 := HF.c1
      have f0 := HF.f0
      have f1 := HF.f1
      have HR := Lib.hid (HF.fin (nx))
      clear HC ht' hd' hbl hsz hk hm HF c85 c95
      go_wp2_with fail
      exact bodyPost_ret (v := .tuple #[.agg #[.slice ta' T.length tc', .slice da' m dc'], .int .i64 (nx : Int)]) (by simp [results, Try.results32, go_sem, q0, q1]) rfl HR.out

set_option maxRecDepth 100000 in
set_option maxHeartbeats 8000000 in
theorem resc_font_good (q : Nat) (d : Int) (w : World) (hs : Sl .i32 w lv L) (ht : TOwn base w tv T) (hd : DOwn base w dv D) (hb : base ≤ w.heap.size) (hq : L[q]? = some d) (hq1 : 1 ≤ q) (hL : L.length ≤ 2000) (hTl : T.length ≤ 2000) (hDl : D.length ≤ 2000) (hsim : simC d = none)
    (hx : d = 102) (hzr : ∀ z ∈ L, -2147483648 ≤ z ∧ z ≤ 2147483647) {n : List Int} {k : Nat} (hn : nameL (L.drop (q + 1)) = some (n, k)) {x : Int} (ho : ftOf (enc n) = some x) :
    Calls Try.prog 32 #[.agg #[tv, dv], lv, .int .i64 (q : Int)] w (REnd base w tv dv (T ++ [(3, x)]) D ((q + 1) + k)) := by
  have HX := Lib.hid (Lp.start hs ht hd)
  have HN1 := Lib.hid (fun b (hb : w.heap.size ≤ b) => own_block ht hb)
  have HN2 := Lib.hid (fun b (hb : w.heap.size ≤ b) => own_block hd hb)
  have hlt := (List.getElem?_eq_some_iff.1 hq).1
  have hkl := nameL_le hn
  obtain ⟨hx0, hx1⟩ := ftOf_bd ho
  have hnl := nameL_some_len hn
  rw [List.length_drop] at hkl hnl
  have hel := enc_len n
  have HRN := Lib.hid (fun W (h : Sl .i32 W lv L) => rnm_some L lv (q + 1) W h (by omega) hL hzr hn)
  clear hn hzr
  obtain ⟨b, hbn⟩ : ∃ b, enc n = b := ⟨_, rfl⟩
  rw [hbn] at ho hel HRN
  clear hbn
  obtain ⟨nx, hnx⟩ : ∃ nx, (q + 1) + k = nx := ⟨_, rfl⟩
  rw [hnx] at HRN ⊢
  have hnxb : nx ≤ 5000 := by omega
  have hbl : b.length ≤ 100000 := by omega
  have HO := Lib.hid ho
  clear hnx hkl hnl hel ho
  obtain ⟨a, cap, rfl⟩ := hs.len
  obtain ⟨ta, tc, hx1⟩ := (FOwn.sl tcell_len ht).len
  obtain ⟨da, dc, hx2⟩ := (FOwn.sl dcell_len hd).len
  obtain ⟨g, off, rfl, c5⟩ := hs.at hq
  obtain ⟨p, rfl⟩ : ∃ p, q = p + 1 := ⟨q - 1, by omega⟩
  try simp only [Nat.add_sub_cancel]
  obtain ⟨N, hN⟩ : ∃ N, L.length = N := ⟨_, rfl⟩
  rw [hN] at HX HRN hlt hL ⊢
  obtain ⟨W3, hW3⟩ : ∃ W3, ((((w.alloc (.cells #[tv, dv] 67)).alloc (.cells #[.slice none 0 0, .slice none 0 0] 67)).alloc (.cells #[.int .i32 92, .int .i32 101, .int .i32 45, .int .i32 46, .int .i32 39, .int .i32 96, .int .i32 32, .int .i32 126, .int .i32 48] 21)).alloc (.cells #[.int .i32 92, .int .i32 92, .int .i32 45, .int .i32 46, .int .i32 180, .int .i32 96, .int .i32 160, .int .i32 160, .int .i32 160] 21)) = W3 := ⟨_, rfl⟩
  rw [hW3] at HX
  subst hx1 hx2
  have HW3 := Lib.hid hW3
  have HQ := Lib.hid hb
  have HHQ := Lib.hid hq
  have HXX := Lib.hid hsim
  have HLN := Lib.hid hN
  have hz : ¬ (N : Int) ≤ (p : Int) + 1 := by omega
  have hz0 : (p : Int) + 1 < (N : Int) := by omega
  have hz1 : (0 : Int) ≤ (p : Int) := by omega
  have hz2 : (p : Int) + 1 ≤ 2000 := by omega
  clear hW3 hs ht hd hN hq hb hsim
  go_enter Try.func32, Try.ntmps32
  go_wp2_with fail
  rw [HW3.out]
  go_loopw [11] (fun i wr => ∃ j : Nat, j ≤ 9 ∧ i = .int .i64 j ∧ Below W3.heap.size W3 wr ∧ smLook (smTab.drop j) d = none) (fun i _ => 9 - (intOf i).toNat)
  case atStart => exact ⟨0, by omega, rfl, Below.refl _ _, by rw [List.drop_zero, ← simC_tab]; exact HXX.out⟩
  case round =>
    obtain ⟨j, hj, rfl, hbw, hl⟩ := hrel
    have HL := Lib.hid hl
    have HXW := Lib.hid (HX.out.keep hbw)
    have HBW := Lib.hid hbw
    clear hl hbw c5
    obtain ⟨g', off', he, c50⟩ := (HXW.out.rx.s).at HHQ.out
    cases he
    have c5 : wr.cell? ⟨g, off + (p + 1), none⟩ = some (.int .i32 d) := c50
    clear c50
    by_cases hlt9 : j < 9
    · obtain ⟨y, hp⟩ : ∃ y, smTab[j]? = some y := ⟨smTab[j]'(by simpa [smTab] using hlt9), List.getElem?_eq_getElem _⟩
      have c6 := HXW.out.plain hp
      have hi0 : (j : Int) < 9 := by omega
      have hi1 : (0 : Int) ≤ (j : Int) := by omega
      by_cases he : y.1 = d
      · have := HL.out
        rw [← he, smLook_hit hp] at this
        cases this
      · have hnx := Lib.hid (show smLook (smTab.drop (j + 1)) d = none by rw [← smLook_miss hp he]; exact HL.out)
        have hdq : (d == y.1) = false := by simpa using fun h : d = y.1 => he h.symm
        clear hp he
        go_wp2_with fail
        go_quiet (fail)
        go_wp2
        go_roundw
        case rel => exact ⟨j + 1, by omega, by go_num, below_drewN HBW.out _, hnx.out⟩
        case measure => simp [intOf]; omega
    · obtain rfl : j = 9 := by omega
      have c8 : wr.cell? ⟨w.heap.size, 0, none⟩ = some (.slice ta T.length tc) := HXW.out.rx.b0.cell 0
      have c9 : wr.cell? ⟨w.heap.size, 1, none⟩ = some (.slice da D.length dc) := HXW.out.rx.b0.cell 1
      subst hx
      have HR1 : Hid (Calls Try.prog 41 #[.slice (some ⟨g, off, none⟩) N cap, .int .i64 ((p : Int) + 1 + 1)] wr fun e w' => e = .returned (.tuple #[.string ⟨b.toArray⟩, .int .i64 (nx : Int)]) ∧ Below wr.heap.size wr w') := Lib.hid (HRN.out wr HXW.out.rx.s)
      have HNM := Lib.hid (fun W => rfontS_any b W (by omega))
      rw [HO.out] at HNM
      have hnx2 : (nx : Int) ≤ 5000 := by omega
      have hnx0 : ¬ (nx : Int) < 0 := by omega
      simp only [Option.getD_some] at HNM
      clear HL HBW HX HXX HRN HO
      go_wp2_with fail
      refine HR1.out.mono ?_
      rintro e w4 ⟨rfl, b4⟩
      have HX4 := Lib.hid (HXW.out.keep b4)
      clear b4 HR1 c8 c9 c5 HXW
      go_wp2_with fail
      refine (HNM.out w4).mono ?_
      rintro e w5 ⟨rfl, b5⟩
      have HX5 := Lib.hid (HX4.out.keep b5)
      have c85 : w5.cell? ⟨w.heap.size, 0, none⟩ = some (.slice ta T.length tc) := HX5.out.rx.b0.cell 0
      have c95 : w5.cell? ⟨w.heap.size, 1, none⟩ = some (.slice da D.length dc) := HX5.out.rx.b0.cell 1
      clear b5 HX4
      have hx9 : ¬ x < 0 := by omega
      have hwx : IntKind.i32.wrap x = x := IntWalk.i32_in _ (by omega)
      have HS := Lib.hid (fun W (h : Below w5.heap.size w5 W) => say_any base _ _ 3 x T D W (HX5.out.keep h).rx.t (HX5.out.keep h).rx.d (by have := (HX5.out.keep h).rx.big; have := HQ.out; omega) (by omega))
      go_wp2_with fail
      go_region_held3 (fun W' => W'.cell? ⟨w.heap.size, 0, none⟩ = some (.slice ta T.length tc) ∧ W'.cell? ⟨w.heap.size, 1, none⟩ = some (.slice da D.length dc))
        (first | assumption | go_keep)
        ((first
          | (go_at_call 43; (with_reducible refine (HNM.out _).mono ?_); rintro e w6 ⟨rfl, b6⟩; have B6 : Hid (Below w5.heap.size w5 w6) := Lib.hid ((Below.refl _ w5).drew.trans b6); have k8 := ((HX5.out.keep B6.out).rx.b0.cell 0); have k9 := ((HX5.out.keep B6.out).rx.b0.cell 1); clear b6)
          | (go_at_call 33; (with_reducible refine (HS.out _ B6.out).mono ?_); rintro e w7 ⟨tv', dv', rfl, ht', hd', hbl, hsz, hk⟩; have k8' := kept_cell HN1.out HN2.out hk (Nat.le_refl _) k8; have k9' := kept_cell HN1.out HN2.out hk (Nat.le_refl _) k9; have HF := (HX5.out.keep B6.out).rx.fin HQ.out ht' hd' hbl hsz hk; obtain ⟨ta', tc', hy1⟩ := (FOwn.sl tcell_len ht').len; obtain ⟨da', dc', hy2⟩ := (FOwn.sl dcell_len hd').len; obtain ⟨m, hm⟩ : ∃ m, (T ++ [(3, x)]).length = m := ⟨_, rfl⟩; rw [hm] at hy1; subst hy1 hy2; have q0 := HF.c0; have q1 := HF.c1; have f0 := HF.f0; have f1 := HF.f1; have HR := Lib.hid (HF.fin nx); clear ht' hd' hbl hsz hk HF hm)))
      go_wp2_with fail
      exact bodyPost_ret (v := .tuple #[.agg #[.slice ta' m tc', .slice da' D.length dc'], .int .i64 (nx : Int)]) (by simp [results, Try.results32, go_sem, q0, q1]) rfl HR.out
end
end Go.Proofs.Ytgfmpndojjopnaa
