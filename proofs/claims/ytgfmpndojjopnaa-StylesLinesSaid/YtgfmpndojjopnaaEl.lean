/- The document's own escape: where nothing is said, or all behind it is a note, or it is none. -/
import Derived.Test.YtgfmpndojjopnaaEk
namespace Go.Proofs.Ytgfmpndojjopnaa
open Go.RowKit
attribute [local go_sem ↓ high] builtin_appT builtin_appDg
section
variable {base : Nat} {w : World} {lv : Value} {L : List Int} {tv dv : Value} {T : List Tok} {D : List Dg} {W : World}
set_option maxRecDepth 100000 in
set_option maxHeartbeats 4000000 in
theorem resc_nothing (q : Nat) (d : Int) (w : World) (hs : Sl .i32 w lv L) (ht : TOwn base w tv T) (hd : DOwn base w dv D) (hb : base ≤ w.heap.size) (hq : L[q]? = some d) (hq1 : 1 ≤ q) (hL : L.length ≤ 2000) (hTl : T.length ≤ 2000) (hDl : D.length ≤ 2000) (hsim : simC d = none)
    (hx : d = 38 ∨ d = 37 ∨ d = 47 ∨ d = 44 ∨ d = 58) :
    Calls Try.prog 32 #[.agg #[tv, dv], lv, .int .i64 (q : Int)] w (REnd base w tv dv T D (q + 1)) := by
  have HX := Lib.hid (Lp.start hs ht hd)
  have HN1 := Lib.hid (fun b (hb : w.heap.size ≤ b) => own_block ht hb)
  have HN2 := Lib.hid (fun b (hb : w.heap.size ≤ b) => own_block hd hb)
  have hlt := (List.getElem?_eq_some_iff.1 hq).1
  obtain ⟨a, cap, rfl⟩ := hs.len
  obtain ⟨ta, tc, hx1⟩ := (FOwn.sl tcell_len ht).len
  obtain ⟨da, dc, hx2⟩ := (FOwn.sl dcell_len hd).len
  obtain ⟨g, off, rfl, c5⟩ := hs.at hq
  obtain ⟨p, rfl⟩ : ∃ p, q = p + 1 := ⟨q - 1, by omega⟩
  try simp only [Nat.add_sub_cancel]
  obtain ⟨N, hN⟩ : ∃ N, L.length = N := ⟨_, rfl⟩
  rw [hN] at HX hlt hL ⊢
  obtain ⟨W3, hW3⟩ : ∃ W3, ((((w.alloc (.cells #[tv, dv] 67)).alloc (.cells #[.slice none 0 0, .slice none 0 0] 67)).alloc (.cells #[.int .i32 92, .int .i32 101, .int .i32 45, .int .i32 46, .int .i32 39, .int .i32 96, .int .i32 32, .int .i32 126, .int .i32 48] 21)).alloc (.cells #[.int .i32 92, .int .i32 92, .int .i32 45, .int .i32 46, .int .i32 180, .int .i32 96, .int .i32 160, .int .i32 160, .int .i32 160] 21)) = W3 := ⟨_, rfl⟩
  rw [hW3] at HX
  subst hx1 hx2
  have HW3 := Lib.hid hW3
  have HQ := Lib.hid hb
  have HHQ := Lib.hid hq
  have HXX := Lib.hid hsim
  have HLN := Lib.hid hN
  have hz : ¬ (N : Int) ≤ (p : Int) + 1 := by omega
  have hz0 : (p : Int) + 1 < (N : Int) := by omega
  have hz1 : (0 : Int) ≤ (p : Int) := by omega
  have hz2 : (p : Int) + 1 ≤ 2000 := by omega
  clear hW3 hs ht hd hN hq hb hsim
  go_enter Try.func32, Try.ntmps32
  go_wp2_with fail
  rw [HW3.out]
  go_loopw [11] (fun i wr => ∃ j : Nat, j ≤ 9 ∧ i = .int .i64 j ∧ Below W3.heap.size W3 wr ∧ smLook (smTab.drop j) d = none) (fun i _ => 9 - (intOf i).toNat)
  case atStart => exact ⟨0, by omega, rfl, Below.refl _ _, by rw [List.drop_zero, ← simC_tab]; exact HXX.out⟩
  case round =>
    obtain ⟨j, hj, rfl, hbw, hl⟩ := hrel
    have HL := Lib.hid hl
    have HXW := Lib.hid (HX.out.keep hbw)
    have HBW := Lib.hid hbw
    clear hl hbw c5
    obtain ⟨g', off', he, c50⟩ := (HXW.out.rx.s).at HHQ.out
    cases he
    have c5 : wr.cell? ⟨g, off + (p + 1), none⟩ = some (.int .i32 d) := c50
    clear c50
    by_cases hlt9 : j < 9
    · obtain ⟨y, hp⟩ : ∃ y, smTab[j]? = some y := ⟨smTab[j]'(by simpa [smTab] using hlt9), List.getElem?_eq_getElem _⟩
      have c6 := HXW.out.plain hp
      have hi0 : (j : Int) < 9 := by omega
      have hi1 : (0 : Int) ≤ (j : Int) := by omega
      by_cases he : y.1 = d
      · have := HL.out
        rw [← he, smLook_hit hp] at this
        cases this
      · have hnx := Lib.hid (show smLook (smTab.drop (j + 1)) d = none by rw [← smLook_miss hp he]; exact HL.out)
        have hdq : (d == y.1) = false := by simpa using fun h : d = y.1 => he h.symm
        clear hp he
        go_wp2_with fail
        go_quiet (fail)
        go_wp2
        go_roundw
        case rel => exact ⟨j + 1, by omega, by go_num, below_drewN HBW.out _, hnx.out⟩
        case measure => simp [intOf]; omega
    · obtain rfl : j = 9 := by omega
      have c8 : wr.cell? ⟨w.heap.size, 0, none⟩ = some (.slice ta T.length tc) := HXW.out.rx.b0.cell 0
      have c9 : wr.cell? ⟨w.heap.size, 1, none⟩ = some (.slice da D.length dc) := HXW.out.rx.b0.cell 1
      have HF := HXW.out.rx.same HQ.out
      have q0 := HF.c0
      have q1 := HF.c1
      have f0 := HF.f0
      have f1 := HF.f1
      have HR := Lib.hid (HF.fin (p + 1 + 1))
      clear HF HL HBW HX HXX
      rcases hx with rfl | rfl | rfl | rfl | rfl
      all_goals
        go_wp2_with fail
        exact bodyPost_ret (v := .tuple #[.agg #[.slice ta T.length tc, .slice da D.length dc], .int .i64 ((p + 1 + 1 : Nat) : Int)]) (by simp [results, Try.results32, go_sem, q0, q1]) rfl HR.out

set_option maxRecDepth 100000 in
set_option maxHeartbeats 4000000 in
theorem resc_comment (q : Nat) (d : Int) (w : World) (hs : Sl .i32 w lv L) (ht : TOwn base w tv T) (hd : DOwn base w dv D) (hb : base ≤ w.heap.size) (hq : L[q]? = some d) (hq1 : 1 ≤ q) (hL : L.length ≤ 2000) (hTl : T.length ≤ 2000) (hDl : D.length ≤ 2000) (hsim : simC d = none) (hx : d = 34) :
    Calls Try.prog 32 #[.agg #[tv, dv], lv, .int .i64 (q : Int)] w (REnd base w tv dv T D L.length) := by
  have HX := Lib.hid (Lp.start hs ht hd)
  have HN1 := Lib.hid (fun b (hb : w.heap.size ≤ b) => own_block ht hb)
  have HN2 := Lib.hid (fun b (hb : w.heap.size ≤ b) => own_block hd hb)
  have hlt := (List.getElem?_eq_some_iff.1 hq).1
  obtain ⟨a, cap, rfl⟩ := hs.len
  obtain ⟨ta, tc, hx1⟩ := (FOwn.sl tcell_len ht).len
  obtain ⟨da, dc, hx2⟩ := (FOwn.sl dcell_len hd).len
  obtain ⟨g, off, rfl, c5⟩ := hs.at hq
  obtain ⟨p, rfl⟩ : ∃ p, q = p + 1 := ⟨q - 1, by omega⟩
  try simp only [Nat.add_sub_cancel]
  obtain ⟨N, hN⟩ : ∃ N, L.length = N := ⟨_, rfl⟩
  rw [hN] at HX hlt hL ⊢
  obtain ⟨W3, hW3⟩ : ∃ W3, ((((w.alloc (.cells #[tv, dv] 67)).alloc (.cells #[.slice none 0 0, .slice none 0 0] 67)).alloc (.cells #[.int .i32 92, .int .i32 101, .int .i32 45, .int .i32 46, .int .i32 39, .int .i32 96, .int .i32 32, .int .i32 126, .int .i32 48] 21)).alloc (.cells #[.int .i32 92, .int .i32 92, .int .i32 45, .int .i32 46, .int .i32 180, .int .i32 96, .int .i32 160, .int .i32 160, .int .i32 160] 21)) = W3 := ⟨_, rfl⟩
  rw [hW3] at HX
  subst hx1 hx2
  have HW3 := Lib.hid hW3
  have HQ := Lib.hid hb
  have HHQ := Lib.hid hq
  have HXX := Lib.hid hsim
  have HLN := Lib.hid hN
  have hz : ¬ (N : Int) ≤ (p : Int) + 1 := by omega
  have hz0 : (p : Int) + 1 < (N : Int) := by omega
  have hz1 : (0 : Int) ≤ (p : Int) := by omega
  have hz2 : (p : Int) + 1 ≤ 2000 := by omega
  clear hW3 hs ht hd hN hq hb hsim
  go_enter Try.func32, Try.ntmps32
  go_wp2_with fail
  rw [HW3.out]
  go_loopw [11] (fun i wr => ∃ j : Nat, j ≤ 9 ∧ i = .int .i64 j ∧ Below W3.heap.size W3 wr ∧ smLook (smTab.drop j) d = none) (fun i _ => 9 - (intOf i).toNat)
  case atStart => exact ⟨0, by omega, rfl, Below.refl _ _, by rw [List.drop_zero, ← simC_tab]; exact HXX.out⟩
  case round =>
    obtain ⟨j, hj, rfl, hbw, hl⟩ := hrel
    have HL := Lib.hid hl
    have HXW := Lib.hid (HX.out.keep hbw)
    have HBW := Lib.hid hbw
    clear hl hbw c5
    obtain ⟨g', off', he, c50⟩ := (HXW.out.rx.s).at HHQ.out
    cases he
    have c5 : wr.cell? ⟨g, off + (p + 1), none⟩ = some (.int .i32 d) := c50
    clear c50
    by_cases hlt9 : j < 9
    · obtain ⟨y, hp⟩ : ∃ y, smTab[j]? = some y := ⟨smTab[j]'(by simpa [smTab] using hlt9), List.getElem?_eq_getElem _⟩
      have c6 := HXW.out.plain hp
      have hi0 : (j : Int) < 9 := by omega
      have hi1 : (0 : Int) ≤ (j : Int) := by omega
      by_cases he : y.1 = d
      · have := HL.out
        rw [← he, smLook_hit hp] at this
        cases this
      · have hnx := Lib.hid (show smLook (smTab.drop (j + 1)) d = none by rw [← smLook_miss hp he]; exact HL.out)
        have hdq : (d == y.1) = false := by simpa using fun h : d = y.1 => he h.symm
        clear hp he
        go_wp2_with fail
        go_quiet (fail)
        go_wp2
        go_roundw
        case rel => exact ⟨j + 1, by omega, by go_num, below_drewN HBW.out _, hnx.out⟩
        case measure => simp [intOf]; omega
    · obtain rfl : j = 9 := by omega
      have c8 : wr.cell? ⟨w.heap.size, 0, none⟩ = some (.slice ta T.length tc) := HXW.out.rx.b0.cell 0
      have c9 : wr.cell? ⟨w.heap.size, 1, none⟩ = some (.slice da D.length dc) := HXW.out.rx.b0.cell 1
      have HF := HXW.out.rx.same HQ.out
      have q0 := HF.c0
      have q1 := HF.c1
      have f0 := HF.f0
      have f1 := HF.f1
      have HR := Lib.hid (HF.fin (N))
      clear HF HL HBW HX HXX
      subst hx
      go_wp2_with fail
      exact bodyPost_ret (v := .tuple #[.agg #[.slice ta T.length tc, .slice da D.length dc], .int .i64 (N : Int)]) (by simp [results, Try.results32, go_sem, q0, q1]) rfl HR.out

set_option maxRecDepth 100000 in
set_option maxHeartbeats 4000000 in
theorem resc_other (q : Nat) (d : Int) (w : World) (hs : Sl .i32 w lv L) (ht : TOwn base w tv T) (hd : DOwn base w dv D) (hb : base ≤ w.heap.size) (hq : L[q]? = some d) (hq1 : 1 ≤ q) (hL : L.length ≤ 2000) (hTl : T.length ≤ 2000) (hDl : D.length ≤ 2000) (hsim : simC d = none)
    (hx : d ≠ 38 ∧ d ≠ 37 ∧ d ≠ 47 ∧ d ≠ 44 ∧ d ≠ 58 ∧ d ≠ 34 ∧ d ≠ 40 ∧ d ≠ 91 ∧ d ≠ 102) :
    Calls Try.prog 32 #[.agg #[tv, dv], lv, .int .i64 (q : Int)] w (REnd base w tv dv T (D ++ dgs (q - 1) [1]) (q + 1)) := by
  have HX := Lib.hid (Lp.start hs ht hd)
  have HN1 := Lib.hid (fun b (hb : w.heap.size ≤ b) => own_block ht hb)
  have HN2 := Lib.hid (fun b (hb : w.heap.size ≤ b) => own_block hd hb)
  have hlt := (List.getElem?_eq_some_iff.1 hq).1
  obtain ⟨a, cap, rfl⟩ := hs.len
  obtain ⟨ta, tc, hx1⟩ := (FOwn.sl tcell_len ht).len
  obtain ⟨da, dc, hx2⟩ := (FOwn.sl dcell_len hd).len
  obtain ⟨g, off, rfl, c5⟩ := hs.at hq
  obtain ⟨p, rfl⟩ : ∃ p, q = p + 1 := ⟨q - 1, by omega⟩
  try simp only [Nat.add_sub_cancel]
  obtain ⟨N, hN⟩ : ∃ N, L.length = N := ⟨_, rfl⟩
  rw [hN] at HX hlt hL ⊢
  obtain ⟨W3, hW3⟩ : ∃ W3, ((((w.alloc (.cells #[tv, dv] 67)).alloc (.cells #[.slice none 0 0, .slice none 0 0] 67)).alloc (.cells #[.int .i32 92, .int .i32 101, .int .i32 45, .int .i32 46, .int .i32 39, .int .i32 96, .int .i32 32, .int .i32 126, .int .i32 48] 21)).alloc (.cells #[.int .i32 92, .int .i32 92, .int .i32 45, .int .i32 46, .int .i32 180, .int .i32 96, .int .i32 160, .int .i32 160, .int .i32 160] 21)) = W3 := ⟨_, rfl⟩
  rw [hW3] at HX
  subst hx1 hx2
  have HW3 := Lib.hid hW3
  have HQ := Lib.hid hb
  have HHQ := Lib.hid hq
  have HXX := Lib.hid hsim
  have HLN := Lib.hid hN
  have hz : ¬ (N : Int) ≤ (p : Int) + 1 := by omega
  have hz0 : (p : Int) + 1 < (N : Int) := by omega
  have hz1 : (0 : Int) ≤ (p : Int) := by omega
  have hz2 : (p : Int) + 1 ≤ 2000 := by omega
  clear hW3 hs ht hd hN hq hb hsim
  go_enter Try.func32, Try.ntmps32
  go_wp2_with fail
  rw [HW3.out]
  go_loopw [11] (fun i wr => ∃ j : Nat, j ≤ 9 ∧ i = .int .i64 j ∧ Below W3.heap.size W3 wr ∧ smLook (smTab.drop j) d = none) (fun i _ => 9 - (intOf i).toNat)
  case atStart => exact ⟨0, by omega, rfl, Below.refl _ _, by rw [List.drop_zero, ← simC_tab]; exact HXX.out⟩
  case round =>
    obtain ⟨j, hj, rfl, hbw, hl⟩ := hrel
    have HL := Lib.hid hl
    have HXW := Lib.hid (HX.out.keep hbw)
    have HBW := Lib.hid hbw
    clear hl hbw c5
    obtain ⟨g', off', he, c50⟩ := (HXW.out.rx.s).at HHQ.out
    cases he
    have c5 : wr.cell? ⟨g, off + (p + 1), none⟩ = some (.int .i32 d) := c50
    clear c50
    by_cases hlt9 : j < 9
    · obtain ⟨y, hp⟩ : ∃ y, smTab[j]? = some y := ⟨smTab[j]'(by simpa [smTab] using hlt9), List.getElem?_eq_getElem _⟩
      have c6 := HXW.out.plain hp
      have hi0 : (j : Int) < 9 := by omega
      have hi1 : (0 : Int) ≤ (j : Int) := by omega
      by_cases he : y.1 = d
      · have := HL.out
        rw [← he, smLook_hit hp] at this
        cases this
      · have hnx := Lib.hid (show smLook (smTab.drop (j + 1)) d = none by rw [← smLook_miss hp he]; exact HL.out)
        have hdq : (d == y.1) = false := by simpa using fun h : d = y.1 => he h.symm
        clear hp he
        go_wp2_with fail
        go_quiet (fail)
        go_wp2
        go_roundw
        case rel => exact ⟨j + 1, by omega, by go_num, below_drewN HBW.out _, hnx.out⟩
        case measure => simp [intOf]; omega
    · obtain rfl : j = 9 := by omega
      have c8 : wr.cell? ⟨w.heap.size, 0, none⟩ = some (.slice ta T.length tc) := HXW.out.rx.b0.cell 0
      have c9 : wr.cell? ⟨w.heap.size, 1, none⟩ = some (.slice da D.length dc) := HXW.out.rx.b0.cell 1
      obtain ⟨x38, x37, x47, x44, x58, x34, x40, x91, x102⟩ := hx
      have y38 : (d == 38) = false := by simpa using x38
      have y37 : (d == 37) = false := by simpa using x37
      have y47 : (d == 47) = false := by simpa using x47
      have y44 : (d == 44) = false := by simpa using x44
      have y58 : (d == 58) = false := by simpa using x58
      have y34 : (d == 34) = false := by simpa using x34
      have y40 : (d == 40) = false := by simpa using x40
      have y91 : (d == 91) = false := by simpa using x91
      have y102 : (d == 102) = false := by simpa using x102
      clear x38 x37 x47 x44 x58 x34 x40 x91 x102
      have HC := Lib.hid (tell_any base _ _ 1 p T D wr HXW.out.rx.t HXW.out.rx.d (by have := HXW.out.rx.big; have := HQ.out; omega) (by omega) (by omega))
      clear HL HBW HX HXX
      go_wp2_with fail
      refine HC.out.mono ?_
      rintro e w5 ⟨tv', dv', rfl, ht', hd', hbl, hsz, hk⟩
      have HF := HXW.out.rx.fin HQ.out ht' hd' hbl hsz hk
      obtain ⟨ta', tc', hx1⟩ := (FOwn.sl tcell_len ht').len
      obtain ⟨da', dc', hx2⟩ := (FOwn.sl dcell_len hd').len
      obtain ⟨m, hm⟩ : ∃ m, (D ++ dgs p [1]).length = m := ⟨_, rfl⟩
      rw [hm] at hx2
      subst hx1 hx2
      have q0 := HF.c0
      have q1 := HF.c1
      have f0 := HF.f0
      have f1 := HF.f1
      have HR := Lib.hid (HF.fin (p + 1 + 1))
      clear HC ht' hd' hbl hsz hk hm HF c8 c9
      go_wp2_with fail
      exact bodyPost_ret (v := .tuple #[.agg #[.slice ta' T.length tc', .slice da' m dc'], .int .i64 ((p + 1 + 1 : Nat) : Int)]) (by simp [results, Try.results32, go_sem, q0, q1]) rfl HR.out
end
end Go.Proofs.Ytgfmpndojjopnaa
