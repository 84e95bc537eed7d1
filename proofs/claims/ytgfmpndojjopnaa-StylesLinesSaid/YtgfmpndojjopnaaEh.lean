/- The document's own: a rune's name. -/
import Derived.Test.YtgfmpndojjopnaaEg
namespace Go.Proofs.Ytgfmpndojjopnaa
open Go.RowKit

def nmL : List (List UInt8) := nmTab.map (·.1)
def nmR : List Int := nmTab.map (·.2)
theorem nm_len : nmTab.length = 30 := by decide
theorem nm_bd : ∀ p ∈ nmTab, 0 ≤ p.2 ∧ p.2 ≤ 10000 := by decide +kernel
theorem HexAt.room6 {T : List UInt8} {R : Option Int} {acc : Int} {pos : Nat} (h : HexAt T R pos acc) (hp : pos ≤ 6) : acc < 16777216 := by
  have hi := h.hi
  have : (16 : Int) ^ pos ≤ 16 ^ 6 := by
    have := Nat.pow_le_pow_right (n := 16) (by omega) hp
    exact_mod_cast this
  have e : (16 : Int) ^ 6 = 16777216 := by decide
  omega
theorem hexd_dec {c : Int} (h0 : 48 ≤ c) (h1 : c ≤ 57) : hexd c = some (c - 48) := by unfold hexd; rw [if_pos ⟨h0, h1⟩]
theorem hexd_let {c : Int} (h0 : 65 ≤ c) (h1 : c ≤ 70) : hexd c = some (c - 55) := by unfold hexd; rw [if_neg (by omega), if_pos ⟨h0, h1⟩]
theorem hexd_no {c : Int} (h0 : ¬ (48 ≤ c ∧ c ≤ 57)) (h1 : ¬ (65 ≤ c ∧ c ≤ 70)) : hexd c = none := by unfold hexd; rw [if_neg h0, if_neg h1]
theorem sf_is {x : Int} (h0 : 0 ≤ x) (h1 : x ≤ 1114111) : (vld x = true ∧ ctl x = false) ↔ sf x = x := by
  constructor
  · intro h; unfold sf; rw [if_pos h]
  · intro h
    rw [← h]
    exact ⟨vld_sf x, ctl_sf x⟩
theorem vld_big {x : Int} (h : 1114111 < x) : ¬ (vld x = true ∧ ctl x = false) := by
  rintro ⟨h1, -⟩
  simp only [vld, decide_eq_true_eq] at h1
  omega
def AllEnd (w : World) (e : Ending) (w' : World) : Prop := ∃ g h, e = .returned (.tuple #[.slice (some ⟨g, 0, none⟩) 30 30, .slice (some ⟨h, 0, none⟩) 30 30]) ∧ Fs 1 fstr w' (.slice (some ⟨g, 0, none⟩) 30 30) nmL ∧ Sl .i32 w' (.slice (some ⟨h, 0, none⟩) 30 30) nmR ∧ Below w.heap.size w w'
set_option maxRecDepth 100000 in
set_option maxHeartbeats 2000000 in
theorem all_any (w : World) : Calls Try.prog 52 #[] w (AllEnd w) := by
  have S1 : Hid (Fs 1 fstr (w.alloc (.cells #[.string ⟨#[101, 109]⟩, .string ⟨#[101, 110]⟩, .string ⟨#[104, 121]⟩, .string ⟨#[98, 117]⟩, .string ⟨#[108, 113]⟩, .string ⟨#[114, 113]⟩, .string ⟨#[111, 113]⟩, .string ⟨#[99, 113]⟩, .string ⟨#[97, 113]⟩, .string ⟨#[100, 113]⟩, .string ⟨#[99, 111]⟩, .string ⟨#[114, 103]⟩, .string ⟨#[116, 109]⟩, .string ⟨#[114, 115]⟩, .string ⟨#[104, 97]⟩, .string ⟨#[116, 105]⟩, .string ⟨#[109, 117]⟩, .string ⟨#[100, 105]⟩, .string ⟨#[60, 45]⟩, .string ⟨#[45, 62]⟩, .string ⟨#[60, 61]⟩, .string ⟨#[62, 61]⟩, .string ⟨#[33, 61]⟩, .string ⟨#[100, 101]⟩, .string ⟨#[115, 99]⟩, .string ⟨#[69, 117]⟩, .string ⟨#[117, 58]⟩, .string ⟨#[111, 58]⟩, .string ⟨#[97, 58]⟩, .string ⟨#[115, 115]⟩] 9)) (.slice (some ⟨w.heap.size, 0, none⟩) 30 30) nmL) := Lib.hid (fs_lit fstr_len w 9 nmL)
  have HS2 : Hid (∀ W : World, Sl .i32 (W.alloc (.cells #[.int .i32 8212, .int .i32 8211, .int .i32 8208, .int .i32 8226, .int .i32 8220, .int .i32 8221, .int .i32 8216, .int .i32 8217, .int .i32 39, .int .i32 34, .int .i32 169, .int .i32 174, .int .i32 8482, .int .i32 92, .int .i32 94, .int .i32 126, .int .i32 215, .int .i32 247, .int .i32 8592, .int .i32 8594, .int .i32 8804, .int .i32 8805, .int .i32 8800, .int .i32 176, .int .i32 167, .int .i32 8364, .int .i32 252, .int .i32 246, .int .i32 228, .int .i32 223] 21)) (.slice (some ⟨W.heap.size, 0, none⟩) 30 30) nmR) := Lib.hid (fun W => sl_lit (k := .i32) W 21 nmR)
  go_enter Try.func52, Try.ntmps52
  go_wp2_with fail
  go_ret2
  refine ⟨_, _, rfl, S1.out.below (below_lit _ _), ?_, ((Below.refl _ _).alloc (Nat.le_refl _) _).alloc (by simp) _⟩
  have := HS2.out (w.alloc (.cells #[.string ⟨#[101, 109]⟩, .string ⟨#[101, 110]⟩, .string ⟨#[104, 121]⟩, .string ⟨#[98, 117]⟩, .string ⟨#[108, 113]⟩, .string ⟨#[114, 113]⟩, .string ⟨#[111, 113]⟩, .string ⟨#[99, 113]⟩, .string ⟨#[97, 113]⟩, .string ⟨#[100, 113]⟩, .string ⟨#[99, 111]⟩, .string ⟨#[114, 103]⟩, .string ⟨#[116, 109]⟩, .string ⟨#[114, 115]⟩, .string ⟨#[104, 97]⟩, .string ⟨#[116, 105]⟩, .string ⟨#[109, 117]⟩, .string ⟨#[100, 105]⟩, .string ⟨#[60, 45]⟩, .string ⟨#[45, 62]⟩, .string ⟨#[60, 61]⟩, .string ⟨#[62, 61]⟩, .string ⟨#[33, 61]⟩, .string ⟨#[100, 101]⟩, .string ⟨#[115, 99]⟩, .string ⟨#[69, 117]⟩, .string ⟨#[117, 58]⟩, .string ⟨#[111, 58]⟩, .string ⟨#[97, 58]⟩, .string ⟨#[115, 115]⟩] 9))
  simpa using this

set_option maxRecDepth 100000 in
set_option maxHeartbeats 4000000 in
theorem rnameS_any (b : List UInt8) (w : World) (hb : b.length ≤ maxLen) :
    Calls Try.prog 42 #[.string ⟨b.toArray⟩] w fun e w' => e = .returned (.int .i64 ((nmOf b).getD (-1))) ∧ Below w.heap.size w w' := by
  have hsz : (⟨b.toArray⟩ : ByteArray).size = b.length := by simp [Go.Lib.size_eq]
  have HA := Lib.hid (all_any w)
  obtain ⟨F, hF⟩ : ∃ F, nmOf b = F := ⟨_, rfl⟩
  have HFF := Lib.hid hF
  rw [hF]
  obtain ⟨X, hX⟩ : ∃ X, nmLook nmTab b = X := ⟨_, rfl⟩
  have HX := Lib.hid hX
  clear hF hX
  go_enter Try.func42, Try.ntmps42
  go_wp2_with fail
  refine HA.out.mono ?_
  rintro e w1 ⟨g, h, rfl, s1, s2, b1⟩
  have S1 := Lib.hid s1
  have S2 := Lib.hid s2
  have B1 := Lib.hid b1
  clear HA s1 s2 b1
  go_wp2_with fail
  go_loopw [5] (fun i wr => ∃ j : Nat, j ≤ 30 ∧ i = .int .i64 j ∧ wr = w1 ∧ nmLook (nmTab.drop j) b = X) (fun i _ => 30 - (intOf i).toNat)
  case atStart => exact ⟨0, by omega, rfl, rfl, by simpa using HX.out⟩
  case round =>
    obtain ⟨j, hj, rfl, rfl, hl⟩ := hrel
    have HL := Lib.hid hl
    clear hl
    by_cases hlt : j < 30
    · obtain ⟨p, hp⟩ : ∃ p, nmTab[j]? = some p := ⟨nmTab[j]'(by rw [nm_len]; exact hlt), List.getElem?_eq_getElem _⟩
      obtain ⟨g', off, he, c0⟩ := S1.out.str (j := j) (s := p.1) (by simp [nmL, hp])
      cases he
      obtain ⟨g', off, he, c1⟩ := S2.out.at (j := j) (z := p.2) (by simp [nmR, hp])
      cases he
      rw [Nat.zero_add] at c0 c1
      have hpb := nm_bd p (List.mem_of_getElem? hp)
      have hi0 : (j : Int) < 30 := by omega
      have hi1 : (0 : Int) ≤ (j : Int) := by omega
      by_cases he : p.1 = b
      · have hFj : F = some p.2 := by
          have hX : X = some p.2 := by rw [← HL.out, ← he, nmLook_hit hp]
          rw [← HFF.out]
          unfold nmOf
          rw [HX.out, hX]
        subst hFj
        have hbq : (p.1 == b) = true := by simpa using he
        obtain ⟨q0, q1⟩ := hpb
        clear hp he
        try simp only [Option.getD_some]
        go_wp2_with fail
        go_ret
        exact ⟨rfl, B1.out⟩
      · have hnx := Lib.hid (show nmLook (nmTab.drop (j + 1)) b = X by rw [← HL.out, nmLook_miss hp he])
        have hbq : (p.1 == b) = false := by simpa using he
        clear hp hpb he c1
        go_wp2_with fail
        go_roundw
        case rel => exact ⟨j + 1, by omega, by go_num, by first | trivial | rfl, hnx.out⟩
        case measure => simp [intOf]; omega
    · obtain rfl : j = 30 := by omega
      have HFN : Hid (F = numOf b) := Lib.hid (by
        have hX : X = none := by
          rw [← HL.out]
          rfl
        rw [← HFF.out]
        unfold nmOf
        rw [HX.out, hX])
      clear HL HX HFF S1 S2
      have hi0 : ¬ (30 : Int) < 30 := by omega
      by_cases h1 : b.length < 5
      · have HF := HFN.out
        rw [numOf_short h1] at HF
        subst HF
        have hl : (b.length : Int) < 5 := by omega
        clear HFN h1
        try simp only [Option.getD_none]
        go_wp2_with fail
        go_ret
        exact ⟨rfl, B1.out⟩
      · have hl1 : ¬ (b.length : Int) < 5 := by omega
        by_cases h2 : 7 < b.length
        · have HF := HFN.out
          rw [numOf_long h2] at HF
          subst HF
          have hl : (7 : Int) < (b.length : Int) := by omega
          clear HFN h1 h2
          try simp only [Option.getD_none]
          go_wp2_with fail
          go_ret
          exact ⟨rfl, B1.out⟩
        · have hl2 : ¬ (7 : Int) < (b.length : Int) := by omega
          obtain ⟨x, hx⟩ : ∃ x, b[0]? = some x := ⟨b[0], List.getElem?_eq_getElem (by omega)⟩
          have k0 : ∀ w, (Instr.index 9 (.string ⟨b.toArray⟩) (.int .i64 0)).run Try.prog w = .ok (.int .u8 (x.toNat : Int)) w := str_idx b 0 x hx
          have hhd : b.head? = some x := by rw [← hx]; exact List.head?_eq_getElem?
          by_cases h3 : x = 117
          · subst h3
            have hne : ((((117 : UInt8).toNat : Int)) != 117) = false := by decide
            have HN := Lib.hid (HFN.out.trans (numOf_hex (by omega) (by omega) hhd))
            rw [show b.tail = b.drop 1 by simp] at HN
            have HS := Lib.hid (HexAt.start (b.drop 1))
            obtain ⟨R, hR⟩ : ∃ R, hexN (b.drop 1) 0 = R := ⟨_, rfl⟩
            rw [hR] at HN HS
            have HK := Lib.hid (fun (i : Nat) y (h : b[i]? = some y) => str_idx b i y h)
            have HLn := Lib.hid (show (b.drop 1).length = b.length - 1 by simp)
            clear hhd hx hR HFN h1 h2
            have k0' : ∀ w, (Instr.index 9 (.string ⟨b.toArray⟩) (.int .i64 0)).run Try.prog w = .ok (.int .u8 117) w := k0
            clear k0
            go_wp2_with fail
            go_loopw [6, 7] (fun n i wr' => ∃ (pos : Nat) (acc : Int), pos + 1 ≤ b.length ∧ i = .int .i64 ((pos + 1 : Nat) : Int) ∧ wr' = wr ∧ n = .int .i64 acc ∧ HexAt (b.drop 1) R pos acc) (fun _ i _ => b.length - (intOf i).toNat)
            case atStart => exact ⟨0, 0, by omega, rfl, rfl, rfl, HS.out⟩
            case round =>
              obtain ⟨pos, acc, hpb, rfl, rfl, rfl, hh⟩ := hrel
              have HH := Lib.hid hh
              have lo := hh.lo
              have ple := hh.le
              have hln := HLn.out
              have hroom := hh.room6 (by omega)
              clear hh
              by_cases hlt : pos + 1 < b.length
              · obtain ⟨y, hy⟩ : ∃ y, b[pos + 1]? = some y := ⟨b[pos + 1], List.getElem?_eq_getElem hlt⟩
                have hy' : (b.drop 1)[pos]? = some y := by rw [List.getElem?_drop, show 1 + pos = pos + 1 by omega]; exact hy
                have ky : ∀ w, (Instr.index 9 (.string ⟨b.toArray⟩) (.int .i64 ((pos : Int) + 1))).run Try.prog w = .ok (.int .u8 (y.toNat : Int)) w := HK.out (pos + 1) y hy
                have hi0 : (pos : Int) + 1 < (b.length : Int) := by omega
                have hi1 : (0 : Int) ≤ (pos : Int) + 1 := by omega
                have HY := Lib.hid (fun d (h : hexd (y.toNat : Int) = some d) => HH.out.next hy' h)
                have HYN := Lib.hid (fun (h : hexd (y.toNat : Int) = none) => HH.out.none hy' h)
                have hyb : (y.toNat : Int) ≤ 255 := by have := y.toNat_lt; omega
                obtain ⟨c, hc⟩ : ∃ c : Int, (y.toNat : Int) = c := ⟨_, rfl⟩
                have hc0 : 0 ≤ c := by omega
                rw [hc] at ky HY HYN hyb
                have hroom5 := HH.out.room (by omega)
                clear hy hy' hc HH ple hln
                by_cases a : 48 ≤ c ∧ c ≤ 57
                · have HX := Lib.hid (HY.out _ (hexd_dec a.1 a.2))
                  rw [show acc * 16 + (c - 48) = 16 * acc + c - 48 by omega] at HX
                  obtain ⟨a1, a2⟩ := a
                  clear HY HYN
                  go_wp2_with fail
                  go_roundw
                  case rel => exact ⟨pos + 1, _, by omega, by go_num, by first | trivial | rfl, rfl, HX.out⟩
                  case measure => simp [intOf]; omega
                · by_cases a' : 65 ≤ c ∧ c ≤ 70
                  · have HX := Lib.hid (HY.out _ (hexd_let a'.1 a'.2))
                    rw [show acc * 16 + (c - 55) = 16 * acc + c - 55 by omega] at HX
                    obtain ⟨a1, a2⟩ := a'
                    have a3 : ¬ c ≤ 57 := by omega
                    have a4 : 48 ≤ c := by omega
                    clear HY HYN a
                    go_wp2_with fail
                    go_roundw
                    case rel => exact ⟨pos + 1, _, by omega, by go_num, by first | trivial | rfl, rfl, HX.out⟩
                    case measure => simp [intOf]; omega
                  · have hR := HYN.out (hexd_no a a')
                    have HF := HN.out
                    rw [hR] at HF
                    simp only at HF
                    subst HF
                    clear HY HYN HN hR HK HLn
                    try simp only [Option.getD_none]
                    by_cases a1 : 48 ≤ c
                    · have a2 : ¬ c ≤ 57 := fun h => a ⟨a1, h⟩
                      clear a
                      by_cases b1 : 65 ≤ c
                      · have b2 : ¬ c ≤ 70 := fun h => a' ⟨b1, h⟩
                        clear a'
                        go_wp2_with fail
                        go_ret
                        exact ⟨rfl, B1.out⟩
                      · clear a'
                        go_wp2_with fail
                        go_ret
                        exact ⟨rfl, B1.out⟩
                    · have b1 : ¬ 65 ≤ c := by omega
                      clear a a'
                      go_wp2_with fail
                      go_ret
                      exact ⟨rfl, B1.out⟩
              · have hR := HH.out.done (by omega)
                have hi0 : ¬ (pos : Int) + 1 < (b.length : Int) := by omega
                have HF := HN.out
                rw [hR] at HF
                simp only at HF
                have HSF := Lib.hid (fun W => rsafe_any acc W)
                clear hR HH HN HK HLn hln
                by_cases hbig : 1114111 < acc
                · rw [if_neg (vld_big hbig)] at HF
                  subst HF
                  try simp only [Option.getD_none]
                  go_wp2_with fail
                  go_ret
                  exact ⟨rfl, B1.out⟩
                · by_cases hsf : sf acc = acc
                  · rw [if_pos ((sf_is lo (by omega)).2 hsf)] at HF
                    subst HF
                    rw [hsf] at HSF
                    clear hsf
                    try simp only [Option.getD_some]
                    go_wp2_with (go_at_call 53; refine (HSF.out _).mono ?_; rintro e w' ⟨rfl, rfl⟩)
                    go_ret
                    exact ⟨rfl, B1.out⟩
                  · rw [if_neg (fun h => hsf ((sf_is lo (by omega)).1 h))] at HF
                    subst HF
                    obtain ⟨S, hS⟩ : ∃ S, sf acc = S := ⟨_, rfl⟩
                    rw [hS] at HSF hsf
                    have hne2 : (S != acc) = true := by simpa using hsf
                    clear hS hsf
                    try simp only [Option.getD_none]
                    go_wp2_with (go_at_call 53; refine (HSF.out _).mono ?_; rintro e w' ⟨rfl, rfl⟩)
                    go_ret
                    exact ⟨rfl, B1.out⟩
          · have HF := HFN.out
            rw [numOf_other (by rw [hhd]; intro h; exact h3 (by injection h))] at HF
            subst HF
            have hne : ((x.toNat : Int) != 117) = true := by
              rw [bne_iff_ne]
              intro h
              exact h3 (UInt8.toNat_inj.1 (by have : x.toNat = 117 := by omega
                                              exact this))
            clear HFN h1 h2 hhd hx h3
            try simp only [Option.getD_none]
            go_wp2_with fail
            go_ret
            exact ⟨rfl, B1.out⟩
end Go.Proofs.Ytgfmpndojjopnaa
