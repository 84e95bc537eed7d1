/- The walk of EscapeNamed. -/
import Derived.Test.YtdpakljfdfomfaaDoorLc
import Derived.Test.YtdpakljfdfomfaaDoorEu
namespace Go.Proofs.YtdpakljfdfomfaaDoor
open Go.RowKit
attribute [local go_sem ↓ high] builtin_appT builtin_appDg binop_addS

def ScanTd (w : World) (T : List Tok) (n : Nat) (e : Ending) (w' : World) : Prop :=
  ∃ vt ad cd, e = .returned (.tuple #[vt, .slice ad n cd]) ∧ TOwn w.heap.size w' vt T ∧ Below w.heap.size w w'
theorem scan_td (b : List UInt8) (w : World) (hb : b.length ≤ 2000) : Calls Tryd.prog 11 #[.string ⟨b.toArray⟩] w (ScanTd w (tk (dec b)) (dn (dec b))) :=
  (scan_any b w hb).mono fun e w' ⟨vt, vd, he, h1, h2, h3⟩ => by
    obtain ⟨a, c, rfl⟩ := (FOwn.sl dcell_len h2).len
    exact ⟨vt, a, c, he, h1, h3⟩
theorem dn_len (s : List Int) : dn s ≤ s.length := (scan_len s).2

set_option maxRecDepth 100000 in
set_option maxHeartbeats 8000000 in
theorem namedL_any (s t : List UInt8) (w : World) (hM : Mx w) (ms : s.length ≤ maxLen) (mt : t.length ≤ maxLen) :
    Calls Tryd.prog 9 #[.string ⟨s.toArray⟩, .string ⟨t.toArray⟩] w fun e W' => e = .returned (.bool true) ∧ Below w.heap.size w W' := by
  have HM := Lib.hid hM
  have hsz : (⟨s.toArray⟩ : ByteArray).size = s.length := by simp [Go.Lib.size_eq]
  have hsz2 : (⟨t.toArray⟩ : ByteArray).size = t.length := by simp [Go.Lib.size_eq]
  have HA := Lib.hid (name_any s w ms)
  clear hM ms mt
  cases hn : nmOf s with
  | none =>
    rw [hn] at HA
    simp only [Option.getD_none, Option.isSome_none] at HA
    clear hn
    go_enter Tryd.func9, Tryd.ntmps9
    go_wp2_with fail
    refine HA.out.mono ?_
    rintro e w1 ⟨rfl, b1⟩
    have HK := Lib.hid (known_any w1 (HM.out.below b1))
    clear HA
    go_wp2_with fail
    refine HK.out.mono ?_
    rintro e w2 ⟨rfl, b2⟩
    go_wp2_with fail
    go_ret
    exact ⟨rfl, b1.trans (b2.mono b1.size)⟩
  | some x =>
    have hxb := nmOf_bd hn
    have hsl := nmOf_len hn
    rw [hn] at HA
    simp only [Option.getD_some, Option.isSome_some] at HA
    by_cases h1 : 200 < t.length
    · have hz : (200 : Int) < (t.length : Int) := by omega
      clear hn
      go_enter Tryd.func9, Tryd.ntmps9
      go_wp2_with fail
      refine HA.out.mono ?_
      rintro e w1 ⟨rfl, b1⟩
      have HK := Lib.hid (known_any w1 (HM.out.below b1))
      clear HA
      go_wp2_with fail
      refine HK.out.mono ?_
      rintro e w2 ⟨rfl, b2⟩
      go_wp2_with fail
      go_ret
      exact ⟨rfl, b1.trans (b2.mono b1.size)⟩
    · have hz : ¬ (200 : Int) < (t.length : Int) := by omega
      have htl : t.length ≤ 200 := by omega
      have HT := Lib.hid (fun W => scan_td t W (by omega))
      have h2 := named_scan t hn
      have HS := Lib.hid (fun W => scan_td ([92, 91] ++ s ++ [93] ++ t) W (by simp; omega))
      rw [h2.1, h2.2] at HS
      have HP : Hid (s.length = 2 → ∀ W, Calls Tryd.prog 11 #[.string ⟨([92, 40] ++ s ++ t).toArray⟩] W (ScanTk W ([(1, x)] ++ tk (dec t)))) := Lib.hid (fun hl W => by
        have := scan_tk ([92, 40] ++ s ++ t) W (by simp; omega)
        rw [named_scan2 t hl hn] at this
        exact this)
      have htt := tk_len (dec t)
      have hdd := dn_len (dec t)
      have hde := dec_le t
      obtain ⟨TT, hTT⟩ : ∃ T, tk (dec t) = T := ⟨_, rfl⟩
      obtain ⟨DN, hDN⟩ : ∃ T, dn (dec t) = T := ⟨_, rfl⟩
      rw [hTT] at HT HS HP htt
      rw [hDN] at HT HS hdd
      have hTl : TT.length ≤ 200 := by omega
      have hDl : DN ≤ 200 := by omega
      have k1 := str_add [92, 91] s (by simp; omega)
      have k2 := str_add ([92, 91] ++ s) [93] (by simp; omega)
      have k3 := str_add ([92, 91] ++ s ++ [93]) t (by simp; omega)
      have k4 := str_add [92, 40] s (by simp; omega)
      have k5 := str_add ([92, 40] ++ s) t (by simp; omega)
      obtain ⟨y1, hy1⟩ : ∃ y, [92, 91] ++ s = y := ⟨_, rfl⟩
      rw [hy1] at k1 k2 k3 HS
      obtain ⟨y2, hy2⟩ : ∃ y, y1 ++ [93] = y := ⟨_, rfl⟩
      rw [hy2] at k2 k3 HS
      obtain ⟨y3, hy3⟩ : ∃ y, y2 ++ t = y := ⟨_, rfl⟩
      rw [hy3] at k3 HS
      obtain ⟨y4, hy4⟩ : ∃ y, [92, 40] ++ s = y := ⟨_, rfl⟩
      rw [hy4] at k4 k5 HP
      obtain ⟨y5, hy5⟩ : ∃ y, y4 ++ t = y := ⟨_, rfl⟩
      rw [hy5] at k5 HP
      have k1' : ∀ W, (addS (.string ⟨#[92, 91]⟩) (.string ⟨s.toArray⟩)).run Tryd.prog W = .ok (.string ⟨y1.toArray⟩) W := k1
      have k2' : ∀ W, (addS (.string ⟨y1.toArray⟩) (.string ⟨#[93]⟩)).run Tryd.prog W = .ok (.string ⟨y2.toArray⟩) W := k2
      have k4' : ∀ W, (addS (.string ⟨#[92, 40]⟩) (.string ⟨s.toArray⟩)).run Tryd.prog W = .ok (.string ⟨y4.toArray⟩) W := k4
      clear hn h2 hTT hDN htt hdd hde hy1 hy2 hy3 hy4 hy5 k1 k2 k4 h1
      go_enter Tryd.func9, Tryd.ntmps9
      go_wp2_with fail
      refine HA.out.mono ?_
      rintro e w1 ⟨rfl, b1⟩
      have B1 := Lib.hid b1
      have HT1 := Lib.hid (HT.out w1)
      clear HA b1 HT
      go_wp2_with fail
      refine HT1.out.mono ?_
      rintro e w2 ⟨v2, ad2, cd2, rfl, o2, b2⟩
      have B2 := Lib.hid (B1.out.trans (b2.mono B1.out.size))
      obtain ⟨a2, c2, rfl⟩ := (FOwn.sl tcell_len o2).len
      have bl := below_lit w2 (.cells #[.int .i64 1, .int .i32 x] 38)
      obtain ⟨x1, w3, m3, o3, g3, -⟩ := appT_own (FOwn.nil (w2.alloc (.cells #[.int .i64 1, .int .i32 x] 38)).heap.size _) (fs_lit tcell_len w2 38 [(1, x)]) (Nat.le_refl _) (by simp)
      have b3 := (FOwn.nil (e := 38) (n := 2) (f := tcell) (w2.alloc (.cells #[.int .i64 1, .int .i32 x] 38)).heap.size (w2.alloc (.cells #[.int .i64 1, .int .i32 x] 38))).below (Below.refl _ _) (Nat.le_refl _) g3
      rw [List.nil_append] at o3
      have m3' : (appT #[.slice none 0 0, .slice (some ⟨w2.heap.size, 0, none⟩) 1 1]).run Tryd.prog (w2.alloc (.cells #[.int .i64 1, .int .i32 x] 38)) = .ok (.value x1) w3 := m3
      have C3 : Below w2.heap.size w2 w3 := bl.trans (b3.mono bl.size)
      obtain ⟨x2, w4, m4, o4, g4, -⟩ := appT_own o3 (Fs.below (FOwn.sl tcell_len o2) C3) b3.size (by simp; omega)
      have C4 : Below w2.heap.size w2 w4 := bl.trans ((o3.below b3 b3.size g4).mono bl.size)
      have S4 := Lib.hid (FOwn.sl tcell_len o4)
      have B4 := Lib.hid (B2.out.trans (C4.mono B2.out.size))
      have HS4 := Lib.hid (HS.out w4)
      clear o2 b2 bl o3 g3 b3 C3 o4 g4 C4 HT1 HS m3
      go_wp2_with fail
      refine HS4.out.mono ?_
      rintro e w5 ⟨v5, ad5, cd5, rfl, o5, b5⟩
      have S5 := Lib.hid (FOwn.sl tcell_len o5)
      have C5 := Lib.hid b5
      have B5 := Lib.hid (B4.out.trans (b5.mono B4.out.size))
      have HE := Lib.hid (rsamet_any ([(1, x)] ++ TT) ([(1, x)] ++ TT) v5 x2 w5 S5.out (Fs.below S4.out b5) (by simp; omega) (by simp; omega))
      rw [decide_eq_true (rfl : ([(1, x)] ++ TT : List Tok) = [(1, x)] ++ TT)] at HE
      clear o5 b5 HS4
      go_wp2_with fail
      refine HE.out.mono ?_
      rintro e w6 ⟨rfl, b6⟩
      have C6 := Lib.hid (C5.out.trans (b6.mono C5.out.size))
      have B6 := Lib.hid (B5.out.trans (b6.mono B5.out.size))
      clear b6 HE
      by_cases hl2 : s.length = 2
      · have HP6 := Lib.hid (HP.out hl2 w6)
        have hq2 : ((s.length : Int) != 2) = false := by rw [hl2]; decide
        clear hl2 HP
        go_wp2_with fail
        refine HP6.out.mono ?_
        rintro e w7 ⟨v7, d7, rfl, o7, ⟨ad7, n7, cd7, rfl⟩, b7⟩
        have B7 := Lib.hid (B6.out.trans (b7.mono B6.out.size))
        have HE7 := Lib.hid (rsamet_any ([(1, x)] ++ TT) ([(1, x)] ++ TT) v7 x2 w7 (FOwn.sl tcell_len o7) (Fs.below S4.out (C6.out.trans (b7.mono C6.out.size))) (by simp; omega) (by simp; omega))
        rw [decide_eq_true (rfl : ([(1, x)] ++ TT : List Tok) = [(1, x)] ++ TT)] at HE7
        clear o7 b7 HP6
        go_wp2_with fail
        refine HE7.out.mono ?_
        rintro e w8 ⟨rfl, b8⟩
        have B8 := Lib.hid (B7.out.trans (b8.mono B7.out.size))
        have HK := Lib.hid (known_any w8 (HM.out.below B8.out))
        clear b8 HE7
        go_wp2_with fail
        refine HK.out.mono ?_
        rintro e w9 ⟨rfl, b9⟩
        go_wp2_with fail
        go_ret
        exact ⟨rfl, B8.out.trans (b9.mono B8.out.size)⟩
      · have hq2 : ((s.length : Int) != 2) = true := by simp; omega
        have HK := Lib.hid (known_any w6 (HM.out.below B6.out))
        clear hl2 HP
        go_wp2_with fail
        refine HK.out.mono ?_
        rintro e w9 ⟨rfl, b9⟩
        go_wp2_with fail
        go_ret
        exact ⟨rfl, B6.out.trans (b9.mono B6.out.size)⟩
theorem named_law_any (a b : ByteArray) (w : World) (hM : Mx w) (ma : a.size ≤ maxLen) (mb : b.size ≤ maxLen) :
    Calls Tryd.prog 9 #[.string a, .string b] w fun e W' => e = .returned (.bool true) ∧ Below w.heap.size w W' := by
  have ha : (⟨a.data.toList.toArray⟩ : ByteArray) = a := by cases a; simp
  have hb : (⟨b.data.toList.toArray⟩ : ByteArray) = b := by cases b; simp
  have := namedL_any a.data.toList b.data.toList w hM (by rw [← Lib.size_eq]; exact ma) (by rw [← Lib.size_eq]; exact mb)
  rw [ha, hb] at this
  exact this
end Go.Proofs.YtdpakljfdfomfaaDoor
