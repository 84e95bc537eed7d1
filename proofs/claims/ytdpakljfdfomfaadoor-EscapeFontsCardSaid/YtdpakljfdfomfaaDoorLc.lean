/- The walk of EscapeJoins. -/
import Derived.Test.YtdpakljfdfomfaaDoorEs
import Derived.Test.YtdpakljfdfomfaaDoorEt
namespace Go.Proofs.YtdpakljfdfomfaaDoor
open Go.RowKit
attribute [local go_sem ↓ high] builtin_appT builtin_appDg binop_addS

def ScanTk (w : World) (T : List Tok) (e : Ending) (w' : World) : Prop :=
  ∃ vt vd, e = .returned (.tuple #[vt, vd]) ∧ TOwn w.heap.size w' vt T ∧ (∃ ad n cd, vd = .slice ad n cd) ∧ Below w.heap.size w w'
theorem scan_tk (b : List UInt8) (w : World) (hb : b.length ≤ 2000) : Calls Tryd.prog 11 #[.string ⟨b.toArray⟩] w (ScanTk w (tk (dec b))) :=
  (scan_any b w hb).mono fun e w' ⟨vt, vd, he, h1, h2, h3⟩ => ⟨vt, vd, he, h1, by obtain ⟨a, c, e⟩ := (FOwn.sl dcell_len h2).len; exact ⟨a, _, c, e⟩, h3⟩
theorem mem_next {a : List UInt8} {P : UInt8 → Prop} {j : Nat} {x : UInt8} (h : ∀ y ∈ a.take j, P y) (hx : a[j]? = some x) (hp : P x) : ∀ y ∈ a.take (j + 1), P y := by
  intro y hy
  rw [List.take_add_one, hx] at hy
  rcases List.mem_append.1 hy with hy | hy
  · exact h y hy
  · simp at hy; subst hy; exact hp

set_option maxRecDepth 100000 in
set_option maxHeartbeats 8000000 in
theorem joinsL_any (a b : List UInt8) (w : World) (hM : Mx w) (ma : a.length ≤ maxLen) (mb : b.length ≤ maxLen) :
    Calls Tryd.prog 7 #[.string ⟨a.toArray⟩, .string ⟨b.toArray⟩] w fun e W' => e = .returned (.bool true) ∧ Below w.heap.size w W' := by
  unfold maxLen at ma mb
  have HM := Lib.hid hM
  have hsz : (⟨a.toArray⟩ : ByteArray).size = a.length := by simp [Go.Lib.size_eq]
  have hsz2 : (⟨b.toArray⟩ : ByteArray).size = b.length := by simp [Go.Lib.size_eq]
  have HK := Lib.hid (known_any w hM)
  clear hM
  by_cases h1 : 600 < a.length ∨ 600 < b.length
  · by_cases h2 : 600 < a.length
    · have hz : (600 : Int) < (a.length : Int) := by omega
      clear h1
      go_enter Tryd.func7, Tryd.ntmps7
      go_wp2_with (go_at_call 10; refine HK.out.mono ?_; rintro e w' ⟨rfl, hb⟩)
      go_ret
      exact ⟨rfl, hb⟩
    · have hz : ¬ (600 : Int) < (a.length : Int) := by omega
      have hz2 : (600 : Int) < (b.length : Int) := by omega
      clear h1
      go_enter Tryd.func7, Tryd.ntmps7
      go_wp2_with (go_at_call 10; refine HK.out.mono ?_; rintro e w' ⟨rfl, hb⟩)
      go_ret
      exact ⟨rfl, hb⟩
  · have hz : ¬ (600 : Int) < (a.length : Int) := by omega
    have hz2 : ¬ (600 : Int) < (b.length : Int) := by omega
    have hal : a.length ≤ 600 := by omega
    have hbl : b.length ≤ 600 := by omega
    have hda := dec_le a
    have hdb := dec_le b
    have hdab := dec_le (a ++ b)
    have htb := tk_len (dec b)
    have hta := tk_len (dec a)
    have HA := Lib.hid (scan_tk a w (by omega))
    have HB := Lib.hid (fun W => scan_tk b W (by omega))
    have HAB := Lib.hid (fun W => scan_tk (a ++ b) W (by rw [List.length_append]; omega))
    have HJ := Lib.hid (tk_joins a b)
    have HI := Lib.hid (fun j x (h : a[j]? = some x) => str_idx a j x h)
    have kadd := str_add a b (by omega)
    obtain ⟨TA, hTA⟩ : ∃ T, tk (dec a) = T := ⟨_, rfl⟩
    obtain ⟨TB, hTB⟩ : ∃ T, tk (dec b) = T := ⟨_, rfl⟩
    rw [hTA] at HA HJ hta
    rw [hTB] at HB HJ htb
    obtain ⟨ab, hab⟩ : ∃ x, a ++ b = x := ⟨_, rfl⟩
    rw [hab] at HAB HJ kadd
    have htal : TA.length ≤ 600 := by omega
    have htbl : TB.length ≤ 600 := by omega
    clear h1 hTA hTB hab hda hdb hdab ma mb hta htb
    go_enter Tryd.func7, Tryd.ntmps7
    go_wp2_with fail
    go_loopw [5] (fun i wr => ∃ j : Nat, j ≤ a.length ∧ i = .int .i64 j ∧ wr = w ∧ ∀ x ∈ a.take j, x.toNat ≤ 127 ∧ x ≠ 92) (fun i _ => a.length - (intOf i).toNat)
    case atStart => exact ⟨0, by omega, rfl, rfl, by simp⟩
    case round =>
      obtain ⟨j, hj, rfl, rfl, hall⟩ := hrel
      have HALL := Lib.hid hall
      clear hall
      by_cases hlt : j < a.length
      · obtain ⟨x, hx⟩ : ∃ x, a[j]? = some x := ⟨a[j], List.getElem?_eq_getElem hlt⟩
        have k1 := HI.out j x hx
        have hi0 : (j : Int) < (a.length : Int) := by omega
        have hi1 : (0 : Int) ≤ (j : Int) := by omega
        by_cases h92 : x = 92
        · have hq : ((x.toNat : Int) == 92) = true := by rw [h92]; decide
          clear hx h92
          go_wp2_with (go_at_call 10; refine HK.out.mono ?_; rintro e w' ⟨rfl, hb⟩)
          go_ret
          exact ⟨rfl, hb⟩
        · have hq : ((x.toNat : Int) == 92) = false := by
            rw [beq_eq_false_iff_ne]
            intro h
            exact h92 (UInt8.toNat_inj.1 (by have : x.toNat = 92 := by omega
                                             exact this))
          by_cases h127 : x.toNat ≤ 127
          · have hq2 : ¬ (127 : Int) < (x.toNat : Int) := by omega
            have HN := Lib.hid (mem_next (P := fun y => y.toNat ≤ 127 ∧ y ≠ 92) HALL.out hx ⟨h127, h92⟩)
            clear hx h92 h127
            go_wp2_with fail
            go_roundw
            case rel => exact ⟨j + 1, by omega, by go_num, by first | trivial | rfl, HN.out⟩
            case measure => simp [intOf]; omega
          · have hq2 : (127 : Int) < (x.toNat : Int) := by omega
            clear hx h92 h127
            go_wp2_with (go_at_call 10; refine HK.out.mono ?_; rintro e w' ⟨rfl, hb⟩)
            go_ret
            exact ⟨rfl, hb⟩
      · obtain rfl : j = a.length := by omega
        have hJ : tk (dec ab) = TA ++ TB := HJ.out (by have := HALL.out; rw [List.take_length] at this; exact this)
        rw [hJ] at HAB
        clear hJ HJ HALL HI HK
        go_wp2_with fail
        refine HA.out.mono ?_
        rintro e w1 ⟨v1, d1, rfl, o1, ⟨ad1, n1, cd1, rfl⟩, b1⟩
        have S1 := Lib.hid (FOwn.sl tcell_len o1)
        obtain ⟨a1, c1, rfl⟩ := (FOwn.sl tcell_len o1).len
        have B1 := Lib.hid b1
        have HB1 := Lib.hid (HB.out w1)
        clear o1 b1 HA HB
        go_wp2_with fail
        refine HB1.out.mono ?_
        rintro e w2 ⟨v2, d2, rfl, o2, ⟨ad2, n2, cd2, rfl⟩, b2⟩
        have S2 := Lib.hid (FOwn.sl tcell_len o2)
        obtain ⟨a2, c2, rfl⟩ := (FOwn.sl tcell_len o2).len
        have C2 := Lib.hid b2
        have B2 := Lib.hid (B1.out.trans (b2.mono B1.out.size))
        have HAB2 := Lib.hid (HAB.out w2)
        clear o2 b2 HB1 HAB
        go_wp2_with fail
        refine HAB2.out.mono ?_
        rintro e w3 ⟨v3, d3, rfl, o3, ⟨ad3, n3, cd3, rfl⟩, b3⟩
        have S3 := Lib.hid (FOwn.sl tcell_len o3)
        obtain ⟨m, hm⟩ : ∃ m, (TA ++ TB).length = m := ⟨_, rfl⟩
        obtain ⟨a3, c3, e3⟩ := (FOwn.sl tcell_len o3).len
        rw [hm] at e3
        subst e3
        have C3 := Lib.hid (C2.out.trans (b3.mono C2.out.size))
        have B3 := Lib.hid (B2.out.trans (b3.mono B2.out.size))
        obtain ⟨x1, w4, k4, o4, g4, -⟩ := appT_own (FOwn.nil w3.heap.size w3) (Fs.below S1.out C3.out) (Nat.le_refl _) (by simp; omega)
        have b4 := (FOwn.nil (e := 38) (n := 2) (f := tcell) w3.heap.size w3).below (Below.refl _ w3) (Nat.le_refl _) g4
        rw [List.nil_append] at o4
        have C4 : Below w2.heap.size w2 w4 := b3.trans (b4.mono b3.size)
        obtain ⟨x2, w5, k5, o5, g5, -⟩ := appT_own o4 (Fs.below S2.out C4) b4.size (by omega)
        have b5 := o4.below b4 b4.size g5
        have C5 : Hid (Below w3.heap.size w3 w5) := Lib.hid b5
        have B5 := Lib.hid (B3.out.trans (b5.mono B3.out.size))
        have S5 := Lib.hid (FOwn.sl tcell_len o5)
        have hml : m ≤ 1200 := by rw [← hm, List.length_append]; omega
        have HS := Lib.hid (rsamet_any (TA ++ TB) (TA ++ TB) _ x2 w5 (Fs.below S3.out b5) (FOwn.sl tcell_len o5) (by omega) (by omega))
        rw [decide_eq_true (rfl : TA ++ TB = TA ++ TB)] at HS
        have HE := Lib.hid (fun W (h : Below w5.heap.size w5 W) => esame_any (TA ++ TB) (TA ++ TB) _ x2 W (Fs.below S3.out (b5.trans (h.mono b5.size))) (Fs.below S5.out h) (by omega) (by omega))
        rw [decide_eq_true (rfl : TA ++ TB = TA ++ TB)] at HE
        clear o3 b3 o4 g4 b4 C4 o5 g5 b5 hm HAB2
        go_wp2_with fail
        refine HS.out.mono ?_
        rintro e w6 ⟨rfl, b6⟩
        have B6 := Lib.hid (B5.out.trans (b6.mono B5.out.size))
        have HE6 := Lib.hid (HE.out w6 b6)
        clear b6 HS HE
        go_wp2_with fail
        refine HE6.out.mono ?_
        rintro e w7 ⟨rfl, b7⟩
        have B7 := Lib.hid (B6.out.trans (b7.mono B6.out.size))
        have HK7 := Lib.hid (known_any w7 (HM.out.below B7.out))
        clear b7 HE6
        go_wp2_with fail
        refine HK7.out.mono ?_
        rintro e w8 ⟨rfl, b8⟩
        go_wp2_with fail
        go_ret
        exact ⟨rfl, B7.out.trans (b8.mono B7.out.size)⟩
theorem joins_law_any (a b : ByteArray) (w : World) (hM : Mx w) (ma : a.size ≤ maxLen) (mb : b.size ≤ maxLen) :
    Calls Tryd.prog 7 #[.string a, .string b] w fun e W' => e = .returned (.bool true) ∧ Below w.heap.size w W' := by
  have ha : (⟨a.data.toList.toArray⟩ : ByteArray) = a := by cases a; simp
  have hb : (⟨b.data.toList.toArray⟩ : ByteArray) = b := by cases b; simp
  have := joinsL_any a.data.toList b.data.toList w hM (by rw [← Lib.size_eq]; exact ma) (by rw [← Lib.size_eq]; exact mb)
  rw [ha, hb] at this
  exact this
end Go.Proofs.YtdpakljfdfomfaaDoor
