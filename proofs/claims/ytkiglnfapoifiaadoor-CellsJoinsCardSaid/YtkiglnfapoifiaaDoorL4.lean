/- The walk of CellsTexts. -/
import Derived.Test.YtkiglnfapoifiaaDoorGd
import Derived.Test.YtkiglnfapoifiaaDoorG4
namespace Go.Proofs.YtkiglnfapoifiaaDoor
open Go.RowKit

theorem rn_of (D : List Int) (s : Int) : rn (D.map fun r => (r, s)) = D := by
  induction D with
  | nil => rfl
  | cons x D ih => simp only [rn, List.map_cons] at ih ⊢; rw [ih]
theorem dec_i32 (b : List UInt8) : ∀ z ∈ dec b, -2147483648 ≤ z ∧ z ≤ 2147483647 := by
  intro z hz
  have := dec_vld _ b (Nat.le_refl _) z hz
  simp only [vld, decide_eq_true_eq] at this
  omega
set_option maxRecDepth 100000 in
set_option maxHeartbeats 4000000 in
theorem textsL_any (b : List UInt8) (s : Int) (w : World) (hT : Tabs w) (ms : b.length ≤ maxLen) :
    Calls Tryd.prog 4 #[.string ⟨b.toArray⟩, .int .u8 s] w fun e W' => e = .returned (.bool true) ∧ Below w.heap.size w W' := by
  unfold maxLen at ms
  have HT := Lib.hid hT
  have hsz : (⟨b.toArray⟩ : ByteArray).size = b.length := by simp [Go.Lib.size_eq]
  clear hT
  by_cases h1 : 1000 < b.length
  · have HK := Lib.hid (known_any w HT.out)
    have hz : (1000 : Int) < (b.length : Int) := by omega
    go_enter Tryd.func4, Tryd.ntmps4
    go_wp2_with (go_at_call 10; refine HK.out.mono ?_; rintro e w' ⟨rfl, hb⟩)
    go_ret
    exact ⟨rfl, hb⟩
  · have hz : ¬ (1000 : Int) < (b.length : Int) := by omega
    have hbl : b.length ≤ 1000 := by omega
    have dl := dec_le b
    have de := enc_len (dec b)
    have HO := Lib.hid (of_any b s w (by omega))
    have HDC := Lib.hid (fun W u (h : By W u b) => rdecode_any b (by omega) u W h)
    have HI := Lib.hid (dec_i32 b)
    have HRO := Lib.hid (fun W => rof_any b s W (by omega))
    obtain ⟨B, hB⟩ : ∃ B, (enc (dec b) == b) = B := ⟨_, rfl⟩
    obtain ⟨D, hD⟩ : ∃ D, dec b = D := ⟨_, rfl⟩
    rw [hD] at dl de HO HDC HI HRO hB
    have HEN := Lib.hid (fun W u (h : Sl .i32 W u D) => rencode_any D (by omega) HI.out u W h)
    have hLl : (D.map fun r => (r, s)).length = D.length := by simp
    have hLr : rn (D.map fun r => (r, s)) = D := rn_of D s
    obtain ⟨L, hL⟩ : ∃ L, (D.map fun r => (r, s)) = L := ⟨_, rfl⟩
    rw [hL] at HO HRO hLl hLr
    have HTX := Lib.hid (fun W v (h : Gs W v L) => text_any L v W h (by omega))
    rw [hLr] at HTX
    obtain ⟨E, hE⟩ : ∃ E, enc D = E := ⟨_, rfl⟩
    rw [hE] at HTX HEN hB de
    have hLle : L.length ≤ 1000 := by omega
    clear hD hE hL hLr hLl
    go_enter Tryd.func4, Tryd.ntmps4
    go_wp2_with fail
    refine HO.out.mono ?_
    rintro e w1 ⟨u1, rfl, o1, b1⟩
    have S1 := Lib.hid (FOwn.sl gcell_len o1)
    have B1 := Lib.hid b1
    have z1 := b1.size
    obtain ⟨u2, w2, k2, s2, b2⟩ := bytes_of_str w1 b
    have HD := Lib.hid (HDC.out w2 u2 s2)
    have B2 := Lib.hid (B1.out.trans (b2.mono z1))
    have C2 := Lib.hid b2
    have y2 := b2.size
    clear o1 b1 s2 b2 HO HDC
    go_wp2_with fail
    refine HD.out.mono ?_
    rintro e w3 ⟨u3, rfl, s3, b3⟩
    have C3 := Lib.hid (C2.out.trans (b3.mono y2))
    have HE := Lib.hid (HEN.out w3 u3 s3)
    clear s3 b3 HD HEN
    go_wp2_with fail
    refine HE.out.mono ?_
    rintro e w4 ⟨u4, rfl, s4, b4⟩
    have C4 := Lib.hid (C3.out.trans (b4.mono C3.out.size))
    have k4 := str_of_bytes s4
    have HR := Lib.hid (HRO.out w4)
    clear s4 b4 HE HRO
    go_wp2_with fail
    refine HR.out.mono ?_
    rintro e w5 ⟨u5, rfl, o5, b5⟩
    have C5 := Lib.hid (C4.out.trans (b5.mono C4.out.size))
    have HS := Lib.hid (rsameg_any L L u1 u5 w5 (Fs.below S1.out C5.out) (o5.sl gcell_len) (by omega) (by omega))
    rw [decide_eq_true (rfl : L = L)] at HS
    clear o5 b5 HR
    go_wp2_with fail
    refine HS.out.mono ?_
    rintro e w6 ⟨rfl, b6⟩
    have C6 := Lib.hid (C5.out.trans (b6.mono C5.out.size))
    have HX := Lib.hid (HTX.out w6 u1 (Fs.below S1.out C6.out))
    clear b6 HS HTX
    go_wp2_with fail
    refine HX.out.mono ?_
    rintro e w7 ⟨rfl, b7⟩
    have C7 := Lib.hid (C6.out.trans (b7.mono C6.out.size))
    have B7 := Lib.hid (B1.out.trans (C7.out.mono z1))
    have HK := Lib.hid (known_any w7 (HT.out.below B7.out))
    clear b7 HX
    go_wp2_with fail
    refine HK.out.mono ?_
    rintro e w8 ⟨rfl, b8⟩
    go_wp2_with fail
    go_ret
    exact ⟨rfl, B7.out.trans (b8.mono B7.out.size)⟩
theorem texts_any (s : ByteArray) (q : Int) (w : World) (hT : Tabs w) (ms : s.size ≤ maxLen) :
    Calls Tryd.prog 4 #[.string s, .int .u8 q] w fun e W' => e = .returned (.bool true) ∧ Below w.heap.size w W' := by
  have hs : (⟨s.data.toList.toArray⟩ : ByteArray) = s := by cases s; simp
  have := textsL_any s.data.toList q w hT (by rw [← Lib.size_eq]; exact ms)
  rw [hs] at this
  exact this
end Go.Proofs.YtkiglnfapoifiaaDoor
