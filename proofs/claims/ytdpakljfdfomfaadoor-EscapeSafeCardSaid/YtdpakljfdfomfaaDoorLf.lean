/- The walk of EscapeSafe. -/
import Derived.Test.YtdpakljfdfomfaaDoorEs
import Derived.Test.YtdpakljfdfomfaaDoorEv
namespace Go.Proofs.YtdpakljfdfomfaaDoor
open Go.RowKit

set_option maxRecDepth 100000 in
set_option maxHeartbeats 16000000 in
theorem safeL_any (b : List UInt8) (w : World) (hM : Mx w) (ms : b.length ≤ maxLen) :
    Calls Tryd.prog 5 #[.string ⟨b.toArray⟩] w fun e W' => e = .returned (.bool true) ∧ Below w.heap.size w W' := by
  have HM := Lib.hid hM
  have hsz : (⟨b.toArray⟩ : ByteArray).size = b.length := by simp [Go.Lib.size_eq]
  clear hM
  by_cases h1 : 1500 < b.length
  · have HK := Lib.hid (known_any w HM.out)
    have hz : (1500 : Int) < (b.length : Int) := by omega
    go_enter Tryd.func5, Tryd.ntmps5
    go_wp2_with (go_at_call 10; refine HK.out.mono ?_; rintro e w' ⟨rfl, hb⟩)
    go_ret
    exact ⟨rfl, hb⟩
  · have hz : ¬ (1500 : Int) < (b.length : Int) := by omega
    have hbl : b.length ≤ 1500 := by omega
    have HA := Lib.hid (scan_any b w (by omega))
    have HDC := Lib.hid (fun W u (h : By W u b) => rdecode_any b (by omega) u W h)
    have hdl := dec_le b
    unfold ScanEnd at HA
    have HTK := Lib.hid (fun t (h : t ∈ tk (dec b)) => tk_ok _ (dec b) (Nat.le_refl _) (dec_vld _ b (Nat.le_refl _)) t h)
    have HDG := Lib.hid (fun i d (h : (scanL 0 (dec b)).2[i]? = some d) => scan_okD (dec b) h)
    have HRI := Lib.hid (fun i c d (h : (scanL 0 (dec b)).2[i]? = some c) (h' : (scanL 0 (dec b)).2[i + 1]? = some d) => scan_rise (dec b) h h')
    have hln := scan_len (dec b)
    obtain ⟨L, hL⟩ : ∃ L, dec b = L := ⟨_, rfl⟩
    rw [hL] at HA HDC HTK HDG HRI hln hdl
    obtain ⟨TT, hTT⟩ : ∃ TT, (scanL 0 L).1 = TT := ⟨_, rfl⟩
    obtain ⟨DD, hDD⟩ : ∃ DD, (scanL 0 L).2 = DD := ⟨_, rfl⟩
    have hTT' : tk L = TT := hTT
    rw [hTT, hDD] at HA hln
    rw [hTT'] at HTK
    rw [hDD] at HDG HRI
    obtain ⟨htl, hdl2⟩ := hln
    obtain ⟨N, hN⟩ : ∃ N, L.length = N := ⟨_, rfl⟩
    rw [hN] at HDG htl hdl2 hdl
    have HLN := Lib.hid hN
    clear hTT hDD hTT' hL h1 hN
    go_enter Tryd.func5, Tryd.ntmps5
    go_wp2_with fail
    refine HA.out.mono ?_
    rintro e w1 ⟨vt, vd, rfl, o1, o2, b1⟩
    have S1 := Lib.hid (FOwn.sl tcell_len o1)
    have S2 := Lib.hid (FOwn.sl dcell_len o2)
    obtain ⟨a1, c1, rfl⟩ := S1.out.len
    obtain ⟨a2, c2, rfl⟩ := S2.out.len
    have B1 := Lib.hid b1
    obtain ⟨u2, w2, k2, s2, b2⟩ := bytes_of_str w1 b
    have C2 := Lib.hid b2
    have HD := Lib.hid (HDC.out w2 u2 s2)
    clear o1 o2 b1 s2 b2 HA HDC
    go_wp2_with fail
    refine HD.out.mono ?_
    rintro e w3 ⟨u3, rfl, s3, b3⟩
    have C3 := Lib.hid (C2.out.trans (b3.mono C2.out.size))
    obtain ⟨a3, c3, rfl⟩ := s3.len
    rw [HLN.out]
    have S13 := Lib.hid (Fs.below S1.out C3.out)
    have S23 := Lib.hid (Fs.below S2.out C3.out)
    have B3 := Lib.hid (B1.out.trans (C3.out.mono B1.out.size))
    clear s3 b3 HD C2 C3 S1 S2 B1
    go_wp2_with fail
    go_loopw [6] (fun i wr => ∃ j : Nat, j ≤ TT.length ∧ i = .int .i64 j ∧ Below w3.heap.size w3 wr) (fun i _ => TT.length - (intOf i).toNat)
    case atStart => exact ⟨0, by omega, rfl, Below.refl _ _⟩
    case round =>
      obtain ⟨j, hj, rfl, hbw⟩ := hrel
      have HBW := Lib.hid hbw
      by_cases hlt : j < TT.length
      · obtain ⟨t, ht⟩ : ∃ t, TT[j]? = some t := ⟨TT[j], List.getElem?_eq_getElem hlt⟩
        obtain ⟨g, off, rfl, q0, q1⟩ := (Fs.below S13.out hbw).t ht
        have hok := HTK.out t (List.mem_of_getElem? ht)
        have hi0 : (j : Int) < (TT.length : Int) := by omega
        have hi1 : (0 : Int) ≤ (j : Int) := by omega
        obtain ⟨tk1, tr⟩ := t
        simp only at q0 q1 hok
        clear ht hbw
        rcases hok with ⟨rfl, hs⟩ | ⟨rfl, rfl⟩ | ⟨rfl, h0, h4⟩
        · simp only at hs q0 q1
          have HSf := Lib.hid (fun W => (rsafe_any tr W).mono (fun e w' h => show e = .returned (.int .i32 tr) ∧ w' = W from ⟨hs ▸ h.1, h.2.symm⟩))
          clear hs
          go_wp2_with fail
          go_quiet ((go_at_call 22; exact Calls.quiet_of_same (HSf.out _)))
          go_wp2
          go_roundw
          case rel => exact ⟨j + 1, by omega, by go_num, below_drewN HBW.out _⟩
          case measure => simp [intOf]; omega
        · go_wp2_with fail
          go_roundw
          case rel => exact ⟨j + 1, by omega, by go_num, HBW.out⟩
          case measure => simp [intOf]; omega
        · simp only at h0 h4 q0 q1
          have h0' : ¬ tr < 0 := by omega
          have h4' : ¬ 4 < tr := by omega
          go_wp2_with fail
          go_roundw
          case rel => exact ⟨j + 1, by omega, by go_num, HBW.out⟩
          case measure => simp [intOf]; omega
      · obtain rfl : j = TT.length := by omega
        have S24 := Lib.hid (Fs.below S23.out hbw)
        have B4 := Lib.hid (B3.out.trans (hbw.mono B3.out.size))
        clear hbw HBW S13 S23 HTK B3
        obtain ⟨w4, hw4⟩ : ∃ x, wr = x := ⟨_, rfl⟩
        subst hw4
        go_wp2_with fail
        obtain ⟨wo, hwo⟩ : ∃ x : World, x = wr := ⟨_, rfl⟩
        rw [← hwo] at S24 B4 ⊢
        clear hwo
        go_loopw [7] (fun i wr => ∃ j : Nat, j ≤ DD.length ∧ i = .int .i64 j ∧ Below wo.heap.size wo wr) (fun i _ => DD.length - (intOf i).toNat)
        case atStart => exact ⟨0, by omega, rfl, Below.refl _ _⟩
        case round =>
          obtain ⟨j, hj, rfl, hbw⟩ := hrel
          have HBW := Lib.hid hbw
          by_cases hlt : j < DD.length
          · obtain ⟨d, hd⟩ : ∃ d, DD[j]? = some d := ⟨DD[j], List.getElem?_eq_getElem hlt⟩
            have S25 := Lib.hid (Fs.below S24.out hbw)
            obtain ⟨g, off, rfl, q0, q1, q2⟩ := S25.out.d hd
            obtain ⟨e1, e2, e3, e4, e5⟩ := HDG.out j d hd
            obtain ⟨dk, dl, dc⟩ := d
            simp only at q0 q1 q2 e1 e2 e3 e4 e5
            subst e1
            have n2 : ¬ dc < 1 := by omega
            have n3 : ¬ (N : Int) < dc := by omega
            have n4 : ¬ dk < 1 := by omega
            have n5 : ¬ 3 < dk := by omega
            have m2 : decide (dc < 1) = false := by simpa using n2
            have m3 : decide ((N : Int) < dc) = false := by simpa using n3
            have m4 : decide (dk < 1) = false := by simpa using n4
            have m5 : decide (3 < dk) = false := by simpa using n5
            cases j with
            | zero =>
              have hi0 : (0 : Int) < (DD.length : Int) := by omega
              have q0' : wr.cell? ⟨g, off, none⟩ = some (.int .i64 dk) := by simpa using q0
              have q1' : wr.cell? ⟨g, off + 1, none⟩ = some (.int .i64 0) := by simpa using q1
              have q2' : wr.cell? ⟨g, off + 2, none⟩ = some (.int .i64 dc) := by simpa using q2
              clear hd hbw q0 q1 q2 S25
              go_wp2_with fail
              go_quiet (fail)
              go_wp2
              go_roundw
              case rel => exact ⟨1, by omega, by go_num, below_drewN HBW.out _⟩
              case measure => simp [intOf]; omega
            | succ i =>
              obtain ⟨c, hc⟩ : ∃ c, DD[i]? = some c := ⟨DD[i]'(by omega), List.getElem?_eq_getElem _⟩
              obtain ⟨g', off', he, r0, r1, r2⟩ := S25.out.d hc
              cases he
              have hrise := HRI.out i c (dk, 0, dc) hc hd
              obtain ⟨ck, cl, cc⟩ := c
              simp only at hrise r2
              have n6 : ¬ dc ≤ cc := by omega
              have m6 : decide (dc ≤ cc) = false := by simpa using n6
              have hi0 : (i : Int) + 1 < (DD.length : Int) := by omega
              have hi1 : (0 : Int) ≤ (i : Int) + 1 := by omega
              have hi2 : (0 : Int) < (i : Int) + 1 := by omega
              have hi3 : (i : Int) < (DD.length : Int) := by omega
              have hi4 : (0 : Int) ≤ (i : Int) := by omega
              have hw1 : IntKind.i64.wrap ((i : Int) + 1 - 1) = (i : Int) := by rw [show (i : Int) + 1 - 1 = i by omega]; exact IntWalk.i64_in _ (by omega)
              have hw2 : (i : Int) + 1 - 1 = (i : Int) := by omega
              clear hd hbw hc S25 r0 r1 hrise
              go_wp2_with fail
              go_quiet (fail)
              go_wp2
              go_roundw
              case rel => exact ⟨i + 1 + 1, by omega, by go_num, below_drewN HBW.out _⟩
              case measure => simp [intOf]; omega
          · obtain rfl : j = DD.length := by omega
            have BB := Lib.hid (B4.out.trans (hbw.mono B4.out.size))
            have HK := Lib.hid (known_any wr (HM.out.below BB.out))
            have hle : (TT.length : Int) ≤ (N : Int) := by omega
            clear hbw HBW S24 B4
            go_wp2_with fail
            refine HK.out.mono ?_
            rintro e w5 ⟨rfl, b5⟩
            go_wp2_with fail
            go_ret
            exact ⟨rfl, BB.out.trans (b5.mono BB.out.size)⟩
theorem safe_law_any (s : ByteArray) (w : World) (hM : Mx w) (ms : s.size ≤ maxLen) :
    Calls Tryd.prog 5 #[.string s] w fun e W' => e = .returned (.bool true) ∧ Below w.heap.size w W' := by
  have hs : (⟨s.data.toList.toArray⟩ : ByteArray) = s := by cases s; simp
  have := safeL_any s.data.toList w hM (by rw [← Lib.size_eq]; exact ms)
  rw [hs] at this
  exact this
end Go.Proofs.YtdpakljfdfomfaaDoor
