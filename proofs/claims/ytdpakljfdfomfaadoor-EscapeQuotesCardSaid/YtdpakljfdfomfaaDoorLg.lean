/- The walk of EscapeQuotes. -/
import Derived.Test.YtdpakljfdfomfaaDoorEs
import Derived.Test.YtdpakljfdfomfaaDoorEw
import Derived.Test.YtdpakljfdfomfaaDoorEv
namespace Go.Proofs.YtdpakljfdfomfaaDoor
open Go.RowKit

theorem oneQ_blank {c : Int} (h : c = 32 ∨ c = 9) : oneQ c = (2, 0) := by unfold oneQ; rw [if_pos h]
theorem oneQ_other {c : Int} (h : ¬ (c = 32 ∨ c = 9)) (hv : vld c = true) : oneQ c = (1, sf c) := by
  unfold oneQ
  rw [if_neg h]
  cases hc : ctl c with
  | true =>
    rw [if_pos rfl]
    unfold sf
    rw [if_neg (by rintro ⟨_, h2⟩; rw [hc] at h2; cases h2)]
  | false =>
    rw [if_neg (by decide), sf_of hv hc]

set_option maxRecDepth 100000 in
set_option maxHeartbeats 16000000 in
theorem quotesL_any (b : List UInt8) (w : World) (hM : Mx w) (ms : b.length ≤ maxLen) :
    Calls Tryd.prog 6 #[.string ⟨b.toArray⟩] w fun e W' => e = .returned (.bool true) ∧ Below w.heap.size w W' := by
  have HM := Lib.hid hM
  have hsz : (⟨b.toArray⟩ : ByteArray).size = b.length := by simp [Go.Lib.size_eq]
  by_cases h1 : 800 < b.length
  · have HK := Lib.hid (known_any w HM.out)
    have hz : (800 : Int) < (b.length : Int) := by omega
    clear hM
    go_enter Tryd.func6, Tryd.ntmps6
    go_wp2_with (go_at_call 10; refine HK.out.mono ?_; rintro e w' ⟨rfl, hb⟩)
    go_ret
    exact ⟨rfl, hb⟩
  · have hz : ¬ (800 : Int) < (b.length : Int) := by omega
    have hbl : b.length ≤ 800 := by omega
    have hql := quoteB_len b
    have HQ := Lib.hid (quote_any b w hM (by omega))
    have HA := Lib.hid (fun W => scan_any (quoteB b) W (by omega))
    have HDC := Lib.hid (fun W u (h : By W u b) => rdecode_any b (by omega) u W h)
    have hdl := dec_le b
    unfold ScanEnd at HA
    obtain ⟨t1, t2, t3⟩ := quote_scan b
    have HV := Lib.hid (dec_vld _ b (Nat.le_refl _))
    obtain ⟨DD, hDD⟩ : ∃ DD, (scanL 0 (dec (quoteB b))).2 = DD := ⟨_, rfl⟩
    have t1' : (scanL 0 (dec (quoteB b))).1 = (dec b).map oneQ := t1
    rw [t1', hDD] at HA
    rw [hDD] at t2 t3
    obtain ⟨L, hL⟩ : ∃ L, dec b = L := ⟨_, rfl⟩
    rw [hL] at HA HDC hdl HV t2
    have HT3 := Lib.hid t3
    have HT2 := Lib.hid t2
    have hcl := cnt_le L
    obtain ⟨q, hq⟩ : ∃ q, quoteB b = q := ⟨_, rfl⟩
    rw [hq] at HQ HA
    have hml : (L.map oneQ).length = L.length := by rw [List.length_map]
    obtain ⟨TT, hTT⟩ : ∃ TT, L.map oneQ = TT := ⟨_, rfl⟩
    have HTA := Lib.hid (show ∀ j c, L[j]? = some c → TT[j]? = some (oneQ c) from fun j c h => by rw [← hTT, List.getElem?_map, h]; rfl)
    rw [hTT] at HA hml
    obtain ⟨N, hN⟩ : ∃ N, L.length = N := ⟨_, rfl⟩
    have HLN := Lib.hid hN
    have HML := Lib.hid (hml.trans hN)
    rw [hN] at hdl hcl
    have hddl : DD.length ≤ 800 := by have := HT2.out; omega
    clear hM t1 t1' t2 t3 hL hDD hq hTT hN hml hql h1
    go_enter Tryd.func6, Tryd.ntmps6
    go_wp2_with fail
    refine HQ.out.mono ?_
    rintro e w0 ⟨rfl, b0⟩
    have B0 := Lib.hid b0
    have HA0 := Lib.hid (HA.out w0)
    clear b0 HQ HA
    go_wp2_with fail
    refine HA0.out.mono ?_
    rintro e w1 ⟨vt, vd, rfl, o1, o2, b1⟩
    have S1 := Lib.hid (FOwn.sl tcell_len o1)
    have S2 := Lib.hid (FOwn.sl dcell_len o2)
    obtain ⟨a1, c1, hx1⟩ := S1.out.len
    rw [HML.out] at hx1
    subst hx1
    obtain ⟨a2, c2, rfl⟩ := S2.out.len
    have B1 := Lib.hid (B0.out.trans (b1.mono B0.out.size))
    obtain ⟨u2, w2, k2, s2, b2⟩ := bytes_of_str w1 b
    have C2 := Lib.hid b2
    have HD := Lib.hid (HDC.out w2 u2 s2)
    clear o1 o2 b1 s2 b2 HA0 HDC B0
    go_wp2_with fail
    refine HD.out.mono ?_
    rintro e w3 ⟨u3, rfl, s3, b3⟩
    have C3 := Lib.hid (C2.out.trans (b3.mono C2.out.size))
    have S3 := Lib.hid s3
    obtain ⟨a3, c3, hx3⟩ := s3.len
    rw [HLN.out] at hx3
    subst hx3
    have S13 := Lib.hid (Fs.below S1.out C3.out)
    have S23 := Lib.hid (Fs.below S2.out C3.out)
    have B3 := Lib.hid (B1.out.trans (C3.out.mono B1.out.size))
    clear s3 b3 HD C2 C3 S1 S2 B1
    go_wp2_with fail
    go_loopw [6, 7] (fun v i wr => ∃ j : Nat, j ≤ N ∧ i = .int .i64 j ∧ v = .int .i64 (cntB (L.take j) : Nat) ∧ Below w3.heap.size w3 wr) (fun _ i _ => N - (intOf i).toNat)
    case atStart => exact ⟨0, by omega, rfl, rfl, Below.refl _ _⟩
    case round =>
      obtain ⟨j, hj, rfl, rfl, hbw⟩ := hrel
      have HBW := Lib.hid hbw
      by_cases hlt : j < N
      · obtain ⟨c, hc⟩ : ∃ c, L[j]? = some c := ⟨L[j]'(by have := HLN.out; omega), List.getElem?_eq_getElem _⟩
        obtain ⟨g, off, rfl, q0, q1⟩ := (Fs.below S13.out hbw).t (HTA.out j c hc)
        obtain ⟨g3, o3, rfl, p0⟩ := (S3.out.below hbw).at hc
        have hv := HV.out c (List.mem_of_getElem? hc)
        have HCN := Lib.hid (cnt_snoc hc)
        have hcb := cnt_le (L.take j)
        rw [List.length_take] at hcb
        obtain ⟨K, hK⟩ : ∃ K, cntB (L.take j) = K := ⟨_, rfl⟩
        rw [hK] at HCN hcb ⊢
        have hi0 : (j : Int) < (N : Int) := by omega
        have hi1 : (0 : Int) ≤ (j : Int) := by omega
        have hKb : K ≤ 800 := by omega
        by_cases hb : c = 32 ∨ c = 9
        · rw [oneQ_blank hb] at q0 q1
          have hbad : badC c = false := by simp [badC, hb]
          rw [hbad] at HCN
          clear hc hv hK hbw hcb
          simp only at q0 q1
          rcases hb with rfl | rfl
          all_goals
            go_wp2_with fail
            go_quiet (fail)
            go_wp2
            go_roundw
            case rel => exact ⟨j + 1, by omega, by go_num, by rw [HCN.out]; rfl, below_drewN HBW.out _⟩
            case measure => simp [intOf]; omega
        · rw [oneQ_other hb hv] at q0 q1
          have HSf := Lib.hid (fun W => (rsafe_any c W).mono (fun e w' h => show e = .returned (.int .i32 (sf c)) ∧ w' = W from ⟨h.1, h.2.symm⟩))
          have HCt := Lib.hid (fun W => rcontrol_any c W)
          obtain ⟨S, hS⟩ : ∃ S, sf c = S := ⟨_, rfl⟩
          simp only at q0 q1
          rw [hS] at q1 HSf
          have e32 : (c == 32) = false := by simpa using fun h : c = 32 => hb (.inl h)
          have e9 : (c == 9) = false := by simpa using fun h : c = 9 => hb (.inr h)
          cases hct : ctl c with
          | true =>
            rw [hct] at HCt
            have hbad : badC c = true := by simp [badC, hb, hct]
            rw [hbad] at HCN
            clear hc hv hK hbw hcb hS hct hb hbad
            go_wp2_with fail
            go_quiet ((go_at_call 22; exact Calls.quiet_of_same (HSf.out _)))
            go_wp2_with (go_at_call 23; refine (HCt.out _).mono ?_; rintro e w' ⟨rfl, rfl⟩)
            go_roundw
            case rel => exact ⟨j + 1, by omega, by go_num, by rw [HCN.out]; rfl, below_drewN HBW.out _⟩
            case measure => simp [intOf]; omega
          | false =>
            rw [hct] at HCt
            have hbad : badC c = false := by simp [badC, hb, hct]
            rw [hbad] at HCN
            clear hc hv hK hbw hcb hS hct hb hbad
            go_wp2_with fail
            go_quiet ((go_at_call 22; exact Calls.quiet_of_same (HSf.out _)))
            go_wp2_with (go_at_call 23; refine (HCt.out _).mono ?_; rintro e w' ⟨rfl, rfl⟩)
            go_roundw
            case rel => exact ⟨j + 1, by omega, by go_num, by rw [HCN.out]; rfl, below_drewN HBW.out _⟩
            case measure => simp [intOf]; omega
      · obtain rfl : j = N := by omega
        have hfin : cntB (L.take j) = DD.length := by rw [← HLN.out, List.take_length]; exact HT2.out.symm
        rw [hfin]
        have S24 := Lib.hid (Fs.below S23.out hbw)
        have B4 := Lib.hid (B3.out.trans (hbw.mono B3.out.size))
        clear hbw HBW S13 S23 B3 hfin S3
        go_wp2_with fail
        obtain ⟨wo, hwo⟩ : ∃ x : World, x = wr := ⟨_, rfl⟩
        rw [← hwo] at S24 B4 ⊢
        clear hwo
        go_loopw [9] (fun i wr => ∃ j : Nat, j ≤ DD.length ∧ i = .int .i64 j ∧ Below wo.heap.size wo wr) (fun i _ => DD.length - (intOf i).toNat)
        case atStart => exact ⟨0, by omega, rfl, Below.refl _ _⟩
        case round =>
          obtain ⟨j, hj, rfl, hbw⟩ := hrel
          have HBW := Lib.hid hbw
          by_cases hlt : j < DD.length
          · obtain ⟨d, hd⟩ : ∃ d, DD[j]? = some d := ⟨DD[j], List.getElem?_eq_getElem hlt⟩
            obtain ⟨g, off, rfl, q0, q1, q2⟩ := (Fs.below S24.out hbw).d hd
            rw [HT3.out d (List.mem_of_getElem? hd)] at q0
            have hi0 : (j : Int) < (DD.length : Int) := by omega
            have hi1 : (0 : Int) ≤ (j : Int) := by omega
            clear hd hbw q1 q2
            go_wp2_with fail
            go_roundw
            case rel => exact ⟨j + 1, by omega, by go_num, HBW.out⟩
            case measure => simp [intOf]; omega
          · obtain rfl : j = DD.length := by omega
            have BB := Lib.hid (B4.out.trans (hbw.mono B4.out.size))
            have HK := Lib.hid (known_any wr (HM.out.below BB.out))
            clear hbw HBW S24 B4
            go_wp2_with fail
            refine HK.out.mono ?_
            rintro e w5 ⟨rfl, b5⟩
            go_wp2_with fail
            go_ret
            exact ⟨rfl, BB.out.trans (b5.mono BB.out.size)⟩
theorem quotes_law_any (s : ByteArray) (w : World) (hM : Mx w) (ms : s.size ≤ maxLen) :
    Calls Tryd.prog 6 #[.string s] w fun e W' => e = .returned (.bool true) ∧ Below w.heap.size w W' := by
  have hs : (⟨s.data.toList.toArray⟩ : ByteArray) = s := by cases s; simp
  have := quotesL_any s.data.toList w hM (by rw [← Lib.size_eq]; exact ms)
  rw [hs] at this
  exact this
end Go.Proofs.YtdpakljfdfomfaaDoor
