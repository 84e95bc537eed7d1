/- The document's own Scan. -/
import Derived.Test.YtgfmpndojjopnaaEo
namespace Go.Proofs.Ytgfmpndojjopnaa
open Go.RowKit
attribute [local go_sem ↓ high] builtin_appT builtin_appDg

def SAt (w1 : World) (B : Nat) (lv : Value) (L : List Int) (TT : List Tok) (DD : List Dg) (p : Nat) (W : World) : Prop :=
  ∃ T D tv dv, Sx w1 B lv L W T D tv dv ∧ Sofar L TT DD p T D
theorem dec_bd (b : List UInt8) : ∀ z ∈ dec b, -2147483648 ≤ z ∧ z ≤ 2147483647 := by
  intro z hz
  have := dec_vld _ b (Nat.le_refl _) z hz
  simp only [vld, decide_eq_true_eq] at this
  omega

set_option maxRecDepth 100000 in
set_option maxHeartbeats 8000000 in
theorem rscan_any (b : List UInt8) (w : World) (hb : b.length ≤ 2000) : Calls Try.prog 20 #[.string ⟨b.toArray⟩] w (ScanEnd w b) := by
  obtain ⟨u0, w0, k0, s0, b0⟩ := bytes_of_str w b
  have HD := Lib.hid (rdecode_any b hb u0 w0 s0)
  have hdl := dec_le b
  have HZR := Lib.hid (dec_bd b)
  unfold ScanEnd
  obtain ⟨L, hL⟩ : ∃ L, dec b = L := ⟨_, rfl⟩
  rw [hL] at HD hdl HZR ⊢
  have HS0 := Lib.hid (Sofar.start L)
  obtain ⟨TT, hTT⟩ : ∃ TT, (scanL 0 L).1 = TT := ⟨_, rfl⟩
  obtain ⟨DD, hDD⟩ : ∃ DD, (scanL 0 L).2 = DD := ⟨_, rfl⟩
  rw [hTT, hDD] at HS0 ⊢
  have B0 := Lib.hid b0
  have z0 := b0.size
  clear hL hTT hDD s0 b0
  go_enter Try.func20, Try.ntmps20
  go_wp2_with fail
  refine HD.out.mono ?_
  rintro e w1 ⟨u1, rfl, s1, b1⟩
  have B1 := Lib.hid (B0.out.trans (b1.mono z0))
  have S1 := Lib.hid s1
  obtain ⟨a1, c1, rfl⟩ := s1.len
  clear b1 HD s1
  go_wp2_with fail
  obtain ⟨B, hB⟩ : ∃ B, w1.heap.size = B := ⟨_, rfl⟩
  have HR0 : Hid (Sx w1 w1.heap.size (.slice a1 L.length c1) L (w1.alloc (.cells #[.slice none 0 0, .slice none 0 0] 67)) [] [] (.slice none 0 0) (.slice none 0 0)) :=
    Lib.hid ⟨rfl, S1.out, below_lit w1 _, heap_alloc_new w1 _, FOwn.nil _ _, FOwn.nil _ _⟩
  have hwB : w.heap.size ≤ B := by have := B1.out.size; omega
  have HB1 := Lib.hid B1.out
  rw [hB] at HR0 ⊢
  obtain ⟨W2, hW2⟩ : ∃ W2, w1.alloc (.cells #[.slice none 0 0, .slice none 0 0] 67) = W2 := ⟨_, rfl⟩
  rw [hW2] at HR0 ⊢
  obtain ⟨N, hN⟩ : ∃ N, L.length = N := ⟨_, rfl⟩
  rw [hN] at HR0 hdl ⊢
  have HLN := Lib.hid hN
  clear hW2 hB B1 B0 hN S1
  go_loopw [6] (fun i wr => ∃ p : Nat, p ≤ N ∧ i = .int .i64 p ∧ SAt w1 B (.slice a1 N c1) L TT DD p wr) (fun i _ => N - (intOf i).toNat)
  case atStart => exact ⟨0, by omega, rfl, [], [], _, _, HR0.out, HS0.out⟩
  case round =>
    obtain ⟨p, hp, rfl, T, D, tv, dv, hR, hS⟩ := hrel
    have HR := Lib.hid hR
    have HSo := Lib.hid hS
    have tl := hS.tl
    have dl := hS.dl
    have k5 : wr.cell? ⟨B, 0, none⟩ = some tv := hR.b.cell 0
    have k6 : wr.cell? ⟨B, 1, none⟩ = some dv := hR.b.cell 1
    obtain ⟨ta, tc, hx1⟩ := (FOwn.sl tcell_len hR.t).len
    obtain ⟨da, dc, hx2⟩ := (FOwn.sl dcell_len hR.d).len
    have blt := hR.lt
    subst hx1 hx2
    clear hS HR0 HS0 hR
    by_cases hlt : p < N
    · obtain ⟨c, hc⟩ : ∃ c, L[p]? = some c := ⟨L[p]'(by have := HLN.out; omega), List.getElem?_eq_getElem _⟩
      obtain ⟨g, off, rfl, c5⟩ := (HR.out.text).at hc
      have hi0 : (p : Int) < (N : Int) := by omega
      have hi1 : (0 : Int) ≤ (p : Int) := by omega
      have HST := Lib.hid (step_at hc)
      have HNX := Lib.hid (fun t d k (h : stepL (L.drop p) = (t, d, k)) => HSo.out.next (by have := HLN.out; omega) h)
      by_cases c92 : c = 92
      · subst c92
        obtain ⟨⟨t, d, k⟩, hs⟩ : ∃ q, escL (L.drop (p + 1)) = q := ⟨_, rfl⟩
        have HE := Lib.hid (resc_any (base := B + 1) p wr HR.out.text HR.out.t HR.out.d (by omega) (by have := HLN.out; omega) (by have := HLN.out; omega) (by omega) (by omega) HZR.out hs)
        have hbd := escL_bd (L.drop (p + 1))
        rw [hs] at hbd
        obtain ⟨-, -, kb1, kb2⟩ := hbd
        simp only [List.length_drop] at kb1 kb2
        have hpk : p + k ≤ N := by have := HLN.out; omega
        have HS2 : Hid (Sofar L TT DD (p + k) (T ++ t) (D ++ dgs p d)) := Lib.hid (HNX.out t d k (by rw [HST.out, if_pos rfl, hs]))
        have HE' : Hid (Calls Try.prog 32 #[.agg #[.slice ta T.length tc, .slice da D.length dc], .slice (some ⟨g, off, none⟩) N c1, .int .i64 ((p : Int) + 1)] wr (REnd (B + 1) wr (.slice ta T.length tc) (.slice da D.length dc) (T ++ t) (D ++ dgs p d) (p + k))) := HE
        clear hs HST HNX hc HSo HE kb2
        go_wp2_with fail
        refine HE'.out.mono ?_
        rintro e w2 ⟨tv', dv', rfl, ht', hd', hbl, hsz, -⟩
        have hal := below_lit w2 (.cells #[tv', dv'] 67)
        obtain ⟨q0, q1, f0, f1, hsx⟩ := HR.out.store (hbl.trans (hal.mono (by omega))) (ht'.keep hal) (hd'.keep hal)
        obtain ⟨ta', tc', hx1⟩ := (FOwn.sl tcell_len ht').len
        obtain ⟨da', dc', hx2⟩ := (FOwn.sl dcell_len hd').len
        obtain ⟨m1, hm1⟩ : ∃ m, (T ++ t).length = m := ⟨_, rfl⟩
        obtain ⟨m2, hm2⟩ : ∃ m, (D ++ dgs p d).length = m := ⟨_, rfl⟩
        rw [hm1] at hx1
        rw [hm2] at hx2
        subst hx1 hx2
        have HN : Hid (SAt w1 B (.slice (some ⟨g, off, none⟩) N c1) L TT DD (p + k) (((w2.alloc (.cells #[.slice ta' m1 tc', .slice da' m2 dc'] 67)).setCell ⟨B, 0, none⟩ (.slice ta' m1 tc')).setCell ⟨B, 1, none⟩ (.slice da' m2 dc'))) := Lib.hid ⟨_, _, _, _, hsx, HS2.out⟩
        have hB2 : ¬ w2.heap.size = B := by omega
        have hB3 : ¬ B = w2.heap.size := by omega
        clear hm1 hm2 ht' hd' hbl hal hsx HS2 HR HE' k5 k6
        go_wp2_with fail
        go_roundw
        case rel => exact ⟨p + k, by omega, by go_num, HN.out⟩
        case measure => (simp [intOf]; try omega)
      · have e92 : (c == 92) = false := by simpa using c92
        by_cases cb : c = 32 ∨ c = 9
        · have HS2 : Hid (Sofar L TT DD (p + 1) (T ++ [(2, 0)]) D) := Lib.hid (by
            have := HNX.out [(2, 0)] [] 1 (by rw [HST.out, if_neg c92, if_pos cb])
            rw [dgs_nil] at this
            exact this)
          have HC := Lib.hid (say_any (B + 1) _ _ 2 0 T D wr HR.out.t HR.out.d (by omega) (by omega))
          clear HST HNX hc HSo c92
          rcases cb with rfl | rfl
          all_goals
            go_wp2_with fail
            refine HC.out.mono ?_
            rintro e w2 ⟨tv', dv', rfl, ht', hd', hbl, hsz, -⟩
            obtain ⟨q0, q1, f0, f1, hsx⟩ := HR.out.store hbl ht' hd'
            obtain ⟨ta', tc', hx1⟩ := (FOwn.sl tcell_len ht').len
            obtain ⟨da', dc', hx2⟩ := (FOwn.sl dcell_len hd').len
            obtain ⟨m1, hm1⟩ : ∃ m, (T ++ [((2 : Int), (0 : Int))]).length = m := ⟨_, rfl⟩
            obtain ⟨m2, hm2⟩ : ∃ m, (D).length = m := ⟨_, rfl⟩
            rw [hm1] at hx1
            rw [hm2] at hx2
            subst hx1 hx2
            have HN : Hid (SAt w1 B (.slice (some ⟨g, off, none⟩) N c1) L TT DD (p + 1) ((w2.setCell ⟨B, 0, none⟩ (.slice ta' m1 tc')).setCell ⟨B, 1, none⟩ (.slice da' m2 dc'))) := Lib.hid ⟨_, _, _, _, hsx, HS2.out⟩
            clear hm1 hm2 ht' hd' hbl hsx HS2 HR k5 k6
            go_wp2_with fail
            go_roundw
            case rel => exact ⟨p + 1, by omega, by go_num, HN.out⟩
            case measure => (simp [intOf]; try omega)
        · have e32 : (c == 32) = false := by simpa using fun h : c = 32 => cb (.inl h)
          have e9 : (c == 9) = false := by simpa using fun h : c = 9 => cb (.inr h)
          have HCT := Lib.hid (fun W => rcontrol_any c W)
          cases hctl : ctl c with
          | true =>
            rw [hctl] at HCT
            have HS2 : Hid (Sofar L TT DD (p + 1) (T ++ [(1, 65533)]) (D ++ dgs p [3])) := Lib.hid (HNX.out [(1, 65533)] [3] 1 (by rw [HST.out, if_neg c92, if_neg cb, if_pos hctl]))
            have HC := Lib.hid (say_any (B + 1) _ _ 1 65533 T D wr HR.out.t HR.out.d (by omega) (by omega))
            clear HST HNX hc HSo c92 cb hctl
            go_wp2_with fail
            refine (HCT.out _).mono ?_
            rintro e w2 ⟨rfl, rfl⟩
            clear HCT
            go_wp2_with fail
            refine HC.out.mono ?_
            rintro e w4 ⟨tv4, dv4, rfl, ht4, hd4, hbl4, hsz4, -⟩
            have HC2 := Lib.hid (tell_any (B + 1) _ _ 3 p _ _ w4 ht4 hd4 (by omega) (by omega) (by omega))
            clear HC ht4 hd4
            go_wp2_with fail
            refine HC2.out.mono ?_
            rintro e w2 ⟨tv', dv', rfl, ht', hd', hbl, hsz, -⟩
            clear HC2
            obtain ⟨q0, q1, f0, f1, hsx⟩ := HR.out.store (hbl4.trans hbl) ht' hd'
            obtain ⟨ta', tc', hx1⟩ := (FOwn.sl tcell_len ht').len
            obtain ⟨da', dc', hx2⟩ := (FOwn.sl dcell_len hd').len
            obtain ⟨m1, hm1⟩ : ∃ m, (T ++ [((1 : Int), (65533 : Int))]).length = m := ⟨_, rfl⟩
            obtain ⟨m2, hm2⟩ : ∃ m, (D ++ dgs p [3]).length = m := ⟨_, rfl⟩
            rw [hm1] at hx1
            rw [hm2] at hx2
            subst hx1 hx2
            have HN : Hid (SAt w1 B (.slice (some ⟨g, off, none⟩) N c1) L TT DD (p + 1) ((w2.setCell ⟨B, 0, none⟩ (.slice ta' m1 tc')).setCell ⟨B, 1, none⟩ (.slice da' m2 dc'))) := Lib.hid ⟨_, _, _, _, hsx, HS2.out⟩
            clear hm1 hm2 ht' hd' hbl hsx HS2 HR k5 k6
            go_wp2_with fail
            go_roundw
            case rel => exact ⟨p + 1, by omega, by go_num, HN.out⟩
            case measure => (simp [intOf]; try omega)
          | false =>
            rw [hctl] at HCT
            have HS2 : Hid (Sofar L TT DD (p + 1) (T ++ [(1, c)]) D) := Lib.hid (by
              have := HNX.out [(1, c)] [] 1 (by rw [HST.out, if_neg c92, if_neg cb, if_neg (by rw [hctl]; decide)])
              rw [dgs_nil] at this
              exact this)
            have HC := Lib.hid (say_any (B + 1) _ _ 1 c T D wr HR.out.t HR.out.d (by omega) (by omega))
            clear HST HNX hc HSo c92 cb hctl
            go_wp2_with fail
            refine (HCT.out _).mono ?_
            rintro e w2 ⟨rfl, rfl⟩
            clear HCT
            go_wp2_with fail
            refine HC.out.mono ?_
            rintro e w2 ⟨tv', dv', rfl, ht', hd', hbl, hsz, -⟩
            clear HC
            obtain ⟨q0, q1, f0, f1, hsx⟩ := HR.out.store hbl ht' hd'
            obtain ⟨ta', tc', hx1⟩ := (FOwn.sl tcell_len ht').len
            obtain ⟨da', dc', hx2⟩ := (FOwn.sl dcell_len hd').len
            obtain ⟨m1, hm1⟩ : ∃ m, (T ++ [((1 : Int), c)]).length = m := ⟨_, rfl⟩
            obtain ⟨m2, hm2⟩ : ∃ m, (D).length = m := ⟨_, rfl⟩
            rw [hm1] at hx1
            rw [hm2] at hx2
            subst hx1 hx2
            have HN : Hid (SAt w1 B (.slice (some ⟨g, off, none⟩) N c1) L TT DD (p + 1) ((w2.setCell ⟨B, 0, none⟩ (.slice ta' m1 tc')).setCell ⟨B, 1, none⟩ (.slice da' m2 dc'))) := Lib.hid ⟨_, _, _, _, hsx, HS2.out⟩
            clear hm1 hm2 ht' hd' hbl hsx HS2 HR k5 k6
            go_wp2_with fail
            go_roundw
            case rel => exact ⟨p + 1, by omega, by go_num, HN.out⟩
            case measure => (simp [intOf]; try omega)
    · obtain rfl : p = N := by omega
      obtain ⟨rfl, rfl⟩ := HSo.out.done (by have := HLN.out; omega)
      have HT := Lib.hid (HR.out.t.mono (base' := w.heap.size) (by omega))
      have HDg := Lib.hid (HR.out.d.mono (base' := w.heap.size) (by omega))
      have HB2 := Lib.hid (HB1.out.trans (HR.out.bel.mono hwB))
      clear HR HSo tl dl
      go_wp2_with fail
      go_quiet (fail)
      go_wp2_with fail
      go_ret2
      exact ⟨_, _, rfl, HT.out.keep (below_drewN (Below.refl _ _) _), HDg.out.keep (below_drewN (Below.refl _ _) _), below_drewN HB2.out _⟩
end Go.Proofs.Ytgfmpndojjopnaa
