/- The law DiagMakes returns true at every input, and leaves old memory as it was. -/
import Derived.Test.YtalopkplpbdgjaaDoorZ8
namespace Go.Proofs.YtalopkplpbdgjaaDoor
open Go.RowKit Go.Shelf Go.Extern.Stop Go.Stop Go.Extern

set_option maxRecDepth 1000000 in
set_option maxHeartbeats 4000000 in
theorem makes_any (u0 : Value) (ds : List Do4) (kk : Int) (w : World) (h0 : SDo w u0 ds) (hE : ErrType w) :
    Calls Tryd.prog 3 #[u0, .int .i64 kk] w fun e W' => e = .returned (.bool true) ∧ Below w.heap.size w W' := by
  have HE := Lib.hid hE
  clear hE
  have H0 := Lib.hid h0
  obtain ⟨a0, cap0, rfl, _⟩ := h0
  by_cases h9 : 9 < ds.length
  · have h9' : (9 : Int) < (ds.length : Int) := by omega
    go_enter Tryd.func3, Tryd.ntmps3
    go_wp2_with fail
    refine (known_any _ HE.out).mono ?_
    rintro e w1 ⟨rfl, b1⟩
    go_wp2_with fail
    go_ret
    exact ⟨rfl, b1⟩
  · have h9' : ¬ ((9 : Int) < (ds.length : Int)) := by omega
    have hle : ds.length ≤ 9 := by omega
    have HS := Lib.hid (genD_small ds hle)
    go_enter Tryd.func3, Tryd.ntmps3
    go_wp2_with fail
    refine (made_any _ ds w H0.out hle).mono ?_
    rintro e w1 ⟨lv, vs, rfl, ow1, hvl, pw1, b1⟩
    have SD1 : SDo w1 (.slice a0 ds.length cap0) ds := by
      obtain ⟨a', c', e1, hk⟩ := H0.out
      refine ⟨a', c', e1, fun j d hj => ?_⟩
      obtain ⟨g, off, ha, q0, q1, q2, q3⟩ := hk j d hj
      have hg := World.block_lt_of_cell? w _ q0
      exact ⟨g, off, ha, (b1.cell hg).trans q0, (b1.cell (p := ⟨g, off + j * 4 + 1, none⟩) hg).trans q1, (b1.cell (p := ⟨g, off + j * 4 + 2, none⟩) hg).trans q2, (b1.cell (p := ⟨g, off + j * 4 + 3, none⟩) hg).trans q3⟩
    have SD1' := Lib.hid SD1
    have OW1 := Lib.hid ow1
    have PW1 := Lib.hid pw1
    have B1 := Lib.hid b1
    clear SD1 ow1 pw1 b1
    go_wp2_with fail
    refine (make_any _ ds w1 SD1'.out hle).mono ?_
    rintro e w2 ⟨wv, us, rfl, ow2, hul, pw2, b2⟩
    have CV := Lib.hid (Cells1.of_owns (owns_below OW1.out b2))
    have CU := Lib.hid (Cells1.of_owns ow2)
    have PV : Hid (Pairs w2 10 vs (genD [] ds)) := fun q => (PW1.out q).below b2
    have PU := Lib.hid pw2
    have B2 := Lib.hid (B1.out.trans (b2.mono B1.out.size))
    have HE2 := Lib.hid (errType_below HE.out B2.out)
    have hgl : (genD [] ds).length = ds.length := by rw [genD_length]; simp
    obtain ⟨av, cv, rfl, hcv⟩ := id CV.out
    obtain ⟨au, cu, rfl, hcu⟩ := id CU.out
    have HCV := Lib.hid hcv
    have HCU := Lib.hid hcu
    rw [hvl, hul]
    clear ow2 pw2 b2 hcv hcu CV CU
    go_wp2_with fail
    go_loopw [7] (fun i wr => ∃ j : Nat, j ≤ ds.length ∧ i = .int .i64 j ∧ Below w2.heap.size w2 wr) (fun i _ => ds.length - (intOf i).toNat)
    case atStart => exact ⟨0, Nat.zero_le _, rfl, Below.refl _ _⟩
    case round =>
      obtain ⟨j, hj, rfl, hb⟩ := hrel
      obtain ⟨wo, hwo⟩ : ∃ wo : World, wo = wr := ⟨wr, rfl⟩
      subst hwo
      have BW := Lib.hid (B2.out.trans (hb.mono B2.out.size))
      by_cases hlt : j < ds.length
      · obtain ⟨v, hv⟩ : ∃ v, vs[j]? = some v := ⟨vs[j]'(by omega), List.getElem?_eq_getElem (by omega)⟩
        obtain ⟨u, hu⟩ : ∃ u, us[j]? = some u := ⟨us[j]'(by omega), List.getElem?_eq_getElem (by omega)⟩
        obtain ⟨L, hL⟩ : ∃ L, (genD [] ds)[j]? = some L := ⟨(genD [] ds)[j]'(by omega), List.getElem?_eq_getElem (by omega)⟩
        have ev : EO w2 10 v L := by have := PV.out j; simpa [List.getD_eq_getElem?_getD, hv, hL] using this
        have sv : SDiag w2 u L := by have := PU.out j; simpa [List.getD_eq_getElem?_getD, hu, hL] using this
        have hsm : L.length ≤ 512 := (HS.out L (List.mem_of_getElem? hL)).1
        obtain ⟨gv, ov, rfl, cv0⟩ := HCV.out j v hv
        obtain ⟨gu, ou, rfl, cu0⟩ := HCU.out j u hu
        obtain ⟨al, cl, rfl, hal⟩ := id sv
        have hgv := World.block_lt_of_cell? w2 _ cv0
        have hgu := World.block_lt_of_cell? w2 _ cu0
        simp only at hgv hgu
        have hgvr : gv < wo.heap.size := Nat.lt_of_lt_of_le hgv hb.size
        have hgur : gu < wo.heap.size := Nat.lt_of_lt_of_le hgu hb.size
        have hgvn : gv ≠ wo.heap.size := Nat.ne_of_lt hgvr
        have hgun : gu ≠ wo.heap.size := Nat.ne_of_lt hgur
        have EV := Lib.hid ev
        have SV := Lib.hid sv
        have HAL := Lib.hid hal
        have hi : (j : Int) < (ds.length : Int) := by omega
        have hi0 : (0 : Int) ≤ (j : Int) := by omega
        have x0 : wo.cell? ⟨gv, ov + j, none⟩ = some v := (hb.cell (p := ⟨gv, ov + j, none⟩) hgv).trans cv0
        have x1 : wo.cell? ⟨gu, ou + j, none⟩ = some (.slice al L.length cl) := (hb.cell (p := ⟨gu, ou + j, none⟩) hgu).trans cu0
        clear ev sv hal hv hu hL
        by_cases hz : 0 < L.length
        · have hz' : (0 : Int) < (L.length : Int) := by omega
          have HZ := Lib.hid hz
          have HNE : Hid (((L.length : Int) == 0) = false) := by
            show _ = false
            rw [beq_eq_false_iff_ne]
            omega
          obtain ⟨⟨k0, l0, c0⟩, hd0⟩ : ∃ d, L[0]? = some d := ⟨L[0], List.getElem?_eq_getElem hz⟩
          obtain ⟨g3, o3, rfl, y0, y1, y2⟩ := HAL.out 0 _ hd0
          have hg3 := World.block_lt_of_cell? w2 _ y0
          simp only [Nat.zero_mul, Nat.add_zero] at y0 y1 y2 hg3
          have z0 : wo.cell? ⟨g3, o3, none⟩ = some (.int .i64 k0) := (hb.cell (p := ⟨g3, o3, none⟩) hg3).trans y0
          have z1 : wo.cell? ⟨g3, o3 + 1, none⟩ = some (.int .i64 l0) := (hb.cell (p := ⟨g3, o3 + 1, none⟩) hg3).trans y1
          have z2 : wo.cell? ⟨g3, o3 + 2, none⟩ = some (.int .i64 c0) := (hb.cell (p := ⟨g3, o3 + 2, none⟩) hg3).trans y2
          have hg3r : g3 < wo.heap.size := Nat.lt_of_lt_of_le hg3 hb.size
          have hg3n : g3 ≠ wo.heap.size := Nat.ne_of_lt hg3r
          clear y0 y1 y2
          have hH : head0 L = (k0, l0, c0) := by
            rcases L with _ | ⟨e, L⟩
            · simp at hd0
            · simp at hd0; subst hd0; rfl
          have HH := Lib.hid hH
          clear hH hd0
          go_wp2_with fail
          obtain ⟨WF, hWF⟩ : ∃ WF, wo.alloc (.cells #[.int .i64 k0, .int .i64 l0, .int .i64 c0] 29) = WF := ⟨_, rfl⟩
          have bF : Below w2.heap.size w2 WF := by rw [← hWF]; exact hb.alloc hb.size _
          have hF : WF.heap[wo.heap.size]? = some (.cells #[.int .i64 k0, .int .i64 l0, .int .i64 c0] 29 (0, 0)) := by rw [← hWF]; exact heap_alloc_new wo _
          have hFs : wo.heap.size < WF.heap.size := by rw [← hWF]; simp
          rw [hWF]
          clear hWF x0 x1 z0 z1 z2
          have x0 : WF.cell? ⟨gv, ov + j, none⟩ = some v := (bF.cell (p := ⟨gv, ov + j, none⟩) hgv).trans cv0
          have x1 : WF.cell? ⟨gu, ou + j, none⟩ = some (.slice (some ⟨g3, o3, none⟩) L.length cl) := (bF.cell (p := ⟨gu, ou + j, none⟩) hgu).trans cu0
          have HF := Lib.hid hF
          have BF := Lib.hid bF
          clear hF bF
          go_loopw [9, 10] (fun h i wi => ∃ (q : Nat) (b : Bool), q ≤ L.length ∧ i = .int .i64 q ∧ h = .bool b ∧ hasK kk (L.take q) = b ∧ wi = WF) (fun _ i _ => L.length - (intOf i).toNat)
          case atStart => exact ⟨0, false, Nat.zero_le _, rfl, rfl, rfl, rfl⟩
          case round =>
            obtain ⟨q, b, hq, rfl, rfl, hbq, rfl⟩ := hrel
            by_cases hltq : q < L.length
            · obtain ⟨⟨kq, lq, cq⟩, hd1⟩ : ∃ d, L[q]? = some d := ⟨L[q], List.getElem?_eq_getElem hltq⟩
              obtain ⟨g4, o4, e4, y0, _, _⟩ := HAL.out q _ hd1
              have e4' : g3 = g4 ∧ o3 = o4 := by simpa using e4
              obtain ⟨rfl, rfl⟩ := e4'
              have hg4 := World.block_lt_of_cell? w2 _ y0
              simp only at y0 hg4
              have z0 := (BF.out.cell (p := ⟨g3, o3 + q * 3, none⟩) hg4).trans y0
              have hnext : ∀ b', (b || (kq == kk)) = b' → hasK kk (L.take (q + 1)) = b' := by
                intro b' hb'
                rw [List.take_add_one, hd1]
                unfold hasK at hbq ⊢
                rw [List.any_append, hbq, ← hb']
                simp [Bool.beq_comm]
              have HN := Lib.hid hnext
              have hi2 : (q : Int) < (L.length : Int) := by omega
              have hi3 : (0 : Int) ≤ (q : Int) := by omega
              clear hnext y0 hd1 hbq e4
              rcases b with _ | _
              · rcases hc : (kq == kk) with _ | _
                · go_wp2_with fail
                  go_roundw
                  case rel => exact ⟨q + 1, false, by omega, by go_num, rfl, HN.out _ (by simp [hc]), trivial⟩
                  case measure => simp [intOf]; omega
                · go_wp2_with fail
                  go_roundw
                  case rel => exact ⟨q + 1, true, by omega, by go_num, rfl, HN.out _ (by simp [hc]), trivial⟩
                  case measure => simp [intOf]; omega
              · go_wp2_with fail
                go_roundw
                case rel => exact ⟨q + 1, true, by omega, by go_num, rfl, HN.out _ (by simp), trivial⟩
                case measure => simp [intOf]; omega
            · obtain rfl : q = L.length := by omega
              rw [List.take_length] at hbq
              obtain ⟨t, xv, rfl⟩ : ∃ t xv, v = .iface t xv := by
                rcases EV.out.isNil with ⟨_, h⟩ | ⟨t, xv, h, _⟩
                · exact absurd h (Nat.ne_of_gt HZ.out)
                · exact ⟨t, xv, h⟩
              have HBQ := Lib.hid hbq
              have hne := HNE.out
              clear hbq
              go_wp2_with fail
              refine (place_eo (EV.out.below BF.out) (by decide) (errType_below HE2.out BF.out)).mono ?_
              rintro e w5 ⟨rfl, b5⟩
              rw [HH.out]
              have SOf : Hid (∀ W' : World, Below _ _ W' → W'.cell? ⟨gv, ov + j, none⟩ = some (.iface t xv) ∧ W'.cell? ⟨gu, ou + j, none⟩ = some (.slice (some ⟨g3, o3, none⟩) L.length cl) ∧ W'.cell? ⟨wo.heap.size, 0, none⟩ = some (.int .i64 k0) ∧ W'.cell? ⟨wo.heap.size, 1, none⟩ = some (.int .i64 l0) ∧ W'.cell? ⟨wo.heap.size, 2, none⟩ = some (.int .i64 c0)) := fun W' hb' => by
                obtain ⟨f0, f1, f2, _, _, _⟩ := three_below HF.out hb'
                have hz1 := BF.out.size
                exact ⟨(hb'.cell (p := ⟨gv, ov + j, none⟩) (by simp only; omega)).trans x0, (hb'.cell (p := ⟨gu, ou + j, none⟩) (by simp only; omega)).trans x1, f0, f1, f2⟩
              have W5 := Lib.hid b5.drew
              have E5 := Lib.hid (EV.out.below (BF.out.trans (b5.drew.mono BF.out.size)))
              have HE5 := Lib.hid (errType_below HE2.out (BF.out.trans (b5.drew.mono BF.out.size)))
              clear b5
              go_wp2_with fail
              go_region_held3 (fun W' => W'.cell? ⟨gv, ov + j, none⟩ = some (.iface t xv) ∧ W'.cell? ⟨gu, ou + j, none⟩ = some (.slice (some ⟨g3, o3, none⟩) L.length cl) ∧ W'.cell? ⟨wo.heap.size, 0, none⟩ = some (.int .i64 k0) ∧ W'.cell? ⟨wo.heap.size, 1, none⟩ = some (.int .i64 l0) ∧ W'.cell? ⟨wo.heap.size, 2, none⟩ = some (.int .i64 c0))
                (first
                  | assumption
                  | exact SOf.out _ W5.out
                  | exact SOf.out _ W6.out
                  | exact SOf.out _ W7.out
                  | exact SOf.out _ W8.out
                  | exact SOf.out _ W9.out
                  | go_keep)
                ((first
                  | (go_at_call 14; (with_reducible refine (all_eo E5.out (by decide) HE5.out (Nat.le_trans hsm (by decide))).mono ?_); rintro e w6 ⟨u1, rfl, s6, b6⟩; have W6 := Lib.hid (W5.out.trans (b6.mono W5.out.size)); have E6 := Lib.hid (E5.out.below b6); have HE6 := Lib.hid (errType_below HE5.out b6); have S6 := Lib.hid s6; have V6 := Lib.hid (SV.out.below (BF.out.trans (W6.out.mono BF.out.size))); clear s6 b6)
                  | (go_at_call 13; (with_reducible refine (same_true u1 _ L _ (Nat.le_trans hsm (by decide)) S6.out V6.out).mono ?_); rintro e w7 ⟨rfl, b7⟩; have W7 := Lib.hid (W6.out.trans (b7.mono W6.out.size)); have E7 := Lib.hid (E6.out.below b7); have HE7 := Lib.hid (errType_below HE6.out b7); clear b7)
                  | (go_at_call 15; (with_reducible refine (kind_eo E7.out (by decide) HE7.out).mono ?_); rintro e w8 ⟨rfl, b8⟩; rw [HH.out]; have W8 := Lib.hid (W7.out.trans (b8.mono W7.out.size)); have E8 := Lib.hid (E7.out.below b8); have HE8 := Lib.hid (errType_below HE7.out b8); clear b8)
                  | (go_at_call 16; (with_reducible refine (is_any _ 10 (by decide) HE8.out _ kk L E8.out).mono ?_); rintro e w9 ⟨rfl, b9⟩; rw [HBQ.out]; have W9 := Lib.hid (W8.out.trans (b9.mono W8.out.size)); clear b9)))
              go_wp2_with fail
              go_roundw
              case rel => exact ⟨j + 1, by omega, by go_num, BF.out.trans (W9.out.mono BF.out.size)⟩
              case measure => simp [intOf]; omega
        · obtain rfl : L = [] := List.eq_nil_of_length_eq_zero (by omega)
          obtain rfl : v = .nilIface := by
            rcases EV.out.isNil with ⟨h, _⟩ | ⟨_, _, _, h⟩
            · exact h
            · simp at h
          have x1' : wo.cell? ⟨gu, ou + j, none⟩ = some (.slice al 0 cl) := x1
          have HH : Hid (head0 ([] : List D) = (0, 0, 0)) := rfl
          have SV0 : Hid (SDiag w2 (.slice al 0 cl) ([] : List D)) := SV
          clear hz x1 SV
          go_wp2_with fail
          obtain ⟨WF, hWF⟩ : ∃ WF, wo.alloc (.cells #[.int .i64 0, .int .i64 0, .int .i64 0] 29) = WF := ⟨_, rfl⟩
          have bF : Below w2.heap.size w2 WF := by rw [← hWF]; exact hb.alloc hb.size _
          have hF : WF.heap[wo.heap.size]? = some (.cells #[.int .i64 0, .int .i64 0, .int .i64 0] 29 (0, 0)) := by rw [← hWF]; exact heap_alloc_new wo _
          have hFs : wo.heap.size < WF.heap.size := by rw [← hWF]; simp
          rw [hWF]
          clear hWF x0 x1'
          have x0 : WF.cell? ⟨gv, ov + j, none⟩ = some .nilIface := (bF.cell (p := ⟨gv, ov + j, none⟩) hgv).trans cv0
          have x1 : WF.cell? ⟨gu, ou + j, none⟩ = some (.slice al 0 cl) := (bF.cell (p := ⟨gu, ou + j, none⟩) hgu).trans cu0
          have HF := Lib.hid hF
          have BF := Lib.hid bF
          clear hF bF
          go_loopw [9, 10] (fun h i wi => i = .int .i64 0 ∧ h = .bool false ∧ wi = WF) (fun _ _ _ => 0)
          case atStart => exact ⟨rfl, rfl, rfl⟩
          case round =>
            obtain ⟨rfl, rfl, rfl⟩ := hrel
            go_wp2_with fail
            refine (place_eo (EV.out.below BF.out) (by decide) (errType_below HE2.out BF.out)).mono ?_
            rintro e w5 ⟨rfl, b5⟩
            rw [HH.out]
            have SOf : Hid (∀ W' : World, Below _ _ W' → W'.cell? ⟨gv, ov + j, none⟩ = some .nilIface ∧ W'.cell? ⟨gu, ou + j, none⟩ = some (.slice al 0 cl) ∧ W'.cell? ⟨wo.heap.size, 0, none⟩ = some (.int .i64 0) ∧ W'.cell? ⟨wo.heap.size, 1, none⟩ = some (.int .i64 0) ∧ W'.cell? ⟨wo.heap.size, 2, none⟩ = some (.int .i64 0)) := fun W' hb' => by
              obtain ⟨f0, f1, f2, _, _, _⟩ := three_below HF.out hb'
              have hz1 := BF.out.size
              exact ⟨(hb'.cell (p := ⟨gv, ov + j, none⟩) (by simp only; omega)).trans x0, (hb'.cell (p := ⟨gu, ou + j, none⟩) (by simp only; omega)).trans x1, f0, f1, f2⟩
            have W5 := Lib.hid b5.drew
            have E5 := Lib.hid (EV.out.below (BF.out.trans (b5.drew.mono BF.out.size)))
            have HE5 := Lib.hid (errType_below HE2.out (BF.out.trans (b5.drew.mono BF.out.size)))
            clear b5
            go_wp2_with fail
            go_region_held3 (fun W' => W'.cell? ⟨gv, ov + j, none⟩ = some .nilIface ∧ W'.cell? ⟨gu, ou + j, none⟩ = some (.slice al 0 cl) ∧ W'.cell? ⟨wo.heap.size, 0, none⟩ = some (.int .i64 0) ∧ W'.cell? ⟨wo.heap.size, 1, none⟩ = some (.int .i64 0) ∧ W'.cell? ⟨wo.heap.size, 2, none⟩ = some (.int .i64 0))
              (first
                | assumption
                | exact SOf.out _ W5.out
                | exact SOf.out _ W6.out
                | exact SOf.out _ W7.out
                | exact SOf.out _ W8.out
                | exact SOf.out _ W9.out
                | go_keep)
              ((first
                | (go_at_call 14; (with_reducible refine (all_eo E5.out (by decide) HE5.out (by decide)).mono ?_); rintro e w6 ⟨u1, rfl, s6, b6⟩; have W6 := Lib.hid (W5.out.trans (b6.mono W5.out.size)); have E6 := Lib.hid (E5.out.below b6); have HE6 := Lib.hid (errType_below HE5.out b6); have S6 := Lib.hid s6; have V6 := Lib.hid (SV0.out.below (BF.out.trans (W6.out.mono BF.out.size))); clear s6 b6)
                | (go_at_call 13; (with_reducible refine (same_true u1 _ [] _ (by decide) S6.out V6.out).mono ?_); rintro e w7 ⟨rfl, b7⟩; have W7 := Lib.hid (W6.out.trans (b7.mono W6.out.size)); have E7 := Lib.hid (E6.out.below b7); have HE7 := Lib.hid (errType_below HE6.out b7); clear b7)
                | (go_at_call 15; (with_reducible refine (kind_eo E7.out (by decide) HE7.out).mono ?_); rintro e w8 ⟨rfl, b8⟩; rw [HH.out]; have W8 := Lib.hid (W7.out.trans (b8.mono W7.out.size)); have E8 := Lib.hid (E7.out.below b8); have HE8 := Lib.hid (errType_below HE7.out b8); clear b8)
                | (go_at_call 16; (with_reducible refine (is_any _ 10 (by decide) HE8.out _ kk [] E8.out).mono ?_); rintro e w9 ⟨rfl, b9⟩; have W9 := Lib.hid (W8.out.trans (b9.mono W8.out.size)); clear b9)))
            go_wp2_with fail
            go_roundw
            case rel => exact ⟨j + 1, by omega, by go_num, BF.out.trans (W9.out.mono BF.out.size)⟩
            case measure => simp [intOf]; omega
      · obtain rfl : j = ds.length := by omega
        go_wp2_with fail
        refine (known_any _ (errType_below HE.out BW.out)).mono ?_
        rintro e w7 ⟨rfl, b7⟩
        go_wp2_with fail
        go_ret
        exact ⟨rfl, BW.out.trans (b7.mono BW.out.size)⟩
end Go.Proofs.YtalopkplpbdgjaaDoor
