/- The walk of CellsWhole. -/
import Derived.Test.YtkiglnfapoifiaaDoorGa
import Derived.Deep.DeepCutAuto
namespace Go.Proofs.YtkiglnfapoifiaaDoor
open Go.RowKit
attribute [local go_sem ↓ high] slice_frontG slice_backG

theorem cutN_room : ∀ (l : List Gly) (r : Int), 0 ≤ r → gsm (l.take (cutN l r)) ≤ r
  | [], r, h => by simpa [gsm, sm, cutN] using h
  | g :: l, r, h => by
    unfold cutN
    split
    · simpa [gsm, sm] using h
    · rename_i hg
      have ih := cutN_room l (r - wd g.1) (by omega)
      have e : gsm ((g :: l).take (cutN l (r - wd g.1) + 1)) = wd g.1 + gsm (l.take (cutN l (r - wd g.1))) := by simp [gsm, sm]
      rw [e]
      omega
theorem cutN_next : ∀ (l : List Gly) (r : Int) (x : Gly), (l.drop (cutN l r))[0]? = some x → r < gsm (l.take (cutN l r)) + wd x.1
  | [], r, x, h => by simp [cutN] at h
  | g :: l, r, x, h => by
    unfold cutN at h ⊢
    split at h
    · rename_i hg
      rw [if_pos hg]
      simp only [List.drop_zero, List.getElem?_cons_zero, Option.some.injEq] at h
      subst h
      simpa [gsm, sm] using hg
    · rename_i hg
      rw [if_neg hg]
      have ih := cutN_next l (r - wd g.1) x (by simpa using h)
      have e : gsm ((g :: l).take (cutN l (r - wd g.1) + 1)) = wd g.1 + gsm (l.take (cutN l (r - wd g.1))) := by simp [gsm, sm]
      rw [e]
      omega
theorem gsm_one (g : Gly) : gsm [g] = wd g.1 := by simp [gsm, sm]

set_option maxRecDepth 100000 in
set_option maxHeartbeats 4000000 in
theorem whole_any (l : List Gly) (v : Value) (q : Int) (w : World) (hT : Tabs w) (hv : Gs w v l) (ml : l.length ≤ maxLen) (q0 : 0 ≤ q) (q1 : q ≤ 65535) :
    Calls Tryd.prog 5 #[v, .int .u16 q] w fun e W' => e = .returned (.bool true) ∧ Below w.heap.size w W' := by
  unfold maxLen at ml
  have HT := Lib.hid hT
  have HV := Lib.hid hv
  obtain ⟨a, cap, rfl⟩ := hv.len
  clear hT hv
  by_cases h1 : 200 < l.length
  · have HK := Lib.hid (known_any w HT.out)
    have hz : (200 : Int) < (l.length : Int) := by omega
    go_enter Tryd.func5, Tryd.ntmps5
    go_wp2_with (go_at_call 10; refine HK.out.mono ?_; rintro e w' ⟨rfl, hb⟩)
    go_ret
    exact ⟨rfl, hb⟩
  · by_cases h2 : 2000 < q
    · have HK := Lib.hid (known_any w HT.out)
      have hz : ¬ (200 : Int) < (l.length : Int) := by omega
      go_enter Tryd.func5, Tryd.ntmps5
      go_wp2_with (go_at_call 10; refine HK.out.mono ?_; rintro e w' ⟨rfl, hb⟩)
      go_ret
      exact ⟨rfl, hb⟩
    · have hz : ¬ (200 : Int) < (l.length : Int) := by omega
      have HC := Lib.hid (cut_any l _ q w HT.out HV.out (by omega) q0 (by omega))
      have hroom := cutN_room l q q0
      have HNX := Lib.hid (fun x h => cutN_next l q x h)
      have HAB := Lib.hid (List.take_append_drop (cutN l q) l)
      have hAl : (l.take (cutN l q)).length ≤ l.length := by rw [List.length_take]; omega
      have hBl : (l.drop (cutN l q)).length ≤ l.length := by rw [List.length_drop]; omega
      have hgf := Lib.hid (gsm_fillL l q q1)
      have hfl : fillL l q = l ++ List.replicate (blankN (q - gsm l)) bg := rfl
      have hfn : blankN (q - gsm l) ≤ 65535 := by unfold blankN; omega
      have hfln : (fillL l q).length = l.length + blankN (q - gsm l) := by rw [hfl]; simp
      have HFT : Hid ((fillL l q).take l.length = l) := Lib.hid (by rw [hfl]; simp)
      unfold CutEnd at HC
      obtain ⟨A, hA⟩ : ∃ A, l.take (cutN l q) = A := ⟨_, rfl⟩
      obtain ⟨B, hB⟩ : ∃ B, l.drop (cutN l q) = B := ⟨_, rfl⟩
      obtain ⟨F, hF⟩ : ∃ F, fillL l q = F := ⟨_, rfl⟩
      rw [hA] at HC hroom HNX HAB hAl
      rw [hB] at HC HNX HAB hBl
      have HFI := Lib.hid (fun W (h : Below w.heap.size w W) => fill_any l _ q W (HT.out.below h) (Fs.below HV.out h) (by omega) q0 q1)
      rw [hF] at hgf hfln HFT HFI
      have hgl := gsm_bd l
      obtain ⟨gl0, gl1⟩ := hgl
      have hgA := gsm_bd A
      obtain ⟨gA0, gA1⟩ := hgA
      obtain ⟨SA, hSA⟩ : ∃ S, gsm A = S := ⟨_, rfl⟩
      have HSA := Lib.hid hSA
      rw [hSA] at hroom HNX gA0 gA1
      obtain ⟨bn, hbn⟩ : ∃ b, blankN (q - gsm l) = b := ⟨_, rfl⟩
      rw [hbn] at hfln hfn
      have hfl1 : l.length ≤ F.length := by omega
      have hfl2 : F.length ≤ 66000 := by omega
      clear hfln hfn
      clear hA hB hF hfl hbn hSA
      go_enter Tryd.func5, Tryd.ntmps5
      go_wp2_with fail
      refine HC.out.mono ?_
      rintro e w1 ⟨x, y, rfl, sx, sy, b1⟩
      have SX := Lib.hid sx
      have SY := Lib.hid sy
      have B1 := Lib.hid b1
      have z1 := b1.size
      have HJ := Lib.hid (join_any A B x y w1 sx sy (by omega))
      rw [HAB.out] at HJ
      clear sx sy b1 HC
      go_wp2_with fail
      refine HJ.out.mono ?_
      rintro e w2 ⟨u2, rfl, o2, b2⟩
      have C2 := Lib.hid b2
      have y2 := b2.size
      have HS := Lib.hid (rsameg_any l l u2 _ w2 (o2.sl gcell_len) (Fs.below HV.out (B1.out.trans (b2.mono z1))) (by omega) (by omega))
      rw [decide_eq_true (rfl : l = l)] at HS
      clear o2 b2 HJ
      go_wp2_with fail
      refine HS.out.mono ?_
      rintro e w3 ⟨rfl, b3⟩
      have C3 := Lib.hid (C2.out.trans (b3.mono y2))
      have B3 := Lib.hid (B1.out.trans (C3.out.mono z1))
      have HW3 := Lib.hid (gwidth_any A x w3 (HT.out.below B3.out) (Fs.below SX.out C3.out) (by omega))
      rw [HSA.out] at HW3
      have hle : ¬ q < SA := by omega
      clear b3 HS
      go_wp2_with fail
      refine HW3.out.mono ?_
      rintro e w4 ⟨rfl, b4⟩
      have C4 := Lib.hid (C3.out.trans (b4.mono C3.out.size))
      have B4 := Lib.hid (B1.out.trans (C4.out.mono z1))
      have X4 := Lib.hid (Fs.below SX.out C4.out)
      have Y4 := Lib.hid (Fs.below SY.out C4.out)
      have z4 := B4.out.size
      obtain ⟨ax, cx, rfl⟩ := X4.out.len
      obtain ⟨ay, cy, rfl⟩ := Y4.out.len
      clear b4 HW3
      go_upto_region 7 with fail
      go_cut [51] from 37 to 51 (fun c wx => c = .bool false ∧ Below w4.heap.size w4 wx)
      case first =>
        by_cases hBe : B = []
        · subst hBe
          simp only [List.length_nil]
          go_quiet (fail)
          go_wp2
          go_meet
          exact ⟨rfl, below_drewN (Below.refl _ _) _⟩
        · have hBp : 0 < B.length := List.length_pos_iff.2 hBe
          have hB0 : (0 : Int) < (B.length : Int) := by omega
          obtain ⟨b0, hb0⟩ : ∃ x, B[0]? = some x := ⟨B[0], List.getElem?_eq_getElem hBp⟩
          obtain ⟨gy, oy, rfl, c0, c1, hlt0⟩ := Gs.at Y4.out hb0
          rw [Nat.zero_mul, Nat.add_zero] at c0 c1
          have hnx := HNX.out b0 hb0
          have hzb := wd_bd b0.1
          have HWA := Lib.hid (fun W (h : Below w4.heap.size w4 W) => gwidth_any A (.slice ax A.length cx) W (HT.out.below (B4.out.trans (h.mono z4))) (Fs.below X4.out h) (by omega))
          have HWL := Lib.hid (fun W B' (h : Below w4.heap.size w4 W) (hs : Gs W (.slice (some ⟨B', 0, none⟩) 1 1) [b0]) => gwidth_any [b0] (.slice (some ⟨B', 0, none⟩) 1 1) W (HT.out.below (B4.out.trans (h.mono z4))) hs (by simp))
          rw [HSA.out] at HWA
          rw [gsm_one] at HWL
          obtain ⟨Z, hZ⟩ : ∃ Z, wd b0.1 = Z := ⟨_, rfl⟩
          rw [hZ] at HWL hnx hzb
          obtain ⟨hZ0, hZ1⟩ := hzb
          have hw1 : IntKind.i64.wrap (SA + Z) = SA + Z := by simp [IntKind.wrap, IntKind.bits, IntKind.signed]; omega
          have hnle : decide (SA + Z ≤ q) = false := by rw [decide_eq_false_iff_not]; omega
          have BZ : Hid (Below w4.heap.size w4 (w4.alloc (.cells #[.int .i32 b0.1, .int .u8 b0.2] 47)).drew) := Lib.hid (below_lit w4 (.cells #[.int .i32 b0.1, .int .u8 b0.2] 47)).drew
          have SZ : Hid (Gs (w4.alloc (.cells #[.int .i32 b0.1, .int .u8 b0.2] 47)).drew (.slice (some ⟨w4.heap.size, 0, none⟩) 1 1) [b0]) := Lib.hid (fs_lit gcell_len w4 47 [b0])
          clear hZ hb0 hBe hnx
          go_region_with ((first
            | (go_at_call 11; (with_reducible refine (HWA.out _ (Below.refl _ w4).drew).mono ?_); rintro e wa ⟨rfl, ba⟩; have BA : Hid (Below w4.heap.size w4 wa) := Lib.hid ((Below.refl _ w4).drew.trans ba); have d0 := (ba.cell (p := ⟨gy, oy, none⟩) hlt0).trans c0; have d1 := (ba.cell (p := ⟨gy, oy + 1, none⟩) hlt0).trans c1; have SL : Hid (Gs (wa.alloc (.cells #[.int .i32 b0.1, .int .u8 b0.2] 47)) (.slice (some ⟨wa.heap.size, 0, none⟩) 1 1) [b0]) := Lib.hid (fs_lit gcell_len wa 47 [b0]); have BL := Lib.hid (below_lit wa (.cells #[.int .i32 b0.1, .int .u8 b0.2] 47)); clear ba)
            | (go_at_call 11; (with_reducible refine (HWL.out _ _ (BA.out.trans (BL.out.mono BA.out.size)) SL.out).mono ?_); rintro e wb ⟨rfl, bb⟩; have BF : Hid (Below w4.heap.size w4 wb) := Lib.hid ((BA.out.trans (BL.out.mono BA.out.size)).trans (bb.mono (BA.out.trans (BL.out.mono BA.out.size)).size)); clear bb)
            | (go_at_call 11; (with_reducible refine (HWA.out _ BZ.out).mono ?_); rintro e wa ⟨rfl, ba⟩; have BA : Hid (Below w4.heap.size w4 wa) := Lib.hid (BZ.out.trans (ba.mono BZ.out.size)); have SL := Lib.hid (Fs.below SZ.out ba); clear ba)
            | (go_at_call 11; (with_reducible refine (HWL.out _ _ BA.out SL.out).mono ?_); rintro e wb ⟨rfl, bb⟩; have BF : Hid (Below w4.heap.size w4 wb) := Lib.hid (BA.out.trans (bb.mono BA.out.size)); clear bb)
            | (go_at_call 11; (with_reducible refine (HWL.out _ _ BZ.out SZ.out).mono ?_); rintro e wa ⟨rfl, ba⟩; have BA : Hid (Below w4.heap.size w4 wa) := Lib.hid (BZ.out.trans (ba.mono BZ.out.size)); clear ba)
            | (go_at_call 11; (with_reducible refine (HWA.out _ BA.out).mono ?_); rintro e wb ⟨rfl, bb⟩; have BF : Hid (Below w4.heap.size w4 wb) := Lib.hid (BA.out.trans (bb.mono BA.out.size)); clear bb)))
          all_goals
            go_wp2_with fail
            go_meet
            exact ⟨rfl, BF.out⟩
      case rest =>
        obtain ⟨rfl, bc⟩ := hcut
        have B5 := Lib.hid (B4.out.trans (bc.mono z4))
        have z5 := B5.out.size
        have H5 := Lib.hid (HFI.out wc B5.out)
        obtain ⟨gl, hgl⟩ : ∃ g, gsm l = g := ⟨_, rfl⟩
        have HGL := Lib.hid hgl
        rw [hgl] at hgf gl0 gl1
        clear bc HFI hgl
        go_wp2_with fail
        refine H5.out.mono ?_
        rintro e w6 ⟨u6, rfl, o6, b6⟩
        have S6 := Lib.hid (FOwn.sl gcell_len o6)
        have B6 := Lib.hid (B5.out.trans (b6.mono z5))
        have HWF := Lib.hid (gwidth_any F u6 w6 (HT.out.below B6.out) S6.out (by omega))
        rw [hgf.out] at HWF
        clear o6 b6 H5 hgf
        go_wp2_with fail
        refine HWF.out.mono ?_
        rintro e w7 ⟨rfl, b7⟩
        have C7 := Lib.hid b7
        have B7 := Lib.hid (B6.out.trans (b7.mono B6.out.size))
        have HWl := Lib.hid (gwidth_any l _ w7 (HT.out.below B7.out) (Fs.below HV.out B7.out) (by omega))
        rw [HGL.out] at HWl
        clear b7 HWF
        go_wp2_with fail
        refine HWl.out.mono ?_
        rintro e w8 ⟨rfl, b8⟩
        have C8 := Lib.hid (C7.out.trans (b8.mono C7.out.size))
        have B8 := Lib.hid (B7.out.trans (b8.mono B7.out.size))
        have S8 := Lib.hid (Fs.below S6.out C8.out)
        obtain ⟨uf, f1, s9, -⟩ := frontG_run S8.out l.length (by omega)
        rw [HFT.out] at s9
        have HS9 := Lib.hid (rsameg_any l l uf _ w8 s9 (Fs.below HV.out B8.out) (by omega) (by omega))
        rw [decide_eq_true (rfl : l = l)] at HS9
        obtain ⟨af, cf, rfl⟩ := S8.out.len
        have hlF : (l.length : Int) ≤ (F.length : Int) := by omega
        have hlz : (0 : Int) ≤ (l.length : Int) := by omega
        clear b8 HWl s9
        by_cases hm : q < gl
        · have hm2 : max q gl = gl := by omega
          have hm3 : q ≤ gl := by omega
          rw [hm2]
          clear hm2
          go_wp2_with fail
          refine HS9.out.mono ?_
          rintro e w9 ⟨rfl, b9⟩
          have B9 := Lib.hid (B8.out.trans (b9.mono B8.out.size))
          have HK := Lib.hid (known_any w9 (HT.out.below B9.out))
          clear b9 HS9
          go_wp2_with fail
          refine HK.out.mono ?_
          rintro e w10 ⟨rfl, b10⟩
          go_wp2_with fail
          go_ret
          exact ⟨rfl, B9.out.trans (b10.mono B9.out.size)⟩
        · have hm2 : max q gl = q := by omega
          have hm3 : gl ≤ q := by omega
          rw [hm2]
          clear hm2
          go_wp2_with fail
          refine HS9.out.mono ?_
          rintro e w9 ⟨rfl, b9⟩
          have B9 := Lib.hid (B8.out.trans (b9.mono B8.out.size))
          have HK := Lib.hid (known_any w9 (HT.out.below B9.out))
          clear b9 HS9
          go_wp2_with fail
          refine HK.out.mono ?_
          rintro e w10 ⟨rfl, b10⟩
          go_wp2_with fail
          go_ret
          exact ⟨rfl, B9.out.trans (b10.mono B9.out.size)⟩
end Go.Proofs.YtkiglnfapoifiaaDoor
