/- The law DiagNone returns true at every input, and leaves old memory as it was. -/
import Derived.Test.YtalopkplpbdgjaaDoorY2
import Derived.Test.YtalopkplpbdgjaaDoorL2
namespace Go.Proofs.YtalopkplpbdgjaaDoor
open Go.RowKit Go.Shelf Go.Extern.Stop Go.Stop Go.Extern

theorem u8_bd {x : Int} (h : (Lit.int .u8 x).wf = true) : 0 ≤ x ∧ x ≤ 255 := by
  simp [Lit.wf, IntKind.min, IntKind.max, IntKind.signed, IntKind.bits] at h
  omega
attribute [local go_sem ↓ high] buildSlice24

theorem EO.nil_of {w : World} {n : Nat} {v : Value} (h : EO w n v []) : v = .nilIface := by
  rcases h with ⟨rfl, _⟩ | ⟨t, x, rfl, h⟩
  · rfl
  · exact absurd rfl h.ne_nil

theorem told_still (k l c : Int) : (told k l c).map (mv 0 0) = told k l c := by
  unfold told
  by_cases hk : k = 0
  · simp [hk]
  · simp only [hk, if_false, List.map_cons, List.map_nil, List.cons.injEq, and_true, mv, clip, short, Prod.mk.injEq, true_and]
    omega
theorem hasK_told (kk k l c : Int) : hasK kk (told k l c) = (kk == k && !(kk == 0)) := by
  unfold told hasK
  by_cases hk : k = 0
  · subst hk; simp
  · by_cases h : kk = k
    · subst h; simp [hk]
    · simp [hk, h]

set_option maxRecDepth 1000000 in
set_option maxHeartbeats 4000000 in
theorem none_any (k l c x kk : Int) (hx : 0 ≤ x ∧ x ≤ 255) (w : World) (hE : ErrType w) :
    Calls Tryd.prog 7 #[.agg #[.int .i64 k, .int .i64 l, .int .i64 c], .int .u8 x, .int .i64 kk] w fun e W' => e = .returned (.bool true) ∧ Below w.heap.size w W' := by
  have HE := Lib.hid hE
  clear hE
  obtain ⟨hx0, hx1⟩ := hx
  have bA : (w.alloc (.cells #[.int .i64 k, .int .i64 l, .int .i64 c] 29)).heap[w.heap.size]? = some (.cells #[.int .i64 k, .int .i64 l, .int .i64 c] 29 (0, 0)) := heap_alloc_new w _
  have b0 : Below w.heap.size w (w.alloc (.cells #[.int .i64 k, .int .i64 l, .int .i64 c] 29)) := (Below.refl _ _).alloc (Nat.le_refl _) _
  have BA := Lib.hid bA
  have B0 := Lib.hid b0
  clear bA b0
  go_enter Tryd.func7, Tryd.ntmps7
  go_wp2_with fail
  refine (new_zero _ _ _).mono ?_
  rintro e w1 ⟨rfl, rfl⟩
  go_wp2_with fail
  go_loopw [7, 8] (fun e i wr => ∃ j : Nat, j ≤ 8 ∧ e = .nilIface ∧ i = .int .i64 j ∧ Below (w.alloc (.cells #[.int .i64 k, .int .i64 l, .int .i64 c] 29)).heap.size (w.alloc (.cells #[.int .i64 k, .int .i64 l, .int .i64 c] 29)) wr) (fun e i _ => 9 - (intOf i).toNat)
  case atStart => exact ⟨0, by omega, rfl, rfl, Below.refl _ _⟩
  case round =>
    obtain ⟨j, hj, rfl, rfl, hb⟩ := hrel
    obtain ⟨q0, q1, q2, _, _, _⟩ := three_below BA.out hb
    have hlE : EO wr 0 .nilIface [] := .inl ⟨rfl, rfl⟩
    have h3 := bs24_three hlE hlE hlE
    have B1 := Lib.hid (B0.out.trans (hb.mono B0.out.size))
    by_cases hlt : (j : Int) < x % 9
    · go_wp2_with fail
      refine (move_eo hlE l c).mono ?_
      rintro e w2 ⟨m, rfl, em, bm⟩
      obtain rfl := em.nil_of
      go_wp2_with fail
      refine (join3_eo (w0 := w2) (n := 0) (d1 := []) (d2 := []) (d3 := []) (.inl ⟨rfl, rfl⟩) (.inl ⟨rfl, rfl⟩) (.inl ⟨rfl, rfl⟩) rfl).mono ?_
      rintro e w3 ⟨m, rfl, em', bm'⟩
      obtain rfl := em'.nil_of
      go_wp2_with fail
      go_roundw
      case rel => exact ⟨j + 1, by omega, rfl, by go_num, hb.trans ((bm.trans (bm'.mono bm.size)).mono hb.size)⟩
      case measure => simp [intOf]; omega
    · go_wp2_with fail
      refine (all_nil _).mono ?_
      rintro e w2 ⟨u, rfl, hu, b2⟩
      obtain ⟨a, cap, rfl, _⟩ := SDiag.of_owns (ds := []) hu
      go_wp2_with fail
      refine (kind_nil _).mono ?_
      rintro e w3 ⟨rfl, b3⟩
      go_wp2_with fail
      refine (is_any _ 0 (by decide) (errType_below HE.out (B1.out.trans ((b2.trans (b3.mono b2.size)).mono B1.out.size))) .nilIface kk [] (.inl ⟨rfl, rfl⟩)).mono ?_
      rintro e w4 ⟨rfl, b4⟩
      have hk0 : hasK kk [] = false := rfl
      rw [hk0]
      have b24 := (b2.trans (b3.mono b2.size)).trans (b4.mono (Nat.le_trans b2.size b3.size))
      have B4 := Lib.hid (hb.trans (b24.mono hb.size))
      clear b2 b3 b4 b24 hu hb q0 q1 q2
      obtain ⟨q0, q1, q2, _, _, _⟩ := three_below BA.out B4.out
      have hstill := Lib.hid (told_still k l c)
      have T1 := Lib.hid (told_len k l c)
      go_wp2_with fail
      refine (tell_eo k l c _).mono ?_
      rintro e w5 ⟨f, rfl, ef, b5⟩
      have B5 := Lib.hid (B4.out.trans (b5.mono B4.out.size))
      have EF := Lib.hid ef
      clear b5 ef q0 q1 q2
      go_wp2_with fail
      go_loopw [10, 11] (fun e i wr => ∃ j : Nat, j ≤ 8 ∧ EO wr (1 + j) e (told k l c) ∧ i = .int .i64 j ∧ Below w5.heap.size w5 wr) (fun e i _ => 9 - (intOf i).toNat)
      case atStart => exact ⟨0, by omega, EF.out, rfl, Below.refl _ _⟩
      case round =>
        obtain ⟨j2, hj2, eg, rfl, hb⟩ := hrel
        have EG := Lib.hid eg
        clear eg
        by_cases hlt2 : (j2 : Int) < x % 9
        · go_wp2_with fail
          refine (move_eo EG.out 0 0).mono ?_
          rintro e w6 ⟨g', rfl, eg', b6⟩
          rw [hstill.out] at eg'
          go_wp2_with fail
          go_roundw
          case rel => exact ⟨j2 + 1, by omega, eg'.deeper (by omega), by go_num, hb.trans (b6.mono hb.size)⟩
          case measure => simp [intOf]; omega
        · have HN := Lib.hid hb
          clear hb
          have D1 : Below w5.heap.size w5 wr.drew := HN.out.drew
          have DF := Lib.hid (EF.out.below D1)
          have DG := Lib.hid ((EG.out.deeper (show 1 + j2 ≤ 9 by omega)).below (Below.refl _ wr).drew)
          have BW : Below w.heap.size w wr.drew := B0.out.trans ((B5.out.trans (D1.mono B5.out.size)).mono B0.out.size)
          have DE := Lib.hid (errType_below HE.out BW)
          obtain ⟨q0, q1, q2, _, _, _⟩ := three_below BA.out (B5.out.trans (HN.out.mono B5.out.size))
          have hwr : w.heap.size < wr.drew.heap.size := by
            have := World.block_lt_of_cell? wr _ q0
            simpa using this
          have BD := Lib.hid BW
          clear EG BW D1 q1 q2
          have hval : (hasK kk (told k l c) = true ∧ (kk == k) = true ∧ (kk == 0) = false ∧ (kk != 0) = true) ∨ (hasK kk (told k l c) = false ∧ (kk == k) = true ∧ (kk == 0) = true ∧ (kk != 0) = false) ∨ (hasK kk (told k l c) = false ∧ (kk == k) = false ∧ decide (kk = k) = false) := by
            have h0 := hasK_told kk k l c
            by_cases h1 : kk = k
            · by_cases h2 : kk = 0
              · refine .inr (.inl ⟨?_, ?_, ?_, ?_⟩) <;> simp_all
              · refine .inl ⟨?_, ?_, ?_, ?_⟩ <;> simp_all
            · refine .inr (.inr ⟨?_, ?_, ?_⟩) <;> simp_all
          have hqd : wr.drew.cell? ⟨w.heap.size, 0, none⟩ = some (.int .i64 k) := by rw [World.cell?_drew]; exact q0
          rcases hval with ⟨hv, hv1, hv2, hv3⟩ | ⟨hv, hv1, hv2, hv3⟩ | ⟨hv, hv1, hv2⟩
          · have HV := Lib.hid hv
            clear hv
            go_wp2_with fail
            go_region_held3 (fun w' => w'.cell? ⟨w.heap.size, 0, none⟩ = some (.int .i64 k))
              (first
                | assumption
                | go_keep)
              ((first
                | (go_at_call 14; (with_reducible refine (all_eo DF.out (by decide) DE.out (Nat.le_trans T1.out (by decide))).mono ?_); rintro e w6 ⟨u1, rfl, s6, b6⟩; obtain ⟨hc6, hf6⟩ := bcell b6; have hl6 := hwr; have hl7 := (Nat.lt_of_lt_of_le hl6 b6.size); have S6 := Lib.hid s6; have B6 := Lib.hid b6; have q6 := ((hc6 _ _ hl6).trans hqd); clear s6 b6 hc6 hf6)
                | (go_at_call 14; (with_reducible refine (all_eo (DG.out.below B6.out) (by decide) (errType_below DE.out B6.out) (Nat.le_trans T1.out (by decide))).mono ?_); rintro e w7 ⟨u2, rfl, s7, b7⟩; obtain ⟨hc7, hf7⟩ := bcell b7; have hl8 := (Nat.lt_of_lt_of_le hl7 b7.size); have S7 := Lib.hid s7; have B7 := Lib.hid (B6.out.trans (b7.mono B6.out.size)); have S67 := Lib.hid (S6.out.below b7); have q7 := ((hc7 _ _ hl7).trans q6); clear s7 b7 hc7 hf7)
                | (go_at_call 13; (with_reducible refine (same_true u1 u2 (told k l c) _ (Nat.le_trans T1.out (by decide)) S67.out S7.out).mono ?_); rintro e w8 ⟨rfl, b8⟩; obtain ⟨hc8, hf8⟩ := bcell b8; have hl9 := (Nat.lt_of_lt_of_le hl8 b8.size); have B8 := Lib.hid (B7.out.trans (b8.mono B7.out.size)); have q8 := ((hc8 _ _ hl8).trans q7); clear b8 hc8 hf8)
                | (go_at_call 16; (with_reducible refine (is_any _ 9 (by decide) (errType_below DE.out B8.out) u10 kk (told k l c) (DG.out.below B8.out)).mono ?_); rintro e w9 ⟨rfl, b9⟩; obtain ⟨hc9, hf9⟩ := bcell b9; have B9 := Lib.hid (B8.out.trans (b9.mono B8.out.size)); have q9 := ((hc9 _ _ hl9).trans q8); have B9l := b9.size; clear b9 hc9 hf9; rw [HV.out])
                | (go_at_call 9; (with_reducible refine (known_any _ (errType_below DE.out B9.out)).mono ?_); rintro e w10 ⟨rfl, b10⟩; obtain ⟨hc10, hf10⟩ := bcell b10; have hl10 := (Nat.lt_of_lt_of_le hl9 B9l); have q10 := ((hc10 _ _ hl10).trans q9); have B10 := Lib.hid (B9.out.trans (b10.mono B9.out.size)); clear b10)))
            go_wp2
            go_ret
            exact ⟨rfl, BD.out.trans (B10.out.mono BD.out.size)⟩
          · have HV := Lib.hid hv
            clear hv
            go_wp2_with fail
            go_region_held3 (fun w' => w'.cell? ⟨w.heap.size, 0, none⟩ = some (.int .i64 k))
              (first
                | assumption
                | go_keep)
              ((first
                | (go_at_call 14; (with_reducible refine (all_eo DF.out (by decide) DE.out (Nat.le_trans T1.out (by decide))).mono ?_); rintro e w6 ⟨u1, rfl, s6, b6⟩; obtain ⟨hc6, hf6⟩ := bcell b6; have hl6 := hwr; have hl7 := (Nat.lt_of_lt_of_le hl6 b6.size); have S6 := Lib.hid s6; have B6 := Lib.hid b6; have q6 := ((hc6 _ _ hl6).trans hqd); clear s6 b6 hc6 hf6)
                | (go_at_call 14; (with_reducible refine (all_eo (DG.out.below B6.out) (by decide) (errType_below DE.out B6.out) (Nat.le_trans T1.out (by decide))).mono ?_); rintro e w7 ⟨u2, rfl, s7, b7⟩; obtain ⟨hc7, hf7⟩ := bcell b7; have hl8 := (Nat.lt_of_lt_of_le hl7 b7.size); have S7 := Lib.hid s7; have B7 := Lib.hid (B6.out.trans (b7.mono B6.out.size)); have S67 := Lib.hid (S6.out.below b7); have q7 := ((hc7 _ _ hl7).trans q6); clear s7 b7 hc7 hf7)
                | (go_at_call 13; (with_reducible refine (same_true u1 u2 (told k l c) _ (Nat.le_trans T1.out (by decide)) S67.out S7.out).mono ?_); rintro e w8 ⟨rfl, b8⟩; obtain ⟨hc8, hf8⟩ := bcell b8; have hl9 := (Nat.lt_of_lt_of_le hl8 b8.size); have B8 := Lib.hid (B7.out.trans (b8.mono B7.out.size)); have q8 := ((hc8 _ _ hl8).trans q7); clear b8 hc8 hf8)
                | (go_at_call 16; (with_reducible refine (is_any _ 9 (by decide) (errType_below DE.out B8.out) u10 kk (told k l c) (DG.out.below B8.out)).mono ?_); rintro e w9 ⟨rfl, b9⟩; obtain ⟨hc9, hf9⟩ := bcell b9; have B9 := Lib.hid (B8.out.trans (b9.mono B8.out.size)); have q9 := ((hc9 _ _ hl9).trans q8); have B9l := b9.size; clear b9 hc9 hf9; rw [HV.out])
                | (go_at_call 9; (with_reducible refine (known_any _ (errType_below DE.out B9.out)).mono ?_); rintro e w10 ⟨rfl, b10⟩; obtain ⟨hc10, hf10⟩ := bcell b10; have hl10 := (Nat.lt_of_lt_of_le hl9 B9l); have q10 := ((hc10 _ _ hl10).trans q9); have B10 := Lib.hid (B9.out.trans (b10.mono B9.out.size)); clear b10)))
            go_wp2
            go_ret
            exact ⟨rfl, BD.out.trans (B10.out.mono BD.out.size)⟩
          · have HV := Lib.hid hv
            clear hv
            go_wp2_with fail
            first
            | (go_region_with
              ((first
                | (go_at_call 14; (with_reducible refine (all_eo DF.out (by decide) DE.out (Nat.le_trans T1.out (by decide))).mono ?_); rintro e w6 ⟨u1, rfl, s6, b6⟩; obtain ⟨hc6, hf6⟩ := bcell b6; have hl6 := hwr; have hl7 := (Nat.lt_of_lt_of_le hl6 b6.size); have S6 := Lib.hid s6; have B6 := Lib.hid b6; have q6 := ((hc6 _ _ hl6).trans hqd); clear s6 b6 hc6 hf6)
                | (go_at_call 14; (with_reducible refine (all_eo (DG.out.below B6.out) (by decide) (errType_below DE.out B6.out) (Nat.le_trans T1.out (by decide))).mono ?_); rintro e w7 ⟨u2, rfl, s7, b7⟩; obtain ⟨hc7, hf7⟩ := bcell b7; have hl8 := (Nat.lt_of_lt_of_le hl7 b7.size); have S7 := Lib.hid s7; have B7 := Lib.hid (B6.out.trans (b7.mono B6.out.size)); have S67 := Lib.hid (S6.out.below b7); have q7 := ((hc7 _ _ hl7).trans q6); clear s7 b7 hc7 hf7)
                | (go_at_call 13; (with_reducible refine (same_true u1 u2 (told k l c) _ (Nat.le_trans T1.out (by decide)) S67.out S7.out).mono ?_); rintro e w8 ⟨rfl, b8⟩; obtain ⟨hc8, hf8⟩ := bcell b8; have hl9 := (Nat.lt_of_lt_of_le hl8 b8.size); have B8 := Lib.hid (B7.out.trans (b8.mono B7.out.size)); have q8 := ((hc8 _ _ hl8).trans q7); clear b8 hc8 hf8)
                | (go_at_call 16; (with_reducible refine (is_any _ 9 (by decide) (errType_below DE.out B8.out) u10 kk (told k l c) (DG.out.below B8.out)).mono ?_); rintro e w9 ⟨rfl, b9⟩; obtain ⟨hc9, hf9⟩ := bcell b9; have B9 := Lib.hid (B8.out.trans (b9.mono B8.out.size)); have q9 := ((hc9 _ _ hl9).trans q8); have B9l := b9.size; clear b9 hc9 hf9; rw [HV.out])
                | (go_at_call 9; (with_reducible refine (known_any _ (errType_below DE.out B9.out)).mono ?_); rintro e w10 ⟨rfl, b10⟩; obtain ⟨hc10, hf10⟩ := bcell b10; have hl10 := (Nat.lt_of_lt_of_le hl9 B9l); have q10 := ((hc10 _ _ hl10).trans q9); have B10 := Lib.hid (B9.out.trans (b10.mono B9.out.size)); clear b10))))
            | skip
            all_goals
              go_wp2
              go_ret
              exact ⟨rfl, BD.out.trans (B10.out.mono BD.out.size)⟩
end Go.Proofs.YtalopkplpbdgjaaDoor
