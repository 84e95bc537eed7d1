/- A reader ends a row. -/
import Derived.Test.YteckiifnldcjbaaDoorKB
namespace Go.Proofs.YteckiifnldcjbaaDoor
open Go.RowKit
attribute [local go_sem ↓ high] binop_eqlS binop_neqS

/-- What a method leaves. -/
def KEnd (base B : Nat) (W : World) (ln fi : Int) (tx : List UInt8) (rows : List Row) (dg : List Dg) (e : Ending) (W' : World) : Prop :=
  ∃ va' vb' vr' vd', e = .returned (.tuple #[]) ∧ RS base B W' ln fi va' vb' vr' vd' tx rows dg ∧ Fr base B W W'
theorem KEnd.mk {base B : Nat} {W W' : World} {ln fi : Int} {va' vb' vr' vd' : Value} {tx : List UInt8} {rows : List Row} {dg : List Dg} {e : Ending} (h0 : e = .returned (.tuple #[])) (h1 : RS base B W' ln fi va' vb' vr' vd' tx rows dg) (h2 : Fr base B W W') : KEnd base B W ln fi tx rows dg e W' := ⟨_, _, _, _, h0, h1, h2⟩
/-- What is put together, as a row, or none. -/
def tellRow (fi : Int) (tx : List UInt8) : List Row × List Dg :=
  if ptd tx then (if Lib.trimLeftS (tx.drop 1) [32, 9] = [] then ([], []) else ([mrow fi (Lib.trimLeftS (tx.drop 1) [32, 9])], mdgs fi (Lib.trimLeftS (tx.drop 1) [32, 9])))
  else ([(fi, [], [], tx)], [])

section
variable {base B : Nat} {W : World} {ln fi : Int} {va vb vr vd : Value} {tx : List UInt8} {rows : List Row} {dg : List Dg}
theorem RS.sayText (h : RS base B W ln fi va vb vr vd tx rows dg) {R : Nat} {q : Int} (hC : Blk W R 34 [.int .i64 q, .string ⟨#[]⟩, .slice none 0 0, .string ⟨#[]⟩]) (hne : vr.ownBlock ≠ some R) (hR : base ≤ R) (hl : rows.length ≤ 500000) (x : List UInt8) :
    ∃ W2 vr' w2, W2 = W.setCell ⟨R, 3, none⟩ (.string ⟨x.toArray⟩) ∧
      (W2.cell? ⟨R, 0, none⟩ = some (.int .i64 q) ∧ W2.cell? ⟨R, 1, none⟩ = some (.string ⟨#[]⟩) ∧ W2.cell? ⟨R, 2, none⟩ = some (.slice none 0 0) ∧ W2.cell? ⟨R, 3, none⟩ = some (.string ⟨x.toArray⟩)) ∧ W2.cell? ⟨B, 4, none⟩ = some vr ∧
      (Builtin.append_ #[29, 29] 29 #[vr, .slice (some ⟨W2.heap.size, 0, none⟩) 1 1]).run Tryd.prog (W2.alloc (.cells #[.int .i64 q, .string ⟨#[]⟩, .slice none 0 0, .string ⟨x.toArray⟩] 34)).drew = .ok vr' w2 ∧ w2.cell? ⟨B, 4, none⟩ = some vr ∧ w2.frozen? ⟨B, 4, none⟩ = false ∧
      RS base B (w2.setCell ⟨B, 4, none⟩ vr') ln fi va vb vr' vd tx (rows ++ [(q, [], [], x)]) dg ∧ Fr base B W (w2.setCell ⟨B, 4, none⟩ vr') ∧ ∃ b n c, vr' = .slice b n c := by
  have hlt := h.lt
  have r2 := h.setRow hC hne (by omega) 3 (.string ⟨x.toArray⟩)
  have k2 := hC.set 3 (.string ⟨x.toArray⟩)
  obtain ⟨vr', w2, hr, c, f, r3, f3, sh⟩ := r2.say hl (q, [], [], x) (none, 0, 0) (FOwn.nil _ _) _ rfl
  exact ⟨_, vr', w2, rfl, ⟨k2.cell 0, k2.cell 1, k2.cell 2, k2.cell 3⟩, r2.blk.cell 4, hr, c, f, r3, (Fr.high hR _ _).trans f3, sh⟩
end
theorem trimLeft_le (l cs : List UInt8) : (Lib.trimLeftS l cs).length ≤ l.length := (List.dropWhile_sublist _).length_le

set_option maxRecDepth 100000 in
set_option maxHeartbeats 4000000 in
theorem end_none {base B : Nat} {ln : Int} {va vb vr vd : Value} {tx : List UInt8} {rows : List Row} {dg : List Dg} (W : World) (h : RS base B W ln 0 va vb vr vd tx rows dg) :
    Calls Tryd.prog 43 #[.pointer (some ⟨B, 0, none⟩)] W (KEnd base B W ln 0 tx rows dg) := by
  have c1 : W.cell? ⟨B, 1, none⟩ = some (.int .i64 0) := h.blk.cell 1
  have H := Lib.hid h
  clear h
  go_enter Tryd.func43, Tryd.ntmps43
  go_wp2_with fail
  go_end0
  exact KEnd.mk rfl H.out (Fr.refl _)

set_option maxRecDepth 100000 in
set_option maxHeartbeats 4000000 in
theorem end_any {base B : Nat} {ln fi : Int} {va vb vr vd : Value} {tx : List UInt8} {rows : List Row} {dg : List Dg} (W : World) (h : RS base B W ln fi va vb vr vd tx rows dg) (hM : ∀ W', Fr base B W W' → Mx W') (hfi : fi ≠ 0) (ht : tx.length ≤ 100000) (hr : rows.length ≤ 100000) (hd : dg.length ≤ 100000) :
    Calls Tryd.prog 43 #[.pointer (some ⟨B, 0, none⟩)] W (KEnd base B W ln 0 [] (rows ++ (tellRow fi tx).1) (dg ++ (tellRow fi tx).2)) := by
  have c1 : W.cell? ⟨B, 1, none⟩ = some (.int .i64 fi) := h.blk.cell 1
  have hf : (fi == 0) = false := by simpa using hfi
  have hsz := arr_size tx
  obtain ⟨R, hRe⟩ : ∃ R, W.heap.size = R := ⟨_, rfl⟩
  have bl := below_lit W (.cells #[.int .i64 fi, .string ⟨#[]⟩, .slice none 0 0, .string ⟨#[]⟩] 34)
  have h1 := h.keep bl
  have S1 := Lib.hid (rstring_any _ h1)
  have HB0 : Hid (Blk (W.alloc (.cells #[.int .i64 fi, .string ⟨#[]⟩, .slice none 0 0, .string ⟨#[]⟩] 34)) R 34 [.int .i64 fi, .string ⟨#[]⟩, .slice none 0 0, .string ⟨#[]⟩] ∧ vr.ownBlock ≠ some R ∧ base ≤ R ∧ Fr base B W (W.alloc (.cells #[.int .i64 fi, .string ⟨#[]⟩, .slice none 0 0, .string ⟨#[]⟩] 34))) :=
    Lib.hid ⟨hRe ▸ blk_new W _ _, hRe ▸ h.rowNe, hRe ▸ h.sz, Fr.of_below h.sz bl⟩
  have HM := Lib.hid hM
  obtain ⟨TR, hTR⟩ : ∃ TR, tellRow fi tx = TR := ⟨_, rfl⟩
  have HTR := Lib.hid hTR
  rw [hTR]
  clear hTR hM h h1 bl
  go_enter Tryd.func43, Tryd.ntmps43
  go_wp2_with fail
  refine S1.out.mono ?_
  rintro e W2 ⟨rfl, h2, f2, s2⟩
  have g1 : W2.frozen? ⟨B, 1, none⟩ = false := h2.blk.frozen (by simp)
  have x1 : W2.cell? ⟨B, 1, none⟩ = some (.int .i64 fi) := h2.blk.cell 1
  have h3 := h2.set 1 (.int .i64 0) rfl
  have R1 := Lib.hid (rreset_any _ h3)
  have HB2 : Hid (Blk (W2.setCell ⟨B, 1, none⟩ (.int .i64 0)) R 34 [.int .i64 fi, .string ⟨#[]⟩, .slice none 0 0, .string ⟨#[]⟩] ∧ vr.ownBlock ≠ some R ∧ base ≤ R ∧ Fr base B W (W2.setCell ⟨B, 1, none⟩ (.int .i64 0))) := by
    obtain ⟨q1, q2, q3, q4⟩ := HB0.out
    have k2 := (s2 _ _ q3 q1).trans q1
    exact Lib.hid ⟨(SameE.low W2 h2.lt 1 _ _ _ q3 k2).trans k2, q2, q3, (q4.trans f2).trans (Fr.set _ _ _)⟩
  clear h2 f2 s2 h3 S1 HB0
  go_wp2_with fail
  refine R1.out.mono ?_
  rintro e W4 ⟨rfl, h4, f4, s4⟩
  have HB4 : Hid (Blk W4 R 34 [.int .i64 fi, .string ⟨#[]⟩, .slice none 0 0, .string ⟨#[]⟩] ∧ vr.ownBlock ≠ some R ∧ base ≤ R ∧ Fr base B W W4) := by
    obtain ⟨q1, q2, q3, q4⟩ := HB2.out
    exact Lib.hid ⟨(s4 _ _ q3 q1).trans q1, q2, q3, q4.trans f4⟩
  have H4 := Lib.hid h4
  have HM4 := Lib.hid (HM.out _ HB4.out.2.2.2)
  clear h4 f4 s4 R1 HB2
  have P1 := Lib.hid (fun W => pointed_any tx W)
  cases hp : ptd tx
  · rw [hp] at P1
    have eT : TR = ([(fi, [], [], tx)], []) := by rw [← HTR.out]; unfold tellRow; rw [hp]; rfl
    subst eT
    obtain ⟨WW, vr9, w9, hWW, ⟨z0, z1, z2, z3⟩, z4, kk, d9, f9, m9, q9, b9, n9, c9, rfl⟩ := H4.out.sayText HB4.out.1 HB4.out.2.1 HB4.out.2.2.1 (by omega) tx
    have y3 : W4.cell? ⟨R, 3, none⟩ = some (.string ⟨#[]⟩) := HB4.out.1.cell 3
    have g3 : W4.frozen? ⟨R, 3, none⟩ = false := HB4.out.1.frozen (by simp)
    have z5 : (WW.alloc (.cells #[.int .i64 fi, .string ⟨#[]⟩, .slice none 0 0, .string ⟨tx.toArray⟩] 34)).cell? ⟨B, 4, none⟩ = some vr := (Below.cell (below_lit WW _) (World.block_lt_of_cell? WW _ z4)).trans z4
    have M9 := Lib.hid (And.intro m9 (HB4.out.2.2.2.trans q9))
    have HWW := Lib.hid hWW
    try rw [hRe]
    clear m9 q9 hWW hp HTR HM HM4 HB4 H4 hRe
    go_wp2_with (go_at_call 48; refine (P1.out _).mono ?_; rintro e w' ⟨rfl, rfl⟩)
    rw [← HWW.out]
    go_region_law ((refine step_append_run rfl (.tmp 34) (.tmp 36) 29 29 rfl _ _ rfl rfl kk ?_))
    all_goals
      go_wp2_with fail
      go_end0
      refine KEnd.mk (va' := .pointer none) (vb' := .slice none 0 0) (vr' := .slice b9 n9 c9) (vd' := vd) rfl ?_ M9.out.2
      have e9 := M9.out.1
      simpa using e9
  · rw [hp] at P1
    have h1 : 1 ≤ tx.length := by
      cases tx with
      | nil => simp [ptd] at hp
      | cons _ _ => simp
    have k1 : ∀ W, (Instr.slice 9 (.string ⟨tx.toArray⟩) (some (.int .i64 1)) none none).run Tryd.prog W = .ok (.string ⟨(tx.drop 1).toArray⟩) W := str_from tx 1 h1
    have T1 := Lib.hid (fun W => trimLeft_any (tx.drop 1) [32, 9] W (by decide) (by
      intro j b hb
      have hm : b ∈ ([32, 9] : List UInt8) := List.mem_iff_getElem?.2 ⟨j, hb⟩
      simp at hm
      rcases hm with rfl | rfl <;> decide))
    have eT : TR = if Lib.trimLeftS (tx.drop 1) [32, 9] = [] then ([], []) else ([mrow fi (Lib.trimLeftS (tx.drop 1) [32, 9])], mdgs fi (Lib.trimLeftS (tx.drop 1) [32, 9])) := by rw [← HTR.out]; unfold tellRow; rw [hp]; rfl
    have htl := trimLeft_le (tx.drop 1) [32, 9]
    rw [List.length_drop] at htl
    obtain ⟨t, ht'⟩ : ∃ t, Lib.trimLeftS (tx.drop 1) [32, 9] = t := ⟨_, rfl⟩
    rw [ht'] at eT htl T1
    obtain ⟨dx, hdx⟩ : ∃ dx, tx.drop 1 = dx := ⟨_, rfl⟩
    rw [hdx] at k1 T1
    have ET := Lib.hid eT
    have EQ := Lib.hid (fun W => neqS_run t [] W)
    try rw [hRe]
    clear eT ht' hdx hp HTR hRe
    go_wp2_with (go_at_call 48; refine (P1.out _).mono ?_; rintro e w' ⟨rfl, rfl⟩)
    refine (T1.out _).mono ?_
    rintro e W5 ⟨rfl, b5⟩
    have H5 : Hid (RS base B W5 ln 0 (.pointer none) (.slice none 0 0) vr vd [] rows dg ∧ Fr base B W W5 ∧ Mx W5 ∧ Blk W5 R 34 [.int .i64 fi, .string ⟨#[]⟩, .slice none 0 0, .string ⟨#[]⟩]) := by
      have hb5 := HB4.out.2.2.2.trans (Fr.of_below H4.out.sz b5)
      exact Lib.hid ⟨H4.out.keep b5, hb5, HM.out _ hb5, HB4.out.1.below b5⟩
    clear b5 T1 HB4 H4 HM4 HM k1
    by_cases h0 : t = []
    · subst h0
      have eT := ET.out
      rw [if_pos rfl] at eT
      subst eT
      have E2 : ∀ W, (neqS (.string ⟨#[]⟩) (.string ⟨#[]⟩)).run Tryd.prog W = .ok (.bool false) W := neqS_run [] []
      clear EQ ET
      go_wp2_with fail
      go_end0
      refine KEnd.mk (va' := .pointer none) (vb' := .slice none 0 0) (vr' := vr) (vd' := vd) rfl ?_ H5.out.2.1
      have e9 := H5.out.1
      simpa using e9
    · have eT := ET.out
      rw [if_neg h0] at eT
      subst eT
      have E2 : ∀ W, (neqS (.string ⟨t.toArray⟩) (.string ⟨#[]⟩)).run Tryd.prog W = .ok (.bool true) W := by
        intro W
        have h := EQ.out W
        rw [decide_eq_false h0] at h
        exact h
      have z0 : W5.cell? ⟨R, 0, none⟩ = some (.int .i64 fi) := H5.out.2.2.2.cell 0
      have z1 : W5.cell? ⟨R, 1, none⟩ = some (.string ⟨#[]⟩) := H5.out.2.2.2.cell 1
      have z2 : W5.cell? ⟨R, 2, none⟩ = some (.slice none 0 0) := H5.out.2.2.2.cell 2
      have z3 : W5.cell? ⟨R, 3, none⟩ = some (.string ⟨#[]⟩) := H5.out.2.2.2.cell 3
      have C1 := Lib.hid (macro_any W5 H5.out.1 H5.out.2.2.1 fi t (by omega) hr hd)
      clear EQ ET h0
      go_wp2_with fail
      refine C1.out.mono ?_
      rintro e W6 ⟨vr6, vd6, rfl, r6, q6⟩
      have H6 := Lib.hid (And.intro r6 (H5.out.2.1.trans q6))
      clear C1 r6 q6 H5
      go_wp2_with fail
      go_end0
      exact KEnd.mk rfl H6.out.1 H6.out.2
end Go.Proofs.YteckiifnldcjbaaDoor
