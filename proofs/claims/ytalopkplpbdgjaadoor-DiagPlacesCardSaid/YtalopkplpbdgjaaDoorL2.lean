/- The law DiagMoves returns true at every input, and leaves old memory as it was. -/
import Derived.Test.YtalopkplpbdgjaaDoorX9
namespace Go.Proofs.YtalopkplpbdgjaaDoor
open Go.RowKit Go.Shelf Go.Extern.Stop Go.Stop Go.Extern

def told (k l c : Int) : List D := if k = 0 then [] else [(k, clip l, clip c)]

set_option maxRecDepth 100000 in
set_option maxHeartbeats 1000000 in
theorem tell_eo (k l c : Int) (w : World) : Calls Tryd.prog 19 #[.agg #[.int .i64 k, .int .i64 l, .int .i64 c]] w fun e w' => ∃ v, e = .returned v ∧ EO w' 1 v (told k l c) ∧ Below w.heap.size w w' := by
  by_cases hk : k = 0
  · subst hk
    go_enter Tryd.func19, Tryd.ntmps19
    go_wp2_with fail
    refine (new_zero _ _ _).mono ?_
    rintro e w' ⟨rfl, rfl⟩
    go_wp2_with fail
    go_ret
    exact ⟨_, rfl, .inl ⟨rfl, by simp [told]⟩, (Below.refl _ _).alloc (Nat.le_refl _) _⟩
  · have hN := fun w => new_er k l c w hk
    have HK := Lib.hid hk
    clear hk
    go_enter Tryd.func19, Tryd.ntmps19
    go_wp2_with fail
    refine (hN _).mono ?_
    rintro e w1 ⟨v, rfl, h1, b1⟩
    go_wp2_with fail
    go_ret
    exact ⟨_, rfl, .inr ⟨62, v, rfl, by rw [told, if_neg HK.out]; exact h1⟩, ((Below.refl _ w).alloc (Nat.le_refl _) _).trans (b1.mono (by simp))⟩

theorem move_eo {w : World} {n : Nat} {v : Value} {ds : List D} (h : EO w n v ds) (ls cs : Int) : Calls Tryd.prog 21 #[v, .int .i64 ls, .int .i64 cs] w fun e w' => ∃ v', e = .returned v' ∧ EO w' (n + 1) v' (ds.map (mv ls cs)) ∧ Below w.heap.size w w' := by
  rcases h with ⟨rfl, rfl⟩ | ⟨t, x, rfl, h⟩
  · exact (move_nil ls cs w).mono fun e w' ⟨he, hw⟩ => ⟨_, he, .inl ⟨rfl, rfl⟩, by subst hw; exact Below.refl _ _⟩
  · exact (move_er h ls cs).mono fun e w' ⟨v', he, h1, hb⟩ => ⟨_, he, .inr ⟨75, v', rfl, h1⟩, hb⟩

theorem all_eo {w : World} {n : Nat} {v : Value} {ds : List D} (h : EO w n v ds) (hn : n ≤ 1000) (hE : ErrType w) (hd : ds.length ≤ 1000) : Calls Tryd.prog 14 #[v] w fun e w' => ∃ u, e = .returned u ∧ SDiag w' u ds ∧ Below w.heap.size w w' := by
  rcases h with ⟨rfl, rfl⟩ | ⟨t, x, rfl, h⟩
  · exact (all_nil w).mono fun e w' ⟨u, he, h1, hb⟩ => ⟨u, he, SDiag.of_owns (base := w.heap.size) h1, hb⟩
  · exact (all_any w n hn hE t x ds h hd).mono fun e w' ⟨u, he, h1, hb⟩ => ⟨u, he, SDiag.of_owns h1, hb⟩

theorem EO.cells {w : World} {n : Nat} {v : Value} {ds : List D} (h : EO w n v ds) : v.cells = #[v] := by
  rcases h with ⟨rfl, _⟩ | ⟨t, x, rfl, _⟩ <;> rfl

/-- The building of a slice of errors, kept whole. -/
noncomputable def bs24 (n : Nat) (ps : Array (Nat × Value)) : Sem Value := Instr.buildSlice 24 n ps
theorem buildSlice24 (n : Nat) (ps : Array (Nat × Value)) : Instr.buildSlice 24 n ps = bs24 n ps := rfl
theorem bs24_two {wa wb : World} {n1 n2 : Nat} {v1 v2 : Value} {d1 d2 : List D} (h1 : EO wa n1 v1 d1) (h2 : EO wb n2 v2 d2) (w : World) :
    (bs24 2 #[(0, v1), (1, v2)]).run Tryd.prog w = .ok (.slice (some ⟨w.heap.size, 0, none⟩) 2 2) (w.alloc (.cells #[v1, v2] 34)) := by
  unfold bs24
  rcases h1 with ⟨rfl, _⟩ | ⟨t1, x1, rfl, _⟩ <;> rcases h2 with ⟨rfl, _⟩ | ⟨t2, x2, rfl, _⟩ <;> go_simp
theorem bs24_three {wa wb wc : World} {n1 n2 n3 : Nat} {v1 v2 v3 : Value} {d1 d2 d3 : List D} (h1 : EO wa n1 v1 d1) (h2 : EO wb n2 v2 d2) (h3 : EO wc n3 v3 d3) (w : World) :
    (bs24 3 #[(0, v1), (1, v2), (2, v3)]).run Tryd.prog w = .ok (.slice (some ⟨w.heap.size, 0, none⟩) 3 3) (w.alloc (.cells #[v1, v2, v3] 34)) := by
  unfold bs24
  rcases h1 with ⟨rfl, _⟩ | ⟨t1, x1, rfl, _⟩ <;> rcases h2 with ⟨rfl, _⟩ | ⟨t2, x2, rfl, _⟩ <;> rcases h3 with ⟨rfl, _⟩ | ⟨t3, x3, rfl, _⟩ <;> go_simp

/-- Join of two, out of the slice that the call has just made. -/
theorem join2_eo {w0 w : World} {n : Nat} {v1 v2 : Value} {d1 d2 : List D} (h1 : EO w0 n v1 d1) (h2 : EO w0 n v2 d2) (hw : w0.alloc (.cells #[v1, v2] 34) = w) :
    Calls Tryd.prog 22 #[.slice (some ⟨w0.heap.size, 0, none⟩) 2 2] w fun e w' => ∃ v', e = .returned v' ∧ EO w' (n + 1) v' (d1 ++ d2) ∧ Below w0.heap.size w0 w' := by
  subst hw
  have hb : Below w0.heap.size w0 (w0.alloc (.cells #[v1, v2] 34)) := (Below.refl _ _).alloc (Nat.le_refl _) _
  refine (join_any w0.heap.size 2 n [(v1, d1), (v2, d2)] _ (by simp) (fun j p hj => ?_) (fun p hp => ?_)).mono ?_
  · match j, hj with
    | 0, hj => simp at hj; subst hj; simp
    | 1, hj => simp at hj; subst hj; simp
  · simp at hp
    rcases hp with rfl | rfl
    · exact h1.below hb
    · exact h2.below hb
  · rintro e w' ⟨v, he, hv, hb'⟩
    exact ⟨v, he, by simpa using hv, hb.trans (hb'.mono (by simp))⟩
theorem join3_eo {w0 w : World} {n : Nat} {v1 v2 v3 : Value} {d1 d2 d3 : List D} (h1 : EO w0 n v1 d1) (h2 : EO w0 n v2 d2) (h3 : EO w0 n v3 d3) (hw : w0.alloc (.cells #[v1, v2, v3] 34) = w) :
    Calls Tryd.prog 22 #[.slice (some ⟨w0.heap.size, 0, none⟩) 3 3] w fun e w' => ∃ v', e = .returned v' ∧ EO w' (n + 1) v' (d1 ++ (d2 ++ d3)) ∧ Below w0.heap.size w0 w' := by
  subst hw
  have hb : Below w0.heap.size w0 (w0.alloc (.cells #[v1, v2, v3] 34)) := (Below.refl _ _).alloc (Nat.le_refl _) _
  refine (join_any w0.heap.size 3 n [(v1, d1), (v2, d2), (v3, d3)] _ (by simp) (fun j p hj => ?_) (fun p hp => ?_)).mono ?_
  · match j, hj with
    | 0, hj => simp at hj; subst hj; simp
    | 1, hj => simp at hj; subst hj; simp
    | 2, hj => simp at hj; subst hj; simp
  · simp at hp
    rcases hp with rfl | rfl | rfl
    · exact h1.below hb
    · exact h2.below hb
    · exact h3.below hb
  · rintro e w' ⟨v, he, hv, hb'⟩
    exact ⟨v, he, by simpa using hv, hb.trans (hb'.mono (by simp))⟩

theorem moves_eq {k l c x y : Int} (hx : 0 ≤ x ∧ x ≤ 65535) (hy : 0 ≤ y ∧ y ≤ 65535) (hl : l ≤ 1000000) (hc : c ≤ 1000000) :
    ((told k l c).map (mv x y)).map (mv y x) = (told k l c).map (mv (x + y) (x + y)) := by
  unfold told
  by_cases hk : k = 0
  · simp [hk]
  · simp only [hk, if_false, List.map_cons, List.map_nil, List.cons.injEq, and_true, mv, clip, short, Prod.mk.injEq, true_and]
    omega
theorem told_len (k l c : Int) : (told k l c).length ≤ 1 := by unfold told; split <;> simp

attribute [local go_sem ↓ high] buildSlice24

set_option maxRecDepth 1000000 in
set_option maxHeartbeats 4000000 in
theorem moves_any (k1 l1 c1 k2 l2 c2 k3 l3 c3 x y : Int) (hx : 0 ≤ x ∧ x ≤ 65535) (hy : 0 ≤ y ∧ y ≤ 65535) (w : World) (hE : ErrType w) :
    Calls Tryd.prog 5 #[.agg #[.int .i64 k1, .int .i64 l1, .int .i64 c1], .agg #[.int .i64 k2, .int .i64 l2, .int .i64 c2], .agg #[.int .i64 k3, .int .i64 l3, .int .i64 c3], .int .u16 x, .int .u16 y] w fun e W' => e = .returned (.bool true) ∧ Below w.heap.size w W' := by
  have HE := Lib.hid hE
  clear hE
  obtain ⟨hx0, hx1⟩ := hx
  obtain ⟨hy0, hy1⟩ := hy
  have T1 := Lib.hid (told_len k1 l1 c1)
  have T2 := Lib.hid (told_len k2 l2 c2)
  have T3 := Lib.hid (told_len k3 l3 c3)
  have bA : ((((w.alloc (.cells #[.int .i64 k1, .int .i64 l1, .int .i64 c1] 29)).alloc (.cells #[.int .i64 k2, .int .i64 l2, .int .i64 c2] 29)).alloc (.cells #[.int .i64 k3, .int .i64 l3, .int .i64 c3] 29))).heap[w.heap.size]? = some (.cells #[.int .i64 k1, .int .i64 l1, .int .i64 c1] 29 (0, 0)) := (Below.heap_alloc _ _ _ (by simp; omega)).trans ((Below.heap_alloc _ _ _ (by simp)).trans (heap_alloc_new w _))
  have bB : ((((w.alloc (.cells #[.int .i64 k1, .int .i64 l1, .int .i64 c1] 29)).alloc (.cells #[.int .i64 k2, .int .i64 l2, .int .i64 c2] 29)).alloc (.cells #[.int .i64 k3, .int .i64 l3, .int .i64 c3] 29))).heap[w.heap.size + 1]? = some (.cells #[.int .i64 k2, .int .i64 l2, .int .i64 c2] 29 (0, 0)) := (Below.heap_alloc _ _ _ (by simp)).trans (by have := heap_alloc_new (w.alloc (.cells #[.int .i64 k1, .int .i64 l1, .int .i64 c1] 29)) (.cells #[.int .i64 k2, .int .i64 l2, .int .i64 c2] 29); rwa [World.size_alloc] at this)
  have bC : ((((w.alloc (.cells #[.int .i64 k1, .int .i64 l1, .int .i64 c1] 29)).alloc (.cells #[.int .i64 k2, .int .i64 l2, .int .i64 c2] 29)).alloc (.cells #[.int .i64 k3, .int .i64 l3, .int .i64 c3] 29))).heap[w.heap.size + 1 + 1]? = some (.cells #[.int .i64 k3, .int .i64 l3, .int .i64 c3] 29 (0, 0)) := (by have := heap_alloc_new ((w.alloc (.cells #[.int .i64 k1, .int .i64 l1, .int .i64 c1] 29)).alloc (.cells #[.int .i64 k2, .int .i64 l2, .int .i64 c2] 29)) (.cells #[.int .i64 k3, .int .i64 l3, .int .i64 c3] 29); rwa [World.size_alloc, World.size_alloc] at this)
  have b0 : Below w.heap.size w (((w.alloc (.cells #[.int .i64 k1, .int .i64 l1, .int .i64 c1] 29)).alloc (.cells #[.int .i64 k2, .int .i64 l2, .int .i64 c2] 29)).alloc (.cells #[.int .i64 k3, .int .i64 l3, .int .i64 c3] 29)) := (((Below.refl _ _).alloc (Nat.le_refl _) _).alloc (by simp) _).alloc (by simp; omega) _
  have BA := Lib.hid bA
  have BB := Lib.hid bB
  have BC := Lib.hid bC
  have B0 := Lib.hid b0
  clear bA bB bC b0
  have hM := fun h1 h2 => moves_eq (k := k1) (l := l1) (c := c1) (x := x) (y := y) ⟨hx0, hx1⟩ ⟨hy0, hy1⟩ h1 h2
  have HM := Lib.hid hM
  clear hM
  go_enter Tryd.func5, Tryd.ntmps5
  go_wp2_with fail
  refine (tell_eo k1 l1 c1 _).mono ?_
  rintro e w1 ⟨p, rfl, p1, b1⟩
  obtain ⟨q0, q1, q2, _, _, _⟩ := three_below BB.out b1
  go_wp2_with fail
  refine (tell_eo k2 l2 c2 _).mono ?_
  rintro e w2 ⟨q, rfl, q1', b2⟩
  have b12 := b1.trans (b2.mono b1.size)
  obtain ⟨r0, r1, r2, _, _, _⟩ := three_below BC.out b12
  go_wp2_with fail
  refine (tell_eo k3 l3 c3 _).mono ?_
  rintro e w3 ⟨r, rfl, r1', b3⟩
  have b13 := b12.trans (b3.mono b12.size)
  obtain ⟨s0, s1, s2, _, _, _⟩ := three_below BA.out b13
  have C0 := Lib.hid (B0.out.trans (b13.mono B0.out.size))
  have P0 := Lib.hid (p1.below (b2.trans (b3.mono b2.size)))
  have Q0 := Lib.hid (q1'.below b3)
  have R0 := Lib.hid r1'
  clear p1 q1' r1' b1 b2 b3 b12 b13 q0 q1 q2 r0 r1 r2
  have key : 1000000 < l1 ∨ (l1 ≤ 1000000 ∧ 1000000 < c1) ∨ (l1 ≤ 1000000 ∧ c1 ≤ 1000000) := by omega
  rcases key with f1 | ⟨f1, f2⟩ | ⟨f1, f2⟩
  all_goals
    go_wp2_with fail
    refine (move_eo P0.out x y).mono ?_
    rintro e w4 ⟨m1, rfl, e4, b4⟩
    have C4 := Lib.hid b4
    have E4 := Lib.hid e4
    clear b4 e4
    go_wp2_with fail
    refine (move_eo E4.out y x).mono ?_
    rintro e w5 ⟨m2, rfl, e5, b5⟩
    have C5 := Lib.hid (C4.out.trans (b5.mono C4.out.size))
    have E5 := Lib.hid e5
    clear b5 e5
    go_wp2_with fail
    refine (all_eo E5.out (by decide) (errType_below HE.out (C0.out.trans (C5.out.mono C0.out.size))) (by simp only [List.length_map]; have := T1.out; omega)).mono ?_
    rintro e w6 ⟨m3, rfl, e6, b6⟩
    have C6 := Lib.hid (C5.out.trans (b6.mono C5.out.size))
    have E6 := Lib.hid e6
    clear b6 e6
    go_wp2_with fail
    refine (move_eo (P0.out.below C6.out) (x + y) (x + y)).mono ?_
    rintro e w7 ⟨m4, rfl, e7, b7⟩
    have C7 := Lib.hid (C6.out.trans (b7.mono C6.out.size))
    have E6' := Lib.hid (E6.out.below b7)
    have E7 := Lib.hid e7
    clear b7 e7
    go_wp2_with fail
    refine (all_eo E7.out (by decide) (errType_below HE.out (C0.out.trans (C7.out.mono C0.out.size))) (by simp only [List.length_map]; have := T1.out; omega)).mono ?_
    rintro e w8 ⟨m5, rfl, e8, b8⟩
    have C8 := Lib.hid (C7.out.trans (b8.mono C7.out.size))
    have E6'' := Lib.hid (E6'.out.below b8)
    have E8 := Lib.hid e8
    clear b8 e8
    have hpq := bs24_two P0.out Q0.out
    have hqr := bs24_two Q0.out R0.out
    go_wp2_with fail
  · refine (join2_eo (P0.out.below C8.out) (Q0.out.below C8.out) rfl).mono ?_
    rintro e wa ⟨j1, rfl, ea, ba⟩
    have Ca := Lib.hid (C8.out.trans (ba.mono C8.out.size))
    have EA := Lib.hid ea
    have Cab := Lib.hid ba
    clear ba ea
    have h1 := bs24_two EA.out R0.out
    go_wp2_with fail
    refine (join2_eo EA.out ((R0.out.below Ca.out).deeper (by decide)) rfl).mono ?_
    rintro e wb ⟨left, rfl, eb, bb⟩
    have Cb := Lib.hid (Ca.out.trans (bb.mono Ca.out.size))
    have EB := Lib.hid eb
    have Cbb := Lib.hid bb
    clear bb eb
    go_wp2_with fail
    refine (join2_eo (Q0.out.below Cb.out) (R0.out.below Cb.out) rfl).mono ?_
    rintro e wc ⟨j2, rfl, ec, bc⟩
    have Cc := Lib.hid (Cb.out.trans (bc.mono Cb.out.size))
    have EC := Lib.hid ec
    have Ccb := Lib.hid bc
    clear bc ec
    have h2 := bs24_two P0.out EC.out
    go_wp2_with fail
    refine (join2_eo ((P0.out.below Cc.out).deeper (by decide)) EC.out rfl).mono ?_
    rintro e wd ⟨right, rfl, ed, bd⟩
    have Cd := Lib.hid (Cc.out.trans (bd.mono Cc.out.size))
    have ED := Lib.hid ed
    have Cdb := Lib.hid bd
    clear bd ed
    go_wp2_with fail
    refine (all_eo ((EB.out.below Ccb.out).below Cdb.out) (by decide) (errType_below HE.out (C0.out.trans (Cd.out.mono C0.out.size))) (by have := T1.out; have := T2.out; have := T3.out; simp; omega)).mono ?_
    rintro e we ⟨u1, rfl, ee, be⟩
    have Ce := Lib.hid (Cd.out.trans (be.mono Cd.out.size))
    have EE := Lib.hid ee
    have Ceb := Lib.hid be
    clear be ee
    go_wp2_with fail
    refine (all_eo (ED.out.below Ceb.out) (by decide) (errType_below HE.out (C0.out.trans (Ce.out.mono C0.out.size))) (by have := T1.out; have := T2.out; have := T3.out; simp; omega)).mono ?_
    rintro e wf ⟨u2, rfl, ef, bf⟩
    have Cf := Lib.hid (Ce.out.trans (bf.mono Ce.out.size))
    have EF := Lib.hid ef
    have Cfb := Lib.hid bf
    clear bf ef
    go_wp2_with fail
    refine (same_true u1 u2 (told k1 l1 c1 ++ (told k2 l2 c2 ++ told k3 l3 c3)) _ (by have := T1.out; have := T2.out; have := T3.out; simp; omega) (by rw [← List.append_assoc]; exact EE.out.below Cfb.out) EF.out).mono ?_
    rintro e wg ⟨rfl, bg⟩
    have Cg := Lib.hid (Cf.out.trans (bg.mono Cf.out.size))
    have Cgb := Lib.hid bg
    clear bg
    go_wp2_with fail
    refine (move_eo (((((EB.out.below Ccb.out).below Cdb.out).below Ceb.out).below Cfb.out).below Cgb.out) x y).mono ?_
    rintro e wh ⟨n1, rfl, eh, bh⟩
    have Ch := Lib.hid (Cg.out.trans (bh.mono Cg.out.size))
    have EH := Lib.hid eh
    have Chb := Lib.hid bh
    clear bh eh
    go_wp2_with fail
    refine (all_eo EH.out (by decide) (errType_below HE.out (C0.out.trans (Ch.out.mono C0.out.size))) (by have := T1.out; have := T2.out; have := T3.out; simp; omega)).mono ?_
    rintro e wi ⟨n2, rfl, ei, bi⟩
    have Ci := Lib.hid (Ch.out.trans (bi.mono Ch.out.size))
    have EI := Lib.hid ei
    have Cib := Lib.hid bi
    clear bi ei
    go_wp2_with fail
    refine (move_eo (P0.out.below Ci.out) x y).mono ?_
    rintro e wj ⟨o1, rfl, ej, bj⟩
    have Cj := Lib.hid (Ci.out.trans (bj.mono Ci.out.size))
    have EJ := Lib.hid ej
    have Cjb := Lib.hid bj
    clear bj ej
    go_wp2_with fail
    refine (move_eo (Q0.out.below Cj.out) x y).mono ?_
    rintro e wk ⟨o2, rfl, ek, bk⟩
    have Ck := Lib.hid (Cj.out.trans (bk.mono Cj.out.size))
    have EK := Lib.hid ek
    have Ckb := Lib.hid bk
    clear bk ek
    go_wp2_with fail
    refine (move_eo (R0.out.below Ck.out) x y).mono ?_
    rintro e wl ⟨o3, rfl, el, bl⟩
    have Cl := Lib.hid (Ck.out.trans (bl.mono Ck.out.size))
    have EL := Lib.hid el
    have Clb := Lib.hid bl
    clear bl el
    have h3 := bs24_three EJ.out EK.out EL.out
    go_wp2_with fail
    refine (join3_eo ((EJ.out.below Ckb.out).below Clb.out) (EK.out.below Clb.out) EL.out rfl).mono ?_
    rintro e wm ⟨o4, rfl, em, bm⟩
    have Cm := Lib.hid (Cl.out.trans (bm.mono Cl.out.size))
    have EM := Lib.hid em
    have Cmb := Lib.hid bm
    clear bm em
    go_wp2_with fail
    refine (all_eo EM.out (by decide) (errType_below HE.out (C0.out.trans (Cm.out.mono C0.out.size))) (by have := T1.out; have := T2.out; have := T3.out; simp; omega)).mono ?_
    rintro e wn ⟨o5, rfl, en, bn⟩
    have Cn := Lib.hid (Cm.out.trans (bn.mono Cm.out.size))
    have EN := Lib.hid en
    have Cnb := Lib.hid bn
    clear bn en
    go_wp2_with fail
    refine (same_true n2 o5 ((told k1 l1 c1 ++ (told k2 l2 c2 ++ told k3 l3 c3)).map (mv x y)) _ (by have := T1.out; have := T2.out; have := T3.out; simp; omega) (by rw [← List.append_assoc]; exact (((((EI.out.below Cjb.out).below Ckb.out).below Clb.out).below Cmb.out).below Cnb.out)) (by rw [List.map_append, List.map_append]; exact EN.out)).mono ?_
    rintro e wo ⟨rfl, bo⟩
    have Co := Lib.hid (Cn.out.trans (bo.mono Cn.out.size))
    have Cob := Lib.hid bo
    clear bo
    go_wp2_with fail
    refine (known_any _ (errType_below HE.out (C0.out.trans (Co.out.mono C0.out.size)))).mono ?_
    rintro e wp ⟨rfl, bp⟩
    go_wp2_with fail
    go_ret
    exact ⟨rfl, (C0.out.trans (Co.out.mono C0.out.size)).trans (bp.mono (C0.out.trans (Co.out.mono C0.out.size)).size)⟩
  · refine (join2_eo (P0.out.below C8.out) (Q0.out.below C8.out) rfl).mono ?_
    rintro e wa ⟨j1, rfl, ea, ba⟩
    have Ca := Lib.hid (C8.out.trans (ba.mono C8.out.size))
    have EA := Lib.hid ea
    have Cab := Lib.hid ba
    clear ba ea
    have h1 := bs24_two EA.out R0.out
    go_wp2_with fail
    refine (join2_eo EA.out ((R0.out.below Ca.out).deeper (by decide)) rfl).mono ?_
    rintro e wb ⟨left, rfl, eb, bb⟩
    have Cb := Lib.hid (Ca.out.trans (bb.mono Ca.out.size))
    have EB := Lib.hid eb
    have Cbb := Lib.hid bb
    clear bb eb
    go_wp2_with fail
    refine (join2_eo (Q0.out.below Cb.out) (R0.out.below Cb.out) rfl).mono ?_
    rintro e wc ⟨j2, rfl, ec, bc⟩
    have Cc := Lib.hid (Cb.out.trans (bc.mono Cb.out.size))
    have EC := Lib.hid ec
    have Ccb := Lib.hid bc
    clear bc ec
    have h2 := bs24_two P0.out EC.out
    go_wp2_with fail
    refine (join2_eo ((P0.out.below Cc.out).deeper (by decide)) EC.out rfl).mono ?_
    rintro e wd ⟨right, rfl, ed, bd⟩
    have Cd := Lib.hid (Cc.out.trans (bd.mono Cc.out.size))
    have ED := Lib.hid ed
    have Cdb := Lib.hid bd
    clear bd ed
    go_wp2_with fail
    refine (all_eo ((EB.out.below Ccb.out).below Cdb.out) (by decide) (errType_below HE.out (C0.out.trans (Cd.out.mono C0.out.size))) (by have := T1.out; have := T2.out; have := T3.out; simp; omega)).mono ?_
    rintro e we ⟨u1, rfl, ee, be⟩
    have Ce := Lib.hid (Cd.out.trans (be.mono Cd.out.size))
    have EE := Lib.hid ee
    have Ceb := Lib.hid be
    clear be ee
    go_wp2_with fail
    refine (all_eo (ED.out.below Ceb.out) (by decide) (errType_below HE.out (C0.out.trans (Ce.out.mono C0.out.size))) (by have := T1.out; have := T2.out; have := T3.out; simp; omega)).mono ?_
    rintro e wf ⟨u2, rfl, ef, bf⟩
    have Cf := Lib.hid (Ce.out.trans (bf.mono Ce.out.size))
    have EF := Lib.hid ef
    have Cfb := Lib.hid bf
    clear bf ef
    go_wp2_with fail
    refine (same_true u1 u2 (told k1 l1 c1 ++ (told k2 l2 c2 ++ told k3 l3 c3)) _ (by have := T1.out; have := T2.out; have := T3.out; simp; omega) (by rw [← List.append_assoc]; exact EE.out.below Cfb.out) EF.out).mono ?_
    rintro e wg ⟨rfl, bg⟩
    have Cg := Lib.hid (Cf.out.trans (bg.mono Cf.out.size))
    have Cgb := Lib.hid bg
    clear bg
    go_wp2_with fail
    refine (move_eo (((((EB.out.below Ccb.out).below Cdb.out).below Ceb.out).below Cfb.out).below Cgb.out) x y).mono ?_
    rintro e wh ⟨n1, rfl, eh, bh⟩
    have Ch := Lib.hid (Cg.out.trans (bh.mono Cg.out.size))
    have EH := Lib.hid eh
    have Chb := Lib.hid bh
    clear bh eh
    go_wp2_with fail
    refine (all_eo EH.out (by decide) (errType_below HE.out (C0.out.trans (Ch.out.mono C0.out.size))) (by have := T1.out; have := T2.out; have := T3.out; simp; omega)).mono ?_
    rintro e wi ⟨n2, rfl, ei, bi⟩
    have Ci := Lib.hid (Ch.out.trans (bi.mono Ch.out.size))
    have EI := Lib.hid ei
    have Cib := Lib.hid bi
    clear bi ei
    go_wp2_with fail
    refine (move_eo (P0.out.below Ci.out) x y).mono ?_
    rintro e wj ⟨o1, rfl, ej, bj⟩
    have Cj := Lib.hid (Ci.out.trans (bj.mono Ci.out.size))
    have EJ := Lib.hid ej
    have Cjb := Lib.hid bj
    clear bj ej
    go_wp2_with fail
    refine (move_eo (Q0.out.below Cj.out) x y).mono ?_
    rintro e wk ⟨o2, rfl, ek, bk⟩
    have Ck := Lib.hid (Cj.out.trans (bk.mono Cj.out.size))
    have EK := Lib.hid ek
    have Ckb := Lib.hid bk
    clear bk ek
    go_wp2_with fail
    refine (move_eo (R0.out.below Ck.out) x y).mono ?_
    rintro e wl ⟨o3, rfl, el, bl⟩
    have Cl := Lib.hid (Ck.out.trans (bl.mono Ck.out.size))
    have EL := Lib.hid el
    have Clb := Lib.hid bl
    clear bl el
    have h3 := bs24_three EJ.out EK.out EL.out
    go_wp2_with fail
    refine (join3_eo ((EJ.out.below Ckb.out).below Clb.out) (EK.out.below Clb.out) EL.out rfl).mono ?_
    rintro e wm ⟨o4, rfl, em, bm⟩
    have Cm := Lib.hid (Cl.out.trans (bm.mono Cl.out.size))
    have EM := Lib.hid em
    have Cmb := Lib.hid bm
    clear bm em
    go_wp2_with fail
    refine (all_eo EM.out (by decide) (errType_below HE.out (C0.out.trans (Cm.out.mono C0.out.size))) (by have := T1.out; have := T2.out; have := T3.out; simp; omega)).mono ?_
    rintro e wn ⟨o5, rfl, en, bn⟩
    have Cn := Lib.hid (Cm.out.trans (bn.mono Cm.out.size))
    have EN := Lib.hid en
    have Cnb := Lib.hid bn
    clear bn en
    go_wp2_with fail
    refine (same_true n2 o5 ((told k1 l1 c1 ++ (told k2 l2 c2 ++ told k3 l3 c3)).map (mv x y)) _ (by have := T1.out; have := T2.out; have := T3.out; simp; omega) (by rw [← List.append_assoc]; exact (((((EI.out.below Cjb.out).below Ckb.out).below Clb.out).below Cmb.out).below Cnb.out)) (by rw [List.map_append, List.map_append]; exact EN.out)).mono ?_
    rintro e wo ⟨rfl, bo⟩
    have Co := Lib.hid (Cn.out.trans (bo.mono Cn.out.size))
    have Cob := Lib.hid bo
    clear bo
    go_wp2_with fail
    refine (known_any _ (errType_below HE.out (C0.out.trans (Co.out.mono C0.out.size)))).mono ?_
    rintro e wp ⟨rfl, bp⟩
    go_wp2_with fail
    go_ret
    exact ⟨rfl, (C0.out.trans (Co.out.mono C0.out.size)).trans (bp.mono (C0.out.trans (Co.out.mono C0.out.size)).size)⟩
  · have he := HM.out f1 f2
    refine (same_true m3 m5 ((told k1 l1 c1).map (mv (x + y) (x + y))) _ (by have := T1.out; simp only [List.length_map]; omega) (by rw [← he]; exact E6''.out) E8.out).mono ?_
    clear he
    rintro e w9 ⟨rfl, b9⟩
    have C9 := Lib.hid (C8.out.trans (b9.mono C8.out.size))
    clear b9
    go_wp2_with fail
    refine (join2_eo (P0.out.below C9.out) (Q0.out.below C9.out) rfl).mono ?_
    rintro e wa ⟨j1, rfl, ea, ba⟩
    have Ca := Lib.hid (C9.out.trans (ba.mono C9.out.size))
    have EA := Lib.hid ea
    have Cab := Lib.hid ba
    clear ba ea
    have h1 := bs24_two EA.out R0.out
    go_wp2_with fail
    refine (join2_eo EA.out ((R0.out.below Ca.out).deeper (by decide)) rfl).mono ?_
    rintro e wb ⟨left, rfl, eb, bb⟩
    have Cb := Lib.hid (Ca.out.trans (bb.mono Ca.out.size))
    have EB := Lib.hid eb
    have Cbb := Lib.hid bb
    clear bb eb
    go_wp2_with fail
    refine (join2_eo (Q0.out.below Cb.out) (R0.out.below Cb.out) rfl).mono ?_
    rintro e wc ⟨j2, rfl, ec, bc⟩
    have Cc := Lib.hid (Cb.out.trans (bc.mono Cb.out.size))
    have EC := Lib.hid ec
    have Ccb := Lib.hid bc
    clear bc ec
    have h2 := bs24_two P0.out EC.out
    go_wp2_with fail
    refine (join2_eo ((P0.out.below Cc.out).deeper (by decide)) EC.out rfl).mono ?_
    rintro e wd ⟨right, rfl, ed, bd⟩
    have Cd := Lib.hid (Cc.out.trans (bd.mono Cc.out.size))
    have ED := Lib.hid ed
    have Cdb := Lib.hid bd
    clear bd ed
    go_wp2_with fail
    refine (all_eo ((EB.out.below Ccb.out).below Cdb.out) (by decide) (errType_below HE.out (C0.out.trans (Cd.out.mono C0.out.size))) (by have := T1.out; have := T2.out; have := T3.out; simp; omega)).mono ?_
    rintro e we ⟨u1, rfl, ee, be⟩
    have Ce := Lib.hid (Cd.out.trans (be.mono Cd.out.size))
    have EE := Lib.hid ee
    have Ceb := Lib.hid be
    clear be ee
    go_wp2_with fail
    refine (all_eo (ED.out.below Ceb.out) (by decide) (errType_below HE.out (C0.out.trans (Ce.out.mono C0.out.size))) (by have := T1.out; have := T2.out; have := T3.out; simp; omega)).mono ?_
    rintro e wf ⟨u2, rfl, ef, bf⟩
    have Cf := Lib.hid (Ce.out.trans (bf.mono Ce.out.size))
    have EF := Lib.hid ef
    have Cfb := Lib.hid bf
    clear bf ef
    go_wp2_with fail
    refine (same_true u1 u2 (told k1 l1 c1 ++ (told k2 l2 c2 ++ told k3 l3 c3)) _ (by have := T1.out; have := T2.out; have := T3.out; simp; omega) (by rw [← List.append_assoc]; exact EE.out.below Cfb.out) EF.out).mono ?_
    rintro e wg ⟨rfl, bg⟩
    have Cg := Lib.hid (Cf.out.trans (bg.mono Cf.out.size))
    have Cgb := Lib.hid bg
    clear bg
    go_wp2_with fail
    refine (move_eo (((((EB.out.below Ccb.out).below Cdb.out).below Ceb.out).below Cfb.out).below Cgb.out) x y).mono ?_
    rintro e wh ⟨n1, rfl, eh, bh⟩
    have Ch := Lib.hid (Cg.out.trans (bh.mono Cg.out.size))
    have EH := Lib.hid eh
    have Chb := Lib.hid bh
    clear bh eh
    go_wp2_with fail
    refine (all_eo EH.out (by decide) (errType_below HE.out (C0.out.trans (Ch.out.mono C0.out.size))) (by have := T1.out; have := T2.out; have := T3.out; simp; omega)).mono ?_
    rintro e wi ⟨n2, rfl, ei, bi⟩
    have Ci := Lib.hid (Ch.out.trans (bi.mono Ch.out.size))
    have EI := Lib.hid ei
    have Cib := Lib.hid bi
    clear bi ei
    go_wp2_with fail
    refine (move_eo (P0.out.below Ci.out) x y).mono ?_
    rintro e wj ⟨o1, rfl, ej, bj⟩
    have Cj := Lib.hid (Ci.out.trans (bj.mono Ci.out.size))
    have EJ := Lib.hid ej
    have Cjb := Lib.hid bj
    clear bj ej
    go_wp2_with fail
    refine (move_eo (Q0.out.below Cj.out) x y).mono ?_
    rintro e wk ⟨o2, rfl, ek, bk⟩
    have Ck := Lib.hid (Cj.out.trans (bk.mono Cj.out.size))
    have EK := Lib.hid ek
    have Ckb := Lib.hid bk
    clear bk ek
    go_wp2_with fail
    refine (move_eo (R0.out.below Ck.out) x y).mono ?_
    rintro e wl ⟨o3, rfl, el, bl⟩
    have Cl := Lib.hid (Ck.out.trans (bl.mono Ck.out.size))
    have EL := Lib.hid el
    have Clb := Lib.hid bl
    clear bl el
    have h3 := bs24_three EJ.out EK.out EL.out
    go_wp2_with fail
    refine (join3_eo ((EJ.out.below Ckb.out).below Clb.out) (EK.out.below Clb.out) EL.out rfl).mono ?_
    rintro e wm ⟨o4, rfl, em, bm⟩
    have Cm := Lib.hid (Cl.out.trans (bm.mono Cl.out.size))
    have EM := Lib.hid em
    have Cmb := Lib.hid bm
    clear bm em
    go_wp2_with fail
    refine (all_eo EM.out (by decide) (errType_below HE.out (C0.out.trans (Cm.out.mono C0.out.size))) (by have := T1.out; have := T2.out; have := T3.out; simp; omega)).mono ?_
    rintro e wn ⟨o5, rfl, en, bn⟩
    have Cn := Lib.hid (Cm.out.trans (bn.mono Cm.out.size))
    have EN := Lib.hid en
    have Cnb := Lib.hid bn
    clear bn en
    go_wp2_with fail
    refine (same_true n2 o5 ((told k1 l1 c1 ++ (told k2 l2 c2 ++ told k3 l3 c3)).map (mv x y)) _ (by have := T1.out; have := T2.out; have := T3.out; simp; omega) (by rw [← List.append_assoc]; exact (((((EI.out.below Cjb.out).below Ckb.out).below Clb.out).below Cmb.out).below Cnb.out)) (by rw [List.map_append, List.map_append]; exact EN.out)).mono ?_
    rintro e wo ⟨rfl, bo⟩
    have Co := Lib.hid (Cn.out.trans (bo.mono Cn.out.size))
    have Cob := Lib.hid bo
    clear bo
    go_wp2_with fail
    refine (known_any _ (errType_below HE.out (C0.out.trans (Co.out.mono C0.out.size)))).mono ?_
    rintro e wp ⟨rfl, bp⟩
    go_wp2_with fail
    go_ret
    exact ⟨rfl, (C0.out.trans (Co.out.mono C0.out.size)).trans (bp.mono (C0.out.trans (Co.out.mono C0.out.size)).size)⟩
end Go.Proofs.YtalopkplpbdgjaaDoor
