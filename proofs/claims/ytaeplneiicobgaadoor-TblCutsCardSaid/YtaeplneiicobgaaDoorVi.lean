/- A table's reader: a row. -/
import Derived.Test.YtaeplneiicobgaaDoorVh
import Derived.BigQuiet
import Derived.BigRegion
import Derived.Deep.RegionWith
import Derived.Deep.RegionLaw
import Derived.StillTailTactics
set_option linter.unusedVariables false
set_option linter.unusedSimpArgs false
namespace Go.Proofs.YtaeplneiicobgaaDoor
open Go.RowKit
attribute [local go_sem] Oper.semAt_some
attribute [local go_sem ↓ high] binop_eqlS binop_neqS slice_backS9 builtin_appP builtin_appW
def clsOf (v : Value) : Nat := match v with
  | .slice _ n _ => n
  | _ => 0
theorem eql9 (x c : Txt) {b : Bool} (hb : decide (x = c) = b) : ∀ W, (eqlS (.string ⟨x.toArray⟩) (.string ⟨c.toArray⟩)).run Tryd.prog W = .ok (.bool b) W := fun W => by rw [eqlS_run, hb]
set_option maxRecDepth 100000 in
set_option maxHeartbeats 8000000 in
theorem row_any9 {w : World} {B : Nat} {line : Int} {a0 : Option Addr} {c0 : Nat} (L : List Txt) (s0 : RS) (x : Txt) (W : World) (hRI : RI w B line (.slice a0 L.length c0) s0 W) (hS : Ss w (.slice a0 L.length c0) L) (hU : U8 w) (hL : ∀ x ∈ L, x.length ≤ 2000) (hl : lnT L ≤ 40000) (hn : L.length ≤ 40000) (h0 : 0 ≤ line) (h1 : line ≤ 100000) (hx : x.length ≤ 2000)
    (hk0 : s0.k ≤ L.length) (hd0 : s0.d.length ≤ 200000) (hr0 : s0.rows.length ≤ 400000) (hc0 : s0.cols.length ≤ 1000) :
    Calls Tryd.prog 29 #[.pointer (some ⟨B, 0, none⟩), .string ⟨x.toArray⟩] W fun e W' => ∃ s, e = .returned (.tuple #[]) ∧ RI w B line (.slice a0 L.length c0) s W' ∧ FrW W W' ∧ RowE L line x s0 s := by
  obtain ⟨p1, hp1⟩ : ∃ b, decide (x = [95]) = b := ⟨_, rfl⟩
  obtain ⟨p2, hp2⟩ : ∃ b, decide (x = [61]) = b := ⟨_, rfl⟩
  have e1 : ∀ W, (eqlS (.string ⟨x.toArray⟩) (.string ⟨#[95]⟩)).run Tryd.prog W = .ok (.bool p1) W := eql9 x [95] hp1
  have e2 : ∀ W, (eqlS (.string ⟨x.toArray⟩) (.string ⟨#[61]⟩)).run Tryd.prog W = .ok (.bool p2) W := eql9 x [61] hp2
  by_cases hr : x = [95] ∨ x = [61]
  · have hE := RowE.rule (line := line) (x := x) s0 hk0 hr
    have hp : p1 = true ∨ (p1 = false ∧ p2 = true) := by
      rw [← hp1, ← hp2]
      by_cases q : x = [95]
      · exact .inl (by simp [q])
      · exact .inr ⟨by simp [q], by rcases hr with h | h; exact absurd h q; simp [h]⟩
    obtain ⟨a, c, a', c', w2, r1, r2, r3, r4, r5, r6⟩ := hRI.row (by omega) true (none, 0, 0) [] ⟨[], rfl, FsS.nil _ _ _ _, fun i s r h => by simp at h⟩
    have r2' : (appW #[.slice a s0.rows.length c, .slice (some ⟨W.heap.size, 0, none⟩) 1 1]).run Tryd.prog (W.alloc (.cells #[.bool true, .slice none 0 0] 49)) = .ok (.value (.slice a' (s0.rows.length + 1) c')) w2 := r2
    have u1 : (W.alloc (.cells #[.bool true, .slice none 0 0] 49)).cell? ⟨B, 4, none⟩ = some (.slice a s0.rows.length c) := ((below_lit W _).cell (World.block_lt_of_cell? _ _ r1)).trans r1
    have hRR := Lib.hid (And.intro r5 (And.intro r6 hE))
    obtain ⟨m, hm⟩ : ∃ m, s0.rows.length = m := ⟨_, rfl⟩
    rw [hm] at r1 r2' r3 hRR u1
    clear hE r2 r5 r6 hRI hS hU hL hm hr hp1 hp2
    rcases hp with rfl | ⟨rfl, rfl⟩
    all_goals
      go_enter Tryd.func29, Tryd.ntmps29
      go_wp2_with fail
      try go_region_with fail
      all_goals
        try go_wp2_with fail
      refine bodyPost_ret (results_none rfl _ _ _) rfl ?_
      exact ⟨_, rfl, hRR.out.1, hRR.out.2.1, hRR.out.2.2⟩
  · have hp : p1 = false ∧ p2 = false := by
      rw [← hp1, ← hp2]
      exact ⟨decide_eq_false (fun q => hr (.inl q)), decide_eq_false (fun q => hr (.inr q))⟩
    obtain ⟨rfl, rfl⟩ := hp
    have hn0 := hn
    clear hn
    obtain ⟨first, hfi⟩ : ∃ first, line + (s0.k : Int) - 1 = first := ⟨_, rfl⟩
    have hWs := hRI.bel.size
    have A1 : Hid (Calls Tryd.prog 42 #[.pointer (some ⟨B, 0, none⟩)] W fun e w' => e = .returned (.int .i64 first) ∧ Below W.heap.size W w') := Lib.hid (by
      have h := at9_any W hRI h0 h1 (by omega)
      rw [hfi] at h
      exact h)
    have CU : Hid (∀ V, Calls Tryd.prog 12 #[.string ⟨x.toArray⟩] V fun e V' => ∃ v, e = .returned v ∧ SOwn V.heap.size V' v (cutB 9 x) ∧ Below V.heap.size V V') := Lib.hid fun V => cut9_any x V (by omega)
    have HRI := Lib.hid hRI
    have HRK : Hid (RoK L line x s0 (cellsP lgF ((L.drop s0.k).length + 1) (cutB 9 x) (L.drop s0.k) (line + s0.k - 1) [] s0.d) s0 (cutB 9 x) []) := Lib.hid (RoK.start s0 hk0 hx)
    have HEND : Hid (∀ s cs, RoK L line x s0 (cellsP lgF ((L.drop s0.k).length + 1) (cutB 9 x) (L.drop s0.k) (line + s0.k - 1) [] s0.d) s [] cs → (¬ s0.cols.length < cs.length → RowE L line x s0 (s.row (false, cs))) ∧ (s0.cols.length < cs.length → RowE L line x s0 (({ s with d := s.d ++ [(11, first, 0)] } : RS).row (false, cs)))) := Lib.hid fun s cs h => by rw [← hfi]; exact h.row hr
    obtain ⟨T, hT⟩ : ∃ T, cellsP lgF ((L.drop s0.k).length + 1) (cutB 9 x) (L.drop s0.k) (line + s0.k - 1) [] s0.d = T := ⟨_, rfl⟩
    rw [hT] at HRK HEND
    have HDL : Hid (lnT (L.drop s0.k) ≤ lnT L) := Lib.hid (lnT_drop_le L s0.k)
    have HL := Lib.hid hL
    have HS := Lib.hid hS
    have HU := Lib.hid hU
    clear hRI hT hr hp1 hp2 hL hS hU
    go_enter Tryd.func29, Tryd.ntmps29
    go_wp2_with (first
      | (go_at_call 42; refine A1.out.mono ?_; rintro e V1 ⟨rfl, b1⟩; have B1 := Lib.hid b1; clear b1)
      | (go_at_call 12; refine (CU.out _).mono ?_; rintro e V2 ⟨v, rfl, o2, b2⟩; have O2 := Lib.hid o2; have B2 := Lib.hid b2; clear o2 b2))
    have HM0 : Hid (RwM w W B V1.heap.size line (.slice a0 L.length c0) s0 [] V2) := Lib.hid (by
      have bU := below_lit V1 (.cells #[.bool false, .slice none 0 0] 49)
      have b3 := B1.out.trans ((bU.trans (B2.out.mono bU.size)).mono B1.out.size)
      exact ⟨HRI.out.keep b3, FrR.below b3, ⟨_, Blk.below (L := [_, _]) (heap_alloc_new V1 (.cells #[.bool false, .slice none 0 0] 49)) B2.out, CInv.nil _ _⟩, ⟨s0, HRI.out, rfl⟩, B1.out.size⟩)
    obtain ⟨C, hC⟩ : ∃ C, V1.heap.size = C := ⟨_, rfl⟩
    have HST0 : Hid (StS V2 v (cutB 9 x)) := Lib.hid (StS.own O2.out)
    rw [hC] at HM0 ⊢
    go_loopw [6, 7, 8] (fun cl _ _ wr => ∃ s ps cs a c, cl = .slice a ps.length c ∧ Hid (StS wr (.slice a ps.length c) ps) ∧ Hid (RwM w W B C line (.slice a0 L.length c0) s cs wr) ∧ Hid (RoK L line x s0 T s ps cs)) (fun cl _ _ wr => (L.length - rdK B wr) * 100000 + clsOf cl)
    case atStart =>
      have h := HST0.out
      obtain ⟨a, c, e⟩ := h.1.len
      rw [e] at h
      exact ⟨s0, cutB 9 x, [], a, c, e, Lib.hid h, HM0, HRK⟩
    case round =>
      obtain ⟨s, ps, cs, a, c, rfl, hst, hM, hK⟩ := hrel
      clear HM0 HST0 HRK A1 CU O2 B2 B1
      have hdl := hK.out.dl
      have htl := hK.out.tl
      have hkl := hK.out.kl
      have hdL := HDL.out
      have hps := lnT_num ps
      cases ps with
      | nil =>
        have hrw : s.rows.length = s0.rows.length := by rw [hK.out.same.rows]
        have hcl : s.cols = s0.cols := hK.out.same.cols
        have HEN := Lib.hid (HEND.out s cs hK.out)
        obtain ⟨vb, t1, t2⟩ := hM.out.box
        obtain ⟨ta, tc, rfl⟩ := t2.len
        have c1 : wr.cell? ⟨C, 1, none⟩ = some (.slice ta cs.length tc) := t1.cell 1
        obtain ⟨vr, vd, hb, -, -⟩ := hM.out.ri.val
        have c3 : wr.cell? ⟨B, 3, none⟩ = some (.string ⟨s0.cols.toArray⟩) := by rw [← hcl]; exact hb.cell 3
        have hsz := arr_size s0.cols
        have T1 : Hid (∀ V, Below wr.heap.size wr V → Calls Tryd.prog 41 #[.pointer (some ⟨B, 0, none⟩), .int .i64 11, .int .i64 first] V fun e V' => e = .returned (.tuple #[]) ∧ RwM w W B C line (.slice a0 L.length c0) ({ s with d := s.d ++ [(11, first, 0)] } : RS) cs V') := Lib.hid fun V hV => by
          refine (tell9_any V (hM.out.ri.keep hV) 11 first (by omega)).mono ?_
          rintro e V' ⟨rfl, r1, f1⟩
          exact ⟨rfl, (hM.out.keep hV).go r1 f1⟩
        have HK9 : Hid (∀ V, Below wr.heap.size wr V → RwM w W B C line (.slice a0 L.length c0) s cs V) := Lib.hid fun V hV => hM.out.keep hV
        have hB := Lib.hid (fun m => below_drewN (Below.refl wr.heap.size wr) m)
        have hrl : s.rows.length ≤ 500000 := by omega
        clear hb t1 t2 hK hst hM hcl hrw
        by_cases hnc : s0.cols.length < cs.length
        · have hnc' : (s0.cols.length : Int) < (cs.length : Int) := by omega
          have hE := Lib.hid (HEN.out.2 hnc)
          clear HEN
          go_wp2_with fail
          go_quiet (fail)
          go_wp2_with (go_at_call 41; refine (T1.out _ (hB.out _)).mono ?_; rintro e A ⟨rfl, rm⟩; have RM := Lib.hid rm; clear rm)
          clear T1 HK9 c1 c3
          have hMd := RM.out.keep (Below.refl A.heap.size A).drew
          obtain ⟨v1, ra, rc, ra', rc', w2, k0, k1, k2, kr, k3, k4, k5, k6⟩ := hMd.row hrl
          obtain ⟨m, hm⟩ : ∃ m, s.rows.length = m := ⟨_, rfl⟩
          rw [show (({ s with d := s.d ++ [(11, first, 0)] } : RS).rows.length) = m from hm] at k2 kr k3 k5 k6
          have kk : (Builtin.append_ #[34, 34] 34 #[.slice ra m rc, .slice (some ⟨A.heap.size, 0, none⟩) 1 1]).run Tryd.prog (A.alloc (.cells #[.bool false, v1] 49)).drew = .ok (.slice ra' (m + 1) rc') w2 := appW_raw9 kr
          have k2' : (A.alloc (.cells #[.bool false, v1] 49)).drew.cell? ⟨B, 4, none⟩ = some (.slice ra m rc) := ((below_lit A _).cell (World.block_lt_of_cell? _ _ k2)).trans k2
          have KR := Lib.hid (And.intro k5 k6)
          clear kr k5 k6 hMd hrl hm
          go_region_law ((refine step_append_run rfl (.tmp 74) (.tmp 76) 34 34 rfl _ _ rfl rfl kk ?_))
          all_goals
            go_wp2_with fail
            go_end0
            exact ⟨_, rfl, KR.out.1, KR.out.2, hE.out⟩
        · have hnc' : ¬ (s0.cols.length : Int) < (cs.length : Int) := by omega
          have hE := Lib.hid (HEN.out.1 hnc)
          clear HEN
          go_wp2_with fail
          go_quiet (fail)
          go_wp2_with fail
          have RM := Lib.hid (HK9.out _ (hB.out nq))
          obtain ⟨A, hA⟩ : ∃ A, wr.drewN nq = A := ⟨_, rfl⟩
          rw [hA] at RM ⊢
          clear T1 HK9 c1 c3 hA hB
          have hMd := RM.out.keep (Below.refl A.heap.size A).drew
          obtain ⟨v1, ra, rc, ra', rc', w2, k0, k1, k2, kr, k3, k4, k5, k6⟩ := hMd.row hrl
          obtain ⟨m, hm⟩ : ∃ m, s.rows.length = m := ⟨_, rfl⟩
          rw [hm] at k2 kr k3 k5 k6
          have kk : (Builtin.append_ #[34, 34] 34 #[.slice ra m rc, .slice (some ⟨A.heap.size, 0, none⟩) 1 1]).run Tryd.prog (A.alloc (.cells #[.bool false, v1] 49)).drew = .ok (.slice ra' (m + 1) rc') w2 := appW_raw9 kr
          have k2' : (A.alloc (.cells #[.bool false, v1] 49)).drew.cell? ⟨B, 4, none⟩ = some (.slice ra m rc) := ((below_lit A _).cell (World.block_lt_of_cell? _ _ k2)).trans k2
          have KR := Lib.hid (And.intro k5 k6)
          clear kr k5 k6 hMd hrl hm
          go_region_law ((refine step_append_run rfl (.tmp 74) (.tmp 76) 34 34 rfl _ _ rfl rfl kk ?_))
          all_goals
            go_wp2_with fail
            go_end0
            exact ⟨_, rfl, KR.out.1, KR.out.2, hE.out⟩
      | cons p ps =>
        obtain ⟨g, off, rfl, hx0⟩ := Ss.at (j := 0) (x := p) hst.out.1 rfl
        rw [Nat.add_zero] at hx0
        have hpl : p.length ≤ 2000 := hK.out.pl p (List.mem_cons_self ..)
        have hpn : (0 : Int) < (((p :: ps).length : Nat) : Int) := by simp only [List.length_cons]; omega
        have hrk := rdK_of hM.out.ri
        rw [lnT_cons] at hdl htl
        simp only [List.length_cons] at hps
        have hcs : cs.length ≤ 500000 := by omega
        obtain ⟨n, hn⟩ : ∃ n, cs.length = n := ⟨_, rfl⟩
        by_cases hp : p = tbW
        · have e3 : ∀ W, (eqlS (.string ⟨p.toArray⟩) (.string ⟨#[84, 123]⟩)).run Tryd.prog W = .ok (.bool true) W := eql9 p [84, 123] (decide_eq_true hp)
          have HB : Hid (∀ V, Below wr.heap.size wr V → Calls Tryd.prog 45 #[.pointer (some ⟨B, 0, none⟩)] V fun e V' => ∃ xa xn xc ba bn bc ta tc a' c' w', e = .returned (.tuple #[.slice xa xn xc, .slice ba bn bc]) ∧
              V'.cell? ⟨C, 1, none⟩ = some (.slice ta n tc) ∧ (V'.alloc (.cells #[.slice xa xn xc] 46)).cell? ⟨C, 1, none⟩ = some (.slice ta n tc) ∧ (appP #[.slice ta n tc, .slice (some ⟨V'.heap.size, 0, none⟩) 1 1]).run Tryd.prog (V'.alloc (.cells #[.slice xa xn xc] 46)) = .ok (.value (.slice a' (n + 1) c')) w' ∧ w'.cell? ⟨C, 1, none⟩ = some (.slice ta n tc) ∧ w'.frozen? ⟨C, 1, none⟩ = false ∧
              ∃ s' bh g', bh.length = bn ∧ Hid (StS (w'.setCell ⟨C, 1, none⟩ (.slice a' (n + 1) c')) (.slice ba bh.length bc) bh) ∧ Hid (RwM w W B C line (.slice a0 L.length c0) s' (cs ++ [g']) (w'.setCell ⟨C, 1, none⟩ (.slice a' (n + 1) c'))) ∧ Hid (RoK L line x s0 T s' bh (cs ++ [g'])) ∧
                (L.length - rdK B (w'.setCell ⟨C, 1, none⟩ (.slice a' (n + 1) c'))) * 100000 + bn < (L.length - rdK B wr) * 100000 + (ps.length + 1)) := Lib.hid fun V hV => by
            refine (block_any9 L s V (hM.out.ri.keep hV) HS.out HU.out HL.out hl hn0 h0 h1 hkl (by omega)).mono ?_
            rintro e V' ⟨xv, ba, bc, s', g', bh, rfl, r1, f1, gl, st, hbp⟩
            have hm1 := (hM.out.keep hV).go r1 f1 (by obtain ⟨-, -, -, q, -⟩ := hbp; exact q.rows)
            have gl1 : GlF W.heap.size V' xv g' := FsS.mono gl (fun b q => ⟨Nat.le_trans (Nat.le_trans hM.out.fr.size hV.size) q.1, q.2⟩)
            obtain ⟨xa, xc, rfl⟩ := gl1.1.len
            obtain ⟨ta, tc, a', c', w', r0, r2, r3, r4, r5, r6⟩ := hm1.push hcs (xa, g'.length, xc) g' gl1
            have hk' : RoK L line x s0 T s' bh (cs ++ [g']) := by
              have q := hK.out
              rw [hp] at q
              exact q.blk hbp HL.out
            rw [hn] at r0 r2 r3 r5 r6
            refine ⟨xa, _, xc, ba, _, bc, ta, tc, a', c', w', rfl, r0, ((below_lit V' _).cell (World.block_lt_of_cell? _ _ r0)).trans r0, r2, r3, r4, s', bh, g', rfl, Lib.hid (st.sam r6), Lib.hid r5, Lib.hid hk', ?_⟩
            rw [rdK_of r5.ri, hrk]
            have j1 := hk'.tl
            have j2 := lnT_num bh
            obtain ⟨z1, z2, -, -, -, z3⟩ := hbp
            rcases z3 with ⟨-, z4, -, -⟩ | ⟨-, -, -, -, -, z4⟩
            · rw [z4]
              simp only [List.length_nil]
              have : L.length - s'.k ≤ L.length - s.k := by omega
              have := Nat.mul_le_mul_right 100000 this
              omega
            · have h5 : L.length - s'.k + 1 ≤ L.length - s.k := by omega
              have := Nat.mul_le_mul_right 100000 h5
              rw [Nat.add_mul] at this
              omega
          clear hst hM hK hrk HEND HS HU HL hp
          go_wp2_with (go_at_call 45; refine (HB.out _ (Below.refl _ _)).mono ?_; rintro e V' ⟨xa, xn, xc, ba, bn, bc, ta, tc, a', c', w', rfl, u0, u1, kk, u2, u3, s', bh, g', hbn, hst', hM', hK', hms⟩)
          go_roundw
          case rel => exact ⟨s', bh, _, ba, bc, by rw [hbn], hst', hM', hK'⟩
          case measure => simp only [clsOf, List.length_cons]; exact hms
        · have e3 : ∀ W, (eqlS (.string ⟨p.toArray⟩) (.string ⟨#[84, 123]⟩)).run Tryd.prog W = .ok (.bool false) W := eql9 p [84, 123] (decide_eq_false hp)
          obtain ⟨sa, sc, ksl, hst1⟩ := hst.out.tail (by simp)
          simp only [List.tail_cons, List.length_cons] at ksl hst1
          have HG : Hid (∀ V, Below wr.heap.size wr V → Calls Tryd.prog 46 #[.pointer (some ⟨B, 0, none⟩), .string ⟨p.toArray⟩] V fun e V' => ∃ xa xn xc ta tc a' c' w', e = .returned (.slice xa xn xc) ∧
              V'.cell? ⟨C, 1, none⟩ = some (.slice ta n tc) ∧ (V'.alloc (.cells #[.slice xa xn xc] 46)).cell? ⟨C, 1, none⟩ = some (.slice ta n tc) ∧ (appP #[.slice ta n tc, .slice (some ⟨V'.heap.size, 0, none⟩) 1 1]).run Tryd.prog (V'.alloc (.cells #[.slice xa xn xc] 46)) = .ok (.value (.slice a' (n + 1) c')) w' ∧ w'.cell? ⟨C, 1, none⟩ = some (.slice ta n tc) ∧ w'.frozen? ⟨C, 1, none⟩ = false ∧
              ∃ s' g', Hid (StS (w'.setCell ⟨C, 1, none⟩ (.slice a' (n + 1) c')) (.slice sa ps.length sc) ps) ∧ Hid (RwM w W B C line (.slice a0 L.length c0) s' (cs ++ [g']) (w'.setCell ⟨C, 1, none⟩ (.slice a' (n + 1) c'))) ∧ Hid (RoK L line x s0 T s' ps (cs ++ [g'])) ∧
                (L.length - rdK B (w'.setCell ⟨C, 1, none⟩ (.slice a' (n + 1) c'))) * 100000 + ps.length < (L.length - rdK B wr) * 100000 + (ps.length + 1)) := Lib.hid fun V hV => by
            refine (glyphs_any p V (hM.out.ri.keep hV) hpl h0 h1 (by omega) (by omega)).mono ?_
            rintro e V' ⟨xv, rfl, o1, r1, f1⟩
            have hm1 := (hM.out.keep hV).go r1 f1
            have gl1 : GlF W.heap.size V' xv (lgF p).1 := GlF.own o1 (Nat.le_trans hM.out.fr.size hV.size)
            obtain ⟨xa, xc, rfl⟩ := gl1.1.len
            obtain ⟨ta, tc, a', c', w', r0, r2, r3, r4, r5, r6⟩ := hm1.push hcs (xa, (lgF p).1.length, xc) _ gl1
            rw [hn] at r0 r2 r3 r5 r6
            refine ⟨xa, _, xc, ta, tc, a', c', w', rfl, r0, ((below_lit V' _).cell (World.block_lt_of_cell? _ _ r0)).trans r0, r2, r3, r4, _, _, Lib.hid (((hst1.fr (FrR.below hV)).fr f1).sam r6), Lib.hid r5, Lib.hid (hK.out.gly hp), ?_⟩
            rw [rdK_of r5.ri, hrk]
            exact Nat.lt_succ_self _
          clear hst hM hK hrk HEND HS HU HL hst1
          go_wp2_with fail
          go_region_with (go_at_call 46; refine (HG.out _ (Below.refl wr.heap.size wr).drew).mono ?_; rintro e V' ⟨xa, xn, xc, ta, tc, a', c', w', rfl, u0, u1, kk, u2, u3, s', g', hst', hM', hK', hms⟩)
          all_goals
            go_wp2_with fail
            go_roundw
            case rel => exact ⟨s', ps, _, sa, sc, rfl, hst', hM', hK'⟩
            case measure => simp only [clsOf, List.length_cons]; exact hms
end Go.Proofs.YtaeplneiicobgaaDoor
