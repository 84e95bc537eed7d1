/- The closure of Runs; Runs. -/
import Derived.Test.YtkiglnfapoifiaaDoorN2
import Derived.Deep.RegionLaw
import Derived.Deep.QuietTactic
import Derived.BigQuiet
namespace Go.Proofs.YtkiglnfapoifiaaDoor
open Go.RowKit
attribute [local go_sem ↓ high] slice_midG builtin_appS

theorem RunW.drew {w : World} {lv : Value} {W : World} {rs : List (List Gly)} {fr : Nat} (h : RunW w lv W rs fr) : RunW w lv W.drew rs fr := h.keep (Below.refl _ W).drew

set_option maxRecDepth 100000 in
set_option maxHeartbeats 2000000 in
theorem end_any {w : World} {l : List Gly} {a : Option Addr} {cap : Nat} {W : World} {rs : List (List Gly)} {fr to : Nat} (h : RunW w (.slice a l.length cap) W rs fr) (hl : Gs w (.slice a l.length cap) l) (h1 : fr ≤ to) (h2 : to ≤ l.length) (hll : l.length ≤ 100000) (hrl : rs.length ≤ 100000) :
    Calls Tryd.prog 37 #[.int .i64 (to : Int), .pointer (some ⟨w.heap.size + 1, 0, none⟩), .pointer (some ⟨w.heap.size, 0, none⟩), .pointer (some ⟨w.heap.size + 2, 0, none⟩)] W fun e W' =>
      e = .returned (.tuple #[]) ∧ RunW w (.slice a l.length cap) W' (rs ++ [(l.take to).drop fr]) to := by
  have H := Lib.hid h
  have hlW := Lib.hid (Fs.below hl h.bel)
  obtain ⟨v, hv, hvr⟩ := h.row
  obtain ⟨av, cv, rfl⟩ := hvr.len
  clear hvr
  have q0 := h.cl
  have q2 := h.cf
  obtain ⟨u0, k0, s0⟩ := midG_run hlW.out fr to h1 h2
  have HC : Hid (Calls Tryd.prog 38 #[u0] W.drew fun e w1 => ∃ ar n cr av' n' cv' w2, e = .returned (.slice ar n cr) ∧ w1.cell? ⟨w.heap.size + 1, 0, none⟩ = some (.slice av rs.length cv) ∧
      (Builtin.append_ #[29, 29] 29 #[.slice av rs.length cv, .slice (some ⟨w1.heap.size, 0, none⟩) 1 1]).run Tryd.prog (w1.alloc (.cells #[.slice ar n cr] 22)) = .ok (.slice av' n' cv') w2 ∧
      (appS #[.slice av rs.length cv, .slice (some ⟨w1.heap.size, 0, none⟩) 1 1]).run Tryd.prog (w1.alloc (.cells #[.slice ar n cr] 22)) = .ok (.value (.slice av' n' cv')) w2 ∧
      w.heap.size + 1 < w1.heap.size ∧ (w1.alloc (.cells #[.slice ar n cr] 22)).cell? ⟨w.heap.size + 1, 0, none⟩ = some (.slice av rs.length cv) ∧
      w2.cell? ⟨w.heap.size + 1, 0, none⟩ = some (.slice av rs.length cv) ∧ w2.cell? ⟨w.heap.size + 2, 0, none⟩ = some (.int .i64 (fr : Int)) ∧ w2.frozen? ⟨w.heap.size + 1, 0, none⟩ = false ∧ w2.frozen? ⟨w.heap.size + 2, 0, none⟩ = false ∧
      Hid (RunW w (.slice a l.length cap) ((w2.setCell ⟨w.heap.size + 1, 0, none⟩ (.slice av' n' cv')).setCell ⟨w.heap.size + 2, 0, none⟩ (.int .i64 (to : Int))) (rs ++ [(l.take to).drop fr]) to)) :=
    Lib.hid ((cloneg_any ((l.take to).drop fr) u0 W.drew (Fs.below s0 (Below.refl _ W).drew) (by rw [List.length_drop, List.length_take]; omega)).mono fun e w1 ⟨u1, he, o1, b1⟩ => by
      obtain ⟨ar, cr, rfl⟩ := (FOwn.sl gcell_len o1).len
      have hb := h.big
      obtain ⟨_, w2, ⟨av', n', cv', rfl⟩, kk, d1, d2, e1, e2, hR⟩ := RunW.push (s := (ar, ((l.take to).drop fr).length, cr)) (RunW.drew h) b1 o1 (by omega) to hv
      have hp1 := (b1.cell (p := ⟨w.heap.size + 1, 0, none⟩) (show w.heap.size + 1 < W.heap.size by omega)).trans hv
      have hs1 : w.heap.size + 1 < w1.heap.size := World.block_lt_of_cell? w1 _ hp1
      exact ⟨ar, _, cr, av', n', cv', w2, he, hp1, kk, appS_of kk, hs1, ((below_lit w1 _).cell (p := ⟨w.heap.size + 1, 0, none⟩) hs1).trans hp1, d1, d2, e1, e2, Lib.hid hR⟩)
  clear h hl s0
  go_enter Tryd.func37, Tryd.ntmps37
  go_wp2_with fail
  go_region_law ((first | (refine step_append_run rfl (.tmp 5) (.tmp 11) 29 29 rfl _ _ rfl rfl kk ?_) | (go_simp; go_at_call 38; (with_reducible refine HC.out.mono ?_); rintro e w1 ⟨ar, n1, cr, av', n', cv', w2, rfl, p1, kk, kk2, hs1, p2, d1, d2, e1, e2, HR⟩)))
  all_goals
    go_wp2_with fail
    go_end0
    exact ⟨rfl, HR.out⟩

theorem drop_take_cur {l : List Gly} {j : Nat} (hj : j ≤ l.length) : (l.take j).drop (runSt (l.take j)).1.flatten.length = (runSt (l.take j)).2 := by
  have h := (runSt_ok l j hj).flat
  have e : (l.take j).drop (runSt (l.take j)).1.flatten.length = ((runSt (l.take j)).1.flatten ++ (runSt (l.take j)).2).drop (runSt (l.take j)).1.flatten.length := by rw [h]
  rw [e, List.drop_left]
theorem flat_le {l : List Gly} {j : Nat} (hj : j ≤ l.length) : (runSt (l.take j)).1.flatten.length ≤ j ∧ (runSt (l.take j)).1.length ≤ j := by
  have h := runSt_ok l j hj
  have hf := congrArg List.length h.flat
  rw [List.length_append, List.length_take] at hf
  have : ∀ rs : List (List Gly), (∀ r ∈ rs, r ≠ []) → rs.length ≤ rs.flatten.length := by
    intro rs
    induction rs with
    | nil => simp
    | cons r rs ih =>
      intro h
      have h1 : 0 < r.length := List.length_pos_iff.2 (h r (by simp))
      have h2 := ih (fun q hq => h q (by simp [hq]))
      simp only [List.flatten_cons, List.length_append, List.length_cons]
      omega
  have h2 := this _ h.full
  omega

theorem head_cur {l : List Gly} {j : Nat} (hj : j ≤ l.length) {x : Gly} (hx : (runSt (l.take j)).2[0]? = some x) : l[(runSt (l.take j)).1.flatten.length]? = some x := by
  rw [← drop_take_cur hj, List.getElem?_drop, Nat.add_zero] at hx
  have hlt := (List.getElem?_eq_some_iff.1 hx).1
  rw [List.length_take] at hlt
  rw [List.getElem?_take_of_lt (by omega)] at hx
  exact hx

set_option maxRecDepth 100000 in
set_option maxHeartbeats 2000000 in
theorem runs_any (l : List Gly) (v : Value) (w : World) (hv : Gs w v l) (hll : l.length ≤ 90000) :
    Calls Tryd.prog 16 #[v] w fun e w' => ∃ u, e = .returned u ∧ Rws w.heap.size w' u (runsL l) ∧ Below w.heap.size w w' := by
  have HV := Lib.hid hv
  obtain ⟨a, cap, rfl⟩ := hv.len
  have H0 : Hid (RunW w (.slice a l.length cap) (((w.alloc (.cells #[.slice a l.length cap] 22)).alloc (.cells #[.slice none 0 0] 29)).alloc (.cells #[.int .i64 0] 3)) [] 0) :=
    Lib.hid ⟨(((Below.refl _ w).alloc (Nat.le_refl _) _).alloc (by simp) _).alloc (by simp; omega) _, by simp, by simp [go_sem], ⟨_, by simp [go_sem], Rws.nil _ _⟩, by simp [go_sem], by simp [go_sem], by simp [go_sem]⟩
  have q1 : (((w.alloc (.cells #[.slice a l.length cap] 22)).alloc (.cells #[.slice none 0 0] 29)).alloc (.cells #[.int .i64 0] 3)).cell? ⟨w.heap.size, 0, none⟩ = some (.slice a l.length cap) := H0.out.cl
  clear hv
  go_enter Tryd.func16, Tryd.ntmps16
  go_wp2_with fail
  go_loopw [11] (fun i wr => ∃ j : Nat, j ≤ l.length ∧ i = .int .i64 j ∧ RunW w (.slice a l.length cap) wr (runSt (l.take j)).1 (runSt (l.take j)).1.flatten.length) (fun i _ => l.length - (intOf i).toNat)
  case atStart => exact ⟨0, by omega, rfl, H0.out⟩
  case round =>
    obtain ⟨j, hj, rfl, hR⟩ := hrel
    have HR := Lib.hid hR
    have hcl := hR.cl
    have hcf := hR.cf
    have hbig := hR.big
    have HVr := Lib.hid (Fs.below HV.out hR.bel)
    have hfl := flat_le hj
    obtain ⟨hf1, hf2⟩ := hfl
    have HDC := Lib.hid (drop_take_cur hj)
    have HHD := Lib.hid (fun x hx => head_cur hj (x := x) hx)
    have HOKr := Lib.hid (runSt_ok l j hj)
    have HST : Hid (∀ z, l[j]? = some z → runSt (l.take (j + 1)) = runStep (runSt (l.take j)) z) := Lib.hid (fun z hz => runSt_take hz)
    have HL0 : Hid (j = l.length → runsL l = runEnd (runSt (l.take j))) := Lib.hid (fun h => by rw [h, List.take_length]; rfl)
    obtain ⟨d, c, hdc⟩ : ∃ d c, runSt (l.take j) = (d, c) := ⟨_, _, rfl⟩
    rw [hdc] at HR hcf hf1 hf2 HDC HHD HOKr HST HL0
    simp only at HR hcf hf1 hf2 HDC HHD
    obtain ⟨fr, hfr⟩ : ∃ fr, d.flatten.length = fr := ⟨_, rfl⟩
    have HFR := Lib.hid hfr
    rw [hfr] at HR hcf hf1 HDC HHD
    have hB0 : w.heap.size < wr.heap.size := by omega
    have hB2 : w.heap.size + 2 < wr.heap.size := by omega
    clear hR hdc hfr
    by_cases hlt : j < l.length
    · obtain ⟨z, hz⟩ : ∃ z, l[j]? = some z := ⟨l[j], List.getElem?_eq_getElem hlt⟩
      have hi0 : (j : Int) < (l.length : Int) := by omega
      have hi1 : (0 : Int) ≤ (j : Int) := by omega
      obtain ⟨x, hx, hxs⟩ : ∃ x, l[fr]? = some x ∧ ((x.2 = z.2 ∧ runStep (d, c) z = (d, c ++ [z])) ∨ (x.2 ≠ z.2 ∧ runStep (d, c) z = (d ++ [c], [z]))) := by
        rcases c with _ | ⟨h, c⟩
        · have hj0 : j = 0 := by
            by_cases e : j = 0
            · exact e
            · exact absurd rfl (HOKr.out.live (by intro e2; have := congrArg List.length e2; rw [List.length_take, List.length_nil] at this; omega))
          have hfr0 : fr = 0 := by omega
          exact ⟨z, by rw [hfr0, ← hj0]; exact hz, .inl ⟨rfl, rfl⟩⟩
        · refine ⟨h, HHD.out h rfl, ?_⟩
          by_cases e : h.2 = z.2
          · exact .inl ⟨e, by simp [runStep, e]⟩
          · exact .inr ⟨e, by simp [runStep, e]⟩
      obtain ⟨g, off, he, c0, c1, hgl⟩ := Gs.at HVr.out hz
      subst he
      obtain ⟨g', off', he, d0, d1, -⟩ := Gs.at HVr.out hx
      cases he
      have hf0 : (fr : Int) < (l.length : Int) := by omega
      have hf9 : (0 : Int) ≤ (fr : Int) := by omega
      have hgw : g < w.heap.size ∨ True := .inr trivial
      have b1 := Lib.hid (below_lit wr (.cells #[.int .i32 z.1, .int .u8 z.2] 47))
      have HST' := Lib.hid (HST.out z hz)
      clear hz hx hgw
      rcases hxs with ⟨hxz, hstep⟩ | ⟨hxz, hstep⟩
      · have hne : (z.2 != x.2) = false := by simp [hxz]
        have HN := Lib.hid (HST'.out.trans hstep)
        clear hxz hstep
        go_wp2_with fail
        go_quiet (fail)
        go_wp2
        go_roundw
        case rel => exact ⟨j + 1, by omega, by go_num, by rw [HN.out]; simp only; rw [HFR.out]; exact HR.out.keep (below_drewN b1.out _)⟩
        case measure => (simp [intOf]; try omega)
      · have hne : (z.2 != x.2) = true := by simpa using fun e => hxz e.symm
        have HN := Lib.hid (HST'.out.trans hstep)
        clear hxz hstep
        go_wp2_with fail
        go_quiet (fail)
        go_wp2_with ((go_at_call 37; (with_reducible refine (end_any (HR.out.keep (below_drewN b1.out _)) HV.out hf1 hj (by omega) (by omega)).mono ?_); rintro e w2 ⟨rfl, hR2⟩))
        rw [HDC.out] at hR2
        have HR2 := Lib.hid hR2
        have HFJ : Hid ((d ++ [c]).flatten.length = j) := Lib.hid (by
          have h : (d.flatten ++ c).length = (l.take j).length := congrArg List.length HOKr.out.flat
          rw [List.length_take] at h
          have e : (d ++ [c]).flatten = d.flatten ++ c := by simp
          rw [e, h]
          omega)
        clear hR2
        go_wp2_with fail
        go_roundw
        case rel => exact ⟨j + 1, by omega, by go_num, by rw [HN.out]; simp only; rw [HFJ.out]; exact HR2.out⟩
        case measure => (simp [intOf]; try omega)
    · obtain rfl : j = l.length := by omega
      have HE := Lib.hid (HL0.out rfl)
      by_cases hlf : fr < l.length
      · have hi0 : (fr : Int) < (l.length : Int) := by omega
        have hcne : c ≠ [] := by
          intro e
          have := congrArg List.length HOKr.out.flat
          rw [e] at this
          simp only [List.append_nil, HFR.out, List.length_take] at this
          omega
        have HEE : Hid (runsL l = d ++ [c]) := Lib.hid (by rw [HE.out]; unfold runEnd; rw [if_neg hcne])
        have H9 := Lib.hid (end_any HR.out HV.out hf1 (Nat.le_refl _) (by omega) (by omega))
        rw [HDC.out] at H9
        clear hcne HL0
        go_wp2_with fail
        refine H9.out.mono ?_
        rintro e w2 ⟨rfl, hR2⟩
        obtain ⟨v2, hv2, hr2⟩ := hR2.row
        have HRF := Lib.hid (hr2.mono (Nat.le_add_right w.heap.size 3))
        have HBF := Lib.hid hR2.bel
        clear hR2 hr2 H9
        go_wp2_with fail
        go_ret
        exact ⟨_, rfl, by rw [HEE.out]; exact HRF.out, HBF.out⟩
      · have hi0 : ¬ (fr : Int) < (l.length : Int) := by omega
        have hce : c = [] := by
          have := congrArg List.length HOKr.out.flat
          simp only [List.length_append, HFR.out, List.length_take] at this
          exact List.eq_nil_of_length_eq_zero (by omega)
        have HEE : Hid (runsL l = d) := Lib.hid (by rw [HE.out]; unfold runEnd; rw [if_pos hce])
        obtain ⟨v2, hv2, hr2⟩ := HR.out.row
        have HRF := Lib.hid (hr2.mono (Nat.le_add_right w.heap.size 3))
        have HBF := Lib.hid HR.out.bel
        clear hr2 hce HL0
        go_wp2_with fail
        go_ret
        exact ⟨_, rfl, by rw [HEE.out]; exact HRF.out, HBF.out⟩
end Go.Proofs.YtkiglnfapoifiaaDoor
