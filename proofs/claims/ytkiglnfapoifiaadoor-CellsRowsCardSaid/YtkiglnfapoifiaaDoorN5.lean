/- The document's Runs. -/
import Derived.Test.YtkiglnfapoifiaaDoorN4
namespace Go.Proofs.YtkiglnfapoifiaaDoor
open Go.RowKit
attribute [local go_sem ↓ high] builtin_appS

theorem last_in {l : List Gly} {m : Nat} {d : List (List Gly)} {c : List Gly} (hm : m + 1 ≤ l.length) (h : d.flatten ++ c = l.take (m + 1)) (hc : c ≠ []) : ∃ y, l[m]? = some y ∧ y ∈ c := by
  have hl := congrArg List.length h
  rw [List.length_append, List.length_take] at hl
  have hcp : 0 < c.length := List.length_pos_iff.2 hc
  have e : l[m]? = c[m - d.flatten.length]? := by
    have h1 : (l.take (m + 1))[m]? = l[m]? := List.getElem?_take_of_lt (by omega)
    rw [← h1, ← h, List.getElem?_append_right (by omega)]
  refine ⟨c[m - d.flatten.length]'(by omega), ?_, List.getElem_mem _⟩
  rw [e, List.getElem?_eq_getElem]

set_option maxRecDepth 100000 in
set_option maxHeartbeats 4000000 in
theorem rruns_any (l : List Gly) (v : Value) (w : World) (hv : Gs w v l) (hll : l.length ≤ 90000) :
    Calls Tryd.prog 17 #[v] w fun e w' => ∃ u, e = .returned u ∧ Rws w.heap.size w' u (runsL l) ∧ Below w.heap.size w w' := by
  have HV := Lib.hid hv
  obtain ⟨a, cap, rfl⟩ := hv.len
  clear hv
  go_enter Tryd.func17, Tryd.ntmps17
  go_wp2_with fail
  go_loopw [3, 4] (fun s i wr => ∃ (j : Nat) (d : List (List Gly)) (c : List Gly), j ≤ l.length ∧ i = .int .i64 j ∧ runSt (l.take j) = (d, c) ∧ ((j = 0 ∧ s = .slice none 0 0) ∨ (c ≠ [] ∧ RwL w.heap.size wr s d c)) ∧ Below w.heap.size w wr) (fun _ i _ => l.length - (intOf i).toNat)
  case atStart => exact ⟨0, [], [], by omega, rfl, rfl, .inl ⟨rfl, rfl⟩, Below.refl _ _⟩
  case round =>
    obtain ⟨j, d, c, hj, rfl, hst, hcase, hbw⟩ := hrel
    have HST := Lib.hid hst
    have HBW := Lib.hid hbw
    have bw := hbw.size
    have HOKr : Hid (RunOk (l.take j) (d, c)) := Lib.hid (hst ▸ runSt_ok l j hj)
    have hfl := flat_le hj
    rw [hst] at hfl
    simp only at hfl
    clear hst hbw
    by_cases hlt : j < l.length
    · obtain ⟨z, hz⟩ : ∃ z, l[j]? = some z := ⟨l[j], List.getElem?_eq_getElem hlt⟩
      have hi0 : (j : Int) < (l.length : Int) := by omega
      have hi1 : (0 : Int) ≤ (j : Int) := by omega
      have HNX : Hid (runSt (l.take (j + 1)) = runStep (d, c) z) := Lib.hid (by rw [runSt_take hz, HST.out])
      rcases j with _ | m
      · obtain ⟨hd0, hc0⟩ : d = [] ∧ c = [] := by
          have h := HST.out
          simp [runSt] at h
          exact ⟨h.1, h.2⟩
        rcases hcase with ⟨_, rfl⟩ | ⟨h, _⟩
        rotate_left
        · exact absurd hc0 h
        have HN : Hid (runSt (l.take (0 + 1)) = (d, c ++ [z])) := Lib.hid (by rw [HNX.out, hd0, hc0]; rfl)
        have HCl : Hid (c.length ≤ 5) := Lib.hid (by simp [hc0])
        have HC0 := Lib.hid hc0
        have HRN : Hid (∀ W : World, Rws w.heap.size W (.slice none 0 0) d) := Lib.hid (fun W => hd0 ▸ Rws.nil _ W)
        have hdl : d.length ≤ 5 := by simp [hd0]
        clear hd0 hc0
        clear hi0 hi1
        go_wp2_with fail
        go_quiet (fail)
        generalize hwd : World.drewN wr _ = wd
        have bd : Hid (Below wr.heap.size wr wd) := Lib.hid (hwd ▸ below_drewN (Below.refl _ _) _)
        clear hwd
        have BD := Lib.hid (HBW.out.trans (bd.out.mono bw))
        obtain ⟨v1, w1, kr, RB, bb⟩ := (HRN.out wd).begin BD.out.size (by omega)
        rw [← HC0.out] at RB
        have krS := appS_of kr
        have BB := Lib.hid (BD.out.trans bb)
        have R1 := Lib.hid RB
        have hzb := BB.out.size
        have hs1 : ∃ ar cr, v1 = .slice ar (d.length + 1) cr := by obtain ⟨ar, cr, h⟩ := RB.rws.len; rw [List.length_append, List.length_singleton] at h; exact ⟨ar, cr, h⟩
        obtain ⟨ar1, cr1, rfl⟩ := hs1
        clear kr RB bb
        obtain ⟨gg, gc, ac, cc, ax, cx, w3, hv3, hgg, k0, kk, k3, f3, RL3, bl3⟩ := RwL.grow (W := (w1).drew) ((R1.out).keep (Below.refl _ _).drew) z hzb (by have := HCl.out; omega)
        have hgg' : gg < (w1).heap.size := hgg
        have RL3' := Lib.hid RL3
        have BL3 : Hid (Below w.heap.size w (w3.setCell ⟨gg, d.length, none⟩ (.slice ax (c.length + 1) cx))) := Lib.hid ((BB.out).trans (Below.trans (Below.refl _ _).drew bl3))
        have k0' : (w1).cell? ⟨gg, d.length, none⟩ = some (.slice ac c.length cc) := k0
        obtain ⟨gl, ol, he, z0, z1, hgl⟩ := Gs.at (Fs.below HV.out (BB.out)) hz
        have hk0 : (0 : Int) ≤ (d.length : Int) := by omega
        have hk1 : (d.length : Int) < ((d.length + 1 : Nat) : Int) := by omega
        have hk2 : (d.length : Int) < (d.length : Int) + 1 := by omega
        injection hv3 with e1 e2 e3
        subst e1 e3
        subst he
        rw [Nat.zero_mul, Nat.add_zero] at z0 z1
        clear hz RL3 bl3 k0
        go_wp2_with fail
        go_region_law ((refine step_append_run rfl (.tmp 39) (.tmp 44) 22 22 rfl _ _ rfl rfl kk ?_))
        all_goals
          go_simp
          go_wp2_with fail
          go_roundw
          case rel => exact ⟨0 + 1, d, c ++ [z], by omega, by go_num, HN.out, .inr ⟨by simp, RL3'.out⟩, BL3.out⟩
          case measure => (simp [intOf]; try omega)

      · rcases hcase with ⟨h, _⟩ | ⟨hc, hRL⟩
        · exact absurd h (by omega)
        have HRL := Lib.hid hRL
        obtain ⟨y, hy, hyc⟩ := last_in hj HOKr.out.flat hc
        obtain ⟨h0, c', hcc⟩ : ∃ h0 c', c = h0 :: c' := by
          rcases c with _ | ⟨h0, c'⟩
          · exact absurd rfl hc
          · exact ⟨h0, c', rfl⟩
        have hyh : y.2 = h0.2 := HOKr.out.oneC y hyc h0 (by simp [hcc])
        have hcl : c.length ≤ 90000 := by
          have h := congrArg List.length HOKr.out.flat
          rw [List.length_append, List.length_take] at h
          simp only at h
          omega
        have HCl := Lib.hid hcl
        have hdl : d.length ≤ 90000 := by omega
        obtain ⟨av, cv, hsv⟩ := hRL.rws.len
        rw [List.length_append, List.length_singleton] at hsv
        obtain ⟨gz, oz, he, z0, z1, -⟩ := Gs.at (Fs.below HV.out HBW.out) hz
        subst he
        obtain ⟨gy, oy, he, y0, y1, -⟩ := Gs.at (Fs.below HV.out HBW.out) hy
        cases he
        have hn0 : (((m + 1 : Nat) : Int) == 0) = false := by rw [beq_eq_false_iff_ne]; omega
        have hn1 : (((m : Int) + 1) == 0) = false := by rw [beq_eq_false_iff_ne]; omega
        have hm0 : (m : Int) < (l.length : Int) := by omega
        have hm1 : (0 : Int) ≤ (m : Int) := by omega
        have hm9 : (0 : Int) ≤ (m : Int) + 1 := by omega
        have hm8 : (m : Int) + 1 < (l.length : Int) := by omega
        subst hsv
        clear hRL hy hyc hcl
        by_cases hzh : h0.2 = z.2
        · have hne : (z.2 != y.2) = false := by simp [hyh, hzh]
          have HN : Hid (runSt (l.take (m + 1 + 1)) = (d, c ++ [z])) := Lib.hid (by rw [HNX.out, hcc]; simp [runStep, hzh])
          clear hzh hyh hcc
          go_wp2_with fail
          go_quiet (fail)
          generalize hwd : World.drewN wr _ = wd
          have bd : Hid (Below wr.heap.size wr wd) := Lib.hid (hwd ▸ below_drewN (Below.refl _ _) _)
          clear hwd
          have BD := Lib.hid (HBW.out.trans (bd.out.mono bw))
          have R1 := Lib.hid (HRL.out.keep bd.out)
          have hzb := BD.out.size
          obtain ⟨gg, gc, ac, cc, ax, cx, w3, hv3, hgg, k0, kk, k3, f3, RL3, bl3⟩ := RwL.grow (W := (wd).drew) ((R1.out).keep (Below.refl _ _).drew) z hzb (by have := HCl.out; omega)
          have hgg' : gg < (wd).heap.size := hgg
          have RL3' := Lib.hid RL3
          have BL3 : Hid (Below w.heap.size w (w3.setCell ⟨gg, d.length, none⟩ (.slice ax (c.length + 1) cx))) := Lib.hid ((BD.out).trans (Below.trans (Below.refl _ _).drew bl3))
          have k0' : (wd).cell? ⟨gg, d.length, none⟩ = some (.slice ac c.length cc) := k0
          obtain ⟨gl, ol, he, z0, z1, hgl⟩ := Gs.at (Fs.below HV.out (BD.out)) hz
          have hk0 : (0 : Int) ≤ (d.length : Int) := by omega
          have hk1 : (d.length : Int) < ((d.length + 1 : Nat) : Int) := by omega
          have hk2 : (d.length : Int) < (d.length : Int) + 1 := by omega
          injection hv3 with e1 e2 e3
          subst e1 e3
          cases he
          clear hz RL3 bl3 k0
          go_wp2_with fail
          go_region_law ((refine step_append_run rfl (.tmp 39) (.tmp 44) 22 22 rfl _ _ rfl rfl kk ?_))
          all_goals
            go_simp
            go_wp2_with fail
            go_roundw
            case rel => exact ⟨(m + 1) + 1, d, c ++ [z], by omega, by go_num, HN.out, .inr ⟨by simp, RL3'.out⟩, BL3.out⟩
            case measure => (simp [intOf]; try omega)

        · have hne : (z.2 != y.2) = true := by simpa [hyh] using fun e => hzh e.symm
          obtain ⟨c0, hc0⟩ : ∃ c0 : List Gly, [] = c0 := ⟨_, rfl⟩
          have HN : Hid (runSt (l.take (m + 1 + 1)) = (d ++ [c], c0 ++ [z])) := Lib.hid (by rw [HNX.out, hcc, ← hc0]; simp [runStep, hzh])
          have HCl : Hid (c0.length ≤ 5) := Lib.hid (by rw [← hc0]; simp)
          have HC0 := Lib.hid hc0
          have HDl : Hid ((d ++ [c]).length = d.length + 1) := Lib.hid (by simp)
          clear hzh hyh hcc hc0
          go_wp2_with fail
          go_quiet (fail)
          generalize hwd : World.drewN wr _ = wd
          have bd : Hid (Below wr.heap.size wr wd) := Lib.hid (hwd ▸ below_drewN (Below.refl _ _) _)
          clear hwd
          have BD := Lib.hid (HBW.out.trans (bd.out.mono bw))
          obtain ⟨v1, w1, kr, RB, bb⟩ := ((HRL.out.keep bd.out).rws).begin BD.out.size (by rw [HDl.out]; omega)
          have krS := appS_of kr
          have BB := Lib.hid (BD.out.trans bb)
          obtain ⟨Dd, hDd⟩ : ∃ Dd, d ++ [c] = Dd := ⟨_, rfl⟩
          rw [hDd, HC0.out] at RB
          rw [hDd] at HN
          have hDl := HDl.out
          rw [hDd] at hDl
          have R1 := Lib.hid RB
          have hzb := BB.out.size
          have hs1 : ∃ ar cr, v1 = .slice ar (Dd.length + 1) cr := by obtain ⟨ar, cr, h⟩ := RB.rws.len; rw [List.length_append, List.length_singleton] at h; exact ⟨ar, cr, h⟩
          obtain ⟨ar1, cr1, rfl⟩ := hs1
          have HDl2 := Lib.hid hDl
          have hDl3 : Dd.length ≤ 90001 := by omega
          clear kr RB bb hDd hDl
          obtain ⟨gg, gc, ac, cc, ax, cx, w3, hv3, hgg, k0, kk, k3, f3, RL3, bl3⟩ := RwL.grow (W := (w1).drew) ((R1.out).keep (Below.refl _ _).drew) z hzb (by have := HCl.out; omega)
          have hgg' : gg < (w1).heap.size := hgg
          have RL3' := Lib.hid RL3
          have BL3 : Hid (Below w.heap.size w (w3.setCell ⟨gg, Dd.length, none⟩ (.slice ax (c0.length + 1) cx))) := Lib.hid ((BB.out).trans (Below.trans (Below.refl _ _).drew bl3))
          have k0' : (w1).cell? ⟨gg, Dd.length, none⟩ = some (.slice ac c0.length cc) := k0
          obtain ⟨gl, ol, he, z0, z1, hgl⟩ := Gs.at (Fs.below HV.out (BB.out)) hz
          have hk0 : (0 : Int) ≤ (Dd.length : Int) := by omega
          have hk1 : (Dd.length : Int) < ((Dd.length + 1 : Nat) : Int) := by omega
          have hk2 : (Dd.length : Int) < (Dd.length : Int) + 1 := by omega
          injection hv3 with e1 e2 e3
          subst e1 e3
          cases he
          clear hz RL3 bl3 k0
          go_wp2_with fail
          go_region_law ((refine step_append_run rfl (.tmp 39) (.tmp 44) 22 22 rfl _ _ rfl rfl kk ?_))
          all_goals
            go_simp
            go_wp2_with fail
            go_roundw
            case rel => exact ⟨(m + 1) + 1, Dd, c0 ++ [z], by omega, by go_num, HN.out, .inr ⟨by simp, RL3'.out⟩, BL3.out⟩
            case measure => (simp [intOf]; try omega)

    · obtain rfl : j = l.length := by omega
      have HF : Hid (Rws w.heap.size wr u3 (runsL l)) := Lib.hid (by
        have h := HST.out
        rw [List.take_length] at h
        unfold runsL runEnd
        rw [h]
        rcases hcase with ⟨h0, rfl⟩ | ⟨hc, hRL⟩
        · have hl : l = [] := List.eq_nil_of_length_eq_zero h0
          subst hl
          simp [runSt] at h
          obtain ⟨rfl, rfl⟩ := h
          exact Rws.nil _ _
        · rw [if_neg hc]
          exact hRL.rws)
      clear hcase
      go_wp2_with fail
      go_ret
      exact ⟨_, rfl, HF.out, HBW.out⟩
end Go.Proofs.YtkiglnfapoifiaaDoor
