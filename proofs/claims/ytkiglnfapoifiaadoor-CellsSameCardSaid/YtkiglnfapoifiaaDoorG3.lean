/- Cut; known() is true. -/
import Derived.Test.YtkiglnfapoifiaaDoorG2
import Derived.Deep.RegionWith
import Derived.Deep.LoopGhost
namespace Go.Proofs.YtkiglnfapoifiaaDoor
open Go.RowKit
attribute [local go_sem ↓ high] slice_frontG slice_backG

/-- How many glyphs the longest front has. -/
def cutN : List Gly → Int → Nat
  | [], _ => 0
  | g :: l, r => if r < wd g.1 then 0 else cutN l (r - wd g.1) + 1
theorem cutN_le : ∀ (l : List Gly) (r : Int), cutN l r ≤ l.length
  | [], _ => Nat.le_refl _
  | g :: l, r => by
    unfold cutN
    split
    · omega
    · have := cutN_le l (r - wd g.1); simp only [List.length_cons]; omega
theorem cutN_stop {l : List Gly} {j : Nat} {g : Gly} {r : Int} (h : l[j]? = some g) (hr : r < wd g.1) : cutN (l.drop j) r = 0 := by
  have hlt := (List.getElem?_eq_some_iff.1 h).1
  rw [List.drop_eq_getElem_cons hlt]
  rw [List.getElem?_eq_getElem hlt] at h
  rw [Option.some.inj h]
  unfold cutN
  rw [if_pos hr]
theorem cutN_go {l : List Gly} {j : Nat} {g : Gly} {r : Int} (h : l[j]? = some g) (hr : ¬ r < wd g.1) : cutN (l.drop j) r = cutN (l.drop (j + 1)) (r - wd g.1) + 1 := by
  have hlt := (List.getElem?_eq_some_iff.1 h).1
  rw [List.drop_eq_getElem_cons hlt]
  rw [List.getElem?_eq_getElem hlt] at h
  rw [Option.some.inj h]
  conv => lhs; unfold cutN
  rw [if_neg hr]

/-- The two copies that Cut hands back. -/
def CutEnd (w : World) (l : List Gly) (n : Nat) (e : Ending) (w' : World) : Prop :=
  ∃ x y, e = .returned (.tuple #[x, y]) ∧ Gs w' x (l.take n) ∧ Gs w' y (l.drop n) ∧ Below w.heap.size w w'

set_option maxRecDepth 100000 in
set_option maxHeartbeats 1000000 in
theorem cut_any (l : List Gly) (v : Value) (width : Int) (w : World) (hT : Tabs w) (hv : Gs w v l) (hl : l.length ≤ 100000) (h0 : 0 ≤ width) (h1 : width ≤ 100000) :
    Calls Tryd.prog 27 #[v, .int .i64 width] w (CutEnd w l (cutN l width)) := by
  have HV := Lib.hid hv
  obtain ⟨a, cap, rfl, hcap, -⟩ := hv
  have HT := Lib.hid hT
  clear hT
  go_enter Tryd.func27, Tryd.ntmps27
  go_wp2_with fail
  go_step3
  go_wp2_with fail
  go_step3
  go_wp2_with fail
  go_loopg [6, 7, 14] l.length (fun g s6 s7 s14 wr => ∃ j : Nat, j + g = l.length ∧ s14 = .int .i64 j ∧ s6 = .int .i64 j ∧ s7 = .int .i64 (width - gsm (l.take j)) ∧ 0 ≤ width - gsm (l.take j) ∧ cutN l width = cutN (l.drop j) (width - gsm (l.take j)) + j ∧ Below w.heap.size w wr)
  case atStart => exact ⟨0, by omega, rfl, rfl, by simp [gsm, sm], by simpa [gsm, sm] using h0, by simp [gsm, sm], Below.refl _ _⟩
  case round =>
    obtain ⟨j, hjg, rfl, rfl, rfl, hroom, hcut, hbw⟩ := hrel
    obtain ⟨R, hR⟩ : ∃ R, width - gsm (l.take j) = R := ⟨_, rfl⟩
    rw [hR] at hroom hcut ⊢
    have hgb := (gsm_bd (l.take j)).1
    have hR2 : R ≤ 100000 := by omega
    have HBW := Lib.hid hbw
    have bw := hbw.size
    have HVr := Lib.hid (Fs.below HV.out hbw)
    have HTr := Lib.hid (HT.out.below hbw)
    have HCUT := Lib.hid hcut
    have HR := Lib.hid hR
    clear hbw hcut hR hgb
    by_cases hlt : j < l.length
    · obtain ⟨z, hz⟩ : ∃ z, l[j]? = some z := ⟨l[j], List.getElem?_eq_getElem hlt⟩
      obtain ⟨g, off, rfl, c0, c1, -⟩ := Gs.at HVr.out hz
      have hi0 : (j : Int) < (l.length : Int) := by omega
      have hi1 : (0 : Int) ≤ (j : Int) := by omega
      have hzb := wd_bd z.1
      have b1 := below_lit wr (.cells #[.int .i32 z.1, .int .u8 z.2] 47)
      have hW2 := Lib.hid (width_any z.1 _ (HTr.out.below b1))
      obtain ⟨Z, hZ⟩ : ∃ Z, wd z.1 = Z := ⟨_, rfl⟩
      rw [hZ] at hW2 hzb
      obtain ⟨hZ1, hZ2⟩ := hzb
      by_cases hw : R < Z
      · have HKE : Hid (j = cutN l width) := Lib.hid (by
          have := HCUT.out
          rw [cutN_stop hz (by rw [hZ]; exact hw)] at this
          omega)
        clear hz hZ
        obtain ⟨K, hKj⟩ : ∃ K, j = K := ⟨_, rfl⟩
        have hK : K ≤ l.length := by omega
        subst hKj
        obtain ⟨u1, f1, s1, -⟩ := frontG_run HVr.out j hK
        obtain ⟨u2, f2, s2⟩ := backG_run HVr.out j hK
        have CA := Lib.hid (fun W (h : Below wr.heap.size wr W) => cloneg_any (l.take j) u1 W (Fs.below s1 h) (by rw [List.length_take]; omega))
        have CB := Lib.hid (fun W (h : Below wr.heap.size wr W) => cloneg_any (l.drop j) u2 W (Fs.below s2 h) (by rw [List.length_drop]; omega))
        clear s1 s2
        go_wp2_with (go_at_call 34; refine hW2.out.mono ?_; rintro e w' ⟨rfl, rfl⟩)
        go_region_with ((first
          | (go_at_call 38; (with_reducible refine (CA.out _ b1.drew).mono ?_); rintro e wa ⟨xa, rfl, oa, ba⟩; have BA : Hid (Below wr.heap.size wr wa) := Lib.hid (b1.drew.trans (ba.mono b1.drew.size)); have SA := Lib.hid (FOwn.sl gcell_len oa); clear oa ba)
          | (go_at_call 38; (with_reducible refine (CB.out _ b1.drew).mono ?_); rintro e wb ⟨xb, rfl, ob, bb⟩; have BB : Hid (Below wr.heap.size wr wb) := Lib.hid (b1.drew.trans (bb.mono b1.drew.size)); have SB := Lib.hid (FOwn.sl gcell_len ob); clear ob bb)
          | (go_at_call 38; (with_reducible refine (CB.out wa BA.out).mono ?_); rintro e wc ⟨xb, rfl, ob, bb⟩; have BF : Hid (Below wr.heap.size wr wc) := Lib.hid (BA.out.trans (bb.mono BA.out.size)); have FB := Lib.hid (FOwn.sl gcell_len ob); have FA := Lib.hid (Fs.below SA.out bb); clear ob bb)
          | (go_at_call 38; (with_reducible refine (CA.out wb BB.out).mono ?_); rintro e wc ⟨xa, rfl, oa, ba⟩; have BF : Hid (Below wr.heap.size wr wc) := Lib.hid (BB.out.trans (ba.mono BB.out.size)); have FA := Lib.hid (FOwn.sl gcell_len oa); have FB := Lib.hid (Fs.below SB.out ba); clear oa ba)))
        all_goals
          go_wp2_with fail
          (try rw [Exit.noGoto_ret])
          go_ret2
          exact ⟨_, _, rfl, HKE.out ▸ FA.out, HKE.out ▸ FB.out, HBW.out.trans (BF.out.mono bw)⟩
      · have HN : Hid (cutN l width = cutN (l.drop (j + 1)) (R - Z) + (j + 1)) := Lib.hid (by
          have := HCUT.out
          rw [cutN_go hz (by rw [hZ]; exact hw), hZ] at this
          omega)
        have HS : Hid (width - gsm (l.take (j + 1)) = R - Z) := Lib.hid (by
          rw [gsm_take hz, hZ]
          have := HR.out
          omega)
        clear hz hZ
        go_wp2_with (go_at_call 34; refine hW2.out.mono ?_; rintro e w' ⟨rfl, rfl⟩)
        go_roundg (gk - 1)
        case rel => exact ⟨j + 1, by omega, by go_num, by go_num, by rw [HS.out], by rw [HS.out]; omega, by rw [HS.out]; exact HN.out, HBW.out.trans (b1.mono bw)⟩
        case measure => omega
    · obtain ⟨K, hKj⟩ : ∃ K, j = K := ⟨_, rfl⟩
      have hK : K ≤ l.length := by omega
      have hKl : K = l.length := by omega
      have HKE : Hid (K = cutN l width) := Lib.hid (by
        have := HCUT.out
        rw [hKj, hKl, List.drop_length] at this
        rw [this]
        simp [cutN, hKl])
      subst hKj
      have hi0 : ¬ (j : Int) < (l.length : Int) := by omega
      clear hKl
      obtain ⟨u1, f1, s1, -⟩ := frontG_run HVr.out j hK
      obtain ⟨u2, f2, s2⟩ := backG_run HVr.out j hK
      have CA := Lib.hid (fun W (h : Below wr.heap.size wr W) => cloneg_any (l.take j) u1 W (Fs.below s1 h) (by rw [List.length_take]; omega))
      have CB := Lib.hid (fun W (h : Below wr.heap.size wr W) => cloneg_any (l.drop j) u2 W (Fs.below s2 h) (by rw [List.length_drop]; omega))
      clear s1 s2
      go_wp2_with fail
      go_region_with ((first
        | (go_at_call 38; (with_reducible refine (CA.out _ (Below.refl _ wr).drew).mono ?_); rintro e wa ⟨xa, rfl, oa, ba⟩; have BA : Hid (Below wr.heap.size wr wa) := Lib.hid ((Below.refl _ wr).drew.trans ba); have SA := Lib.hid (FOwn.sl gcell_len oa); clear oa ba)
        | (go_at_call 38; (with_reducible refine (CB.out _ (Below.refl _ wr).drew).mono ?_); rintro e wb ⟨xb, rfl, ob, bb⟩; have BB : Hid (Below wr.heap.size wr wb) := Lib.hid ((Below.refl _ wr).drew.trans bb); have SB := Lib.hid (FOwn.sl gcell_len ob); clear ob bb)
        | (go_at_call 38; (with_reducible refine (CB.out wa BA.out).mono ?_); rintro e wc ⟨xb, rfl, ob, bb⟩; have BF : Hid (Below wr.heap.size wr wc) := Lib.hid (BA.out.trans (bb.mono BA.out.size)); have FB := Lib.hid (FOwn.sl gcell_len ob); have FA := Lib.hid (Fs.below SA.out bb); clear ob bb)
        | (go_at_call 38; (with_reducible refine (CA.out wb BB.out).mono ?_); rintro e wc ⟨xa, rfl, oa, ba⟩; have BF : Hid (Below wr.heap.size wr wc) := Lib.hid (BB.out.trans (ba.mono BB.out.size)); have FA := Lib.hid (FOwn.sl gcell_len oa); have FB := Lib.hid (Fs.below SB.out ba); clear oa ba)))
      all_goals
        go_wp2_with fail
        (try rw [Exit.noGoto_ret])
        go_ret2
        exact ⟨_, _, rfl, HKE.out ▸ FA.out, HKE.out ▸ FB.out, HBW.out.trans (BF.out.mono bw)⟩
end Go.Proofs.YtkiglnfapoifiaaDoor
