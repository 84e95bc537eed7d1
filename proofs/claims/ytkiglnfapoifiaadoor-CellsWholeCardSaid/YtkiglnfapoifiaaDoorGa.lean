/- Blank; Fill. -/
import Derived.Test.YtkiglnfapoifiaaDoorG9
namespace Go.Proofs.YtkiglnfapoifiaaDoor
open Go.RowKit

def blankN (n : Int) : Nat := (min (max n 0) 65535).toNat
set_option maxRecDepth 100000 in
set_option maxHeartbeats 1000000 in
theorem blank_any (n : Int) (w : World) :
    Calls Tryd.prog 33 #[.int .i64 n] w fun e w' => ∃ u, e = .returned u ∧ GOwn w.heap.size w' u (List.replicate (blankN n) bg) ∧ Below w.heap.size w w' := by
  obtain ⟨N, hN⟩ : ∃ N, blankN n = N := ⟨_, rfl⟩
  have hN7 : N ≤ 65535 := by rw [← hN]; unfold blankN; omega
  have hNz : (N : Int) = min (max n 0) 65535 := by rw [← hN]; unfold blankN; omega
  rw [hN]
  have b1 := below_lit w (.cells #[.int .i32 32, .int .u8 0] 47)
  have HR := Lib.hid (repeat_any (.slice (some ⟨w.heap.size, 0, none⟩) 1 1) N (by omega) (w.alloc (.cells #[.int .i32 32, .int .u8 0] 47)) (fs_lit gcell_len w 47 [bg]))
  clear hN
  by_cases h1 : n < 0
  · have e : (N : Int) = 0 := by omega
    rw [e] at HR
    have h2 : n ≤ 0 := by omega
    clear hNz e
    go_enter Tryd.func33, Tryd.ntmps33
    go_wp2_with fail
    refine HR.out.mono ?_
    rintro e w1 ⟨u, rfl, o1, b2⟩
    have O1 : Hid (GOwn w.heap.size w1 u (List.replicate N bg)) := Lib.hid (o1.mono (by simp))
    have B1 := Lib.hid (b1.trans (b2.mono (by simp)))
    clear o1 b2 HR
    go_wp2_with fail
    go_ret
    exact ⟨_, rfl, O1.out, B1.out⟩
  · by_cases h2 : 65535 < n
    · have e : (N : Int) = 65535 := by omega
      rw [e] at HR
      have h3 : ¬ n ≤ 0 := by omega
      clear hNz e
      go_enter Tryd.func33, Tryd.ntmps33
      go_wp2_with fail
      refine HR.out.mono ?_
      rintro e w1 ⟨u, rfl, o1, b2⟩
      have O1 : Hid (GOwn w.heap.size w1 u (List.replicate N bg)) := Lib.hid (o1.mono (by simp))
      have B1 := Lib.hid (b1.trans (b2.mono (by simp)))
      clear o1 b2 HR
      go_wp2_with fail
      go_ret
      exact ⟨_, rfl, O1.out, B1.out⟩
    · have e : (N : Int) = n := by omega
      rw [e] at HR
      clear hNz e
      go_enter Tryd.func33, Tryd.ntmps33
      go_wp2_with fail
      refine HR.out.mono ?_
      rintro e w1 ⟨u, rfl, o1, b2⟩
      have O1 : Hid (GOwn w.heap.size w1 u (List.replicate N bg)) := Lib.hid (o1.mono (by simp))
      have B1 := Lib.hid (b1.trans (b2.mono (by simp)))
      clear o1 b2 HR
      go_wp2_with fail
      go_ret
      exact ⟨_, rfl, O1.out, B1.out⟩

/-- A row filled up. -/
def fillL (l : List Gly) (width : Int) : List Gly := l ++ List.replicate (blankN (width - gsm l)) bg
theorem wd_blank : wd 32 = 1 := by decide +kernel
theorem gsm_blanks (n : Nat) : gsm (List.replicate n bg) = n := by
  induction n with
  | zero => rfl
  | succ n ih =>
    rw [List.replicate_succ]
    have e : gsm (bg :: List.replicate n bg) = wd 32 + gsm (List.replicate n bg) := by simp [gsm, sm, bg]
    rw [e, ih, wd_blank]
    omega
theorem gsm_fillL (l : List Gly) (width : Int) (h : width ≤ 65535) : gsm (fillL l width) = max width (gsm l) := by
  unfold fillL
  rw [gsm_app, gsm_blanks]
  have := (gsm_bd l).1
  unfold blankN
  omega

set_option maxRecDepth 100000 in
set_option maxHeartbeats 1000000 in
theorem fill_any (l : List Gly) (v : Value) (width : Int) (w : World) (hT : Tabs w) (hv : Gs w v l) (hl : l.length ≤ 100000) (h0 : 0 ≤ width) (h1 : width ≤ 65535) :
    Calls Tryd.prog 29 #[v, .int .i64 width] w fun e w' => ∃ u, e = .returned u ∧ GOwn w.heap.size w' u (fillL l width) ∧ Below w.heap.size w w' := by
  have HV := Lib.hid hv
  obtain ⟨a, cap, rfl⟩ := hv.len
  have HW := Lib.hid (gwidth_any l _ w hT hv (by omega))
  have hgb := gsm_bd l
  unfold fillL
  obtain ⟨S, hS⟩ : ∃ S, gsm l = S := ⟨_, rfl⟩
  rw [hS] at HW hgb ⊢
  obtain ⟨g0, g1⟩ := hgb
  have g2 : S ≤ 200000 := by omega
  have hbn : blankN (width - S) ≤ 65535 := by unfold blankN; omega
  have HB := Lib.hid (fun W => blank_any (width - S) W)
  obtain ⟨N, hN⟩ : ∃ N, blankN (width - S) = N := ⟨_, rfl⟩
  rw [hN] at hbn HB ⊢
  clear hN hS hv hT
  go_enter Tryd.func29, Tryd.ntmps29
  go_wp2_with fail
  refine HW.out.mono ?_
  rintro e w1 ⟨rfl, b1⟩
  have B1 := Lib.hid b1
  have V1 := Lib.hid (Fs.below HV.out b1)
  have z1 := b1.size
  clear b1 HW
  go_wp2_with fail
  refine (HB.out _).mono ?_
  rintro e w2 ⟨u2, rfl, o2, b2⟩
  have z2 := b2.size
  have S2 := Lib.hid (FOwn.sl gcell_len o2)
  obtain ⟨a2, k2, rfl⟩ := S2.out.len
  have hN2 : (List.replicate N bg).length = N := by simp
  rw [hN2] at S2 ⊢
  clear hN2
  have B2 := Lib.hid (B1.out.trans (b2.mono z1))
  have V2 := Lib.hid (Fs.below V1.out b2)
  have b3 := below_lit w2 (.cells #[.slice a l.length cap, .slice a2 N k2] 22)
  have HC := Lib.hid (concat_any l (List.replicate N bg) (.slice a l.length cap) (.slice a2 N k2) w2.heap.size (w2.alloc (.cells #[.slice a l.length cap, .slice a2 N k2] 22)) (World.cell?_alloc_mark ..) (World.cell?_alloc_mark ..) (Fs.below V2.out b3) (Fs.below S2.out b3) (by simp; omega))
  have B3 := Lib.hid (B2.out.trans (b3.mono B2.out.size))
  clear o2 b2 b3 HB
  go_wp2_with fail
  refine HC.out.mono ?_
  rintro e w4 ⟨u4, rfl, o4, b4⟩
  have O4 := Lib.hid (o4.mono (show w.heap.size ≤ _ from B3.out.size))
  have B4 := Lib.hid (B3.out.trans (b4.mono B3.out.size))
  clear o4 b4 HC
  go_wp2_with fail
  go_ret
  exact ⟨_, rfl, O4.out, B4.out⟩
end Go.Proofs.YtkiglnfapoifiaaDoor
