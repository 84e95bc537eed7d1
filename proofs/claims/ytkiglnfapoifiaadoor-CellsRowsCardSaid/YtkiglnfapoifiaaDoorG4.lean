/- known() is true. -/
import Derived.Test.YtkiglnfapoifiaaDoorG3
namespace Go.Proofs.YtkiglnfapoifiaaDoor
open Go.RowKit
attribute [local go_sem ↓ high] slice_frontG slice_backG

def kl : List Gly := [(97, 0), (19968, 0), (98, 0)]

set_option maxRecDepth 100000 in
set_option maxHeartbeats 1000000 in
theorem known_any (w : World) (hT : Tabs w) : Calls Tryd.prog 10 #[] w fun e W' => e = .returned (.bool true) ∧ Below w.heap.size w W' := by
  have HT := Lib.hid hT
  clear hT
  have hc : cutN kl 2 = 1 := by decide +kernel
  have hs : gsm kl = 4 := by decide +kernel
  have B1 := below_lit w (.cells #[.int .i32 97, .int .u8 0, .int .i32 19968, .int .u8 0, .int .i32 98, .int .u8 0] 47)
  have L1 : Gs (w.alloc (.cells #[.int .i32 97, .int .u8 0, .int .i32 19968, .int .u8 0, .int .i32 98, .int .u8 0] 47)) (.slice (some ⟨w.heap.size, 0, none⟩) 3 3) kl := fs_lit gcell_len w 47 kl
  obtain ⟨W1, hW1⟩ : ∃ W1, w.alloc (.cells #[.int .i32 97, .int .u8 0, .int .i32 19968, .int .u8 0, .int .i32 98, .int .u8 0] 47) = W1 := ⟨_, rfl⟩
  rw [hW1] at B1 L1
  have H1 := Lib.hid (cut_any kl _ 2 W1 (HT.out.below B1) L1 (by decide) (by decide) (by decide))
  rw [hc] at H1
  obtain ⟨u1, f1, s1, -⟩ := frontG_run L1 1 (by decide)
  obtain ⟨u2, f2, s2⟩ := backG_run L1 1 (by decide)
  have S1 := Lib.hid s1
  have S2 := Lib.hid s2
  have HL := Lib.hid L1
  have HW := Lib.hid hW1
  have HS := Lib.hid hs
  have hf1 : ∀ W : World, (frontG (.slice (some ⟨w.heap.size, 0, none⟩) 3 3) (.int .i64 1)).run Tryd.prog W = .ok u1 W := f1
  have hf2 : ∀ W : World, (backG (.slice (some ⟨w.heap.size, 0, none⟩) 3 3) (.int .i64 1)).run Tryd.prog W = .ok u2 W := f2
  clear s1 s2 hW1 hs hc f1 f2 L1
  go_enter Tryd.func10, Tryd.ntmps10
  go_wp2_with fail
  rw [HW.out]
  refine H1.out.mono ?_
  rintro e w2 ⟨x, y, rfl, sx, sy, b2⟩
  have B2 := Lib.hid (B1.trans (b2.mono B1.size))
  have b1s := B1.size
  have HA := Lib.hid (rsameg_any (kl.take 1) (kl.take 1) x u1 w2 sx (Fs.below S1.out b2) (by decide) (by decide))
  rw [decide_eq_true (rfl : kl.take 1 = kl.take 1)] at HA
  have SY := Lib.hid sy
  have C2 := Lib.hid b2
  clear sx sy b2
  go_wp2_with fail
  refine HA.out.mono ?_
  rintro e w3 ⟨rfl, b3⟩
  have C3 := Lib.hid (C2.out.trans (b3.mono C2.out.size))
  have B3 := Lib.hid (B1.trans (C3.out.mono b1s))
  have HB := Lib.hid (rsameg_any (kl.drop 1) (kl.drop 1) y u2 w3 (Fs.below SY.out b3) (Fs.below S2.out C3.out) (by decide) (by decide))
  rw [decide_eq_true (rfl : kl.drop 1 = kl.drop 1)] at HB
  clear b3
  go_wp2_with fail
  refine HB.out.mono ?_
  rintro e w4 ⟨rfl, b4⟩
  have C4 := Lib.hid (C3.out.trans (b4.mono C3.out.size))
  have B4 := Lib.hid (B1.trans (C4.out.mono b1s))
  have HC := Lib.hid (gwidth_any kl _ w4 (HT.out.below B4.out) (Fs.below HL.out C4.out) (by decide))
  rw [HS.out] at HC
  clear b4
  go_wp2_with fail
  refine HC.out.mono ?_
  rintro e w5 ⟨rfl, b5⟩
  have B5 := Lib.hid (B4.out.trans (b5.mono B4.out.size))
  clear b5
  go_wp2_with fail
  go_ret
  exact ⟨rfl, B5.out⟩
end Go.Proofs.YtkiglnfapoifiaaDoor
