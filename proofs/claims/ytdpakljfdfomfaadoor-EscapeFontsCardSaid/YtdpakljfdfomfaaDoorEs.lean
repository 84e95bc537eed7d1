/- known() is true. -/
import Derived.Test.YtdpakljfdfomfaaDoorEr
import Derived.Test.YtdpakljfdfomfaaDoorEp
namespace Go.Proofs.YtdpakljfdfomfaaDoor
open Go.RowKit

def knS : List UInt8 := [97, 92, 40, 101, 109, 98]
def knT : List Tok := [(1, 97), (1, 8212), (1, 98)]
theorem kn_scan : scanL 0 (dec knS) = (knT, []) := by decide +kernel
set_option maxRecDepth 100000 in
set_option maxHeartbeats 1000000 in
theorem known_any (w : World) (hM : Mx w) : Calls Tryd.prog 10 #[] w fun e W' => e = .returned (.bool true) ∧ Below w.heap.size w W' := by
  have HM := Lib.hid hM
  have HS : Hid (Calls Tryd.prog 11 #[.string ⟨#[97, 92, 40, 101, 109, 98]⟩] w (ScanEnd w knS)) := Lib.hid (scan_any knS w (by decide))
  clear hM
  go_enter Tryd.func10, Tryd.ntmps10
  go_wp2_with fail
  refine HS.out.mono ?_
  rintro e w1 ⟨vt, vd, rfl, o1, o2, b1⟩
  rw [kn_scan] at o1 o2
  have B1 := Lib.hid b1
  have z1 := b1.size
  obtain ⟨at_, ct, rfl⟩ := (FOwn.sl tcell_len o1).len
  obtain ⟨ad, cd, rfl⟩ := (FOwn.sl dcell_len o2).len
  have bl := below_lit w1 (.cells #[.int .i64 1, .int .i32 97, .int .i64 1, .int .i32 8212, .int .i64 1, .int .i32 98] 38)
  have HE := Lib.hid (rsamet_any knT knT _ _ _ (Fs.below (FOwn.sl tcell_len o1) bl) (fs_lit tcell_len w1 38 knT) (by decide) (by decide))
  rw [decide_eq_true (rfl : knT = knT)] at HE
  have HE' : Hid (Calls Tryd.prog 13 #[.slice at_ 3 ct, .slice (some ⟨w1.heap.size, 0, none⟩) 3 3] (w1.alloc (.cells #[.int .i64 1, .int .i32 97, .int .i64 1, .int .i32 8212, .int .i64 1, .int .i32 98] 38)) fun e w' => e = .returned (.bool true) ∧ Below (w1.alloc (.cells #[.int .i64 1, .int .i32 97, .int .i64 1, .int .i32 8212, .int .i64 1, .int .i32 98] 38)).heap.size (w1.alloc (.cells #[.int .i64 1, .int .i32 97, .int .i64 1, .int .i32 8212, .int .i64 1, .int .i32 98] 38)) w') := HE
  have B2 := Lib.hid (b1.trans (bl.mono z1))
  clear o1 o2 b1 HE HS bl
  go_wp2_with fail
  refine HE'.out.mono ?_
  rintro e w2 ⟨rfl, b2⟩
  have B3 := Lib.hid (B2.out.trans (b2.mono B2.out.size))
  have HQ : Hid (Calls Tryd.prog 19 #[.string ⟨#[92]⟩] w2 fun e w' => e = .returned (.string ⟨#[92, 101]⟩) ∧ Below w2.heap.size w2 w') := Lib.hid (quote_any [92] w2 (HM.out.below B3.out) (by decide))
  clear b2 HE'
  go_wp2_with fail
  refine HQ.out.mono ?_
  rintro e w3 ⟨rfl, b3⟩
  have B4 := Lib.hid (B3.out.trans (b3.mono B3.out.size))
  clear b3 HQ
  go_wp2_with fail
  go_ret
  exact ⟨rfl, B4.out⟩
end Go.Proofs.YtdpakljfdfomfaaDoor
