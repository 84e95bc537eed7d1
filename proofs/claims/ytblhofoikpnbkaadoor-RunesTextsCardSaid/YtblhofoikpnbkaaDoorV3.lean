/- Right is 'no step is at fault'; Decode's row, and Copy's, are the call's own. -/
import Derived.Test.YtblhofoikpnbkaaDoorVf
import Derived.Test.YtblhofoikpnbkaaDoorW6
import Derived.Test.YtblhofoikpnbkaaDoorM3
namespace Go.Proofs.YtblhofoikpnbkaaDoor
open Go.RowKit

set_option maxRecDepth 100000 in
set_option maxHeartbeats 400000 in
theorem right_any (b : List UInt8) (v : Value) (w : World) (hs : b.length ≤ 100000) (hv : By w v b) (hT : Lib.Utf8Tabs 0 1 w) :
    Calls Tryd.prog 14 #[v] w fun e w' => e = .returned (.bool (decide (enc (dec b) = b))) ∧ Below w.heap.size w w' := by
  have hU := uvalid_any b v w hs hv hT
  rw [valid_eq] at hU
  clear hv hT
  obtain ⟨B, hB⟩ : ∃ B, decide (enc (dec b) = b) = B := ⟨_, rfl⟩
  rw [hB] at hU ⊢
  clear hB
  go_enter Tryd.func14, Tryd.ntmps14
  go_wp2_with (go_at_call 31; refine hU.mono ?_; rintro e w' ⟨rfl, hb⟩)
  go_ret
  exact ⟨rfl, hb⟩

/-- '[]rune(s)': the row is new. -/
theorem runes_own (w : World) (b : List UInt8) (hb : b.length ≤ 100000) :
    ∃ u w', (convert 9 24 (.string ⟨b.toArray⟩)).run Tryd.prog w = .ok u w' ∧ Own w.heap.size 21 .i32 w' u (dec b) ∧ Below w.heap.size w w' := by
  have hz : (⟨b.toArray⟩ : ByteArray).size = b.length := by simp [Go.Lib.size_eq]
  have hsz : (Conv.runesFrom ⟨b.toArray⟩ (⟨b.toArray⟩ : ByteArray).size 0 #[]) = ((dec b).map (Value.int .i32)).toArray := by rw [hz]; exact runesFrom_all b
  have hl := dec_le b
  have hr := run_runes_of_string (P := Tryd.prog) w 9 24 21 ⟨b.toArray⟩ Tryd.underlying9 Tryd.underlying24 Tryd.underlying21 (by rw [hsz]; simp; omega)
  rw [hsz] at hr
  refine ⟨_, _, hr, ?_, ((Below.refl _ w).drew).alloc (Nat.le_refl _) _⟩
  have e : ((dec b).map (Value.int .i32)).toArray.size = (dec b).length := by simp
  rw [e]
  have hg := grownCap_ge w (dec b).length 0 21
  refine ⟨by simp, .inr ⟨w.heap.size, _, _, rfl, Nat.le_refl _, heap_alloc_new w.drew _, hg, grownCap_le_maxLen w _ 0 21 (by unfold maxLen; omega), ?_, ?_⟩⟩
  · simp only [Array.size_append, e, Array.size_replicate, Nat.mul_one]
    omega
  · simp only [Nat.mul_one, Array.toList_append]
    have el : ((dec b).map (Value.int .i32)).length = (dec b).length := by simp
    rw [← el]
    exact List.take_left

set_option maxRecDepth 100000 in
set_option maxHeartbeats 400000 in
theorem decode_own (b : List UInt8) (v : Value) (w : World) (hv : By w v b) (hb : b.length ≤ 100000) :
    Calls Tryd.prog 13 #[v] w fun e w' => ∃ u, e = .returned u ∧ Own w.heap.size 21 .i32 w' u (dec b) ∧ Below w.heap.size w w' := by
  have h1 := str_of_bytes hv
  obtain ⟨u, w', h2, h3, h4⟩ := runes_own w b hb
  have H3 := Lib.hid h3
  clear hv h3
  go_enter Tryd.func13, Tryd.ntmps13
  go_wp2_with fail
  go_ret
  exact ⟨_, rfl, H3.out, h4⟩

attribute [local go_sem ↓ high] builtin_app22
set_option maxRecDepth 100000 in
set_option maxHeartbeats 400000 in
theorem copy_own (b : List UInt8) (v : Value) (w : World) (hv : By w v b) (hb : b.length ≤ 100000) :
    Calls Tryd.prog 28 #[v] w fun e w' => ∃ u, e = .returned u ∧ Own w.heap.size 5 .u8 w' u (b.map fun x => (x.toNat : Int)) ∧ Below w.heap.size w w' := by
  obtain ⟨x1, w1, k1, o1, g1, -⟩ := app22_own (Own.nil w.heap.size 5 .u8 w) hv (Nat.le_refl _) (by simpa using hb)
  have B1 : Below w.heap.size w w1 := (Own.nil w.heap.size 5 .u8 w).below (Below.refl _ _) (Nat.le_refl _) g1
  rw [List.nil_append] at o1
  have H1 := Lib.hid o1
  clear o1 g1 hv
  go_enter Tryd.func28, Tryd.ntmps28
  go_wp2_with fail
  go_ret
  exact ⟨_, rfl, H1.out, B1⟩
end Go.Proofs.YtblhofoikpnbkaaDoor
