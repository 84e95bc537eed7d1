/- The document's own bytes of a rune, of runes; its Sum. -/
import Derived.Test.YtgfmpndojjopnaaW6
namespace Go.Proofs.Ytgfmpndojjopnaa
open Go.RowKit

theorem below_lit (w : World) (o : Obj) : Below w.heap.size w (w.alloc o) := (Below.refl _ w).alloc (Nat.le_refl _) _

set_option maxRecDepth 100000 in
set_option maxHeartbeats 1000000 in
theorem one_good (r : Int) (hb : vld r = true) (w : World) :
    Calls Try.prog 49 #[.int .i32 r] w fun e w' => ∃ u, e = .returned u ∧ Sl .u8 w' u (Lib.encodeRuneZ r) ∧ Below w.heap.size w w' := by
  have V := rvalid_any r w
  rw [hb] at V
  simp only [vld, decide_eq_true_eq] at hb
  have h0 : 0 ≤ r := by omega
  by_cases c1 : r < 128
  · have e := Lib.encodeRuneZ_one (r := r) (by omega) (by omega)
    rw [e]
    clear e hb
    go_enter Try.func49, Try.ntmps49
    go_wp2_with (go_at_call 48; refine V.mono ?_; rintro e w' ⟨rfl, rfl⟩)
    go_ret
    exact ⟨_, rfl, sl_lit (k := .u8) w 5 [r], below_lit _ _⟩
  · by_cases c2 : r < 2048
    · have e := Lib.encodeRuneZ_two (r := r) (by omega) (by omega)
      rw [e]
      clear e hb
      go_enter Try.func49, Try.ntmps49
      go_wp2_with (go_at_call 48; refine V.mono ?_; rintro e w' ⟨rfl, rfl⟩)
      go_ret
      exact ⟨_, rfl, sl_lit (k := .u8) w 5 [192 + r / 64, 128 + r % 64], below_lit _ _⟩
    · by_cases c3 : r < 65536
      · have e := Lib.encodeRuneZ_three (r := r) (by omega)
        rw [e]
        clear e hb
        go_enter Try.func49, Try.ntmps49
        go_wp2_with (go_at_call 48; refine V.mono ?_; rintro e w' ⟨rfl, rfl⟩)
        go_ret
        exact ⟨_, rfl, sl_lit (k := .u8) w 5 [224 + r / 4096, 128 + r / 64 % 64, 128 + r % 64], below_lit _ _⟩
      · have hle : r ≤ 1114111 := by omega
        have e := Lib.encodeRuneZ_four (r := r) (by omega) (by omega)
        rw [e]
        clear e hb
        go_enter Try.func49, Try.ntmps49
        go_wp2_with (go_at_call 48; refine V.mono ?_; rintro e w' ⟨rfl, rfl⟩)
        go_ret
        exact ⟨_, rfl, sl_lit (k := .u8) w 5 [240 + r / 262144, 128 + r / 4096 % 64, 128 + r / 64 % 64, 128 + r % 64], below_lit _ _⟩

set_option maxRecDepth 100000 in
set_option maxHeartbeats 1000000 in
theorem one_bad (r : Int) (hb : vld r = false) (h1 : -2147483648 ≤ r) (h2 : r ≤ 2147483647) (w : World) :
    Calls Try.prog 49 #[.int .i32 r] w fun e w' => ∃ u, e = .returned u ∧ Sl .u8 w' u (Lib.encodeRuneZ r) ∧ Below w.heap.size w w' := by
  have V := rvalid_any r w
  rw [hb] at V
  simp only [vld, decide_eq_false_iff_not] at hb
  have e := Lib.encodeRuneZ_bad (r := r) (by omega)
  rw [e]
  clear e hb
  go_enter Try.func49, Try.ntmps49
  go_wp2_with (go_at_call 48; refine V.mono ?_; rintro e w' ⟨rfl, rfl⟩)
  go_ret
  exact ⟨_, rfl, sl_lit (k := .u8) w 5 [239, 191, 189], below_lit _ _⟩

theorem one_any (r : Int) (h1 : -2147483648 ≤ r) (h2 : r ≤ 2147483647) (w : World) :
    Calls Try.prog 49 #[.int .i32 r] w fun e w' => ∃ u, e = .returned u ∧ Sl .u8 w' u (Lib.encodeRuneZ r) ∧ Below w.heap.size w w' := by
  cases hb : vld r with
  | true => exact one_good r hb w
  | false => exact one_bad r hb h1 h2 w

def encZ (l : List Int) : List Int := (l.map Lib.encodeRuneZ).flatten
theorem encZ_len (l : List Int) : (encZ l).length ≤ 4 * l.length := by
  induction l with
  | nil => simp [encZ]
  | cons z l ih =>
    have := Lib.encodeRuneZ_length z
    have e : encZ (z :: l) = Lib.encodeRuneZ z ++ encZ l := by simp [encZ]
    rw [e]
    simp only [List.length_append, List.length_cons]
    omega
theorem encodeRune_ints (z : Int) : (Lib.encodeRune z).map (fun x => (x.toNat : Int)) = Lib.encodeRuneZ z := by
  have h := Lib.encodeRuneZ_byte z
  unfold Lib.encodeRune
  rw [List.map_map]
  conv => rhs; rw [← List.map_id (Lib.encodeRuneZ z)]
  apply List.map_congr_left
  intro x hx
  have := h x hx
  simp only [Function.comp, id]
  rw [show x.toNat.toUInt8 = UInt8.ofNat x.toNat from rfl, UInt8.toNat_ofNat']
  omega
theorem encZ_enc (l : List Int) : (enc l).map (fun x => (x.toNat : Int)) = encZ l := by
  induction l with
  | nil => rfl
  | cons z l ih =>
    have e : encZ (z :: l) = Lib.encodeRuneZ z ++ encZ l := by simp [encZ]
    rw [enc_cons, List.map_append, ih, e, encodeRune_ints]
theorem encZ_take {l : List Int} {j : Nat} {z : Int} (h : l[j]? = some z) : encZ (l.take (j + 1)) = encZ (l.take j) ++ Lib.encodeRuneZ z := by
  simp [encZ, List.take_add_one, h]

attribute [local go_sem ↓ high] builtin_appB
set_option maxRecDepth 100000 in
set_option maxHeartbeats 1000000 in
theorem rencode_any (l : List Int) (hl : l.length ≤ 2000) (hz : ∀ z ∈ l, -2147483648 ≤ z ∧ z ≤ 2147483647) (v : Value) (w : World) (hv : Sl .i32 w v l) :
    Calls Try.prog 56 #[v] w fun e w' => ∃ u, e = .returned u ∧ By w' u (enc l) ∧ Below w.heap.size w w' := by
  obtain ⟨a, cap, rfl, hcap, hr⟩ := hv
  have HR := Lib.hid hr
  have HZ := Lib.hid hz
  clear hr hz
  go_enter Try.func56, Try.ntmps56
  go_wp2_with fail
  go_loopw [3, 4] (fun s i wr => ∃ j : Nat, j ≤ l.length ∧ i = .int .i64 j ∧ Own w.heap.size 5 .u8 wr s (encZ (l.take j)) ∧ Below w.heap.size w wr) (fun _ i _ => l.length - (intOf i).toNat)
  case atStart => exact ⟨0, by omega, rfl, Own.nil _ _ _ _, Below.refl _ _⟩
  case round =>
    obtain ⟨j, hj, rfl, ho, hbw⟩ := hrel
    by_cases hlt : j < l.length
    · obtain ⟨z, hz⟩ : ∃ z, l[j]? = some z := ⟨l[j], List.getElem?_eq_getElem hlt⟩
      obtain ⟨g, off, rfl, h0⟩ := HR.out j z hz
      have hg := World.block_lt_of_cell? w _ h0
      have c0 : wr.cell? ⟨g, off + j, none⟩ = some (.int .i32 z) := (hbw.cell hg).trans h0
      have hsn := Lib.hid (encZ_take hz)
      have hzb := HZ.out z (List.mem_of_getElem? hz)
      have h1 := Lib.hid (one_any z hzb.1 hzb.2 wr)
      have hel := encZ_len (l.take j)
      rw [List.length_take] at hel
      have hzl := Lib.encodeRuneZ_length z
      have HO := Lib.hid ho
      clear h0 hg hz hzb ho
      have hi0 : (j : Int) < (l.length : Int) := by omega
      have hi1 : (0 : Int) ≤ (j : Int) := by omega
      go_wp2_with fail
      refine h1.out.mono ?_
      rintro e w1 ⟨u, rfl, hu, b1⟩
      have bw := hbw.size
      have oa := HO.out.keep b1
      have bs := b1.size
      obtain ⟨s', w3, k3, o3, g3, -⟩ := appB_own oa hu (by omega) (by omega)
      have b3 := Lib.hid (oa.below (hbw.trans (b1.mono bw)) (by omega) g3)
      have O3 := Lib.hid o3
      clear oa b1 o3 g3 hu h1
      go_wp2_with fail
      go_roundw
      case rel =>
        refine ⟨j + 1, by omega, by go_num, ?_, b3.out⟩
        rw [hsn.out]
        exact O3.out
      case measure => simp [intOf]; omega
    · obtain rfl : j = l.length := by omega
      rw [List.take_length] at ho
      have HO := Lib.hid ho
      clear ho
      go_wp2_with fail
      go_ret
      refine ⟨_, rfl, ?_, hbw⟩
      unfold By
      rw [encZ_enc]
      exact HO.out.sl
end Go.Proofs.Ytgfmpndojjopnaa
