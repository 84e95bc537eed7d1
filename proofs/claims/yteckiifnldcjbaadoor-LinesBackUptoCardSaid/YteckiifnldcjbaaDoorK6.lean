/- strings.IndexAny, ContainsAny, at any text, where what is sought is ASCII. -/
import Derived.Test.YteckiifnldcjbaaDoorK2
import Derived.Test.YteckiifnldcjbaaDoorM2
import Derived.Laws.RangeString
import Derived.Laws.RangeAny
import Derived.Laws.Runes
import Derived.Deep.QuietTactic
namespace Go.Proofs.YteckiifnldcjbaaDoor
open Go.RowKit Go.Lib

theorem high_enc (c : Int) (h : 128 ≤ c) (hv : vld c = true) : ∃ (E : List UInt8) (m : Nat) (y : UInt8), Utf8.encode c = ⟨E.toArray⟩ ∧ E.length = m + 1 ∧ 1 ≤ m ∧ m ≤ 3 ∧ E[m]? = some y ∧ 128 ≤ y.toNat := by
  have he := encode_eq c
  have key : ∃ (m : Nat) (y : UInt8), (encodeRune c).length = m + 1 ∧ 1 ≤ m ∧ m ≤ 3 ∧ (encodeRune c)[m]? = some y ∧ 128 ≤ y.toNat := by
    simp only [vld, decide_eq_true_eq] at hv
    have hy : 128 ≤ ((128 + c % 64).toNat.toUInt8).toNat := by
      rw [show (128 + c % 64).toNat.toUInt8 = UInt8.ofNat (128 + c % 64).toNat from rfl, UInt8.toNat_ofNat']
      omega
    unfold encodeRune
    by_cases c2 : c < 2048
    · rw [encodeRuneZ_two (by omega) (by omega)]
      exact ⟨1, _, rfl, by omega, by omega, rfl, hy⟩
    · by_cases c3 : c < 65536
      · rw [encodeRuneZ_three (by omega)]
        exact ⟨2, _, rfl, by omega, by omega, rfl, hy⟩
      · rw [encodeRuneZ_four (by omega) (by omega)]
        exact ⟨3, _, rfl, by omega, by omega, rfl, hy⟩
  obtain ⟨m, y, r⟩ := key
  refine ⟨encodeRune c, m, y, ?_, r⟩
  rw [← he]
theorem wrap_i64 {q : Int} (h0 : 0 ≤ q) (h1 : q ≤ 1000000000) : IntKind.i64.wrap q = q := by
  simp [IntKind.wrap, IntKind.bits, IntKind.signed]
  omega
theorem indexByte_no : ∀ (l : List UInt8) (c : UInt8), c ∉ l → Lib.indexByte l c = -1
  | [], _, _ => rfl
  | b :: l, c, h => by
    simp only [List.mem_cons, not_or] at h
    unfold Lib.indexByte
    rw [indexByte_no l c h.2]
    have : (b == c) = false := by simpa using Ne.symm h.1
    rw [this]
    rfl

set_option maxHeartbeats 400000 in
theorem vr_any (r : Int) (w : World) : Calls Tryd.prog 95 #[.int .i32 r] w fun e w' => e = .returned (.bool (vld r)) ∧ w = w' := by
  go_enter Tryd.func95, Tryd.ntmps95
  go_wp2
  all_goals
    go_ret
    refine ⟨ret_bool (bool_of_iff ?_), rfl⟩
    simp only [vld, Bool.or_eq_true, Bool.and_eq_true, beq_iff_eq, decide_eq_true_eq]
    first | omega | (simp only [true_iff, Bool.false_eq_true, false_iff]; omega)

set_option maxRecDepth 1000000 in
set_option maxHeartbeats 2000000 in
theorem indexRune_odd (s : List UInt8) (hs : ∀ (j : Nat) x, s[j]? = some x → x.toNat < 128) (w : World) :
    Calls Tryd.prog 84 #[.string ⟨s.toArray⟩, .int .i32 65533] w fun e w' => e = .returned (.int .i64 (-1)) ∧ Below w.heap.size w w' := by
  have HS := Lib.hid hs
  have hsz := arr_size s
  clear hs
  go_enter Tryd.func84, Tryd.ntmps84
  go_wp2_with fail
  go_loopw [5, 6] (fun i c wr => ∃ pos : Nat, wr = w.iter ⟨s.toArray⟩ pos ∧ pos ≤ s.length) (fun _ _ wr => s.length - wr.iterPos w.heap.size)
  case atStart => exact ⟨0, rfl, by omega⟩
  case round =>
    obtain ⟨pos, rfl, hp⟩ := hrel
    by_cases hlt : pos < s.length
    · have hnx : ∀ ty, (Instr.next (.pointer (some ⟨w.heap.size, 0, none⟩)) true ty).run Tryd.prog (w.iter ⟨s.toArray⟩ pos) = .ok (.tuple #[.bool true, .int .i64 (pos : Int), .int .i32 (s[pos].toNat : Int)]) (w.iter ⟨s.toArray⟩ (pos + 1)) := fun ty => by
        have hx := HS.out pos s[pos] (List.getElem?_eq_getElem hlt)
        have h := run_next_ascii (P := Tryd.prog) w ⟨s.toArray⟩ pos ty (by rw [hsz]; exact hlt) (by
          show (s.toArray[pos]'_).toNat < 128
          simpa using hx)
        exact h
      have hne : ((s[pos].toNat : Int) == 65533) = false := by
        have := UInt8.toNat_lt s[pos]
        rw [beq_eq_false_iff_ne]; omega
      obtain ⟨x, hx⟩ : ∃ x : Int, (s[pos].toNat : Int) = x := ⟨_, rfl⟩
      rw [hx] at hnx hne
      clear hx HS
      go_wp2_with fail
      go_roundw
      case rel => exact ⟨pos + 1, rfl, by omega⟩
      case measure => simp; omega
    · have hnx := fun ty => run_next_end (P := Tryd.prog) w ⟨s.toArray⟩ pos ty (by rw [hsz]; omega)
      clear HS
      go_wp2_with fail
      go_ret
      exact ⟨rfl, (Below.refl _ _).alloc (Nat.le_refl _) _⟩

/-- A text's end, kept whole. -/
noncomputable def fromS (x lo : Value) : Sem Value := Instr.slice 9 x (some lo) none none
theorem slice_fromS (x lo : Value) : Instr.slice 9 x (some lo) none none = fromS x lo := rfl
attribute [local go_sem ↓ high] slice_fromS
set_option maxRecDepth 1000000 in
set_option maxHeartbeats 2000000 in
theorem indexRune_high (s : List UInt8) (hs : ∀ (j : Nat) x, s[j]? = some x → x.toNat < 128) (c : Int) (h0 : 128 ≤ c) (h1 : c ≤ 1114111) (hodd : c ≠ 65533) (w : World) :
    Calls Tryd.prog 84 #[.string ⟨s.toArray⟩, .int .i32 c] w fun e w' => e = .returned (.int .i64 (-1)) ∧ Below w.heap.size w w' := by
  have V1 := Lib.hid (fun W => vr_any c W)
  have hc0 : (0 : Int) ≤ c := by omega
  have hc1 : ¬ c < 128 := by omega
  have hc2 : (c == 65533) = false := by simpa using hodd
  have hsz := arr_size s
  cases hv : vld c
  · rw [hv] at V1
    clear hv hs
    go_enter Tryd.func84, Tryd.ntmps84
    go_wp2_with (go_at_call 95; refine (V1.out _).mono ?_; rintro e w' ⟨rfl, rfl⟩)
    go_ret
    exact ⟨rfl, Below.refl _ _⟩
  · rw [hv] at V1
    obtain ⟨E, m, y, hE, hEl, hm1, hm3, hEy, hy⟩ := high_enc c h0 hv
    have HS := Lib.hid hs
    clear hs
    go_enter Tryd.func84, Tryd.ntmps84
    go_wp2_with (go_at_call 95; refine (V1.out _).mono ?_; rintro e w' ⟨rfl, rfl⟩)
    have hconv : ∀ W, (convert 21 9 (.int .i32 c)).run Tryd.prog W = .ok (.string ⟨E.toArray⟩) W := fun W => by
      rw [run_convert_int_string W 21 9 .i32 c (by rw [Tryd.underlying21]; rfl) Tryd.underlying9, hE]
    have hEz := arr_size E
    rw [hEl] at hEz
    go_step3
    go_wp2_with fail
    go_loopw [9, 10] (fun i f wr => wr = w ∧ i = .int .i64 (m : Int) ∧ f = .int .i64 0) (fun _ _ _ => 0)
    case atStart => exact ⟨rfl, by go_num, rfl⟩
    case round =>
      obtain ⟨rfl, rfl, rfl⟩ := hrel
      by_cases hlt : m < s.length
      · obtain ⟨x, hx⟩ : ∃ x, s[m]? = some x := ⟨s[m], List.getElem?_eq_getElem hlt⟩
        have hx1 := HS.out m x hx
        have k1 := str_idx s m x hx
        have k2 := str_idx E m y hEy
        have k3 : ∀ W, (fromS (.string ⟨s.toArray⟩) (.int .i64 ((m + 1 : Nat) : Int))).run Tryd.prog W = .ok (.string ⟨(s.drop (m + 1)).toArray⟩) W := str_from s (m + 1) (by omega)
        have c3 : ((m + 1 : Nat) : Int) = (m : Int) + 1 := by omega
        rw [c3] at k3
        have hne : ((x.toNat : Int) != (y.toNat : Int)) = true := by
          rw [bne_iff_ne]; omega
        have hmem : y ∉ s.drop (m + 1) := by
          intro hm
          obtain ⟨j, hj⟩ := List.mem_iff_getElem?.1 hm
          rw [List.getElem?_drop] at hj
          have := HS.out _ y hj
          omega
        have I1 : Hid (∀ W, Calls Tryd.prog 94 #[.string ⟨(s.drop (m + 1)).toArray⟩, .int .u8 (y.toNat : Int)] W fun e w' => e = .returned (.int .i64 (-1)) ∧ w' = W) := Lib.hid fun W => by
          have h := indexByte_any (s.drop (m + 1)) (y.toNat : Int) W
          have e : ((y.toNat : Int)).toNat.toUInt8 = y := by simp
          rw [e, indexByte_no _ _ hmem] at h
          exact h
        obtain ⟨ds, hds⟩ : ∃ ds, s.drop (m + 1) = ds := ⟨_, rfl⟩
        rw [hds] at k3 I1
        clear hx hmem hds HS hx1 c3
        have hlt' : (m : Int) < (s.length : Int) := by omega
        have hw : IntKind.i64.wrap ((m : Int) + 1) = (m : Int) + 1 := wrap_i64 (by omega) (by omega)
        go_wp2_with fail
        go_step3
        go_wp2_with fail
        go_quiet (fail)
        generalize hwd : World.drewN wr _ = wd
        have HB : Hid (Below wr.heap.size wr wd) := Lib.hid (by rw [← hwd]; exact below_drewN (Below.refl _ _) _)
        clear hwd
        go_wp2_with fail
        go_quiet (first | (go_at_call 94; exact Calls.quiet_of_same (I1.out _)))
        go_wp2_with fail
        try rw [Exit.noGoto_ret]
        repeat (change Exit.noGoto _ Exit.ret _ _; rw [Exit.noGoto_ret])
        go_ret
        exact ⟨rfl, below_drewN HB.out _⟩
      · clear HS
        go_wp2_with fail
        try rw [Exit.noGoto_ret]
        go_ret
        exact ⟨rfl, Below.refl _ _⟩
end Go.Proofs.YteckiifnldcjbaaDoor
