/- A rune that is named by its number. -/
import Derived.Test.YtgfmpndojjopnaaE2
import Derived.Lib.Hide
namespace Go.Proofs.Ytgfmpndojjopnaa
open Go.RowKit

theorem numOf_short {b : List UInt8} (h : b.length < 5) : numOf b = none := by unfold numOf; rw [if_pos (.inl h)]
theorem numOf_long {b : List UInt8} (h : 7 < b.length) : numOf b = none := by unfold numOf; rw [if_pos (.inr (.inl h))]
theorem numOf_other {b : List UInt8} (h : b.head? ≠ some 117) : numOf b = none := by unfold numOf; rw [if_pos (.inr (.inr h))]
theorem numOf_hex {b : List UInt8} (h1 : 5 ≤ b.length) (h2 : b.length ≤ 7) (h3 : b.head? = some 117) : numOf b = match hexN b.tail 0 with
    | none => none
    | some n => if vld n = true ∧ ctl n = false then some n else none := by
  have hn : ¬ (b.length < 5 ∨ 7 < b.length ∨ b.head? ≠ some 117) := by
    rintro (h | h | h)
    · omega
    · omega
    · exact h h3
  unfold numOf
  rw [if_neg hn]
  cases hexN b.tail 0 <;> rfl
theorem hexd_high {c : Int} (h : 128 ≤ c) : hexd c = none := by unfold hexd; rw [if_neg (by omega), if_neg (by omega)]

/-- A number's place in its text: what is read so far, and what is read of all. -/
structure HexAt (T : List UInt8) (R : Option Int) (pos : Nat) (acc : Int) : Prop where
  le : pos ≤ T.length
  eq : hexN (T.drop pos) acc = R
  lo : 0 ≤ acc
  hi : acc < 16 ^ pos
theorem HexAt.start (T : List UInt8) : HexAt T (hexN T 0) 0 0 := ⟨by omega, by simp, by omega, by simp⟩
theorem HexAt.done {T : List UInt8} {R : Option Int} {acc : Int} {pos : Nat} (h : HexAt T R pos acc) (hp : T.length ≤ pos) : R = some acc := by
  have h1 := h.eq
  rw [List.drop_eq_nil_of_le hp] at h1
  exact h1.symm
theorem HexAt.next {T : List UInt8} {R : Option Int} {acc : Int} {pos : Nat} (h : HexAt T R pos acc) {x : UInt8} (hx : T[pos]? = some x) {d : Int} (hd : hexd (x.toNat : Int) = some d) : HexAt T R (pos + 1) (acc * 16 + d) := by
  obtain ⟨hp, hx'⟩ := List.getElem?_eq_some_iff.1 hx
  have h1 := h.eq
  have hb := hexd_bd hd
  have lo := h.lo
  have hi := h.hi
  rw [List.drop_eq_getElem_cons hp, hx'] at h1
  unfold hexN at h1
  rw [hd] at h1
  refine ⟨hp, h1, by omega, ?_⟩
  rw [Int.pow_succ]
  omega
theorem HexAt.none {T : List UInt8} {R : Option Int} {acc : Int} {pos : Nat} (h : HexAt T R pos acc) {x : UInt8} (hx : T[pos]? = some x) (hd : hexd (x.toNat : Int) = none) : R = Option.none := by
  obtain ⟨hp, hx'⟩ := List.getElem?_eq_some_iff.1 hx
  have h1 := h.eq
  rw [List.drop_eq_getElem_cons hp, hx'] at h1
  unfold hexN at h1
  rw [hd] at h1
  exact h1.symm
theorem HexAt.room {T : List UInt8} {R : Option Int} {acc : Int} {pos : Nat} (h : HexAt T R pos acc) (hp : pos ≤ 5) : acc < 1048576 := by
  have hi := h.hi
  have : (16 : Int) ^ pos ≤ 16 ^ 5 := by
    have := Nat.pow_le_pow_right (n := 16) (by omega) hp
    exact_mod_cast this
  have e : (16 : Int) ^ 5 = 1048576 := by decide
  omega

/-- One byte of a text; a text's end; a piece of one. -/
theorem str_idx (b : List UInt8) (i : Nat) (x : UInt8) (h : b[i]? = some x) (w : World) : (Instr.index 9 (.string ⟨b.toArray⟩) (.int .i64 (i : Int))).run Try.prog w = .ok (.int .u8 (x.toNat : Int)) w := by
  obtain ⟨hi, hx⟩ := List.getElem?_eq_some_iff.1 h
  have hsz : (⟨b.toArray⟩ : ByteArray).size = b.length := by simp [Go.Lib.size_eq]
  rw [run_index_string w 9 _ .i64 (i : Int) Try.underlying9, dif_pos ⟨by omega, by rw [hsz]; omega⟩]
  have e : (⟨b.toArray⟩ : ByteArray)[((i : Int)).toNat]'(by rw [hsz]; omega) = x := by
    show b.toArray[((i : Int)).toNat]'_ = x
    simp only [Int.toNat_natCast, List.getElem_toArray]
    exact hx
  rw [e]
theorem str_from (b : List UInt8) (i : Nat) (h : i ≤ b.length) (w : World) : (Instr.slice 9 (.string ⟨b.toArray⟩) (some (.int .i64 (i : Int))) none none).run Try.prog w = .ok (.string ⟨(b.drop i).toArray⟩) w := by
  have hsz : (⟨b.toArray⟩ : ByteArray).size = b.length := by simp [Go.Lib.size_eq]
  rw [run_slice_string_from_if w 9 _ .i64 (i : Int) Try.underlying9, if_pos ⟨by omega, by rw [hsz]; omega⟩, hsz, ByteArray.extract_mk]
  simp only [Int.toNat_natCast]
  rw [List.take_of_length_le (by simp)]
theorem str_mid (b : List UInt8) (i j : Nat) (hi : i ≤ j) (h : j ≤ b.length) (w : World) : (Instr.slice 9 (.string ⟨b.toArray⟩) (some (.int .i64 (i : Int))) (some (.int .i64 (j : Int))) none).run Try.prog w = .ok (.string ⟨((b.drop i).take (j - i)).toArray⟩) w := by
  have hsz : (⟨b.toArray⟩ : ByteArray).size = b.length := by simp [Go.Lib.size_eq]
  rw [run_slice_string w 9 _ .i64 .i64 (i : Int) (j : Int) Try.underlying9 (by omega) (by omega) (by rw [hsz]; omega), ByteArray.extract_mk]
  simp only [Int.toNat_natCast]

/-- The next rune of a text, where a digit's or another ASCII byte stands, or none does. -/
theorem next_of (T : List UInt8) (pos : Nat) (x : UInt8) (hx : T[pos]? = some x) (w : World) :
    ∃ (c : Int) (k : Nat), (∀ ty, (Instr.next (.pointer (some ⟨w.heap.size, 0, none⟩)) true ty).run Try.prog (w.iter ⟨T.toArray⟩ pos) = .ok (.tuple #[.bool true, .int .i64 (pos : Int), .int .i32 c]) (w.iter ⟨T.toArray⟩ (pos + k))) ∧
      0 ≤ c ∧ c ≤ 2147483647 ∧ hexd c = hexd (x.toNat : Int) ∧ ((hexd c).isSome = true → k = 1) := by
  obtain ⟨hp, hx'⟩ := List.getElem?_eq_some_iff.1 hx
  have hsz : (⟨T.toArray⟩ : ByteArray).size = T.length := by simp [Go.Lib.size_eq]
  have hps : pos < (⟨T.toArray⟩ : ByteArray).size := by rw [hsz]; exact hp
  have e : (⟨T.toArray⟩ : ByteArray)[pos]'hps = x := by
    show T.toArray[pos]'_ = x
    simp only [List.getElem_toArray]
    exact hx'
  by_cases ha : x.toNat < 128
  · refine ⟨(x.toNat : Int), 1, fun ty => ?_, by omega, by omega, rfl, fun _ => rfl⟩
    have := run_next_ascii (P := Try.prog) w ⟨T.toArray⟩ pos ty hps (by rw [e]; exact ha)
    rw [e] at this
    exact this
  · have hd := decode_high ⟨T.toArray⟩ pos hps (by rw [e]; omega)
    have hle := decode_le ⟨T.toArray⟩ pos
    refine ⟨((Utf8.decode ⟨T.toArray⟩ pos).1 : Int), (Utf8.decode ⟨T.toArray⟩ pos).2, fun ty => run_next_any w _ pos ty hps, by omega, by omega, ?_, fun h => ?_⟩
    · rw [hexd_high (by omega), hexd_high (by omega)]
    · rw [hexd_high (by omega)] at h
      cases h

set_option maxHeartbeats 1000000 in
/-- The loop of it, and all behind. -/
theorem numbered_hex (b : List UInt8) (w : World) (h1 : 5 ≤ b.length) (h2 : b.length ≤ 7) (h3 : b.head? = some 117) :
    Calls Try.prog 55 #[.string ⟨b.toArray⟩] w fun e w' => e = .returned (.tuple #[.int .i32 ((numOf b).getD 0), .bool (numOf b).isSome]) ∧ Below w.heap.size w w' := by
  have HN := Lib.hid (numOf_hex h1 h2 h3)
  obtain ⟨N, hN⟩ : ∃ N, numOf b = N := ⟨_, rfl⟩
  rw [hN] at HN ⊢
  clear hN
  have hsz : (⟨b.toArray⟩ : ByteArray).size = b.length := by simp [Go.Lib.size_eq]
  have k0 := str_idx b 0 117 (by cases b with | nil => cases h3 | cons x r => simpa using h3)
  have k1 := str_from b 1 (by omega)
  have k0' : ∀ w, (Instr.index 9 (.string ⟨b.toArray⟩) (.int .i64 0)).run Try.prog w = .ok (.int .u8 117) w := k0
  have k1' : ∀ w, (Instr.slice 9 (.string ⟨b.toArray⟩) (some (.int .i64 1)) none none).run Try.prog w = .ok (.string ⟨(b.drop 1).toArray⟩) w := k1
  have hdl : (b.drop 1).length = b.length - 1 := by simp
  have HS := Lib.hid (HexAt.start (b.drop 1))
  rw [show b.tail = b.drop 1 by simp] at HN
  obtain ⟨R, hR⟩ : ∃ R, hexN (b.drop 1) 0 = R := ⟨_, rfl⟩
  rw [hR] at HN HS
  obtain ⟨T, hT⟩ : ∃ T, b.drop 1 = T := ⟨_, rfl⟩
  rw [hT] at HS hdl k1'
  have HNX := Lib.hid (fun pos x hx => next_of T pos x hx w)
  have HNE := Lib.hid (fun pos (h : ¬ pos < (⟨T.toArray⟩ : ByteArray).size) ty => run_next_end (P := Try.prog) w ⟨T.toArray⟩ pos ty h)
  have hTz : (⟨T.toArray⟩ : ByteArray).size = T.length := by simp [Go.Lib.size_eq]
  have hl1 : ¬ (b.length : Int) < 5 := by omega
  have hl2 : ¬ (7 : Int) < (b.length : Int) := by omega
  clear h3 k0 k1 hR hT
  go_enter Try.func55, Try.ntmps55
  go_wp2_with fail
  go_loopw [4] (fun n wr => ∃ (pos : Nat) (acc : Int), wr = w.iter ⟨T.toArray⟩ pos ∧ n = .int .i32 acc ∧ HexAt T R pos acc) (fun _ wr => T.length - wr.iterPos w.heap.size)
  case atStart => exact ⟨0, 0, rfl, rfl, HS.out⟩
  case round =>
    obtain ⟨pos, acc, rfl, rfl, hh⟩ := hrel
    have HH := Lib.hid hh
    have lo := hh.lo
    have ple := hh.le
    by_cases hp : pos < T.length
    · have hroom := hh.room (by omega)
      obtain ⟨x, hx⟩ : ∃ x, T[pos]? = some x := ⟨T[pos], List.getElem?_eq_getElem hp⟩
      obtain ⟨c, k, hnx, c0, c1, hc, hk⟩ := HNX.out pos x hx
      have HX := Lib.hid hx
      have HD := Lib.hid (digit_any c c0 c1)
      rw [hc] at HD hk
      cases hd : hexd (x.toNat : Int) with
      | none =>
        rw [hd] at HD
        have hR := HH.out.none HX.out hd
        have HN' := HN.out
        rw [hR] at HN'
        simp only at HN'
        subst HN'
        simp only [Option.getD_none, Option.isSome_none] at HD ⊢
        clear hd hc hk hR HH hh hx HN HNX HNE
        go_wp2_with (go_at_call 57; refine (HD.out _).mono ?_; rintro e w' ⟨rfl, rfl⟩)
        go_ret2
        exact ⟨rfl, (Below.refl _ _).alloc (Nat.le_refl _) _⟩
      | some d =>
        rw [hd] at HD hk
        obtain rfl := hk rfl
        have hb := hexd_bd hd
        have HH' := Lib.hid (HH.out.next HX.out hd)
        simp only [Option.getD_some, Option.isSome_some] at HD
        clear hd hc hk HH hh hx HNX HNE
        go_wp2_with (go_at_call 57; refine (HD.out _).mono ?_; rintro e w' ⟨rfl, rfl⟩)
        go_roundw
        case rel => exact ⟨pos + 1, _, rfl, rfl, HH'.out⟩
        case measure => simp; omega
    · have hnx := HNE.out pos (by omega)
      have hR := HH.out.done (by omega)
      have HN' := HN.out
      rw [hR] at HN'
      simp only at HN'
      have V1 := Lib.hid (fun W => valid_any acc W)
      have V2 := Lib.hid (fun W => control_any acc W)
      obtain ⟨b1, e1⟩ : ∃ b, vld acc = b := ⟨_, rfl⟩
      obtain ⟨b2, e2⟩ : ∃ b, ctl acc = b := ⟨_, rfl⟩
      rw [e1] at V1
      rw [e2] at V2
      rw [e1, e2] at HN'
      clear e1 e2 hR hh HH HN HNX HNE
      cases b1 <;> cases b2
      all_goals
        simp at HN'
        subst HN'
        try simp only [Option.getD_none, Option.isSome_none, Option.getD_some, Option.isSome_some]
        go_wp2_with (first
          | (go_at_call 58; refine (V1.out _).mono ?_; rintro e w' ⟨rfl, rfl⟩)
          | (go_at_call 28; refine (V2.out _).mono ?_; rintro e w' ⟨rfl, rfl⟩))
        go_ret2
        exact ⟨rfl, (Below.refl _ _).alloc (Nat.le_refl _) _⟩

set_option maxHeartbeats 1000000 in
theorem numbered_any (b : List UInt8) (w : World) (hb : b.length ≤ maxLen) :
    Calls Try.prog 55 #[.string ⟨b.toArray⟩] w fun e w' => e = .returned (.tuple #[.int .i32 ((numOf b).getD 0), .bool (numOf b).isSome]) ∧ Below w.heap.size w w' := by
  have hsz : (⟨b.toArray⟩ : ByteArray).size = b.length := by simp [Go.Lib.size_eq]
  by_cases h1 : b.length < 5
  · rw [numOf_short h1]
    have hl : (b.length : Int) < 5 := by omega
    simp only [Option.getD_none, Option.isSome_none]
    go_enter Try.func55, Try.ntmps55
    go_wp2
    go_ret2
    exact ⟨rfl, Below.refl _ _⟩
  · by_cases h2 : 7 < b.length
    · rw [numOf_long h2]
      have hl : ¬ (b.length : Int) < 5 := by omega
      have hl2 : (7 : Int) < (b.length : Int) := by omega
      simp only [Option.getD_none, Option.isSome_none]
      go_enter Try.func55, Try.ntmps55
      go_wp2
      go_ret2
      exact ⟨rfl, Below.refl _ _⟩
    · by_cases h3 : b.head? = some 117
      · exact numbered_hex b w (by omega) (by omega) h3
      · rw [numOf_other h3]
        have hl : ¬ (b.length : Int) < 5 := by omega
        have hl2 : ¬ (7 : Int) < (b.length : Int) := by omega
        obtain ⟨x, hx⟩ : ∃ x, b[0]? = some x := ⟨b[0], List.getElem?_eq_getElem (by omega)⟩
        have k0 : ∀ w, (Instr.index 9 (.string ⟨b.toArray⟩) (.int .i64 0)).run Try.prog w = .ok (.int .u8 (x.toNat : Int)) w := str_idx b 0 x hx
        have hne : ((x.toNat : Int) != 117) = true := by
          rw [bne_iff_ne]
          intro h
          apply h3
          have hx2 : x = 117 := UInt8.toNat_inj.1 (by have : x.toNat = 117 := by omega
                                                      exact this)
          cases b with
          | nil => simp at h1
          | cons y r => simp at hx ⊢; rw [hx, hx2]
        clear h3 hx h1 h2
        simp only [Option.getD_none, Option.isSome_none]
        go_enter Try.func55, Try.ntmps55
        go_wp2
        go_ret2
        exact ⟨rfl, Below.refl _ _⟩
end Go.Proofs.Ytgfmpndojjopnaa
