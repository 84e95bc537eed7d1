/- A rune that is named: by a digit, by its number, by its name; fonts. A rune that is named by its number. Fonts; the map of names, what is found in it; a name's rune. The map of names; what is found in it; Name. Rows of tokens, rows of what is wrong; a reader's own cells, and what each method leaves of them. Whether two rows of tokens, of what is wrong, are the same. The document's own: a token more, something more that is wrong. A face that turns, in the program and in the document's answer; tokens as glyphs, in plain maths. A cell's text, as it is set and told: plain maths. Numbers as 64 bits hold them, and what is wrong so told. Plain maths of layer 10: how rows are set, by the layers below: the laws' contents, of that. Plain maths of layer 11: words as pieces, pieces joined; macros of the second kind, row by row, tell a builder. Plain maths of layer 11: what MdocJoins asks: of pieces, joined. Plain maths of layer 11: words of letters, with signs: what MdocSigns asks. styles.Set. Pieces of a row of runes; where a bracket closes; a reader's name. A reader's name. What a reader tells of a named rune, of a font. What a reader tells of a font; of an escape. -/
import Derived.Test.YtpcbbhfbldchlaaE1
import Derived.Test.YtpcbbhfbldchlaaQ2
import Derived.Laws.RangeString
import Derived.Laws.RangeAny
import Derived.Lib.Hide
import Derived.Maps.OwnSet
import Derived.Maps.Own
import Derived.Maps.Views
import Derived.Maps.AppendAt
import Derived.StringKeys
import Derived.Test.YtpcbbhfbldchlaaGx
import Derived.Deep.QuietTactic
import Derived.BigQuiet
import Derived.Lib.Join
import Derived.Lib.ItoaNum
set_option linter.unusedVariables false
set_option linter.unusedSimpArgs false
namespace Go.Proofs.Ytpcbbhfbldchlaa
open Go.RowKit
theorem ret_ib {k : IntKind} {a b : Int} {x y : Bool} (h : a = b) (h2 : x = y) : Ending.returned (.tuple #[.int k a, .bool x]) = .returned (.tuple #[.int k b, .bool y]) := by rw [h, h2]
theorem hexd_bd {c d : Int} (h : hexd c = some d) : 0 ≤ d ∧ d ≤ 15 := by
  unfold hexd at h
  split at h
  · cases h; omega
  · split at h
    · cases h; omega
    · cases h
set_option maxHeartbeats 400000 in
theorem digit_any (c : Int) (h0 : 0 ≤ c) (h1 : c ≤ 2147483647) (w : World) : Calls Try.prog 42 #[.int .i32 c] w fun e w' => e = .returned (.tuple #[.int .i32 ((hexd c).getD 0), .bool (hexd c).isSome]) ∧ w = w' := by
  obtain ⟨H, hH⟩ : ∃ H, hexd c = H := ⟨_, rfl⟩
  rw [hH]
  by_cases a : 48 ≤ c ∧ c ≤ 57
  · have e : H = some (c - 48) := by rw [← hH]; unfold hexd; rw [if_pos a]
    obtain ⟨a1, a2⟩ := a
    subst e
    clear hH
    simp only [Option.getD_some, Option.isSome_some]
    go_enter Try.func42, Try.ntmps42
    go_wp2
    go_ret2
    exact ⟨rfl, rfl⟩
  · by_cases b : 65 ≤ c ∧ c ≤ 70
    · have e : H = some (c - 55) := by rw [← hH]; unfold hexd; rw [if_neg a, if_pos b]
      obtain ⟨b1, b2⟩ := b
      have a3 : ¬ c ≤ 57 := by omega
      have a1 : 48 ≤ c := by omega
      subst e
      clear hH a
      simp only [Option.getD_some, Option.isSome_some]
      go_enter Try.func42, Try.ntmps42
      go_wp2
      go_ret2
      exact ⟨ret_ib (by omega) rfl, rfl⟩
    · have e : H = none := by rw [← hH]; unfold hexd; rw [if_neg a, if_neg b]
      subst e
      clear hH
      simp only [Option.getD_none, Option.isSome_none]
      by_cases a1 : 48 ≤ c
      · have a2 : ¬ c ≤ 57 := fun h => a ⟨a1, h⟩
        clear a
        by_cases b1 : 65 ≤ c
        · have b2 : ¬ c ≤ 70 := fun h => b ⟨b1, h⟩
          clear b
          go_enter Try.func42, Try.ntmps42
          go_wp2
          go_ret2
          exact ⟨rfl, rfl⟩
        · clear b
          go_enter Try.func42, Try.ntmps42
          go_wp2
          go_ret2
          exact ⟨rfl, rfl⟩
      · have b1 : ¬ 65 ≤ c := by omega
        clear a b
        go_enter Try.func42, Try.ntmps42
        go_wp2
        go_ret2
        exact ⟨rfl, rfl⟩
end Go.Proofs.Ytpcbbhfbldchlaa
namespace Go.Proofs.Ytpcbbhfbldchlaa
open Go.RowKit
theorem numOf_short {b : List UInt8} (h : b.length < 5) : numOf b = none := by unfold numOf; rw [if_pos (.inl h)]
theorem numOf_long {b : List UInt8} (h : 7 < b.length) : numOf b = none := by unfold numOf; rw [if_pos (.inr (.inl h))]
theorem numOf_other {b : List UInt8} (h : b.head? ≠ some 117) : numOf b = none := by unfold numOf; rw [if_pos (.inr (.inr h))]
theorem numOf_hex {b : List UInt8} (h1 : 5 ≤ b.length) (h2 : b.length ≤ 7) (h3 : b.head? = some 117) : numOf b = match hexN b.tail 0 with
    | none => none
    | some n => if vld n = true ∧ ctl n = false then some n else none := by
  have hn : ¬ (b.length < 5 ∨ 7 < b.length ∨ b.head? ≠ some 117) := by
    rintro (h | h | h)
    · omega
    · omega
    · exact h h3
  unfold numOf
  rw [if_neg hn]
  cases hexN b.tail 0 <;> rfl
theorem hexd_high {c : Int} (h : 128 ≤ c) : hexd c = none := by unfold hexd; rw [if_neg (by omega), if_neg (by omega)]
/-- A number's place in its text: what is read so far, and what is read of all. -/
structure HexAt (T : List UInt8) (R : Option Int) (pos : Nat) (acc : Int) : Prop where
  le : pos ≤ T.length
  eq : hexN (T.drop pos) acc = R
  lo : 0 ≤ acc
  hi : acc < 16 ^ pos
theorem HexAt.start (T : List UInt8) : HexAt T (hexN T 0) 0 0 := ⟨by omega, by simp, by omega, by simp⟩
theorem HexAt.done {T : List UInt8} {R : Option Int} {acc : Int} {pos : Nat} (h : HexAt T R pos acc) (hp : T.length ≤ pos) : R = some acc := by
  have h1 := h.eq
  rw [List.drop_eq_nil_of_le hp] at h1
  exact h1.symm
theorem HexAt.next {T : List UInt8} {R : Option Int} {acc : Int} {pos : Nat} (h : HexAt T R pos acc) {x : UInt8} (hx : T[pos]? = some x) {d : Int} (hd : hexd (x.toNat : Int) = some d) : HexAt T R (pos + 1) (acc * 16 + d) := by
  obtain ⟨hp, hx'⟩ := List.getElem?_eq_some_iff.1 hx
  have h1 := h.eq
  have hb := hexd_bd hd
  have lo := h.lo
  have hi := h.hi
  rw [List.drop_eq_getElem_cons hp, hx'] at h1
  unfold hexN at h1
  rw [hd] at h1
  refine ⟨hp, h1, by omega, ?_⟩
  rw [Int.pow_succ]
  omega
theorem HexAt.none {T : List UInt8} {R : Option Int} {acc : Int} {pos : Nat} (h : HexAt T R pos acc) {x : UInt8} (hx : T[pos]? = some x) (hd : hexd (x.toNat : Int) = none) : R = Option.none := by
  obtain ⟨hp, hx'⟩ := List.getElem?_eq_some_iff.1 hx
  have h1 := h.eq
  rw [List.drop_eq_getElem_cons hp, hx'] at h1
  unfold hexN at h1
  rw [hd] at h1
  exact h1.symm
theorem HexAt.room {T : List UInt8} {R : Option Int} {acc : Int} {pos : Nat} (h : HexAt T R pos acc) (hp : pos ≤ 5) : acc < 1048576 := by
  have hi := h.hi
  have : (16 : Int) ^ pos ≤ 16 ^ 5 := by
    have := Nat.pow_le_pow_right (n := 16) (by omega) hp
    exact_mod_cast this
  have e : (16 : Int) ^ 5 = 1048576 := by decide
  omega
/-- One byte of a text; a text's end; a piece of one. -/
theorem str_idx (b : List UInt8) (i : Nat) (x : UInt8) (h : b[i]? = some x) (w : World) : (Instr.index 9 (.string ⟨b.toArray⟩) (.int .i64 (i : Int))).run Try.prog w = .ok (.int .u8 (x.toNat : Int)) w := by
  obtain ⟨hi, hx⟩ := List.getElem?_eq_some_iff.1 h
  have hsz : (⟨b.toArray⟩ : ByteArray).size = b.length := by simp [Go.Lib.size_eq]
  rw [run_index_string w 9 _ .i64 (i : Int) Try.underlying9, dif_pos ⟨by omega, by rw [hsz]; omega⟩]
  have e : (⟨b.toArray⟩ : ByteArray)[((i : Int)).toNat]'(by rw [hsz]; omega) = x := by
    show b.toArray[((i : Int)).toNat]'_ = x
    simp only [Int.toNat_natCast, List.getElem_toArray]
    exact hx
  rw [e]
theorem str_from (b : List UInt8) (i : Nat) (h : i ≤ b.length) (w : World) : (Instr.slice 9 (.string ⟨b.toArray⟩) (some (.int .i64 (i : Int))) none none).run Try.prog w = .ok (.string ⟨(b.drop i).toArray⟩) w := by
  have hsz : (⟨b.toArray⟩ : ByteArray).size = b.length := by simp [Go.Lib.size_eq]
  rw [run_slice_string_from_if w 9 _ .i64 (i : Int) Try.underlying9, if_pos ⟨by omega, by rw [hsz]; omega⟩, hsz, ByteArray.extract_mk]
  simp only [Int.toNat_natCast]
  rw [List.take_of_length_le (by simp)]
/-- The next rune of a text, where a digit's or another ASCII byte stands, or none does. -/
theorem next_of (T : List UInt8) (pos : Nat) (x : UInt8) (hx : T[pos]? = some x) (w : World) :
    ∃ (c : Int) (k : Nat), (∀ ty, (Instr.next (.pointer (some ⟨w.heap.size, 0, none⟩)) true ty).run Try.prog (w.iter ⟨T.toArray⟩ pos) = .ok (.tuple #[.bool true, .int .i64 (pos : Int), .int .i32 c]) (w.iter ⟨T.toArray⟩ (pos + k))) ∧
      0 ≤ c ∧ c ≤ 2147483647 ∧ hexd c = hexd (x.toNat : Int) ∧ ((hexd c).isSome = true → k = 1) := by
  obtain ⟨hp, hx'⟩ := List.getElem?_eq_some_iff.1 hx
  have hsz : (⟨T.toArray⟩ : ByteArray).size = T.length := by simp [Go.Lib.size_eq]
  have hps : pos < (⟨T.toArray⟩ : ByteArray).size := by rw [hsz]; exact hp
  have e : (⟨T.toArray⟩ : ByteArray)[pos]'hps = x := by
    show T.toArray[pos]'_ = x
    simp only [List.getElem_toArray]
    exact hx'
  by_cases ha : x.toNat < 128
  · refine ⟨(x.toNat : Int), 1, fun ty => ?_, by omega, by omega, rfl, fun _ => rfl⟩
    have := run_next_ascii (P := Try.prog) w ⟨T.toArray⟩ pos ty hps (by rw [e]; exact ha)
    rw [e] at this
    exact this
  · have hd := decode_high ⟨T.toArray⟩ pos hps (by rw [e]; omega)
    have hle := decode_le ⟨T.toArray⟩ pos
    refine ⟨((Utf8.decode ⟨T.toArray⟩ pos).1 : Int), (Utf8.decode ⟨T.toArray⟩ pos).2, fun ty => run_next_any w _ pos ty hps, by omega, by omega, ?_, fun h => ?_⟩
    · rw [hexd_high (by omega), hexd_high (by omega)]
    · rw [hexd_high (by omega)] at h
      cases h
set_option maxHeartbeats 1000000 in
/-- The loop of it, and all behind. -/
theorem numbered_hex (b : List UInt8) (w : World) (h1 : 5 ≤ b.length) (h2 : b.length ≤ 7) (h3 : b.head? = some 117) :
    Calls Try.prog 41 #[.string ⟨b.toArray⟩] w fun e w' => e = .returned (.tuple #[.int .i32 ((numOf b).getD 0), .bool (numOf b).isSome]) ∧ Below w.heap.size w w' := by
  have HN := Lib.hid (numOf_hex h1 h2 h3)
  obtain ⟨N, hN⟩ : ∃ N, numOf b = N := ⟨_, rfl⟩
  rw [hN] at HN ⊢
  clear hN
  have hsz : (⟨b.toArray⟩ : ByteArray).size = b.length := by simp [Go.Lib.size_eq]
  have k0 := str_idx b 0 117 (by cases b with | nil => cases h3 | cons x r => simpa using h3)
  have k1 := str_from b 1 (by omega)
  have k0' : ∀ w, (Instr.index 9 (.string ⟨b.toArray⟩) (.int .i64 0)).run Try.prog w = .ok (.int .u8 117) w := k0
  have k1' : ∀ w, (Instr.slice 9 (.string ⟨b.toArray⟩) (some (.int .i64 1)) none none).run Try.prog w = .ok (.string ⟨(b.drop 1).toArray⟩) w := k1
  have hdl : (b.drop 1).length = b.length - 1 := by simp
  have HS := Lib.hid (HexAt.start (b.drop 1))
  rw [show b.tail = b.drop 1 by simp] at HN
  obtain ⟨R, hR⟩ : ∃ R, hexN (b.drop 1) 0 = R := ⟨_, rfl⟩
  rw [hR] at HN HS
  obtain ⟨T, hT⟩ : ∃ T, b.drop 1 = T := ⟨_, rfl⟩
  rw [hT] at HS hdl k1'
  have HNX := Lib.hid (fun pos x hx => next_of T pos x hx w)
  have HNE := Lib.hid (fun pos (h : ¬ pos < (⟨T.toArray⟩ : ByteArray).size) ty => run_next_end (P := Try.prog) w ⟨T.toArray⟩ pos ty h)
  have hTz : (⟨T.toArray⟩ : ByteArray).size = T.length := by simp [Go.Lib.size_eq]
  have hl1 : ¬ (b.length : Int) < 5 := by omega
  have hl2 : ¬ (7 : Int) < (b.length : Int) := by omega
  clear h3 k0 k1 hR hT
  go_enter Try.func41, Try.ntmps41
  go_wp2_with fail
  go_loopw [4] (fun n wr => ∃ (pos : Nat) (acc : Int), wr = w.iter ⟨T.toArray⟩ pos ∧ n = .int .i32 acc ∧ HexAt T R pos acc) (fun _ wr => T.length - wr.iterPos w.heap.size)
  case atStart => exact ⟨0, 0, rfl, rfl, HS.out⟩
  case round =>
    obtain ⟨pos, acc, rfl, rfl, hh⟩ := hrel
    have HH := Lib.hid hh
    have lo := hh.lo
    have ple := hh.le
    by_cases hp : pos < T.length
    · have hroom := hh.room (by omega)
      obtain ⟨x, hx⟩ : ∃ x, T[pos]? = some x := ⟨T[pos], List.getElem?_eq_getElem hp⟩
      obtain ⟨c, k, hnx, c0, c1, hc, hk⟩ := HNX.out pos x hx
      have HX := Lib.hid hx
      have HD := Lib.hid (digit_any c c0 c1)
      rw [hc] at HD hk
      cases hd : hexd (x.toNat : Int) with
      | none =>
        rw [hd] at HD
        have hR := HH.out.none HX.out hd
        have HN' := HN.out
        rw [hR] at HN'
        simp only at HN'
        subst HN'
        simp only [Option.getD_none, Option.isSome_none] at HD ⊢
        clear hd hc hk hR HH hh hx HN HNX HNE
        go_wp2_with (go_at_call 42; refine (HD.out _).mono ?_; rintro e w' ⟨rfl, rfl⟩)
        go_ret2
        exact ⟨rfl, (Below.refl _ _).alloc (Nat.le_refl _) _⟩
      | some d =>
        rw [hd] at HD hk
        obtain rfl := hk rfl
        have hb := hexd_bd hd
        have HH' := Lib.hid (HH.out.next HX.out hd)
        simp only [Option.getD_some, Option.isSome_some] at HD
        clear hd hc hk HH hh hx HNX HNE
        go_wp2_with (go_at_call 42; refine (HD.out _).mono ?_; rintro e w' ⟨rfl, rfl⟩)
        go_roundw
        case rel => exact ⟨pos + 1, _, rfl, rfl, HH'.out⟩
        case measure => simp; omega
    · have hnx := HNE.out pos (by omega)
      have hR := HH.out.done (by omega)
      have HN' := HN.out
      rw [hR] at HN'
      simp only at HN'
      have V1 := Lib.hid (fun W => valid_any acc W)
      have V2 := Lib.hid (fun W => control_any acc W)
      obtain ⟨b1, e1⟩ : ∃ b, vld acc = b := ⟨_, rfl⟩
      obtain ⟨b2, e2⟩ : ∃ b, ctl acc = b := ⟨_, rfl⟩
      rw [e1] at V1
      rw [e2] at V2
      rw [e1, e2] at HN'
      clear e1 e2 hR hh HH HN HNX HNE
      cases b1 <;> cases b2
      all_goals
        simp at HN'
        subst HN'
        try simp only [Option.getD_none, Option.isSome_none, Option.getD_some, Option.isSome_some]
        go_wp2_with (first
          | (go_at_call 43; refine (V1.out _).mono ?_; rintro e w' ⟨rfl, rfl⟩)
          | (go_at_call 30; refine (V2.out _).mono ?_; rintro e w' ⟨rfl, rfl⟩))
        go_ret2
        exact ⟨rfl, (Below.refl _ _).alloc (Nat.le_refl _) _⟩
set_option maxHeartbeats 1000000 in
theorem numbered_any (b : List UInt8) (w : World) (hb : b.length ≤ maxLen) :
    Calls Try.prog 41 #[.string ⟨b.toArray⟩] w fun e w' => e = .returned (.tuple #[.int .i32 ((numOf b).getD 0), .bool (numOf b).isSome]) ∧ Below w.heap.size w w' := by
  have hsz : (⟨b.toArray⟩ : ByteArray).size = b.length := by simp [Go.Lib.size_eq]
  by_cases h1 : b.length < 5
  · rw [numOf_short h1]
    have hl : (b.length : Int) < 5 := by omega
    simp only [Option.getD_none, Option.isSome_none]
    go_enter Try.func41, Try.ntmps41
    go_wp2
    go_ret2
    exact ⟨rfl, Below.refl _ _⟩
  · by_cases h2 : 7 < b.length
    · rw [numOf_long h2]
      have hl : ¬ (b.length : Int) < 5 := by omega
      have hl2 : (7 : Int) < (b.length : Int) := by omega
      simp only [Option.getD_none, Option.isSome_none]
      go_enter Try.func41, Try.ntmps41
      go_wp2
      go_ret2
      exact ⟨rfl, Below.refl _ _⟩
    · by_cases h3 : b.head? = some 117
      · exact numbered_hex b w (by omega) (by omega) h3
      · rw [numOf_other h3]
        have hl : ¬ (b.length : Int) < 5 := by omega
        have hl2 : ¬ (7 : Int) < (b.length : Int) := by omega
        obtain ⟨x, hx⟩ : ∃ x, b[0]? = some x := ⟨b[0], List.getElem?_eq_getElem (by omega)⟩
        have k0 : ∀ w, (Instr.index 9 (.string ⟨b.toArray⟩) (.int .i64 0)).run Try.prog w = .ok (.int .u8 (x.toNat : Int)) w := str_idx b 0 x hx
        have hne : ((x.toNat : Int) != 117) = true := by
          rw [bne_iff_ne]
          intro h
          apply h3
          have hx2 : x = 117 := UInt8.toNat_inj.1 (by have : x.toNat = 117 := by omega
                                                      exact this)
          cases b with
          | nil => simp at h1
          | cons y r => simp at hx ⊢; rw [hx, hx2]
        clear h3 hx h1 h2
        simp only [Option.getD_none, Option.isSome_none]
        go_enter Try.func41, Try.ntmps41
        go_wp2
        go_ret2
        exact ⟨rfl, Below.refl _ _⟩
end Go.Proofs.Ytpcbbhfbldchlaa
namespace Go.Proofs.Ytpcbbhfbldchlaa
open Go.RowKit
theorem beq_no {b c : List UInt8} (h : ¬ b = c) : (b == c) = false := by simpa using h
set_option maxHeartbeats 1000000 in
theorem font_any (b : List UInt8) (w : World) :
    Calls Try.prog 39 #[.string ⟨b.toArray⟩] w fun e w' => e = .returned (.tuple #[.int .i32 ((ftOf b).getD 0), .bool (ftOf b).isSome]) ∧ w = w' := by
  by_cases c : b ∈ [[82], [49], [66], [50], [73], [51], [66, 73], [52], [80]]
  · simp only [List.mem_cons, List.not_mem_nil, or_false] at c
    rcases c with rfl | rfl | rfl | rfl | rfl | rfl | rfl | rfl | rfl
    all_goals
      go_enter Try.func39, Try.ntmps39
      go_wp2
      go_ret2
      exact ⟨rfl, rfl⟩
  · simp only [List.mem_cons, List.not_mem_nil, or_false, not_or] at c
    obtain ⟨c1, c2, c3, c4, c5, c6, c7, c8, c9⟩ := c
    have e : ftOf b = none := by
      unfold ftOf
      rw [if_neg (by rintro (h | h); exact c1 h; exact c2 h), if_neg (by rintro (h | h); exact c3 h; exact c4 h), if_neg (by rintro (h | h); exact c5 h; exact c6 h), if_neg (by rintro (h | h); exact c7 h; exact c8 h), if_neg c9]
    rw [e]
    have d1 := beq_no c1
    have d2 := beq_no c2
    have d3 := beq_no c3
    have d4 := beq_no c4
    have d5 := beq_no c5
    have d6 := beq_no c6
    have d7 := beq_no c7
    have d8 := beq_no c8
    have d9 := beq_no c9
    clear c1 c2 c3 c4 c5 c6 c7 c8 c9 e
    simp only [Option.getD_none, Option.isSome_none]
    go_enter Try.func39, Try.ntmps39
    go_wp2
    go_ret2
    exact ⟨rfl, rfl⟩
/-- 'map[K]V{..}': one entry more. -/
theorem wpList_insert_own {H : Type} {P : Program} (w : World) {ops : Array Oper} {rest : List Oper} {o : Oper} {a : Act} {Q : Exit → Act → World → Prop}
    (hg : o.guard = none) (m x v : Operand) (t : TypeId) (hop : o.op = Op.insert t m x v)
    (k e : TypeId) (K : Maps.Keyed P k) (ht : P.underlying t = some (.map k e)) (R : Value → Option (DataW H × List MemPlace)) (b n : Nat) (D : DataW H)
    (hm : a.eval m = .map (some b)) (hown : w.ownsMap P k R b n D) (hn : n < maxLen) (key val : Value) (kl : Lit) (hx : a.eval x = key) (hv : a.eval v = val) (hkey : keyOf P k key = some kl)
    (d : DataW H) (ps : List MemPlace) (hval : R val = some (d, ps))
    (hK : ∀ w', w'.ownsMap P k R b (n + 1) (D.put kl d) → w.grownBy w' (some b) → wpList P ops Q rest (a.put o.dst undef) w') :
    wpList P ops Q (o :: rest) a w := by
  refine wpList_plain hg fun K' hK' => ?_
  obtain ⟨w', hrun, r1, r2⟩ := hown.update K ht hn hkey hval
  unfold Oper.wp
  simp [execOp, hop, hm, hx, hv, hrun, Result.andThen]
  exact hK' _ _ (hK w' r1 r2)
/-- The datum of a map of these entries. -/
def nmDat (l : List (List UInt8 × Int)) (D : DataW Unit) : DataW Unit := l.foldl (fun D p => D.put (.string p.1) (.lit (.int .i32 p.2))) D
def keysApart : List (List UInt8 × Int) → Bool
  | [] => true
  | p :: l => (nmLook l p.1).isNone && keysApart l
theorem keysApart_tab : keysApart nmTab = true := by decide +kernel
theorem nmDat_has : ∀ (l : List (List UInt8 × Int)) (D : DataW Unit) (b : List UInt8), Maps.IsMap D → Maps.has (nmDat l D) (.string b) = (Maps.has D (.string b) || (nmLook l b).isSome)
  | [], D, b, _ => by simp [nmDat, nmLook]
  | p :: l, D, b, h => by
    have ih := nmDat_has l (D.put (.string p.1) (.lit (.int .i32 p.2))) b (h.put _ _)
    have e : nmDat (p :: l) D = nmDat l (D.put (.string p.1) (.lit (.int .i32 p.2))) := rfl
    rw [e, ih]
    by_cases hp : p.1 = b
    · subst hp
      rw [Maps.has_put_same h (by trivial)]
      simp [nmLook]
    · rw [Maps.has_put_other (fun h => hp (by injection h with h; exact h.symm))]
      simp [nmLook, hp]
theorem nmDat_at : ∀ (l : List (List UInt8 × Int)) (D : DataW Unit) (b : List UInt8) (z : DataW Unit), Maps.IsMap D → keysApart l = true → (nmDat l D).atKey (.string b) z = match nmLook l b with
    | some r => .lit (.int .i32 r)
    | none => D.atKey (.string b) z
  | [], D, b, z, _, _ => by simp [nmDat, nmLook]
  | p :: l, D, b, z, h, hk => by
    unfold keysApart at hk
    simp only [Bool.and_eq_true] at hk
    have ih := nmDat_at l (D.put (.string p.1) (.lit (.int .i32 p.2))) b z (h.put _ _) hk.2
    have e : nmDat (p :: l) D = nmDat l (D.put (.string p.1) (.lit (.int .i32 p.2))) := rfl
    rw [e, ih]
    by_cases hp : p.1 = b
    · subst hp
      have h0 : nmLook l p.1 = none := by simpa using hk.1
      rw [h0, Maps.atKey_put_same h (by trivial)]
      simp [nmLook]
    · rw [Maps.atKey_put_other (fun h => hp (by injection h with h; exact h.symm))]
      simp [nmLook, hp]
theorem zero32 (w : World) : (zeroValue 21).run Try.prog w = .ok (.int .i32 0) w := by kernel_rfl
/-- The map of names, in a block. -/
def Nms (W : World) (M : Nat) : Prop := W.ownsMap (H := Unit) Try.prog 9 (plainElem Try.prog 21) M 30 (nmDat nmTab (.map []))
theorem Nms.keep {W W' : World} {M : Nat} (h : Nms W M) (hb : Below W.heap.size W W') : Nms W' M := by
  have hlt := h.lt
  obtain ⟨es, clock, hh, r⟩ := h
  exact ⟨es, clock, (hb.block M hlt).trans hh, r⟩
end Go.Proofs.Ytpcbbhfbldchlaa
namespace Go.Proofs.Ytpcbbhfbldchlaa
open Go.RowKit
def NmsEnd (w : World) (e : Ending) (w' : World) : Prop := ∃ M, e = .returned (.map (some M)) ∧ w.heap.size ≤ M ∧ Nms w' M ∧ Below w.heap.size w w'
structure NmsAt (w W : World) (n : Nat) (D : DataW Unit) : Prop where
  own : W.ownsMap (H := Unit) Try.prog 9 (plainElem Try.prog 21) w.heap.size n D
  bel : Below w.heap.size w W
theorem NmsAt.next {w W W' : World} {n : Nat} {D D' : DataW Unit} (h : NmsAt w W n D) (ho : W'.ownsMap (H := Unit) Try.prog 9 (plainElem Try.prog 21) w.heap.size (n + 1) D') (hg : W.grownBy W' (some w.heap.size)) : NmsAt w W' (n + 1) D' :=
  ⟨ho, h.bel.grown hg h.bel.size (fun j e => by cases e; exact Nat.le_refl _)⟩
theorem nms_key (b : List UInt8) (hb : b.length ≤ 10) : keyOf Try.prog 9 (.string ⟨b.toArray⟩) = some (.string b) := by
  have := WideMaps.keyOf_string_mk (P := Try.prog) (k := 9) Try.underlying9 (s := ⟨b.toArray⟩) (by simp [Go.Lib.size_eq, maxLen]; omega)
  simpa using this
theorem wp_nm {w W : World} {n : Nat} {D : DataW Unit} {ops : Array Oper} {rest : List Oper} {o : Oper} {a : Act} {Q : Exit → Act → World → Prop} (h : NmsAt w W n D) (hg : o.guard = none) {b : List UInt8} {r : Int}
    (hop : o.op = Op.insert 67 (.tmp 1) (.const (.string ⟨b.toArray⟩)) (.const (.int .i32 r))) (hb : b.length ≤ 10) (hr : (Lit.int .i32 r).wf = true) (hn : n ≤ 1000) (hm : a.eval (.tmp 1) = .map (some w.heap.size))
    (hK : ∀ W', NmsAt w W' (n + 1) (D.put (.string b) (.lit (.int .i32 r))) → wpList Try.prog ops Q rest (a.put o.dst undef) W') : wpList Try.prog ops Q (o :: rest) a W :=
  wpList_insert_own W hg _ _ _ 67 hop 9 21 (Maps.string_keyed Try.underlying9) Try.underlying67 _ w.heap.size n D hm h.own (by unfold maxLen; omega) _ _ _ rfl rfl (nms_key b hb) _ [] (plainElem_int Try.underlying21 hr)
    (fun W' ho hg => hK W' (h.next ho hg))
set_option maxRecDepth 100000 in
set_option maxHeartbeats 4000000 in
theorem names_any (w : World) : Calls Try.prog 37 #[] w (NmsEnd w) := by
  have H0 : NmsAt w (w.alloc (.map #[] 0)) 0 (.map []) := ⟨World.ownsMap_made _ _ _ _, (Below.refl _ _).alloc (Nat.le_refl _) _⟩
  have hmm := @run_makeMap Try.prog
  go_enter Try.func37, Try.ntmps37
  go_wp2_with (refine wp_nm (by assumption) rfl rfl (by decide) (by decide) (by omega) rfl ?_; intro w1 h1)
  go_ret
  exact ⟨_, rfl, Nat.le_refl _, h1.own, h1.bel⟩
set_option maxRecDepth 100000 in
/-- What is found in it. -/
theorem look_nm {W : World} {M : Nat} (h : Nms W M) (b : List UInt8) (hb : b.length ≤ maxLen) :
    (Instr.lookup 67 (.map (some M)) (.string ⟨b.toArray⟩) true).run Try.prog W = .ok (.tuple #[.int .i32 ((nmLook nmTab b).getD 0), .bool (nmLook nmTab b).isSome]) W := by
  have hkey := WideMaps.keyOf_string_mk (P := Try.prog) (k := 9) Try.underlying9 (s := ⟨b.toArray⟩) (by simpa [Go.Lib.size_eq] using hb)
  obtain ⟨v, ps, hrun, hv⟩ := World.ownsMap.look_ok h (Maps.string_keyed Try.underlying9) Try.underlying67 (zero32 W) (plainElem_int Try.underlying21 (by decide)) hkey
  obtain ⟨c, rfl, hc, -⟩ := plainElem_int_inv Try.underlying21 hv
  have hc1 := congrArg Prod.fst hc
  rw [hrun]
  simp only at hc1
  rw [nmDat_at _ _ _ _ Maps.isMap_empty keysApart_tab] at hc1
  rw [nmDat_has _ _ _ Maps.isMap_empty]
  have h0 : Maps.has (.map [] : DataW Unit) (.string (⟨b.toArray⟩ : ByteArray).data.toList) = false := rfl
  rw [h0, Bool.false_or]
  simp only at hc1 ⊢
  cases hl : nmLook nmTab b with
  | none =>
    rw [hl] at hc1
    have : c = 0 := by
      have h1 : (DataW.lit (.int .i32 0) : DataW Unit) = .lit (.int .i32 c) := hc1
      injection h1 with h1
      injection h1 with _ h1
      exact h1.symm
    subst this
    rfl
  | some r =>
    rw [hl] at hc1
    have : c = r := by
      have h1 : (DataW.lit (.int .i32 r) : DataW Unit) = .lit (.int .i32 c) := hc1
      injection h1 with h1
      injection h1 with _ h1
      exact h1.symm
    subst this
    rfl
set_option maxHeartbeats 1000000 in
theorem find_any (b : List UInt8) (M : Nat) (w : World) (hm : Nms w M) (hb : b.length ≤ maxLen) :
    Calls Try.prog 38 #[.map (some M), .string ⟨b.toArray⟩] w fun e w' => e = .returned (.tuple #[.int .i32 ((nmOf b).getD 0), .bool (nmOf b).isSome]) ∧ Below w.heap.size w w' := by
  have hl := look_nm hm b hb
  have HN := Lib.hid (numbered_any b w hb)
  unfold nmOf
  cases he : nmLook nmTab b with
  | some r =>
    rw [he] at hl
    simp only [Option.getD_some, Option.isSome_some] at hl ⊢
    clear he HN hm
    go_enter Try.func38, Try.ntmps38
    go_wp2_with fail
    go_ret2
    exact ⟨rfl, Below.refl _ _⟩
  | none =>
    rw [he] at hl
    simp only [Option.getD_none, Option.isSome_none] at hl ⊢
    obtain ⟨N, hN⟩ : ∃ N, numOf b = N := ⟨_, rfl⟩
    rw [hN] at HN ⊢
    clear he hm hN
    go_enter Try.func38, Try.ntmps38
    go_wp2_with fail
    refine HN.out.mono ?_
    rintro e w1 ⟨rfl, b1⟩
    go_wp2_with fail
    go_ret2
    exact ⟨rfl, b1⟩
end Go.Proofs.Ytpcbbhfbldchlaa
namespace Go.Proofs.Ytpcbbhfbldchlaa
open Go.RowKit
def tcell (t : Tok) : List Value := [.int .i64 t.1, .int .i32 t.2]
theorem tcell_len (t : Tok) : (tcell t).length = 2 := rfl
theorem tcell_one (t : Tok) : ∀ u ∈ tcell t, u.oneCell' = true := by
  intro u hu
  simp [tcell] at hu
  rcases hu with rfl | rfl <;> rfl
def edcell (d : Dg) : List Value := [.int .i64 d.1, .int .i64 d.2.1, .int .i64 d.2.2]
theorem edcell_len (d : Dg) : (edcell d).length = 3 := rfl
theorem dcell_one (d : Dg) : ∀ u ∈ edcell d, u.oneCell' = true := by
  intro u hu
  simp [edcell] at hu
  rcases hu with rfl | rfl | rfl <;> rfl
abbrev Ts (w : World) (v : Value) (l : List Tok) : Prop := Fs 2 tcell w v l
abbrev TOwn (base : Nat) (W : World) (x : Value) (l : List Tok) : Prop := FOwn 72 2 tcell base W x l
abbrev Ds (w : World) (v : Value) (l : List Dg) : Prop := Fs 3 edcell w v l
abbrev DOwn (base : Nat) (W : World) (x : Value) (l : List Dg) : Prop := FOwn 78 3 edcell base W x l
theorem infoT : (Try.prog.info? 72).map (fun i => (i.zero, i.size, i.bytes)) = some (some (.agg #[.int .i64 0, .int .i32 0]), 2, 16) := by kernel_rfl
theorem infoDg : (Try.prog.info? 78).map (fun i => (i.zero, i.size, i.bytes)) = some (some (.agg #[.int .i64 0, .int .i64 0, .int .i64 0]), 3, 24) := by kernel_rfl
noncomputable def appT (args : Array Value) : Sem Next := do pure (.value (← Builtin.append_ #[60, 60] 60 args))
theorem builtin_appT (cs : Array Bool) (args : Array Value) : builtin .append #[60, 60] 60 cs args = appT args := rfl
noncomputable def appDg (args : Array Value) : Sem Next := do pure (.value (← Builtin.append_ #[34, 34] 34 args))
theorem builtin_appDg (cs : Array Bool) (args : Array Value) : builtin .append #[34, 34] 34 cs args = appDg args := rfl
theorem appT_own {base : Nat} {W : World} {x u : Value} {l m : List Tok} (h : TOwn base W x l) (hu : Ts W u m) (hb : base ≤ W.heap.size) (hd : l.length + m.length ≤ 1000000) :
    ∃ x' w', (appT #[x, u]).run Try.prog W = .ok (.value x') w' ∧ TOwn base w' x' (l ++ m) ∧ W.grownBy w' x.ownBlock ∧ (x'.ownBlock = x.ownBlock ∨ x'.ownBlock = some W.heap.size) := by
  obtain ⟨i0, hi, hz0, hz1, hz2⟩ := info_parts infoT
  obtain ⟨x', w', hr, r⟩ := fapp tcell_len tcell_one (by decide) Try.underlying60 hi hz0 hz1 hz2 rfl (by decide) h hu hb hd
  refine ⟨x', w', ?_, r⟩
  unfold appT
  simp only [Sem.run_bind, Sem.run_pure, Result.andThen_ok, hr]
theorem appDg_own {base : Nat} {W : World} {x u : Value} {l m : List Dg} (h : DOwn base W x l) (hu : Ds W u m) (hb : base ≤ W.heap.size) (hd : l.length + m.length ≤ 1000000) :
    ∃ x' w', (appDg #[x, u]).run Try.prog W = .ok (.value x') w' ∧ DOwn base w' x' (l ++ m) ∧ W.grownBy w' x.ownBlock ∧ (x'.ownBlock = x.ownBlock ∨ x'.ownBlock = some W.heap.size) := by
  obtain ⟨i0, hi, hz0, hz1, hz2⟩ := info_parts infoDg
  obtain ⟨x', w', hr, r⟩ := fapp edcell_len dcell_one (by decide) Try.underlying34 hi hz0 hz1 hz2 rfl (by decide) h hu hb hd
  refine ⟨x', w', ?_, r⟩
  unfold appDg
  simp only [Sem.run_bind, Sem.run_pure, Result.andThen_ok, hr]
/-- A reader in block B: its text, where it reads on, what it has told so far. -/
structure RdV (w0 : World) (B : Nat) (tv : Value) (L : List Int) (W : World) (nx : Int) (T : List Tok) (D : List Dg) (vt vd vm : Value) : Prop where
  hB : w0.heap.size = B
  sl : Sl .i32 w0 tv L
  bel : Below B w0 W
  blk : Blk W B 69 [tv, .int .i64 nx, vt, vd, vm]
  tk : TOwn (B + 1) W vt T
  dg : DOwn (B + 1) W vd D
  mp : vm = .map none ∨ ∃ M, vm = .map (some M) ∧ B < M ∧ Nms W M
def Rd (w0 : World) (B : Nat) (tv : Value) (L : List Int) (W : World) (nx : Int) (T : List Tok) (D : List Dg) : Prop := ∃ vt vd vm, RdV w0 B tv L W nx T D vt vd vm
section
variable {w0 : World} {B : Nat} {tv : Value} {L : List Int} {W : World} {nx : Int} {T : List Tok} {D : List Dg} {vt vd vm : Value}
theorem RdV.lt (h : RdV w0 B tv L W nx T D vt vd vm) : B < W.heap.size := (Array.getElem?_eq_some_iff.1 h.blk).1
theorem RdV.text (h : RdV w0 B tv L W nx T D vt vd vm) : Sl .i32 W tv L := h.sl.below (by rw [h.hB]; exact h.bel)
theorem RdV.keep {W' : World} (h : RdV w0 B tv L W nx T D vt vd vm) (hb : Below W.heap.size W W') : RdV w0 B tv L W' nx T D vt vd vm := by
  refine ⟨h.hB, h.sl, h.bel.trans (hb.mono (Nat.le_of_lt h.lt)), h.blk.below hb, h.tk.keep hb, h.dg.keep hb, ?_⟩
  rcases h.mp with h0 | ⟨M, h1, h2, h3⟩
  · exact .inl h0
  · exact .inr ⟨M, h1, h2, h3.keep hb⟩
theorem nms_set {W : World} {M : Nat} (h : Nms W M) {a : Addr} (ha : a.block ≠ M) (u : Value) : Nms (W.setCell a u) M := World.ownsMap.setCell h (fun e => ha e.symm) u
theorem nms_row {W : World} {M : Nat} (h : Nms W M) {α : Type} {e n : Nat} {f : α → List Value} {base : Nat} {x : Value} {l : List α} (ho : FOwn e n f base W x l) : some M ≠ x.ownBlock := by
  intro hx
  obtain ⟨es, clock, hb, -⟩ := h
  obtain ⟨-, cur, hc⟩ := ho.ty hx.symm
  rw [hb] at hc
  cases hc
/-- One cell of the reader is written. -/
theorem RdV.set (h : RdV w0 B tv L W nx T D vt vd vm) (j : Nat) (u : Value) {nx' : Int} {vt' vd' vm' : Value} (hl : [tv, .int .i64 nx, vt, vd, vm].set j u = [tv, .int .i64 nx', vt', vd', vm']) {T' : List Tok} {D' : List Dg} (ht : TOwn (B + 1) W vt' T') (hd : DOwn (B + 1) W vd' D') (hm : vm' = .map none ∨ ∃ M, vm' = .map (some M) ∧ B < M ∧ Nms W M) :
    RdV w0 B tv L (W.setCell ⟨B, j, none⟩ u) nx' T' D' vt' vd' vm' := by
  refine ⟨h.hB, h.sl, h.bel.setCell (Nat.le_refl _) _, hl ▸ h.blk.set j u, ownsRow_setCell_below ht (by simp) u, ownsRow_setCell_below hd (by simp) u, ?_⟩
  rcases hm with h0 | ⟨M, h1, h2, h3⟩
  · exact .inl h0
  · exact .inr ⟨M, h1, h2, nms_set h3 (by simp only; omega) u⟩
theorem RdV.next (h : RdV w0 B tv L W nx T D vt vd vm) (nx' : Int) : RdV w0 B tv L (W.setCell ⟨B, 1, none⟩ (.int .i64 nx')) nx' T D vt vd vm :=
  h.set 1 (.int .i64 nx') rfl h.tk h.dg h.mp
theorem RdV.names (h : RdV w0 B tv L W nx T D vt vd vm) {M : Nat} (hM : B < M) (hm : Nms W M) : RdV w0 B tv L (W.setCell ⟨B, 4, none⟩ (.map (some M))) nx T D vt vd (.map (some M)) :=
  h.set 4 (.map (some M)) rfl h.tk h.dg (.inr ⟨M, rfl, hM, hm⟩)
/-- A token more. -/
theorem RdV.say (h : RdV w0 B tv L W nx T D vt vd vm) (k r : Int) (hT : T.length ≤ 500000) :
    ∃ vt' w2, (appT #[vt, .slice (some ⟨W.heap.size, 0, none⟩) 1 1]).run Try.prog (W.alloc (.cells #[.int .i64 k, .int .i32 r] 72)) = .ok (.value vt') w2 ∧ w2.cell? ⟨B, 2, none⟩ = some vt ∧ w2.frozen? ⟨B, 2, none⟩ = false ∧
      RdV w0 B tv L (w2.setCell ⟨B, 2, none⟩ vt') nx (T ++ [(k, r)]) D vt' vd vm := by
  have hlt := h.lt
  have b1 := below_lit W (.cells #[.int .i64 k, .int .i32 r] 72)
  have h1 := h.keep b1
  have hlt1 := h1.lt
  obtain ⟨vt', w2, hrun, ho, hg, -⟩ := appT_own h1.tk (fs_lit tcell_len W 72 [(k, r)]) (by omega) (by simp; omega)
  have hne : vt.ownBlock ≠ some B := fun e => by have := (h1.tk.ty e).1; omega
  have blk2 : Blk w2 B 69 [tv, .int .i64 nx, vt, vd, vm] := (hg.block B hlt1 (fun e => hne e.symm)).trans h1.blk
  have hd2 : DOwn (B + 1) w2 vd D := FOwn.apart h1.dg hg (ty_apart h1.dg h1.tk (by decide))
  have hbel : Below B w0 w2 := h1.bel.grown hg (by omega) (fun j e => by have := (h1.tk.ty e).1; omega)
  refine ⟨vt', w2, hrun, blk2.cell 2, blk2.frozen (by simp), ?_⟩
  have hm2 : vm = .map none ∨ ∃ M, vm = .map (some M) ∧ B < M ∧ Nms w2 M := by
    rcases h1.mp with h0 | ⟨M, e1, e2, e3⟩
    · exact .inl h0
    · exact .inr ⟨M, e1, e2, World.ownsMap.kept e3 hg (nms_row e3 h1.tk)⟩
  refine ⟨h.hB, h.sl, hbel.setCell (Nat.le_refl _) _, blk2.set 2 vt', ownsRow_setCell_below ho (by simp) _, ownsRow_setCell_below hd2 (by simp) _, ?_⟩
  rcases hm2 with h0 | ⟨M, e1, e2, e3⟩
  · exact .inl h0
  · exact .inr ⟨M, e1, e2, nms_set e3 (by simp only; omega) _⟩
/-- Something more that is wrong. -/
theorem RdV.tell (h : RdV w0 B tv L W nx T D vt vd vm) (k r : Int) (hD : D.length ≤ 500000) :
    ∃ vd' w2, (appDg #[vd, .slice (some ⟨W.heap.size, 0, none⟩) 1 1]).run Try.prog (W.alloc (.cells #[.int .i64 k, .int .i64 0, .int .i64 r] 78)) = .ok (.value vd') w2 ∧ w2.cell? ⟨B, 3, none⟩ = some vd ∧ w2.frozen? ⟨B, 3, none⟩ = false ∧
      RdV w0 B tv L (w2.setCell ⟨B, 3, none⟩ vd') nx T (D ++ [(k, 0, r)]) vt vd' vm := by
  have hlt := h.lt
  have b1 := below_lit W (.cells #[.int .i64 k, .int .i64 0, .int .i64 r] 78)
  have h1 := h.keep b1
  have hlt1 := h1.lt
  obtain ⟨vd', w2, hrun, ho, hg, -⟩ := appDg_own h1.dg (fs_lit edcell_len W 78 [(k, 0, r)]) (by omega) (by simp; omega)
  have hne : vd.ownBlock ≠ some B := fun e => by have := (h1.dg.ty e).1; omega
  have blk2 : Blk w2 B 69 [tv, .int .i64 nx, vt, vd, vm] := (hg.block B hlt1 (fun e => hne e.symm)).trans h1.blk
  have ht2 : TOwn (B + 1) w2 vt T := FOwn.apart h1.tk hg (ty_apart h1.tk h1.dg (by decide))
  have hbel : Below B w0 w2 := h1.bel.grown hg (by omega) (fun j e => by have := (h1.dg.ty e).1; omega)
  refine ⟨vd', w2, hrun, blk2.cell 3, blk2.frozen (by simp), ?_⟩
  have hm2 : vm = .map none ∨ ∃ M, vm = .map (some M) ∧ B < M ∧ Nms w2 M := by
    rcases h1.mp with h0 | ⟨M, e1, e2, e3⟩
    · exact .inl h0
    · exact .inr ⟨M, e1, e2, World.ownsMap.kept e3 hg (nms_row e3 h1.dg)⟩
  refine ⟨h.hB, h.sl, hbel.setCell (Nat.le_refl _) _, blk2.set 3 vd', ownsRow_setCell_below ht2 (by simp) _, ownsRow_setCell_below ho (by simp) _, ?_⟩
  rcases hm2 with h0 | ⟨M, e1, e2, e3⟩
  · exact .inl h0
  · exact .inr ⟨M, e1, e2, nms_set e3 (by simp only; omega) _⟩
end
def RdEnd (w0 : World) (B : Nat) (tv : Value) (L : List Int) (nx : Int) (T : List Tok) (D : List Dg) (v : Value) (e : Ending) (w' : World) : Prop := e = .returned v ∧ Rd w0 B tv L w' nx T D
attribute [local go_sem ↓ high] builtin_appT builtin_appDg
set_option maxRecDepth 100000 in
set_option maxHeartbeats 1000000 in
theorem char_any {w0 : World} {B : Nat} {tv : Value} {L : List Int} {nx : Int} {T : List Tok} {D : List Dg} (c : Int) (w : World) (h : Rd w0 B tv L w nx T D) (hT : T.length ≤ 500000) :
    Calls Try.prog 32 #[.pointer (some ⟨B, 0, none⟩), .int .i32 c] w (RdEnd w0 B tv L nx (T ++ [(1, c)]) D (.tuple #[])) := by
  obtain ⟨vt, vd, vm, hv⟩ := h
  have c2 := hv.blk.cell 2
  have c2' : w.cell? ⟨B, 2, none⟩ = some vt := c2
  obtain ⟨vt', w2, k2, q2, f2, r2⟩ := hv.say 1 c hT
  obtain ⟨a1, n1, rfl⟩ := (FOwn.sl tcell_len hv.tk).len
  obtain ⟨a2, n2, rfl⟩ := (FOwn.sl tcell_len r2.tk).len
  obtain ⟨m, hm⟩ : ∃ m, (T ++ [(1, c)]).length = m := ⟨_, rfl⟩
  rw [hm] at k2 r2
  clear hm
  have R2 := Lib.hid r2
  clear c2 hv r2
  go_enter Try.func32, Try.ntmps32
  go_wp2_with fail
  go_end0
  exact ⟨rfl, _, _, _, R2.out⟩
set_option maxRecDepth 100000 in
set_option maxHeartbeats 1000000 in
theorem wrong_any {w0 : World} {B : Nat} {tv : Value} {L : List Int} {nx : Int} {T : List Tok} {D : List Dg} (k : Int) (p : Nat) (w : World) (h : Rd w0 B tv L w nx T D) (hD : D.length ≤ 500000) (hp : p ≤ 500000) :
    Calls Try.prog 31 #[.pointer (some ⟨B, 0, none⟩), .int .i64 k, .int .i64 (p : Int)] w (RdEnd w0 B tv L nx T (D ++ dgs p [k]) (.tuple #[])) := by
  obtain ⟨vt, vd, vm, hv⟩ := h
  have c2 := hv.blk.cell 3
  have c2' : w.cell? ⟨B, 3, none⟩ = some vd := c2
  obtain ⟨vt', w2, k2, q2, f2, r2⟩ := hv.tell k ((p : Int) + 1) hD
  obtain ⟨a1, n1, rfl⟩ := (FOwn.sl edcell_len hv.dg).len
  obtain ⟨a2, n2, rfl⟩ := (FOwn.sl edcell_len r2.dg).len
  obtain ⟨m, hm⟩ : ∃ m, (D ++ [(k, 0, (p : Int) + 1)]).length = m := ⟨_, rfl⟩
  rw [hm] at k2 r2
  clear hm
  have R2 := Lib.hid r2
  clear c2 hv r2
  go_enter Try.func31, Try.ntmps31
  go_wp2_with fail
  go_end0
  exact ⟨rfl, _, _, _, R2.out⟩
end Go.Proofs.Ytpcbbhfbldchlaa
namespace Go.Proofs.Ytpcbbhfbldchlaa
open Go.RowKit
theorem Fs.t {w : World} {a : Option Addr} {k cap : Nat} {l : List Tok} (h : Ts w (.slice a k cap) l) {j : Nat} {g : Tok} (hj : l[j]? = some g) :
    ∃ b off, a = some ⟨b, off, none⟩ ∧ w.cell? ⟨b, off + j * 2, none⟩ = some (.int .i64 g.1) ∧ w.cell? ⟨b, off + j * 2 + 1, none⟩ = some (.int .i32 g.2) := by
  obtain ⟨a', cap', hv, _, hr⟩ := h
  injection hv with h1 h2 h3
  subst h1
  obtain ⟨b, off, rfl, h0⟩ := hr j g hj
  exact ⟨b, off, rfl, h0 0 _ rfl, h0 1 _ rfl⟩
end Go.Proofs.Ytpcbbhfbldchlaa
namespace Go.Proofs.Ytpcbbhfbldchlaa
open Go.RowKit
attribute [local go_sem ↓ high] builtin_appT builtin_appDg
theorem ebelow_two (w : World) (a b : Obj) : Below w.heap.size w ((w.alloc a).alloc b) := ((Below.refl _ w).alloc (Nat.le_refl _) _).alloc (by simp) _
theorem blk_first (w : World) (L : List Value) (e : TypeId) (b : Obj) : Blk ((w.alloc (.cells L.toArray e)).alloc b) w.heap.size e L :=
  Blk.below (W := w.alloc (.cells L.toArray e)) (heap_alloc_new w _) (below_lit _ _)
theorem eblk_second (w : World) (a : Obj) (L : List Value) (e : TypeId) : Blk ((w.alloc a).alloc (.cells L.toArray e)) (w.heap.size + 1) e L := by
  have := heap_alloc_new (w.alloc a) (.cells L.toArray e)
  have e1 : (w.alloc a).heap.size = w.heap.size + 1 := by simp
  rw [e1] at this
  exact this
end Go.Proofs.Ytpcbbhfbldchlaa
namespace Go.Proofs.Ytpcbbhfbldchlaa
open Go.RowKit
/-- A face: how glyphs are set now, and how they were before. -/
abbrev Fce := Int × Int
def fv (f : Fce) : Value := .agg #[.int .u8 f.1, .int .u8 f.2]
def fturn (f : Fce) (n : Int) : Fce := if n = 4 then (f.2, f.1) else if 0 ≤ n ∧ n ≤ 3 then (n, f.1) else f
def gstep (s : List Gly × Fce) (t : Tok) : List Gly × Fce :=
  if t.1 = 1 then (s.1 ++ [(t.2, s.2.1)], s.2) else if t.1 = 2 then (s.1 ++ [(32, 0)], s.2) else if t.1 = 3 then (s.1, fturn s.2 t.2) else s
def gset (f : Fce) (l : List Tok) : List Gly × Fce := l.foldl gstep ([], f)
theorem gset_take {f : Fce} {l : List Tok} {j : Nat} {t : Tok} (h : l[j]? = some t) : gset f (l.take (j + 1)) = gstep (gset f (l.take j)) t := by
  unfold gset
  rw [List.take_add_one, h, List.foldl_append]
  rfl
theorem gstep_len (s : List Gly × Fce) (t : Tok) : (gstep s t).1.length ≤ s.1.length + 1 := by
  unfold gstep
  split
  · simp
  · split
    · simp
    · split <;> simp
theorem gfold_len : ∀ (l : List Tok) (s : List Gly × Fce), (l.foldl gstep s).1.length ≤ s.1.length + l.length
  | [], s => by simp
  | t :: l, s => by
    have := gfold_len l (gstep s t)
    have := gstep_len s t
    simp only [List.foldl_cons, List.length_cons]
    omega
theorem gset_len (f : Fce) (l : List Tok) : (gset f l).1.length ≤ l.length := by
  have := gfold_len l ([], f)
  simpa [gset] using this
theorem fturn_back (a b : Int) : fturn (a, b) 4 = (b, a) := by simp [fturn]
theorem fturn_to (a b : Int) (n : Int) (h0 : 0 ≤ n) (h1 : n ≤ 3) : fturn (a, b) n = (n, a) := by unfold fturn; rw [if_neg (by omega), if_pos ⟨h0, h1⟩]
theorem fturn_none (f : Fce) (n : Int) (h : n < 0 ∨ 4 < n) : fturn f n = f := by unfold fturn; rw [if_neg (by omega), if_neg (by omega)]
theorem turn_ways (n : Int) : n = 0 ∨ n = 1 ∨ n = 2 ∨ n = 3 ∨ n = 4 ∨ n < 0 ∨ 4 < n := by omega
set_option maxRecDepth 100000 in
set_option maxHeartbeats 1000000 in
theorem turn_any (a b n : Int) (w : World) :
    Calls Try.prog 33 #[.agg #[.int .u8 a, .int .u8 b], .int .i32 n] w fun e w' => e = .returned (.agg #[.int .u8 (fturn (a, b) n).1, .int .u8 (fturn (a, b) n).2]) ∧ Below w.heap.size w w' := by
  obtain ⟨p, q, hpq⟩ : ∃ p q, fturn (a, b) n = (p, q) := ⟨_, _, rfl⟩
  rw [hpq]
  rcases turn_ways n with rfl | rfl | rfl | rfl | rfl | h | h
  · rw [fturn_to a b 0 (by omega) (by omega)] at hpq
    obtain ⟨rfl, rfl⟩ := Prod.mk.inj hpq
    clear hpq
    go_enter Try.func33, Try.ntmps33
    go_wp2_with fail
    exact bodyPost_ret (v := .agg #[_, _]) (by simp [results, Try.results33, go_sem]) rfl ⟨rfl, ebelow_two w _ _⟩
  · rw [fturn_to a b 1 (by omega) (by omega)] at hpq
    obtain ⟨rfl, rfl⟩ := Prod.mk.inj hpq
    clear hpq
    go_enter Try.func33, Try.ntmps33
    go_wp2_with fail
    exact bodyPost_ret (v := .agg #[_, _]) (by simp [results, Try.results33, go_sem]) rfl ⟨rfl, ebelow_two w _ _⟩
  · rw [fturn_to a b 2 (by omega) (by omega)] at hpq
    obtain ⟨rfl, rfl⟩ := Prod.mk.inj hpq
    clear hpq
    go_enter Try.func33, Try.ntmps33
    go_wp2_with fail
    exact bodyPost_ret (v := .agg #[_, _]) (by simp [results, Try.results33, go_sem]) rfl ⟨rfl, ebelow_two w _ _⟩
  · rw [fturn_to a b 3 (by omega) (by omega)] at hpq
    obtain ⟨rfl, rfl⟩ := Prod.mk.inj hpq
    clear hpq
    go_enter Try.func33, Try.ntmps33
    go_wp2_with fail
    exact bodyPost_ret (v := .agg #[_, _]) (by simp [results, Try.results33, go_sem]) rfl ⟨rfl, ebelow_two w _ _⟩
  · rw [fturn_back a b] at hpq
    obtain ⟨rfl, rfl⟩ := Prod.mk.inj hpq
    clear hpq
    go_enter Try.func33, Try.ntmps33
    go_wp2_with fail
    exact bodyPost_ret (v := .agg #[_, _]) (by simp [results, Try.results33, go_sem]) rfl ⟨rfl, ebelow_two w _ _⟩
  · rw [fturn_none (a, b) n (.inl h)] at hpq
    obtain ⟨rfl, rfl⟩ := Prod.mk.inj hpq
    have x0 : ¬ n = 0 := by omega
    have x1 : ¬ n = 1 := by omega
    have x2 : ¬ n = 2 := by omega
    have x3 : ¬ n = 3 := by omega
    have x4 : ¬ n = 4 := by omega
    have x5 : ¬ 4 < n := by omega
    clear hpq
    go_enter Try.func33, Try.ntmps33
    go_wp2_with fail
    exact bodyPost_ret (v := .agg #[_, _]) (by simp [results, Try.results33, go_sem]) rfl ⟨rfl, ebelow_two w _ _⟩
  · rw [fturn_none (a, b) n (.inr h)] at hpq
    obtain ⟨rfl, rfl⟩ := Prod.mk.inj hpq
    have x0 : ¬ n = 0 := by omega
    have x1 : ¬ n = 1 := by omega
    have x2 : ¬ n = 2 := by omega
    have x3 : ¬ n = 3 := by omega
    have x4 : ¬ n = 4 := by omega
    have x5 : ¬ n < 0 := by omega
    clear hpq
    go_enter Try.func33, Try.ntmps33
    go_wp2_with fail
    exact bodyPost_ret (v := .agg #[_, _]) (by simp [results, Try.results33, go_sem]) rfl ⟨rfl, ebelow_two w _ _⟩
end Go.Proofs.Ytpcbbhfbldchlaa
namespace Go.Proofs.Ytpcbbhfbldchlaa
open Go.RowKit
def lgF : Lgf := fun b => ((gset (0, 0) (scanL 0 (dec b)).1).1, (scanL 0 (dec b)).2.map (fun d => (d.1, d.2.2)))
def tokB (x : UInt8) : Tok := if x = 32 then (2, 0) else (1, (x.toNat : Int))
theorem bareB_low {x : UInt8} (h : bareB x = true) : x.toNat < 127 ∧ 32 ≤ x.toNat ∧ x.toNat ≠ 92 := by
  unfold bareB at h
  simp only [Bool.or_eq_true, beq_iff_eq, Bool.and_eq_true, decide_eq_true_eq] at h
  rcases h with (rfl | rfl) | h
  · decide
  · decide
  · omega
theorem scan_bare : ∀ (s : Txt) (p : Nat), (∀ x ∈ s, bareB x = true) → scanL p (s.map (fun x => (x.toNat : Int))) = (s.map tokB, [])
  | [], p, _ => rfl
  | x :: r, p, h => by
    obtain ⟨h1, h2, h3⟩ := bareB_low (h x (by simp))
    have ih := scan_bare r (p + 1) (fun y hy => h y (by simp [hy]))
    rw [List.map_cons, scanL_step p _ (by simp)]
    have hs : stepL ((x.toNat : Int) :: r.map (fun x => (x.toNat : Int))) = ([tokB x], [], 1) := by
      unfold stepL tokB
      simp only
      rw [if_neg (by omega)]
      by_cases hx : x = 32
      · subst hx
        rfl
      · have hx' : x.toNat ≠ 32 := fun e => hx (UInt8.toNat_inj.1 e)
        rw [if_neg (by omega), if_neg (by unfold ctl; simp; omega), if_neg hx]
    rw [hs]
    simp only [List.drop_succ_cons, List.drop_zero]
    rw [ih]
    rfl
theorem dec_bare : ∀ (s : Txt), (∀ x ∈ s, bareB x = true) → dec s = s.map (fun x => (x.toNat : Int))
  | [], _ => rfl
  | x :: r, h => by
    rw [dec_ascii x r (by have := bareB_low (h x (by simp)); omega), dec_bare r (fun y hy => h y (by simp [hy])), List.map_cons]
end Go.Proofs.Ytpcbbhfbldchlaa
namespace Go.Proofs.Ytpcbbhfbldchlaa
open Go.RowKit
/-- A number as 64 bits hold it; something wrong so told. -/
def w6 (n : Int) : Int := IntKind.i64.wrap n
end Go.Proofs.Ytpcbbhfbldchlaa
namespace Go.Proofs.Ytpcbbhfbldchlaa
open Go.RowKit
/-- A text, set from a font on. -/
def lgS (f : Int) : Lgf := fun b => ((gset (f, f) (scanL 0 (dec b)).1).1, (scanL 0 (dec b)).2.map (fun d => (d.1, d.2.2)))
theorem lgS_zero : lgS 0 = lgF := rfl
end Go.Proofs.Ytpcbbhfbldchlaa
namespace Go.Proofs.Ytpcbbhfbldchlaa
open Go.RowKit
/-- A piece: glyphs, whether it sticks left, right. -/
structure Pc where
  g : List Gly
  l : Bool
  r : Bool
/-- What stands between a piece and what is ahead. -/
def jgap (st : Bool) (p : Pc) : List Gly := if st = false ∧ p.l = false then [(32, 0)] else []
def joinF (q : List Gly × Bool) (p : Pc) : List Gly × Bool := if p.g = [] then q else (q.1 ++ jgap q.2 p ++ p.g, p.r)
/-- Pieces, joined. -/
def joinP (l : List Pc) : List Gly := (l.foldl joinF ([], true)).1
def leftW (s : Txt) : Bool := s == [46] || s == [44] || s == [58] || s == [59] || s == [41] || s == [93] || s == [63] || s == [33]
def rightW (s : Txt) : Bool := s == [40] || s == [91]
def signW (s : Txt) : Bool := leftW s || rightW s
def cAr : Txt := [65, 114]
def cCm : Txt := [67, 109]
def cEm : Txt := [69, 109]
def cFl : Txt := [70, 108]
def cLi : Txt := [76, 105]
def cNm : Txt := [78, 109]
def cNo : Txt := [78, 111]
def cOp : Txt := [79, 112]
def cSy : Txt := [83, 121]
def cXr : Txt := [88, 114]
def callW (s : Txt) : Bool := s == cAr || s == cCm || s == cEm || s == cFl || s == cLi || s == cNm || s == cNo || s == cOp || s == cSy || s == cXr
/-- A text's glyphs, as they are. -/
def ofG (f : Int) (s : Txt) : List Gly := (dec s).map fun r => (r, f)
/-- Words that are read: the name, how many brackets stand open, pieces, what is wrong. -/
structure Ph where
  name : Txt
  op : Nat
  p : List Pc
  d : List (Int × Int)
def signP (w : Txt) : Pc := ⟨ofG 0 w, leftW w, rightW w⟩
def Ph.sign (s : Ph) (w : Txt) : Ph := if signW w then { s with p := s.p ++ [signP w] } else s
/-- How a word is set, the n-th of its element. -/
def wset (k : Txt) (n : Nat) : Int := if k = cFl ∨ k = cCm ∨ k = cNm ∨ k = cSy ∨ k = cXr ∧ n = 0 then 1 else if k = cAr ∨ k = cEm then 2 else 0
def wahead (k : Txt) (n : Nat) : Txt := if k = cFl then [45] else if k = cXr ∧ n = 1 then [40] else []
def wbehind (k : Txt) (n : Nat) : Txt := if k = cXr ∧ n = 1 then [41] else []
def wordG (k : Txt) (n : Nat) (w : Txt) : List Gly := ofG (wset k n) (wahead k n) ++ (lgS (wset k n) w).1 ++ ofG (wset k n) (wbehind k n)
def wordP (k : Txt) (n : Nat) (w : Txt) (s : Ph) : Ph :=
  ⟨if k = cNm ∧ s.name = [] then w else s.name, s.op, s.p ++ [⟨wordG k n w, decide (k = cXr ∧ n = 1), false⟩], s.d ++ (lgS (wset k n) w).2⟩
def wFile : Txt := [102, 105, 108, 101]
def wDots : Txt := [46, 46, 46]
/-- What an element without words says. -/
def bareP (k : Txt) (s : Ph) : Ph :=
  if k = cAr then wordP k 0 wDots (wordP k 0 wFile s) else if k = cFl then wordP k 0 [] s else if k = cNm then wordP k 0 s.name s else s
def stepW (k : Txt) (q : Ph × Nat) (w : Txt) : Ph × Nat := if signW w then (q.1.sign w, q.2) else (wordP k q.2 w q.1, q.2 + 1)
def opP (k : Txt) (s : Ph) : Ph := if k = cOp then ({ s with op := s.op + 1 } : Ph).sign [91] else s
def spoken (ws : List Txt) : Bool := ws.any fun w => !signW w
def barP (k : Txt) (ws : List Txt) (s : Ph) : Ph := if spoken ws then s else bareP k s
def wordsP (k : Txt) (ws : List Txt) (s : Ph) : Ph × Nat := ws.foldl (stepW k) (s, 0)
/-- An element. -/
def elemP (k : Txt) (ws : List Txt) (s : Ph) : Ph := (wordsP k ws (barP k ws (opP k s))).1
/-- Words that are gone through: what they told, the element's kind, and its words so far. -/
structure Pq where
  s : Ph
  k : Txt
  ws : List Txt
def stepP (q : Pq) (w : Txt) : Pq := if callW w then ⟨elemP q.k q.ws q.s, w, []⟩ else ⟨q.s, q.k, q.ws ++ [w]⟩
def ph0 (name : Txt) : Ph := ⟨name, 0, [], []⟩
def pq0 (name : Txt) : Pq := ⟨ph0 name, cNo, []⟩
def runP (name : Txt) (l : List Txt) : Pq := l.foldl stepP (pq0 name)
def lastP (name : Txt) (l : List Txt) : Ph := let q := runP name l; elemP q.k q.ws q.s
/-- Behind all words: brackets are closed. -/
def shutP : Nat → Ph → Ph
  | 0, s => s
  | n + 1, s => shutP n (s.sign [93])
/-- Pieces. -/
def phr (name : Txt) (l : List Txt) : Ph := shutP (lastP name l).op (lastP name l)
end Go.Proofs.Ytpcbbhfbldchlaa
namespace Go.Proofs.Ytpcbbhfbldchlaa
open Go.RowKit
structure JInv (j all : List Gly) (n : Nat) (st : Bool) : Prop where
  ik : ink j = all
  len : j.length = all.length + n
  hd : ∀ g, j.head? = some g → g.1 ≠ 32
  la : ∀ g, j.getLast? = some g → g.1 ≠ 32
  bl : ∀ g ∈ j, g.1 = 32 → g.2 = 0
  emp : j = [] → st = true
def gapN (st : Bool) (p : Pc) : Nat := if st = false ∧ p.l = false then 1 else 0
theorem ink_all {l : List Gly} (h : ∀ g ∈ l, g.1 ≠ 32) : ink l = l := by
  unfold ink
  rw [List.filter_eq_self]
  intro g hg
  simpa using h g hg
theorem JInv.step {j all : List Gly} {n : Nat} {st : Bool} (h : JInv j all n st) (p : Pc) (hp : ∀ g ∈ p.g, g.1 ≠ 32) (he : p.g ≠ []) : JInv (j ++ jgap st p ++ p.g) (all ++ p.g) (n + gapN st p) p.r := by
  have hg : ink (jgap st p) = [] := by unfold jgap; split <;> rfl
  have hgl : (jgap st p).length = gapN st p := by unfold jgap gapN; split <;> rfl
  refine ⟨?_, ?_, fun g q => ?_, fun g q => ?_, fun g q e => ?_, fun q => ?_⟩
  · rw [ink_two, ink_two, hg, h.ik, ink_all hp]; simp
  · have := h.len; simp only [List.length_append, hgl]; omega
  · by_cases hj : j = []
    · have hs := h.emp hj
      subst hj
      have : jgap st p = [] := by unfold jgap; rw [if_neg (by rw [hs]; simp)]
      rw [this] at q
      exact hp g (List.mem_of_mem_head? (by simpa using q))
    · cases hj2 : j with
      | nil => exact absurd hj2 hj
      | cons a r =>
        rw [hj2] at q
        refine h.hd g ?_
        rw [hj2]
        simpa using q
  · obtain ⟨r, z, hz⟩ : ∃ r z, p.g = r ++ [z] := by
      rcases List.eq_nil_or_concat p.g with e | ⟨r, z, e⟩
      · exact absurd e he
      · exact ⟨r, z, by simpa using e⟩
    rw [hz, ← List.append_assoc] at q
    simp at q
    exact hp g (by rw [hz, ← q]; simp)
  · rcases List.mem_append.1 q with q | q
    · rcases List.mem_append.1 q with q | q
      · exact h.bl g q e
      · unfold jgap at q
        split at q
        · rw [List.mem_singleton.1 q]
        · cases q
    · exact absurd e (hp g q)
  · exact absurd (List.append_eq_nil_iff.1 q).2 he
/-- What the law counts. -/
structure Jl where
  all : List Gly
  n : Nat
  last : Pc
  first : Bool
def jl0 : Jl := ⟨[], 0, ⟨[], false, false⟩, true⟩
def jlF (q : Jl) (p : Pc) : Jl := if p.g = [] then q else ⟨q.all ++ p.g, if q.first = false ∧ q.last.r = false ∧ p.l = false then q.n + 1 else q.n, p, false⟩
def JRel (a : List Gly × Bool) (q : Jl) : Prop := JInv a.1 q.all q.n a.2 ∧ a.2 = (q.first || q.last.r)
theorem JRel.step {a : List Gly × Bool} {q : Jl} (h : JRel a q) (p : Pc) (hp : ∀ g ∈ p.g, g.1 ≠ 32) : JRel (joinF a p) (jlF q p) := by
  unfold joinF jlF
  by_cases he : p.g = []
  · rw [if_pos he, if_pos he]; exact h
  · rw [if_neg he, if_neg he]
    refine ⟨?_, ?_⟩
    · have := h.1.step p hp he
      have e : (if q.first = false ∧ q.last.r = false ∧ p.l = false then q.n + 1 else q.n) = q.n + gapN a.2 p := by
        unfold gapN
        rw [h.2]
        cases q.first <;> cases q.last.r <;> cases p.l <;> simp
      rw [← e] at this
      exact this
    · simp
theorem JRel.fold : ∀ (l : List Pc) (a : List Gly × Bool) (q : Jl), JRel a q → (∀ p ∈ l, ∀ g ∈ p.g, g.1 ≠ 32) → JRel (l.foldl joinF a) (l.foldl jlF q)
  | [], a, q, h, _ => h
  | p :: l, a, q, h, hp => JRel.fold l _ _ (h.step p (hp p List.mem_cons_self)) (fun x hx => hp x (List.mem_cons_of_mem _ hx))
theorem jrel0 : JRel ([], true) jl0 := ⟨⟨rfl, rfl, fun g q => by (cases q), fun g q => by (cases q), fun g q => by (cases q), fun _ => rfl⟩, rfl⟩
theorem joins_law (l : List Pc) (hp : ∀ p ∈ l, ∀ g ∈ p.g, g.1 ≠ 32) : JInv (joinP l) (l.foldl jlF jl0).all (l.foldl jlF jl0).n (l.foldl joinF ([], true)).2 := (JRel.fold l _ _ jrel0 hp).1
/-- How long what is joined is. -/
def pcL : List Pc → Nat
  | [] => 0
  | p :: l => 1 + p.g.length + pcL l
theorem joinF_len : ∀ (l : List Pc) (a : List Gly × Bool), (l.foldl joinF a).1.length ≤ a.1.length + pcL l
  | [], a => by simp [pcL]
  | p :: l, a => by
    have h := joinF_len l (joinF a p)
    have h2 : (joinF a p).1.length ≤ a.1.length + 1 + p.g.length := by
      unfold joinF
      split
      · omega
      · have : (jgap a.2 p).length ≤ 1 := by unfold jgap; split <;> simp
        simp only [List.length_append]
        omega
    simp only [List.foldl_cons, pcL]
    omega
theorem joinP_len (l : List Pc) : (joinP l).length ≤ pcL l := by
  have := joinF_len l ([], true)
  unfold joinP
  simpa using this
theorem jlF_len : ∀ (l : List Pc) (q : Jl), (l.foldl jlF q).all.length ≤ q.all.length + pcL l ∧ (l.foldl jlF q).n ≤ q.n + pcL l
  | [], q => by simp [pcL]
  | p :: l, q => by
    have h := jlF_len l (jlF q p)
    have h2 : (jlF q p).all.length ≤ q.all.length + p.g.length ∧ (jlF q p).n ≤ q.n + 1 := by
      unfold jlF
      split
      · omega
      · refine ⟨by simp, ?_⟩
        simp only
        split <;> omega
    simp only [List.foldl_cons, pcL]
    omega
theorem take_pcL : ∀ (l : List Pc) (j : Nat), pcL (l.take j) ≤ pcL l
  | [], j => by simp [pcL]
  | p :: l, 0 => by simp [pcL]
  | p :: l, j + 1 => by
    have := take_pcL l j
    simp only [List.take_succ_cons, pcL]
    omega
theorem foldl_take {α β : Type} (f : β → α → β) (z : β) {l : List α} {j : Nat} {x : α} (h : l[j]? = some x) : (l.take (j + 1)).foldl f z = f ((l.take j).foldl f z) x := by
  rw [List.take_add_one, h, List.foldl_append]
  rfl
end Go.Proofs.Ytpcbbhfbldchlaa
namespace Go.Proofs.Ytpcbbhfbldchlaa
open Go.RowKit
def lowB (x : UInt8) : Bool := decide (97 ≤ x.toNat) && decide (x.toNat ≤ 122)
/-- Letters, set. -/
def lettG (f : Int) (s : Txt) : List Gly := s.map fun x => ((x.toNat : Int), f)
theorem low_bare {x : UInt8} (h : lowB x = true) : bareB x = true := by
  unfold lowB at h
  unfold bareB
  rw [h]
  simp
theorem gset_low (f : Int) : ∀ (s : Txt) (acc : List Gly), (∀ x ∈ s, lowB x = true) → (s.map tokB).foldl gstep (acc, (f, f)) = (acc ++ lettG f s, (f, f))
  | [], acc, _ => by simp [lettG]
  | x :: r, acc, h => by
    have ih := gset_low f r (acc ++ [((x.toNat : Int), f)]) (fun y hy => h y (by simp [hy]))
    have hx : x ≠ 32 := fun e => by have := h x (by simp); rw [e] at this; revert this; decide
    have hs : gstep (acc, (f, f)) (tokB x) = (acc ++ [((x.toNat : Int), f)], (f, f)) := by
      unfold tokB gstep
      rw [if_neg hx]
      simp
    rw [List.map_cons, List.foldl_cons, hs, ih]
    simp [lettG]
theorem lgS_low (f : Int) (s : Txt) (h : ∀ x ∈ s, lowB x = true) : lgS f s = (lettG f s, []) := by
  have hb : ∀ x ∈ s, bareB x = true := fun x hx => low_bare (h x hx)
  have hg : (gset (f, f) (s.map tokB)).1 = lettG f s := by
    unfold gset
    rw [gset_low f s [] h]
    simp
  unfold lgS
  rw [dec_bare s hb, scan_bare s 0 hb]
  simp only [List.map_nil]
  rw [hg]
theorem low_first {w : Txt} (h : ∀ x ∈ w, lowB x = true) {c : UInt8} {r : Txt} (hc : lowB c = false) : w ≠ c :: r := fun e => by
  have := h c (by rw [e]; simp)
  rw [this] at hc
  cases hc
theorem low_call {w : Txt} (h : ∀ x ∈ w, lowB x = true) : callW w = false := by
  unfold callW
  simp only [Bool.or_eq_false_iff, beq_eq_false_iff_ne]
  refine ⟨⟨⟨⟨⟨⟨⟨⟨⟨?_, ?_⟩, ?_⟩, ?_⟩, ?_⟩, ?_⟩, ?_⟩, ?_⟩, ?_⟩, ?_⟩ <;> exact low_first h (by decide)
theorem low_sign {w : Txt} (h : ∀ x ∈ w, lowB x = true) : signW w = false := by
  unfold signW leftW rightW
  simp only [Bool.or_eq_false_iff, beq_eq_false_iff_ne]
  refine ⟨⟨⟨⟨⟨⟨⟨⟨?_, ?_⟩, ?_⟩, ?_⟩, ?_⟩, ?_⟩, ?_⟩, ?_⟩, ?_, ?_⟩ <;> exact low_first h (by decide)
theorem dec_one {c : UInt8} (h : c.toNat < 128) : dec [c] = [(c.toNat : Int)] := by rw [dec_ascii c [] h]; rfl
theorem ofG_one (f : Int) {c : UInt8} (h : c.toNat < 128) : ofG f [c] = [((c.toNat : Int), f)] := by unfold ofG; rw [dec_one h]; rfl
theorem ofG_nil (f : Int) : ofG f [] = [] := rfl
theorem wset_no (n : Nat) : wset cNo n = 0 := by unfold wset; rw [if_neg (by rintro (h | h | h | h | ⟨h, -⟩) <;> exact absurd h (by decide)), if_neg (by decide)]
theorem wordG_no (n : Nat) (w : Txt) : wordG cNo n w = (lgF w).1 := by
  unfold wordG
  have e1 : wahead cNo n = [] := by unfold wahead; rw [if_neg (by decide), if_neg (by intro h; exact absurd h.1 (by decide))]
  have e2 : wbehind cNo n = [] := by unfold wbehind; rw [if_neg (by intro h; exact absurd h.1 (by decide))]
  rw [wset_no, e1, e2, ofG_nil, lgS_zero]
  simp
/-- A word's piece, of No. -/
def pcNo (w : Txt) : Pc := if signW w then signP w else ⟨(lgF w).1, false, false⟩
theorem stepW_no (s : Ph) (n : Nat) {w : Txt} (h : signW w = true ∨ ∀ x ∈ w, lowB x = true) : ∃ n', stepW cNo (s, n) w = ({ s with p := s.p ++ [pcNo w] }, n') := by
  unfold stepW pcNo
  by_cases hs : signW w = true
  · rw [if_pos hs, if_pos hs]
    unfold Ph.sign
    rw [if_pos hs]
    exact ⟨n, rfl⟩
  · rw [if_neg hs, if_neg hs]
    have hl := h.resolve_left hs
    refine ⟨n + 1, ?_⟩
    unfold wordP
    rw [wordG_no, wset_no, lgS_low 0 w hl, if_neg (by intro q; exact absurd q.1 (by decide)), decide_eq_false (by intro q; exact absurd q.1 (by decide))]
    simp
theorem wordsP_no : ∀ (ws : List Txt) (s : Ph) (n : Nat), (∀ w ∈ ws, signW w = true ∨ ∀ x ∈ w, lowB x = true) → (ws.foldl (stepW cNo) (s, n)).1 = { s with p := s.p ++ ws.map pcNo }
  | [], s, n, _ => by simp
  | w :: ws, s, n, h => by
    obtain ⟨n', e⟩ := stepW_no s n (h w (by simp))
    rw [List.foldl_cons, e, wordsP_no ws _ n' (fun x hx => h x (by simp [hx]))]
    simp
theorem elem_no (ws : List Txt) (s : Ph) (h : ∀ w ∈ ws, signW w = true ∨ ∀ x ∈ w, lowB x = true) : elemP cNo ws s = { s with p := s.p ++ ws.map pcNo } := by
  have e1 : opP cNo s = s := by unfold opP; rw [if_neg (by decide)]
  have e2 : barP cNo ws s = s := by
    unfold barP
    split
    · rfl
    · unfold bareP
      rw [if_neg (by decide), if_neg (by decide), if_neg (by decide)]
  unfold elemP wordsP
  rw [e1, e2]
  exact wordsP_no ws s 0 h
theorem runP_no : ∀ (ws : List Txt) (q : Pq), (∀ w ∈ ws, callW w = false) → ws.foldl stepP q = ⟨q.s, q.k, q.ws ++ ws⟩
  | [], q, _ => by simp
  | w :: ws, q, h => by
    have e : stepP q w = ⟨q.s, q.k, q.ws ++ [w]⟩ := by unfold stepP; rw [if_neg (by rw [h w (by simp)]; simp)]
    rw [List.foldl_cons, e, runP_no ws _ (fun x hx => h x (by simp [hx]))]
    simp
/-- Words of No: letters, and signs. -/
theorem phr_no (name : Txt) (ws : List Txt) (h : ∀ w ∈ ws, (signW w = true ∧ callW w = false) ∨ ∀ x ∈ w, lowB x = true) : phr name (cNo :: ws) = ⟨name, 0, ws.map pcNo, []⟩ := by
  have hw : ∀ w ∈ ws, signW w = true ∨ ∀ x ∈ w, lowB x = true := fun w hw => (h w hw).imp (fun q => q.1) id
  have hc : ∀ w ∈ ws, callW w = false := fun w hw => (h w hw).elim (fun q => q.2) (fun q => low_call q)
  have e0 : stepP (pq0 name) cNo = ⟨ph0 name, cNo, []⟩ := by
    unfold stepP
    rw [if_pos (by decide)]
    show (⟨elemP cNo [] (ph0 name), cNo, []⟩ : Pq) = _
    rw [elem_no [] _ (fun w q => by cases q)]
    rfl
  have e1 : runP name (cNo :: ws) = ⟨ph0 name, cNo, ws⟩ := by
    unfold runP
    rw [List.foldl_cons, e0, runP_no ws _ hc]
    rfl
  have e2 : lastP name (cNo :: ws) = ⟨name, 0, ws.map pcNo, []⟩ := by
    unfold lastP
    rw [e1]
    simp only
    rw [elem_no ws _ hw]
    rfl
  unfold phr
  rw [e2]
  rfl
/-! The law's words, and what it wants. -/
def sgW (i : Nat) (w : Txt) : List Txt := if i % 3 = 0 then [w] else if i % 3 = 1 then [w, [44]] else [[40], w]
def sgT (i : Nat) (w : Txt) : Txt := if i % 3 = 0 then w else if i % 3 = 1 then w ++ [44] else 40 :: w
structure Sg where
  i : Nat
  ws : List Txt
  want : Txt
  stuck : Bool
def sg0 : Sg := ⟨0, [], [], true⟩
def sgF (q : Sg) (w : Txt) : Sg := ⟨q.i + 1, q.ws ++ sgW q.i w, q.want ++ (if q.stuck then [] else [32]) ++ sgT q.i w, false⟩
def SgR (q : Sg) : Prop := (q.ws.map pcNo).foldl joinF ([], true) = (lettG 0 q.want, q.stuck) ∧ (∀ w ∈ q.ws, (signW w = true ∧ callW w = false) ∨ ∀ x ∈ w, lowB x = true) ∧ (∀ x ∈ q.want, x.toNat < 128)
theorem pcNo_low {w : Txt} (h : ∀ x ∈ w, lowB x = true) : pcNo w = ⟨lettG 0 w, false, false⟩ := by
  unfold pcNo
  rw [if_neg (by rw [low_sign h]; simp), ← lgS_zero, lgS_low 0 w h]
theorem lett_app (f : Int) (a b : Txt) : lettG f (a ++ b) = lettG f a ++ lettG f b := by simp [lettG]
theorem lett_ne {f : Int} {w : Txt} (h : w ≠ []) : lettG f w ≠ [] := by
  cases w with
  | nil => exact absurd rfl h
  | cons a r => simp [lettG]
theorem pcNo_comma : pcNo [44] = ⟨[(44, 0)], true, false⟩ := by
  unfold pcNo signP
  rw [if_pos (by decide), ofG_one 0 (by decide)]
  rfl
theorem pcNo_open : pcNo [40] = ⟨[(40, 0)], false, true⟩ := by
  unfold pcNo signP
  rw [if_pos (by decide), ofG_one 0 (by decide)]
  rfl
theorem low_lt {w : Txt} (h : ∀ x ∈ w, lowB x = true) : ∀ x ∈ w, x.toNat < 128 := fun x hx => by
  have := h x hx
  unfold lowB at this
  simp only [Bool.and_eq_true, decide_eq_true_eq] at this
  omega
theorem SgR.step {q : Sg} (h : SgR q) {w : Txt} (hw : ∀ x ∈ w, lowB x = true) (hne : w ≠ []) : SgR (sgF q w) := by
  obtain ⟨h1, h2, h3⟩ := h
  have hln : lettG 0 w ≠ [] := lett_ne hne
  have hwl := low_lt hw
  have hpc := pcNo_low hw
  have hgap : ∀ (p : Pc), p.l = false → jgap q.stuck p = lettG 0 (if q.stuck then [] else [32]) := fun p hp => by
    unfold jgap
    cases q.stuck <;> simp [hp, lettG]
  have hst : ∀ (p : Pc), p.g ≠ [] → p.l = false → joinF (lettG 0 q.want, q.stuck) p = (lettG 0 q.want ++ lettG 0 (if q.stuck then [] else [32]) ++ p.g, p.r) := fun p hp hl => by
    unfold joinF
    rw [if_neg hp, hgap p hl]
  have h32 : ∀ x ∈ (if q.stuck then ([] : Txt) else [32]), x.toNat < 128 := fun x hx => by
    split at hx
    · cases hx
    · rw [List.mem_singleton.1 hx]; decide
  unfold SgR sgF sgW sgT
  simp only
  by_cases c0 : q.i % 3 = 0
  · rw [if_pos c0, if_pos c0]
    refine ⟨?_, fun x hx => ?_, fun x hx => ?_⟩
    · rw [List.map_append, List.foldl_append, h1, List.map_cons, List.map_nil, List.foldl_cons, List.foldl_nil, hpc, hst _ hln rfl, lett_app, lett_app]
    · rcases List.mem_append.1 hx with z | z
      · exact h2 x z
      · rw [List.mem_singleton.1 z]; exact .inr hw
    · rcases List.mem_append.1 hx with z | z
      · exact (List.mem_append.1 z).elim (h3 x) (h32 x)
      · exact hwl x z
  · rw [if_neg c0, if_neg c0]
    by_cases c1 : q.i % 3 = 1
    · rw [if_pos c1, if_pos c1]
      refine ⟨?_, fun x hx => ?_, fun x hx => ?_⟩
      · rw [List.map_append, List.foldl_append, h1, List.map_cons, List.map_cons, List.map_nil, List.foldl_cons, List.foldl_cons, List.foldl_nil, hpc, hst _ hln rfl, pcNo_comma, lett_app, lett_app, lett_app]
        unfold joinF
        rw [if_neg (by simp)]
        simp [jgap, lettG]
      · rcases List.mem_append.1 hx with z | z
        · exact h2 x z
        · rcases List.mem_cons.1 z with z | z
          · rw [z]; exact .inr hw
          · rw [List.mem_singleton.1 z]; exact .inl (by decide)
      · rcases List.mem_append.1 hx with z | z
        · exact (List.mem_append.1 z).elim (h3 x) (h32 x)
        · rcases List.mem_append.1 z with z | z
          · exact hwl x z
          · rw [List.mem_singleton.1 z]; decide
    · rw [if_neg c1, if_neg c1]
      refine ⟨?_, fun x hx => ?_, fun x hx => ?_⟩
      · rw [List.map_append, List.foldl_append, h1, List.map_cons, List.map_cons, List.map_nil, List.foldl_cons, List.foldl_cons, List.foldl_nil, pcNo_open, hst _ (by simp) rfl, hpc, lett_app, lett_app]
        unfold joinF
        rw [if_neg hln]
        simp [jgap, lettG]
      · rcases List.mem_append.1 hx with z | z
        · exact h2 x z
        · rcases List.mem_cons.1 z with z | z
          · rw [z]; exact .inl (by decide)
          · rw [List.mem_singleton.1 z]; exact .inr hw
      · rcases List.mem_append.1 hx with z | z
        · exact (List.mem_append.1 z).elim (h3 x) (h32 x)
        · rcases List.mem_cons.1 z with z | z
          · rw [z]; decide
          · exact hwl x z
theorem SgR.fold : ∀ (l : List Txt) (q : Sg), SgR q → (∀ w ∈ l, w ≠ [] ∧ ∀ x ∈ w, lowB x = true) → SgR (l.foldl sgF q)
  | [], q, h, _ => h
  | w :: l, q, h, hl => SgR.fold l _ (h.step (hl w (by simp)).2 (hl w (by simp)).1) (fun x hx => hl x (by simp [hx]))
theorem sgR0 : SgR sg0 := ⟨rfl, fun w q => (by cases q), fun w q => (by cases q)⟩
theorem signs_law (name : Txt) (l : List Txt) (hl : ∀ w ∈ l, w ≠ [] ∧ ∀ x ∈ w, lowB x = true) : (phr name (cNo :: (l.foldl sgF sg0).ws)).d = [] ∧ joinP (phr name (cNo :: (l.foldl sgF sg0).ws)).p = lettG 0 (l.foldl sgF sg0).want ∧ ∀ x ∈ (l.foldl sgF sg0).want, x.toNat < 128 := by
  obtain ⟨h1, h2, h3⟩ := SgR.fold l sg0 sgR0 hl
  rw [phr_no name _ h2]
  refine ⟨rfl, ?_, h3⟩
  unfold joinP
  rw [h1]
/-- The text of letters. -/
theorem enc_lett (f : Int) : ∀ (s : Txt), (∀ x ∈ s, x.toNat < 128) → enc ((lettG f s).map (·.1)) = s
  | [], _ => rfl
  | x :: s, h => by
    have ih := enc_lett f s (fun y hy => h y (by simp [hy]))
    have hx := h x (by simp)
    show enc ((x.toNat : Int) :: (lettG f s).map (·.1)) = _
    rw [enc_cons, ih]
    have e : Lib.encodeRune (x.toNat : Int) = [x] := by
      unfold Lib.encodeRune
      rw [Lib.encodeRuneZ_one (by omega) (by omega)]
      simp [Nat.toUInt8]
    rw [e]
    rfl
end Go.Proofs.Ytpcbbhfbldchlaa
namespace Go.Proofs.Ytpcbbhfbldchlaa
open Go.RowKit
attribute [local go_sem ↓ high] builtin_appG
/-- The world while tokens are set: the face in the first block of the call's own, the result's in the second, the row behind them. -/
structure SetR (w : World) (s : Value) (c : List Gly × Fce) (W : World) : Prop where
  b0 : Blk W w.heap.size 54 [.int .u8 c.2.1, .int .u8 c.2.2]
  b1 : Blk W (w.heap.size + 1) 54 [.int .u8 0, .int .u8 0]
  s : GOwn (w.heap.size + 2) W s c.1
  bel : Below w.heap.size w W
section
variable {w W : World} {s : Value} {c : List Gly × Fce}
theorem SetR.big (h : SetR w s c W) : w.heap.size + 1 < W.heap.size := (Array.getElem?_eq_some_iff.1 h.b1).1
theorem SetR.keep {W' : World} (h : SetR w s c W) (hb : Below W.heap.size W W') : SetR w s c W' :=
  ⟨h.b0.below hb, h.b1.below hb, h.s.keep hb, h.bel.trans (hb.mono h.bel.size)⟩
/-- A glyph more. -/
theorem SetR.app (h : SetR w s c W) (r n : Int) (hl : c.1.length ≤ 500000) :
    ∃ s' W', (appG #[s, .slice (some ⟨W.heap.size, 0, none⟩) 1 1]).run Try.prog (W.alloc (.cells #[.int .i32 r, .int .u8 n] 27)) = .ok (.value s') W' ∧ SetR w s' (c.1 ++ [(r, n)], c.2) W' := by
  have hl1 := below_lit W (.cells #[.int .i32 r, .int .u8 n] 27)
  have hbig := h.big
  have h1 := h.keep hl1
  obtain ⟨s', W', hrun, ho, hg, -⟩ := appG_own h1.s (fs_lit gcell_len W 27 [(r, n)]) (by simp; omega) (by simp; omega)
  have n0 : s.ownBlock ≠ some w.heap.size := fun e => by have := (h1.s.ty e).1; omega
  have n1 : s.ownBlock ≠ some (w.heap.size + 1) := fun e => by have := (h1.s.ty e).1; omega
  exact ⟨s', W', hrun, (hg.block _ (by simp; omega) (fun e => n0 e.symm)).trans h1.b0, (hg.block _ (by simp; omega) (fun e => n1 e.symm)).trans h1.b1, ho, h1.bel.grown hg (by simp; omega) (fun j e => by have := (h1.s.ty e).1; omega)⟩
/-- The face turns. -/
theorem SetR.turn (h : SetR w s c W) (a b : Int) : SetR w s (c.1, (a, b)) ((W.setCell ⟨w.heap.size, 0, none⟩ (.int .u8 a)).setCell ⟨w.heap.size, 1, none⟩ (.int .u8 b)) :=
  ⟨by have := (h.b0.set 0 (.int .u8 a)).set 1 (.int .u8 b); simpa using this,
   (Below.heap_setCell _ _ _ _ (by simp)).trans ((Below.heap_setCell _ _ _ _ (by simp)).trans h.b1), ownsRow_setCell_below (ownsRow_setCell_below h.s (by simp) _) (by simp) _, (h.bel.setCell (by simp) _).setCell (by simp) _⟩
theorem SetR.fin (h : SetR w s c W) (a b : Value) : GOwn w.heap.size ((W.setCell ⟨w.heap.size + 1, 0, none⟩ a).setCell ⟨w.heap.size + 1, 1, none⟩ b).drew s c.1 ∧ Below w.heap.size w ((W.setCell ⟨w.heap.size + 1, 0, none⟩ a).setCell ⟨w.heap.size + 1, 1, none⟩ b).drew ∧ Blk ((W.setCell ⟨w.heap.size + 1, 0, none⟩ a).setCell ⟨w.heap.size + 1, 1, none⟩ b).drew (w.heap.size + 1) 54 [a, b] := by
  have h2 : GOwn (w.heap.size + 2) ((W.setCell ⟨w.heap.size + 1, 0, none⟩ a).setCell ⟨w.heap.size + 1, 1, none⟩ b) s c.1 := ownsRow_setCell_below (ownsRow_setCell_below h.s (by simp) _) (by simp) _
  refine ⟨FOwn.mono (h2.keep (Below.refl _ _).drew) (by omega), ((h.bel.setCell (by simp) _).setCell (by simp) _).drew, ?_⟩
  have h3 : Blk ((W.setCell ⟨w.heap.size + 1, 0, none⟩ a).setCell ⟨w.heap.size + 1, 1, none⟩ b) (w.heap.size + 1) 54 [a, b] := by
    have := (h.b1.set 0 a).set 1 b
    simpa using this
  exact h3.below (Below.refl _ _).drew
theorem SetR.start (w : World) (a b : Int) : SetR w (.slice none 0 0) ([], (a, b)) ((w.alloc (.cells #[.int .u8 a, .int .u8 b] 54)).alloc (.cells #[.int .u8 0, .int .u8 0] 54)) :=
  ⟨blk_first w [.int .u8 a, .int .u8 b] _ _, eblk_second w _ [.int .u8 0, .int .u8 0] _, FOwn.nil _ _, ebelow_two w _ _⟩
end
def SEnd (w : World) (c : List Gly × Fce) (e : Ending) (w' : World) : Prop :=
  ∃ x, e = .returned (.tuple #[x, .agg #[.int .u8 c.2.1, .int .u8 c.2.2]]) ∧ GOwn w.heap.size w' x c.1 ∧ Below w.heap.size w w'
set_option maxRecDepth 100000 in
set_option maxHeartbeats 4000000 in
theorem set_any (p q : Int) (l : List Tok) (v : Value) (w : World) (hv : Ts w v l) (hl : l.length ≤ 100000) :
    Calls Try.prog 27 #[.agg #[.int .u8 p, .int .u8 q], v] w (SEnd w (gset (p, q) l)) := by
  have HV := Lib.hid hv
  obtain ⟨a, cap, rfl⟩ := hv.len
  clear hv
  go_enter Try.func27, Try.ntmps27
  go_wp2_with fail
  go_loopw [6, 11] (fun s i wr => ∃ j : Nat, j ≤ l.length ∧ i = .int .i64 j ∧ SetR w s (gset (p, q) (l.take j)) wr) (fun _ i _ => l.length - (intOf i).toNat)
  case atStart => exact ⟨0, by omega, rfl, SetR.start w p q⟩
  case round =>
    obtain ⟨j, hj, rfl, hR⟩ := hrel
    have HL : Hid ((gset (p, q) (l.take j)).1.length ≤ 100000) := Lib.hid (by have := gset_len (p, q) (l.take j); simp only [List.length_take] at this; omega)
    obtain ⟨⟨X, A, B⟩, hS⟩ : ∃ S, gset (p, q) (l.take j) = S := ⟨_, rfl⟩
    rw [hS] at hR HL
    have HR := Lib.hid hR
    by_cases hlt : j < l.length
    · obtain ⟨⟨k, r⟩, hz⟩ : ∃ z, l[j]? = some z := ⟨l[j], List.getElem?_eq_getElem hlt⟩
      obtain ⟨g, off, rfl, z0, z1⟩ := Fs.t (Fs.below HV.out hR.bel) hz
      have HN := Lib.hid (gset_take (f := (p, q)) hz)
      rw [hS] at HN
      have hi0 : (j : Int) < (l.length : Int) := by omega
      have hi1 : (0 : Int) ≤ (j : Int) := by omega
      have bl := below_lit wr (.cells #[.int .i64 k, .int .i32 r] 72)
      have hR1 := hR.keep bl
      have c0 : (wr.alloc (.cells #[.int .i64 k, .int .i32 r] 72)).cell? ⟨w.heap.size, 0, none⟩ = some (.int .u8 A) := hR1.b0.cell 0
      have c1 : (wr.alloc (.cells #[.int .i64 k, .int .i32 r] 72)).cell? ⟨w.heap.size, 1, none⟩ = some (.int .u8 B) := hR1.b0.cell 1
      have f0 : (wr.alloc (.cells #[.int .i64 k, .int .i32 r] 72)).frozen? ⟨w.heap.size, 0, none⟩ = false := hR1.b0.frozen (by simp)
      have f1 : (wr.alloc (.cells #[.int .i64 k, .int .i32 r] 72)).frozen? ⟨w.heap.size, 1, none⟩ = false := hR1.b0.frozen (by simp)
      obtain ⟨sa, sc, hs⟩ := (FOwn.sl gcell_len hR.s).len
      change _ = Value.slice sa X.length sc at hs
      obtain ⟨xl, hxl⟩ : ∃ xl, X.length = xl := ⟨_, rfl⟩
      rw [hxl] at hs
      subst hs
      have R1 := Lib.hid hR1
      clear HR hR hR1 hS bl hz
      by_cases k1 : k = 1
      · subst k1
        obtain ⟨s', W', hrun, hR2⟩ := R1.out.app r A (by have := HL.out; simp only at this ⊢; omega)
        have R2 : Hid (SetR w s' (gstep (X, A, B) (1, r)) W') := Lib.hid hR2
        rw [← HN.out] at R2
        have hrun' : (appG #[.slice sa xl sc, .slice (some ⟨wr.heap.size + 1, 0, none⟩) 1 1]).run Try.prog ((wr.alloc (.cells #[.int .i64 1, .int .i32 r] 72)).alloc (.cells #[.int .i32 r, .int .u8 A] 27)) = .ok (.value s') W' := by simpa using hrun
        obtain ⟨sa', sc', hs'⟩ := (FOwn.sl gcell_len hR2.s).len
        obtain ⟨xl', hxl'⟩ : ∃ xl', (X ++ [(r, A)]).length = xl' := ⟨_, rfl⟩
        simp only at hs'
        rw [hxl'] at hs'
        subst hs'
        clear hrun hR2 hxl' HN hxl
        go_wp2_with fail
        go_roundw
        case rel => exact ⟨j + 1, by omega, by go_num, R2.out⟩
        case measure => (simp [intOf]; try omega)
      · by_cases k2 : k = 2
        · subst k2
          obtain ⟨s', W', hrun, hR2⟩ := R1.out.app 32 0 (by have := HL.out; simp only at this ⊢; omega)
          have R2 : Hid (SetR w s' (gstep (X, A, B) (2, r)) W') := Lib.hid hR2
          rw [← HN.out] at R2
          have hrun' : (appG #[.slice sa xl sc, .slice (some ⟨wr.heap.size + 1, 0, none⟩) 1 1]).run Try.prog ((wr.alloc (.cells #[.int .i64 2, .int .i32 r] 72)).alloc (.cells #[.int .i32 32, .int .u8 0] 27)) = .ok (.value s') W' := by simpa using hrun
          obtain ⟨sa', sc', hs'⟩ := (FOwn.sl gcell_len hR2.s).len
          obtain ⟨xl', hxl'⟩ : ∃ xl', (X ++ [((32 : Int), (0 : Int))]).length = xl' := ⟨_, rfl⟩
          simp only at hs'
          rw [hxl'] at hs'
          subst hs'
          clear hrun hR2 hxl' HN hxl
          go_wp2_with fail
          go_roundw
          case rel => exact ⟨j + 1, by omega, by go_num, R2.out⟩
          case measure => (simp [intOf]; try omega)
        · by_cases k3 : k = 3
          · subst k3
            have HT := Lib.hid (turn_any A B r (wr.alloc (.cells #[.int .i64 3, .int .i32 r] 72)))
            obtain ⟨⟨A', B'⟩, hF⟩ : ∃ F, fturn (A, B) r = F := ⟨_, rfl⟩
            have HG : Hid (gset (p, q) (l.take (j + 1)) = (X, (A', B'))) := Lib.hid (by rw [HN.out]; simp [gstep, hF])
            rw [hF] at HT
            clear hF HN hxl k1 k2
            go_wp2_with fail
            refine HT.out.mono ?_
            rintro e w2 ⟨rfl, b2⟩
            have hR2 := R1.out.keep b2
            have R3 := Lib.hid (hR2.turn A' B')
            have g0 : w2.cell? ⟨w.heap.size, 0, none⟩ = some (.int .u8 A) := hR2.b0.cell 0
            have g1 : w2.cell? ⟨w.heap.size, 1, none⟩ = some (.int .u8 B) := hR2.b0.cell 1
            have e0 : w2.frozen? ⟨w.heap.size, 0, none⟩ = false := hR2.b0.frozen (by simp)
            have e1 : w2.frozen? ⟨w.heap.size, 1, none⟩ = false := hR2.b0.frozen (by simp)
            clear hR2 b2 HT c0 c1 f0 f1
            go_wp2_with fail
            go_roundw
            case rel => exact ⟨j + 1, by omega, by go_num, by rw [HG.out]; exact R3.out⟩
            case measure => (simp [intOf]; try omega)
          · have R2 : Hid (SetR w (.slice sa xl sc) (gstep (X, A, B) (k, r)) (wr.alloc (.cells #[.int .i64 k, .int .i32 r] 72))) := Lib.hid (by simp only [gstep, if_neg k1, if_neg k2, if_neg k3]; exact R1.out)
            rw [← HN.out] at R2
            clear HN hxl
            go_wp2_with fail
            go_roundw
            case rel => exact ⟨j + 1, by omega, by go_num, R2.out⟩
            case measure => (simp [intOf]; try omega)
    · obtain rfl : j = l.length := by omega
      have c0 : wr.cell? ⟨w.heap.size, 0, none⟩ = some (.int .u8 A) := hR.b0.cell 0
      have c1 : wr.cell? ⟨w.heap.size, 1, none⟩ = some (.int .u8 B) := hR.b0.cell 1
      have d0 : wr.cell? ⟨w.heap.size + 1, 0, none⟩ = some (.int .u8 0) := hR.b1.cell 0
      have d1 : wr.cell? ⟨w.heap.size + 1, 1, none⟩ = some (.int .u8 0) := hR.b1.cell 1
      have f0 : wr.frozen? ⟨w.heap.size + 1, 0, none⟩ = false := hR.b1.frozen (by simp)
      have f1 : wr.frozen? ⟨w.heap.size + 1, 1, none⟩ = false := hR.b1.frozen (by simp)
      obtain ⟨sa, sc, hs⟩ := (FOwn.sl gcell_len hR.s).len
      change _ = Value.slice sa X.length sc at hs
      obtain ⟨xl, hxl⟩ : ∃ xl, X.length = xl := ⟨_, rfl⟩
      rw [hxl] at hs
      subst hs
      rw [List.take_length] at hS
      have HS := Lib.hid hS
      obtain ⟨o1, o2, o3⟩ := hR.fin (.int .u8 A) (.int .u8 B)
      have HO := Lib.hid o1
      have HBl := Lib.hid o2
      have HBK := Lib.hid o3
      clear o1 o2 o3
      clear hR hS hxl
      go_wp2_with fail
      go_region
      go_wp2_with fail
      have k0 := HBK.out.cell 0
      have k1 := HBK.out.cell 1
      simp at k0 k1
      exact bodyPost_ret (v := .tuple #[.slice sa xl sc, .agg #[.int .u8 A, .int .u8 B]]) (by simp [results, Try.results27, go_sem, k0, k1]) rfl (by rw [HS.out]; exact ⟨_, rfl, HO.out, HBl.out⟩)
end Go.Proofs.Ytpcbbhfbldchlaa
namespace Go.Proofs.Ytpcbbhfbldchlaa
open Go.RowKit
theorem infoRz : (Try.prog.info? 21).map (fun i => (i.zero, i.size, i.bytes)) = some (some (.int .i32 0), 1, 4) := by kernel_rfl
theorem Sl.len {k : IntKind} {w : World} {v : Value} {l : List Int} (h : Sl k w v l) : ∃ a cap, v = .slice a l.length cap := by
  obtain ⟨a, cap, rfl, _⟩ := h; exact ⟨a, cap, rfl⟩
theorem Sl.at {k : IntKind} {w : World} {a : Option Addr} {m cap : Nat} {l : List Int} (h : Sl k w (.slice a m cap) l) {j : Nat} {z : Int} (hj : l[j]? = some z) : ∃ g off, a = some ⟨g, off, none⟩ ∧ w.cell? ⟨g, off + j, none⟩ = some (.int k z) := by
  obtain ⟨a', cap', hv, _, hr⟩ := h
  injection hv with h1 h2 h3
  subst h1
  exact hr j z hj
/-- 'v[q:]', 'v[q:k]'. -/
noncomputable def backR (x lo : Value) : Sem Value := Instr.slice 58 x (some lo) none none
theorem slice_backR (x lo : Value) : Instr.slice 58 x (some lo) none none = backR x lo := rfl
noncomputable def midR (x lo hi : Value) : Sem Value := Instr.slice 58 x (some lo) (some hi) none
theorem slice_midR (x lo hi : Value) : Instr.slice 58 x (some lo) (some hi) none = midR x lo hi := rfl
theorem backR_run {w : World} {v : Value} {l : List Int} (h : Sl .i32 w v l) (q : Nat) (hq : q ≤ l.length) :
    ∃ u, (∀ W : World, (backR v (.int .i64 (q : Int))).run Try.prog W = .ok u W) ∧ Sl .i32 w u (l.drop q) := by
  obtain ⟨i0, hi, hz0, hz1, hz2⟩ := info_parts infoRz
  obtain ⟨a, cap, rfl, hc, hr⟩ := h
  refine ⟨.slice (if cap = q then a else a.map (·.add q)) (l.length - q) (cap - q), fun W => ?_, ?_⟩
  · have h1 : q ≤ cap := by omega
    unfold backR
    simp [Instr.slice, Instr.sliceBounds, Instr.sliceBound, asIntOf, run_underlying Try.underlying58, h1, hq, sizeOf, typeInfo, hi, hz1]
  · have hl : (l.drop q).length = l.length - q := by rw [List.length_drop]
    refine ⟨_, _, by rw [hl], by rw [hl]; omega, fun j x hj => ?_⟩
    have hj1 : j < l.length - q := by
      have := (List.getElem?_eq_some_iff.1 hj).1
      omega
    rw [List.getElem?_drop] at hj
    obtain ⟨g, off, rfl, h0⟩ := hr (q + j) x hj
    rw [if_neg (by omega)]
    refine ⟨g, off + q, ?_, ?_⟩
    · simp only [Option.map_some, Option.some.injEq]
      rw [Addr.add_lit]
    · rw [show off + q + j = off + (q + j) by omega]
      exact h0
theorem midR_run {w : World} {v : Value} {l : List Int} (h : Sl .i32 w v l) (q k : Nat) (hq : q ≤ k) (hk : k ≤ l.length) :
    ∃ u, (∀ W : World, (midR v (.int .i64 (q : Int)) (.int .i64 (k : Int))).run Try.prog W = .ok u W) ∧ Sl .i32 w u ((l.take k).drop q) := by
  obtain ⟨i0, hi, hz0, hz1, hz2⟩ := info_parts infoRz
  obtain ⟨a, cap, rfl, hc, hr⟩ := h
  refine ⟨.slice (if cap = q then a else a.map (·.add q)) (k - q) (cap - q), fun W => ?_, ?_⟩
  · have h1 : k ≤ cap := by omega
    unfold midR
    simp [Instr.slice, Instr.sliceBounds, Instr.sliceBound, asIntOf, run_underlying Try.underlying58, h1, hq, sizeOf, typeInfo, hi, hz1]
  · have hl : ((l.take k).drop q).length = k - q := by rw [List.length_drop, List.length_take]; omega
    refine ⟨_, _, by rw [hl], by rw [hl]; omega, fun j x hj => ?_⟩
    have hj1 : j < k - q := by
      have := (List.getElem?_eq_some_iff.1 hj).1
      omega
    rw [List.getElem?_drop, List.getElem?_take_of_lt (by omega)] at hj
    obtain ⟨g, off, rfl, h0⟩ := hr (q + j) x hj
    rw [if_neg (by omega)]
    refine ⟨g, off + q, ?_, ?_⟩
    · simp only [Option.map_some, Option.some.injEq]
      rw [Addr.add_lit]
    · rw [show off + q + j = off + (q + j) by omega]
      exact h0
/-- Where it stands, or below nothing. -/
def ixI (p : Nat) (o : Option Nat) : Int := match o with
  | some k => (k + p : Nat)
  | none => -1
theorem ix_cons (c : Int) (r : List Int) : ix (c :: r) = if c = 93 then some 0 else (ix r).map (· + 1) := rfl
theorem ix_hit {l : List Int} {j : Nat} (h : l[j]? = some 93) : ix (l.drop j) = some 0 := by rw [drop_cons h, ix_cons, if_pos rfl]
theorem ix_miss {l : List Int} {j : Nat} {z : Int} (h : l[j]? = some z) (hz : z ≠ 93) : ix (l.drop j) = (ix (l.drop (j + 1))).map (· + 1) := by rw [drop_cons h, ix_cons, if_neg hz]
theorem ixI_miss (p : Nat) (o : Option Nat) : ixI p (o.map (· + 1)) = ixI (p + 1) o := by
  cases o with
  | none => rfl
  | some k => simp only [ixI, Option.map_some]; omega
set_option maxHeartbeats 1000000 in
theorem eindex_any (l : List Int) (v : Value) (w : World) (hv : Sl .i32 w v l) (hl : l.length ≤ 200000) :
    Calls Try.prog 40 #[v, .int .i32 93] w fun e w' => e = .returned (.int .i64 (ixI 0 (ix l))) ∧ w = w' := by
  have HV := Lib.hid hv
  obtain ⟨a, cap, rfl⟩ := hv.len
  obtain ⟨X, hX⟩ : ∃ X, ixI 0 (ix l) = X := ⟨_, rfl⟩
  rw [hX]
  clear hv
  go_enter Try.func40, Try.ntmps40
  go_wp2_with fail
  go_loopw [8] (fun i wr => ∃ j : Nat, j ≤ l.length ∧ i = .int .i64 j ∧ wr = w ∧ ixI j (ix (l.drop j)) = X) (fun i _ => l.length - (intOf i).toNat)
  case atStart => exact ⟨0, by omega, rfl, rfl, by simpa using hX⟩
  case round =>
    obtain ⟨j, hj, rfl, rfl, hx⟩ := hrel
    have HX := Lib.hid hx
    clear hx hX
    by_cases hlt : j < l.length
    · obtain ⟨z, hz⟩ : ∃ z, l[j]? = some z := ⟨l[j], List.getElem?_eq_getElem hlt⟩
      obtain ⟨g, off, rfl, c0⟩ := HV.out.at hz
      have hi0 : (j : Int) < (l.length : Int) := by omega
      have hi1 : (0 : Int) ≤ (j : Int) := by omega
      by_cases he : z = 93
      · subst he
        have hres := Lib.hid (show (j : Int) = X by
          have := HX.out
          rw [ix_hit hz] at this
          simpa [ixI] using this)
        clear hz
        go_wp2_with fail
        go_ret
        exact ⟨ret_int hres.out, rfl⟩
      · have hres := Lib.hid (show ixI (j + 1) (ix (l.drop (j + 1))) = X by
          have := HX.out
          rw [ix_miss hz he, ixI_miss] at this
          exact this)
        have he' : ((93 : Int) == z) = false := by simpa using fun h : (93 : Int) = z => he h.symm
        clear hz he
        go_wp2_with fail
        go_roundw
        case rel => exact ⟨j + 1, by omega, by go_num, by first | trivial | rfl, hres.out⟩
        case measure => simp [intOf]; omega
    · obtain rfl : j = l.length := by omega
      have hres := Lib.hid (show (-1 : Int) = X by
        have := HX.out
        rw [List.drop_length] at this
        simpa [ixI, ix] using this)
      go_wp2_with fail
      go_ret
      exact ⟨ret_int hres.out, rfl⟩
end Go.Proofs.Ytpcbbhfbldchlaa
namespace Go.Proofs.Ytpcbbhfbldchlaa
open Go.RowKit
attribute [local go_sem ↓ high] slice_backR slice_midR
section
variable {w0 : World} {B : Nat} {tv : Value} {L : List Int} {nx : Int} {T : List Tok} {D : List Dg}
set_option maxRecDepth 100000 in
set_option maxHeartbeats 1000000 in
theorem rname_none (q : Nat) (w : World) (h : Rd w0 B tv L w nx T D) (hq : q ≤ L.length) (hL : L.length ≤ 100000) (hn : nameL (L.drop q) = none) :
    Calls Try.prog 36 #[.pointer (some ⟨B, 0, none⟩), .int .i64 (q : Int)] w (RdEnd w0 B tv L nx T D (.tuple #[.string ⟨#[]⟩, .bool false])) := by
  have HR := Lib.hid h
  obtain ⟨vt, vd, vm, hv⟩ := h
  have c0 : w.cell? ⟨B, 0, none⟩ = some tv := hv.blk.cell 0
  obtain ⟨u, ku, su⟩ := backR_run hv.text q hq
  have hdl : (L.drop q).length = L.length - q := by rw [List.length_drop]
  obtain ⟨S, hS⟩ : ∃ S, L.drop q = S := ⟨_, rfl⟩
  rw [hS] at su hdl hn
  obtain ⟨at_, ct, rfl⟩ := hv.sl.len
  clear hv hS
  cases S with
  | nil =>
    obtain ⟨au, cu, rfl⟩ := su.len
    clear su hn
    simp only [List.length_nil] at ku
    go_enter Try.func36, Try.ntmps36
    go_wp2_with fail
    go_ret2
    exact ⟨rfl, HR.out⟩
  | cons c r =>
    have HI := Lib.hid (eindex_any (c :: r) u w su (by omega))
    obtain ⟨au, cu, rfl⟩ := su.len
    obtain ⟨g, off, rfl, cc⟩ := su.at (j := 0) (z := c) rfl
    rw [nameL_cons] at hn
    have cc' : w.cell? ⟨g, off, none⟩ = some (.int .i32 c) := cc
    obtain ⟨N, hN⟩ : ∃ N, (c :: r).length = N := ⟨_, rfl⟩
    rw [hN] at ku hdl
    simp only [List.length_cons] at hN
    clear su cc
    rw [show (Value.slice (some (⟨g, off, none⟩ : Addr)) (c :: r).length cu) = .slice (some ⟨g, off, none⟩) N cu by rw [← hN]; rfl] at HI
    have hz : ((N : Int) == 0) = false := by simp; omega
    have hz1 : (0 : Int) < (N : Int) := by omega
    have hz9 : N ≤ 100000 := by omega
    have HN := Lib.hid hN
    clear hdl hN
    by_cases h40 : c = 40
    · subst h40
      rw [if_pos rfl] at hn
      have hlen : r.length < 2 := by
        by_cases hlen : r.length < 2
        · exact hlen
        · rw [if_neg hlen] at hn; cases hn
      have hz2 : (N : Int) < 3 := by have := HN.out; omega
      clear hn HI
      go_enter Try.func36, Try.ntmps36
      go_wp2_with fail
      go_ret2
      exact ⟨rfl, HR.out⟩
    · rw [if_neg h40] at hn
      have e40 : (c == 40) = false := by simpa using h40
      by_cases h91 : c = 91
      · subst h91
        rw [if_pos rfl] at hn
        have hix : ix (91 :: r) = none := by
          rw [ix_cons, if_neg (by decide)]
          cases hr : ix r with
          | none => rfl
          | some k => rw [hr] at hn; cases hn
        rw [hix] at HI
        have HI' : Hid (Calls Try.prog 40 #[.slice (some ⟨g, off, none⟩) N cu, .int .i32 93] w fun e w' => e = .returned (.int .i64 (-1)) ∧ w = w') := HI
        clear hn HI h40 hix
        go_enter Try.func36, Try.ntmps36
        go_wp2_with fail
        refine HI'.out.mono ?_
        rintro e w' ⟨rfl, rfl⟩
        clear HI'
        go_wp2_with fail
        go_ret2
        exact ⟨rfl, HR.out⟩
      · rw [if_neg h91] at hn
        cases hn
set_option maxRecDepth 100000 in
set_option maxHeartbeats 1000000 in
theorem rname_some (q : Nat) (w : World) (h : Rd w0 B tv L w nx T D) (hq : q ≤ L.length) (hL : L.length ≤ 100000) {n : List Int} {k : Nat} (hn : nameL (L.drop q) = some (n, k)) :
    Calls Try.prog 36 #[.pointer (some ⟨B, 0, none⟩), .int .i64 (q : Int)] w (RdEnd w0 B tv L ((q + k : Nat) : Int) T D (.tuple #[.string ⟨(enc n).toArray⟩, .bool true])) := by
  obtain ⟨vt, vd, vm, hv⟩ := h
  have c0 : w.cell? ⟨B, 0, none⟩ = some tv := hv.blk.cell 0
  have c1 : w.cell? ⟨B, 1, none⟩ = some (.int .i64 nx) := hv.blk.cell 1
  have f1 : w.frozen? ⟨B, 1, none⟩ = false := hv.blk.frozen (by simp)
  obtain ⟨u, ku, su0⟩ := backR_run hv.sl q hq
  have su := su0.below (by rw [hv.hB]; exact hv.bel)
  have hdl : (L.drop q).length = L.length - q := by rw [List.length_drop]
  obtain ⟨S, hS⟩ : ∃ S, L.drop q = S := ⟨_, rfl⟩
  rw [hS] at su su0 hdl hn
  obtain ⟨at_, ct, rfl⟩ := hv.sl.len
  have HNX := Lib.hid (fun x => RdV.next hv x)
  have HM := Lib.hid (fun (a b : Nat) (hab : a ≤ b) (hb : b ≤ S.length) => midR_run su0 a b hab hb)
  have HB := Lib.hid hv.hB
  clear hv hS su0
  cases S with
  | nil => cases hn
  | cons c r =>
    have HI := Lib.hid (eindex_any (c :: r) u w su (by omega))
    obtain ⟨au, cu, rfl⟩ := su.len
    obtain ⟨g, off, rfl, cc⟩ := su.at (j := 0) (z := c) rfl
    rw [nameL_cons] at hn
    have cc' : w.cell? ⟨g, off, none⟩ = some (.int .i32 c) := cc
    obtain ⟨N, hN⟩ : ∃ N, (c :: r).length = N := ⟨_, rfl⟩
    rw [hN] at ku hdl HM
    simp only [List.length_cons] at hN
    clear su cc
    rw [show (Value.slice (some (⟨g, off, none⟩ : Addr)) (c :: r).length cu) = .slice (some ⟨g, off, none⟩) N cu by rw [← hN]; rfl] at HI
    have hz : ((N : Int) == 0) = false := by simp; omega
    have hz1 : (0 : Int) < (N : Int) := by omega
    have hz9 : N ≤ 100000 := by omega
    have HN := Lib.hid hN
    clear hdl hN
    by_cases h40 : c = 40
    · subst h40
      rw [if_pos rfl] at hn
      have hlen : 2 ≤ r.length := by
        by_cases hlen : r.length < 2
        · rw [if_pos hlen] at hn; cases hn
        · omega
      rw [if_neg (by omega)] at hn
      simp only [Option.some.injEq, Prod.mk.injEq] at hn
      obtain ⟨rfl, rfl⟩ := hn
      have hz2 : ¬ (N : Int) < 3 := by have := HN.out; omega
      have HX := Lib.hid (HNX.out ((q : Int) + 3))
      obtain ⟨u2, k2, s2⟩ := HM.out 1 3 (by omega) (by have := HN.out; omega)
      have k2' : ∀ W : World, (midR (.slice (some ⟨g, off, none⟩) N cu) (.int .i64 1) (.int .i64 3)).run Try.prog W = .ok u2 W := k2
      have e2 : ((40 :: r).take 3).drop 1 = r.take 2 := by simp
      rw [e2] at s2
      have k3 := str_of_runes (s2.below (by rw [HB.out]; exact HX.out.bel))
      clear HI k2 s2 HM HNX e2
      go_enter Try.func36, Try.ntmps36
      go_wp2_with fail
      go_ret2
      exact ⟨rfl, _, _, _, HX.out⟩
    · rw [if_neg h40] at hn
      have e40 : (c == 40) = false := by simpa using h40
      by_cases h91 : c = 91
      · subst h91
        rw [if_pos rfl] at hn
        obtain ⟨j, hj⟩ : ∃ j, ix r = some j := by
          cases hr : ix r with
          | none => rw [hr] at hn; cases hn
          | some j => exact ⟨j, rfl⟩
        rw [hj] at hn
        simp only [Option.some.injEq, Prod.mk.injEq] at hn
        obtain ⟨rfl, rfl⟩ := hn
        have hjl := ix_lt r j hj
        have hix : ix (91 :: r) = some (j + 1) := by rw [ix_cons, if_neg (by decide), hj]; rfl
        rw [hix] at HI
        have HI' : Hid (Calls Try.prog 40 #[.slice (some ⟨g, off, none⟩) N cu, .int .i32 93] w fun e w' => e = .returned (.int .i64 ((j : Int) + 1)) ∧ w = w') := HI
        have HX := Lib.hid (HNX.out ((q : Int) + ((j : Int) + 1 + 1)))
        rw [show (q : Int) + ((j : Int) + 1 + 1) = ((q + (j + 2) : Nat) : Int) by omega] at HX
        have hE := Lib.hid (show ((q + (j + 2) : Nat) : Int) = (q : Int) + ((j : Int) + 1 + 1) by omega)
        obtain ⟨u2, k2, s2⟩ := HM.out 1 (j + 1) (by omega) (by have := HN.out; omega)
        have k2' : ∀ W : World, (midR (.slice (some ⟨g, off, none⟩) N cu) (.int .i64 1) (.int .i64 ((j : Int) + 1))).run Try.prog W = .ok u2 W := k2
        have e2 : ((91 :: r).take (j + 1)).drop 1 = r.take j := by simp
        rw [e2] at s2
        have k3 := str_of_runes (s2.below (by rw [HB.out]; exact HX.out.bel))
        rw [hE.out] at k3
        have hj1 : ¬ (N : Int) < (j : Int) + 1 := by have := HN.out; omega
        have hj2 : ¬ (j : Int) + 1 < 1 := by omega
        have hj3 : (j : Int) ≤ 100000 := by omega
        have hj4 : (0 : Int) ≤ (j : Int) := by omega
        have hq4 : (q : Int) ≤ 100000 := by omega
        clear HI h40 hix HM HNX e2 k2 s2 hj hjl hz1
        go_enter Try.func36, Try.ntmps36
        go_wp2_with fail
        refine HI'.out.mono ?_
        rintro e w' ⟨rfl, rfl⟩
        clear HI'
        go_wp2_with fail
        go_ret2
        have := HX.out
        rw [hE.out] at this
        exact ⟨rfl, vt, vd, vm, by rw [hE.out]; exact this⟩
      · rw [if_neg h91] at hn
        simp only [Option.some.injEq, Prod.mk.injEq] at hn
        obtain ⟨rfl, rfl⟩ := hn
        have e91 : (c == 91) = false := by simpa using h91
        have hz2 : ¬ (N : Int) < 1 := by have := HN.out; omega
        have HX := Lib.hid (HNX.out ((q : Int) + 1))
        obtain ⟨u2, k2, s2⟩ := HM.out 0 1 (by omega) (by have := HN.out; omega)
        have k2' : ∀ W : World, (midR (.slice (some ⟨g, off, none⟩) N cu) (.int .i64 0) (.int .i64 1)).run Try.prog W = .ok u2 W := k2
        have e2 : ((c :: r).take 1).drop 0 = [c] := by simp
        rw [e2] at s2
        have k3 := str_of_runes (s2.below (by rw [HB.out]; exact HX.out.bel))
        clear HI k2 s2 HM HNX e2
        go_enter Try.func36, Try.ntmps36
        go_wp2_with fail
        go_ret2
        exact ⟨rfl, _, _, _, HX.out⟩
end
end Go.Proofs.Ytpcbbhfbldchlaa
namespace Go.Proofs.Ytpcbbhfbldchlaa
open Go.RowKit
section
variable {w0 : World} {B : Nat} {tv : Value} {L : List Int} {nx : Int} {T : List Tok} {D : List Dg}
set_option maxRecDepth 100000 in
set_option maxHeartbeats 1000000 in
theorem named_none (p : Nat) (w : World) (h : Rd w0 B tv L w nx T D) (hp : p + 1 ≤ L.length) (hL : L.length ≤ 20000) (hD : D.length ≤ 20000) (hn : nameL (L.drop (p + 1)) = none) :
    Calls Try.prog 34 #[.pointer (some ⟨B, 0, none⟩), .int .i64 (p : Int)] w (RdEnd w0 B tv L nx T (D ++ dgs p [1]) (.bool false)) := by
  have HN := Lib.hid (rname_none (p + 1) w h hp (by omega) hn)
  have HN' : Hid (Calls Try.prog 36 #[.pointer (some ⟨B, 0, none⟩), .int .i64 ((p : Int) + 1)] w (RdEnd w0 B tv L nx T D (.tuple #[.string ⟨#[]⟩, .bool false]))) := HN
  have HW := Lib.hid (fun W (h : Rd w0 B tv L W nx T D) => wrong_any 1 p W h (by omega) (by omega))
  have hp9 : (p : Int) ≤ 20000 := by omega
  clear h hn HN
  go_enter Try.func34, Try.ntmps34
  go_wp2_with fail
  refine HN'.out.mono ?_
  rintro e w1 ⟨rfl, h1⟩
  have HW' := Lib.hid (HW.out w1 h1)
  clear HN' HW h1
  go_wp2_with fail
  refine HW'.out.mono ?_
  rintro e w2 ⟨rfl, h2⟩
  have H2 := Lib.hid h2
  clear HW' h2
  go_wp2_with fail
  go_ret
  exact ⟨rfl, H2.out⟩
set_option maxRecDepth 100000 in
set_option maxHeartbeats 2000000 in
theorem named_some (p : Nat) (w : World) (h : Rd w0 B tv L w nx T D) (hp : p + 1 ≤ L.length) (hL : L.length ≤ 20000) (hT : T.length ≤ 20000) (hD : D.length ≤ 20000) {n : List Int} {k : Nat} (hn : nameL (L.drop (p + 1)) = some (n, k))
    {t : List Tok} {d : List Int} (hr : (∃ x, nmOf (enc n) = some x ∧ t = [(1, x)] ∧ d = []) ∨ (nmOf (enc n) = none ∧ t = [] ∧ d = [2])) :
    Calls Try.prog 34 #[.pointer (some ⟨B, 0, none⟩), .int .i64 (p : Int)] w (RdEnd w0 B tv L ((p + 1 + k : Nat) : Int) (T ++ t) (D ++ dgs p d) (.bool true)) := by
  have HN := Lib.hid (rname_some (p + 1) w h hp (by omega) hn)
  have HN' : Hid (Calls Try.prog 36 #[.pointer (some ⟨B, 0, none⟩), .int .i64 ((p : Int) + 1)] w (RdEnd w0 B tv L ((p + 1 + k : Nat) : Int) T D (.tuple #[.string ⟨(enc n).toArray⟩, .bool true]))) := HN
  have hnl := nameL_some_len hn
  rw [List.length_drop] at hnl
  have hel := enc_len n
  obtain ⟨b, hb⟩ : ∃ b, enc n = b := ⟨_, rfl⟩
  rw [hb] at HN' hr hel
  obtain ⟨nx', hnx⟩ : ∃ nx', ((p + 1 + k : Nat) : Int) = nx' := ⟨_, rfl⟩
  rw [hnx] at HN' ⊢
  have HF := Lib.hid (fun M W (h : Nms W M) => find_any b M W h (by unfold maxLen; omega))
  have HS := Lib.hid (fun W => names_any W)
  have HW := Lib.hid (fun W (h : Rd w0 B tv L W nx' T D) => wrong_any 2 p W h (by omega) (by omega))
  have HC := Lib.hid (fun c W (h : Rd w0 B tv L W nx' T D) => char_any c W h (by omega))
  have hp9 : (p : Int) ≤ 20000 := by omega
  clear h hn HN hb hnx hnl
  go_enter Try.func34, Try.ntmps34
  go_wp2_with fail
  refine HN'.out.mono ?_
  rintro e w1 ⟨rfl, vt, vd, vm, hv⟩
  clear HN'
  have c4 : w1.cell? ⟨B, 4, none⟩ = some vm := hv.blk.cell 4
  have HV := Lib.hid hv
  have hvm := hv.mp
  clear hv
  rcases hvm with rfl | ⟨M, rfl, hBM, hM⟩
  · have hq : (binOp .eql 67 (.map none) (.map none)).run Try.prog w1 = .ok (.bool true) w1 := run_eql_map_nil w1 67 9 21 none Try.underlying67
    have HS1 := Lib.hid (HS.out w1)
    clear HS
    go_wp2_with fail
    refine HS1.out.mono ?_
    rintro e w2 ⟨M, rfl, hM, hm, b2⟩
    have hv2 := HV.out.keep b2
    have hlt := HV.out.lt
    have c42 : w2.cell? ⟨B, 4, none⟩ = some (.map none) := hv2.blk.cell 4
    have f42 : w2.frozen? ⟨B, 4, none⟩ = false := hv2.blk.frozen (by simp)
    have HV3 := Lib.hid (hv2.names (M := M) (by omega) hm)
    obtain ⟨W3, hW3⟩ : ∃ W3, w2.setCell ⟨B, 4, none⟩ (.map (some M)) = W3 := ⟨_, rfl⟩
    rw [hW3] at HV3
    have c43 : W3.cell? ⟨B, 4, none⟩ = some (.map (some M)) := HV3.out.blk.cell 4
    have hM3 : Nms W3 M := by
      rcases HV3.out.mp with h0 | ⟨M', h0, _, h1⟩
      · cases h0
      · cases h0; exact h1
    have HF3 := Lib.hid (HF.out M W3 hM3)
    have HW3 := Lib.hid hW3
    have HR3 : Hid (Rd w0 B tv L W3 nx' T D) := Lib.hid ⟨_, _, _, HV3.out⟩
    clear HS1 hm b2 hv2 hM hlt HF HV c4 hq hM3 hW3 HV3
    go_wp2_with fail
    rw [HW3.out]
    refine HF3.out.mono ?_
    rintro e w4 ⟨rfl, b4⟩
    have H4 : Hid (Rd w0 B tv L w4 nx' T D) := Lib.hid (by
      obtain ⟨_, _, _, h⟩ := HR3.out
      exact ⟨_, _, _, h.keep b4⟩)
    clear HF3 HR3 HW3 c43 c42 f42 b4
    rcases hr with ⟨x, hx, rfl, rfl⟩ | ⟨hx, rfl, rfl⟩
    · have HC4 := Lib.hid (HC.out x w4 H4.out)
      rw [hx]
      simp only [Option.getD_some, Option.isSome_some]
      clear HC HW H4 hx
      go_wp2_with fail
      refine HC4.out.mono ?_
      rintro e w5 ⟨rfl, h5⟩
      have H5 := Lib.hid h5
      clear HC4 h5
      go_wp2_with fail
      go_ret
      exact ⟨rfl, by simpa [dgs] using H5.out⟩
    · have HW4 := Lib.hid (HW.out w4 H4.out)
      rw [hx]
      simp only [Option.getD_none, Option.isSome_none]
      clear HC HW H4 hx
      go_wp2_with fail
      refine HW4.out.mono ?_
      rintro e w5 ⟨rfl, h5⟩
      have H5 := Lib.hid h5
      clear HW4 h5
      go_wp2_with fail
      go_ret
      exact ⟨rfl, by rw [List.append_nil]; exact H5.out⟩
  · have hq : (binOp .eql 67 (.map (some M)) (.map none)).run Try.prog w1 = .ok (.bool false) w1 := run_eql_map_nil w1 67 9 21 (some M) Try.underlying67
    have HF3 := Lib.hid (HF.out M w1 hM)
    have HR3 : Hid (Rd w0 B tv L w1 nx' T D) := Lib.hid ⟨_, _, _, HV.out⟩
    clear HS HF HV hM hBM
    go_wp2_with fail
    refine HF3.out.mono ?_
    rintro e w4 ⟨rfl, b4⟩
    have H4 : Hid (Rd w0 B tv L w4 nx' T D) := Lib.hid (by
      obtain ⟨_, _, _, h⟩ := HR3.out
      exact ⟨_, _, _, h.keep b4⟩)
    clear HF3 HR3 c4 hq b4
    rcases hr with ⟨x, hx, rfl, rfl⟩ | ⟨hx, rfl, rfl⟩
    · have HC4 := Lib.hid (HC.out x w4 H4.out)
      rw [hx]
      simp only [Option.getD_some, Option.isSome_some]
      clear HC HW H4 hx
      go_wp2_with fail
      refine HC4.out.mono ?_
      rintro e w5 ⟨rfl, h5⟩
      have H5 := Lib.hid h5
      clear HC4 h5
      go_wp2_with fail
      go_ret
      exact ⟨rfl, by simpa [dgs] using H5.out⟩
    · have HW4 := Lib.hid (HW.out w4 H4.out)
      rw [hx]
      simp only [Option.getD_none, Option.isSome_none]
      clear HC HW H4 hx
      go_wp2_with fail
      refine HW4.out.mono ?_
      rintro e w5 ⟨rfl, h5⟩
      have H5 := Lib.hid h5
      clear HW4 h5
      go_wp2_with fail
      go_ret
      exact ⟨rfl, by rw [List.append_nil]; exact H5.out⟩
end
end Go.Proofs.Ytpcbbhfbldchlaa
namespace Go.Proofs.Ytpcbbhfbldchlaa
open Go.RowKit
attribute [local go_sem ↓ high] builtin_appT builtin_appDg
section
variable {w0 : World} {B : Nat} {tv : Value} {L : List Int} {nx : Int} {T : List Tok} {D : List Dg}
set_option maxRecDepth 100000 in
set_option maxHeartbeats 1000000 in
theorem rfont_none (p : Nat) (w : World) (h : Rd w0 B tv L w nx T D) (hp : p + 2 ≤ L.length) (hL : L.length ≤ 20000) (hD : D.length ≤ 20000) (hn : nameL (L.drop (p + 2)) = none) :
    Calls Try.prog 35 #[.pointer (some ⟨B, 0, none⟩), .int .i64 (p : Int)] w (RdEnd w0 B tv L nx T (D ++ dgs p [1]) (.bool false)) := by
  have HN := Lib.hid (rname_none (p + 2) w h hp (by omega) hn)
  have HN' : Hid (Calls Try.prog 36 #[.pointer (some ⟨B, 0, none⟩), .int .i64 ((p : Int) + 2)] w (RdEnd w0 B tv L nx T D (.tuple #[.string ⟨#[]⟩, .bool false]))) := HN
  have HW := Lib.hid (fun W (h : Rd w0 B tv L W nx T D) => wrong_any 1 p W h (by omega) (by omega))
  have hp9 : (p : Int) ≤ 20000 := by omega
  clear h hn HN
  go_enter Try.func35, Try.ntmps35
  go_wp2_with fail
  refine HN'.out.mono ?_
  rintro e w1 ⟨rfl, h1⟩
  have HW' := Lib.hid (HW.out w1 h1)
  clear HN' HW h1
  go_wp2_with fail
  refine HW'.out.mono ?_
  rintro e w2 ⟨rfl, h2⟩
  have H2 := Lib.hid h2
  clear HW' h2
  go_wp2_with fail
  go_ret
  exact ⟨rfl, H2.out⟩
set_option maxRecDepth 100000 in
set_option maxHeartbeats 2000000 in
theorem rfont_some (p : Nat) (w : World) (h : Rd w0 B tv L w nx T D) (hp : p + 2 ≤ L.length) (hL : L.length ≤ 20000) (hT : T.length ≤ 20000) (hD : D.length ≤ 20000) {n : List Int} {k : Nat} (hn : nameL (L.drop (p + 2)) = some (n, k))
    {t : List Tok} {d : List Int} (hr : (∃ x, ftOf (enc n) = some x ∧ t = [(3, x)] ∧ d = []) ∨ (ftOf (enc n) = none ∧ t = [] ∧ d = [2])) :
    Calls Try.prog 35 #[.pointer (some ⟨B, 0, none⟩), .int .i64 (p : Int)] w (RdEnd w0 B tv L ((p + 2 + k : Nat) : Int) (T ++ t) (D ++ dgs p d) (.bool true)) := by
  have HN := Lib.hid (rname_some (p + 2) w h hp (by omega) hn)
  have HN' : Hid (Calls Try.prog 36 #[.pointer (some ⟨B, 0, none⟩), .int .i64 ((p : Int) + 2)] w (RdEnd w0 B tv L ((p + 2 + k : Nat) : Int) T D (.tuple #[.string ⟨(enc n).toArray⟩, .bool true]))) := HN
  obtain ⟨b, hb⟩ : ∃ b, enc n = b := ⟨_, rfl⟩
  rw [hb] at HN' hr
  obtain ⟨nx', hnx⟩ : ∃ nx', ((p + 2 + k : Nat) : Int) = nx' := ⟨_, rfl⟩
  rw [hnx] at HN' ⊢
  have HF := Lib.hid (fun W => font_any b W)
  have HW := Lib.hid (fun W (h : Rd w0 B tv L W nx' T D) => wrong_any 2 p W h (by omega) (by omega))
  have hp9 : (p : Int) ≤ 20000 := by omega
  clear h hn HN hb hnx
  go_enter Try.func35, Try.ntmps35
  go_wp2_with fail
  refine HN'.out.mono ?_
  rintro e w1 ⟨rfl, h1⟩
  have H1 := Lib.hid h1
  have HF1 := Lib.hid (HF.out w1)
  clear HN' HF h1
  go_wp2_with fail
  refine HF1.out.mono ?_
  rintro e w2 ⟨rfl, rfl⟩
  clear HF1
  rcases hr with ⟨x, hx, rfl, rfl⟩ | ⟨hx, rfl, rfl⟩
  · obtain ⟨vt, vd, vm, hv⟩ := H1.out
    have c2 : w1.cell? ⟨B, 2, none⟩ = some vt := hv.blk.cell 2
    obtain ⟨vt', w3, k3, q3, f3, r3⟩ := hv.say 3 x (by omega)
    obtain ⟨a1, n1, rfl⟩ := (FOwn.sl tcell_len hv.tk).len
    obtain ⟨a2, n2, rfl⟩ := (FOwn.sl tcell_len r3.tk).len
    obtain ⟨m, hm⟩ : ∃ m, (T ++ [(3, x)]).length = m := ⟨_, rfl⟩
    rw [hm] at k3 r3
    have R3 := Lib.hid r3
    rw [hx]
    simp only [Option.getD_some, Option.isSome_some]
    clear HW H1 hx hv hm r3
    go_wp2_with fail
    go_ret
    exact ⟨rfl, _, _, _, by simpa [dgs] using R3.out⟩
  · have HW4 := Lib.hid (HW.out w1 H1.out)
    rw [hx]
    simp only [Option.getD_none, Option.isSome_none]
    clear HW H1 hx
    go_wp2_with fail
    refine HW4.out.mono ?_
    rintro e w5 ⟨rfl, h5⟩
    have H5 := Lib.hid h5
    clear HW4 h5
    go_wp2_with fail
    go_ret
    exact ⟨rfl, by rw [List.append_nil]; exact H5.out⟩
end
end Go.Proofs.Ytpcbbhfbldchlaa
