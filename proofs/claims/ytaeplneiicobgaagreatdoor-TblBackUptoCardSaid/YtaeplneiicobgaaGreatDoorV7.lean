/- Texts: '+' of them, rows of them, whether two rows of them are one. Texts cut at a byte, words, looks, columns: what stands while a loop goes on. Package strings: how a text ends, and begins. Package strings, unicode/utf8: the shelf's contracts, laid at this dump. (The numbers of the lays are this seat's own: tools/shelf9.py.) The program's own for documents: which signs tell columns. The program's own for tables: a text cut at tabs. -/
import Derived.Test.YtaeplneiicobgaaGreatDoorEc
import Derived.Test.YtaeplneiicobgaaGreatDoorBd
import Derived.Lib.Hide
import Derived.Lib.Strings
import Derived.Laws.Strings3
import Derived.Deep.QuietTactic
import Derived.BigQuiet
import Derived.Test.YtaeplneiicobgaaGreatDoorQ2
import Derived.Shelf.Strings.MapGrows
import Derived.Shelf.Strings.SplitCore
import Derived.Shelf.Strings.Search3
import Derived.Shelf.Strings.Count
import Derived.Shelf.Strings.BuilderK
import Derived.Shelf.Strings.BuilderRune
import Derived.Shelf.Unicode.DecodeAny
import Derived.Lib.SplitLaws
import Derived.Lib.IndexBytes
import Derived.Shelf.Strings.OnBuilder
import Derived.Shelf.Strings.Explode
import Derived.Test.YtaeplneiicobgaaGreatDoorC0
import Derived.Test.YtaeplneiicobgaaGreatDoorDj
import Derived.Laws.RangeAny
import Derived.Lib.TrimAscii
import Derived.Lib.TrimU
set_option linter.unusedVariables false
set_option linter.unusedSimpArgs false
namespace Go.Proofs.YtaeplneiicobgaaGreatDoor
open Go.RowKit
theorem arr_size (b : List UInt8) : (⟨b.toArray⟩ : ByteArray).size = b.length := by simp [Go.Lib.size_eq]
theorem str_to (b : List UInt8) (j : Nat) (h : j ≤ b.length) (w : World) : (Instr.slice 9 (.string ⟨b.toArray⟩) none (some (.int .i64 (j : Int))) none).run Tryz.prog w = .ok (.string ⟨(b.take j).toArray⟩) w := by
  have hsz := arr_size b
  rw [run_slice_string_to_if w 9 _ .i64 (j : Int) Tryz.underlying9, if_pos ⟨by omega, by rw [hsz]; omega⟩, ByteArray.extract_mk]
  simp only [Int.toNat_natCast, List.drop_zero, Nat.sub_zero]
theorem cat_str (a c : List UInt8) : (⟨a.toArray⟩ : ByteArray) ++ ⟨c.toArray⟩ = ⟨(a ++ c).toArray⟩ := by
  apply ByteArray.ext
  simp
/-- '+' of texts, kept whole. -/
noncomputable def addS (a c : Value) : Sem Value := binOp .add 9 a c
theorem binop_addS (a c : Value) : binOp .add 9 a c = addS a c := rfl
theorem str_add (a c : List UInt8) (h : a.length + c.length ≤ 100000000) (W : World) : (addS (.string ⟨a.toArray⟩) (.string ⟨c.toArray⟩)).run Tryz.prog W = .ok (.string ⟨(a ++ c).toArray⟩) W := by
  unfold addS
  have ha := arr_size a
  have hc := arr_size c
  rw [binOp_string_add]
  simp [Op.stringOp, cat_str, ha, hc, maxLen]
  omega
/-- Two texts are one. -/
theorem str_eq (a c : List UInt8) : decide ((⟨a.toArray⟩ : ByteArray) = ⟨c.toArray⟩) = decide (a = c) := by
  apply bool_of_iff
  simp
theorem scell_one (b : List UInt8) : ∀ u ∈ scell b, u.oneCell' = true := by
  intro u hu
  simp [scell] at hu
  rw [hu]; rfl
abbrev Ss (w : World) (v : Value) (l : List (List UInt8)) : Prop := Fs 1 scell w v l
abbrev SOwn (base : Nat) (W : World) (x : Value) (l : List (List UInt8)) : Prop := FOwn 9 1 scell base W x l
theorem infoS : (Tryz.prog.info? 9).map (fun i => (i.zero, i.size, i.bytes)) = some (some (.string ⟨#[]⟩), 1, 16) := by kernel_rfl
noncomputable def appS (args : Array Value) : Sem Next := do pure (.value (← Builtin.append_ #[36, 36] 36 args))
theorem builtin_appS (cs : Array Bool) (args : Array Value) : builtin .append #[36, 36] 36 cs args = appS args := rfl
theorem appS_own {base : Nat} {W : World} {x u : Value} {l m : List (List UInt8)} (h : SOwn base W x l) (hu : Ss W u m) (hb : base ≤ W.heap.size) (hd : l.length + m.length ≤ 1000000) :
    ∃ x' w', (appS #[x, u]).run Tryz.prog W = .ok (.value x') w' ∧ SOwn base w' x' (l ++ m) ∧ W.grownBy w' x.ownBlock ∧ (x'.ownBlock = x.ownBlock ∨ x'.ownBlock = some W.heap.size) := by
  obtain ⟨i0, hi, hz0, hz1, hz2⟩ := info_parts infoS
  obtain ⟨x', w', hr, r⟩ := fapp scell_len scell_one (by decide) Tryz.underlying36 hi hz0 hz1 hz2 rfl (by decide) h hu hb hd
  refine ⟨x', w', ?_, r⟩
  unfold appS
  simp only [Sem.run_bind, Sem.run_pure, Result.andThen_ok, hr]
theorem Ss.at {w : World} {a : Option Addr} {k cap : Nat} {l : List (List UInt8)} (h : Ss w (.slice a k cap) l) {j : Nat} {x : List UInt8} (hj : l[j]? = some x) :
    ∃ b off, a = some ⟨b, off, none⟩ ∧ w.cell? ⟨b, off + j, none⟩ = some (.string ⟨x.toArray⟩) := by
  obtain ⟨a', cap', hv, _, hr⟩ := h
  injection hv with h1 h2 h3
  subst h1
  obtain ⟨b, off, rfl, h0⟩ := hr j x hj
  have := h0 0 _ rfl
  rw [Nat.mul_one] at this
  exact ⟨b, off, rfl, this⟩
/-- '==' and '!=' of texts, kept whole. -/
noncomputable def eqlS (a c : Value) : Sem Value := binOp .eql 9 a c
theorem binop_eqlS (a c : Value) : binOp .eql 9 a c = eqlS a c := rfl
noncomputable def neqS (a c : Value) : Sem Value := binOp .neq 9 a c
theorem binop_neqS (a c : Value) : binOp .neq 9 a c = neqS a c := rfl
theorem eqlS_run (a c : List UInt8) (W : World) : (eqlS (.string ⟨a.toArray⟩) (.string ⟨c.toArray⟩)).run Tryz.prog W = .ok (.bool (decide (a = c))) W := by
  rw [← str_eq]
  unfold eqlS
  simp [go_sem]
  exact bool_of_iff (by simp)
theorem neqS_run (a c : List UInt8) (W : World) : (neqS (.string ⟨a.toArray⟩) (.string ⟨c.toArray⟩)).run Tryz.prog W = .ok (.bool (!decide (a = c))) W := by
  rw [← str_eq]
  unfold neqS
  simp [go_sem]
  exact bool_of_iff (by simp)
attribute [local go_sem ↓ high] binop_eqlS binop_neqS
theorem neqS_same (x : List UInt8) (W : World) : (neqS (.string ⟨x.toArray⟩) (.string ⟨x.toArray⟩)).run Tryz.prog W = .ok (.bool false) W := by
  have := neqS_run x x W
  simpa using this
theorem neqS_other {x y : List UInt8} (h : x ≠ y) (W : World) : (neqS (.string ⟨x.toArray⟩) (.string ⟨y.toArray⟩)).run Tryz.prog W = .ok (.bool true) W := by
  have := neqS_run x y W
  rw [decide_eq_false h] at this
  exact this
end Go.Proofs.YtaeplneiicobgaaGreatDoor
namespace Go.Proofs.YtaeplneiicobgaaGreatDoor
open Go.RowKit
theorem byte_ne {x c : UInt8} (h : x ≠ c) : ((x.toNat : Int) == (c.toNat : Int)) = false := by
  rw [beq_eq_false_iff_ne]
  intro e
  exact h (UInt8.toNat_inj.1 (by omega))
theorem wrap_any9 {q : Int} (h0 : -1000000000 ≤ q) (h1 : q ≤ 1000000000) : IntKind.i64.wrap q = q := by
  simp [IntKind.wrap, IntKind.bits, IntKind.signed]
  omega
theorem take_one9 {α : Type} {b : List α} {j : Nat} {y : α} (hy : b[j]? = some y) : b.take (j + 1) = b.take j ++ [y] := by
  rw [List.take_add_one, hy]
  rfl
theorem drop_one9 {α : Type} {b : List α} {j : Nat} {y : α} (hy : b[j]? = some y) : b.drop j = y :: b.drop (j + 1) := by
  obtain ⟨hlt, hx'⟩ := List.getElem?_eq_some_iff.1 hy
  rw [List.drop_eq_getElem_cons hlt, hx']
structure CutAt (b : Txt) (c : UInt8) (j : Nat) (acc : List Txt) (x : Txt) : Prop where
  eq : cutB c (b.take j) = acc ++ [x]
  nl : acc.length ≤ j
  xl : x.length ≤ j
section
variable {b : Txt} {c : UInt8} {j : Nat} {acc : List Txt} {x : Txt}
theorem CutAt.next (h : CutAt b c j acc x) {y : UInt8} (hy : b[j]? = some y) (hne : y ≠ c) : CutAt b c (j + 1) acc (x ++ [y]) := by
  have h1 := h.nl
  have h2 := h.xl
  refine ⟨?_, by omega, by simp; omega⟩
  rw [take_one9 hy, cut_step, if_neg hne, h.eq]
  simp
end
structure WAt (b : Txt) (j : Nat) (acc : List Txt) (x : Txt) : Prop where
  eq : wordsB b = acc ++ wordsA x (b.drop j)
  nl : acc.length ≤ j
  xl : x.length ≤ j
section
variable {b : Txt} {j : Nat} {acc : List Txt} {x : Txt}
theorem WAt.start (b : Txt) : WAt b 0 [] [] := ⟨by simp [wordsB], by simp, by simp⟩
theorem WAt.next (h : WAt b j acc x) {y : UInt8} (hy : b[j]? = some y) (hs : sepB y = false) : WAt b (j + 1) acc (x ++ [y]) := by
  have h1 := h.nl
  have h2 := h.xl
  refine ⟨?_, by omega, by simp; omega⟩
  rw [h.eq, drop_one9 hy, wordsA, if_neg (by rw [hs]; decide)]
theorem WAt.sep0 (h : WAt b j acc []) {y : UInt8} (hy : b[j]? = some y) (hs : sepB y = true) : WAt b (j + 1) acc [] := by
  have h1 := h.nl
  refine ⟨?_, by omega, by simp⟩
  rw [h.eq, drop_one9 hy, wordsA, if_pos hs, if_pos rfl]
theorem WAt.sep1 (h : WAt b j acc x) (hx : x ≠ []) {y : UInt8} (hy : b[j]? = some y) (hs : sepB y = true) : WAt b (j + 1) (acc ++ [x]) [] := by
  have h1 := h.nl
  refine ⟨?_, by simp; omega, by simp⟩
  rw [h.eq, drop_one9 hy, wordsA, if_pos hs, if_neg hx]
  simp
theorem WAt.fin0 (h : WAt b b.length acc []) : wordsB b = acc := by
  rw [h.eq, List.drop_length, wordsA, if_pos rfl, List.append_nil]
theorem WAt.fin1 (h : WAt b b.length acc x) (hx : x ≠ []) : wordsB b = acc ++ [x] := by
  rw [h.eq, List.drop_length, wordsA, if_neg hx]
end
theorem lookW_app : ∀ (l : List Txt) (w : Txt), lookW (l ++ [w]) = if w = boxW ∨ w = allW then (lookW l).map (fun q => (true, q.2 || w == allW)) else none
  | [], w => rfl
  | v :: l, w => by
    rw [List.cons_append, lookW, lookW_app l w]
    by_cases hv : v = boxW ∨ v = allW
    · rw [if_pos hv]
      by_cases hw : w = boxW ∨ w = allW
      · rw [if_pos hw, if_pos hw, lookW, if_pos hv]
        cases lookW l with
        | none => rfl
        | some q =>
          simp only [Option.map_some, Option.some.injEq, Prod.mk.injEq, true_and]
          rw [Bool.or_assoc, Bool.or_assoc, Bool.or_comm (w == allW)]
      · rw [if_neg hw, if_neg hw]
        rfl
    · rw [if_neg hv]
      by_cases hw : w = boxW ∨ w = allW
      · rw [if_pos hw, lookW, if_neg hv]
        rfl
      · rw [if_neg hw]
theorem lookW_bad (l r : List Txt) (h : lookW l = none) : lookW (l ++ r) = none := by
  induction r generalizing l with
  | nil => rwa [List.append_nil]
  | cons x r ih =>
    have : lookW (l ++ [x]) = none := by
      rw [lookW_app, h]
      split <;> rfl
    have := ih (l ++ [x]) this
    simpa using this
/-- A look so far. -/
def LookAt (L : List Txt) (j : Nat) (bx al : Bool) : Prop := lookW (L.take j) = some (bx, al)
section
variable {L : List Txt} {j : Nat} {bx al : Bool} {w : Txt}
theorem LookAt.box (h : LookAt L j bx al) (hw : L[j]? = some w) (he : w = boxW) : LookAt L (j + 1) true al := by
  unfold LookAt at h ⊢
  rw [take_one9 hw, lookW_app, if_pos (.inl he), h, he]
  simp [boxW, allW]
theorem LookAt.all (h : LookAt L j bx al) (hw : L[j]? = some w) (he : w = allW) : LookAt L (j + 1) true true := by
  unfold LookAt at h ⊢
  rw [take_one9 hw, lookW_app, if_pos (.inr he), h, he]
  simp
theorem LookAt.bad (h : LookAt L j bx al) (hw : L[j]? = some w) (h1 : w ≠ boxW) (h2 : w ≠ allW) : lookW L = none := by
  have h3 : lookW (L.take (j + 1)) = none := by
    rw [take_one9 hw, lookW_app, if_neg (fun e => e.elim h1 h2)]
  have := lookW_bad (L.take (j + 1)) (L.drop (j + 1)) h3
  rwa [List.take_append_drop] at this
end
/-- Columns so far. -/
def colsW (L : List Txt) : Txt × Bool := (L.map (fun w => (colB w).1), L.all (fun w => (colB w).2))
theorem colsW_step {L : List Txt} {j : Nat} {w : Txt} (hw : L[j]? = some w) : colsW (L.take (j + 1)) = ((colsW (L.take j)).1 ++ [(colB w).1], (colsW (L.take j)).2 && (colB w).2) := by
  unfold colsW
  rw [take_one9 hw, List.map_append, List.all_append]
  simp
theorem colB_of {w : Txt} {x : UInt8} (hx : w[0]? = some x) : colB w = if x = 108 ∨ x = 76 then (108, true) else if x = 99 ∨ x = 67 then (99, true) else if x = 114 ∨ x = 82 then (114, true) else (108, false) := by
  unfold colB
  rw [List.head?_eq_getElem?, hx]
theorem colsB_eq (s : Txt) : colsB s = colsW (wordsB (if endsB s 46 then s.dropLast else s)) := rfl
theorem wordsA_num : ∀ (s w : Txt), (wordsA w s).length ≤ s.length + 1
  | [], w => by unfold wordsA; split <;> simp
  | x :: s, w => by
    unfold wordsA
    have h1 := wordsA_num s []
    have h2 := wordsA_num s (w ++ [x])
    simp only [List.length_cons]
    split
    · split
      · omega
      · simp only [List.length_cons]; omega
    · omega
theorem wordsB_num (s : Txt) : (wordsB s).length ≤ s.length + 1 := wordsA_num s []
end Go.Proofs.YtaeplneiicobgaaGreatDoor
namespace Go.Proofs.YtaeplneiicobgaaGreatDoor
open Go.RowKit
attribute [local go_sem ↓ high] binop_eqlS binop_neqS
theorem ends_last {b : Txt} {y c : UInt8} (hy : b[b.length - 1]? = some y) : endsB b c = (y == c) := by
  unfold endsB
  rw [List.getLast?_eq_getElem?, hy]
  rfl
theorem drop_last9 {b : Txt} {y : UInt8} (hp : 0 < b.length) (hy : b[b.length - 1]? = some y) : b.drop (b.length - 1) = [y] := by
  rw [drop_one9 hy, List.drop_of_length_le (by omega)]
set_option maxHeartbeats 4000000 in
theorem slsuf_any (b : Txt) (c : UInt8) (w : World) (hb : b.length ≤ 100000) :
    Calls Tryz.prog 41 #[.string ⟨b.toArray⟩, .string ⟨#[c]⟩] w fun e w' => e = .returned (.bool (endsB b c)) ∧ w = w' := by
  have hsz := arr_size b
  have hsc := arr_size [c]
  by_cases h0 : b = []
  · subst h0
    go_enter Tryz.func41, Tryz.ntmps41
    go_wp2_with fail
    go_ret
    exact ⟨ret_bool rfl, rfl⟩
  · have hp : 0 < b.length := List.length_pos_iff.2 h0
    have hge : (1 : Int) ≤ (b.length : Int) := by omega
    obtain ⟨y, hy⟩ : ∃ y, b[b.length - 1]? = some y := ⟨b[b.length - 1], List.getElem?_eq_getElem (by omega)⟩
    have k0 := str_from b (b.length - 1) (by omega)
    have e : ((b.length - 1 : Nat) : Int) = (b.length : Int) - 1 := by omega
    rw [e, drop_last9 hp hy] at k0
    have k1 : ∀ W, (eqlS (.string ⟨#[y]⟩) (.string ⟨#[c]⟩)).run Tryz.prog W = .ok (.bool (y == c)) W := by
      intro W
      have h := eqlS_run [y] [c] W
      have e : decide ([y] = [c]) = (y == c) := by by_cases q : y = c <;> simp [q]
      rw [e] at h
      exact h
    rw [ends_last hy]
    obtain ⟨z, hz⟩ : ∃ z, (y == c) = z := ⟨_, rfl⟩
    rw [hz] at k1 ⊢
    have h1 : IntKind.i64.wrap ((b.length : Int) - 1) = (b.length : Int) - 1 := wrap_any9 (by omega) (by omega)
    clear hy e hp h0 hz
    go_enter Tryz.func41, Tryz.ntmps41
    go_wp2_with fail
    go_ret
    exact ⟨rfl, rfl⟩
theorem hassuf_any (b : Txt) (c : UInt8) (w : World) (hb : b.length ≤ 100000) :
    Calls Tryz.prog 22 #[.string ⟨b.toArray⟩, .string ⟨#[c]⟩] w fun e w' => e = .returned (.bool (endsB b c)) ∧ w = w' := by
  have H := Lib.hid (slsuf_any b c w hb)
  go_enter Tryz.func22, Tryz.ntmps22
  go_wp2_with (go_at_call 41; refine H.out.mono ?_; rintro e w1 ⟨rfl, rfl⟩)
  go_ret
  exact ⟨rfl, rfl⟩
def noEnd (b : Txt) (c : UInt8) : Txt := if endsB b c then b.dropLast else b
set_option maxHeartbeats 4000000 in
theorem slcut_any (b : Txt) (c : UInt8) (w : World) (hb : b.length ≤ 100000) :
    Calls Tryz.prog 59 #[.string ⟨b.toArray⟩, .string ⟨#[c]⟩] w fun e w' => e = .returned (.tuple #[.string ⟨(noEnd b c).toArray⟩, .bool (endsB b c)]) ∧ w = w' := by
  have H := Lib.hid (slsuf_any b c w hb)
  have hsz := arr_size b
  have hsc := arr_size [c]
  unfold noEnd
  cases he : endsB b c
  · rw [he] at H
    rw [if_neg (by simp)]
    go_enter Tryz.func59, Tryz.ntmps59
    go_wp2_with (go_at_call 41; refine H.out.mono ?_; rintro e w1 ⟨rfl, rfl⟩)
    go_ret2
    exact ⟨rfl, rfl⟩
  · rw [he] at H
    rw [if_pos rfl]
    have hp : 0 < b.length := by
      rcases b with _ | ⟨x, r⟩
      · simp [endsB] at he
      · simp
    have k0 := str_to b (b.length - 1) (by omega)
    have e : ((b.length - 1 : Nat) : Int) = (b.length : Int) - 1 := by omega
    have e2 : b.take (b.length - 1) = b.dropLast := by rw [List.dropLast_eq_take]
    rw [e, e2] at k0
    have h1 : IntKind.i64.wrap ((b.length : Int) - 1) = (b.length : Int) - 1 := wrap_any9 (by omega) (by omega)
    obtain ⟨d, hd⟩ : ∃ d, b.dropLast = d := ⟨_, rfl⟩
    rw [hd] at k0 ⊢
    clear hd e e2 he hp
    go_enter Tryz.func59, Tryz.ntmps59
    go_wp2_with (go_at_call 41; refine H.out.mono ?_; rintro e w1 ⟨rfl, rfl⟩)
    go_ret2
    exact ⟨rfl, rfl⟩
theorem cutsuf_any (b : Txt) (c : UInt8) (w : World) (hb : b.length ≤ 100000) :
    Calls Tryz.prog 42 #[.string ⟨b.toArray⟩, .string ⟨#[c]⟩] w fun e w' => e = .returned (.tuple #[.string ⟨(noEnd b c).toArray⟩, .bool (endsB b c)]) ∧ w = w' := by
  have H := Lib.hid (slcut_any b c w hb)
  go_enter Tryz.func42, Tryz.ntmps42
  go_wp2_with (go_at_call 59; refine H.out.mono ?_; rintro e w1 ⟨rfl, rfl⟩)
  go_ret2
  exact ⟨rfl, rfl⟩
set_option maxHeartbeats 4000000 in
theorem sltrim_any (b : Txt) (c : UInt8) (w : World) (hb : b.length ≤ 100000) :
    Calls Tryz.prog 78 #[.string ⟨b.toArray⟩, .string ⟨#[c]⟩] w fun e w' => e = .returned (.string ⟨(noEnd b c).toArray⟩) ∧ w = w' := by
  have H := Lib.hid (slsuf_any b c w hb)
  have hsz := arr_size b
  have hsc := arr_size [c]
  unfold noEnd
  cases he : endsB b c
  · rw [he] at H
    rw [if_neg (by simp)]
    go_enter Tryz.func78, Tryz.ntmps78
    go_wp2_with (go_at_call 41; refine H.out.mono ?_; rintro e w1 ⟨rfl, rfl⟩)
    go_ret
    exact ⟨rfl, rfl⟩
  · rw [he] at H
    rw [if_pos rfl]
    have hp : 0 < b.length := by
      rcases b with _ | ⟨x, r⟩
      · simp [endsB] at he
      · simp
    have k0 := str_to b (b.length - 1) (by omega)
    have e : ((b.length - 1 : Nat) : Int) = (b.length : Int) - 1 := by omega
    have e2 : b.take (b.length - 1) = b.dropLast := by rw [List.dropLast_eq_take]
    rw [e, e2] at k0
    have h1 : IntKind.i64.wrap ((b.length : Int) - 1) = (b.length : Int) - 1 := wrap_any9 (by omega) (by omega)
    obtain ⟨d, hd⟩ : ∃ d, b.dropLast = d := ⟨_, rfl⟩
    rw [hd] at k0 ⊢
    clear hd e e2 he hp
    go_enter Tryz.func78, Tryz.ntmps78
    go_wp2_with (go_at_call 41; refine H.out.mono ?_; rintro e w1 ⟨rfl, rfl⟩)
    go_ret
    exact ⟨rfl, rfl⟩
theorem trimsuf_any (b : Txt) (c : UInt8) (w : World) (hb : b.length ≤ 100000) :
    Calls Tryz.prog 62 #[.string ⟨b.toArray⟩, .string ⟨#[c]⟩] w fun e w' => e = .returned (.string ⟨(noEnd b c).toArray⟩) ∧ w = w' := by
  have H := Lib.hid (sltrim_any b c w hb)
  go_enter Tryz.func62, Tryz.ntmps62
  go_wp2_with (go_at_call 78; refine H.out.mono ?_; rintro e w1 ⟨rfl, rfl⟩)
  go_ret
  exact ⟨rfl, rfl⟩
set_option maxHeartbeats 4000000 in
theorem slpre_any (b : Txt) (c d : UInt8) (w : World) (hb : b.length ≤ 100000) :
    Calls Tryz.prog 64 #[.string ⟨b.toArray⟩, .string ⟨#[c, d]⟩] w fun e w' => e = .returned (.bool (b.take 2 == [c, d])) ∧ w = w' := by
  have hsz := arr_size b
  have hsc := arr_size [c, d]
  by_cases h0 : b.length < 2
  · have hf : (b.take 2 == [c, d]) = false := by
      rw [List.take_of_length_le (by omega)]
      rcases b with _ | ⟨x, _ | ⟨y, r⟩⟩
      · rfl
      · simp
      · simp at h0; omega
    rw [hf]
    have hge : ¬ (2 : Int) ≤ (b.length : Int) := by omega
    clear hf
    go_enter Tryz.func64, Tryz.ntmps64
    go_wp2_with fail
    go_ret
    exact ⟨rfl, rfl⟩
  · have hge : (2 : Int) ≤ (b.length : Int) := by omega
    have k0 : ∀ W, (Instr.slice 9 (.string ⟨b.toArray⟩) none (some (.int .i64 2)) none).run Tryz.prog W = .ok (.string ⟨(b.take 2).toArray⟩) W := str_to b 2 (by omega)
    obtain ⟨t, ht⟩ : ∃ t, b.take 2 = t := ⟨_, rfl⟩
    rw [ht] at k0 ⊢
    have k1 : ∀ W, (eqlS (.string ⟨t.toArray⟩) (.string ⟨#[c, d]⟩)).run Tryz.prog W = .ok (.bool (t == [c, d])) W := by
      intro W
      have h := eqlS_run t [c, d] W
      have e : decide (t = [c, d]) = (t == [c, d]) := by by_cases q : t = [c, d] <;> simp [q]
      rw [e] at h
      exact h
    obtain ⟨z, hz⟩ : ∃ z, (t == [c, d]) = z := ⟨_, rfl⟩
    rw [hz] at k1 ⊢
    clear ht hz h0
    go_enter Tryz.func64, Tryz.ntmps64
    go_wp2_with fail
    go_ret
    exact ⟨rfl, rfl⟩
theorem haspre_any (b : Txt) (c d : UInt8) (w : World) (hb : b.length ≤ 100000) :
    Calls Tryz.prog 45 #[.string ⟨b.toArray⟩, .string ⟨#[c, d]⟩] w fun e w' => e = .returned (.bool (b.take 2 == [c, d])) ∧ w = w' := by
  have H := Lib.hid (slpre_any b c d w hb)
  go_enter Tryz.func45, Tryz.ntmps45
  go_wp2_with (go_at_call 64; refine H.out.mono ?_; rintro e w1 ⟨rfl, rfl⟩)
  go_ret
  exact ⟨rfl, rfl⟩
end Go.Proofs.YtaeplneiicobgaaGreatDoor
namespace Go.Proofs.YtaeplneiicobgaaGreatDoor
open Go.Shelf Go.RowKit Go.Lib
def mapRen : Go.Shelf.Ren := ⟨fun | 230 => 50 | 197 => 68 | 118 => 69 | 165 => 33 | 166 => 34 | 168 => 58 | 270 => 70 | 167 => 63 | 169 => 35 | 260 => 87 | 240 => 52 | 241 => 53 | 242 => 76 | 276 => 71 | 277 => 72 | 278 => 92 | n => n, fun | 107 => 95 | 9 => 9 | 72 => 72 | 0 => 0 | 4 => 4 | 3 => 3 | 21 => 21 | 105 => 111 | 76 => 76 | 5 => 5 | 75 => 75 | 70 => 69 | 20 => 20 | 37 => 70 | 127 => 98 | 119 => 135 | 46 => 131 | 139 => 138 | 138 => 137 | 164 => 114 | 51 => 132 | 80 => 78 | n => n, fun | 3 => 1 | 4 => 2 | n => n⟩
theorem mapLays : Go.Proofs.Lays.n230 Tryz.prog mapRen := {
  mixed := by kernel_rfl
  f118 := Tryz.func69.trans (congrArg some (by kernel_rfl))
  f165 := Tryz.func33.trans (congrArg some (by kernel_rfl))
  f166 := Tryz.func34.trans (congrArg some (by kernel_rfl))
  f167 := Tryz.func63.trans (congrArg some (by kernel_rfl))
  f168 := Tryz.func58.trans (congrArg some (by kernel_rfl))
  f169 := Tryz.func35.trans (congrArg some (by kernel_rfl))
  f197 := Tryz.func68.trans (congrArg some (by kernel_rfl))
  f230 := Tryz.func50.trans (congrArg some (by kernel_rfl))
  f240 := Tryz.func52.trans (congrArg some (by kernel_rfl))
  f241 := Tryz.func53.trans (congrArg some (by kernel_rfl))
  f242 := Tryz.func76.trans (congrArg some (by kernel_rfl))
  f260 := Tryz.func87.trans (congrArg some (by kernel_rfl))
  f270 := Tryz.func70.trans (congrArg some (by kernel_rfl))
  f276 := Tryz.func71.trans (congrArg some (by kernel_rfl))
  f277 := Tryz.func72.trans (congrArg some (by kernel_rfl))
  f278 := Tryz.func92.trans (congrArg some (by kernel_rfl))
  t0 := Tryz.underlying0
  a0 := Tryz.isAgg0
  z0 := Tryz.sizeOf0
  v0 := Tryz.zeroValue0
  t3 := Tryz.underlying3
  a3 := Tryz.isAgg3
  z3 := Tryz.sizeOf3
  v3 := Tryz.zeroValue3
  t4 := Tryz.underlying4
  a4 := Tryz.isAgg4
  z4 := Tryz.sizeOf4
  v4 := Tryz.zeroValue4
  t5 := Tryz.underlying5
  a5 := Tryz.isAgg5
  z5 := Tryz.sizeOf5
  v5 := Tryz.zeroValue5
  t9 := Tryz.underlying9
  a9 := Tryz.isAgg9
  z9 := Tryz.sizeOf9
  v9 := Tryz.zeroValue9
  t20 := Tryz.underlying20
  a20 := Tryz.isAgg20
  z20 := Tryz.sizeOf20
  v20 := Tryz.zeroValue20
  t21 := Tryz.underlying21
  a21 := Tryz.isAgg21
  z21 := Tryz.sizeOf21
  v21 := Tryz.zeroValue21
  t37 := Tryz.underlying70
  a37 := Tryz.isAgg70
  z37 := Tryz.sizeOf70
  v37 := Tryz.zeroValue70
  t46 := Tryz.underlying131
  a46 := Tryz.isAgg131
  z46 := Tryz.sizeOf131
  v46 := Tryz.zeroValue131
  t51 := Tryz.underlying132
  a51 := Tryz.isAgg132
  z51 := Tryz.sizeOf132
  v51 := Tryz.zeroValue132
  t70 := Tryz.underlying69
  a70 := Tryz.isAgg69
  z70 := Tryz.sizeOf69
  v70 := Tryz.zeroValue69
  t72 := Tryz.underlying72
  a72 := Tryz.isAgg72
  z72 := Tryz.sizeOf72
  v72 := Tryz.zeroValue72
  t75 := Tryz.underlying75
  a75 := Tryz.isAgg75
  z75 := Tryz.sizeOf75
  v75 := Tryz.zeroValue75
  t76 := Tryz.underlying76
  a76 := Tryz.isAgg76
  z76 := Tryz.sizeOf76
  v76 := Tryz.zeroValue76
  t105 := Tryz.underlying111
  a105 := Tryz.isAgg111
  z105 := Tryz.sizeOf111
  v105 := Tryz.zeroValue111
  t107 := Tryz.underlying95
  a107 := Tryz.isAgg95
  z107 := Tryz.sizeOf95
  v107 := Tryz.zeroValue95
  t119 := Tryz.underlying135
  a119 := Tryz.isAgg135
  z119 := Tryz.sizeOf135
  t127 := Tryz.underlying98
  a127 := Tryz.isAgg98
  z127 := Tryz.sizeOf98
  v127 := Tryz.zeroValue98
  t138 := Tryz.underlying137
  a138 := Tryz.isAgg137
  z138 := Tryz.sizeOf137
  v138 := Tryz.zeroValue137
  t139 := Tryz.underlying138
  a139 := Tryz.isAgg138
  z139 := Tryz.sizeOf138
  v139 := Tryz.zeroValue138
  t164 := Tryz.underlying114
  a164 := Tryz.isAgg114
  z164 := Tryz.sizeOf114
  v164 := Tryz.zeroValue114
  g3 := by kernel_rfl
  g4 := by kernel_rfl }
theorem mapExtra : Builder.Extra Tryz.prog mapRen := {
  sizeBuilder := by kernel_rfl
  liesBuilder := by kernel_rfl
  t5 := Tryz.underlying5
  a5 := Tryz.isAgg5
  z5 := Tryz.sizeOf5
  v5 := Tryz.zeroValue5
  infoByte := by kernel_rfl
  cellsByte := by kernel_rfl
  sizeByte := by kernel_rfl
  neB5 := by decide }
def splRen : Go.Shelf.Ren := ⟨fun | 221 => 36 | 268 => 54 | 138 => 55 | 143 => 56 | 195 => 73 | 197 => 68 | 218 => 74 | 219 => 75 | 260 => 87 | 217 => 88 | 225 => 89 | 224 => 90 | 267 => 91 | 266 => 96 | 314 => 97 | n => n, fun | 9 => 9 | 3 => 3 | 31 => 36 | 4 => 4 | 0 => 0 | 105 => 111 | 21 => 21 | 5 => 5 | 46 => 131 | 119 => 135 | 139 => 138 | 138 => 137 | 146 => 139 | 51 => 132 | n => n, fun | 1 => 0 | 3 => 1 | 4 => 2 | n => n⟩
theorem splLays : Go.Proofs.Lays.n221 Tryz.prog splRen := {
  mixed := by kernel_rfl
  f138 := Tryz.func55.trans (congrArg some (by kernel_rfl))
  f143 := Tryz.func56.trans (congrArg some (by kernel_rfl))
  f195 := Tryz.func73.trans (congrArg some (by kernel_rfl))
  f197 := Tryz.func68.trans (congrArg some (by kernel_rfl))
  f217 := Tryz.func88.trans (congrArg some (by kernel_rfl))
  f218 := Tryz.func74.trans (congrArg some (by kernel_rfl))
  f219 := Tryz.func75.trans (congrArg some (by kernel_rfl))
  f221 := Tryz.func36.trans (congrArg some (by kernel_rfl))
  f224 := Tryz.func90.trans (congrArg some (by kernel_rfl))
  f225 := Tryz.func89.trans (congrArg some (by kernel_rfl))
  f260 := Tryz.func87.trans (congrArg some (by kernel_rfl))
  f266 := Tryz.func96.trans (congrArg some (by kernel_rfl))
  f267 := Tryz.func91.trans (congrArg some (by kernel_rfl))
  f268 := Tryz.func54.trans (congrArg some (by kernel_rfl))
  f314 := Tryz.func97.trans (congrArg some (by kernel_rfl))
  t0 := Tryz.underlying0
  a0 := Tryz.isAgg0
  z0 := Tryz.sizeOf0
  v0 := Tryz.zeroValue0
  t3 := Tryz.underlying3
  a3 := Tryz.isAgg3
  z3 := Tryz.sizeOf3
  v3 := Tryz.zeroValue3
  t4 := Tryz.underlying4
  a4 := Tryz.isAgg4
  z4 := Tryz.sizeOf4
  v4 := Tryz.zeroValue4
  t5 := Tryz.underlying5
  a5 := Tryz.isAgg5
  z5 := Tryz.sizeOf5
  v5 := Tryz.zeroValue5
  t9 := Tryz.underlying9
  a9 := Tryz.isAgg9
  z9 := Tryz.sizeOf9
  v9 := Tryz.zeroValue9
  t21 := Tryz.underlying21
  a21 := Tryz.isAgg21
  z21 := Tryz.sizeOf21
  v21 := Tryz.zeroValue21
  t31 := Tryz.underlying36
  a31 := Tryz.isAgg36
  z31 := Tryz.sizeOf36
  v31 := Tryz.zeroValue36
  t46 := Tryz.underlying131
  a46 := Tryz.isAgg131
  z46 := Tryz.sizeOf131
  v46 := Tryz.zeroValue131
  t51 := Tryz.underlying132
  a51 := Tryz.isAgg132
  z51 := Tryz.sizeOf132
  v51 := Tryz.zeroValue132
  t105 := Tryz.underlying111
  a105 := Tryz.isAgg111
  z105 := Tryz.sizeOf111
  v105 := Tryz.zeroValue111
  t119 := Tryz.underlying135
  a119 := Tryz.isAgg135
  z119 := Tryz.sizeOf135
  t138 := Tryz.underlying137
  a138 := Tryz.isAgg137
  z138 := Tryz.sizeOf137
  v138 := Tryz.zeroValue137
  t139 := Tryz.underlying138
  a139 := Tryz.isAgg138
  z139 := Tryz.sizeOf138
  v139 := Tryz.zeroValue138
  t146 := Tryz.underlying139
  a146 := Tryz.isAgg139
  z146 := Tryz.sizeOf139
  v146 := Tryz.zeroValue139
  g1 := by kernel_rfl
  g3 := by kernel_rfl
  g4 := by kernel_rfl }
def joiRen : Go.Shelf.Ren := ⟨fun | 156 => 16 | 165 => 33 | 166 => 34 | 169 => 35 | 240 => 52 | 241 => 53 | 276 => 71 | 277 => 72 | n => n, fun | 31 => 36 | 9 => 9 | 3 => 3 | 4 => 4 | 0 => 0 | 20 => 20 | 72 => 72 | 76 => 76 | 70 => 69 | 37 => 70 | 75 => 75 | 127 => 98 | 164 => 114 | 5 => 5 | 80 => 78 | n => n, fun | n => n⟩
theorem joiLays : Go.Proofs.Lays.n156 Tryz.prog joiRen := {
  mixed := by kernel_rfl
  f156 := Tryz.func16.trans (congrArg some (by kernel_rfl))
  f165 := Tryz.func33.trans (congrArg some (by kernel_rfl))
  f166 := Tryz.func34.trans (congrArg some (by kernel_rfl))
  f169 := Tryz.func35.trans (congrArg some (by kernel_rfl))
  f240 := Tryz.func52.trans (congrArg some (by kernel_rfl))
  f241 := Tryz.func53.trans (congrArg some (by kernel_rfl))
  f276 := Tryz.func71.trans (congrArg some (by kernel_rfl))
  f277 := Tryz.func72.trans (congrArg some (by kernel_rfl))
  t0 := Tryz.underlying0
  a0 := Tryz.isAgg0
  z0 := Tryz.sizeOf0
  v0 := Tryz.zeroValue0
  t3 := Tryz.underlying3
  a3 := Tryz.isAgg3
  z3 := Tryz.sizeOf3
  v3 := Tryz.zeroValue3
  t4 := Tryz.underlying4
  a4 := Tryz.isAgg4
  z4 := Tryz.sizeOf4
  v4 := Tryz.zeroValue4
  t9 := Tryz.underlying9
  a9 := Tryz.isAgg9
  z9 := Tryz.sizeOf9
  v9 := Tryz.zeroValue9
  t20 := Tryz.underlying20
  a20 := Tryz.isAgg20
  z20 := Tryz.sizeOf20
  v20 := Tryz.zeroValue20
  t31 := Tryz.underlying36
  a31 := Tryz.isAgg36
  z31 := Tryz.sizeOf36
  v31 := Tryz.zeroValue36
  t37 := Tryz.underlying70
  a37 := Tryz.isAgg70
  z37 := Tryz.sizeOf70
  v37 := Tryz.zeroValue70
  t70 := Tryz.underlying69
  a70 := Tryz.isAgg69
  z70 := Tryz.sizeOf69
  v70 := Tryz.zeroValue69
  t72 := Tryz.underlying72
  a72 := Tryz.isAgg72
  z72 := Tryz.sizeOf72
  v72 := Tryz.zeroValue72
  t75 := Tryz.underlying75
  a75 := Tryz.isAgg75
  z75 := Tryz.sizeOf75
  v75 := Tryz.zeroValue75
  t76 := Tryz.underlying76
  a76 := Tryz.isAgg76
  z76 := Tryz.sizeOf76
  v76 := Tryz.zeroValue76
  t127 := Tryz.underlying98
  a127 := Tryz.isAgg98
  z127 := Tryz.sizeOf98
  v127 := Tryz.zeroValue98
  t164 := Tryz.underlying114
  a164 := Tryz.isAgg114
  z164 := Tryz.sizeOf114
  v164 := Tryz.zeroValue114 }
theorem joiExtra : Builder.Extra Tryz.prog joiRen := {
  sizeBuilder := by kernel_rfl
  liesBuilder := by kernel_rfl
  t5 := Tryz.underlying5
  a5 := Tryz.isAgg5
  z5 := Tryz.sizeOf5
  v5 := Tryz.zeroValue5
  infoByte := by kernel_rfl
  cellsByte := by kernel_rfl
  sizeByte := by kernel_rfl
  neB5 := by decide }
def chsRen : Go.Shelf.Ren := ⟨fun | 146 => 17 | 221 => 36 | 268 => 54 | 138 => 55 | 143 => 56 | 195 => 73 | 197 => 68 | 218 => 74 | 219 => 75 | 260 => 87 | 217 => 88 | 225 => 89 | 224 => 90 | 267 => 91 | 266 => 96 | 314 => 97 | n => n, fun | 9 => 9 | 31 => 36 | 3 => 3 | 4 => 4 | 0 => 0 | 105 => 111 | 21 => 21 | 5 => 5 | 46 => 131 | 119 => 135 | 139 => 138 | 138 => 137 | 146 => 139 | 51 => 132 | n => n, fun | 1 => 0 | 3 => 1 | 4 => 2 | n => n⟩
theorem chsLays : Go.Proofs.Lays.n146 Tryz.prog chsRen := {
  mixed := by kernel_rfl
  f138 := Tryz.func55.trans (congrArg some (by kernel_rfl))
  f143 := Tryz.func56.trans (congrArg some (by kernel_rfl))
  f146 := Tryz.func17.trans (congrArg some (by kernel_rfl))
  f195 := Tryz.func73.trans (congrArg some (by kernel_rfl))
  f197 := Tryz.func68.trans (congrArg some (by kernel_rfl))
  f217 := Tryz.func88.trans (congrArg some (by kernel_rfl))
  f218 := Tryz.func74.trans (congrArg some (by kernel_rfl))
  f219 := Tryz.func75.trans (congrArg some (by kernel_rfl))
  f221 := Tryz.func36.trans (congrArg some (by kernel_rfl))
  f224 := Tryz.func90.trans (congrArg some (by kernel_rfl))
  f225 := Tryz.func89.trans (congrArg some (by kernel_rfl))
  f260 := Tryz.func87.trans (congrArg some (by kernel_rfl))
  f266 := Tryz.func96.trans (congrArg some (by kernel_rfl))
  f267 := Tryz.func91.trans (congrArg some (by kernel_rfl))
  f268 := Tryz.func54.trans (congrArg some (by kernel_rfl))
  f314 := Tryz.func97.trans (congrArg some (by kernel_rfl))
  t0 := Tryz.underlying0
  a0 := Tryz.isAgg0
  z0 := Tryz.sizeOf0
  v0 := Tryz.zeroValue0
  t3 := Tryz.underlying3
  a3 := Tryz.isAgg3
  z3 := Tryz.sizeOf3
  v3 := Tryz.zeroValue3
  t4 := Tryz.underlying4
  a4 := Tryz.isAgg4
  z4 := Tryz.sizeOf4
  v4 := Tryz.zeroValue4
  t5 := Tryz.underlying5
  a5 := Tryz.isAgg5
  z5 := Tryz.sizeOf5
  v5 := Tryz.zeroValue5
  t9 := Tryz.underlying9
  a9 := Tryz.isAgg9
  z9 := Tryz.sizeOf9
  v9 := Tryz.zeroValue9
  t21 := Tryz.underlying21
  a21 := Tryz.isAgg21
  z21 := Tryz.sizeOf21
  v21 := Tryz.zeroValue21
  t31 := Tryz.underlying36
  a31 := Tryz.isAgg36
  z31 := Tryz.sizeOf36
  v31 := Tryz.zeroValue36
  t46 := Tryz.underlying131
  a46 := Tryz.isAgg131
  z46 := Tryz.sizeOf131
  v46 := Tryz.zeroValue131
  t51 := Tryz.underlying132
  a51 := Tryz.isAgg132
  z51 := Tryz.sizeOf132
  v51 := Tryz.zeroValue132
  t105 := Tryz.underlying111
  a105 := Tryz.isAgg111
  z105 := Tryz.sizeOf111
  v105 := Tryz.zeroValue111
  t119 := Tryz.underlying135
  a119 := Tryz.isAgg135
  z119 := Tryz.sizeOf135
  t138 := Tryz.underlying137
  a138 := Tryz.isAgg137
  z138 := Tryz.sizeOf137
  v138 := Tryz.zeroValue137
  t139 := Tryz.underlying138
  a139 := Tryz.isAgg138
  z139 := Tryz.sizeOf138
  v139 := Tryz.zeroValue138
  t146 := Tryz.underlying139
  a146 := Tryz.isAgg139
  z146 := Tryz.sizeOf139
  v146 := Tryz.zeroValue139
  g1 := by kernel_rfl
  g3 := by kernel_rfl
  g4 := by kernel_rfl }
theorem smap_any (g : Nat) (lb : Array Value) (eg : ∀ args w, (callFunc g args).run Tryz.prog w = .ok (.enter g args) w) (f : Int → Int) (s : ByteArray) (w : World) (hs : s.size < 35184372088832) (hf : MapGrows Tryz.prog g lb f w) (hnn : ∀ x : Nat, x ≤ 1114111 → -2147483648 ≤ f x ∧ f x ≤ 2147483647) (hT : U8 w) :
    Calls Tryz.prog 50 #[.func (.func g) #[] lb, .string s] w fun e w' => e = .returned (.string ⟨(Lib.mapD f s.data.toList).toArray⟩) ∧ Below w.heap.size w w' := Any.strings_Map_grows mapLays mapExtra g lb eg f s w hs hf hnn hT
theorem udecode_any (b : List UInt8) (w : World) (hT : U8 w) :
    Calls Tryz.prog 68 #[.string ⟨b.toArray⟩] w fun e w' => e = .returned (.tuple #[.int .i32 (Lib.decodeGo ⟨b.toArray⟩).1, .int .i64 (Lib.decodeGo ⟨b.toArray⟩).2]) ∧ Below w.heap.size w w' := Any.utf8_DecodeRuneInString { mapLays with } ⟨b.toArray⟩ w hT
theorem wbyte_any (B b : Nat) (l : List UInt8) (c : UInt8) (w : World) (h : Lib.IsBuilderF 72 5 B b (Lib.byteCells l) w) (hlen : l.length ≤ 100000000) (hBw : B ≤ w.heap.size) :
    Calls Tryz.prog 63 #[.pointer (some ⟨b, 0, none⟩), .int .u8 (c.toNat : Int)] w fun e w' => e = .returned .nilIface ∧ (Lib.IsBuilderF 72 5 B b (Lib.byteCells (l ++ [c])) w' ∧ Below B w w' ∧ Lib.OthersKept 5 (some b) w w') := by
  refine (Any.Builder_WriteByte_k { mapLays with } mapExtra B b (Lib.byteCells l) c.toNat w h (by simp [Lib.byteCells]; omega) hBw).mono ?_
  rintro e w' ⟨rfl, h1, h2, h3⟩
  refine ⟨rfl, ?_, h2, h3⟩
  have e : Lib.byteCells (l ++ [c]) = Lib.byteCells l ++ [.int .u8 (c.toNat : Int)] := by simp [Lib.byteCells]
  rw [e]
  exact .inr h1
theorem bstring_any (B b : Nat) (l : List UInt8) (w : World) (h : Lib.IsBuilderF 72 5 B b (Lib.byteCells l) w) (hBw : B ≤ w.heap.size) :
    Calls Tryz.prog 35 #[.pointer (some ⟨b, 0, none⟩)] w fun e w' => e = .returned (.string ⟨l.toArray⟩) ∧ (Lib.IsBuilderF 72 5 B b (Lib.byteCells l) w' ∧ Below B w w' ∧ Lib.OthersKept 5 (some b) w w') :=
  Any.Builder_String_any_k { mapLays with } mapExtra B b l w h hBw
theorem infoStr : (Tryz.prog.info? 9).map (fun i => (i.zero, i.size, i.bytes)) = some (some (.string ByteArray.empty), 1, 16) := by kernel_rfl
theorem gsplit_any (s : ByteArray) (c : UInt8) (w : World) (hs : s.size < 4294967281) :
    Calls Tryz.prog 36 #[.string s, .string ⟨#[c]⟩, .int .i64 0, .int .i64 (-1)] w fun e w' =>
      e = .returned (.slice (some ⟨w.heap.size, 0, none⟩) (Lib.splitB ⟨#[c]⟩ 0 (Lib.countB s ⟨#[c]⟩) s).length (Lib.countB s ⟨#[c]⟩ + 1)) ∧ w' = w.alloc (.cells (Lib.cellsOf (Lib.splitB ⟨#[c]⟩ 0 (Lib.countB s ⟨#[c]⟩) s) (Lib.countB s ⟨#[c]⟩ + 1)) 9) := by
  have h1 : 1 ≤ (⟨#[c]⟩ : ByteArray).size := Nat.le_refl _
  have hle := Lib.countB_le ⟨#[c]⟩ h1 s.size s (Nat.le_refl _)
  have h := Any.strings_genSplit_core splLays infoStr s ⟨#[c]⟩ 0 (-1) (Lib.countB s ⟨#[c]⟩ + 1) w hs h1 (Nat.zero_le _)
    (fun x d hx => (Any.strings_Index_one { splLays with } x c _).mono fun e w' ⟨he, hw⟩ => ⟨by rw [he]; show _ = Ending.returned (Value.int .i64 (Lib.index x.data.toList [c])); rw [Lib.index_one], hw⟩)
    ((Any.strings_Count_one { splLays with } s c w).mono fun e w' ⟨he, hw⟩ => ⟨by rw [he]; show _ = Ending.returned (Value.int .i64 ((Lib.count s.data.toList [c] : Nat) : Int)); rw [Lib.count_one]; rfl, hw⟩)
    (by decide) (by decide) (by rw [if_pos (by decide)]; omega)
  rw [Nat.add_sub_cancel] at h
  exact h
theorem wrune_any (B b : Nat) (bs : List Value) (r : Int) (hr0 : -2147483648 ≤ r) (hr1 : r ≤ 2147483647) (w : World) (h : Lib.IsBuilderF 72 5 B b bs w) (hlen : bs.length + 4 ≤ 140737488355328) (hBw : B ≤ w.heap.size) :
    Calls Tryz.prog 58 #[.pointer (some ⟨b, 0, none⟩), .int .i32 r] w fun e w' => e = .returned (.tuple #[.int .i64 (Lib.runeCells r).length, .nilIface]) ∧ (Lib.IsBuilderF 72 5 B b (bs ++ Lib.runeCells r) w' ∧ Below B w w' ∧ Lib.OthersKept 5 (some b) w w') :=
  (Any.Builder_WriteRune_k { mapLays with } mapExtra B b bs r hr0 hr1 w h hlen hBw).mono fun e w' ⟨h0, h1, h2, h3⟩ => ⟨h0, .inr h1, h2, h3⟩
theorem bjoin_any9 (bk o c : Nat) (xs : List ByteArray) (sep : ByteArray) (w : World)
    (hcells : ∀ (j : Nat) x, xs[j]? = some x → w.cell? ⟨bk, o + j, none⟩ = some (.string x))
    (hbk : bk < w.heap.size) (hN : xs.length ≤ 140737488355328) (hcap : xs.length ≤ c)
    (hlen : (Lib.join (xs.map (·.data.toList)) sep.data.toList).length ≤ 140737488355328) :
    Calls Tryz.prog 16 #[.slice (some ⟨bk, o, none⟩) xs.length c, .string sep] w fun e w' => e = .returned (.string ⟨(Lib.join (xs.map (·.data.toList)) sep.data.toList).toArray⟩) ∧ Below w.heap.size w w' := Any.strings_Join joiLays joiExtra bk o c xs sep w hcells hbk hN hcap hlen
theorem chars_any (s : ByteArray) (w : World) (hs : s.size < 4294967281) (hascii : ∀ (j : Nat) b, s.data.toList[j]? = some b → b.toNat < 128) :
    Calls Tryz.prog 17 #[.string s, .string ⟨#[]⟩] w fun e w' =>
      e = .returned (.slice (some ⟨(w.iter s s.size).heap.size, 0, none⟩) s.size s.size) ∧ w' = (w.iter s s.size).alloc (.cells ((Lib.charsB s).map Value.string).toArray 9) := Any.strings_Split_chars chsLays infoStr s ⟨#[]⟩ w rfl hs hascii
end Go.Proofs.YtaeplneiicobgaaGreatDoor
namespace Go.Proofs.YtaeplneiicobgaaGreatDoor
open Go.RowKit Go.Lib
def colI (x : Int) : Bool := x == 108 || x == 99 || x == 114
def keepI (x : Int) : Int := if colI x then x else -1
theorem col_side (b : UInt8) : colI (b.toNat : Int) = side b := by
  unfold colI side
  have e : ∀ k : UInt8, ((b.toNat : Int) == (k.toNat : Int)) = (b == k) := fun k => by
    rw [Bool.eq_iff_iff]
    simp only [beq_iff_eq]
    constructor
    · intro h
      have h' : b.toNat = k.toNat := by omega
      exact UInt8.toNat_inj.1 h'
    · rintro rfl; rfl
  rw [← e 108, ← e 99, ← e 114]
  rfl
theorem col_high {x : Int} (h : 128 ≤ x) : colI x = false := by
  unfold colI
  have h1 : (x == 108) = false := by simp; omega
  have h2 : (x == 99) = false := by simp; omega
  have h3 : (x == 114) = false := by simp; omega
  rw [h1, h2, h3]; rfl
theorem side_high {b : UInt8} (h : 128 ≤ b.toNat) : side b = false := by rw [← col_side]; exact col_high (by omega)
theorem high_cont {b : UInt8} (h : b.toNat / 64 = 2) : side b = false := side_high (by omega)
/-- What a rune of more than one byte takes has no sign of a column. -/
theorem drop_side (b : UInt8) (t : List UInt8) (h : 128 ≤ b.toNat) : (b :: t).filter side = ((b :: t).drop (decodeL (b :: t)).2).filter side := by
  have hb := side_high h
  rw [decodeL_N]
  rcases decodeN_shape (b :: t).length ((b :: t).getD 0 0).toNat ((b :: t).getD 1 0).toNat ((b :: t).getD 2 0).toNat ((b :: t).getD 3 0).toNat with ⟨c, e⟩ | ⟨c1, c2, c3, cv, e⟩ | ⟨c1, c2, c3, c4, cv, cs, e⟩ | ⟨c1, c2, c3, c4, c5, cv, cw, e⟩ | e
  · exfalso
    have : ((b :: t).getD 0 0) = b := rfl
    rw [this] at c
    omega
  · rw [e]
    rcases t with _ | ⟨x1, t⟩
    · simp at c2
    · have k1 : side x1 = false := high_cont c3
      simp [hb, k1]
  · rw [e]
    rcases t with _ | ⟨x1, _ | ⟨x2, t⟩⟩
    · simp at c2
    · simp at c2
    · have k1 : side x1 = false := high_cont c3
      have k2 : side x2 = false := high_cont c4
      simp [hb, k1, k2]
  · rw [e]
    rcases t with _ | ⟨x1, _ | ⟨x2, _ | ⟨x3, t⟩⟩⟩
    · simp at c2
    · simp at c2
    · simp at c2
    · have k1 : side x1 = false := high_cont c3
      have k2 : side x2 = false := high_cont c4
      have k3 : side x3 = false := high_cont c5
      simp [hb, k1, k2, k3]
  · rw [e]
    simp [hb]
theorem decodeL_high (b : UInt8) (t : List UInt8) (h : 128 ≤ b.toNat) : 128 ≤ (decodeL (b :: t)).1 :=
  (decode_high ⟨(b :: t).toArray⟩ 0 (by simp [Go.Lib.size_eq]) (by exact h)).1
theorem map_keep : ∀ (n : Nat) (l : List UInt8), l.length ≤ n → mapD keepI l = l.filter side
  | _, [], _ => rfl
  | 0, _ :: _, h => by simp at h
  | n + 1, b :: t, h => by
    rw [mapD_step keepI (b :: t) (by simp)]
    by_cases ha : b.toNat < 128
    · rw [decodeL_ascii b t ha]
      simp only [List.drop_succ_cons, List.drop_zero]
      rw [map_keep n t (by simpa using h)]
      by_cases hs : side b = true
      · have hk : keepI (b.toNat : Int) = (b.toNat : Int) := by unfold keepI; rw [col_side, hs]; rfl
        have henc := encode_decode (b :: t) (by simp) (by rw [decodeL_ascii b t ha]; simp; omega)
        rw [decodeL_ascii b t ha] at henc
        rw [hk, if_pos (by omega), List.filter_cons_of_pos hs, henc]
        rfl
      · have hs' : side b = false := by simpa using hs
        have hk : keepI (b.toNat : Int) = -1 := by unfold keepI; rw [col_side, hs']; rfl
        rw [hk, if_neg (by decide), List.filter_cons_of_neg hs]
        rfl
    · have hh := decodeL_high b t (by omega)
      have hk : keepI ((decodeL (b :: t)).1 : Int) = -1 := by unfold keepI; rw [col_high (by omega)]; rfl
      have hw := decodeL_width (b :: t)
      rw [hk, if_neg (by decide), List.nil_append, map_keep n _ (by rw [List.length_drop]; simp only [List.length_cons] at h ⊢; omega), ← drop_side b t (by omega)]
set_option maxRecDepth 100000 in
theorem pcolumn_any (x : Int) (w : World) : Calls Tryz.prog 49 #[.int .i32 x] w fun e w' => e = .returned (.bool (colI x)) ∧ w = w' := by
  unfold colI
  by_cases h1 : x = 108
  · subst h1
    go_enter Tryz.func49, Tryz.ntmps49
    go_wp2_with fail
    go_ret
    exact ⟨rfl, rfl⟩
  · have n1 : (x == 108) = false := by simpa using h1
    by_cases h2 : x = 99
    · subst h2
      clear h1
      go_enter Tryz.func49, Tryz.ntmps49
      go_wp2_with fail
      go_ret
      exact ⟨rfl, rfl⟩
    · have n2 : (x == 99) = false := by simpa using h2
      rw [n1, n2]
      obtain ⟨p, hp⟩ : ∃ p, (x == 114) = p := ⟨_, rfl⟩
      rw [hp]
      clear h1 h2
      go_enter Tryz.func49, Tryz.ntmps49
      go_wp2_with fail
      go_ret
      exact ⟨rfl, rfl⟩
set_option maxRecDepth 100000 in
theorem pkeep_any (x : Int) (w : World) : Calls Tryz.prog 48 #[.int .i32 x] w fun e w' => e = .returned (.int .i32 (keepI x)) ∧ w = w' := by
  have H := Lib.hid (pcolumn_any x w)
  unfold keepI
  obtain ⟨p, hp⟩ : ∃ p, colI x = p := ⟨_, rfl⟩
  rw [hp] at H ⊢
  clear hp
  cases p
  · rw [if_neg (by simp)]
    go_enter Tryz.func48, Tryz.ntmps48
    go_wp2_with fail
    refine H.out.mono ?_
    rintro e w1 ⟨rfl, rfl⟩
    go_wp2_with fail
    go_ret
    exact ⟨rfl, rfl⟩
  · rw [if_pos rfl]
    go_enter Tryz.func48, Tryz.ntmps48
    go_wp2_with fail
    refine H.out.mono ?_
    rintro e w1 ⟨rfl, rfl⟩
    go_wp2_with fail
    go_ret
    exact ⟨rfl, rfl⟩
theorem keep_range (x : Int) (h0 : 0 ≤ x) (h1 : x ≤ 1114111) : -2147483648 ≤ keepI x ∧ keepI x ≤ 2147483647 := by
  unfold keepI
  split <;> omega
theorem pmapcols_any (l : List UInt8) (w : World) (hU : U8 w) (hl : l.length ≤ 90000) : Calls Tryz.prog 50 #[.func (.func 48) #[] #[], .string ⟨l.toArray⟩] w fun e w' => e = .returned (.string ⟨(l.filter side).toArray⟩) ∧ Below w.heap.size w w' := by
  have hsz : (⟨l.toArray⟩ : ByteArray).size = l.length := by simp [Go.Lib.size_eq]
  have h := smap_any 48 #[] (enters_of Tryz.func48 (by kernel_rfl) rfl) keepI ⟨l.toArray⟩ w (by rw [hsz]; omega) (fun W x _ _ => (pkeep_any (x : Int) W).mono fun e w' ⟨he, hw⟩ => ⟨he, hw ▸ Below.refl _ _⟩) (fun x hx => keep_range _ (by omega) (by omega)) hU
  have e : (⟨l.toArray⟩ : ByteArray).data.toList = l := rfl
  rw [e, map_keep l.length l (Nat.le_refl _)] at h
  exact h
attribute [local go_sem ↓ high] binop_eqT binop_neqT builtin_mnS
set_option maxRecDepth 100000 in
theorem pcolumns_any (c : List UInt8) (w : World) (hU : U8 w) (hl : c.length ≤ 90000) : Calls Tryz.prog 31 #[.string ⟨c.toArray⟩] w fun e w' => e = .returned (.string ⟨(mcols c).toArray⟩) ∧ Below w.heap.size w w' := by
  have HM := Lib.hid (pmapcols_any c w hU hl)
  have hfl : (c.filter side).length ≤ c.length := List.length_filter_le _ _
  unfold mcols
  obtain ⟨F, hF⟩ : ∃ F, c.filter side = F := ⟨_, rfl⟩
  rw [hF] at HM hfl ⊢
  have q1 := eqT_run F []
  have hFl : (⟨F.toArray⟩ : ByteArray).size = F.length := by simp [Go.Lib.size_eq]
  clear hF hU
  by_cases he : F = []
  · rw [decide_eq_true he] at q1
    subst he
    rw [show (if ([] : List UInt8).take 20 = [] then ([108] : List UInt8) else ([] : List UInt8).take 20) = [108] from rfl]
    go_enter Tryz.func31, Tryz.ntmps31
    go_wp2_with fail
    refine HM.out.mono ?_
    rintro e w1 ⟨rfl, b1⟩
    have B1 := Lib.hid b1
    clear b1 HM
    go_wp2_with fail
    go_ret
    exact ⟨rfl, B1.out⟩
  · rw [decide_eq_false he] at q1
    have hne : ¬ F.take 20 = [] := fun h => he (by
      cases F with
      | nil => rfl
      | cons x l => simp at h)
    rw [if_neg hne]
    have mm := mnS_run (F.length : Int) 20 ((min F.length 20 : Nat) : Int) (by split <;> omega)
    have hsl : ∀ W : World, (Instr.slice 9 (.string ⟨F.toArray⟩) none (some (.int .i64 ((min F.length 20 : Nat) : Int))) none).run Tryz.prog W = .ok (.string ⟨(F.take 20).toArray⟩) W := fun W => by
      rw [run_slice_string_h W 9 _ Tryz.underlying9 .i64 _ (by omega) (by rw [hFl]; omega)]
      have e : (⟨F.toArray⟩ : ByteArray).extract 0 ((min F.length 20 : Nat) : Int).toNat = ⟨(F.take 20).toArray⟩ := by
        rw [ByteArray.extract_mk]
        simp only [Int.toNat_natCast]
        have e2 : F.take (min F.length 20) = F.take 20 := by
          by_cases h : F.length ≤ 20
          · rw [Nat.min_eq_left h, List.take_length, List.take_of_length_le h]
          · rw [Nat.min_eq_right (by omega)]
        simp [e2]
      rw [e]
    clear he hne
    go_enter Tryz.func31, Tryz.ntmps31
    go_wp2_with fail
    refine HM.out.mono ?_
    rintro e w1 ⟨rfl, b1⟩
    have B1 := Lib.hid b1
    clear b1 HM
    go_wp2_with fail
    go_ret
    exact ⟨rfl, B1.out⟩
end Go.Proofs.YtaeplneiicobgaaGreatDoor
namespace Go.Proofs.YtaeplneiicobgaaGreatDoor
open Go.RowKit
theorem ixb_no (c : UInt8) : ∀ s : Txt, Lib.indexByte s c = -1 → c ∉ s
  | [], _ => by simp
  | x :: r, h => by
    unfold Lib.indexByte at h
    by_cases hx : x = c
    · subst hx; simp at h
    · have h1 : (x == c) = false := by simpa using hx
      rw [h1] at h
      simp only [Bool.false_eq_true, if_false] at h
      have hge := Lib.indexByte_ge r c
      have hm : Lib.indexByte r c = -1 := by
        by_cases hm : Lib.indexByte r c = -1
        · exact hm
        · have h2 : (Lib.indexByte r c == -1) = false := by simpa using hm
          rw [h2] at h
          simp only [Bool.false_eq_true, if_false] at h
          omega
      have ih := ixb_no c r hm
      simp only [List.mem_cons, not_or]
      exact ⟨fun e => hx e.symm, ih⟩
theorem ixb_at (c : UInt8) : ∀ (s : Txt) (i : Nat), Lib.indexByte s c = (i : Int) → s = s.take i ++ c :: s.drop (i + 1) ∧ c ∉ s.take i
  | [], i, h => absurd h (by show ¬ ((-1 : Int) = (i : Int)); omega)
  | x :: r, i, h => by
    have hge := Lib.indexByte_ge r c
    unfold Lib.indexByte at h
    by_cases hx : x = c
    · subst hx
      simp at h
      obtain rfl : i = 0 := by omega
      simp
    · have h1 : (x == c) = false := by simpa using hx
      rw [h1] at h
      simp only [Bool.false_eq_true, if_false] at h
      by_cases hm : Lib.indexByte r c = -1
      · rw [hm] at h; first | (simp at h; done) | (simp at h; omega)
      · have h2 : (Lib.indexByte r c == -1) = false := by simpa using hm
        rw [h2] at h
        simp only [Bool.false_eq_true, if_false] at h
        obtain ⟨k, rfl⟩ : ∃ k, i = k + 1 := ⟨i - 1, by omega⟩
        obtain ⟨h3, h4⟩ := ixb_at c r k (by omega)
        refine ⟨?_, ?_⟩
        · simp only [List.take_succ_cons, List.drop_succ_cons, List.cons_append]
          rw [← h3]
        · simp only [List.take_succ_cons, List.mem_cons, not_or]
          exact ⟨fun e => hx e.symm, h4⟩
theorem split_cut (c : UInt8) : ∀ (n : Nat) (s : Txt), s.count c = n → Lib.splitK [c] 0 n s = cutB c s
  | 0, s, h => by
    have : c ∉ s := List.count_eq_zero.1 h
    rw [cut_no c s this]
    rfl
  | n + 1, s, h => by
    have hm : c ∈ s := by
      refine Decidable.byContradiction fun q => ?_
      rw [List.count_eq_zero.2 q] at h
      omega
    have hge := Lib.indexByte_ge s c
    obtain ⟨i, hi⟩ : ∃ i : Nat, Lib.indexByte s c = (i : Int) := by
      refine ⟨(Lib.indexByte s c).toNat, ?_⟩
      have : Lib.indexByte s c ≠ -1 := fun e => ixb_no c s e hm
      omega
    obtain ⟨h1, h2⟩ := ixb_at c s i hi
    have hc : (s.drop (i + 1)).count c = n := by
      have := h
      rw [h1, List.count_append, List.count_eq_zero.2 h2, List.count_cons_self] at this
      omega
    unfold Lib.splitK
    rw [Lib.index_one, hi, if_neg (by simp), Int.toNat_natCast]
    rw [show i + [c].length = i + 1 from rfl, split_cut c n _ hc, Nat.add_zero]
    conv => rhs; rw [h1]
    rw [cut_app c _ _ h2]
set_option maxHeartbeats 1000000 in
theorem cut9_any (b : Txt) (w : World) (hb : b.length ≤ 100000) : Calls Tryz.prog 28 #[.string ⟨b.toArray⟩] w fun e w' => ∃ v, e = .returned v ∧ SOwn w.heap.size w' v (cutB 9 b) ∧ Below w.heap.size w w' := by
  have hsz := arr_size b
  have h := gsplit_any ⟨b.toArray⟩ 9 w (by omega)
  have hcn : Lib.countB ⟨b.toArray⟩ ⟨#[9]⟩ = b.count 9 := by
    show Lib.count b [9] = _
    exact Lib.count_one 9 b
  rw [hcn] at h
  obtain ⟨L, hL⟩ : ∃ L, Lib.splitB ⟨#[9]⟩ 0 (b.count 9) ⟨b.toArray⟩ = L := ⟨_, rfl⟩
  have hLm : L.map (·.data.toList) = cutB 9 b := by
    rw [← hL, Lib.splitB_data]
    exact split_cut 9 _ b rfl
  have hLl : L.length = b.count 9 + 1 := by
    have := congrArg List.length hLm
    rw [List.length_map, cutB_len] at this
    omega
  have hLc : (Lib.cellsOf L (b.count 9 + 1)) = (flatV scell (cutB 9 b)).toArray := by
    rw [← hLl, Lib.cellsOf_full, ← hLm]
    congr 1
    clear hL hLm hLl h
    induction L with
    | nil => rfl
    | cons x r ih =>
      simp only [List.map_cons, flatV, List.flatMap_cons, scell]
      simp only [flatV, scell] at ih
      rw [ih]
      rfl
  rw [hL, hLc, hLl] at h
  have hll : (cutB 9 b).length = b.count 9 + 1 := by rw [cutB_len]; omega
  have hcl : b.count 9 ≤ b.length := List.count_le_length
  have H : Hid (Calls Tryz.prog 36 #[.string ⟨b.toArray⟩, .string ⟨#[9]⟩, .int .i64 0, .int .i64 (-1)] w fun e w' => ∃ a c, e = .returned (.slice a (b.count 9 + 1) c) ∧ SOwn w.heap.size w' (.slice a (b.count 9 + 1) c) (cutB 9 b) ∧ Below w.heap.size w w') := Lib.hid (h.mono fun e w' ⟨he, hw⟩ => by
    subst hw
    have hk := Blk.fown (f := scell) (n := 1) (base := w.heap.size) (fun _ => rfl) (heap_alloc_new w (.cells (flatV scell (cutB 9 b)).toArray 9)) (Nat.le_refl _) (by rw [hll]; unfold maxLen; omega)
    rw [hll] at hk
    exact ⟨_, _, he, hk, below_lit w _⟩)
  obtain ⟨m, hm⟩ : ∃ m, b.count 9 + 1 = m := ⟨_, rfl⟩
  rw [hm] at H
  clear h hL hLm hLl hLc hll hcl hcn hm
  have S1 : Hid (Calls Tryz.prog 17 #[.string ⟨b.toArray⟩, .string ⟨#[9]⟩] w fun e w' => ∃ a c, e = .returned (.slice a m c) ∧ SOwn w.heap.size w' (.slice a m c) (cutB 9 b) ∧ Below w.heap.size w w') := Lib.hid (by
    go_enter Tryz.func17, Tryz.ntmps17
    go_wp2_with (go_at_call 36; refine H.out.mono ?_; rintro e w1 ⟨a1, c1, rfl, h1, h2⟩)
    go_ret
    exact ⟨_, _, rfl, h1, h2⟩)
  go_enter Tryz.func28, Tryz.ntmps28
  go_wp2_with (go_at_call 17; refine S1.out.mono ?_; rintro e w1 ⟨a1, c1, rfl, h1, h2⟩)
  go_ret
  exact ⟨_, rfl, h1, h2⟩
end Go.Proofs.YtaeplneiicobgaaGreatDoor
