/- Texts: '+' of them, rows of them, whether two rows of them are one. Texts cut at a byte, words, looks, columns: what stands while a loop goes on. Package strings: how a text ends, and begins. Package strings, unicode/utf8: the shelf's contracts, laid at this dump. (The numbers of the lays are this seat's own: tools/shelf9.py.) The document's own answer for tables: a text cut at a byte; its words; how it ends. The program's own for tables: a text cut at tabs. The program's own for documents: which signs tell columns. The document's own answer for tables: looks, columns. The document's own answer for tables: columns. -/
import Derived.Test.YtaeplneiicobgaaDoorEc
import Derived.Test.YtaeplneiicobgaaDoorBd
import Derived.Lib.Hide
import Derived.Lib.Strings
import Derived.Laws.Strings3
import Derived.Deep.QuietTactic
import Derived.BigQuiet
import Derived.Test.YtaeplneiicobgaaDoorQ2
import Derived.Shelf.Strings.MapGrows
import Derived.Shelf.Strings.SplitCore
import Derived.Shelf.Strings.Search3
import Derived.Shelf.Strings.Count
import Derived.Shelf.Strings.BuilderK
import Derived.Shelf.Strings.BuilderRune
import Derived.Shelf.Unicode.DecodeAny
import Derived.Lib.SplitLaws
import Derived.Lib.IndexBytes
import Derived.Test.YtaeplneiicobgaaDoorQ9
import Derived.Laws.RangeAny
import Derived.Lib.TrimAscii
import Derived.Lib.TrimU
import Derived.OwnWalk
set_option linter.unusedVariables false
set_option linter.unusedSimpArgs false
namespace Go.Proofs.YtaeplneiicobgaaDoor
open Go.RowKit
theorem arr_size (b : List UInt8) : (⟨b.toArray⟩ : ByteArray).size = b.length := by simp [Go.Lib.size_eq]
theorem str_to (b : List UInt8) (j : Nat) (h : j ≤ b.length) (w : World) : (Instr.slice 9 (.string ⟨b.toArray⟩) none (some (.int .i64 (j : Int))) none).run Tryd.prog w = .ok (.string ⟨(b.take j).toArray⟩) w := by
  have hsz := arr_size b
  rw [run_slice_string_to_if w 9 _ .i64 (j : Int) Tryd.underlying9, if_pos ⟨by omega, by rw [hsz]; omega⟩, ByteArray.extract_mk]
  simp only [Int.toNat_natCast, List.drop_zero, Nat.sub_zero]
theorem cat_str (a c : List UInt8) : (⟨a.toArray⟩ : ByteArray) ++ ⟨c.toArray⟩ = ⟨(a ++ c).toArray⟩ := by
  apply ByteArray.ext
  simp
/-- '+' of texts, kept whole. -/
noncomputable def addS (a c : Value) : Sem Value := binOp .add 9 a c
theorem binop_addS (a c : Value) : binOp .add 9 a c = addS a c := rfl
theorem str_add (a c : List UInt8) (h : a.length + c.length ≤ 100000000) (W : World) : (addS (.string ⟨a.toArray⟩) (.string ⟨c.toArray⟩)).run Tryd.prog W = .ok (.string ⟨(a ++ c).toArray⟩) W := by
  unfold addS
  have ha := arr_size a
  have hc := arr_size c
  rw [binOp_string_add]
  simp [Op.stringOp, cat_str, ha, hc, maxLen]
  omega
/-- Two texts are one. -/
theorem str_eq (a c : List UInt8) : decide ((⟨a.toArray⟩ : ByteArray) = ⟨c.toArray⟩) = decide (a = c) := by
  apply bool_of_iff
  simp
theorem scell_one (b : List UInt8) : ∀ u ∈ scell b, u.oneCell' = true := by
  intro u hu
  simp [scell] at hu
  rw [hu]; rfl
abbrev Ss (w : World) (v : Value) (l : List (List UInt8)) : Prop := Fs 1 scell w v l
abbrev SOwn (base : Nat) (W : World) (x : Value) (l : List (List UInt8)) : Prop := FOwn 9 1 scell base W x l
theorem infoS : (Tryd.prog.info? 9).map (fun i => (i.zero, i.size, i.bytes)) = some (some (.string ⟨#[]⟩), 1, 16) := by kernel_rfl
noncomputable def appS (args : Array Value) : Sem Next := do pure (.value (← Builtin.append_ #[28, 28] 28 args))
theorem builtin_appS (cs : Array Bool) (args : Array Value) : builtin .append #[28, 28] 28 cs args = appS args := rfl
theorem appS_own {base : Nat} {W : World} {x u : Value} {l m : List (List UInt8)} (h : SOwn base W x l) (hu : Ss W u m) (hb : base ≤ W.heap.size) (hd : l.length + m.length ≤ 1000000) :
    ∃ x' w', (appS #[x, u]).run Tryd.prog W = .ok (.value x') w' ∧ SOwn base w' x' (l ++ m) ∧ W.grownBy w' x.ownBlock ∧ (x'.ownBlock = x.ownBlock ∨ x'.ownBlock = some W.heap.size) := by
  obtain ⟨i0, hi, hz0, hz1, hz2⟩ := info_parts infoS
  obtain ⟨x', w', hr, r⟩ := fapp scell_len scell_one (by decide) Tryd.underlying28 hi hz0 hz1 hz2 rfl (by decide) h hu hb hd
  refine ⟨x', w', ?_, r⟩
  unfold appS
  simp only [Sem.run_bind, Sem.run_pure, Result.andThen_ok, hr]
/-- One more. -/
theorem push_own {base : Nat} {W : World} {v : Value} {acc : List (List UInt8)} (h : SOwn base W v acc) (hb : base ≤ W.heap.size) (x : List UInt8) (hd : acc.length ≤ 500000) :
    ∃ v' w2, (appS #[v, .slice (some ⟨W.heap.size, 0, none⟩) 1 1]).run Tryd.prog (W.alloc (.cells #[.string ⟨x.toArray⟩] 9)) = .ok (.value v') w2 ∧ SOwn base w2 v' (acc ++ [x]) ∧ Below base W w2 ∧ W.heap.size ≤ w2.heap.size := by
  have b1 := below_lit W (.cells #[.string ⟨x.toArray⟩] 9)
  have h1 := h.keep b1
  obtain ⟨v', w2, hrun, ho, hg, -⟩ := appS_own h1 (fs_lit scell_len W 9 [x]) (by simp; omega) (by simp; omega)
  have hz := hg.size
  refine ⟨v', w2, hrun, ho, (b1.mono hb).grown hg (by simp; omega) (fun j e => (h1.ty e).1), ?_⟩
  simp at hz
  omega
theorem Ss.at {w : World} {a : Option Addr} {k cap : Nat} {l : List (List UInt8)} (h : Ss w (.slice a k cap) l) {j : Nat} {x : List UInt8} (hj : l[j]? = some x) :
    ∃ b off, a = some ⟨b, off, none⟩ ∧ w.cell? ⟨b, off + j, none⟩ = some (.string ⟨x.toArray⟩) := by
  obtain ⟨a', cap', hv, _, hr⟩ := h
  injection hv with h1 h2 h3
  subst h1
  obtain ⟨b, off, rfl, h0⟩ := hr j x hj
  have := h0 0 _ rfl
  rw [Nat.mul_one] at this
  exact ⟨b, off, rfl, this⟩
/-- '==' and '!=' of texts, kept whole. -/
noncomputable def eqlS (a c : Value) : Sem Value := binOp .eql 9 a c
theorem binop_eqlS (a c : Value) : binOp .eql 9 a c = eqlS a c := rfl
noncomputable def neqS (a c : Value) : Sem Value := binOp .neq 9 a c
theorem binop_neqS (a c : Value) : binOp .neq 9 a c = neqS a c := rfl
theorem eqlS_run (a c : List UInt8) (W : World) : (eqlS (.string ⟨a.toArray⟩) (.string ⟨c.toArray⟩)).run Tryd.prog W = .ok (.bool (decide (a = c))) W := by
  rw [← str_eq]
  unfold eqlS
  simp [go_sem]
  exact bool_of_iff (by simp)
theorem neqS_run (a c : List UInt8) (W : World) : (neqS (.string ⟨a.toArray⟩) (.string ⟨c.toArray⟩)).run Tryd.prog W = .ok (.bool (!decide (a = c))) W := by
  rw [← str_eq]
  unfold neqS
  simp [go_sem]
  exact bool_of_iff (by simp)
attribute [local go_sem ↓ high] binop_eqlS binop_neqS
theorem neqS_same (x : List UInt8) (W : World) : (neqS (.string ⟨x.toArray⟩) (.string ⟨x.toArray⟩)).run Tryd.prog W = .ok (.bool false) W := by
  have := neqS_run x x W
  simpa using this
theorem neqS_other {x y : List UInt8} (h : x ≠ y) (W : World) : (neqS (.string ⟨x.toArray⟩) (.string ⟨y.toArray⟩)).run Tryd.prog W = .ok (.bool true) W := by
  have := neqS_run x y W
  rw [decide_eq_false h] at this
  exact this
theorem drewN_add (w : World) (a b : Nat) : (w.drewN a).drewN b = w.drewN (a + b) := World.drewN_drewN ..
theorem fs_drewN {α : Type} {n : Nat} {f : α → List Value} {w : World} {v : Value} {l : List α} (h : Fs n f w v l) (m : Nat) : Fs n f (w.drewN m) v l := h.below (below_drewN (Below.refl _ _) m)
set_option maxRecDepth 100000 in
set_option maxHeartbeats 1000000 in
theorem sameS_any (a b : List (List UInt8)) (v u : Value) (w : World) (hv : Ss w v a) (hu : Ss w u b) (hl : a.length ≤ 200000) (hl' : b.length ≤ 200000) :
    Calls Tryd.prog 11 #[v, u] w fun e w' => e = .returned (.bool (decide (a = b))) ∧ ∃ m, w' = w.drewN m := by
  have HV := Lib.hid hv
  have HU := Lib.hid hu
  obtain ⟨aa, ca, rfl, -, -⟩ := hv
  obtain ⟨ab, cb, rfl, -, -⟩ := hu
  by_cases hlen : a.length = b.length
  · have HLen := Lib.hid hlen
    have hne : ((a.length : Int) != (b.length : Int)) = false := by simp [hlen]
    clear hlen
    go_enter Tryd.func11, Tryd.ntmps11
    go_wp2_with fail
    go_loopw [5] (fun i wr => ∃ j : Nat, j ≤ a.length ∧ i = .int .i64 j ∧ a.take j = b.take j ∧ ∃ m, wr = w.drewN m) (fun i _ => a.length - (intOf i).toNat)
    case atStart => exact ⟨0, by omega, rfl, rfl, 0, rfl⟩
    case round =>
      obtain ⟨j, hj, rfl, hs, m, rfl⟩ := hrel
      have HS := Lib.hid hs
      clear hs
      by_cases hlt : j < a.length
      · obtain ⟨x, hx⟩ : ∃ x, a[j]? = some x := ⟨a[j], List.getElem?_eq_getElem hlt⟩
        obtain ⟨y, hy⟩ : ∃ y, b[j]? = some y := ⟨b[j]'(by have := HLen.out; omega), List.getElem?_eq_getElem _⟩
        obtain ⟨g, off, rfl, c0⟩ := Ss.at (fs_drewN HV.out m) hx
        obtain ⟨g', off', rfl, c0'⟩ := Ss.at (fs_drewN HU.out m) hy
        have hi0 : (j : Int) < (a.length : Int) := by omega
        have hi2 : (j : Int) < (b.length : Int) := by have := HLen.out; omega
        have hi1 : (0 : Int) ≤ (j : Int) := by omega
        obtain ⟨wd, hwd⟩ : ∃ wd, w.drewN m = wd := ⟨_, rfl⟩
        rw [hwd] at c0 c0' ⊢
        have HW := Lib.hid hwd
        clear hwd
        by_cases hxy : x = y
        · subst hxy
          have HT := Lib.hid (take_same HS.out hx hy)
          have hq := neqS_same x
          clear hx hy
          go_wp2_with fail
          go_quiet (fail)
          go_wp2
          go_roundw
          case rel => exact ⟨j + 1, by omega, by go_num, HT.out, _, by rw [← HW.out, drewN_add]⟩
          case measure => simp [intOf]; omega
        · have HT := Lib.hid (decide_eq_false (not_same hx hy hxy))
          have hq := neqS_other hxy
          clear hx hy hxy
          go_wp2_with fail
          go_quiet (fail)
          go_wp2
          go_ret
          exact ⟨ret_bool HT.out.symm, _, by rw [← HW.out, drewN_add]⟩
      · obtain rfl : j = a.length := by omega
        have hs : a = b := by
          have h := HS.out
          rw [List.take_length, HLen.out, List.take_length] at h
          exact h
        have HT := Lib.hid (decide_eq_true hs)
        clear hs
        go_wp2_with fail
        go_ret
        exact ⟨ret_bool HT.out.symm, _, rfl⟩
  · have hne : ((a.length : Int) != (b.length : Int)) = true := by simp; omega
    have HT := Lib.hid (decide_eq_false (show ¬ a = b from fun h => hlen (by rw [h])))
    clear hlen
    go_enter Tryd.func11, Tryd.ntmps11
    go_wp2_with fail
    go_ret
    exact ⟨ret_bool HT.out.symm, 0, rfl⟩
end Go.Proofs.YtaeplneiicobgaaDoor
namespace Go.Proofs.YtaeplneiicobgaaDoor
open Go.RowKit
theorem byte_ne {x c : UInt8} (h : x ≠ c) : ((x.toNat : Int) == (c.toNat : Int)) = false := by
  rw [beq_eq_false_iff_ne]
  intro e
  exact h (UInt8.toNat_inj.1 (by omega))
theorem sub_at {b : List UInt8} {j : Nat} {x : UInt8} (hx : b[j]? = some x) (w : World) : (Instr.slice 9 (.string ⟨b.toArray⟩) (some (.int .i64 (j : Int))) (some (.int .i64 ((j : Int) + 1))) none).run Tryd.prog w = .ok (.string ⟨#[x]⟩) w := by
  obtain ⟨hlt, hx'⟩ := List.getElem?_eq_some_iff.1 hx
  have k2 := str_mid b j (j + 1) (by omega) (by omega) w
  have e2 : (b.drop j).take (j + 1 - j) = [x] := by
    rw [show j + 1 - j = 1 by omega, List.drop_eq_getElem_cons hlt]
    simp [hx']
  rw [e2] at k2
  exact k2
theorem wrap_any9 {q : Int} (h0 : -1000000000 ≤ q) (h1 : q ≤ 1000000000) : IntKind.i64.wrap q = q := by
  simp [IntKind.wrap, IntKind.bits, IntKind.signed]
  omega
theorem take_one9 {α : Type} {b : List α} {j : Nat} {y : α} (hy : b[j]? = some y) : b.take (j + 1) = b.take j ++ [y] := by
  rw [List.take_add_one, hy]
  rfl
theorem drop_one9 {α : Type} {b : List α} {j : Nat} {y : α} (hy : b[j]? = some y) : b.drop j = y :: b.drop (j + 1) := by
  obtain ⟨hlt, hx'⟩ := List.getElem?_eq_some_iff.1 hy
  rw [List.drop_eq_getElem_cons hlt, hx']
structure CutAt (b : Txt) (c : UInt8) (j : Nat) (acc : List Txt) (x : Txt) : Prop where
  eq : cutB c (b.take j) = acc ++ [x]
  nl : acc.length ≤ j
  xl : x.length ≤ j
section
variable {b : Txt} {c : UInt8} {j : Nat} {acc : List Txt} {x : Txt}
theorem CutAt.start (b : Txt) (c : UInt8) : CutAt b c 0 [] [] := ⟨by simp [cutB], by simp, by simp⟩
theorem CutAt.cut (h : CutAt b c j acc x) (hy : b[j]? = some c) : CutAt b c (j + 1) (acc ++ [x]) [] := by
  have h1 := h.nl
  refine ⟨?_, by simp; omega, by simp⟩
  rw [take_one9 hy, cut_step, if_pos rfl, h.eq]
theorem CutAt.next (h : CutAt b c j acc x) {y : UInt8} (hy : b[j]? = some y) (hne : y ≠ c) : CutAt b c (j + 1) acc (x ++ [y]) := by
  have h1 := h.nl
  have h2 := h.xl
  refine ⟨?_, by omega, by simp; omega⟩
  rw [take_one9 hy, cut_step, if_neg hne, h.eq]
  simp
theorem CutAt.fin (h : CutAt b c b.length acc x) : cutB c b = acc ++ [x] := by
  have := h.eq
  rwa [List.take_length] at this
end
structure WAt (b : Txt) (j : Nat) (acc : List Txt) (x : Txt) : Prop where
  eq : wordsB b = acc ++ wordsA x (b.drop j)
  nl : acc.length ≤ j
  xl : x.length ≤ j
section
variable {b : Txt} {j : Nat} {acc : List Txt} {x : Txt}
theorem WAt.start (b : Txt) : WAt b 0 [] [] := ⟨by simp [wordsB], by simp, by simp⟩
theorem WAt.next (h : WAt b j acc x) {y : UInt8} (hy : b[j]? = some y) (hs : sepB y = false) : WAt b (j + 1) acc (x ++ [y]) := by
  have h1 := h.nl
  have h2 := h.xl
  refine ⟨?_, by omega, by simp; omega⟩
  rw [h.eq, drop_one9 hy, wordsA, if_neg (by rw [hs]; decide)]
theorem WAt.sep0 (h : WAt b j acc []) {y : UInt8} (hy : b[j]? = some y) (hs : sepB y = true) : WAt b (j + 1) acc [] := by
  have h1 := h.nl
  refine ⟨?_, by omega, by simp⟩
  rw [h.eq, drop_one9 hy, wordsA, if_pos hs, if_pos rfl]
theorem WAt.sep1 (h : WAt b j acc x) (hx : x ≠ []) {y : UInt8} (hy : b[j]? = some y) (hs : sepB y = true) : WAt b (j + 1) (acc ++ [x]) [] := by
  have h1 := h.nl
  refine ⟨?_, by simp; omega, by simp⟩
  rw [h.eq, drop_one9 hy, wordsA, if_pos hs, if_neg hx]
  simp
theorem WAt.fin0 (h : WAt b b.length acc []) : wordsB b = acc := by
  rw [h.eq, List.drop_length, wordsA, if_pos rfl, List.append_nil]
theorem WAt.fin1 (h : WAt b b.length acc x) (hx : x ≠ []) : wordsB b = acc ++ [x] := by
  rw [h.eq, List.drop_length, wordsA, if_neg hx]
end
theorem lookW_app : ∀ (l : List Txt) (w : Txt), lookW (l ++ [w]) = if w = boxW ∨ w = allW then (lookW l).map (fun q => (true, q.2 || w == allW)) else none
  | [], w => rfl
  | v :: l, w => by
    rw [List.cons_append, lookW, lookW_app l w]
    by_cases hv : v = boxW ∨ v = allW
    · rw [if_pos hv]
      by_cases hw : w = boxW ∨ w = allW
      · rw [if_pos hw, if_pos hw, lookW, if_pos hv]
        cases lookW l with
        | none => rfl
        | some q =>
          simp only [Option.map_some, Option.some.injEq, Prod.mk.injEq, true_and]
          rw [Bool.or_assoc, Bool.or_assoc, Bool.or_comm (w == allW)]
      · rw [if_neg hw, if_neg hw]
        rfl
    · rw [if_neg hv]
      by_cases hw : w = boxW ∨ w = allW
      · rw [if_pos hw, lookW, if_neg hv]
        rfl
      · rw [if_neg hw]
theorem lookW_bad (l r : List Txt) (h : lookW l = none) : lookW (l ++ r) = none := by
  induction r generalizing l with
  | nil => rwa [List.append_nil]
  | cons x r ih =>
    have : lookW (l ++ [x]) = none := by
      rw [lookW_app, h]
      split <;> rfl
    have := ih (l ++ [x]) this
    simpa using this
/-- A look so far. -/
def LookAt (L : List Txt) (j : Nat) (bx al : Bool) : Prop := lookW (L.take j) = some (bx, al)
section
variable {L : List Txt} {j : Nat} {bx al : Bool} {w : Txt}
theorem LookAt.start (L : List Txt) : LookAt L 0 false false := rfl
theorem LookAt.box (h : LookAt L j bx al) (hw : L[j]? = some w) (he : w = boxW) : LookAt L (j + 1) true al := by
  unfold LookAt at h ⊢
  rw [take_one9 hw, lookW_app, if_pos (.inl he), h, he]
  simp [boxW, allW]
theorem LookAt.all (h : LookAt L j bx al) (hw : L[j]? = some w) (he : w = allW) : LookAt L (j + 1) true true := by
  unfold LookAt at h ⊢
  rw [take_one9 hw, lookW_app, if_pos (.inr he), h, he]
  simp
theorem LookAt.bad (h : LookAt L j bx al) (hw : L[j]? = some w) (h1 : w ≠ boxW) (h2 : w ≠ allW) : lookW L = none := by
  have h3 : lookW (L.take (j + 1)) = none := by
    rw [take_one9 hw, lookW_app, if_neg (fun e => e.elim h1 h2)]
  have := lookW_bad (L.take (j + 1)) (L.drop (j + 1)) h3
  rwa [List.take_append_drop] at this
theorem LookAt.fin (h : LookAt L L.length bx al) : lookW L = some (bx, al) := by
  unfold LookAt at h
  rwa [List.take_length] at h
end
/-- Columns so far. -/
def colsW (L : List Txt) : Txt × Bool := (L.map (fun w => (colB w).1), L.all (fun w => (colB w).2))
theorem colsW_step {L : List Txt} {j : Nat} {w : Txt} (hw : L[j]? = some w) : colsW (L.take (j + 1)) = ((colsW (L.take j)).1 ++ [(colB w).1], (colsW (L.take j)).2 && (colB w).2) := by
  unfold colsW
  rw [take_one9 hw, List.map_append, List.all_append]
  simp
theorem colB_of {w : Txt} {x : UInt8} (hx : w[0]? = some x) : colB w = if x = 108 ∨ x = 76 then (108, true) else if x = 99 ∨ x = 67 then (99, true) else if x = 114 ∨ x = 82 then (114, true) else (108, false) := by
  unfold colB
  rw [List.head?_eq_getElem?, hx]
theorem colsB_eq (s : Txt) : colsB s = colsW (wordsB (if endsB s 46 then s.dropLast else s)) := rfl
theorem wordsA_num : ∀ (s w : Txt), (wordsA w s).length ≤ s.length + 1
  | [], w => by unfold wordsA; split <;> simp
  | x :: s, w => by
    unfold wordsA
    have h1 := wordsA_num s []
    have h2 := wordsA_num s (w ++ [x])
    simp only [List.length_cons]
    split
    · split
      · omega
      · simp only [List.length_cons]; omega
    · omega
theorem wordsB_num (s : Txt) : (wordsB s).length ≤ s.length + 1 := wordsA_num s []
end Go.Proofs.YtaeplneiicobgaaDoor
namespace Go.Proofs.YtaeplneiicobgaaDoor
open Go.RowKit
attribute [local go_sem ↓ high] binop_eqlS binop_neqS
theorem ends_last {b : Txt} {y c : UInt8} (hy : b[b.length - 1]? = some y) : endsB b c = (y == c) := by
  unfold endsB
  rw [List.getLast?_eq_getElem?, hy]
  rfl
theorem drop_last9 {b : Txt} {y : UInt8} (hp : 0 < b.length) (hy : b[b.length - 1]? = some y) : b.drop (b.length - 1) = [y] := by
  rw [drop_one9 hy, List.drop_of_length_le (by omega)]
set_option maxHeartbeats 4000000 in
theorem slsuf_any (b : Txt) (c : UInt8) (w : World) (hb : b.length ≤ 100000) :
    Calls Tryd.prog 51 #[.string ⟨b.toArray⟩, .string ⟨#[c]⟩] w fun e w' => e = .returned (.bool (endsB b c)) ∧ w = w' := by
  have hsz := arr_size b
  have hsc := arr_size [c]
  by_cases h0 : b = []
  · subst h0
    go_enter Tryd.func51, Tryd.ntmps51
    go_wp2_with fail
    go_ret
    exact ⟨ret_bool rfl, rfl⟩
  · have hp : 0 < b.length := List.length_pos_iff.2 h0
    have hge : (1 : Int) ≤ (b.length : Int) := by omega
    obtain ⟨y, hy⟩ : ∃ y, b[b.length - 1]? = some y := ⟨b[b.length - 1], List.getElem?_eq_getElem (by omega)⟩
    have k0 := str_from b (b.length - 1) (by omega)
    have e : ((b.length - 1 : Nat) : Int) = (b.length : Int) - 1 := by omega
    rw [e, drop_last9 hp hy] at k0
    have k1 : ∀ W, (eqlS (.string ⟨#[y]⟩) (.string ⟨#[c]⟩)).run Tryd.prog W = .ok (.bool (y == c)) W := by
      intro W
      have h := eqlS_run [y] [c] W
      have e : decide ([y] = [c]) = (y == c) := by by_cases q : y = c <;> simp [q]
      rw [e] at h
      exact h
    rw [ends_last hy]
    obtain ⟨z, hz⟩ : ∃ z, (y == c) = z := ⟨_, rfl⟩
    rw [hz] at k1 ⊢
    have h1 : IntKind.i64.wrap ((b.length : Int) - 1) = (b.length : Int) - 1 := wrap_any9 (by omega) (by omega)
    clear hy e hp h0 hz
    go_enter Tryd.func51, Tryd.ntmps51
    go_wp2_with fail
    go_ret
    exact ⟨rfl, rfl⟩
theorem hassuf_any (b : Txt) (c : UInt8) (w : World) (hb : b.length ≤ 100000) :
    Calls Tryd.prog 40 #[.string ⟨b.toArray⟩, .string ⟨#[c]⟩] w fun e w' => e = .returned (.bool (endsB b c)) ∧ w = w' := by
  have H := Lib.hid (slsuf_any b c w hb)
  go_enter Tryd.func40, Tryd.ntmps40
  go_wp2_with (go_at_call 51; refine H.out.mono ?_; rintro e w1 ⟨rfl, rfl⟩)
  go_ret
  exact ⟨rfl, rfl⟩
def noEnd (b : Txt) (c : UInt8) : Txt := if endsB b c then b.dropLast else b
set_option maxHeartbeats 4000000 in
theorem slcut_any (b : Txt) (c : UInt8) (w : World) (hb : b.length ≤ 100000) :
    Calls Tryd.prog 34 #[.string ⟨b.toArray⟩, .string ⟨#[c]⟩] w fun e w' => e = .returned (.tuple #[.string ⟨(noEnd b c).toArray⟩, .bool (endsB b c)]) ∧ w = w' := by
  have H := Lib.hid (slsuf_any b c w hb)
  have hsz := arr_size b
  have hsc := arr_size [c]
  unfold noEnd
  cases he : endsB b c
  · rw [he] at H
    rw [if_neg (by simp)]
    go_enter Tryd.func34, Tryd.ntmps34
    go_wp2_with (go_at_call 51; refine H.out.mono ?_; rintro e w1 ⟨rfl, rfl⟩)
    go_ret2
    exact ⟨rfl, rfl⟩
  · rw [he] at H
    rw [if_pos rfl]
    have hp : 0 < b.length := by
      rcases b with _ | ⟨x, r⟩
      · simp [endsB] at he
      · simp
    have k0 := str_to b (b.length - 1) (by omega)
    have e : ((b.length - 1 : Nat) : Int) = (b.length : Int) - 1 := by omega
    have e2 : b.take (b.length - 1) = b.dropLast := by rw [List.dropLast_eq_take]
    rw [e, e2] at k0
    have h1 : IntKind.i64.wrap ((b.length : Int) - 1) = (b.length : Int) - 1 := wrap_any9 (by omega) (by omega)
    obtain ⟨d, hd⟩ : ∃ d, b.dropLast = d := ⟨_, rfl⟩
    rw [hd] at k0 ⊢
    clear hd e e2 he hp
    go_enter Tryd.func34, Tryd.ntmps34
    go_wp2_with (go_at_call 51; refine H.out.mono ?_; rintro e w1 ⟨rfl, rfl⟩)
    go_ret2
    exact ⟨rfl, rfl⟩
theorem cutsuf_any (b : Txt) (c : UInt8) (w : World) (hb : b.length ≤ 100000) :
    Calls Tryd.prog 18 #[.string ⟨b.toArray⟩, .string ⟨#[c]⟩] w fun e w' => e = .returned (.tuple #[.string ⟨(noEnd b c).toArray⟩, .bool (endsB b c)]) ∧ w = w' := by
  have H := Lib.hid (slcut_any b c w hb)
  go_enter Tryd.func18, Tryd.ntmps18
  go_wp2_with (go_at_call 34; refine H.out.mono ?_; rintro e w1 ⟨rfl, rfl⟩)
  go_ret2
  exact ⟨rfl, rfl⟩
set_option maxHeartbeats 4000000 in
theorem sltrim_any (b : Txt) (c : UInt8) (w : World) (hb : b.length ≤ 100000) :
    Calls Tryd.prog 37 #[.string ⟨b.toArray⟩, .string ⟨#[c]⟩] w fun e w' => e = .returned (.string ⟨(noEnd b c).toArray⟩) ∧ w = w' := by
  have H := Lib.hid (slsuf_any b c w hb)
  have hsz := arr_size b
  have hsc := arr_size [c]
  unfold noEnd
  cases he : endsB b c
  · rw [he] at H
    rw [if_neg (by simp)]
    go_enter Tryd.func37, Tryd.ntmps37
    go_wp2_with (go_at_call 51; refine H.out.mono ?_; rintro e w1 ⟨rfl, rfl⟩)
    go_ret
    exact ⟨rfl, rfl⟩
  · rw [he] at H
    rw [if_pos rfl]
    have hp : 0 < b.length := by
      rcases b with _ | ⟨x, r⟩
      · simp [endsB] at he
      · simp
    have k0 := str_to b (b.length - 1) (by omega)
    have e : ((b.length - 1 : Nat) : Int) = (b.length : Int) - 1 := by omega
    have e2 : b.take (b.length - 1) = b.dropLast := by rw [List.dropLast_eq_take]
    rw [e, e2] at k0
    have h1 : IntKind.i64.wrap ((b.length : Int) - 1) = (b.length : Int) - 1 := wrap_any9 (by omega) (by omega)
    obtain ⟨d, hd⟩ : ∃ d, b.dropLast = d := ⟨_, rfl⟩
    rw [hd] at k0 ⊢
    clear hd e e2 he hp
    go_enter Tryd.func37, Tryd.ntmps37
    go_wp2_with (go_at_call 51; refine H.out.mono ?_; rintro e w1 ⟨rfl, rfl⟩)
    go_ret
    exact ⟨rfl, rfl⟩
theorem trimsuf_any (b : Txt) (c : UInt8) (w : World) (hb : b.length ≤ 100000) :
    Calls Tryd.prog 22 #[.string ⟨b.toArray⟩, .string ⟨#[c]⟩] w fun e w' => e = .returned (.string ⟨(noEnd b c).toArray⟩) ∧ w = w' := by
  have H := Lib.hid (sltrim_any b c w hb)
  go_enter Tryd.func22, Tryd.ntmps22
  go_wp2_with (go_at_call 37; refine H.out.mono ?_; rintro e w1 ⟨rfl, rfl⟩)
  go_ret
  exact ⟨rfl, rfl⟩
set_option maxHeartbeats 4000000 in
theorem slpre_any (b : Txt) (c d : UInt8) (w : World) (hb : b.length ≤ 100000) :
    Calls Tryd.prog 70 #[.string ⟨b.toArray⟩, .string ⟨#[c, d]⟩] w fun e w' => e = .returned (.bool (b.take 2 == [c, d])) ∧ w = w' := by
  have hsz := arr_size b
  have hsc := arr_size [c, d]
  by_cases h0 : b.length < 2
  · have hf : (b.take 2 == [c, d]) = false := by
      rw [List.take_of_length_le (by omega)]
      rcases b with _ | ⟨x, _ | ⟨y, r⟩⟩
      · rfl
      · simp
      · simp at h0; omega
    rw [hf]
    have hge : ¬ (2 : Int) ≤ (b.length : Int) := by omega
    clear hf
    go_enter Tryd.func70, Tryd.ntmps70
    go_wp2_with fail
    go_ret
    exact ⟨rfl, rfl⟩
  · have hge : (2 : Int) ≤ (b.length : Int) := by omega
    have k0 : ∀ W, (Instr.slice 9 (.string ⟨b.toArray⟩) none (some (.int .i64 2)) none).run Tryd.prog W = .ok (.string ⟨(b.take 2).toArray⟩) W := str_to b 2 (by omega)
    obtain ⟨t, ht⟩ : ∃ t, b.take 2 = t := ⟨_, rfl⟩
    rw [ht] at k0 ⊢
    have k1 : ∀ W, (eqlS (.string ⟨t.toArray⟩) (.string ⟨#[c, d]⟩)).run Tryd.prog W = .ok (.bool (t == [c, d])) W := by
      intro W
      have h := eqlS_run t [c, d] W
      have e : decide (t = [c, d]) = (t == [c, d]) := by by_cases q : t = [c, d] <;> simp [q]
      rw [e] at h
      exact h
    obtain ⟨z, hz⟩ : ∃ z, (t == [c, d]) = z := ⟨_, rfl⟩
    rw [hz] at k1 ⊢
    clear ht hz h0
    go_enter Tryd.func70, Tryd.ntmps70
    go_wp2_with fail
    go_ret
    exact ⟨rfl, rfl⟩
theorem haspre_any (b : Txt) (c d : UInt8) (w : World) (hb : b.length ≤ 100000) :
    Calls Tryd.prog 58 #[.string ⟨b.toArray⟩, .string ⟨#[c, d]⟩] w fun e w' => e = .returned (.bool (b.take 2 == [c, d])) ∧ w = w' := by
  have H := Lib.hid (slpre_any b c d w hb)
  go_enter Tryd.func58, Tryd.ntmps58
  go_wp2_with (go_at_call 70; refine H.out.mono ?_; rintro e w1 ⟨rfl, rfl⟩)
  go_ret
  exact ⟨rfl, rfl⟩
end Go.Proofs.YtaeplneiicobgaaDoor
namespace Go.Proofs.YtaeplneiicobgaaDoor
open Go.Shelf Go.RowKit Go.Lib
def mapRen : Go.Shelf.Ren := ⟨fun | 230 => 63 | 197 => 53 | 118 => 74 | 165 => 75 | 166 => 76 | 168 => 77 | 270 => 78 | 167 => 23 | 169 => 24 | 260 => 66 | 240 => 38 | 241 => 91 | 242 => 92 | 276 => 54 | 277 => 98 | 278 => 99 | n => n, fun | 107 => 100 | 9 => 9 | 72 => 59 | 0 => 0 | 4 => 4 | 3 => 3 | 21 => 21 | 105 => 89 | 76 => 113 | 5 => 5 | 75 => 62 | 70 => 56 | 20 => 20 | 37 => 57 | 127 => 77 | 119 => 116 | 46 => 117 | 139 => 120 | 138 => 119 | 164 => 91 | 51 => 133 | 80 => 64 | n => n, fun | 3 => 0 | 4 => 1 | n => n⟩
theorem mapLays : Go.Proofs.Lays.n230 Tryd.prog mapRen := {
  mixed := by kernel_rfl
  f118 := Tryd.func74.trans (congrArg some (by kernel_rfl))
  f165 := Tryd.func75.trans (congrArg some (by kernel_rfl))
  f166 := Tryd.func76.trans (congrArg some (by kernel_rfl))
  f167 := Tryd.func23.trans (congrArg some (by kernel_rfl))
  f168 := Tryd.func77.trans (congrArg some (by kernel_rfl))
  f169 := Tryd.func24.trans (congrArg some (by kernel_rfl))
  f197 := Tryd.func53.trans (congrArg some (by kernel_rfl))
  f230 := Tryd.func63.trans (congrArg some (by kernel_rfl))
  f240 := Tryd.func38.trans (congrArg some (by kernel_rfl))
  f241 := Tryd.func91.trans (congrArg some (by kernel_rfl))
  f242 := Tryd.func92.trans (congrArg some (by kernel_rfl))
  f260 := Tryd.func66.trans (congrArg some (by kernel_rfl))
  f270 := Tryd.func78.trans (congrArg some (by kernel_rfl))
  f276 := Tryd.func54.trans (congrArg some (by kernel_rfl))
  f277 := Tryd.func98.trans (congrArg some (by kernel_rfl))
  f278 := Tryd.func99.trans (congrArg some (by kernel_rfl))
  t0 := Tryd.underlying0
  a0 := Tryd.isAgg0
  z0 := Tryd.sizeOf0
  v0 := Tryd.zeroValue0
  t3 := Tryd.underlying3
  a3 := Tryd.isAgg3
  z3 := Tryd.sizeOf3
  v3 := Tryd.zeroValue3
  t4 := Tryd.underlying4
  a4 := Tryd.isAgg4
  z4 := Tryd.sizeOf4
  v4 := Tryd.zeroValue4
  t5 := Tryd.underlying5
  a5 := Tryd.isAgg5
  z5 := Tryd.sizeOf5
  v5 := Tryd.zeroValue5
  t9 := Tryd.underlying9
  a9 := Tryd.isAgg9
  z9 := Tryd.sizeOf9
  v9 := Tryd.zeroValue9
  t20 := Tryd.underlying20
  a20 := Tryd.isAgg20
  z20 := Tryd.sizeOf20
  v20 := Tryd.zeroValue20
  t21 := Tryd.underlying21
  a21 := Tryd.isAgg21
  z21 := Tryd.sizeOf21
  v21 := Tryd.zeroValue21
  t37 := Tryd.underlying57
  a37 := Tryd.isAgg57
  z37 := Tryd.sizeOf57
  v37 := Tryd.zeroValue57
  t46 := Tryd.underlying117
  a46 := Tryd.isAgg117
  z46 := Tryd.sizeOf117
  v46 := Tryd.zeroValue117
  t51 := Tryd.underlying133
  a51 := Tryd.isAgg133
  z51 := Tryd.sizeOf133
  v51 := Tryd.zeroValue133
  t70 := Tryd.underlying56
  a70 := Tryd.isAgg56
  z70 := Tryd.sizeOf56
  v70 := Tryd.zeroValue56
  t72 := Tryd.underlying59
  a72 := Tryd.isAgg59
  z72 := Tryd.sizeOf59
  v72 := Tryd.zeroValue59
  t75 := Tryd.underlying62
  a75 := Tryd.isAgg62
  z75 := Tryd.sizeOf62
  v75 := Tryd.zeroValue62
  t76 := Tryd.underlying113
  a76 := Tryd.isAgg113
  z76 := Tryd.sizeOf113
  v76 := Tryd.zeroValue113
  t105 := Tryd.underlying89
  a105 := Tryd.isAgg89
  z105 := Tryd.sizeOf89
  v105 := Tryd.zeroValue89
  t107 := Tryd.underlying100
  a107 := Tryd.isAgg100
  z107 := Tryd.sizeOf100
  v107 := Tryd.zeroValue100
  t119 := Tryd.underlying116
  a119 := Tryd.isAgg116
  z119 := Tryd.sizeOf116
  t127 := Tryd.underlying77
  a127 := Tryd.isAgg77
  z127 := Tryd.sizeOf77
  v127 := Tryd.zeroValue77
  t138 := Tryd.underlying119
  a138 := Tryd.isAgg119
  z138 := Tryd.sizeOf119
  v138 := Tryd.zeroValue119
  t139 := Tryd.underlying120
  a139 := Tryd.isAgg120
  z139 := Tryd.sizeOf120
  v139 := Tryd.zeroValue120
  t164 := Tryd.underlying91
  a164 := Tryd.isAgg91
  z164 := Tryd.sizeOf91
  v164 := Tryd.zeroValue91
  g3 := by kernel_rfl
  g4 := by kernel_rfl }
theorem mapExtra : Builder.Extra Tryd.prog mapRen := {
  sizeBuilder := by kernel_rfl
  liesBuilder := by kernel_rfl
  t5 := Tryd.underlying5
  a5 := Tryd.isAgg5
  z5 := Tryd.sizeOf5
  v5 := Tryd.zeroValue5
  infoByte := by kernel_rfl
  cellsByte := by kernel_rfl
  sizeByte := by kernel_rfl
  neB5 := by decide }
def splRen : Go.Shelf.Ren := ⟨fun | 221 => 39 | 268 => 55 | 138 => 56 | 143 => 57 | 195 => 67 | 197 => 53 | 218 => 68 | 219 => 69 | 260 => 66 | 217 => 79 | 225 => 80 | 224 => 81 | 267 => 82 | 266 => 93 | 314 => 94 | n => n, fun | 9 => 9 | 3 => 3 | 31 => 28 | 4 => 4 | 0 => 0 | 105 => 89 | 21 => 21 | 5 => 5 | 46 => 117 | 119 => 116 | 139 => 120 | 138 => 119 | 146 => 134 | 51 => 133 | n => n, fun | 1 => 2 | 3 => 0 | 4 => 1 | n => n⟩
theorem splLays : Go.Proofs.Lays.n221 Tryd.prog splRen := {
  mixed := by kernel_rfl
  f138 := Tryd.func56.trans (congrArg some (by kernel_rfl))
  f143 := Tryd.func57.trans (congrArg some (by kernel_rfl))
  f195 := Tryd.func67.trans (congrArg some (by kernel_rfl))
  f197 := Tryd.func53.trans (congrArg some (by kernel_rfl))
  f217 := Tryd.func79.trans (congrArg some (by kernel_rfl))
  f218 := Tryd.func68.trans (congrArg some (by kernel_rfl))
  f219 := Tryd.func69.trans (congrArg some (by kernel_rfl))
  f221 := Tryd.func39.trans (congrArg some (by kernel_rfl))
  f224 := Tryd.func81.trans (congrArg some (by kernel_rfl))
  f225 := Tryd.func80.trans (congrArg some (by kernel_rfl))
  f260 := Tryd.func66.trans (congrArg some (by kernel_rfl))
  f266 := Tryd.func93.trans (congrArg some (by kernel_rfl))
  f267 := Tryd.func82.trans (congrArg some (by kernel_rfl))
  f268 := Tryd.func55.trans (congrArg some (by kernel_rfl))
  f314 := Tryd.func94.trans (congrArg some (by kernel_rfl))
  t0 := Tryd.underlying0
  a0 := Tryd.isAgg0
  z0 := Tryd.sizeOf0
  v0 := Tryd.zeroValue0
  t3 := Tryd.underlying3
  a3 := Tryd.isAgg3
  z3 := Tryd.sizeOf3
  v3 := Tryd.zeroValue3
  t4 := Tryd.underlying4
  a4 := Tryd.isAgg4
  z4 := Tryd.sizeOf4
  v4 := Tryd.zeroValue4
  t5 := Tryd.underlying5
  a5 := Tryd.isAgg5
  z5 := Tryd.sizeOf5
  v5 := Tryd.zeroValue5
  t9 := Tryd.underlying9
  a9 := Tryd.isAgg9
  z9 := Tryd.sizeOf9
  v9 := Tryd.zeroValue9
  t21 := Tryd.underlying21
  a21 := Tryd.isAgg21
  z21 := Tryd.sizeOf21
  v21 := Tryd.zeroValue21
  t31 := Tryd.underlying28
  a31 := Tryd.isAgg28
  z31 := Tryd.sizeOf28
  v31 := Tryd.zeroValue28
  t46 := Tryd.underlying117
  a46 := Tryd.isAgg117
  z46 := Tryd.sizeOf117
  v46 := Tryd.zeroValue117
  t51 := Tryd.underlying133
  a51 := Tryd.isAgg133
  z51 := Tryd.sizeOf133
  v51 := Tryd.zeroValue133
  t105 := Tryd.underlying89
  a105 := Tryd.isAgg89
  z105 := Tryd.sizeOf89
  v105 := Tryd.zeroValue89
  t119 := Tryd.underlying116
  a119 := Tryd.isAgg116
  z119 := Tryd.sizeOf116
  t138 := Tryd.underlying119
  a138 := Tryd.isAgg119
  z138 := Tryd.sizeOf119
  v138 := Tryd.zeroValue119
  t139 := Tryd.underlying120
  a139 := Tryd.isAgg120
  z139 := Tryd.sizeOf120
  v139 := Tryd.zeroValue120
  t146 := Tryd.underlying134
  a146 := Tryd.isAgg134
  z146 := Tryd.sizeOf134
  v146 := Tryd.zeroValue134
  g1 := by kernel_rfl
  g3 := by kernel_rfl
  g4 := by kernel_rfl }
theorem smap_any (g : Nat) (lb : Array Value) (eg : ∀ args w, (callFunc g args).run Tryd.prog w = .ok (.enter g args) w) (f : Int → Int) (s : ByteArray) (w : World) (hs : s.size < 35184372088832) (hf : MapGrows Tryd.prog g lb f w) (hnn : ∀ x : Nat, x ≤ 1114111 → -2147483648 ≤ f x ∧ f x ≤ 2147483647) (hT : U8 w) :
    Calls Tryd.prog 63 #[.func (.func g) #[] lb, .string s] w fun e w' => e = .returned (.string ⟨(Lib.mapD f s.data.toList).toArray⟩) ∧ Below w.heap.size w w' := Any.strings_Map_grows mapLays mapExtra g lb eg f s w hs hf hnn hT
theorem udecode_any (b : List UInt8) (w : World) (hT : U8 w) :
    Calls Tryd.prog 53 #[.string ⟨b.toArray⟩] w fun e w' => e = .returned (.tuple #[.int .i32 (Lib.decodeGo ⟨b.toArray⟩).1, .int .i64 (Lib.decodeGo ⟨b.toArray⟩).2]) ∧ Below w.heap.size w w' := Any.utf8_DecodeRuneInString { mapLays with } ⟨b.toArray⟩ w hT
theorem wbyte_any (B b : Nat) (l : List UInt8) (c : UInt8) (w : World) (h : Lib.IsBuilderF 59 5 B b (Lib.byteCells l) w) (hlen : l.length ≤ 100000000) (hBw : B ≤ w.heap.size) :
    Calls Tryd.prog 23 #[.pointer (some ⟨b, 0, none⟩), .int .u8 (c.toNat : Int)] w fun e w' => e = .returned .nilIface ∧ (Lib.IsBuilderF 59 5 B b (Lib.byteCells (l ++ [c])) w' ∧ Below B w w' ∧ Lib.OthersKept 5 (some b) w w') := by
  refine (Any.Builder_WriteByte_k { mapLays with } mapExtra B b (Lib.byteCells l) c.toNat w h (by simp [Lib.byteCells]; omega) hBw).mono ?_
  rintro e w' ⟨rfl, h1, h2, h3⟩
  refine ⟨rfl, ?_, h2, h3⟩
  have e : Lib.byteCells (l ++ [c]) = Lib.byteCells l ++ [.int .u8 (c.toNat : Int)] := by simp [Lib.byteCells]
  rw [e]
  exact .inr h1
theorem bstring_any (B b : Nat) (l : List UInt8) (w : World) (h : Lib.IsBuilderF 59 5 B b (Lib.byteCells l) w) (hBw : B ≤ w.heap.size) :
    Calls Tryd.prog 24 #[.pointer (some ⟨b, 0, none⟩)] w fun e w' => e = .returned (.string ⟨l.toArray⟩) ∧ (Lib.IsBuilderF 59 5 B b (Lib.byteCells l) w' ∧ Below B w w' ∧ Lib.OthersKept 5 (some b) w w') :=
  Any.Builder_String_any_k { mapLays with } mapExtra B b l w h hBw
theorem infoStr : (Tryd.prog.info? 9).map (fun i => (i.zero, i.size, i.bytes)) = some (some (.string ByteArray.empty), 1, 16) := by kernel_rfl
theorem gsplit_any (s : ByteArray) (c : UInt8) (w : World) (hs : s.size < 4294967281) :
    Calls Tryd.prog 39 #[.string s, .string ⟨#[c]⟩, .int .i64 0, .int .i64 (-1)] w fun e w' =>
      e = .returned (.slice (some ⟨w.heap.size, 0, none⟩) (Lib.splitB ⟨#[c]⟩ 0 (Lib.countB s ⟨#[c]⟩) s).length (Lib.countB s ⟨#[c]⟩ + 1)) ∧ w' = w.alloc (.cells (Lib.cellsOf (Lib.splitB ⟨#[c]⟩ 0 (Lib.countB s ⟨#[c]⟩) s) (Lib.countB s ⟨#[c]⟩ + 1)) 9) := by
  have h1 : 1 ≤ (⟨#[c]⟩ : ByteArray).size := Nat.le_refl _
  have hle := Lib.countB_le ⟨#[c]⟩ h1 s.size s (Nat.le_refl _)
  have h := Any.strings_genSplit_core splLays infoStr s ⟨#[c]⟩ 0 (-1) (Lib.countB s ⟨#[c]⟩ + 1) w hs h1 (Nat.zero_le _)
    (fun x d hx => (Any.strings_Index_one { splLays with } x c _).mono fun e w' ⟨he, hw⟩ => ⟨by rw [he]; show _ = Ending.returned (Value.int .i64 (Lib.index x.data.toList [c])); rw [Lib.index_one], hw⟩)
    ((Any.strings_Count_one { splLays with } s c w).mono fun e w' ⟨he, hw⟩ => ⟨by rw [he]; show _ = Ending.returned (Value.int .i64 ((Lib.count s.data.toList [c] : Nat) : Int)); rw [Lib.count_one]; rfl, hw⟩)
    (by decide) (by decide) (by rw [if_pos (by decide)]; omega)
  rw [Nat.add_sub_cancel] at h
  exact h
end Go.Proofs.YtaeplneiicobgaaDoor
namespace Go.Proofs.YtaeplneiicobgaaDoor
open Go.RowKit
attribute [local go_sem ↓ high] binop_addS builtin_appS binop_eqlS binop_neqS
set_option maxRecDepth 100000 in
set_option maxHeartbeats 4000000 in
theorem rsplit_any (b : Txt) (c : UInt8) (w : World) (hb : b.length ≤ 100000) :
    Calls Tryd.prog 13 #[.string ⟨b.toArray⟩, .int .u8 (c.toNat : Int)] w fun e w' => ∃ v, e = .returned v ∧ SOwn w.heap.size w' v (cutB c b) ∧ Below w.heap.size w w' := by
  have hsz := arr_size b
  have HI := Lib.hid (fun j x (h : b[j]? = some x) => str_idx b j x h)
  have HO := Lib.hid (fun j x (h : b[j]? = some x) => sub_at h)
  go_enter Tryd.func13, Tryd.ntmps13
  go_wp2_with fail
  go_loopw [5, 6, 7] (fun o u i wr => ∃ (j : Nat) (acc : List Txt) (x : Txt), i = .int .i64 (j : Int) ∧ u = .string ⟨x.toArray⟩ ∧ j ≤ b.length ∧ CutAt b c j acc x ∧ SOwn w.heap.size wr o acc ∧ Below w.heap.size w wr ∧ w.heap.size ≤ wr.heap.size) (fun _ _ i _ => b.length - (intOf i).toNat)
  case atStart => exact ⟨0, [], [], rfl, rfl, by omega, CutAt.start b c, FOwn.nil _ _, Below.refl _ _, Nat.le_refl _⟩
  case round =>
    obtain ⟨j, acc, x, rfl, rfl, hj, hc, ho, hbl, hz⟩ := hrel
    have HC := Lib.hid hc
    have HOw := Lib.hid ho
    have HB := Lib.hid hbl
    have hnl := hc.nl
    have hxl := hc.xl
    clear hc ho hbl
    by_cases hlt : j < b.length
    · obtain ⟨y, hy⟩ : ∃ y, b[j]? = some y := ⟨b[j], List.getElem?_eq_getElem hlt⟩
      have k0 := HI.out j y hy
      have k1 := HO.out j y hy
      have hlt' : (j : Int) < (b.length : Int) := by omega
      by_cases hyc : y = c
      · subst hyc
        have heq : ((y.toNat : Int) == (y.toNat : Int)) = true := by simp
        obtain ⟨v', w2, k7, h7, b7, z7⟩ := push_own HOw.out hz x (by omega)
        have H7 := Lib.hid h7
        have B7 := Lib.hid b7
        have HN := Lib.hid (HC.out.cut hy)
        clear h7 b7 hy HC k1 HOw
        go_wp2_with fail
        go_roundw
        case rel => exact ⟨j + 1, acc ++ [x], [], by go_num, rfl, by omega, HN.out, H7.out, HB.out.trans B7.out, by omega⟩
        case measure => simp [intOf]; omega
      · have hne := byte_ne hyc
        have k3 : ∀ W, (addS (.string ⟨x.toArray⟩) (.string ⟨#[y]⟩)).run Tryd.prog W = .ok (.string ⟨(x ++ [y]).toArray⟩) W := str_add x [y] (by simp; omega)
        have HN := Lib.hid (HC.out.next hy hyc)
        clear hy HC
        go_wp2_with fail
        go_roundw
        case rel => exact ⟨j + 1, acc, x ++ [y], by go_num, rfl, by omega, HN.out, HOw.out, HB.out, hz⟩
        case measure => simp [intOf]; omega
    · obtain rfl : j = b.length := by omega
      obtain ⟨v', w2, k7, h7, b7, z7⟩ := push_own HOw.out hz x (by omega)
      have H7 := Lib.hid h7
      have B7 := Lib.hid b7
      have HF := Lib.hid HC.out.fin
      clear h7 b7 HC HI HO HOw
      go_wp2_with fail
      go_ret
      exact ⟨_, rfl, by rw [HF.out]; exact H7.out, HB.out.trans B7.out⟩
set_option maxHeartbeats 4000000 in
theorem rends_any (b : Txt) (c : UInt8) (w : World) (hb : b.length ≤ 100000) :
    Calls Tryd.prog 20 #[.string ⟨b.toArray⟩, .int .u8 (c.toNat : Int)] w fun e w' => e = .returned (.bool (endsB b c)) ∧ w = w' := by
  have hsz := arr_size b
  by_cases h0 : b = []
  · subst h0
    go_enter Tryd.func20, Tryd.ntmps20
    go_wp2_with fail
    go_ret
    exact ⟨ret_bool rfl, rfl⟩
  · have hp : 0 < b.length := List.length_pos_iff.2 h0
    have hlt : (0 : Int) < (b.length : Int) := by omega
    obtain ⟨y, hy⟩ : ∃ y, b[b.length - 1]? = some y := ⟨b[b.length - 1], List.getElem?_eq_getElem (by omega)⟩
    have k0 : ∀ W, (Instr.index 9 (.string ⟨b.toArray⟩) (.int .i64 ((b.length : Int) - 1))).run Tryd.prog W = .ok (.int .u8 (y.toNat : Int)) W := by
      have h := str_idx b (b.length - 1) y hy
      have e : ((b.length - 1 : Nat) : Int) = (b.length : Int) - 1 := by omega
      rwa [e] at h
    have he : endsB b c = (y == c) := by
      unfold endsB
      rw [List.getLast?_eq_getElem?, hy]
      rfl
    rw [he]
    have h1 : IntKind.i64.wrap ((b.length : Int) - 1) = (b.length : Int) - 1 := wrap_any9 (by omega) (by omega)
    clear hy he hp h0
    by_cases hyc : y = c
    · subst hyc
      have heq : ((y.toNat : Int) == (y.toNat : Int)) = true := by simp
      go_enter Tryd.func20, Tryd.ntmps20
      go_wp2_with fail
      go_ret
      exact ⟨ret_bool (by simp), rfl⟩
    · have hne := byte_ne hyc
      have hq : (y == c) = false := by simpa using hyc
      rw [hq]
      go_enter Tryd.func20, Tryd.ntmps20
      go_wp2_with fail
      go_ret
      exact ⟨rfl, rfl⟩
set_option maxRecDepth 100000 in
set_option maxHeartbeats 4000000 in
theorem rwords_any (b : Txt) (w : World) (hb : b.length ≤ 100000) :
    Calls Tryd.prog 21 #[.string ⟨b.toArray⟩] w fun e w' => ∃ v, e = .returned v ∧ SOwn w.heap.size w' v (wordsB b) ∧ Below w.heap.size w w' := by
  have hsz := arr_size b
  have HI := Lib.hid (fun j x (h : b[j]? = some x) => str_idx b j x h)
  have HO := Lib.hid (fun j x (h : b[j]? = some x) => sub_at h)
  go_enter Tryd.func21, Tryd.ntmps21
  go_wp2_with fail
  go_loopw [3, 4, 5] (fun o u i wr => ∃ (j : Nat) (acc : List Txt) (x : Txt), i = .int .i64 (j : Int) ∧ u = .string ⟨x.toArray⟩ ∧ j ≤ b.length + 1 ∧ (j ≤ b.length → WAt b j acc x) ∧ (j = b.length + 1 → wordsB b = acc) ∧ SOwn w.heap.size wr o acc ∧ Below w.heap.size w wr ∧ w.heap.size ≤ wr.heap.size) (fun _ _ i _ => b.length + 1 - (intOf i).toNat)
  case atStart => exact ⟨0, [], [], rfl, rfl, by omega, fun _ => WAt.start b, fun h => by omega, FOwn.nil _ _, Below.refl _ _, Nat.le_refl _⟩
  case round =>
    obtain ⟨j, acc, x, rfl, rfl, hj, hc, hc', ho, hbl, hz⟩ := hrel
    have HOw := Lib.hid ho
    have HB := Lib.hid hbl
    clear ho hbl
    by_cases hle : j ≤ b.length
    · have HC := Lib.hid (hc hle)
      have hnl := (hc hle).nl
      have hxl := (hc hle).xl
      have hle' : (j : Int) ≤ (b.length : Int) := by omega
      clear hc hc'
      by_cases hlt : j < b.length
      · have hlt' : (j : Int) < (b.length : Int) := by omega
        obtain ⟨y, hy⟩ : ∃ y, b[j]? = some y := ⟨b[j], List.getElem?_eq_getElem hlt⟩
        have k0 := HI.out j y hy
        have k1 := HO.out j y hy
        by_cases hs : sepB y = true
        · have hs' : y = 32 ∨ y = 44 := by simpa [sepB] using hs
          by_cases hx : x = []
          · subst hx
            have HN := Lib.hid (HC.out.sep0 hy hs)
            have n0 : ∀ W, (neqS (.string ⟨([] : Txt).toArray⟩) (.string ⟨#[]⟩)).run Tryd.prog W = .ok (.bool false) W := neqS_same []
            clear hy HC k1 hs
            rcases hs' with rfl | rfl
            · have k0' : ∀ W, (Instr.index 9 (.string ⟨b.toArray⟩) (.int .i64 (j : Int))).run Tryd.prog W = .ok (.int .u8 32) W := k0
              clear k0
              go_wp2_with fail
              go_roundw
              case rel => exact ⟨j + 1, acc, [], by go_num, rfl, by omega, fun _ => HN.out, fun h => by omega, HOw.out, HB.out, hz⟩
              case measure => simp [intOf]; omega
            · have k0' : ∀ W, (Instr.index 9 (.string ⟨b.toArray⟩) (.int .i64 (j : Int))).run Tryd.prog W = .ok (.int .u8 44) W := k0
              clear k0
              go_wp2_with fail
              go_roundw
              case rel => exact ⟨j + 1, acc, [], by go_num, rfl, by omega, fun _ => HN.out, fun h => by omega, HOw.out, HB.out, hz⟩
              case measure => simp [intOf]; omega
          · obtain ⟨v', w2, k7, h7, b7, z7⟩ := push_own HOw.out hz x (by omega)
            have H7 := Lib.hid h7
            have B7 := Lib.hid b7
            have HN := Lib.hid (HC.out.sep1 hx hy hs)
            have n0 : ∀ W, (neqS (.string ⟨x.toArray⟩) (.string ⟨#[]⟩)).run Tryd.prog W = .ok (.bool true) W := neqS_other hx
            clear hy HC k1 hs hx h7 b7 HOw
            rcases hs' with rfl | rfl
            · have k0' : ∀ W, (Instr.index 9 (.string ⟨b.toArray⟩) (.int .i64 (j : Int))).run Tryd.prog W = .ok (.int .u8 32) W := k0
              clear k0
              go_wp2_with fail
              go_roundw
              case rel => exact ⟨j + 1, acc ++ [x], [], by go_num, rfl, by omega, fun _ => HN.out, fun h => by omega, H7.out, HB.out.trans B7.out, by omega⟩
              case measure => simp [intOf]; omega
            · have k0' : ∀ W, (Instr.index 9 (.string ⟨b.toArray⟩) (.int .i64 (j : Int))).run Tryd.prog W = .ok (.int .u8 44) W := k0
              clear k0
              go_wp2_with fail
              go_roundw
              case rel => exact ⟨j + 1, acc ++ [x], [], by go_num, rfl, by omega, fun _ => HN.out, fun h => by omega, H7.out, HB.out.trans B7.out, by omega⟩
              case measure => simp [intOf]; omega
        · have hs0 : sepB y = false := by simpa using hs
          have hs1 : y ≠ 32 ∧ y ≠ 44 := by simpa [sepB] using hs
          have hne1 : ((y.toNat : Int) == 32) = false := byte_ne hs1.1
          have hne2 : ((y.toNat : Int) == 44) = false := byte_ne hs1.2
          have hne3 : ((y.toNat : Int) != 32) = true := by rw [bne, hne1]; rfl
          have hne4 : ((y.toNat : Int) != 44) = true := by rw [bne, hne2]; rfl
          have k3 : ∀ W, (addS (.string ⟨x.toArray⟩) (.string ⟨#[y]⟩)).run Tryd.prog W = .ok (.string ⟨(x ++ [y]).toArray⟩) W := str_add x [y] (by simp; omega)
          have HN := Lib.hid (HC.out.next hy hs0)
          clear hy HC hs hs0 hs1
          go_wp2_with fail
          go_roundw
          case rel => exact ⟨j + 1, acc, x ++ [y], by go_num, rfl, by omega, fun _ => HN.out, fun h => by omega, HOw.out, HB.out, hz⟩
          case measure => simp [intOf]; omega
      · obtain rfl : j = b.length := by omega
        by_cases hx : x = []
        · subst hx
          have HN := Lib.hid HC.out.fin0
          have n0 : ∀ W, (neqS (.string ⟨([] : Txt).toArray⟩) (.string ⟨#[]⟩)).run Tryd.prog W = .ok (.bool false) W := neqS_same []
          clear HC HI HO
          go_wp2_with fail
          go_roundw
          case rel => exact ⟨b.length + 1, acc, [], by go_num, rfl, by omega, fun h => by omega, fun _ => HN.out, HOw.out, HB.out, hz⟩
          case measure => simp [intOf]
        · obtain ⟨v', w2, k7, h7, b7, z7⟩ := push_own HOw.out hz x (by omega)
          have H7 := Lib.hid h7
          have B7 := Lib.hid b7
          have HN := Lib.hid (HC.out.fin1 hx)
          have n0 : ∀ W, (neqS (.string ⟨x.toArray⟩) (.string ⟨#[]⟩)).run Tryd.prog W = .ok (.bool true) W := neqS_other hx
          clear HC HI HO hx h7 b7 HOw
          go_wp2_with fail
          go_roundw
          case rel => exact ⟨b.length + 1, acc ++ [x], [], by go_num, rfl, by omega, fun h => by omega, fun _ => HN.out, H7.out, HB.out.trans B7.out, by omega⟩
          case measure => simp [intOf]
    · obtain rfl : j = b.length + 1 := by omega
      have HN := Lib.hid (hc' rfl)
      have hgt : ¬ ((b.length + 1 : Nat) : Int) ≤ (b.length : Int) := by omega
      clear hc hc' HI HO
      go_wp2_with fail
      go_ret
      exact ⟨_, rfl, by rw [HN.out]; exact HOw.out, HB.out⟩
end Go.Proofs.YtaeplneiicobgaaDoor
namespace Go.Proofs.YtaeplneiicobgaaDoor
open Go.RowKit
theorem ixb_no (c : UInt8) : ∀ s : Txt, Lib.indexByte s c = -1 → c ∉ s
  | [], _ => by simp
  | x :: r, h => by
    unfold Lib.indexByte at h
    by_cases hx : x = c
    · subst hx; simp at h
    · have h1 : (x == c) = false := by simpa using hx
      rw [h1] at h
      simp only [Bool.false_eq_true, if_false] at h
      have hge := Lib.indexByte_ge r c
      have hm : Lib.indexByte r c = -1 := by
        by_cases hm : Lib.indexByte r c = -1
        · exact hm
        · have h2 : (Lib.indexByte r c == -1) = false := by simpa using hm
          rw [h2] at h
          simp only [Bool.false_eq_true, if_false] at h
          omega
      have ih := ixb_no c r hm
      simp only [List.mem_cons, not_or]
      exact ⟨fun e => hx e.symm, ih⟩
theorem ixb_at (c : UInt8) : ∀ (s : Txt) (i : Nat), Lib.indexByte s c = (i : Int) → s = s.take i ++ c :: s.drop (i + 1) ∧ c ∉ s.take i
  | [], i, h => absurd h (by show ¬ ((-1 : Int) = (i : Int)); omega)
  | x :: r, i, h => by
    have hge := Lib.indexByte_ge r c
    unfold Lib.indexByte at h
    by_cases hx : x = c
    · subst hx
      simp at h
      obtain rfl : i = 0 := by omega
      simp
    · have h1 : (x == c) = false := by simpa using hx
      rw [h1] at h
      simp only [Bool.false_eq_true, if_false] at h
      by_cases hm : Lib.indexByte r c = -1
      · rw [hm] at h; first | (simp at h; done) | (simp at h; omega)
      · have h2 : (Lib.indexByte r c == -1) = false := by simpa using hm
        rw [h2] at h
        simp only [Bool.false_eq_true, if_false] at h
        obtain ⟨k, rfl⟩ : ∃ k, i = k + 1 := ⟨i - 1, by omega⟩
        obtain ⟨h3, h4⟩ := ixb_at c r k (by omega)
        refine ⟨?_, ?_⟩
        · simp only [List.take_succ_cons, List.drop_succ_cons, List.cons_append]
          rw [← h3]
        · simp only [List.take_succ_cons, List.mem_cons, not_or]
          exact ⟨fun e => hx e.symm, h4⟩
theorem split_cut (c : UInt8) : ∀ (n : Nat) (s : Txt), s.count c = n → Lib.splitK [c] 0 n s = cutB c s
  | 0, s, h => by
    have : c ∉ s := List.count_eq_zero.1 h
    rw [cut_no c s this]
    rfl
  | n + 1, s, h => by
    have hm : c ∈ s := by
      refine Decidable.byContradiction fun q => ?_
      rw [List.count_eq_zero.2 q] at h
      omega
    have hge := Lib.indexByte_ge s c
    obtain ⟨i, hi⟩ : ∃ i : Nat, Lib.indexByte s c = (i : Int) := by
      refine ⟨(Lib.indexByte s c).toNat, ?_⟩
      have : Lib.indexByte s c ≠ -1 := fun e => ixb_no c s e hm
      omega
    obtain ⟨h1, h2⟩ := ixb_at c s i hi
    have hc : (s.drop (i + 1)).count c = n := by
      have := h
      rw [h1, List.count_append, List.count_eq_zero.2 h2, List.count_cons_self] at this
      omega
    unfold Lib.splitK
    rw [Lib.index_one, hi, if_neg (by simp), Int.toNat_natCast]
    rw [show i + [c].length = i + 1 from rfl, split_cut c n _ hc, Nat.add_zero]
    conv => rhs; rw [h1]
    rw [cut_app c _ _ h2]
set_option maxHeartbeats 1000000 in
theorem cut9_any (b : Txt) (w : World) (hb : b.length ≤ 100000) : Calls Tryd.prog 12 #[.string ⟨b.toArray⟩] w fun e w' => ∃ v, e = .returned v ∧ SOwn w.heap.size w' v (cutB 9 b) ∧ Below w.heap.size w w' := by
  have hsz := arr_size b
  have h := gsplit_any ⟨b.toArray⟩ 9 w (by omega)
  have hcn : Lib.countB ⟨b.toArray⟩ ⟨#[9]⟩ = b.count 9 := by
    show Lib.count b [9] = _
    exact Lib.count_one 9 b
  rw [hcn] at h
  obtain ⟨L, hL⟩ : ∃ L, Lib.splitB ⟨#[9]⟩ 0 (b.count 9) ⟨b.toArray⟩ = L := ⟨_, rfl⟩
  have hLm : L.map (·.data.toList) = cutB 9 b := by
    rw [← hL, Lib.splitB_data]
    exact split_cut 9 _ b rfl
  have hLl : L.length = b.count 9 + 1 := by
    have := congrArg List.length hLm
    rw [List.length_map, cutB_len] at this
    omega
  have hLc : (Lib.cellsOf L (b.count 9 + 1)) = (flatV scell (cutB 9 b)).toArray := by
    rw [← hLl, Lib.cellsOf_full, ← hLm]
    congr 1
    clear hL hLm hLl h
    induction L with
    | nil => rfl
    | cons x r ih =>
      simp only [List.map_cons, flatV, List.flatMap_cons, scell]
      simp only [flatV, scell] at ih
      rw [ih]
      rfl
  rw [hL, hLc, hLl] at h
  have hll : (cutB 9 b).length = b.count 9 + 1 := by rw [cutB_len]; omega
  have hcl : b.count 9 ≤ b.length := List.count_le_length
  have H : Hid (Calls Tryd.prog 39 #[.string ⟨b.toArray⟩, .string ⟨#[9]⟩, .int .i64 0, .int .i64 (-1)] w fun e w' => ∃ a c, e = .returned (.slice a (b.count 9 + 1) c) ∧ SOwn w.heap.size w' (.slice a (b.count 9 + 1) c) (cutB 9 b) ∧ Below w.heap.size w w') := Lib.hid (h.mono fun e w' ⟨he, hw⟩ => by
    subst hw
    have hk := Blk.fown (f := scell) (n := 1) (base := w.heap.size) (fun _ => rfl) (heap_alloc_new w (.cells (flatV scell (cutB 9 b)).toArray 9)) (Nat.le_refl _) (by rw [hll]; unfold maxLen; omega)
    rw [hll] at hk
    exact ⟨_, _, he, hk, below_lit w _⟩)
  obtain ⟨m, hm⟩ : ∃ m, b.count 9 + 1 = m := ⟨_, rfl⟩
  rw [hm] at H
  clear h hL hLm hLl hLc hll hcl hcn hm
  have S1 : Hid (Calls Tryd.prog 25 #[.string ⟨b.toArray⟩, .string ⟨#[9]⟩] w fun e w' => ∃ a c, e = .returned (.slice a m c) ∧ SOwn w.heap.size w' (.slice a m c) (cutB 9 b) ∧ Below w.heap.size w w') := Lib.hid (by
    go_enter Tryd.func25, Tryd.ntmps25
    go_wp2_with (go_at_call 39; refine H.out.mono ?_; rintro e w1 ⟨a1, c1, rfl, h1, h2⟩)
    go_ret
    exact ⟨_, _, rfl, h1, h2⟩)
  go_enter Tryd.func12, Tryd.ntmps12
  go_wp2_with (go_at_call 25; refine S1.out.mono ?_; rintro e w1 ⟨a1, c1, rfl, h1, h2⟩)
  go_ret
  exact ⟨_, rfl, h1, h2⟩
end Go.Proofs.YtaeplneiicobgaaDoor
namespace Go.Proofs.YtaeplneiicobgaaDoor
open Go.RowKit Go.Lib
def colI (x : Int) : Bool := x == 108 || x == 99 || x == 114
def keepI (x : Int) : Int := if colI x then x else -1
theorem col_side (b : UInt8) : colI (b.toNat : Int) = side b := by
  unfold colI side
  have e : ∀ k : UInt8, ((b.toNat : Int) == (k.toNat : Int)) = (b == k) := fun k => by
    rw [Bool.eq_iff_iff]
    simp only [beq_iff_eq]
    constructor
    · intro h
      have h' : b.toNat = k.toNat := by omega
      exact UInt8.toNat_inj.1 h'
    · rintro rfl; rfl
  rw [← e 108, ← e 99, ← e 114]
  rfl
theorem col_high {x : Int} (h : 128 ≤ x) : colI x = false := by
  unfold colI
  have h1 : (x == 108) = false := by simp; omega
  have h2 : (x == 99) = false := by simp; omega
  have h3 : (x == 114) = false := by simp; omega
  rw [h1, h2, h3]; rfl
theorem side_high {b : UInt8} (h : 128 ≤ b.toNat) : side b = false := by rw [← col_side]; exact col_high (by omega)
theorem high_cont {b : UInt8} (h : b.toNat / 64 = 2) : side b = false := side_high (by omega)
/-- What a rune of more than one byte takes has no sign of a column. -/
theorem drop_side (b : UInt8) (t : List UInt8) (h : 128 ≤ b.toNat) : (b :: t).filter side = ((b :: t).drop (decodeL (b :: t)).2).filter side := by
  have hb := side_high h
  rw [decodeL_N]
  rcases decodeN_shape (b :: t).length ((b :: t).getD 0 0).toNat ((b :: t).getD 1 0).toNat ((b :: t).getD 2 0).toNat ((b :: t).getD 3 0).toNat with ⟨c, e⟩ | ⟨c1, c2, c3, cv, e⟩ | ⟨c1, c2, c3, c4, cv, cs, e⟩ | ⟨c1, c2, c3, c4, c5, cv, cw, e⟩ | e
  · exfalso
    have : ((b :: t).getD 0 0) = b := rfl
    rw [this] at c
    omega
  · rw [e]
    rcases t with _ | ⟨x1, t⟩
    · simp at c2
    · have k1 : side x1 = false := high_cont c3
      simp [hb, k1]
  · rw [e]
    rcases t with _ | ⟨x1, _ | ⟨x2, t⟩⟩
    · simp at c2
    · simp at c2
    · have k1 : side x1 = false := high_cont c3
      have k2 : side x2 = false := high_cont c4
      simp [hb, k1, k2]
  · rw [e]
    rcases t with _ | ⟨x1, _ | ⟨x2, _ | ⟨x3, t⟩⟩⟩
    · simp at c2
    · simp at c2
    · simp at c2
    · have k1 : side x1 = false := high_cont c3
      have k2 : side x2 = false := high_cont c4
      have k3 : side x3 = false := high_cont c5
      simp [hb, k1, k2, k3]
  · rw [e]
    simp [hb]
theorem decodeL_high (b : UInt8) (t : List UInt8) (h : 128 ≤ b.toNat) : 128 ≤ (decodeL (b :: t)).1 :=
  (decode_high ⟨(b :: t).toArray⟩ 0 (by simp [Go.Lib.size_eq]) (by exact h)).1
theorem map_keep : ∀ (n : Nat) (l : List UInt8), l.length ≤ n → mapD keepI l = l.filter side
  | _, [], _ => rfl
  | 0, _ :: _, h => by simp at h
  | n + 1, b :: t, h => by
    rw [mapD_step keepI (b :: t) (by simp)]
    by_cases ha : b.toNat < 128
    · rw [decodeL_ascii b t ha]
      simp only [List.drop_succ_cons, List.drop_zero]
      rw [map_keep n t (by simpa using h)]
      by_cases hs : side b = true
      · have hk : keepI (b.toNat : Int) = (b.toNat : Int) := by unfold keepI; rw [col_side, hs]; rfl
        have henc := encode_decode (b :: t) (by simp) (by rw [decodeL_ascii b t ha]; simp; omega)
        rw [decodeL_ascii b t ha] at henc
        rw [hk, if_pos (by omega), List.filter_cons_of_pos hs, henc]
        rfl
      · have hs' : side b = false := by simpa using hs
        have hk : keepI (b.toNat : Int) = -1 := by unfold keepI; rw [col_side, hs']; rfl
        rw [hk, if_neg (by decide), List.filter_cons_of_neg hs]
        rfl
    · have hh := decodeL_high b t (by omega)
      have hk : keepI ((decodeL (b :: t)).1 : Int) = -1 := by unfold keepI; rw [col_high (by omega)]; rfl
      have hw := decodeL_width (b :: t)
      rw [hk, if_neg (by decide), List.nil_append, map_keep n _ (by rw [List.length_drop]; simp only [List.length_cons] at h ⊢; omega), ← drop_side b t (by omega)]
set_option maxRecDepth 100000 in
theorem pcolumn_any (x : Int) (w : World) : Calls Tryd.prog 62 #[.int .i32 x] w fun e w' => e = .returned (.bool (colI x)) ∧ w = w' := by
  unfold colI
  by_cases h1 : x = 108
  · subst h1
    go_enter Tryd.func62, Tryd.ntmps62
    go_wp2_with fail
    go_ret
    exact ⟨rfl, rfl⟩
  · have n1 : (x == 108) = false := by simpa using h1
    by_cases h2 : x = 99
    · subst h2
      clear h1
      go_enter Tryd.func62, Tryd.ntmps62
      go_wp2_with fail
      go_ret
      exact ⟨rfl, rfl⟩
    · have n2 : (x == 99) = false := by simpa using h2
      rw [n1, n2]
      obtain ⟨p, hp⟩ : ∃ p, (x == 114) = p := ⟨_, rfl⟩
      rw [hp]
      clear h1 h2
      go_enter Tryd.func62, Tryd.ntmps62
      go_wp2_with fail
      go_ret
      exact ⟨rfl, rfl⟩
set_option maxRecDepth 100000 in
theorem pkeep_any (x : Int) (w : World) : Calls Tryd.prog 61 #[.int .i32 x] w fun e w' => e = .returned (.int .i32 (keepI x)) ∧ w = w' := by
  have H := Lib.hid (pcolumn_any x w)
  unfold keepI
  obtain ⟨p, hp⟩ : ∃ p, colI x = p := ⟨_, rfl⟩
  rw [hp] at H ⊢
  clear hp
  cases p
  · rw [if_neg (by simp)]
    go_enter Tryd.func61, Tryd.ntmps61
    go_wp2_with fail
    refine H.out.mono ?_
    rintro e w1 ⟨rfl, rfl⟩
    go_wp2_with fail
    go_ret
    exact ⟨rfl, rfl⟩
  · rw [if_pos rfl]
    go_enter Tryd.func61, Tryd.ntmps61
    go_wp2_with fail
    refine H.out.mono ?_
    rintro e w1 ⟨rfl, rfl⟩
    go_wp2_with fail
    go_ret
    exact ⟨rfl, rfl⟩
theorem keep_range (x : Int) (h0 : 0 ≤ x) (h1 : x ≤ 1114111) : -2147483648 ≤ keepI x ∧ keepI x ≤ 2147483647 := by
  unfold keepI
  split <;> omega
theorem pmapcols_any (l : List UInt8) (w : World) (hU : U8 w) (hl : l.length ≤ 90000) : Calls Tryd.prog 63 #[.func (.func 61) #[] #[], .string ⟨l.toArray⟩] w fun e w' => e = .returned (.string ⟨(l.filter side).toArray⟩) ∧ Below w.heap.size w w' := by
  have hsz : (⟨l.toArray⟩ : ByteArray).size = l.length := by simp [Go.Lib.size_eq]
  have h := smap_any 61 #[] (enters_of Tryd.func61 (by kernel_rfl) rfl) keepI ⟨l.toArray⟩ w (by rw [hsz]; omega) (fun W x _ _ => (pkeep_any (x : Int) W).mono fun e w' ⟨he, hw⟩ => ⟨he, hw ▸ Below.refl _ _⟩) (fun x hx => keep_range _ (by omega) (by omega)) hU
  have e : (⟨l.toArray⟩ : ByteArray).data.toList = l := rfl
  rw [e, map_keep l.length l (Nat.le_refl _)] at h
  exact h
attribute [local go_sem ↓ high] binop_eqT binop_neqT builtin_mnS
set_option maxRecDepth 100000 in
theorem pcolumns_any (c : List UInt8) (w : World) (hU : U8 w) (hl : c.length ≤ 90000) : Calls Tryd.prog 47 #[.string ⟨c.toArray⟩] w fun e w' => e = .returned (.string ⟨(mcols c).toArray⟩) ∧ Below w.heap.size w w' := by
  have HM := Lib.hid (pmapcols_any c w hU hl)
  have hfl : (c.filter side).length ≤ c.length := List.length_filter_le _ _
  unfold mcols
  obtain ⟨F, hF⟩ : ∃ F, c.filter side = F := ⟨_, rfl⟩
  rw [hF] at HM hfl ⊢
  have q1 := eqT_run F []
  have hFl : (⟨F.toArray⟩ : ByteArray).size = F.length := by simp [Go.Lib.size_eq]
  clear hF hU
  by_cases he : F = []
  · rw [decide_eq_true he] at q1
    subst he
    rw [show (if ([] : List UInt8).take 20 = [] then ([108] : List UInt8) else ([] : List UInt8).take 20) = [108] from rfl]
    go_enter Tryd.func47, Tryd.ntmps47
    go_wp2_with fail
    refine HM.out.mono ?_
    rintro e w1 ⟨rfl, b1⟩
    have B1 := Lib.hid b1
    clear b1 HM
    go_wp2_with fail
    go_ret
    exact ⟨rfl, B1.out⟩
  · rw [decide_eq_false he] at q1
    have hne : ¬ F.take 20 = [] := fun h => he (by
      cases F with
      | nil => rfl
      | cons x l => simp at h)
    rw [if_neg hne]
    have mm := mnS_run (F.length : Int) 20 ((min F.length 20 : Nat) : Int) (by split <;> omega)
    have hsl : ∀ W : World, (Instr.slice 9 (.string ⟨F.toArray⟩) none (some (.int .i64 ((min F.length 20 : Nat) : Int))) none).run Tryd.prog W = .ok (.string ⟨(F.take 20).toArray⟩) W := fun W => by
      rw [run_slice_string_h W 9 _ Tryd.underlying9 .i64 _ (by omega) (by rw [hFl]; omega)]
      have e : (⟨F.toArray⟩ : ByteArray).extract 0 ((min F.length 20 : Nat) : Int).toNat = ⟨(F.take 20).toArray⟩ := by
        rw [ByteArray.extract_mk]
        simp only [Int.toNat_natCast]
        have e2 : F.take (min F.length 20) = F.take 20 := by
          by_cases h : F.length ≤ 20
          · rw [Nat.min_eq_left h, List.take_length, List.take_of_length_le h]
          · rw [Nat.min_eq_right (by omega)]
        simp [e2]
      rw [e]
    clear he hne
    go_enter Tryd.func47, Tryd.ntmps47
    go_wp2_with fail
    refine HM.out.mono ?_
    rintro e w1 ⟨rfl, b1⟩
    have B1 := Lib.hid b1
    clear b1 HM
    go_wp2_with fail
    go_ret
    exact ⟨rfl, B1.out⟩
end Go.Proofs.YtaeplneiicobgaaDoor
namespace Go.Proofs.YtaeplneiicobgaaDoor
open Go.RowKit
attribute [local go_sem ↓ high] binop_addS builtin_appS binop_eqlS binop_neqS
theorem ends_ne {b : Txt} {c : UInt8} (h : endsB b c = true) : 0 < b.length := by
  cases b with
  | nil => exact absurd h (by simp [endsB])
  | cons x r => simp
theorem str_front {b : Txt} (h : 0 < b.length) (W : World) : (Instr.slice 9 (.string ⟨b.toArray⟩) none (some (.int .i64 ((b.length : Int) - 1))) none).run Tryd.prog W = .ok (.string ⟨b.dropLast.toArray⟩) W := by
  have k := str_to b (b.length - 1) (by omega) W
  have e : ((b.length - 1 : Nat) : Int) = (b.length : Int) - 1 := by omega
  rw [e] at k
  rw [List.dropLast_eq_take]
  exact k
theorem lookB_no {b : Txt} (h : endsB b 59 = false) : lookB b = (false, false, false) := by unfold lookB; rw [h]; rfl
theorem lookB_bad {b : Txt} (h : endsB b 59 = true) (k : lookW (wordsB b.dropLast) = none) : lookB b = (false, false, false) := by unfold lookB; rw [h, k]; rfl
theorem lookB_ok {b : Txt} {x y : Bool} (h : endsB b 59 = true) (k : lookW (wordsB b.dropLast) = some (x, y)) : lookB b = (x, y, true) := by unfold lookB; rw [h, k]; rfl
set_option maxRecDepth 100000 in
set_option maxHeartbeats 4000000 in
theorem rlook_any (b : Txt) (w : World) (hb : b.length ≤ 100000) :
    Calls Tryd.prog 8 #[.string ⟨b.toArray⟩] w fun e w' => e = .returned (.tuple #[.bool (lookB b).1, .bool (lookB b).2.1, .bool (lookB b).2.2]) ∧ Below w.heap.size w w' := by
  have hsz := arr_size b
  have HE := Lib.hid (rends_any b 59 w hb)
  by_cases he : endsB b 59 = true
  · rw [he] at HE
    have hp := ends_ne he
    have k1 := str_front hp
    have h1 : IntKind.i64.wrap ((b.length : Int) - 1) = (b.length : Int) - 1 := wrap_any9 (by omega) (by omega)
    have HW := Lib.hid (rwords_any b.dropLast w (by simp; omega))
    have HL := Lib.hid he
    obtain ⟨L, hL⟩ : ∃ L, wordsB b.dropLast = L := ⟨_, rfl⟩
    have hn := wordsB_num b.dropLast
    rw [List.length_dropLast] at hn
    rw [hL] at HW hn
    have HLL := Lib.hid hL
    clear he hL
    go_enter Tryd.func8, Tryd.ntmps8
    go_wp2_with (go_at_call 20; refine HE.out.mono ?_; rintro e w' ⟨rfl, rfl⟩)
    refine HW.out.mono ?_
    rintro e w1 ⟨v, rfl, ho, hbl⟩
    obtain ⟨va, vc, rfl⟩ := (FOwn.sl scell_len ho).len
    have HS := Lib.hid (FOwn.sl scell_len ho)
    have HB := Lib.hid hbl
    obtain ⟨N, hN⟩ : ∃ N, L.length = N := ⟨_, rfl⟩
    rw [hN] at HS hn
    rw [hN]
    have HN := Lib.hid hN
    clear ho hbl HE HW k1 h1 hp hsz hN
    go_wp2_with fail
    go_loopw [6, 7, 8] (fun x y i wr => ∃ (j : Nat) (bx al : Bool), i = .int .i64 (j : Int) ∧ x = .bool bx ∧ y = .bool al ∧ j ≤ N ∧ LookAt L j bx al ∧ wr = w1) (fun _ _ i _ => N - (intOf i).toNat)
    case atStart => exact ⟨0, false, false, rfl, rfl, rfl, by omega, LookAt.start L, rfl⟩
    case round =>
      obtain ⟨j, bx, al, rfl, rfl, rfl, hj, hla, rfl⟩ := hrel
      have HA := Lib.hid hla
      clear hla
      by_cases hlt : j < N
      · obtain ⟨x, hx⟩ : ∃ x, L[j]? = some x := ⟨L[j]'(by rw [HN.out]; exact hlt), List.getElem?_eq_getElem _⟩
        obtain ⟨g, off, rfl, c0⟩ := Ss.at HS.out hx
        have hi0 : (0 : Int) ≤ (j : Int) := by omega
        have hi1 : (j : Int) < (N : Int) := by omega
        by_cases hx1 : x = boxW
        · have n1 : ∀ W, (neqS (.string ⟨x.toArray⟩) (.string ⟨#[98, 111, 120]⟩)).run Tryd.prog W = .ok (.bool false) W := by rw [hx1]; exact neqS_same boxW
          have n2 : ∀ W, (eqlS (.string ⟨x.toArray⟩) (.string ⟨#[97, 108, 108, 98, 111, 120]⟩)).run Tryd.prog W = .ok (.bool false) W := fun W => by
            have := eqlS_run x allW W
            rw [hx1] at this ⊢
            exact this
          have HX := Lib.hid (HA.out.box hx hx1)
          clear hx HA hx1
          cases al
          all_goals
            go_wp2_with fail
            go_roundw
            case rel => exact ⟨j + 1, true, _, by go_num, rfl, rfl, by omega, HX.out, by first | trivial | rfl⟩
            case measure => simp [intOf]; omega
        · have n1 : ∀ W, (neqS (.string ⟨x.toArray⟩) (.string ⟨#[98, 111, 120]⟩)).run Tryd.prog W = .ok (.bool true) W := neqS_other hx1
          by_cases hx2 : x = allW
          · have n2 : ∀ W, (neqS (.string ⟨x.toArray⟩) (.string ⟨#[97, 108, 108, 98, 111, 120]⟩)).run Tryd.prog W = .ok (.bool false) W := by rw [hx2]; exact neqS_same allW
            have n3 : ∀ W, (eqlS (.string ⟨x.toArray⟩) (.string ⟨#[97, 108, 108, 98, 111, 120]⟩)).run Tryd.prog W = .ok (.bool true) W := fun W => by
              have := eqlS_run x allW W
              rw [decide_eq_true hx2] at this
              exact this
            have HX := Lib.hid (HA.out.all hx hx2)
            clear hx HA hx1 hx2
            cases al
            all_goals
              go_wp2_with fail
              go_roundw
              case rel => exact ⟨j + 1, true, true, by go_num, rfl, rfl, by omega, HX.out, by first | trivial | rfl⟩
              case measure => simp [intOf]; omega
          · have n2 : ∀ W, (neqS (.string ⟨x.toArray⟩) (.string ⟨#[97, 108, 108, 98, 111, 120]⟩)).run Tryd.prog W = .ok (.bool true) W := neqS_other hx2
            have HX := Lib.hid (lookB_bad HL.out (by rw [HLL.out]; exact HA.out.bad hx hx1 hx2))
            clear hx HA hx1 hx2
            go_wp2_with fail
            go_ret3
            rw [HX.out]
            exact ⟨rfl, HB.out⟩
      · obtain rfl : j = N := by omega
        have HX := Lib.hid (lookB_ok HL.out (by rw [HLL.out]; exact LookAt.fin (by rw [HN.out]; exact HA.out)))
        clear HA
        go_wp2_with fail
        go_ret3
        rw [HX.out]
        exact ⟨rfl, HB.out⟩
  · have he' : endsB b 59 = false := by simpa using he
    rw [he'] at HE
    have HX := Lib.hid (lookB_no he')
    clear he he'
    go_enter Tryd.func8, Tryd.ntmps8
    go_wp2_with (go_at_call 20; refine HE.out.mono ?_; rintro e w' ⟨rfl, rfl⟩)
    go_ret3
    rw [HX.out]
    exact ⟨rfl, Below.refl _ _⟩
end Go.Proofs.YtaeplneiicobgaaDoor
namespace Go.Proofs.YtaeplneiicobgaaDoor
open Go.RowKit
attribute [local go_sem ↓ high] binop_addS builtin_appS binop_eqlS binop_neqS
set_option maxRecDepth 100000 in
set_option maxHeartbeats 8000000 in
/-- The loop's way: words, told one by one. -/
theorem rcols_any (b : Txt) (w : World) (hb : b.length ≤ 100000) :
    Calls Tryd.prog 10 #[.string ⟨b.toArray⟩] w fun e w' => e = .returned (.tuple #[.string ⟨(colsB b).1.toArray⟩, .bool (colsB b).2]) ∧ Below w.heap.size w w' := by
  have hsz := arr_size b
  have HE := Lib.hid (rends_any b 46 w hb)
  rw [colsB_eq]
  obtain ⟨c, hc⟩ : ∃ c, (if endsB b 46 then b.dropLast else b) = c := ⟨_, rfl⟩
  have hcl : c.length ≤ b.length := by rw [← hc]; split <;> simp
  rw [hc]
  have HW := Lib.hid (rwords_any c w (by omega))
  obtain ⟨L, hL⟩ : ∃ L, wordsB c = L := ⟨_, rfl⟩
  have hn := wordsB_num c
  have hne := words_ne c
  rw [hL] at HW hn hne
  rw [hL]
  have HNE := Lib.hid hne
  have hn' : L.length ≤ 100001 := by omega
  have hmain : ∀ (v : Value) (w1 : World), SOwn w.heap.size w1 v L → Below w.heap.size w w1 → True := fun _ _ _ _ => trivial
  clear hmain hL hne hcl hn
  go_enter Tryd.func10, Tryd.ntmps10
  by_cases he : endsB b 46 = true
  · rw [he] at HE hc
    simp only [if_true] at hc
    subst hc
    have hp := ends_ne he
    have k1 := str_front hp
    have h1 : IntKind.i64.wrap ((b.length : Int) - 1) = (b.length : Int) - 1 := wrap_any9 (by omega) (by omega)
    clear he hp hsz
    go_wp2_with (go_at_call 20; refine HE.out.mono ?_; rintro e w' ⟨rfl, rfl⟩)
    refine HW.out.mono ?_
    rintro e w1 ⟨v, rfl, ho, hbl⟩
    obtain ⟨va, vc, rfl⟩ := (FOwn.sl scell_len ho).len
    have HS := Lib.hid (FOwn.sl scell_len ho)
    have HB := Lib.hid hbl
    obtain ⟨N, hN⟩ : ∃ N, L.length = N := ⟨_, rfl⟩
    rw [hN] at HS hn'
    rw [hN]
    have HN := Lib.hid hN
    clear ho hbl HE HW hN
    go_wp2_with fail
    go_loopw [5, 6, 7] (fun o k i wr => ∃ (j : Nat), i = .int .i64 (j : Int) ∧ o = .string ⟨(colsW (L.take j)).1.toArray⟩ ∧ k = .bool (colsW (L.take j)).2 ∧ j ≤ N ∧ wr = w1) (fun _ _ i _ => N - (intOf i).toNat)
    case atStart => exact ⟨0, rfl, rfl, rfl, by omega, rfl⟩
    case round =>
      obtain ⟨j, rfl, rfl, rfl, hj, rfl⟩ := hrel
      by_cases hlt : j < N
      · obtain ⟨x, hx⟩ : ∃ x, L[j]? = some x := ⟨L[j]'(by rw [HN.out]; exact hlt), List.getElem?_eq_getElem _⟩
        obtain ⟨g, off, rfl, c0⟩ := Ss.at HS.out hx
        have hi0 : (0 : Int) ≤ (j : Int) := by omega
        have hi1 : (j : Int) < (N : Int) := by omega
        have hxne := HNE.out x (List.mem_of_getElem? hx)
        obtain ⟨y, hy⟩ : ∃ y, x[0]? = some y := ⟨x[0]'(List.length_pos_iff.2 hxne), List.getElem?_eq_getElem _⟩
        have k0 : ∀ W, (Instr.index 9 (.string ⟨x.toArray⟩) (.int .i64 0)).run Tryd.prog W = .ok (.int .u8 (y.toNat : Int)) W := str_idx x 0 y hy
        have hst := colsW_step hx
        rw [colB_of hy] at hst
        have hol : (colsW (L.take j)).1.length ≤ j := by unfold colsW; simp; omega
        obtain ⟨⟨o, q⟩, hoq⟩ : ∃ o, colsW (L.take j) = o := ⟨_, rfl⟩
        rw [hoq] at hst hol
        rw [hoq]
        simp only at hst hol ⊢
        have HST := Lib.hid hst
        clear hst hoq hx hxne hy
        by_cases y108 : y = 108
        · subst y108
          have k0' : ∀ W, (Instr.index 9 (.string ⟨x.toArray⟩) (.int .i64 0)).run Tryd.prog W = .ok (.int .u8 108) W := k0
          have a0 : ∀ W, (addS (.string ⟨o.toArray⟩) (.string ⟨#[108]⟩)).run Tryd.prog W = .ok (.string ⟨(o ++ [108]).toArray⟩) W := str_add o [108] (by simp; omega)
          clear k0
          go_wp2_with fail
          go_roundw
          case rel => exact ⟨j + 1, by go_num, by rw [HST.out]; rfl, by rw [HST.out]; simp, by omega, by first | trivial | rfl⟩
          case measure => simp [intOf]; omega
        by_cases y76 : y = 76
        · subst y76
          have k0' : ∀ W, (Instr.index 9 (.string ⟨x.toArray⟩) (.int .i64 0)).run Tryd.prog W = .ok (.int .u8 76) W := k0
          have a0 : ∀ W, (addS (.string ⟨o.toArray⟩) (.string ⟨#[108]⟩)).run Tryd.prog W = .ok (.string ⟨(o ++ [108]).toArray⟩) W := str_add o [108] (by simp; omega)
          clear k0
          go_wp2_with fail
          go_roundw
          case rel => exact ⟨j + 1, by go_num, by rw [HST.out]; rfl, by rw [HST.out]; simp, by omega, by first | trivial | rfl⟩
          case measure => simp [intOf]; omega
        by_cases y99 : y = 99
        · subst y99
          have k0' : ∀ W, (Instr.index 9 (.string ⟨x.toArray⟩) (.int .i64 0)).run Tryd.prog W = .ok (.int .u8 99) W := k0
          have a0 : ∀ W, (addS (.string ⟨o.toArray⟩) (.string ⟨#[99]⟩)).run Tryd.prog W = .ok (.string ⟨(o ++ [99]).toArray⟩) W := str_add o [99] (by simp; omega)
          clear k0
          go_wp2_with fail
          go_roundw
          case rel => exact ⟨j + 1, by go_num, by rw [HST.out]; rfl, by rw [HST.out]; simp, by omega, by first | trivial | rfl⟩
          case measure => simp [intOf]; omega
        by_cases y67 : y = 67
        · subst y67
          have k0' : ∀ W, (Instr.index 9 (.string ⟨x.toArray⟩) (.int .i64 0)).run Tryd.prog W = .ok (.int .u8 67) W := k0
          have a0 : ∀ W, (addS (.string ⟨o.toArray⟩) (.string ⟨#[99]⟩)).run Tryd.prog W = .ok (.string ⟨(o ++ [99]).toArray⟩) W := str_add o [99] (by simp; omega)
          clear k0
          go_wp2_with fail
          go_roundw
          case rel => exact ⟨j + 1, by go_num, by rw [HST.out]; rfl, by rw [HST.out]; simp, by omega, by first | trivial | rfl⟩
          case measure => simp [intOf]; omega
        by_cases y114 : y = 114
        · subst y114
          have k0' : ∀ W, (Instr.index 9 (.string ⟨x.toArray⟩) (.int .i64 0)).run Tryd.prog W = .ok (.int .u8 114) W := k0
          have a0 : ∀ W, (addS (.string ⟨o.toArray⟩) (.string ⟨#[114]⟩)).run Tryd.prog W = .ok (.string ⟨(o ++ [114]).toArray⟩) W := str_add o [114] (by simp; omega)
          clear k0
          go_wp2_with fail
          go_roundw
          case rel => exact ⟨j + 1, by go_num, by rw [HST.out]; rfl, by rw [HST.out]; simp, by omega, by first | trivial | rfl⟩
          case measure => simp [intOf]; omega
        by_cases y82 : y = 82
        · subst y82
          have k0' : ∀ W, (Instr.index 9 (.string ⟨x.toArray⟩) (.int .i64 0)).run Tryd.prog W = .ok (.int .u8 82) W := k0
          have a0 : ∀ W, (addS (.string ⟨o.toArray⟩) (.string ⟨#[114]⟩)).run Tryd.prog W = .ok (.string ⟨(o ++ [114]).toArray⟩) W := str_add o [114] (by simp; omega)
          clear k0
          go_wp2_with fail
          go_roundw
          case rel => exact ⟨j + 1, by go_num, by rw [HST.out]; rfl, by rw [HST.out]; simp, by omega, by first | trivial | rfl⟩
          case measure => simp [intOf]; omega
        have a0 : ∀ W, (addS (.string ⟨o.toArray⟩) (.string ⟨#[108]⟩)).run Tryd.prog W = .ok (.string ⟨(o ++ [108]).toArray⟩) W := str_add o [108] (by simp; omega)
        have e108 : ((y.toNat : Int) == 108) = false := byte_ne y108
        have e76 : ((y.toNat : Int) == 76) = false := byte_ne y76
        have e99 : ((y.toNat : Int) == 99) = false := byte_ne y99
        have e67 : ((y.toNat : Int) == 67) = false := byte_ne y67
        have e114 : ((y.toNat : Int) == 114) = false := byte_ne y114
        have e82 : ((y.toNat : Int) == 82) = false := byte_ne y82
        have HST' := Lib.hid HST.out
        rw [if_neg (by simp [y108, y76]), if_neg (by simp [y99, y67]), if_neg (by simp [y114, y82])] at HST'
        clear HST y108 y76 y99 y67 y114 y82
        go_wp2_with fail
        go_roundw
        case rel => exact ⟨j + 1, by go_num, by rw [HST'.out], by rw [HST'.out]; simp, by omega, by first | trivial | rfl⟩
        case measure => simp [intOf]; omega
      · obtain rfl : j = N := by omega
        have ht : L.take j = L := by rw [← HN.out, List.take_length]
        rw [ht]
        clear ht
        go_wp2_with fail
        go_ret2
        exact ⟨rfl, HB.out⟩
  · have he' : endsB b 46 = false := by simpa using he
    rw [he'] at HE hc
    simp only [Bool.false_eq_true, if_false] at hc
    subst hc
    clear he he' hsz
    go_wp2_with (go_at_call 20; refine HE.out.mono ?_; rintro e w' ⟨rfl, rfl⟩)
    refine HW.out.mono ?_
    rintro e w1 ⟨v, rfl, ho, hbl⟩
    obtain ⟨va, vc, rfl⟩ := (FOwn.sl scell_len ho).len
    have HS := Lib.hid (FOwn.sl scell_len ho)
    have HB := Lib.hid hbl
    obtain ⟨N, hN⟩ : ∃ N, L.length = N := ⟨_, rfl⟩
    rw [hN] at HS hn'
    rw [hN]
    have HN := Lib.hid hN
    clear ho hbl HE HW hN
    go_wp2_with fail
    go_loopw [5, 6, 7] (fun o k i wr => ∃ (j : Nat), i = .int .i64 (j : Int) ∧ o = .string ⟨(colsW (L.take j)).1.toArray⟩ ∧ k = .bool (colsW (L.take j)).2 ∧ j ≤ N ∧ wr = w1) (fun _ _ i _ => N - (intOf i).toNat)
    case atStart => exact ⟨0, rfl, rfl, rfl, by omega, rfl⟩
    case round =>
      obtain ⟨j, rfl, rfl, rfl, hj, rfl⟩ := hrel
      by_cases hlt : j < N
      · obtain ⟨x, hx⟩ : ∃ x, L[j]? = some x := ⟨L[j]'(by rw [HN.out]; exact hlt), List.getElem?_eq_getElem _⟩
        obtain ⟨g, off, rfl, c0⟩ := Ss.at HS.out hx
        have hi0 : (0 : Int) ≤ (j : Int) := by omega
        have hi1 : (j : Int) < (N : Int) := by omega
        have hxne := HNE.out x (List.mem_of_getElem? hx)
        obtain ⟨y, hy⟩ : ∃ y, x[0]? = some y := ⟨x[0]'(List.length_pos_iff.2 hxne), List.getElem?_eq_getElem _⟩
        have k0 : ∀ W, (Instr.index 9 (.string ⟨x.toArray⟩) (.int .i64 0)).run Tryd.prog W = .ok (.int .u8 (y.toNat : Int)) W := str_idx x 0 y hy
        have hst := colsW_step hx
        rw [colB_of hy] at hst
        have hol : (colsW (L.take j)).1.length ≤ j := by unfold colsW; simp; omega
        obtain ⟨⟨o, q⟩, hoq⟩ : ∃ o, colsW (L.take j) = o := ⟨_, rfl⟩
        rw [hoq] at hst hol
        rw [hoq]
        simp only at hst hol ⊢
        have HST := Lib.hid hst
        clear hst hoq hx hxne hy
        by_cases y108 : y = 108
        · subst y108
          have k0' : ∀ W, (Instr.index 9 (.string ⟨x.toArray⟩) (.int .i64 0)).run Tryd.prog W = .ok (.int .u8 108) W := k0
          have a0 : ∀ W, (addS (.string ⟨o.toArray⟩) (.string ⟨#[108]⟩)).run Tryd.prog W = .ok (.string ⟨(o ++ [108]).toArray⟩) W := str_add o [108] (by simp; omega)
          clear k0
          go_wp2_with fail
          go_roundw
          case rel => exact ⟨j + 1, by go_num, by rw [HST.out]; rfl, by rw [HST.out]; simp, by omega, by first | trivial | rfl⟩
          case measure => simp [intOf]; omega
        by_cases y76 : y = 76
        · subst y76
          have k0' : ∀ W, (Instr.index 9 (.string ⟨x.toArray⟩) (.int .i64 0)).run Tryd.prog W = .ok (.int .u8 76) W := k0
          have a0 : ∀ W, (addS (.string ⟨o.toArray⟩) (.string ⟨#[108]⟩)).run Tryd.prog W = .ok (.string ⟨(o ++ [108]).toArray⟩) W := str_add o [108] (by simp; omega)
          clear k0
          go_wp2_with fail
          go_roundw
          case rel => exact ⟨j + 1, by go_num, by rw [HST.out]; rfl, by rw [HST.out]; simp, by omega, by first | trivial | rfl⟩
          case measure => simp [intOf]; omega
        by_cases y99 : y = 99
        · subst y99
          have k0' : ∀ W, (Instr.index 9 (.string ⟨x.toArray⟩) (.int .i64 0)).run Tryd.prog W = .ok (.int .u8 99) W := k0
          have a0 : ∀ W, (addS (.string ⟨o.toArray⟩) (.string ⟨#[99]⟩)).run Tryd.prog W = .ok (.string ⟨(o ++ [99]).toArray⟩) W := str_add o [99] (by simp; omega)
          clear k0
          go_wp2_with fail
          go_roundw
          case rel => exact ⟨j + 1, by go_num, by rw [HST.out]; rfl, by rw [HST.out]; simp, by omega, by first | trivial | rfl⟩
          case measure => simp [intOf]; omega
        by_cases y67 : y = 67
        · subst y67
          have k0' : ∀ W, (Instr.index 9 (.string ⟨x.toArray⟩) (.int .i64 0)).run Tryd.prog W = .ok (.int .u8 67) W := k0
          have a0 : ∀ W, (addS (.string ⟨o.toArray⟩) (.string ⟨#[99]⟩)).run Tryd.prog W = .ok (.string ⟨(o ++ [99]).toArray⟩) W := str_add o [99] (by simp; omega)
          clear k0
          go_wp2_with fail
          go_roundw
          case rel => exact ⟨j + 1, by go_num, by rw [HST.out]; rfl, by rw [HST.out]; simp, by omega, by first | trivial | rfl⟩
          case measure => simp [intOf]; omega
        by_cases y114 : y = 114
        · subst y114
          have k0' : ∀ W, (Instr.index 9 (.string ⟨x.toArray⟩) (.int .i64 0)).run Tryd.prog W = .ok (.int .u8 114) W := k0
          have a0 : ∀ W, (addS (.string ⟨o.toArray⟩) (.string ⟨#[114]⟩)).run Tryd.prog W = .ok (.string ⟨(o ++ [114]).toArray⟩) W := str_add o [114] (by simp; omega)
          clear k0
          go_wp2_with fail
          go_roundw
          case rel => exact ⟨j + 1, by go_num, by rw [HST.out]; rfl, by rw [HST.out]; simp, by omega, by first | trivial | rfl⟩
          case measure => simp [intOf]; omega
        by_cases y82 : y = 82
        · subst y82
          have k0' : ∀ W, (Instr.index 9 (.string ⟨x.toArray⟩) (.int .i64 0)).run Tryd.prog W = .ok (.int .u8 82) W := k0
          have a0 : ∀ W, (addS (.string ⟨o.toArray⟩) (.string ⟨#[114]⟩)).run Tryd.prog W = .ok (.string ⟨(o ++ [114]).toArray⟩) W := str_add o [114] (by simp; omega)
          clear k0
          go_wp2_with fail
          go_roundw
          case rel => exact ⟨j + 1, by go_num, by rw [HST.out]; rfl, by rw [HST.out]; simp, by omega, by first | trivial | rfl⟩
          case measure => simp [intOf]; omega
        have a0 : ∀ W, (addS (.string ⟨o.toArray⟩) (.string ⟨#[108]⟩)).run Tryd.prog W = .ok (.string ⟨(o ++ [108]).toArray⟩) W := str_add o [108] (by simp; omega)
        have e108 : ((y.toNat : Int) == 108) = false := byte_ne y108
        have e76 : ((y.toNat : Int) == 76) = false := byte_ne y76
        have e99 : ((y.toNat : Int) == 99) = false := byte_ne y99
        have e67 : ((y.toNat : Int) == 67) = false := byte_ne y67
        have e114 : ((y.toNat : Int) == 114) = false := byte_ne y114
        have e82 : ((y.toNat : Int) == 82) = false := byte_ne y82
        have HST' := Lib.hid HST.out
        rw [if_neg (by simp [y108, y76]), if_neg (by simp [y99, y67]), if_neg (by simp [y114, y82])] at HST'
        clear HST y108 y76 y99 y67 y114 y82
        go_wp2_with fail
        go_roundw
        case rel => exact ⟨j + 1, by go_num, by rw [HST'.out], by rw [HST'.out]; simp, by omega, by first | trivial | rfl⟩
        case measure => simp [intOf]; omega
      · obtain rfl : j = N := by omega
        have ht : L.take j = L := by rw [← HN.out, List.take_length]
        rw [ht]
        clear ht
        go_wp2_with fail
        go_ret2
        exact ⟨rfl, HB.out⟩
end Go.Proofs.YtaeplneiicobgaaDoor
