/- Rows that the call owns: appends of runes and of bytes. The document's own bytes of a rune, of runes; its Sum. Slices of glyphs; Width in the program and in the document's answer; whether two rows are the same. Whether two rows are the same; copies; rows joined. Documents: what they say, and how they lie in memory. Plain maths of documents: rows squeezed; tables mended. Plain maths of documents: what is put right; what may be. Plain maths of documents: what was put right is right, and stays; no text is lost. The document's own answer for documents: Count, Deep. The document's own answer for documents: how much there is of them. The document's own answer for documents: the same? rows of glyphs, rows of rows, tables. Plain maths of layer 8: what a builder holds, and what becomes of it. Plain maths of layer 9: texts cut at a byte, words, looks, columns. Plain maths of layer 9: what a table's lines tell (lg: what a text is set as, and what is wrong in it); nothing is told of other lines. Plain maths of layer 9: what is printed is read. Rows that are made, and copied into; Repeat; Blank. The program's own for documents: a node's cells; Deep, Count. The program's own for documents: Count, by a closure that counts. -/
import Derived.Test.YtpcbbhfbldchlaaW5
import Derived.Maps.AppendAt
import Derived.OwnWalk
import Derived.Test.YtpcbbhfbldchlaaGx
import Derived.Deep.QuietTactic
import Derived.BigQuiet
import Derived.Lib.SliceRun
import Derived.Laws.Strings3
import Derived.Lib.Strings
import Derived.Laws.CopyOwn
import Derived.Laws.MakeOwn
set_option linter.unusedVariables false
set_option linter.unusedSimpArgs false
namespace Go.Proofs.Ytpcbbhfbldchlaa
open Go.RowKit
noncomputable def appR (args : Array Value) : Sem Next := do pure (.value (← Builtin.append_ #[58, 58] 58 args))
noncomputable def appB (args : Array Value) : Sem Next := do pure (.value (← Builtin.append_ #[43, 43] 43 args))
theorem builtin_appB (cs : Array Bool) (args : Array Value) : builtin .append #[43, 43] 43 cs args = appB args := rfl
/-- A row of the call's own, that reads as l. -/
def Own (base : Nat) (e : TypeId) (k : IntKind) (W : World) (x : Value) (l : List Int) : Prop := W.ownsRow base e 1 x l.length (l.map (Value.int k))
theorem Own.sl {base : Nat} {e : TypeId} {k : IntKind} {W : World} {x : Value} {l : List Int} (h : Own base e k W x l) : Sl k W x l := by
  rcases h.2 with ⟨rfl, h0⟩ | ⟨g, cap, cur, rfl, hb, hh, hn, _⟩
  · have : l = [] := List.eq_nil_of_length_eq_zero h0
    subst this
    exact ⟨none, 0, rfl, Nat.le_refl _, fun j z hj => by simp at hj⟩
  · refine ⟨_, _, rfl, hn, fun j z hj => ⟨g, 0, rfl, ?_⟩⟩
    have := World.ownsRow.cells (g := g) h rfl j (.int k z) (by simp [hj])
    rw [Addr.add_lit] at this
    exact this
theorem Own.nil (base : Nat) (e : TypeId) (k : IntKind) (W : World) : Own base e k W (.slice none 0 0) [] := World.ownsRow_nil _ _ _ _
theorem Own.below {base : Nat} {e : TypeId} {k : IntKind} {w0 W w' : World} {x : Value} {l : List Int} (h : Own base e k W x l) (hb : Below base w0 W) (hs : base ≤ W.heap.size) (hg : W.grownBy w' x.ownBlock) : Below base w0 w' :=
  hb.grown hg hs (fun j e => (World.ownsRow.lt h j e).1)
theorem Own.keep {base : Nat} {e : TypeId} {k : IntKind} {W w' : World} {x : Value} {l : List Int} (h : Own base e k W x l) (hb : Below W.heap.size W w') : Own base e k w' x l := by
  refine ⟨h.1, ?_⟩
  rcases h.2 with h0 | ⟨g, cap, cur, e1, hg, hh, r⟩
  · exact .inl h0
  · exact .inr ⟨g, cap, cur, e1, hg, (hb.block g (Array.getElem?_eq_some_iff.1 hh).1).trans hh, r⟩
theorem infoR : (Try.prog.info? 21).map (fun i => (i.zero, i.size, i.bytes)) = some (some (.int .i32 0), 1, 4) := by kernel_rfl
theorem infoB : (Try.prog.info? 5).map (fun i => (i.zero, i.size, i.bytes)) = some (some (.int .u8 0), 1, 1) := by kernel_rfl
theorem ints_one {k : IntKind} (l : List Int) : ∀ u ∈ l.map (Value.int k), u.oneCell' = true := by
  intro u hu
  obtain ⟨z, _, rfl⟩ := List.mem_map.1 hu
  rfl
theorem appR_own {base : Nat} {W : World} {x u : Value} {l m : List Int} (h : Own base 21 .i32 W x l) (hu : Sl .i32 W u m) (hb : base ≤ W.heap.size) (hd : l.length + m.length ≤ 100000) :
    ∃ x' w', (appR #[x, u]).run Try.prog W = .ok (.value x') w' ∧ Own base 21 .i32 w' x' (l ++ m) ∧ W.grownBy w' x.ownBlock ∧ (x'.ownBlock = x.ownBlock ∨ x'.ownBlock = some W.heap.size) := by
  obtain ⟨i0, hi, hz0, hz1, hz2⟩ := info_parts infoR
  obtain ⟨a, cap, rfl, hcap, hc⟩ := hu
  rcases a with _ | a
  · obtain rfl : m = [] := by
      rcases m with _ | ⟨e, es⟩
      · rfl
      · obtain ⟨g, off, hg, _⟩ := hc 0 e rfl
        cases hg
    refine ⟨x, W, ?_, by simpa using h, ⟨rfl, rfl, rfl, Nat.le_refl _, fun _ _ _ => rfl⟩, .inl rfl⟩
    have hz : ∀ (b : Option Addr) (n c : Nat), n ≤ c → (appR #[.slice b n c, .slice none 0 cap]).run Try.prog W = .ok (.value (.slice b n c)) W := by
      intro b n c hnc
      unfold appR
      rcases b with _ | b
      · simp [Builtin.append_, run_underlying Try.underlying58, sizeOf, typeInfo, hi, Builtin.lenOf, Builtin.firstCells, hnc, Result.andThen]
      · simp [Builtin.append_, run_underlying Try.underlying58, sizeOf, typeInfo, hi, Builtin.lenOf, Builtin.firstCells, hnc, Result.andThen, storeCells]
    rcases h.2 with ⟨rfl, h0⟩ | ⟨g, cap', cur, rfl, hh⟩
    · exact hz none 0 0 (Nat.le_refl _)
    · exact hz _ _ _ hh.2.2.1
  · have hcells : ∀ j v, (m.map (Value.int .i32))[j]? = some v → W.cell? (a.add j) = some v := by
      intro j v hj
      simp only [List.getElem?_map, Option.map_eq_some_iff] at hj
      obtain ⟨z, hz, rfl⟩ := hj
      obtain ⟨g, off, hg, h0⟩ := hc j z hz
      obtain rfl := Option.some.inj hg
      rw [Addr.add_lit]
      exact h0
    obtain ⟨x', w', hr, ho, hg, _, hq⟩ := run_append_own_at (P := Try.prog) W base 58 58 21 i0 (.int .i32 0) 1 4 Try.underlying58 hi hz0 hz1 hz2 rfl (by decide) x l.length (l.map (Value.int .i32)) h a m.length cap (m.map (Value.int .i32)) (by simp) hcells (ints_one m) (by unfold maxLen; omega) (by omega) hb
    refine ⟨x', w', ?_, by unfold Own; rw [List.map_append, List.length_append]; exact ho, hg, hq⟩
    unfold appR
    simp only [Sem.run_bind, Sem.run_pure, Result.andThen_ok, hr]
theorem appB_own {base : Nat} {W : World} {x u : Value} {l m : List Int} (h : Own base 5 .u8 W x l) (hu : Sl .u8 W u m) (hb : base ≤ W.heap.size) (hd : l.length + m.length ≤ 100000) :
    ∃ x' w', (appB #[x, u]).run Try.prog W = .ok (.value x') w' ∧ Own base 5 .u8 w' x' (l ++ m) ∧ W.grownBy w' x.ownBlock ∧ (x'.ownBlock = x.ownBlock ∨ x'.ownBlock = some W.heap.size) := by
  obtain ⟨i0, hi, hz0, hz1, hz2⟩ := info_parts infoB
  obtain ⟨a, cap, rfl, hcap, hc⟩ := hu
  rcases a with _ | a
  · obtain rfl : m = [] := by
      rcases m with _ | ⟨e, es⟩
      · rfl
      · obtain ⟨g, off, hg, _⟩ := hc 0 e rfl
        cases hg
    refine ⟨x, W, ?_, by simpa using h, ⟨rfl, rfl, rfl, Nat.le_refl _, fun _ _ _ => rfl⟩, .inl rfl⟩
    have hz : ∀ (b : Option Addr) (n c : Nat), n ≤ c → (appB #[.slice b n c, .slice none 0 cap]).run Try.prog W = .ok (.value (.slice b n c)) W := by
      intro b n c hnc
      unfold appB
      rcases b with _ | b
      · simp [Builtin.append_, run_underlying Try.underlying43, sizeOf, typeInfo, hi, Builtin.lenOf, Builtin.firstCells, hnc, Result.andThen]
      · simp [Builtin.append_, run_underlying Try.underlying43, sizeOf, typeInfo, hi, Builtin.lenOf, Builtin.firstCells, hnc, Result.andThen, storeCells]
    rcases h.2 with ⟨rfl, h0⟩ | ⟨g, cap', cur, rfl, hh⟩
    · exact hz none 0 0 (Nat.le_refl _)
    · exact hz _ _ _ hh.2.2.1
  · have hcells : ∀ j v, (m.map (Value.int .u8))[j]? = some v → W.cell? (a.add j) = some v := by
      intro j v hj
      simp only [List.getElem?_map, Option.map_eq_some_iff] at hj
      obtain ⟨z, hz, rfl⟩ := hj
      obtain ⟨g, off, hg, h0⟩ := hc j z hz
      obtain rfl := Option.some.inj hg
      rw [Addr.add_lit]
      exact h0
    obtain ⟨x', w', hr, ho, hg, _, hq⟩ := run_append_own_at (P := Try.prog) W base 43 43 5 i0 (.int .u8 0) 1 1 Try.underlying43 hi hz0 hz1 hz2 rfl (by decide) x l.length (l.map (Value.int .u8)) h a m.length cap (m.map (Value.int .u8)) (by simp) hcells (ints_one m) (by unfold maxLen; omega) (by omega) hb
    refine ⟨x', w', ?_, by unfold Own; rw [List.map_append, List.length_append]; exact ho, hg, hq⟩
    unfold appB
    simp only [Sem.run_bind, Sem.run_pure, Result.andThen_ok, hr]
end Go.Proofs.Ytpcbbhfbldchlaa
namespace Go.Proofs.Ytpcbbhfbldchlaa
open Go.RowKit
theorem below_lit (w : World) (o : Obj) : Below w.heap.size w (w.alloc o) := (Below.refl _ w).alloc (Nat.le_refl _) _
set_option maxRecDepth 100000 in
set_option maxHeartbeats 1000000 in
theorem one_good (r : Int) (hb : vld r = true) (w : World) :
    Calls Try.prog 14 #[.int .i32 r] w fun e w' => ∃ u, e = .returned u ∧ Sl .u8 w' u (Lib.encodeRuneZ r) ∧ Below w.heap.size w w' := by
  have V := rvalid_any r w
  rw [hb] at V
  simp only [vld, decide_eq_true_eq] at hb
  have h0 : 0 ≤ r := by omega
  by_cases c1 : r < 128
  · have e := Lib.encodeRuneZ_one (r := r) (by omega) (by omega)
    rw [e]
    clear e hb
    go_enter Try.func14, Try.ntmps14
    go_wp2_with (go_at_call 21; refine V.mono ?_; rintro e w' ⟨rfl, rfl⟩)
    go_ret
    exact ⟨_, rfl, sl_lit (k := .u8) w 5 [r], below_lit _ _⟩
  · by_cases c2 : r < 2048
    · have e := Lib.encodeRuneZ_two (r := r) (by omega) (by omega)
      rw [e]
      clear e hb
      go_enter Try.func14, Try.ntmps14
      go_wp2_with (go_at_call 21; refine V.mono ?_; rintro e w' ⟨rfl, rfl⟩)
      go_ret
      exact ⟨_, rfl, sl_lit (k := .u8) w 5 [192 + r / 64, 128 + r % 64], below_lit _ _⟩
    · by_cases c3 : r < 65536
      · have e := Lib.encodeRuneZ_three (r := r) (by omega)
        rw [e]
        clear e hb
        go_enter Try.func14, Try.ntmps14
        go_wp2_with (go_at_call 21; refine V.mono ?_; rintro e w' ⟨rfl, rfl⟩)
        go_ret
        exact ⟨_, rfl, sl_lit (k := .u8) w 5 [224 + r / 4096, 128 + r / 64 % 64, 128 + r % 64], below_lit _ _⟩
      · have hle : r ≤ 1114111 := by omega
        have e := Lib.encodeRuneZ_four (r := r) (by omega) (by omega)
        rw [e]
        clear e hb
        go_enter Try.func14, Try.ntmps14
        go_wp2_with (go_at_call 21; refine V.mono ?_; rintro e w' ⟨rfl, rfl⟩)
        go_ret
        exact ⟨_, rfl, sl_lit (k := .u8) w 5 [240 + r / 262144, 128 + r / 4096 % 64, 128 + r / 64 % 64, 128 + r % 64], below_lit _ _⟩
set_option maxRecDepth 100000 in
set_option maxHeartbeats 1000000 in
theorem one_bad (r : Int) (hb : vld r = false) (h1 : -2147483648 ≤ r) (h2 : r ≤ 2147483647) (w : World) :
    Calls Try.prog 14 #[.int .i32 r] w fun e w' => ∃ u, e = .returned u ∧ Sl .u8 w' u (Lib.encodeRuneZ r) ∧ Below w.heap.size w w' := by
  have V := rvalid_any r w
  rw [hb] at V
  simp only [vld, decide_eq_false_iff_not] at hb
  have e := Lib.encodeRuneZ_bad (r := r) (by omega)
  rw [e]
  clear e hb
  go_enter Try.func14, Try.ntmps14
  go_wp2_with (go_at_call 21; refine V.mono ?_; rintro e w' ⟨rfl, rfl⟩)
  go_ret
  exact ⟨_, rfl, sl_lit (k := .u8) w 5 [239, 191, 189], below_lit _ _⟩
theorem one_any (r : Int) (h1 : -2147483648 ≤ r) (h2 : r ≤ 2147483647) (w : World) :
    Calls Try.prog 14 #[.int .i32 r] w fun e w' => ∃ u, e = .returned u ∧ Sl .u8 w' u (Lib.encodeRuneZ r) ∧ Below w.heap.size w w' := by
  cases hb : vld r with
  | true => exact one_good r hb w
  | false => exact one_bad r hb h1 h2 w
def encZ (l : List Int) : List Int := (l.map Lib.encodeRuneZ).flatten
theorem encZ_len (l : List Int) : (encZ l).length ≤ 4 * l.length := by
  induction l with
  | nil => simp [encZ]
  | cons z l ih =>
    have := Lib.encodeRuneZ_length z
    have e : encZ (z :: l) = Lib.encodeRuneZ z ++ encZ l := by simp [encZ]
    rw [e]
    simp only [List.length_append, List.length_cons]
    omega
theorem encodeRune_ints (z : Int) : (Lib.encodeRune z).map (fun x => (x.toNat : Int)) = Lib.encodeRuneZ z := by
  have h := Lib.encodeRuneZ_byte z
  unfold Lib.encodeRune
  rw [List.map_map]
  conv => rhs; rw [← List.map_id (Lib.encodeRuneZ z)]
  apply List.map_congr_left
  intro x hx
  have := h x hx
  simp only [Function.comp, id]
  rw [show x.toNat.toUInt8 = UInt8.ofNat x.toNat from rfl, UInt8.toNat_ofNat']
  omega
theorem encZ_enc (l : List Int) : (enc l).map (fun x => (x.toNat : Int)) = encZ l := by
  induction l with
  | nil => rfl
  | cons z l ih =>
    have e : encZ (z :: l) = Lib.encodeRuneZ z ++ encZ l := by simp [encZ]
    rw [enc_cons, List.map_append, ih, e, encodeRune_ints]
theorem encZ_take {l : List Int} {j : Nat} {z : Int} (h : l[j]? = some z) : encZ (l.take (j + 1)) = encZ (l.take j) ++ Lib.encodeRuneZ z := by
  simp [encZ, List.take_add_one, h]
attribute [local go_sem ↓ high] builtin_appB
end Go.Proofs.Ytpcbbhfbldchlaa
namespace Go.Proofs.Ytpcbbhfbldchlaa
open Go.RowKit
/-- A glyph: its rune, and how it is set. -/
abbrev Gly := Int × Int
def gcell (g : Gly) : List Value := [.int .i32 g.1, .int .u8 g.2]
theorem gcell_len (g : Gly) : (gcell g).length = 2 := rfl
theorem gcell_one (g : Gly) : ∀ u ∈ gcell g, u.oneCell' = true := by
  intro u hu
  simp only [gcell, List.mem_cons, List.not_mem_nil, or_false] at hu
  rcases hu with rfl | rfl <;> rfl
abbrev Gs (w : World) (v : Value) (l : List Gly) : Prop := Fs 2 gcell w v l
abbrev GOwn (base : Nat) (W : World) (x : Value) (l : List Gly) : Prop := FOwn 27 2 gcell base W x l
theorem Gs.at {w : World} {a : Option Addr} {k cap : Nat} {l : List Gly} (h : Gs w (.slice a k cap) l) {j : Nat} {g : Gly} (hj : l[j]? = some g) :
    ∃ b off, a = some ⟨b, off, none⟩ ∧ w.cell? ⟨b, off + j * 2, none⟩ = some (.int .i32 g.1) ∧ w.cell? ⟨b, off + j * 2 + 1, none⟩ = some (.int .u8 g.2) ∧ b < w.heap.size := by
  obtain ⟨a', cap', hv, _, hr⟩ := h
  injection hv with h1 h2 h3
  subst h1
  obtain ⟨b, off, rfl, h0⟩ := hr j g hj
  have c0 := h0 0 _ rfl
  have c1 := h0 1 _ rfl
  exact ⟨b, off, rfl, c0, c1, World.block_lt_of_cell? w _ c0⟩
theorem infoG : (Try.prog.info? 27).map (fun i => (i.zero, i.size, i.bytes)) = some (some (.agg #[.int .i32 0, .int .u8 0]), 2, 8) := by kernel_rfl
theorem eqG (k l k' l' : Int) (w : World) : (Op.equalIn 10000 27 (.agg #[.int .i32 k, .int .u8 l]) (.agg #[.int .i32 k', .int .u8 l'])).run Try.prog w = .ok (k == k' && l == l') w := by
  rw [run_equalIn_agg w 9999 27 _ _ (by kernel_rfl) (by kernel_rfl)]
  have h3 : ((Try.prog.fieldsOf 27).toList.map fun f => (f.name != "_", f.type, f.offset)) = [(true, 21, 0), (true, 5, 1)] := by kernel_rfl
  generalize (Try.prog.fieldsOf 27).toList = fs at *
  rcases fs with _ | ⟨f0, _ | ⟨f1, _ | ⟨f2, fs⟩⟩⟩
  · simp at h3
  · simp at h3
  · simp only [List.map_cons, List.map_nil, List.cons.injEq, Prod.mk.injEq, and_true, bne_iff_ne, ne_eq] at h3
    obtain ⟨⟨n0, t0, o0⟩, ⟨n1, t1, o1⟩⟩ := h3
    have e0 : ∀ (a b : Int) (w : World), (Op.equalIn 9999 21 (.int .i32 a) (.int .i32 b)).run Try.prog w = .ok (a == b) w := fun a b w => run_equalIn_int w 9998 21 .i32 .i32 a b Try.underlying21
    have e1 : ∀ (a b : Int) (w : World), (Op.equalIn 9999 5 (.int .u8 a) (.int .u8 b)).run Try.prog w = .ok (a == b) w := fun a b w => run_equalIn_int w 9998 5 .u8 .u8 a b Try.underlying5
    simp [go_sem, Op.eqFields, n0, n1, t0, t1, o0, o1, e0, e1]
    by_cases a1 : k = k' <;> by_cases a2 : l = l' <;> simp [a1, a2]
  · simp at h3
theorem neqG_any (k l k' l' : Int) (w : World) : (binOp .neq 27 (.agg #[.int .i32 k, .int .u8 l]) (.agg #[.int .i32 k', .int .u8 l'])).run Try.prog w = .ok (.bool (!(k == k' && l == l'))) w := by
  rw [run_neq_struct, eqG]
  rfl
theorem neqG_same (k l : Int) (w : World) : (binOp .neq 27 (.agg #[.int .i32 k, .int .u8 l]) (.agg #[.int .i32 k, .int .u8 l])).run Try.prog w = .ok (.bool false) w := by
  rw [neqG_any]
  simp
theorem neqG_other {x y : Gly} (h : x ≠ y) (w : World) : (binOp .neq 27 (.agg #[.int .i32 x.1, .int .u8 x.2]) (.agg #[.int .i32 y.1, .int .u8 y.2])).run Try.prog w = .ok (.bool true) w := by
  rw [neqG_any]
  have : (x.1 == y.1 && x.2 == y.2) = false := by
    rw [Bool.eq_false_iff]
    intro e
    simp only [Bool.and_eq_true, beq_iff_eq] at e
    exact h (Prod.ext e.1 e.2)
  rw [this]
  rfl
end Go.Proofs.Ytpcbbhfbldchlaa
namespace Go.Proofs.Ytpcbbhfbldchlaa
open Go.RowKit
/-- The append of glyphs, kept whole. -/
noncomputable def appG (args : Array Value) : Sem Next := do pure (.value (← Builtin.append_ #[23, 23] 23 args))
theorem builtin_appG (cs : Array Bool) (args : Array Value) : builtin .append #[23, 23] 23 cs args = appG args := rfl
theorem appG_own {base : Nat} {W : World} {x u : Value} {l m : List Gly} (h : GOwn base W x l) (hu : Gs W u m) (hb : base ≤ W.heap.size) (hd : l.length + m.length ≤ 1000000) :
    ∃ x' w', (appG #[x, u]).run Try.prog W = .ok (.value x') w' ∧ GOwn base w' x' (l ++ m) ∧ W.grownBy w' x.ownBlock ∧ (x'.ownBlock = x.ownBlock ∨ x'.ownBlock = some W.heap.size) := by
  obtain ⟨i0, hi, hz0, hz1, hz2⟩ := info_parts infoG
  obtain ⟨x', w', hr, r⟩ := fapp gcell_len gcell_one (by decide) Try.underlying23 hi hz0 hz1 hz2 rfl (by decide) h hu hb hd
  refine ⟨x', w', ?_, r⟩
  unfold appG
  simp only [Sem.run_bind, Sem.run_pure, Result.andThen_ok, hr]
/-- 'v[:k]', 'v[k:]'. -/
noncomputable def frontG (x hi : Value) : Sem Value := Instr.slice 23 x none (some hi) none
theorem slice_frontG (x hi : Value) : Instr.slice 23 x none (some hi) none = frontG x hi := rfl
attribute [local go_sem ↓ high] builtin_appG
end Go.Proofs.Ytpcbbhfbldchlaa
namespace Go.Proofs.Ytpcbbhfbldchlaa
open Go.RowKit
/-- A row of a table; a table; a node's own parts; a node. -/
abbrev Trow := Bool × List (List Gly)
structure Tab where
  cols : List UInt8
  rows : List Trow
  box : Bool
  all : Bool
deriving DecidableEq
structure Hd where
  kind : Int
  line : Int
  n : Int
  text : List Gly
  rows : List (List Gly)
  grid : Tab
deriving DecidableEq
inductive Nd where
  | mk (h : Hd) (kids : List Nd)
/-- How many; how deep; how much there is of them. -/
def lens {α : Type} (l : List (List α)) : Nat := (l.map List.length).sum
def trl (t : Trow) : Nat := 1 + t.2.length + lens t.2
def trls (l : List Trow) : Nat := (l.map trl).sum
def hdl (h : Hd) : Nat := 3 + h.text.length + h.grid.cols.length + (h.rows.length + lens h.rows) + trls h.grid.rows
def foot (S : Nat → Prop) (w : World) (n : Nat) (v : Value) : Prop := ∀ a k c, v = .slice (some a) k c → 0 < k → S a.block ∧ (¬ S 0 → ∀ i, i < k * n → w.frozen? ⟨a.block, a.off + i, none⟩ = false)
/-- A slice that reads as l, in blocks of S. -/
def FsS {α : Type} (S : Nat → Prop) (n : Nat) (f : α → List Value) (w : World) (v : Value) (l : List α) : Prop := Fs n f w v l ∧ foot S w n v
theorem FsS.nil {α : Type} (S : Nat → Prop) (n : Nat) (f : α → List Value) (w : World) : FsS S n f w (.slice none 0 0) ([] : List α) := ⟨Fs.nil w, fun a k c e _ => by injection e with e1; cases e1⟩
/-- A slice's value, as it lies. -/
abbrev PV := Option Addr × Nat × Nat
def pv (s : PV) : Value := .slice s.1 s.2.1 s.2.2
theorem pv_of {α : Type} {n : Nat} {f : α → List Value} {w : World} {v : Value} {l : List α} (h : Fs n f w v l) : ∃ s : PV, v = pv s := by
  obtain ⟨a, cap, e⟩ := h.len
  exact ⟨(a, l.length, cap), e⟩
/-- A node as it lies. -/
structure NV where
  kind : Int
  line : Int
  n : Int
  text : PV
  kids : PV
  rows : PV
  cols : List UInt8
  trows : PV
  box : Bool
  all : Bool
end Go.Proofs.Ytpcbbhfbldchlaa
namespace Go.Proofs.Ytpcbbhfbldchlaa
open Go.RowKit
end Go.Proofs.Ytpcbbhfbldchlaa
namespace Go.Proofs.Ytpcbbhfbldchlaa
open Go.RowKit
/-- May a kind stand in another one? -/
def stands (k w : Int) : Bool := (k == 1 && w == 0) || (k == 2 && w == 1) || (decide (3 ≤ k) && decide (k ≤ 7))
def isNone (t : Tab) : Bool := decide (t.cols = []) && decide (t.rows = []) && !t.box && !t.all
end Go.Proofs.Ytpcbbhfbldchlaa
namespace Go.Proofs.Ytpcbbhfbldchlaa
open Go.RowKit
/-- All text. -/
def ink (l : List Gly) : List Gly := l.filter fun g => g.1 != 32
end Go.Proofs.Ytpcbbhfbldchlaa
namespace Go.Proofs.Ytpcbbhfbldchlaa
open Go.RowKit
end Go.Proofs.Ytpcbbhfbldchlaa
namespace Go.Proofs.Ytpcbbhfbldchlaa
open Go.RowKit
end Go.Proofs.Ytpcbbhfbldchlaa
namespace Go.Proofs.Ytpcbbhfbldchlaa
open Go.RowKit
theorem Gs.drewN {w : World} {v : Value} {l : List Gly} (h : Gs w v l) (m : Nat) : Gs (w.drewN m) v l := Fs.below h (below_drewN (Below.refl _ _) m)
def QtN (b : Bool) (w : World) (e : Ending) (w' : World) : Prop := e = .returned (.bool b) ∧ ∃ m, w' = w.drewN m
set_option maxRecDepth 100000 in
set_option maxHeartbeats 1000000 in
theorem rsameq_any (a b : List Gly) (v u : Value) (w : World) (hv : Gs w v a) (hu : Gs w u b) (hl : a.length ≤ 1000000000) (hl' : b.length ≤ 1000000000) :
    Calls Try.prog 7 #[v, u] w (QtN (decide (a = b)) w) := by
  have HV := Lib.hid hv
  have HU := Lib.hid hu
  obtain ⟨aa, ca, rfl, -, -⟩ := hv
  obtain ⟨ab, cb, rfl, -, -⟩ := hu
  unfold QtN
  by_cases hlen : a.length = b.length
  · have HLen := Lib.hid hlen
    have hne : ((a.length : Int) != (b.length : Int)) = false := by simp [hlen]
    clear hlen
    go_enter Try.func7, Try.ntmps7
    go_wp2_with fail
    go_loopw [5] (fun i wr => ∃ j m : Nat, j ≤ a.length ∧ i = .int .i64 j ∧ Hid (a.take j = b.take j) ∧ Hid (wr = w.drewN m)) (fun i _ => a.length - (intOf i).toNat)
    case atStart => exact ⟨0, 0, by omega, rfl, Lib.hid rfl, Lib.hid rfl⟩
    case round =>
      obtain ⟨j, m, hj, rfl, HS, HW⟩ := hrel
      by_cases hlt : j < a.length
      · obtain ⟨x, hx⟩ : ∃ x, a[j]? = some x := ⟨a[j], List.getElem?_eq_getElem hlt⟩
        obtain ⟨y, hy⟩ : ∃ y, b[j]? = some y := ⟨b[j]'(by have := HLen.out; omega), List.getElem?_eq_getElem _⟩
        obtain ⟨g, off, rfl, c0, c1, -⟩ := Gs.at (Gs.drewN HV.out m) hx
        obtain ⟨g', off', rfl, c0', c1', -⟩ := Gs.at (Gs.drewN HU.out m) hy
        rw [← HW.out] at c0 c1 c0' c1'
        have hi0 : (j : Int) < (a.length : Int) := by omega
        have hi2 : (j : Int) < (b.length : Int) := by have := HLen.out; omega
        have hi1 : (0 : Int) ≤ (j : Int) := by omega
        by_cases hxy : x = y
        · subst hxy
          have HT := Lib.hid (take_same HS.out hx hy)
          have hq := neqG_same
          clear hx hy
          go_wp2_with fail
          go_quiet (fail)
          go_wp2
          go_roundw
          case rel => exact ⟨j + 1, _, by omega, by go_num, HT, Lib.hid (by rw [HW.out, World.drewN_drewN])⟩
          case measure => simp [intOf]; omega
        · have HT := Lib.hid (decide_eq_false (not_same hx hy hxy))
          have hq := neqG_other hxy
          clear hx hy hxy
          go_wp2_with fail
          go_quiet (fail)
          go_wp2
          go_ret
          exact ⟨ret_bool HT.out.symm, _, by rw [HW.out, World.drewN_drewN]⟩
      · obtain rfl : j = a.length := by omega
        have hs : a = b := by
          have h := HS.out
          rw [List.take_length, HLen.out, List.take_length] at h
          exact h
        have HT := Lib.hid (decide_eq_true hs)
        clear hs
        go_wp2_with fail
        go_ret
        exact ⟨ret_bool HT.out.symm, m, HW.out⟩
  · have hne : ((a.length : Int) != (b.length : Int)) = true := by simp; omega
    have HT := Lib.hid (decide_eq_false (show ¬ a = b from fun h => hlen (by rw [h])))
    clear hlen
    go_enter Try.func7, Try.ntmps7
    go_wp2_with fail
    go_ret
    exact ⟨ret_bool HT.out.symm, 0, rfl⟩
end Go.Proofs.Ytpcbbhfbldchlaa
namespace Go.Proofs.Ytpcbbhfbldchlaa
open Go.RowKit
theorem ink_two (a b : List Gly) : ink (a ++ b) = ink a ++ ink b := by simp [ink]
end Go.Proofs.Ytpcbbhfbldchlaa
namespace Go.Proofs.Ytpcbbhfbldchlaa
open Go.RowKit
abbrev Txt := List UInt8
end Go.Proofs.Ytpcbbhfbldchlaa
namespace Go.Proofs.Ytpcbbhfbldchlaa
open Go.RowKit
abbrev Lgf := Txt → List Gly × List (Int × Int)
section
variable {lg : Lgf} (hg : ∀ s, ∀ q ∈ (lg s).2, 0 ≤ q.2)
include hg
omit hg in
end
end Go.Proofs.Ytpcbbhfbldchlaa
namespace Go.Proofs.Ytpcbbhfbldchlaa
open Go.RowKit
def bareB (x : UInt8) : Bool := x == 32 || x == 95 || (decide (97 ≤ x.toNat) && decide (x.toNat ≤ 122))
end Go.Proofs.Ytpcbbhfbldchlaa
namespace Go.Proofs.Ytpcbbhfbldchlaa
open Go.RowKit
def zg : Gly := (0, 0)
def bg : Gly := (32, 0)
/-- The cells of k blanks, and of m glyphs that are zero. -/
def rowC (k m : Nat) : List Value := flatV gcell (List.replicate k bg ++ List.replicate m zg)
theorem rowC_len (k m : Nat) : (rowC k m).length = (k + m) * 2 := by
  unfold rowC
  rw [flatV_len gcell_len]
  simp
theorem made_row (n : Nat) : madeCells #[.int .i32 0, .int .u8 0] (n * 2) = (rowC 0 n).toArray := by
  apply Array.ext'
  apply List.ext_getElem?
  intro i
  by_cases h : i < n * 2
  · have hl : (List.replicate 0 bg ++ List.replicate n zg)[i / 2]? = some zg := by
      simp only [List.replicate_zero, List.nil_append]
      rw [List.getElem?_replicate, if_pos (by omega)]
    have hm : (madeCells #[.int .i32 0, .int .u8 0] (n * 2)).toList[i]? = some (#[Value.int .i32 0, .int .u8 0][i % 2]!) := by
      rw [List.getElem?_eq_getElem (by simp [madeCells]; omega)]
      simp [madeCells]
    rw [hm]
    show _ = (rowC 0 n)[i]?
    have hd : i = i / 2 * 2 + i % 2 := by omega
    rcases Nat.mod_two_eq_zero_or_one i with h0 | h1
    · rw [h0]
      rw [h0] at hd
      have := flatV_at gcell_len _ (i / 2) 0 zg (.int .i32 0) hl rfl
      rw [← hd] at this
      exact this.symm
    · rw [h1]
      rw [h1] at hd
      have := flatV_at gcell_len _ (i / 2) 1 zg (.int .u8 0) hl rfl
      rw [← hd] at this
      exact this.symm
  · rw [List.getElem?_eq_none (by simp [madeCells]; omega), List.getElem?_eq_none (by show (rowC 0 n).length ≤ i; rw [rowC_len]; omega)]
/-- 'make([]api.Glyph, n)', 'copy' of glyphs, kept whole. -/
noncomputable def makeG (a b : Value) : Sem Value := Instr.makeSlice 23 a b
theorem make_makeG (a b : Value) : Instr.makeSlice 23 a b = makeG a b := rfl
theorem makeG_run (W : World) (n : Nat) (hn : n ≤ 100000) : (makeG (.int .i64 (n : Int)) (.int .i64 (n : Int))).run Try.prog W = .ok (.slice (some ⟨W.heap.size, 0, none⟩) n n) (W.alloc (.cells (rowC 0 n).toArray 27)) := by
  obtain ⟨i0, hi, hz0, hz1, hz2⟩ := info_parts infoG
  have := run_makeSlice (P := Try.prog) W 23 27 i0 _ Try.underlying23 hi hz0 .i64 .i64 (n : Int) (n : Int) (by omega) (Int.le_refl _) (by rw [hz1]; simp; omega) (by rw [hz2]; omega) (by omega)
  unfold makeG
  rw [this]
  simp only [Int.toNat_natCast, hz1]
  have e : (Value.agg #[Value.int .i32 0, .int .u8 0]).cells = #[.int .i32 0, .int .u8 0] := rfl
  rw [e, made_row]
end Go.Proofs.Ytpcbbhfbldchlaa
namespace Go.Proofs.Ytpcbbhfbldchlaa
open Go.RowKit
end Go.Proofs.Ytpcbbhfbldchlaa
namespace Go.Proofs.Ytpcbbhfbldchlaa
open Go.RowKit
/-- All blocks that were there stand as they stood, but some. -/
structure Exc (X : Nat → Prop) (w w' : World) : Prop where
  os : w'.os = w.os
  tape : w'.tape = w.tape
  output : w'.output = w.output
  size : w.heap.size ≤ w'.heap.size
  block : ∀ k, k < w.heap.size → ¬ X k → w'.heap[k]? = w.heap[k]?
theorem Exc.refl (X : Nat → Prop) (w : World) : Exc X w w := ⟨rfl, rfl, rfl, Nat.le_refl _, fun _ _ _ => rfl⟩
theorem Exc.trans {X Y : Nat → Prop} {a b c : World} (h : Exc X a b) (k : Exc Y b c) (hXY : ∀ i, i < a.heap.size → Y i → X i) : Exc X a c :=
  ⟨k.os.trans h.os, k.tape.trans h.tape, k.output.trans h.output, Nat.le_trans h.size k.size, fun i hi hx => (k.block i (Nat.lt_of_lt_of_le hi h.size) (fun q => hx (hXY i hi q))).trans (h.block i hi hx)⟩
theorem Exc.of {X : Nat → Prop} {w w' : World} (h : Below w.heap.size w w') : Exc X w w' := ⟨h.os, h.tape, h.output, h.size, fun k hk _ => h.block k hk⟩
theorem Exc.below {X : Nat → Prop} {w w' : World} {D : Nat} (h : Exc X w w') (hD : D ≤ w.heap.size) (hX : ∀ b, b < D → ¬ X b) : Below D w w' :=
  ⟨h.os, h.tape, h.output, h.size, fun k hk => h.block k (Nat.lt_of_lt_of_le hk hD) (hX k hk)⟩
theorem Exc.mono {X Y : Nat → Prop} {w w' : World} (h : Exc X w w') (hXY : ∀ i, i < w.heap.size → X i → Y i) : Exc Y w w' :=
  ⟨h.os, h.tape, h.output, h.size, fun k hk hy => h.block k hk (fun q => hy (hXY k hk q))⟩
theorem Exc.set {X : Nat → Prop} {a w : World} (h : Exc X a w) {g : Nat} (j : Nat) (v : Value) (hg : g < a.heap.size → X g) : Exc X a (w.setCell ⟨g, j, none⟩ v) :=
  ⟨h.os, h.tape, h.output, by simpa [World.setCell] using h.size, fun k hk hx => (Below.heap_setCell w ⟨g, j, none⟩ v k (fun e => hx (by subst e; exact hg hk))).trans (h.block k hk hx)⟩
theorem Exc.blk {X : Nat → Prop} {w w' : World} (h : Exc X w w') {g : Nat} {e : TypeId} {L : List Value} (hb : Blk w g e L) (hX : ¬ X g) : Blk w' g e L := (h.block g (Array.getElem?_eq_some_iff.1 hb).1 hX).trans hb
theorem Blk.lt {W : World} {g : Nat} {e : TypeId} {L : List Value} (h : Blk W g e L) : g < W.heap.size := (Array.getElem?_eq_some_iff.1 h).1
end Go.Proofs.Ytpcbbhfbldchlaa
