/- Rows that the call owns: appends of runes and of bytes. The document's own bytes of a rune, of runes; its Sum. Slices of glyphs; Width in the program and in the document's answer; whether two rows are the same. Whether two rows are the same; copies; rows joined. Documents: what they say, and how they lie in memory. Plain maths of documents: rows squeezed; tables mended. Plain maths of documents: what is put right; what may be. Plain maths of documents: what was put right is right, and stays; no text is lost. The tables of unicode/utf8 lie as they were laid. The document's own answer for documents: Count, Deep. The document's own answer for documents: how much there is of them. The document's own answer for documents: the same? rows of glyphs, rows of rows, tables. The document's own answer for documents: the same tables? The document's own answer for documents: the same nodes? The document's own answer for documents: the same documents (of one name)? Plain maths of layer 8: what a builder holds, and what becomes of it. Plain maths of layer 9: texts cut at a byte, words, looks, columns. Plain maths of layer 9: what a table's lines tell (lg: what a text is set as, and what is wrong in it); nothing is told of other lines. Plain maths of layer 9: what is printed is read. The program's own for documents: a node's cells; Deep, Count. The program's own for documents: Count, by a closure that counts. -/
import Derived.Test.YtaeplneiicobgaaDoorW5
import Derived.Maps.AppendAt
import Derived.OwnWalk
import Derived.Test.YtaeplneiicobgaaDoorGx
import Derived.Deep.QuietTactic
import Derived.BigQuiet
import Derived.Lib.SliceRun
import Derived.Shelf.Unicode.DecodeAny
import Derived.Laws.Strings3
import Derived.Lib.Strings
set_option linter.unusedVariables false
set_option linter.unusedSimpArgs false
namespace Go.Proofs.YtaeplneiicobgaaDoor
open Go.RowKit
end Go.Proofs.YtaeplneiicobgaaDoor
namespace Go.Proofs.YtaeplneiicobgaaDoor
open Go.RowKit
theorem below_lit (w : World) (o : Obj) : Below w.heap.size w (w.alloc o) := (Below.refl _ w).alloc (Nat.le_refl _) _
end Go.Proofs.YtaeplneiicobgaaDoor
namespace Go.Proofs.YtaeplneiicobgaaDoor
open Go.RowKit
/-- A glyph: its rune, and how it is set. -/
abbrev Gly := Int × Int
def gcell (g : Gly) : List Value := [.int .i32 g.1, .int .u8 g.2]
theorem gcell_len (g : Gly) : (gcell g).length = 2 := rfl
theorem gcell_one (g : Gly) : ∀ u ∈ gcell g, u.oneCell' = true := by
  intro u hu
  simp only [gcell, List.mem_cons, List.not_mem_nil, or_false] at hu
  rcases hu with rfl | rfl <;> rfl
abbrev Gs (w : World) (v : Value) (l : List Gly) : Prop := Fs 2 gcell w v l
abbrev GOwn (base : Nat) (W : World) (x : Value) (l : List Gly) : Prop := FOwn 45 2 gcell base W x l
theorem Gs.at {w : World} {a : Option Addr} {k cap : Nat} {l : List Gly} (h : Gs w (.slice a k cap) l) {j : Nat} {g : Gly} (hj : l[j]? = some g) :
    ∃ b off, a = some ⟨b, off, none⟩ ∧ w.cell? ⟨b, off + j * 2, none⟩ = some (.int .i32 g.1) ∧ w.cell? ⟨b, off + j * 2 + 1, none⟩ = some (.int .u8 g.2) ∧ b < w.heap.size := by
  obtain ⟨a', cap', hv, _, hr⟩ := h
  injection hv with h1 h2 h3
  subst h1
  obtain ⟨b, off, rfl, h0⟩ := hr j g hj
  have c0 := h0 0 _ rfl
  have c1 := h0 1 _ rfl
  exact ⟨b, off, rfl, c0, c1, World.block_lt_of_cell? w _ c0⟩
theorem infoG : (Tryd.prog.info? 45).map (fun i => (i.zero, i.size, i.bytes)) = some (some (.agg #[.int .i32 0, .int .u8 0]), 2, 8) := by kernel_rfl
theorem eqG (k l k' l' : Int) (w : World) : (Op.equalIn 10000 45 (.agg #[.int .i32 k, .int .u8 l]) (.agg #[.int .i32 k', .int .u8 l'])).run Tryd.prog w = .ok (k == k' && l == l') w := by
  rw [run_equalIn_agg w 9999 45 _ _ (by kernel_rfl) (by kernel_rfl)]
  have h3 : ((Tryd.prog.fieldsOf 45).toList.map fun f => (f.name != "_", f.type, f.offset)) = [(true, 21, 0), (true, 5, 1)] := by kernel_rfl
  generalize (Tryd.prog.fieldsOf 45).toList = fs at *
  rcases fs with _ | ⟨f0, _ | ⟨f1, _ | ⟨f2, fs⟩⟩⟩
  · simp at h3
  · simp at h3
  · simp only [List.map_cons, List.map_nil, List.cons.injEq, Prod.mk.injEq, and_true, bne_iff_ne, ne_eq] at h3
    obtain ⟨⟨n0, t0, o0⟩, ⟨n1, t1, o1⟩⟩ := h3
    have e0 : ∀ (a b : Int) (w : World), (Op.equalIn 9999 21 (.int .i32 a) (.int .i32 b)).run Tryd.prog w = .ok (a == b) w := fun a b w => run_equalIn_int w 9998 21 .i32 .i32 a b Tryd.underlying21
    have e1 : ∀ (a b : Int) (w : World), (Op.equalIn 9999 5 (.int .u8 a) (.int .u8 b)).run Tryd.prog w = .ok (a == b) w := fun a b w => run_equalIn_int w 9998 5 .u8 .u8 a b Tryd.underlying5
    simp [go_sem, Op.eqFields, n0, n1, t0, t1, o0, o1, e0, e1]
    by_cases a1 : k = k' <;> by_cases a2 : l = l' <;> simp [a1, a2]
  · simp at h3
theorem neqG_any (k l k' l' : Int) (w : World) : (binOp .neq 45 (.agg #[.int .i32 k, .int .u8 l]) (.agg #[.int .i32 k', .int .u8 l'])).run Tryd.prog w = .ok (.bool (!(k == k' && l == l'))) w := by
  rw [run_neq_struct, eqG]
  rfl
theorem neqG_same (k l : Int) (w : World) : (binOp .neq 45 (.agg #[.int .i32 k, .int .u8 l]) (.agg #[.int .i32 k, .int .u8 l])).run Tryd.prog w = .ok (.bool false) w := by
  rw [neqG_any]
  simp
theorem neqG_other {x y : Gly} (h : x ≠ y) (w : World) : (binOp .neq 45 (.agg #[.int .i32 x.1, .int .u8 x.2]) (.agg #[.int .i32 y.1, .int .u8 y.2])).run Tryd.prog w = .ok (.bool true) w := by
  rw [neqG_any]
  have : (x.1 == y.1 && x.2 == y.2) = false := by
    rw [Bool.eq_false_iff]
    intro e
    simp only [Bool.and_eq_true, beq_iff_eq] at e
    exact h (Prod.ext e.1 e.2)
  rw [this]
  rfl
end Go.Proofs.YtaeplneiicobgaaDoor
namespace Go.Proofs.YtaeplneiicobgaaDoor
open Go.RowKit
/-- The append of glyphs, kept whole. -/
noncomputable def appG (args : Array Value) : Sem Next := do pure (.value (← Builtin.append_ #[46, 46] 46 args))
theorem builtin_appG (cs : Array Bool) (args : Array Value) : builtin .append #[46, 46] 46 cs args = appG args := rfl
theorem appG_own {base : Nat} {W : World} {x u : Value} {l m : List Gly} (h : GOwn base W x l) (hu : Gs W u m) (hb : base ≤ W.heap.size) (hd : l.length + m.length ≤ 1000000) :
    ∃ x' w', (appG #[x, u]).run Tryd.prog W = .ok (.value x') w' ∧ GOwn base w' x' (l ++ m) ∧ W.grownBy w' x.ownBlock ∧ (x'.ownBlock = x.ownBlock ∨ x'.ownBlock = some W.heap.size) := by
  obtain ⟨i0, hi, hz0, hz1, hz2⟩ := info_parts infoG
  obtain ⟨x', w', hr, r⟩ := fapp gcell_len gcell_one (by decide) Tryd.underlying46 hi hz0 hz1 hz2 rfl (by decide) h hu hb hd
  refine ⟨x', w', ?_, r⟩
  unfold appG
  simp only [Sem.run_bind, Sem.run_pure, Result.andThen_ok, hr]
/-- 'v[:k]', 'v[k:]'. -/
noncomputable def frontG (x hi : Value) : Sem Value := Instr.slice 46 x none (some hi) none
theorem slice_frontG (x hi : Value) : Instr.slice 46 x none (some hi) none = frontG x hi := rfl
attribute [local go_sem ↓ high] builtin_appG
set_option maxRecDepth 100000 in
set_option maxHeartbeats 1000000 in
theorem cloneg_any (l : List Gly) (v : Value) (w : World) (hv : Gs w v l) (hl : l.length ≤ 200000) :
    Calls Tryd.prog 83 #[v] w fun e w' => ∃ u, e = .returned u ∧ GOwn w.heap.size w' u l ∧ Below w.heap.size w w' := by
  have HV := Lib.hid hv
  obtain ⟨a, cap, rfl, -, hr⟩ := hv
  cases a with
  | none =>
    obtain rfl : l = [] := by
      cases l with
      | nil => rfl
      | cons x l => obtain ⟨g, off, h0, _⟩ := hr 0 x rfl; cases h0
    clear hr
    have hnil : (binOp .eql 46 (.slice none 0 cap) (.slice none 0 0)).run Tryd.prog w = .ok (.bool true) w := Lib.run_eql_slice_nil w 46 45 none 0 cap 0 0 Tryd.underlying46
    simp only [List.length_nil]
    go_enter Tryd.func83, Tryd.ntmps83
    go_wp2_with fail
    go_ret
    exact ⟨_, rfl, FOwn.nil _ _, Below.refl _ _⟩
  | some a =>
    clear hr
    have b1 := below_lit w (.cells #[] 45)
    have o1 : GOwn w.heap.size (w.alloc (.cells #[] 45)) (.slice (some ⟨w.heap.size, 0, none⟩) 0 0) [] := fown_lit gcell_len w (Nat.le_refl _) [] (by simp)
    obtain ⟨x', w', k1, o2, g2, -⟩ := appG_own o1 (Fs.below HV.out b1) (by simp) (by simp; omega)
    have b2 := Lib.hid (o1.below b1 (by simp) g2)
    have O2 := Lib.hid o2
    have hnil : (binOp .eql 46 (.slice (some a) l.length cap) (.slice none 0 0)).run Tryd.prog w = .ok (.bool false) w := Lib.run_eql_slice_nil w 46 45 (some a) l.length cap 0 0 Tryd.underlying46
    clear o1 o2 g2 b1
    go_enter Tryd.func83, Tryd.ntmps83
    go_wp2_with fail
    go_ret
    exact ⟨_, rfl, O2.out, b2.out⟩
end Go.Proofs.YtaeplneiicobgaaDoor
namespace Go.Proofs.YtaeplneiicobgaaDoor
open Go.RowKit
/-- A row of a table; a table; a node's own parts; a node. -/
abbrev Trow := Bool × List (List Gly)
structure Tab where
  cols : List UInt8
  rows : List Trow
  box : Bool
  all : Bool
deriving DecidableEq
structure Hd where
  kind : Int
  line : Int
  n : Int
  text : List Gly
  rows : List (List Gly)
  grid : Tab
deriving DecidableEq
inductive Nd where
  | mk (h : Hd) (kids : List Nd)
def Nd.hd : Nd → Hd
  | .mk h _ => h
def Nd.kids : Nd → List Nd
  | .mk _ k => k
/-- How many; how deep; how much there is of them. -/
def lens {α : Type} (l : List (List α)) : Nat := (l.map List.length).sum
def trl (t : Trow) : Nat := 1 + t.2.length + lens t.2
def trls (l : List Trow) : Nat := (l.map trl).sum
def hdl (h : Hd) : Nat := 3 + h.text.length + h.grid.cols.length + (h.rows.length + lens h.rows) + trls h.grid.rows
theorem lens_next {α : Type} {l : List (List α)} {p : Nat} {x : List α} (hx : l[p]? = some x) : lens (l.take (p + 1)) = lens (l.take p) + x.length := by
  rw [List.take_add_one, hx]
  simp [lens]
theorem lens_take {α : Type} (l : List (List α)) (p : Nat) : lens (l.take p) ≤ lens l := by
  have h : lens (l.take p ++ l.drop p) = lens (l.take p) + lens (l.drop p) := by unfold lens; rw [List.map_append, List.sum_append]
  rw [List.take_append_drop] at h
  omega
theorem lens_le {α : Type} {l : List (List α)} {p : Nat} {x : List α} (hx : l[p]? = some x) : x.length + lens (l.take p) ≤ lens l := by
  have h1 := lens_next hx
  have h2 := lens_take l (p + 1)
  omega
theorem trls_next {l : List Trow} {p : Nat} {x : Trow} (hx : l[p]? = some x) : trls (l.take (p + 1)) = trls (l.take p) + trl x := by
  rw [List.take_add_one, hx]
  simp [trls]
theorem trls_take (l : List Trow) (p : Nat) : trls (l.take p) ≤ trls l := by
  have h : trls (l.take p ++ l.drop p) = trls (l.take p) + trls (l.drop p) := by unfold trls; rw [List.map_append, List.sum_append]
  rw [List.take_append_drop] at h
  omega
theorem trls_le {l : List Trow} {p : Nat} {x : Trow} (hx : l[p]? = some x) : trl x + trls (l.take p) ≤ trls l := by
  have h1 := trls_next hx
  have h2 := trls_take l (p + 1)
  omega
theorem trls_len : ∀ l : List Trow, l.length ≤ trls l
  | [] => by simp [trls]
  | x :: l => by
    have := trls_len l
    simp only [trls, List.map_cons, List.sum_cons, List.length_cons] at this ⊢
    unfold trl at this ⊢
    omega
/-- Which blocks stand as they stood. -/
def Kp (S : Nat → Prop) (w w' : World) : Prop := ∀ b, S b → w'.heap[b]? = w.heap[b]?
theorem Kp.below {S : Nat → Prop} {D : Nat} {w w' : World} (h : Below D w w') (hS : ∀ b, S b → b < D) : Kp S w w' := fun b hb => h.block b (hS b hb)
def foot (S : Nat → Prop) (w : World) (n : Nat) (v : Value) : Prop := ∀ a k c, v = .slice (some a) k c → 0 < k → S a.block ∧ (¬ S 0 → ∀ i, i < k * n → w.frozen? ⟨a.block, a.off + i, none⟩ = false)
/-- A slice that reads as l, in blocks of S. -/
def FsS {α : Type} (S : Nat → Prop) (n : Nat) (f : α → List Value) (w : World) (v : Value) (l : List α) : Prop := Fs n f w v l ∧ foot S w n v
theorem FsS.keep {α : Type} {S : Nat → Prop} {n : Nat} {f : α → List Value} {w w' : World} {v : Value} {l : List α} (h : FsS S n f w v l) (hk : Kp S w w') : FsS S n f w' v l := by
  obtain ⟨⟨a, cap, rfl, hc, hr⟩, hf⟩ := h
  refine ⟨⟨a, cap, rfl, hc, fun j x hj => ?_⟩, fun a' k c e hpos => ⟨(hf a' k c e hpos).1, fun h0 i hi => (World.frozen?_of_block (w := w) (a := ⟨a'.block, a'.off + i, none⟩) (hk a'.block (hf a' k c e hpos).1)).trans ((hf a' k c e hpos).2 h0 i hi)⟩⟩
  obtain ⟨b, off, rfl, h0⟩ := hr j x hj
  have hS : S b := (hf _ _ _ rfl (by have := (List.getElem?_eq_some_iff.1 hj).1; omega)).1
  exact ⟨b, off, rfl, fun i c hi => (World.cell?_of_block (hk b hS)).trans (h0 i c hi)⟩
theorem FsS.mono {α : Type} {S T : Nat → Prop} {n : Nat} {f : α → List Value} {w : World} {v : Value} {l : List α} (h : FsS S n f w v l) (hST : ∀ b, S b → T b) : FsS T n f w v l :=
  ⟨h.1, fun a k c e hk => ⟨hST _ (h.2 a k c e hk).1, fun h0 => (h.2 a k c e hk).2 (fun q => h0 (hST 0 q))⟩⟩
theorem FsS.nil {α : Type} (S : Nat → Prop) (n : Nat) (f : α → List Value) (w : World) : FsS S n f w (.slice none 0 0) ([] : List α) := ⟨Fs.nil w, fun a k c e _ => by injection e with e1; cases e1⟩
theorem FsS.at {α : Type} {S : Nat → Prop} {n : Nat} {f : α → List Value} {w : World} {a : Option Addr} {k cap : Nat} {l : List α} (h : FsS S n f w (.slice a k cap) l) {j : Nat} {x : α} (hx : l[j]? = some x) :
    ∃ g off, a = some ⟨g, off, none⟩ ∧ S g ∧ ∀ i c, (f x)[i]? = some c → w.cell? ⟨g, off + (j * n + i), none⟩ = some c := by
  obtain ⟨⟨a', cap', hv, hc, hr⟩, hf⟩ := h
  injection hv with h1 h2 h3
  subst h1
  obtain ⟨b, off, rfl, h0⟩ := hr j x hx
  exact ⟨b, off, rfl, (hf _ _ _ rfl (by have := (List.getElem?_eq_some_iff.1 hx).1; omega)).1, h0⟩
/-- A slice's value, as it lies. -/
abbrev PV := Option Addr × Nat × Nat
def pv (s : PV) : Value := .slice s.1 s.2.1 s.2.2
def pcell (s : PV) : List Value := [pv s]
theorem pcell_len (s : PV) : (pcell s).length = 1 := rfl
theorem pcell_one (s : PV) : ∀ u ∈ pcell s, u.oneCell' = true := by
  intro u hu
  simp [pcell, pv] at hu
  subst hu; rfl
def trcell (x : Bool × PV) : List Value := [.bool x.1, pv x.2]
theorem trcell_len (x : Bool × PV) : (trcell x).length = 2 := rfl
theorem trcell_one (x : Bool × PV) : ∀ u ∈ trcell x, u.oneCell' = true := by
  intro u hu
  simp [trcell, pv] at hu
  rcases hu with rfl | rfl <;> rfl
/-- Rows of rows; rows of a table. -/
def GrS (S : Nat → Prop) (w : World) (v : Value) (l : List (List Gly)) : Prop :=
  ∃ L : List PV, L.length = l.length ∧ FsS S 1 pcell w v L ∧ ∀ (i : Nat) s r, L[i]? = some s → l[i]? = some r → FsS S 2 gcell w (pv s) r
def TrS (S : Nat → Prop) (w : World) (v : Value) (l : List Trow) : Prop :=
  ∃ L : List (Bool × PV), L.length = l.length ∧ FsS S 2 trcell w v L ∧ ∀ (i : Nat) s r, L[i]? = some s → l[i]? = some r → s.1 = r.1 ∧ GrS S w (pv s.2) r.2
theorem GrS.keep {S : Nat → Prop} {w w' : World} {v : Value} {l : List (List Gly)} (h : GrS S w v l) (hk : Kp S w w') : GrS S w' v l := by
  obtain ⟨L, h1, h2, h3⟩ := h
  exact ⟨L, h1, h2.keep hk, fun i s r hs hr => (h3 i s r hs hr).keep hk⟩
theorem TrS.keep {S : Nat → Prop} {w w' : World} {v : Value} {l : List Trow} (h : TrS S w v l) (hk : Kp S w w') : TrS S w' v l := by
  obtain ⟨L, h1, h2, h3⟩ := h
  exact ⟨L, h1, h2.keep hk, fun i s r hs hr => ⟨(h3 i s r hs hr).1, (h3 i s r hs hr).2.keep hk⟩⟩
theorem GrS.mono {S T : Nat → Prop} {w : World} {v : Value} {l : List (List Gly)} (h : GrS S w v l) (hST : ∀ b, S b → T b) : GrS T w v l := by
  obtain ⟨L, h1, h2, h3⟩ := h
  exact ⟨L, h1, h2.mono hST, fun i s r hs hr => (h3 i s r hs hr).mono hST⟩
theorem TrS.mono {S T : Nat → Prop} {w : World} {v : Value} {l : List Trow} (h : TrS S w v l) (hST : ∀ b, S b → T b) : TrS T w v l := by
  obtain ⟨L, h1, h2, h3⟩ := h
  exact ⟨L, h1, h2.mono hST, fun i s r hs hr => ⟨(h3 i s r hs hr).1, (h3 i s r hs hr).2.mono hST⟩⟩
theorem GrS.len {S : Nat → Prop} {w : World} {v : Value} {l : List (List Gly)} (h : GrS S w v l) : ∃ a cap, v = .slice a l.length cap := by
  obtain ⟨L, h1, h2, -⟩ := h
  obtain ⟨a, cap, e⟩ := h2.1.len
  exact ⟨a, cap, h1 ▸ e⟩
theorem TrS.len {S : Nat → Prop} {w : World} {v : Value} {l : List Trow} (h : TrS S w v l) : ∃ a cap, v = .slice a l.length cap := by
  obtain ⟨L, h1, h2, -⟩ := h
  obtain ⟨a, cap, e⟩ := h2.1.len
  exact ⟨a, cap, h1 ▸ e⟩
theorem GrS.at {S : Nat → Prop} {w : World} {a : Option Addr} {k cap : Nat} {l : List (List Gly)} (h : GrS S w (.slice a k cap) l) {j : Nat} {r : List Gly} (hr : l[j]? = some r) :
    ∃ g off b c, a = some ⟨g, off, none⟩ ∧ S g ∧ w.cell? ⟨g, off + j, none⟩ = some (.slice b r.length c) ∧ FsS S 2 gcell w (.slice b r.length c) r := by
  obtain ⟨L, h1, h2, h3⟩ := h
  obtain ⟨s, hs⟩ : ∃ s, L[j]? = some s := ⟨L[j]'(by have := (List.getElem?_eq_some_iff.1 hr).1; omega), List.getElem?_eq_getElem _⟩
  obtain ⟨g, off, e, hg, hc⟩ := h2.at hs
  have h4 := h3 j s r hs hr
  obtain ⟨b, c, e2⟩ := h4.1.len
  have c0 := hc 0 _ rfl
  rw [Nat.mul_one, Nat.add_zero, e2] at c0
  rw [e2] at h4
  exact ⟨g, off, b, c, e, hg, c0, h4⟩
theorem TrS.at {S : Nat → Prop} {w : World} {a : Option Addr} {k cap : Nat} {l : List Trow} (h : TrS S w (.slice a k cap) l) {j : Nat} {r : Trow} (hr : l[j]? = some r) :
    ∃ g off b c, a = some ⟨g, off, none⟩ ∧ S g ∧ w.cell? ⟨g, off + j * 2, none⟩ = some (.bool r.1) ∧ w.cell? ⟨g, off + j * 2 + 1, none⟩ = some (.slice b r.2.length c) ∧ GrS S w (.slice b r.2.length c) r.2 := by
  obtain ⟨L, h1, h2, h3⟩ := h
  obtain ⟨s, hs⟩ : ∃ s, L[j]? = some s := ⟨L[j]'(by have := (List.getElem?_eq_some_iff.1 hr).1; omega), List.getElem?_eq_getElem _⟩
  obtain ⟨g, off, e, hg, hc⟩ := h2.at hs
  obtain ⟨e1, h4⟩ := h3 j s r hs hr
  obtain ⟨b, c, e2⟩ := h4.len
  have c0 := hc 0 _ rfl
  have c1 := hc 1 _ rfl
  rw [e1] at c0
  rw [e2] at c1 h4
  exact ⟨g, off, b, c, e, hg, c0, c1, h4⟩
/-- A node as it lies. -/
structure NV where
  kind : Int
  line : Int
  n : Int
  text : PV
  kids : PV
  rows : PV
  cols : List UInt8
  trows : PV
  box : Bool
  all : Bool
theorem pv_eq {s : PV} {a : Option Addr} {n c : Nat} (h : pv s = .slice a n c) : s = (a, n, c) := by
  obtain ⟨s0, s1, s2⟩ := s
  unfold pv at h
  injection h with h1 h2 h3
  simp only at h1 h2 h3
  subst h1 h2 h3
  rfl
end Go.Proofs.YtaeplneiicobgaaDoor
namespace Go.Proofs.YtaeplneiicobgaaDoor
open Go.RowKit
/-- A row without blanks at its end. -/
def trm : List Gly → List Gly
  | [] => []
  | g :: l => if trm l = [] ∧ g.1 = 32 then [] else g :: trm l
/-- Blanks: none at the begin, one of several. -/
def sqA : Bool → List Gly → List Gly
  | _, [] => []
  | b, g :: l => if g.1 = 32 then (if b then (32, 0) :: sqA false l else sqA false l) else g :: sqA true l
def sqz (l : List Gly) : List Gly := sqA false (trm l)
def sqd (l : List Gly) : Bool := decide (sqz l = l)
theorem trm_cons (g : Gly) (l : List Gly) : trm (g :: l) = if trm l = [] ∧ g.1 = 32 then [] else g :: trm l := rfl
theorem trm_idem : ∀ l : List Gly, trm (trm l) = trm l
  | [] => rfl
  | g :: l => by
    have ih := trm_idem l
    rw [trm_cons]
    split
    · rfl
    · rename_i h
      rw [trm_cons, ih, if_neg h]
theorem trm_len : ∀ l : List Gly, (trm l).length ≤ l.length
  | [] => by simp [trm]
  | g :: l => by
    have ih := trm_len l
    rw [trm_cons]
    split
    · simp
    · simp only [List.length_cons]; omega
theorem sqA_blank (b : Bool) {g : Gly} (h : g.1 = 32) (l : List Gly) : sqA b (g :: l) = if b then (32, 0) :: sqA false l else sqA false l := by
  show (if g.1 = 32 then _ else _) = _
  rw [if_pos h]
theorem sqA_other (b : Bool) {g : Gly} (h : g.1 ≠ 32) (l : List Gly) : sqA b (g :: l) = g :: sqA true l := by
  show (if g.1 = 32 then _ else _) = _
  rw [if_neg h]
theorem sqA_inked : ∀ (b : Bool) (l : List Gly), (sqA b l).filter (fun g => g.1 != 32) = l.filter (fun g => g.1 != 32)
  | _, [] => rfl
  | b, g :: l => by
    by_cases hg : g.1 = 32
    · rw [sqA_blank b hg, List.filter_cons_of_neg (by simp [hg])]
      cases b
      · exact sqA_inked false l
      · rw [if_pos rfl, List.filter_cons_of_neg (by simp)]
        exact sqA_inked false l
    · rw [sqA_other b hg, List.filter_cons_of_pos (by simp [hg]), List.filter_cons_of_pos (by simp [hg]), sqA_inked true l]
theorem sqA_len : ∀ (b : Bool) (l : List Gly), (sqA b l).length ≤ l.length
  | _, [] => by simp [sqA]
  | b, g :: l => by
    by_cases hg : g.1 = 32
    · rw [sqA_blank b hg]
      have := sqA_len false l
      cases b
      · simp only [List.length_cons, Bool.false_eq_true, if_false]; omega
      · simp only [if_true, List.length_cons]; omega
    · rw [sqA_other b hg]
      have := sqA_len true l
      simp only [List.length_cons]; omega
theorem sqz_len (l : List Gly) : (sqz l).length ≤ l.length := Nat.le_trans (sqA_len false _) (trm_len l)
theorem sqz_nil : sqz [] = [] := rfl
theorem sqd_eq {l : List Gly} (h : sqd l = true) : sqz l = l := of_decide_eq_true h
def side (c : UInt8) : Bool := c == 108 || c == 99 || c == 114
def mcols (cols : List UInt8) : List UInt8 := if (cols.filter side).take 20 = [] then [108] else (cols.filter side).take 20
/-- The first n cells, squeezed, or none. -/
def mcells : Nat → List (List Gly) → List (List Gly)
  | 0, _ => []
  | n + 1, [] => [] :: mcells n []
  | n + 1, c :: l => sqz c :: mcells n l
def mrowT (n : Nat) (r : Trow) : Trow := (r.1, if r.1 then [] else mcells n r.2)
def mend (t : Tab) : Tab := ⟨mcols t.cols, t.rows.map (mrowT (mcols t.cols).length), t.box, t.all && t.box⟩
def rowOk (n : Nat) (r : Trow) : Bool := (if r.1 then decide (r.2 = []) else decide (r.2.length = n)) && r.2.all sqd
def rightT (t : Tab) : Bool := decide (1 ≤ t.cols.length) && decide (t.cols.length ≤ 20) && !(t.all && !t.box) && t.cols.all side && t.rows.all (rowOk t.cols.length)
theorem mcells_same : ∀ (l : List (List Gly)), l.all sqd = true → mcells l.length l = l
  | [], _ => rfl
  | c :: l, h => by
    simp only [List.all_cons, Bool.and_eq_true] at h
    show sqz c :: mcells l.length l = c :: l
    rw [sqd_eq h.1, mcells_same l h.2]
theorem mcols_ok (c : List UInt8) : 1 ≤ (mcols c).length ∧ (mcols c).length ≤ 20 ∧ (mcols c).all side = true := by
  unfold mcols
  split
  · exact ⟨by decide, by decide, by decide⟩
  · rename_i h
    refine ⟨?_, ?_, ?_⟩
    · have := List.length_pos_iff.2 h
      omega
    · rw [List.length_take]; omega
    · rw [List.all_eq_true]
      intro x hx
      exact (List.mem_filter.1 (List.mem_of_mem_take hx)).2
theorem mcols_same {c : List UInt8} (h1 : 1 ≤ c.length) (h2 : c.length ≤ 20) (h3 : c.all side = true) : mcols c = c := by
  have e : c.filter side = c := List.filter_eq_self.2 (List.all_eq_true.1 h3)
  unfold mcols
  rw [e, List.take_of_length_le h2, if_neg (fun e => by rw [e] at h1; simp at h1)]
theorem mrow_same {n : Nat} {r : Trow} (h : rowOk n r = true) : mrowT n r = r := by
  obtain ⟨b, l⟩ := r
  unfold rowOk at h
  unfold mrowT
  simp only [Bool.and_eq_true] at h ⊢
  cases b
  · have e : l.length = n := by have := h.1; simpa using this
    rw [← e]
    simp only [Bool.false_eq_true, if_false]
    rw [mcells_same l h.2]
  · have e : l = [] := by have := h.1; simpa using this
    rw [e]
    rfl
theorem mend_same {t : Tab} (h : rightT t = true) : mend t = t := by
  obtain ⟨c, r, b, a⟩ := t
  unfold rightT at h
  simp only [Bool.and_eq_true, decide_eq_true_eq] at h
  obtain ⟨⟨⟨⟨h1, h2⟩, h3⟩, h4⟩, h5⟩ := h
  unfold mend
  simp only [mcols_same h1 h2 h4]
  have e : r.map (mrowT c.length) = r := by
    conv => rhs; rw [← List.map_id r]
    refine List.map_congr_left fun x hx => mrow_same (List.all_eq_true.1 h5 x hx)
  rw [e]
  have e2 : (a && b) = a := by revert h3; cases a <;> cases b <;> simp
  rw [e2]
end Go.Proofs.YtaeplneiicobgaaDoor
namespace Go.Proofs.YtaeplneiicobgaaDoor
open Go.RowKit
/-- May a kind stand in another one? -/
def stands (k w : Int) : Bool := (k == 1 && w == 0) || (k == 2 && w == 1) || (decide (3 ≤ k) && decide (k ≤ 7))
def isNone (t : Tab) : Bool := decide (t.cols = []) && decide (t.rows = []) && !t.box && !t.all
end Go.Proofs.YtaeplneiicobgaaDoor
namespace Go.Proofs.YtaeplneiicobgaaDoor
open Go.RowKit
end Go.Proofs.YtaeplneiicobgaaDoor
namespace Go.Proofs.YtaeplneiicobgaaDoor
open Go.Shelf Go.RowKit Go.Lib
def U8 (w : World) : Prop := Lib.Utf8Tabs 0 1 w
theorem U8.below {w w' : World} (h : U8 w) (hb : Below w.heap.size w w') : U8 w' := Utf8Tabs_below h hb
end Go.Proofs.YtaeplneiicobgaaDoor
namespace Go.Proofs.YtaeplneiicobgaaDoor
open Go.RowKit
theorem Kp.drewN (S : Nat → Prop) (w : World) (m : Nat) : Kp S w (w.drewN m) := fun b _ => (below_drewN (Below.refl (b + 1) w) m).block b (by omega)
end Go.Proofs.YtaeplneiicobgaaDoor
namespace Go.Proofs.YtaeplneiicobgaaDoor
open Go.RowKit
theorem bsz (b : List UInt8) : (⟨b.toArray⟩ : ByteArray).size = b.length := by simp [Go.Lib.size_eq]
end Go.Proofs.YtaeplneiicobgaaDoor
namespace Go.Proofs.YtaeplneiicobgaaDoor
open Go.RowKit
theorem Gs.drewN {w : World} {v : Value} {l : List Gly} (h : Gs w v l) (m : Nat) : Gs (w.drewN m) v l := Fs.below h (below_drewN (Below.refl _ _) m)
theorem GrS.drewN {S : Nat → Prop} {w : World} {v : Value} {l : List (List Gly)} (h : GrS S w v l) (m : Nat) : GrS S (w.drewN m) v l := h.keep (Kp.drewN S w m)
theorem TrS.drewN {S : Nat → Prop} {w : World} {v : Value} {l : List Trow} (h : TrS S w v l) (m : Nat) : TrS S (w.drewN m) v l := h.keep (Kp.drewN S w m)
def QtN (b : Bool) (w : World) (e : Ending) (w' : World) : Prop := e = .returned (.bool b) ∧ ∃ m, w' = w.drewN m
set_option maxRecDepth 100000 in
set_option maxHeartbeats 1000000 in
theorem rsameq_any (a b : List Gly) (v u : Value) (w : World) (hv : Gs w v a) (hu : Gs w u b) (hl : a.length ≤ 1000000000) (hl' : b.length ≤ 1000000000) :
    Calls Tryd.prog 49 #[v, u] w (QtN (decide (a = b)) w) := by
  have HV := Lib.hid hv
  have HU := Lib.hid hu
  obtain ⟨aa, ca, rfl, -, -⟩ := hv
  obtain ⟨ab, cb, rfl, -, -⟩ := hu
  unfold QtN
  by_cases hlen : a.length = b.length
  · have HLen := Lib.hid hlen
    have hne : ((a.length : Int) != (b.length : Int)) = false := by simp [hlen]
    clear hlen
    go_enter Tryd.func49, Tryd.ntmps49
    go_wp2_with fail
    go_loopw [5] (fun i wr => ∃ j m : Nat, j ≤ a.length ∧ i = .int .i64 j ∧ Hid (a.take j = b.take j) ∧ Hid (wr = w.drewN m)) (fun i _ => a.length - (intOf i).toNat)
    case atStart => exact ⟨0, 0, by omega, rfl, Lib.hid rfl, Lib.hid rfl⟩
    case round =>
      obtain ⟨j, m, hj, rfl, HS, HW⟩ := hrel
      by_cases hlt : j < a.length
      · obtain ⟨x, hx⟩ : ∃ x, a[j]? = some x := ⟨a[j], List.getElem?_eq_getElem hlt⟩
        obtain ⟨y, hy⟩ : ∃ y, b[j]? = some y := ⟨b[j]'(by have := HLen.out; omega), List.getElem?_eq_getElem _⟩
        obtain ⟨g, off, rfl, c0, c1, -⟩ := Gs.at (Gs.drewN HV.out m) hx
        obtain ⟨g', off', rfl, c0', c1', -⟩ := Gs.at (Gs.drewN HU.out m) hy
        rw [← HW.out] at c0 c1 c0' c1'
        have hi0 : (j : Int) < (a.length : Int) := by omega
        have hi2 : (j : Int) < (b.length : Int) := by have := HLen.out; omega
        have hi1 : (0 : Int) ≤ (j : Int) := by omega
        by_cases hxy : x = y
        · subst hxy
          have HT := Lib.hid (take_same HS.out hx hy)
          have hq := neqG_same
          clear hx hy
          go_wp2_with fail
          go_quiet (fail)
          go_wp2
          go_roundw
          case rel => exact ⟨j + 1, _, by omega, by go_num, HT, Lib.hid (by rw [HW.out, World.drewN_drewN])⟩
          case measure => simp [intOf]; omega
        · have HT := Lib.hid (decide_eq_false (not_same hx hy hxy))
          have hq := neqG_other hxy
          clear hx hy hxy
          go_wp2_with fail
          go_quiet (fail)
          go_wp2
          go_ret
          exact ⟨ret_bool HT.out.symm, _, by rw [HW.out, World.drewN_drewN]⟩
      · obtain rfl : j = a.length := by omega
        have hs : a = b := by
          have h := HS.out
          rw [List.take_length, HLen.out, List.take_length] at h
          exact h
        have HT := Lib.hid (decide_eq_true hs)
        clear hs
        go_wp2_with fail
        go_ret
        exact ⟨ret_bool HT.out.symm, m, HW.out⟩
  · have hne : ((a.length : Int) != (b.length : Int)) = true := by simp; omega
    have HT := Lib.hid (decide_eq_false (show ¬ a = b from fun h => hlen (by rw [h])))
    clear hlen
    go_enter Tryd.func49, Tryd.ntmps49
    go_wp2_with fail
    go_ret
    exact ⟨ret_bool HT.out.symm, 0, rfl⟩
set_option maxRecDepth 100000 in
set_option maxHeartbeats 2000000 in
theorem rsamerows_any (S T : Nat → Prop) (a b : List (List Gly)) (v u : Value) (w : World) (hv : GrS S w v a) (hu : GrS T w u b) (hl : a.length + lens a ≤ 1000000000) (hl' : b.length + lens b ≤ 1000000000) :
    Calls Tryd.prog 33 #[v, u] w (QtN (decide (a = b)) w) := by
  have HV := Lib.hid hv
  have HU := Lib.hid hu
  obtain ⟨aa, ca, rfl⟩ := hv.len
  obtain ⟨ab, cb, rfl⟩ := hu.len
  clear hv hu
  unfold QtN
  by_cases hlen : a.length = b.length
  · have HLen := Lib.hid hlen
    have hne : ((a.length : Int) != (b.length : Int)) = false := by simp [hlen]
    clear hlen
    go_enter Tryd.func33, Tryd.ntmps33
    go_wp2_with fail
    go_loopw [5] (fun i wr => ∃ j m : Nat, j ≤ a.length ∧ i = .int .i64 j ∧ Hid (a.take j = b.take j) ∧ Hid (wr = w.drewN m)) (fun i _ => a.length - (intOf i).toNat)
    case atStart => exact ⟨0, 0, by omega, rfl, Lib.hid rfl, Lib.hid rfl⟩
    case round =>
      obtain ⟨j, m, hj, rfl, HS, HW⟩ := hrel
      by_cases hlt : j < a.length
      · obtain ⟨x, hx⟩ : ∃ x, a[j]? = some x := ⟨a[j], List.getElem?_eq_getElem hlt⟩
        obtain ⟨y, hy⟩ : ∃ y, b[j]? = some y := ⟨b[j]'(by have := HLen.out; omega), List.getElem?_eq_getElem _⟩
        obtain ⟨g, off, b1, z1, rfl, -, c0, h1⟩ := (HV.out.drewN m).at hx
        obtain ⟨g', off', b2, z2, rfl, -, c0', h2⟩ := (HU.out.drewN m).at hy
        rw [← HW.out] at c0 c0' h1 h2
        have lx := lens_le hx
        have ly := lens_le hy
        have hi0 : (j : Int) < (a.length : Int) := by omega
        have hi2 : (j : Int) < (b.length : Int) := by have := HLen.out; omega
        have hi1 : (0 : Int) ≤ (j : Int) := by omega
        have hR := fun q => rsameq_any x y _ _ (wr.drewN q) (Gs.drewN h1.1 q) (Gs.drewN h2.1 q) (by omega) (by omega)
        unfold QtN at hR
        by_cases hxy : x = y
        · have HT := Lib.hid (take_same HS.out hx (by rw [hxy]; exact hy))
          simp only [decide_eq_true hxy] at hR
          have HR := Lib.hid hR
          clear hx hy hR h1 h2 hxy lx ly
          go_wp2_with fail
          go_quiet (first | (go_at_call 49; exact Calls.quiet_of (HR.out _)))
          go_wp2
          go_roundw
          case rel => exact ⟨j + 1, _, by omega, by go_num, HT, Lib.hid (by rw [HW.out, World.drewN_drewN])⟩
          case measure => simp [intOf]; omega
        · have HT := Lib.hid (decide_eq_false (not_same hx hy hxy))
          simp only [decide_eq_false hxy] at hR
          have HR := Lib.hid hR
          clear hx hy hR h1 h2 hxy lx ly
          go_wp2_with fail
          go_quiet (first | (go_at_call 49; exact Calls.quiet_of (HR.out _)))
          go_wp2
          go_ret
          exact ⟨ret_bool HT.out.symm, _, by rw [HW.out, World.drewN_drewN]⟩
      · obtain rfl : j = a.length := by omega
        have hs : a = b := by
          have h := HS.out
          rw [List.take_length, HLen.out, List.take_length] at h
          exact h
        have HT := Lib.hid (decide_eq_true hs)
        clear hs
        go_wp2_with fail
        go_ret
        exact ⟨ret_bool HT.out.symm, m, HW.out⟩
  · have hne : ((a.length : Int) != (b.length : Int)) = true := by simp; omega
    have HT := Lib.hid (decide_eq_false (show ¬ a = b from fun h => hlen (by rw [h])))
    clear hlen
    go_enter Tryd.func33, Tryd.ntmps33
    go_wp2_with fail
    go_ret
    exact ⟨ret_bool HT.out.symm, 0, rfl⟩
end Go.Proofs.YtaeplneiicobgaaDoor
namespace Go.Proofs.YtaeplneiicobgaaDoor
open Go.RowKit
noncomputable def eqT (a c : Value) : Sem Value := binOp .eql 9 a c
theorem binop_eqT (a c : Value) : binOp .eql 9 a c = eqT a c := rfl
noncomputable def neqT (a c : Value) : Sem Value := binOp .neq 9 a c
theorem binop_neqT (a c : Value) : binOp .neq 9 a c = neqT a c := rfl
theorem strX_eq (a c : List UInt8) : decide ((⟨a.toArray⟩ : ByteArray) = ⟨c.toArray⟩) = decide (a = c) := by
  apply bool_of_iff
  simp
theorem eqT_run (a c : List UInt8) (W : World) : (eqT (.string ⟨a.toArray⟩) (.string ⟨c.toArray⟩)).run Tryd.prog W = .ok (.bool (decide (a = c))) W := by
  rw [← strX_eq]
  unfold eqT
  simp [go_sem]
  exact bool_of_iff (by simp)
theorem neqT_run (a c : List UInt8) (W : World) : (neqT (.string ⟨a.toArray⟩) (.string ⟨c.toArray⟩)).run Tryd.prog W = .ok (.bool (!decide (a = c))) W := by
  rw [← strX_eq]
  unfold neqT
  simp [go_sem]
  exact bool_of_iff (by simp)
/-- A table's value. -/
def tabV (t : Tab) (r : PV) : Value := .agg #[.string ⟨t.cols.toArray⟩, pv r, .bool t.box, .bool t.all]
theorem tab_eq (a b : Tab) : a = b ↔ a.cols = b.cols ∧ a.rows = b.rows ∧ a.box = b.box ∧ a.all = b.all := by
  obtain ⟨a1, a2, a3, a4⟩ := a
  obtain ⟨b1, b2, b3, b4⟩ := b
  simp
attribute [local go_sem ↓ high] binop_eqT binop_neqT
set_option maxRecDepth 100000 in
set_option maxHeartbeats 4000000 in
theorem rsametable_any (S T : Nat → Prop) (a b : Tab) (r1 r2 : PV) (w : World) (hv : TrS S w (pv r1) a.rows) (hu : TrS T w (pv r2) b.rows) (hl : trls a.rows ≤ 1000000000) (hl' : trls b.rows ≤ 1000000000) (hS : ∀ x, S x → x < w.heap.size) (hT : ∀ x, T x → x < w.heap.size) :
    Calls Tryd.prog 17 #[tabV a r1, tabV b r2] w fun e w' => e = .returned (.bool (decide (a = b))) ∧ Below w.heap.size w w' := by
  obtain ⟨a1, z1, e1⟩ := hv.len
  obtain rfl := pv_eq e1
  obtain ⟨a2, z2, e2⟩ := hu.len
  obtain rfl := pv_eq e2
  unfold tabV pv
  simp only
  obtain ⟨A, hA⟩ : ∃ A : Obj, (.cells #[.string ⟨a.cols.toArray⟩, .slice a1 a.rows.length z1, .bool a.box, .bool a.all] 36 : Obj) = A := ⟨_, rfl⟩
  obtain ⟨B, hB⟩ : ∃ B : Obj, (.cells #[.string ⟨b.cols.toArray⟩, .slice a2 b.rows.length z2, .bool b.box, .bool b.all] 36 : Obj) = B := ⟨_, rfl⟩
  have bl : Below w.heap.size w ((w.alloc A).alloc B) := ((Below.refl _ w).alloc (Nat.le_refl _) _).alloc (by simp) _
  have hbA : Blk ((w.alloc A).alloc B) w.heap.size 36 [.string ⟨a.cols.toArray⟩, .slice a1 a.rows.length z1, .bool a.box, .bool a.all] := by
    rw [← hA]
    exact (heap_alloc_old _ _ (by simp)).trans (heap_alloc_new w _)
  have hbB : Blk ((w.alloc A).alloc B) (w.heap.size + 1) 36 [.string ⟨b.cols.toArray⟩, .slice a2 b.rows.length z2, .bool b.box, .bool b.all] := by
    rw [← hB]
    have := heap_alloc_new (w.alloc A) (.cells #[.string ⟨b.cols.toArray⟩, .slice a2 b.rows.length z2, .bool b.box, .bool b.all] 36)
    rw [World.size_alloc] at this
    exact this
  have hV := hv.keep (Kp.below bl hS)
  have hU := hu.keep (Kp.below bl hT)
  obtain ⟨w0, hw0⟩ : ∃ w0, (w.alloc A).alloc B = w0 := ⟨_, rfl⟩
  rw [hw0] at bl hbA hbB hV hU
  have BL := Lib.hid bl
  have HBA := Lib.hid hbA
  have HBB := Lib.hid hbB
  have HV := Lib.hid hV
  have HU := Lib.hid hU
  have W0 := Lib.hid hw0
  have NE := fun x y => neqT_run x y
  have hiff := tab_eq a b
  have htn := trls_len a.rows
  have c0 : w0.cell? ⟨w.heap.size, 0, none⟩ = some (.string ⟨a.cols.toArray⟩) := hbA.cell 0
  have c1 : w0.cell? ⟨w.heap.size, 1, none⟩ = some (.slice a1 a.rows.length z1) := hbA.cell 1
  have c2 : w0.cell? ⟨w.heap.size, 2, none⟩ = some (.bool a.box) := hbA.cell 2
  have c3 : w0.cell? ⟨w.heap.size, 3, none⟩ = some (.bool a.all) := hbA.cell 3
  have d0 : w0.cell? ⟨w.heap.size + 1, 0, none⟩ = some (.string ⟨b.cols.toArray⟩) := hbB.cell 0
  have d1 : w0.cell? ⟨w.heap.size + 1, 1, none⟩ = some (.slice a2 b.rows.length z2) := hbB.cell 1
  have d2 : w0.cell? ⟨w.heap.size + 1, 2, none⟩ = some (.bool b.box) := hbB.cell 2
  have d3 : w0.cell? ⟨w.heap.size + 1, 3, none⟩ = some (.bool b.all) := hbB.cell 3
  clear bl hbA hbB hV hU hv hu hS hT
  by_cases q0 : a.cols = b.cols
  · have n0 := NE a.cols b.cols
    rw [decide_eq_true q0] at n0
    simp only [Bool.not_true] at n0
    by_cases q2 : a.box = b.box
    · rw [← q2] at d2
      by_cases q3 : a.all = b.all
      · rw [← q3] at d3
        by_cases q1 : a.rows.length = b.rows.length
        · rw [← q1] at d1
          have HLen := Lib.hid q1
          have HIFF : Hid (a = b ↔ a.rows = b.rows) := Lib.hid ⟨fun h => by rw [h], fun h => hiff.2 ⟨q0, h, q2, q3⟩⟩
          clear q0 q1 q2 q3 hiff NE
          subst hA hB
          go_enter Tryd.func17, Tryd.ntmps17
          go_wp2_with fail
          clear c0 c1 c2 c3 d0 d1 d2 d3 n0
          go_loopw [5] (fun i wr => ∃ j m : Nat, j ≤ a.rows.length ∧ i = .int .i64 j ∧ Hid (a.rows.take j = b.rows.take j) ∧ Hid (wr = w0.drewN m)) (fun i _ => a.rows.length - (intOf i).toNat)
          case atStart => exact ⟨0, 0, by omega, rfl, Lib.hid rfl, Lib.hid rfl⟩
          case round =>
            obtain ⟨j, m, hj, rfl, HS, HW⟩ := hrel
            have hbA : Blk wr w.heap.size 36 _ := HW.out ▸ HBA.out.below (below_drewN (Below.refl _ _) m)
            have hbB : Blk wr (w.heap.size + 1) 36 _ := HW.out ▸ HBB.out.below (below_drewN (Below.refl _ _) m)
            have c1 : wr.cell? ⟨w.heap.size, 1, none⟩ = some (.slice a1 a.rows.length z1) := hbA.cell 1
            have d1 : wr.cell? ⟨w.heap.size + 1, 1, none⟩ = some (.slice a2 a.rows.length z2) := HLen.out ▸ hbB.cell 1
            clear hbA hbB
            by_cases hlt : j < a.rows.length
            · obtain ⟨x, hx⟩ : ∃ x, a.rows[j]? = some x := ⟨a.rows[j], List.getElem?_eq_getElem hlt⟩
              obtain ⟨y, hy⟩ : ∃ y, b.rows[j]? = some y := ⟨b.rows[j]'(by have := HLen.out; omega), List.getElem?_eq_getElem _⟩
              obtain ⟨g1, o1, b1, y1, k1, -, c4, c5, h1⟩ := (HV.out.drewN m).at hx
              obtain ⟨g2, o2, b2, y2, k2, -, d4, d5, h2⟩ := (HU.out.drewN m).at hy
              rw [← HW.out] at c4 c5 h1 d4 d5 h2
              simp only at k1 k2
              rw [k1] at c1
              rw [k2] at d1
              have lx := trls_le hx
              have ly := trls_le hy
              unfold trl at lx ly
              have hi0 : (j : Int) < (a.rows.length : Int) := by omega
              have hi1 : (0 : Int) ≤ (j : Int) := by omega
              have hR := fun q => rsamerows_any S T x.2 y.2 _ _ (wr.drewN q) (h1.drewN q) (h2.drewN q) (by omega) (by omega)
              unfold QtN at hR
              have BW := Lib.hid (fun q => below_drewN (B := w.heap.size) (Below.refl w.heap.size w0) q)
              obtain ⟨x1, x2⟩ := x
              obtain ⟨u1, u2⟩ := y
              simp only at c4 c5 d4 d5 hR
              by_cases e1 : x1 = u1
              · rw [← e1] at d4
                by_cases e2 : x2 = u2
                · have HT := Lib.hid (take_same HS.out hx (by rw [e1, e2]; exact hy))
                  simp only [decide_eq_true e2] at hR
                  have HR := Lib.hid hR
                  clear hx hy hR h1 h2 lx ly e1 e2 k1 k2
                  go_wp2_with fail
                  go_quiet (first | (go_at_call 33; exact Calls.quiet_of (HR.out _)))
                  go_wp2
                  go_roundw
                  case rel => exact ⟨j + 1, _, by omega, by go_num, HT, Lib.hid (by rw [HW.out, World.drewN_drewN])⟩
                  case measure => simp [intOf]; omega
                · have HF := Lib.hid (decide_eq_false (show ¬ a = b from fun h => e2 (by
                    have hh := hx
                    rw [HIFF.out.1 h, hy] at hh
                    injection hh with hh
                    injection hh with _ hh
                    exact hh.symm)))
                  simp only [decide_eq_false e2] at hR
                  have HR := Lib.hid hR
                  clear hx hy hR h1 h2 lx ly e1 e2 k1 k2
                  go_wp2_with fail
                  go_quiet (first | (go_at_call 33; exact Calls.quiet_of (HR.out _)))
                  go_wp2
                  go_ret
                  exact ⟨ret_bool HF.out.symm, by rw [HW.out, World.drewN_drewN]; exact BL.out.trans (BW.out _)⟩
              · have HF := Lib.hid (decide_eq_false (show ¬ a = b from fun h => e1 (by
                  have hh := hx
                  rw [HIFF.out.1 h, hy] at hh
                  injection hh with hh
                  injection hh with hh _
                  exact hh.symm)))
                have n1 : (x1 == u1) = false := by simpa using e1
                clear hx hy hR h1 h2 lx ly e1 k1 k2
                go_wp2_with fail
                go_quiet (fail)
                go_wp2
                go_ret
                exact ⟨ret_bool HF.out.symm, by rw [HW.out, World.drewN_drewN]; exact BL.out.trans (BW.out _)⟩
            · obtain rfl : j = a.rows.length := by omega
              have hlt' : ¬ (a.rows.length : Int) < (a.rows.length : Int) := by omega
              have hs : a.rows = b.rows := by
                have h := HS.out
                rw [List.take_length, HLen.out, List.take_length] at h
                exact h
              have HT := Lib.hid (decide_eq_true (HIFF.out.2 hs))
              have BW := Lib.hid (fun q => below_drewN (B := w.heap.size) (Below.refl w.heap.size w0) q)
              clear hs
              go_wp2_with fail
              go_ret
              exact ⟨ret_bool HT.out.symm, by rw [HW.out]; exact BL.out.trans (BW.out _)⟩
        · have n1 : ((a.rows.length : Int) != (b.rows.length : Int)) = true := by simp; omega
          have HF := Lib.hid (decide_eq_false (show ¬ a = b from fun h => q1 (by rw [h])))
          clear q0 q1 q2 q3 hiff NE
          subst hA hB
          go_enter Tryd.func17, Tryd.ntmps17
          go_wp2_with fail
          go_ret
          exact ⟨ret_bool HF.out.symm, BL.out⟩
      · have n3 : (a.all == b.all) = false := by simpa using q3
        have HF := Lib.hid (decide_eq_false (show ¬ a = b from fun h => q3 (by rw [h])))
        clear q0 q2 q3 hiff NE
        subst hA hB
        go_enter Tryd.func17, Tryd.ntmps17
        go_wp2_with fail
        go_ret
        exact ⟨ret_bool HF.out.symm, BL.out⟩
    · have n2 : (a.box == b.box) = false := by simpa using q2
      have HF := Lib.hid (decide_eq_false (show ¬ a = b from fun h => q2 (by rw [h])))
      clear q0 q2 hiff NE
      subst hA hB
      go_enter Tryd.func17, Tryd.ntmps17
      go_wp2_with fail
      go_ret
      exact ⟨ret_bool HF.out.symm, BL.out⟩
  · have n0 := NE a.cols b.cols
    rw [decide_eq_false q0] at n0
    simp only [Bool.not_false] at n0
    have HF := Lib.hid (decide_eq_false (show ¬ a = b from fun h => q0 (by rw [h])))
    clear q0 hiff NE
    subst hA hB
    go_enter Tryd.func17, Tryd.ntmps17
    go_wp2_with fail
    go_ret
    exact ⟨ret_bool HF.out.symm, BL.out⟩
end Go.Proofs.YtaeplneiicobgaaDoor
namespace Go.Proofs.YtaeplneiicobgaaDoor
open Go.RowKit
attribute [local go_sem ↓ high] binop_eqT binop_neqT
end Go.Proofs.YtaeplneiicobgaaDoor
namespace Go.Proofs.YtaeplneiicobgaaDoor
open Go.RowKit
attribute [local go_sem ↓ high] binop_eqT binop_neqT
structure Nm where
  a : List UInt8
  b : List UInt8
  c : List UInt8
  d : List UInt8
end Go.Proofs.YtaeplneiicobgaaDoor
namespace Go.Proofs.YtaeplneiicobgaaDoor
open Go.RowKit
/-- Two texts, one behind the other. -/
def jn (a b : List Gly) : List Gly := if a = [] then b else if b = [] then a else a ++ [(32, 0)] ++ b
/-- What a builder has: the document's names and nodes; what is open, the innermost last; a paragraph. -/
structure Bt where
  nm : Nm
  kids : List Nd
  opn : List Nd
  text : List Gly
  line : Int
  has : Bool
/-- All nodes, were all closed. -/
def wrapK : List Nd → List Nd
  | [] => []
  | y :: r => [.mk y.hd (y.kids ++ wrapK r)]
def bAll (t : Bt) : List Nd := t.kids ++ wrapK t.opn
end Go.Proofs.YtaeplneiicobgaaDoor
namespace Go.Proofs.YtaeplneiicobgaaDoor
open Go.RowKit
abbrev Txt := List UInt8
/-- What lies between bytes c. -/
def cutB (c : UInt8) : Txt → List Txt
  | [] => [[]]
  | x :: r => if x = c then [] :: cutB c r else match cutB c r with
    | [] => [[x]]
    | h :: t => (x :: h) :: t
theorem cutB_ne (c : UInt8) : ∀ s : Txt, cutB c s ≠ []
  | [] => by simp [cutB]
  | x :: r => by
    unfold cutB
    split
    · simp
    · split <;> simp
theorem cutB_len (c : UInt8) : ∀ s : Txt, (cutB c s).length = 1 + s.count c
  | [] => by simp [cutB]
  | x :: r => by
    have ih := cutB_len c r
    unfold cutB
    by_cases h : x = c
    · rw [if_pos h, List.length_cons, ih, h, List.count_cons_self]; omega
    · rw [if_neg h, List.count_cons_of_ne h]
      cases e : cutB c r with
      | nil => exact absurd e (cutB_ne c r)
      | cons a b =>
        rw [e] at ih
        simpa using ih
/-- .. joined again. -/
def joinB (c : UInt8) : List Txt → Txt
  | [] => []
  | [a] => a
  | a :: b :: l => a ++ c :: joinB c (b :: l)
theorem joinB_cons (c : UInt8) (x : UInt8) (h : Txt) (t : List Txt) : joinB c ((x :: h) :: t) = x :: joinB c (h :: t) := by
  cases t <;> rfl
theorem join_cut (c : UInt8) : ∀ s : Txt, joinB c (cutB c s) = s
  | [] => rfl
  | x :: r => by
    have ih := join_cut c r
    unfold cutB
    by_cases h : x = c
    · rw [if_pos h]
      cases e : cutB c r with
      | nil => exact absurd e (cutB_ne c r)
      | cons a b =>
        rw [e] at ih
        show [] ++ c :: joinB c (a :: b) = _
        rw [ih, h]
        rfl
    · rw [if_neg h]
      cases e : cutB c r with
      | nil => exact absurd e (cutB_ne c r)
      | cons a b =>
        rw [e] at ih
        simp only
        rw [joinB_cons, ih]
theorem cut_no (c : UInt8) : ∀ s : Txt, c ∉ s → cutB c s = [s]
  | [], _ => rfl
  | x :: r, h => by
    have h1 : x ≠ c := fun e => h (by rw [e]; exact List.mem_cons_self)
    unfold cutB
    rw [if_neg h1, cut_no c r (fun q => h (List.mem_cons_of_mem _ q))]
theorem cut_app (c : UInt8) : ∀ (a b : Txt), c ∉ a → cutB c (a ++ c :: b) = a :: cutB c b
  | [], b, _ => by
    show cutB c (c :: b) = _
    conv => lhs; unfold cutB
    rw [if_pos rfl]
  | x :: a, b, h => by
    have h1 : x ≠ c := fun e => h (by rw [e]; exact List.mem_cons_self)
    have ih := cut_app c a b (fun q => h (List.mem_cons_of_mem _ q))
    show cutB c (x :: (a ++ c :: b)) = _
    conv => lhs; unfold cutB
    rw [if_neg h1, ih]
/-- Cut where they were joined. -/
theorem cut_join (c : UInt8) : ∀ l : List Txt, l ≠ [] → (∀ a ∈ l, c ∉ a) → cutB c (joinB c l) = l
  | [], h, _ => absurd rfl h
  | [a], _, h => cut_no c a (h a (by simp))
  | a :: b :: l, _, h => by
    show cutB c (a ++ c :: joinB c (b :: l)) = _
    rw [cut_app c a _ (h a (by simp)), cut_join c (b :: l) (by simp) (fun x hx => h x (List.mem_cons_of_mem _ hx))]
/-- The pieces of the front, the last one so far. -/
theorem cut_step (c : UInt8) : ∀ (s : Txt) (x : UInt8), cutB c (s ++ [x]) = if x = c then cutB c s ++ [[]] else (cutB c s).dropLast ++ [((cutB c s).getLast?.getD []) ++ [x]]
  | [], x => by
    show cutB c [x] = _
    by_cases h : x = c <;> simp [cutB, h]
  | y :: s, x => by
    have ih := cut_step c s x
    have hne := cutB_ne c s
    show cutB c (y :: (s ++ [x])) = _
    unfold cutB
    rw [ih]
    by_cases hy : y = c
    · rw [if_pos hy, if_pos hy]
      by_cases h : x = c
      · rw [if_pos h, if_pos h]; rfl
      · rw [if_neg h, if_neg h]
        cases e : cutB c s with
        | nil => exact absurd e hne
        | cons a b => simp
    · rw [if_neg hy, if_neg hy]
      cases e : cutB c s with
      | nil => exact absurd e hne
      | cons a b =>
        by_cases h : x = c
        · rw [if_pos h, if_pos h]; rfl
        · rw [if_neg h, if_neg h]
          cases b with
          | nil => simp
          | cons b1 b2 => simp
/-- Words: between blanks, and commas. -/
def sepB (x : UInt8) : Bool := x == 32 || x == 44
def wordsA : Txt → Txt → List Txt
  | w, [] => if w = [] then [] else [w]
  | w, x :: r => if sepB x then (if w = [] then wordsA [] r else w :: wordsA [] r) else wordsA (w ++ [x]) r
def wordsB (s : Txt) : List Txt := wordsA [] s
theorem wordsA_app (w a : Txt) (h : ∀ x ∈ a, sepB x = false) (r : Txt) : wordsA w (a ++ r) = wordsA (w ++ a) r := by
  induction a generalizing w with
  | nil => simp
  | cons x a ih =>
    rw [List.cons_append, wordsA, if_neg (by rw [h x (by simp)]; decide), ih _ (fun y hy => h y (by simp [hy]))]
    simp
theorem wordsA_ne : ∀ (s w : Txt), ∀ a ∈ wordsA w s, a ≠ []
  | [], w, a, ha => by
    unfold wordsA at ha
    split at ha
    · simp at ha
    · simp at ha; rw [ha]; assumption
  | x :: s, w, a, ha => by
    unfold wordsA at ha
    split at ha
    · split at ha
      · exact wordsA_ne s _ a ha
      · rcases List.mem_cons.1 ha with e | e
        · rw [e]; assumption
        · exact wordsA_ne s _ a e
    · exact wordsA_ne s _ a ha
theorem words_ne (s : Txt) : ∀ a ∈ wordsB s, a ≠ [] := wordsA_ne s []
def endsB (s : Txt) (c : UInt8) : Bool := s.getLast? == some c
def boxW : Txt := [98, 111, 120]
def allW : Txt := [97, 108, 108, 98, 111, 120]
/-- A look: whether it tells, a box, all lines. -/
def lookW : List Txt → Option (Bool × Bool)
  | [] => some (false, false)
  | w :: l => if w = boxW ∨ w = allW then (lookW l).map (fun q => (true, q.2 || w == allW)) else none
def lookB (s : Txt) : Bool × Bool × Bool :=
  if endsB s 59 then match lookW (wordsB s.dropLast) with
    | some (b, a) => (b, a, true)
    | none => (false, false, false)
  else (false, false, false)
/-- A column's sign, as it is told. -/
def colB (w : Txt) : UInt8 × Bool := match w.head? with
  | some x => if x = 108 ∨ x = 76 then (108, true) else if x = 99 ∨ x = 67 then (99, true) else if x = 114 ∨ x = 82 then (114, true) else (108, false)
  | none => (108, false)
def colsB (s : Txt) : Txt × Bool :=
  let l := wordsB (if endsB s 46 then s.dropLast else s)
  (l.map (fun w => (colB w).1), l.all (fun w => (colB w).2))
end Go.Proofs.YtaeplneiicobgaaDoor
namespace Go.Proofs.YtaeplneiicobgaaDoor
open Go.RowKit
/-- What is wrong: a kind, a line, a column. -/
abbrev Dgn := Int × Int × Int
abbrev Lgf := Txt → List Gly × List (Int × Int)
def dgsB (ln : Int) (l : List (Int × Int)) : List Dgn := l.map (fun q => (q.1, ln, q.2))
def begT (s : Txt) : Bool := s.take 2 == [84, 125]
def tbW : Txt := [84, 123]
/-- The lines of a cell that goes on. -/
def takeT (lg : Lgf) : List Txt → Int → List Gly → List Dgn → List Gly × List Dgn × Int × List Txt
  | [], ln, acc, d => (acc, d, ln, [])
  | s :: r, ln, acc, d => if begT s then (acc, d, ln, s :: r) else takeT lg r (ln + 1) (jn acc (lg s).1) (d ++ dgsB ln (lg s).2)
theorem takeT_len (lg : Lgf) : ∀ (l : List Txt) (ln : Int) (acc : List Gly) (d : List Dgn), (takeT lg l ln acc d).2.2.2.length ≤ l.length
  | [], _, _, _ => by simp [takeT]
  | s :: r, ln, acc, d => by
    unfold takeT
    split
    · simp
    · have := takeT_len lg r (ln + 1) (jn acc (lg s).1) (d ++ dgsB ln (lg s).2)
      simp only [List.length_cons]
      omega
/-- A row's cells, from its pieces on: cells, what is wrong, the number of the line that is read last, the lines behind. -/
abbrev CRes := List (List Gly) × List Dgn × Int × List Txt
def cellsI (lg : Lgf) (K : List Txt → List Txt → Int → List (List Gly) → List Dgn → CRes) : List Txt → List Txt → Int → List (List Gly) → List Dgn → CRes
  | [], rest, ln, cs, d => (cs, d, ln, rest)
  | p :: ps, rest, ln, cs, d => if p = tbW then
      match takeT lg rest (ln + 1) [] d with
      | (g, d2, ln2, []) => (cs ++ [g], d2 ++ [(7, ln, 0)], ln2, [])
      | (g, d2, ln2, s :: r) => K (cutB 9 s).tail r ln2 (cs ++ [g]) d2
    else cellsI lg K ps rest ln (cs ++ [(lg p).1]) (d ++ dgsB ln (lg p).2)
def cellsP (lg : Lgf) : Nat → List Txt → List Txt → Int → List (List Gly) → List Dgn → CRes
  | 0 => cellsI lg (fun _ rest ln cs d => (cs, d, ln, rest))
  | n + 1 => cellsI lg (cellsP lg n)
/-- A row. -/
def rowP (lg : Lgf) (nc : Nat) (s : Txt) (rest : List Txt) (ln : Int) : Trow × List Dgn × Int × List Txt :=
  if s = [95] ∨ s = [61] then ((true, []), [], ln, rest) else
    let q := cellsP lg (rest.length + 1) (cutB 9 s) rest ln [] []
    ((false, q.1), q.2.1 ++ (if nc < q.1.length then [(11, ln, 0)] else []), q.2.2.1, q.2.2.2)
def rowsP (lg : Lgf) (nc : Nat) : Nat → List Txt → Int → List Trow → List Dgn → List Trow × List Dgn
  | 0, _, _, rs, d => (rs, d)
  | _, [], _, rs, d => (rs, d)
  | n + 1, s :: r, ln, rs, d => let q := rowP lg nc s r ln
    rowsP lg nc n q.2.2.2 (q.2.2.1 + 1) (rs ++ [q.1]) (d ++ q.2.1)
/-- Lines of columns: the columns, whether they end, what is wrong, the lines behind, the number of the next. -/
def colsP : List Txt → Int → Txt → List Dgn → Txt × Bool × List Dgn × List Txt × Int
  | [], ln, cols, d => (cols, false, d, [], ln)
  | s :: r, ln, cols, d =>
    let c := colsB s
    let d' := d ++ (if c.2 then [] else [(10, ln, 0)]) ++ (if 20 < c.1.length then [(11, ln, 0)] else [])
    let cols' := if c.1 = [] then cols else c.1.take 20
    if endsB s 46 then (cols', true, d', r, ln + 1) else colsP r (ln + 1) cols' d'
/-- The look, and what is behind it. -/
def lookP (line : Int) (l : List Txt) : Bool × Bool × List Dgn × List Txt × Int := match l with
  | [] => (false, false, [], [], line)
  | s :: r => if endsB s 59 then ((lookB s).1, (lookB s).2.1, (if (lookB s).2.2 then [] else [(10, line, 0)]), r, line + 1) else (false, false, [], s :: r, line)
def parseP (lg : Lgf) (line : Int) (l : List Txt) : Tab × List Dgn :=
  let a := lookP line l
  let b := colsP a.2.2.2.1 a.2.2.2.2 [] a.2.2.1
  let cols := if b.1 = [] then [108] else b.1
  let d := b.2.2.1 ++ (if b.2.1 then [] else [(7, line, 0)])
  let q := rowsP lg cols.length b.2.2.2.1.length b.2.2.2.1 b.2.2.2.2 [] d
  (mend ⟨cols, q.1, a.1, a.2.1⟩, q.2)
section
variable {lg : Lgf} (hg : ∀ s, ∀ q ∈ (lg s).2, 0 ≤ q.2)
include hg
omit hg in
end
end Go.Proofs.YtaeplneiicobgaaDoor
namespace Go.Proofs.YtaeplneiicobgaaDoor
open Go.RowKit
/-- Letters, blanks, low lines, set plain. -/
def bareG (g : Gly) : Bool := g.2 == 0 && (g.1 == 32 || g.1 == 95 || (decide (97 ≤ g.1) && decide (g.1 ≤ 122)))
def bareT (t : Tab) : Bool := t.rows.all fun r => r.2.all fun c => c.all bareG
def bareB (x : UInt8) : Bool := x == 32 || x == 95 || (decide (97 ≤ x.toNat) && decide (x.toNat ≤ 122))
def cellT (c : List Gly) : Txt := c.map (fun g => UInt8.ofNat g.1.toNat)
def pcellT (alone : Bool) (c : List Gly) : Txt := if cellT c = [95] ∨ cellT c = [61] ∨ cellT c = tbW ∨ (cellT c = [] ∧ alone = true) then 92 :: 38 :: cellT c else cellT c
def prowT (r : Trow) : Txt := if r.1 then [95] else joinB 9 (r.2.map (pcellT (decide (r.2.length = 1))))
def pcolsT (cols : Txt) : Txt := joinB 32 (cols.map (fun x => [x])) ++ [46]
def printM (m : Tab) : List Txt := (if m.all then [allW ++ [59]] else if m.box then [boxW ++ [59]] else []) ++ pcolsT m.cols :: m.rows.map prowT
theorem bareG_range {g : Gly} (h : bareG g = true) : 0 ≤ g.1 ∧ g.1 < 128 ∧ g.2 = 0 := by
  unfold bareG at h
  simp only [Bool.and_eq_true, Bool.or_eq_true, beq_iff_eq, decide_eq_true_eq] at h
  omega
theorem bare_byte {g : Gly} (h : bareG g = true) : bareB (UInt8.ofNat g.1.toNat) = true ∧ (((UInt8.ofNat g.1.toNat).toNat : Int), (0 : Int)) = g := by
  have hr := bareG_range h
  have ht : (UInt8.ofNat g.1.toNat).toNat = g.1.toNat := by
    rw [UInt8.toNat_ofNat']
    omega
  constructor
  · unfold bareG at h
    simp only [Bool.and_eq_true, Bool.or_eq_true, beq_iff_eq, decide_eq_true_eq] at h
    unfold bareB
    simp only [Bool.and_eq_true, Bool.or_eq_true, beq_iff_eq, decide_eq_true_eq]
    rw [ht]
    rcases h.2 with (e | e) | e
    · left; left
      rw [e]; rfl
    · left; right
      rw [e]; rfl
    · right; omega
  · rw [ht]
    obtain ⟨a, b⟩ := g
    simp only at hr ⊢
    congr 1
    · omega
    · omega
theorem cellT_bare {c : List Gly} (h : c.all bareG = true) : (∀ x ∈ cellT c, bareB x = true) ∧ (cellT c).map (fun x => ((x.toNat : Int), (0 : Int))) = c := by
  unfold cellT
  rw [List.all_eq_true] at h
  constructor
  · intro x hx
    obtain ⟨g, hg, rfl⟩ := List.mem_map.1 hx
    exact (bare_byte (h g hg)).1
  · rw [List.map_map]
    conv => rhs; rw [← List.map_id c]
    exact List.map_congr_left (fun g hg => (bare_byte (h g hg)).2)
/-- What a text of letters is set as. -/
def lgOk (lg : Lgf) : Prop := ∀ s : Txt, (∀ x ∈ s, bareB x = true) → lg s = (s.map (fun x => ((x.toNat : Int), (0 : Int))), []) ∧ lg (92 :: 38 :: s) = (s.map (fun x => ((x.toNat : Int), (0 : Int))), [])
theorem pcell_set {lg : Lgf} (hl : lgOk lg) (a : Bool) {c : List Gly} (h : c.all bareG = true) : lg (pcellT a c) = (c, []) := by
  obtain ⟨h1, h2⟩ := cellT_bare h
  unfold pcellT
  split
  · rw [(hl _ h1).2, h2]
  · rw [(hl _ h1).1, h2]
theorem pcell_no (a : Bool) {c : List Gly} (h : c.all bareG = true) : (9 : UInt8) ∉ pcellT a c ∧ pcellT a c ≠ tbW ∧ pcellT a c ≠ [95] ∧ pcellT a c ≠ [61] := by
  obtain ⟨h1, h2⟩ := cellT_bare h
  have h9 : (9 : UInt8) ∉ cellT c := fun q => absurd (h1 9 q) (by decide)
  have h61 : (61 : UInt8) ∉ cellT c := fun q => absurd (h1 61 q) (by decide)
  have h84 : (84 : UInt8) ∉ cellT c := fun q => absurd (h1 84 q) (by decide)
  unfold pcellT
  split
  · refine ⟨?_, ?_, ?_, ?_⟩
    · intro q
      simp only [List.mem_cons] at q
      rcases q with q | q | q
      · exact absurd q (by decide)
      · exact absurd q (by decide)
      · exact h9 q
    · intro e; injection e with e1; exact absurd e1 (by decide)
    · intro e; injection e with e1; exact absurd e1 (by decide)
    · intro e; injection e with e1; exact absurd e1 (by decide)
  · next hn =>
    refine ⟨h9, ?_, fun e => hn (.inl e), fun e => h61 (by rw [e]; exact List.mem_cons_self)⟩
    intro e
    exact h84 (by rw [e]; exact List.mem_cons_self)
theorem cellsI_plain (lg : Lgf) (K : List Txt → List Txt → Int → List (List Gly) → List Dgn → CRes) : ∀ (ps rest : List Txt) (ln : Int) (cs : List (List Gly)) (d : List Dgn), (∀ p ∈ ps, p ≠ tbW ∧ (lg p).2 = []) → cellsI lg K ps rest ln cs d = (cs ++ ps.map (fun p => (lg p).1), d, ln, rest)
  | [], rest, ln, cs, d, _ => by simp [cellsI]
  | p :: ps, rest, ln, cs, d, h => by
    obtain ⟨h1, h2⟩ := h p (by simp)
    unfold cellsI
    rw [if_neg h1, cellsI_plain lg K ps rest ln _ _ (fun q hq => h q (by simp [hq])), h2]
    simp [dgsB]
theorem join_nine {l : List Txt} (h : 2 ≤ l.length) : (9 : UInt8) ∈ joinB 9 l := by
  match l, h with
  | a :: b :: r, _ =>
    show (9 : UInt8) ∈ a ++ 9 :: joinB 9 (b :: r)
    simp
/-- A row that is right is read from its line. -/
theorem row_back {lg : Lgf} (hl : lgOk lg) {nc : Nat} (hn : 1 ≤ nc) {r : Trow} (hr : rowOk nc r = true) (hb : (r.2.all fun c => c.all bareG) = true) (rest : List Txt) (ln : Int) : rowP lg nc (prowT r) rest ln = (r, [], ln, rest) := by
  obtain ⟨ru, cs⟩ := r
  unfold rowOk at hr
  simp only [Bool.and_eq_true] at hr hb
  rw [List.all_eq_true] at hb
  cases ru with
  | true =>
    have e : cs = [] := by simpa using hr.1
    subst e
    rfl
  | false =>
    have hlen : cs.length = nc := by simpa using hr.1
    unfold prowT
    simp only [Bool.false_eq_true, if_false]
    obtain ⟨ps, hps⟩ : ∃ ps, cs.map (pcellT (decide (cs.length = 1))) = ps := ⟨_, rfl⟩
    rw [hps]
    have hpl : ps.length = nc := by rw [← hps, List.length_map]; exact hlen
    have hpm : ∀ p ∈ ps, (9 : UInt8) ∉ p ∧ p ≠ tbW ∧ p ≠ [95] ∧ p ≠ [61] ∧ (lg p).2 = [] := fun p hp => by
      rw [← hps] at hp
      obtain ⟨c, hc, rfl⟩ := List.mem_map.1 hp
      obtain ⟨q1, q2, q3, q4⟩ := pcell_no (decide (cs.length = 1)) (hb c hc)
      exact ⟨q1, q2, q3, q4, by rw [pcell_set hl _ (hb c hc)]⟩
    have hne : ps ≠ [] := fun e => by rw [e] at hpl; simp at hpl; omega
    have hcut : cutB 9 (joinB 9 ps) = ps := cut_join 9 ps hne (fun a ha => (hpm a ha).1)
    have hnr : ¬ (joinB 9 ps = [95] ∨ joinB 9 ps = [61]) := by
      by_cases h2 : 2 ≤ ps.length
      · have := join_nine h2
        rintro (e | e) <;> (rw [e] at this; exact absurd this (by decide))
      · match ps, hne, h2, hpm with
        | [a], _, _, hpm =>
          have := hpm a (by simp)
          rintro (e | e)
          · exact this.2.2.1 e
          · exact this.2.2.2.1 e
        | a :: b :: l, _, h2, _ => simp at h2
    have hmap : ps.map (fun p => (lg p).1) = cs := by
      rw [← hps, List.map_map]
      conv => rhs; rw [← List.map_id cs]
      exact List.map_congr_left (fun c hc => by show (lg (pcellT _ c)).1 = c; rw [pcell_set hl _ (hb c hc)])
    unfold rowP
    rw [if_neg hnr, hcut]
    simp only
    have hcp : cellsP lg (rest.length + 1) ps rest ln [] [] = (cs, [], ln, rest) := by
      show cellsI lg (cellsP lg rest.length) ps rest ln [] [] = _
      rw [cellsI_plain lg _ ps rest ln [] [] (fun p hp => ⟨(hpm p hp).2.1, (hpm p hp).2.2.2.2⟩), hmap]
      rfl
    rw [hcp]
    simp only
    rw [hlen, if_neg (Nat.lt_irrefl _)]
    rfl
theorem rows_back {lg : Lgf} (hl : lgOk lg) {nc : Nat} (hn : 1 ≤ nc) : ∀ (l : List Trow) (n : Nat) (ln : Int) (rs : List Trow), l.length ≤ n → (∀ r ∈ l, rowOk nc r = true ∧ (r.2.all fun c => c.all bareG) = true) → rowsP lg nc n (l.map prowT) ln rs [] = (rs ++ l, [])
  | [], n, ln, rs, _, _ => by cases n <;> simp [rowsP]
  | r :: l, 0, ln, rs, h, _ => by simp at h
  | r :: l, n + 1, ln, rs, h, hr => by
    simp only [List.map_cons]
    unfold rowsP
    simp only
    rw [row_back hl hn (hr r (by simp)).1 (hr r (by simp)).2]
    simp only [List.append_nil]
    rw [rows_back hl hn l n (ln + 1) (rs ++ [r]) (by simpa using h) (fun q hq => hr q (by simp [hq]))]
    simp
theorem words_join : ∀ l : List Txt, (∀ w ∈ l, w ≠ [] ∧ ∀ x ∈ w, sepB x = false) → wordsB (joinB 32 l) = l
  | [], _ => rfl
  | [a], h => by
    obtain ⟨h1, h2⟩ := h a (by simp)
    show wordsA [] a = _
    have := wordsA_app [] a h2 []
    rw [List.append_nil] at this
    rw [this, List.nil_append, wordsA, if_neg h1]
  | a :: b :: l, h => by
    obtain ⟨h1, h2⟩ := h a (by simp)
    show wordsA [] (a ++ 32 :: joinB 32 (b :: l)) = _
    rw [wordsA_app [] a h2, List.nil_append, wordsA, if_pos (by decide), if_neg h1]
    congr 1
    exact words_join (b :: l) (fun w hw => h w (List.mem_cons_of_mem _ hw))
theorem side_cases {x : UInt8} (h : side x = true) : x = 108 ∨ x = 99 ∨ x = 114 := by
  unfold side at h
  simpa [or_assoc] using h
theorem cols_back {cols : Txt} (h : cols.all side = true) : colsB (pcolsT cols) = (cols, true) ∧ endsB (pcolsT cols) 46 = true ∧ endsB (pcolsT cols) 59 = false := by
  rw [List.all_eq_true] at h
  have he : endsB (pcolsT cols) 46 = true := by unfold endsB pcolsT; simp
  have h5 : endsB (pcolsT cols) 59 = false := by unfold endsB pcolsT; simp
  refine ⟨?_, he, h5⟩
  unfold colsB
  rw [he]
  simp only [if_true]
  have hd : (pcolsT cols).dropLast = joinB 32 (cols.map (fun x => [x])) := by unfold pcolsT; simp
  rw [hd, words_join _ (fun w hw => by
    obtain ⟨x, hx, rfl⟩ := List.mem_map.1 hw
    refine ⟨by simp, fun y hy => ?_⟩
    simp at hy
    subst hy
    rcases side_cases (h y hx) with e | e | e <;> (rw [e]; rfl))]
  rw [List.map_map, List.all_map]
  have e1 : cols.map ((fun w => (colB w).1) ∘ fun x => [x]) = cols := by
    conv => rhs; rw [← List.map_id cols]
    exact List.map_congr_left (fun x hx => by rcases side_cases (h x hx) with e | e | e <;> (rw [e]; rfl))
  have e2 : (cols.all ((fun w => (colB w).2) ∘ fun x => [x])) = true := by
    rw [List.all_eq_true]
    intro x hx
    rcases side_cases (h x hx) with e | e | e <;> (rw [e]; rfl)
  rw [e1, e2]
/-- What is right, and of letters, is read from its lines. -/
theorem print_back {lg : Lgf} (hl : lgOk lg) (line : Int) {m : Tab} (hm : rightT m = true) (hb : bareT m = true) : parseP lg line (printM m) = (m, []) := by
  have hr := hm
  unfold rightT at hr
  simp only [Bool.and_eq_true, decide_eq_true_eq] at hr
  obtain ⟨⟨⟨⟨h1, h2⟩, h3⟩, h4⟩, h5⟩ := hr
  rw [List.all_eq_true] at h5
  unfold bareT at hb
  rw [List.all_eq_true] at hb
  obtain ⟨c1, c2, c3⟩ := cols_back h4
  have hce : m.cols ≠ [] := fun e => by rw [e] at h1; simp at h1
  obtain ⟨ln1, hlk⟩ : ∃ ln1, lookP line (printM m) = (m.box, m.all, [], pcolsT m.cols :: m.rows.map prowT, ln1) := by
    unfold printM
    cases ha : m.all with
    | true =>
      have hbx : m.box = true := by
        rw [ha] at h3
        simpa using h3
      exact ⟨line + 1, by rw [hbx]; rfl⟩
    | false =>
      cases hbx : m.box with
      | true => exact ⟨line + 1, rfl⟩
      | false =>
        refine ⟨line, ?_⟩
        simp only [Bool.false_eq_true, if_false, List.nil_append]
        unfold lookP
        simp only [c3, Bool.false_eq_true, if_false]
  have hco : colsP (pcolsT m.cols :: m.rows.map prowT) ln1 [] [] = (m.cols, true, [], m.rows.map prowT, ln1 + 1) := by
    unfold colsP
    simp only [c1, c2, if_true, hce, if_false, List.append_nil]
    rw [if_neg (by omega), List.take_of_length_le h2]
    rfl
  unfold parseP
  simp only
  rw [hlk]
  simp only
  rw [hco]
  simp only [hce, if_false, if_true, List.append_nil]
  rw [rows_back hl h1 m.rows _ _ [] (by simp) (fun r hr => ⟨h5 r hr, hb r hr⟩)]
  simp only [List.nil_append]
  rw [mend_same (t := ⟨m.cols, m.rows, m.box, m.all⟩) hm]
end Go.Proofs.YtaeplneiicobgaaDoor
namespace Go.Proofs.YtaeplneiicobgaaDoor
open Go.RowKit
end Go.Proofs.YtaeplneiicobgaaDoor
namespace Go.Proofs.YtaeplneiicobgaaDoor
open Go.RowKit
/-- All blocks that were there stand as they stood, but some. -/
structure Exc (X : Nat → Prop) (w w' : World) : Prop where
  os : w'.os = w.os
  tape : w'.tape = w.tape
  output : w'.output = w.output
  size : w.heap.size ≤ w'.heap.size
  block : ∀ k, k < w.heap.size → ¬ X k → w'.heap[k]? = w.heap[k]?
theorem Exc.refl (X : Nat → Prop) (w : World) : Exc X w w := ⟨rfl, rfl, rfl, Nat.le_refl _, fun _ _ _ => rfl⟩
theorem Exc.of {X : Nat → Prop} {w w' : World} (h : Below w.heap.size w w') : Exc X w w' := ⟨h.os, h.tape, h.output, h.size, fun k hk _ => h.block k hk⟩
theorem Exc.below {X : Nat → Prop} {w w' : World} {D : Nat} (h : Exc X w w') (hD : D ≤ w.heap.size) (hX : ∀ b, b < D → ¬ X b) : Below D w w' :=
  ⟨h.os, h.tape, h.output, h.size, fun k hk => h.block k (Nat.lt_of_lt_of_le hk hD) (hX k hk)⟩
theorem Exc.set {X : Nat → Prop} {a w : World} (h : Exc X a w) {g : Nat} (j : Nat) (v : Value) (hg : g < a.heap.size → X g) : Exc X a (w.setCell ⟨g, j, none⟩ v) :=
  ⟨h.os, h.tape, h.output, by simpa [World.setCell] using h.size, fun k hk hx => (Below.heap_setCell w ⟨g, j, none⟩ v k (fun e => hx (by subst e; exact hg hk))).trans (h.block k hk hx)⟩
theorem Exc.blk {X : Nat → Prop} {w w' : World} (h : Exc X w w') {g : Nat} {e : TypeId} {L : List Value} (hb : Blk w g e L) (hX : ¬ X g) : Blk w' g e L := (h.block g (Array.getElem?_eq_some_iff.1 hb).1 hX).trans hb
theorem bel2 (w : World) (a b : Obj) : Below w.heap.size w ((w.alloc a).alloc b) := ((Below.refl _ w).alloc (Nat.le_refl _) _).alloc (by simp) _
theorem Blk.lt {W : World} {g : Nat} {e : TypeId} {L : List Value} (h : Blk W g e L) : g < W.heap.size := (Array.getElem?_eq_some_iff.1 h).1
end Go.Proofs.YtaeplneiicobgaaDoor
