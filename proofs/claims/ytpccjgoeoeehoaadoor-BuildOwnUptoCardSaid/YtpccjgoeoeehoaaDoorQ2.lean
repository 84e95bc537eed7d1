/- Rows that the call owns: appends of runes and of bytes. The document's own bytes of a rune, of runes; its Sum. Slices of glyphs; Width in the program and in the document's answer; whether two rows are the same. Whether two rows are the same; copies; rows joined. Documents: what they say, and how they lie in memory. Plain maths of documents: rows squeezed; tables mended. Plain maths of documents: what is put right; what may be. Plain maths of documents: what was put right is right, and stays; no text is lost. strings.Map, strings.ContainsFunc: the shelf's contracts, laid at this dump. (The numbers of the lays are this seat's own: tools/shelf7.py.) The document's own answer for documents: Count, Deep. The document's own answer for documents: how much there is of them. The document's own answer for documents: the same? rows of glyphs, rows of rows, tables. The program's own for documents: a node's cells; Deep, Count. The program's own for documents: Count, by a closure that counts. -/
import Derived.Test.YtpccjgoeoeehoaaDoorW5
import Derived.Maps.AppendAt
import Derived.OwnWalk
import Derived.Test.YtpccjgoeoeehoaaDoorGx
import Derived.Deep.QuietTactic
import Derived.BigQuiet
import Derived.Lib.SliceRun
import Derived.Shelf.Strings.MapGrows
set_option linter.unusedVariables false
set_option linter.unusedSimpArgs false
namespace Go.Proofs.YtpccjgoeoeehoaaDoor
open Go.RowKit
end Go.Proofs.YtpccjgoeoeehoaaDoor
namespace Go.Proofs.YtpccjgoeoeehoaaDoor
open Go.RowKit
theorem below_lit (w : World) (o : Obj) : Below w.heap.size w (w.alloc o) := (Below.refl _ w).alloc (Nat.le_refl _) _
end Go.Proofs.YtpccjgoeoeehoaaDoor
namespace Go.Proofs.YtpccjgoeoeehoaaDoor
open Go.RowKit
/-- A glyph: its rune, and how it is set. -/
abbrev Gly := Int × Int
def gcell (g : Gly) : List Value := [.int .i32 g.1, .int .u8 g.2]
theorem gcell_len (g : Gly) : (gcell g).length = 2 := rfl
theorem gcell_one (g : Gly) : ∀ u ∈ gcell g, u.oneCell' = true := by
  intro u hu
  simp only [gcell, List.mem_cons, List.not_mem_nil, or_false] at hu
  rcases hu with rfl | rfl <;> rfl
abbrev Gs (w : World) (v : Value) (l : List Gly) : Prop := Fs 2 gcell w v l
abbrev GOwn (base : Nat) (W : World) (x : Value) (l : List Gly) : Prop := FOwn 56 2 gcell base W x l
theorem Gs.at {w : World} {a : Option Addr} {k cap : Nat} {l : List Gly} (h : Gs w (.slice a k cap) l) {j : Nat} {g : Gly} (hj : l[j]? = some g) :
    ∃ b off, a = some ⟨b, off, none⟩ ∧ w.cell? ⟨b, off + j * 2, none⟩ = some (.int .i32 g.1) ∧ w.cell? ⟨b, off + j * 2 + 1, none⟩ = some (.int .u8 g.2) ∧ b < w.heap.size := by
  obtain ⟨a', cap', hv, _, hr⟩ := h
  injection hv with h1 h2 h3
  subst h1
  obtain ⟨b, off, rfl, h0⟩ := hr j g hj
  have c0 := h0 0 _ rfl
  have c1 := h0 1 _ rfl
  exact ⟨b, off, rfl, c0, c1, World.block_lt_of_cell? w _ c0⟩
theorem infoG : (Tryd.prog.info? 56).map (fun i => (i.zero, i.size, i.bytes)) = some (some (.agg #[.int .i32 0, .int .u8 0]), 2, 8) := by kernel_rfl
theorem eqG (k l k' l' : Int) (w : World) : (Op.equalIn 10000 56 (.agg #[.int .i32 k, .int .u8 l]) (.agg #[.int .i32 k', .int .u8 l'])).run Tryd.prog w = .ok (k == k' && l == l') w := by
  rw [run_equalIn_agg w 9999 56 _ _ (by kernel_rfl) (by kernel_rfl)]
  have h3 : ((Tryd.prog.fieldsOf 56).toList.map fun f => (f.name != "_", f.type, f.offset)) = [(true, 21, 0), (true, 5, 1)] := by kernel_rfl
  generalize (Tryd.prog.fieldsOf 56).toList = fs at *
  rcases fs with _ | ⟨f0, _ | ⟨f1, _ | ⟨f2, fs⟩⟩⟩
  · simp at h3
  · simp at h3
  · simp only [List.map_cons, List.map_nil, List.cons.injEq, Prod.mk.injEq, and_true, bne_iff_ne, ne_eq] at h3
    obtain ⟨⟨n0, t0, o0⟩, ⟨n1, t1, o1⟩⟩ := h3
    have e0 : ∀ (a b : Int) (w : World), (Op.equalIn 9999 21 (.int .i32 a) (.int .i32 b)).run Tryd.prog w = .ok (a == b) w := fun a b w => run_equalIn_int w 9998 21 .i32 .i32 a b Tryd.underlying21
    have e1 : ∀ (a b : Int) (w : World), (Op.equalIn 9999 5 (.int .u8 a) (.int .u8 b)).run Tryd.prog w = .ok (a == b) w := fun a b w => run_equalIn_int w 9998 5 .u8 .u8 a b Tryd.underlying5
    simp [go_sem, Op.eqFields, n0, n1, t0, t1, o0, o1, e0, e1]
    by_cases a1 : k = k' <;> by_cases a2 : l = l' <;> simp [a1, a2]
  · simp at h3
theorem neqG_any (k l k' l' : Int) (w : World) : (binOp .neq 56 (.agg #[.int .i32 k, .int .u8 l]) (.agg #[.int .i32 k', .int .u8 l'])).run Tryd.prog w = .ok (.bool (!(k == k' && l == l'))) w := by
  rw [run_neq_struct, eqG]
  rfl
theorem neqG_same (k l : Int) (w : World) : (binOp .neq 56 (.agg #[.int .i32 k, .int .u8 l]) (.agg #[.int .i32 k, .int .u8 l])).run Tryd.prog w = .ok (.bool false) w := by
  rw [neqG_any]
  simp
theorem neqG_other {x y : Gly} (h : x ≠ y) (w : World) : (binOp .neq 56 (.agg #[.int .i32 x.1, .int .u8 x.2]) (.agg #[.int .i32 y.1, .int .u8 y.2])).run Tryd.prog w = .ok (.bool true) w := by
  rw [neqG_any]
  have : (x.1 == y.1 && x.2 == y.2) = false := by
    rw [Bool.eq_false_iff]
    intro e
    simp only [Bool.and_eq_true, beq_iff_eq] at e
    exact h (Prod.ext e.1 e.2)
  rw [this]
  rfl
end Go.Proofs.YtpccjgoeoeehoaaDoor
namespace Go.Proofs.YtpccjgoeoeehoaaDoor
open Go.RowKit
/-- The append of glyphs, kept whole. -/
noncomputable def appG (args : Array Value) : Sem Next := do pure (.value (← Builtin.append_ #[30, 30] 30 args))
theorem builtin_appG (cs : Array Bool) (args : Array Value) : builtin .append #[30, 30] 30 cs args = appG args := rfl
theorem appG_own {base : Nat} {W : World} {x u : Value} {l m : List Gly} (h : GOwn base W x l) (hu : Gs W u m) (hb : base ≤ W.heap.size) (hd : l.length + m.length ≤ 1000000) :
    ∃ x' w', (appG #[x, u]).run Tryd.prog W = .ok (.value x') w' ∧ GOwn base w' x' (l ++ m) ∧ W.grownBy w' x.ownBlock ∧ (x'.ownBlock = x.ownBlock ∨ x'.ownBlock = some W.heap.size) := by
  obtain ⟨i0, hi, hz0, hz1, hz2⟩ := info_parts infoG
  obtain ⟨x', w', hr, r⟩ := fapp gcell_len gcell_one (by decide) Tryd.underlying30 hi hz0 hz1 hz2 rfl (by decide) h hu hb hd
  refine ⟨x', w', ?_, r⟩
  unfold appG
  simp only [Sem.run_bind, Sem.run_pure, Result.andThen_ok, hr]
/-- 'v[:k]', 'v[k:]'. -/
noncomputable def frontG (x hi : Value) : Sem Value := Instr.slice 30 x none (some hi) none
theorem slice_frontG (x hi : Value) : Instr.slice 30 x none (some hi) none = frontG x hi := rfl
noncomputable def backG (x lo : Value) : Sem Value := Instr.slice 30 x (some lo) none none
theorem slice_backG (x lo : Value) : Instr.slice 30 x (some lo) none none = backG x lo := rfl
theorem frontG_run {w : World} {v : Value} {l : List Gly} (h : Gs w v l) (k : Nat) (hk : k ≤ l.length) :
    ∃ u, (∀ W : World, (frontG v (.int .i64 (k : Int))).run Tryd.prog W = .ok u W) ∧ Gs w u (l.take k) ∧ (∀ a m cap, v = .slice a m cap → u = .slice a k cap) := by
  obtain ⟨i0, hi, hz0, hz1, hz2⟩ := info_parts infoG
  exact Fs.front Tryd.underlying30 hi h k hk
theorem backG_run {w : World} {v : Value} {l : List Gly} (h : Gs w v l) (k : Nat) (hk : k ≤ l.length) :
    ∃ u, (∀ W : World, (backG v (.int .i64 (k : Int))).run Tryd.prog W = .ok u W) ∧ Gs w u (l.drop k) := by
  obtain ⟨i0, hi, hz0, hz1, hz2⟩ := info_parts infoG
  exact Fs.back Tryd.underlying30 hi hz1 h k hk
attribute [local go_sem ↓ high] builtin_appG
set_option maxRecDepth 100000 in
set_option maxHeartbeats 1000000 in
theorem cloneg_any (l : List Gly) (v : Value) (w : World) (hv : Gs w v l) (hl : l.length ≤ 200000) :
    Calls Tryd.prog 67 #[v] w fun e w' => ∃ u, e = .returned u ∧ GOwn w.heap.size w' u l ∧ Below w.heap.size w w' := by
  have HV := Lib.hid hv
  obtain ⟨a, cap, rfl, -, hr⟩ := hv
  cases a with
  | none =>
    obtain rfl : l = [] := by
      cases l with
      | nil => rfl
      | cons x l => obtain ⟨g, off, h0, _⟩ := hr 0 x rfl; cases h0
    clear hr
    have hnil : (binOp .eql 30 (.slice none 0 cap) (.slice none 0 0)).run Tryd.prog w = .ok (.bool true) w := Lib.run_eql_slice_nil w 30 56 none 0 cap 0 0 Tryd.underlying30
    simp only [List.length_nil]
    go_enter Tryd.func67, Tryd.ntmps67
    go_wp2_with fail
    go_ret
    exact ⟨_, rfl, FOwn.nil _ _, Below.refl _ _⟩
  | some a =>
    clear hr
    have b1 := below_lit w (.cells #[] 56)
    have o1 : GOwn w.heap.size (w.alloc (.cells #[] 56)) (.slice (some ⟨w.heap.size, 0, none⟩) 0 0) [] := fown_lit gcell_len w (Nat.le_refl _) [] (by simp)
    obtain ⟨x', w', k1, o2, g2, -⟩ := appG_own o1 (Fs.below HV.out b1) (by simp) (by simp; omega)
    have b2 := Lib.hid (o1.below b1 (by simp) g2)
    have O2 := Lib.hid o2
    have hnil : (binOp .eql 30 (.slice (some a) l.length cap) (.slice none 0 0)).run Tryd.prog w = .ok (.bool false) w := Lib.run_eql_slice_nil w 30 56 (some a) l.length cap 0 0 Tryd.underlying30
    clear o1 o2 g2 b1
    go_enter Tryd.func67, Tryd.ntmps67
    go_wp2_with fail
    go_ret
    exact ⟨_, rfl, O2.out, b2.out⟩
end Go.Proofs.YtpccjgoeoeehoaaDoor
namespace Go.Proofs.YtpccjgoeoeehoaaDoor
open Go.RowKit
/-- A row of a table; a table; a node's own parts; a node. -/
abbrev Trow := Bool × List (List Gly)
structure Tab where
  cols : List UInt8
  rows : List Trow
  box : Bool
  all : Bool
deriving DecidableEq
structure Hd where
  kind : Int
  line : Int
  n : Int
  text : List Gly
  rows : List (List Gly)
  grid : Tab
deriving DecidableEq
inductive Nd where
  | mk (h : Hd) (kids : List Nd)
def Nd.hd : Nd → Hd
  | .mk h _ => h
def Nd.kids : Nd → List Nd
  | .mk _ k => k
/-- How many; how deep; how much there is of them. -/
def lens {α : Type} (l : List (List α)) : Nat := (l.map List.length).sum
def trl (t : Trow) : Nat := 1 + t.2.length + lens t.2
def trls (l : List Trow) : Nat := (l.map trl).sum
def hdl (h : Hd) : Nat := 3 + h.text.length + h.grid.cols.length + (h.rows.length + lens h.rows) + trls h.grid.rows
mutual
def cntN : Nd → Nat
  | .mk _ ks => 1 + cntL ks
def cntL : List Nd → Nat
  | [] => 0
  | x :: l => cntN x + cntL l
end
mutual
def dpN : Nd → Nat
  | .mk _ ks => 1 + dpL ks
def dpL : List Nd → Nat
  | [] => 0
  | x :: l => max (dpN x) (dpL l)
end
mutual
def nlN : Nd → Nat
  | .mk h ks => hdl h + nlL ks
def nlL : List Nd → Nat
  | [] => 0
  | x :: l => nlN x + nlL l
end
theorem cntN_eq (y : Nd) : cntN y = 1 + cntL y.kids := by cases y; simp [cntN, Nd.kids]
theorem dpN_eq (y : Nd) : dpN y = 1 + dpL y.kids := by cases y; simp [dpN, Nd.kids]
theorem nlN_eq (y : Nd) : nlN y = hdl y.hd + nlL y.kids := by cases y; simp [nlN, Nd.kids, Nd.hd]
theorem cntL_app : ∀ (a b : List Nd), cntL (a ++ b) = cntL a + cntL b
  | [], b => by simp [cntL]
  | x :: a, b => by simp only [List.cons_append, cntL, cntL_app a b]; omega
theorem dpL_app : ∀ (a b : List Nd), dpL (a ++ b) = max (dpL a) (dpL b)
  | [], b => by simp [dpL]
  | x :: a, b => by simp only [List.cons_append, dpL, dpL_app a b]; omega
theorem nlL_app : ∀ (a b : List Nd), nlL (a ++ b) = nlL a + nlL b
  | [], b => by simp [nlL]
  | x :: a, b => by simp only [List.cons_append, nlL, nlL_app a b]; omega
theorem cnt_next {l : List Nd} {p : Nat} {y : Nd} (hy : l[p]? = some y) : cntL (l.take (p + 1)) = cntL (l.take p) + (1 + cntL y.kids) := by
  rw [List.take_add_one, hy, cntL_app]
  simp only [Option.toList_some, cntL, cntN_eq]
  omega
theorem dp_next {l : List Nd} {p : Nat} {y : Nd} (hy : l[p]? = some y) : dpL (l.take (p + 1)) = max (dpL (l.take p)) (1 + dpL y.kids) := by
  rw [List.take_add_one, hy, dpL_app]
  simp only [Option.toList_some, dpL, dpN_eq]
  omega
theorem nl_next {l : List Nd} {p : Nat} {y : Nd} (hy : l[p]? = some y) : nlL (l.take (p + 1)) = nlL (l.take p) + (hdl y.hd + nlL y.kids) := by
  rw [List.take_add_one, hy, nlL_app]
  simp only [Option.toList_some, nlL, nlN_eq]
  omega
theorem cnt_take (l : List Nd) (p : Nat) : cntL (l.take p) ≤ cntL l := by
  have h := cntL_app (l.take p) (l.drop p)
  rw [List.take_append_drop] at h
  omega
theorem dp_take (l : List Nd) (p : Nat) : dpL (l.take p) ≤ dpL l := by
  have h := dpL_app (l.take p) (l.drop p)
  rw [List.take_append_drop] at h
  omega
theorem nl_take (l : List Nd) (p : Nat) : nlL (l.take p) ≤ nlL l := by
  have h := nlL_app (l.take p) (l.drop p)
  rw [List.take_append_drop] at h
  omega
theorem cnt_le {l : List Nd} {p : Nat} {y : Nd} (hy : l[p]? = some y) : 1 + cntL y.kids + cntL (l.take p) ≤ cntL l := by
  have h1 := cnt_next hy
  have h2 := cnt_take l (p + 1)
  omega
theorem dp_le {l : List Nd} {p : Nat} {y : Nd} (hy : l[p]? = some y) : 1 + dpL y.kids ≤ dpL l := by
  have h1 := dp_next hy
  have h2 := dp_take l (p + 1)
  omega
theorem nl_le {l : List Nd} {p : Nat} {y : Nd} (hy : l[p]? = some y) : hdl y.hd + nlL y.kids + nlL (l.take p) ≤ nlL l := by
  have h1 := nl_next hy
  have h2 := nl_take l (p + 1)
  omega
theorem cnt_len : ∀ l : List Nd, l.length ≤ cntL l
  | [] => by simp [cntL]
  | x :: l => by
    have := cnt_len l
    have := cntN_eq x
    simp only [cntL, List.length_cons]
    omega
mutual
theorem dp_cntN : ∀ x : Nd, dpN x ≤ cntN x
  | .mk _ ks => by
    have := dp_cntL ks
    simp only [dpN, cntN]
    omega
theorem dp_cntL : ∀ l : List Nd, dpL l ≤ cntL l
  | [] => by simp [dpL, cntL]
  | x :: l => by
    have := dp_cntN x
    have := dp_cntL l
    simp only [dpL, cntL]
    omega
end
mutual
theorem cnt_nlN : ∀ x : Nd, 3 * cntN x ≤ nlN x
  | .mk h ks => by
    have := cnt_nlL ks
    simp only [nlN, cntN]
    unfold hdl
    omega
theorem cnt_nlL : ∀ l : List Nd, 3 * cntL l ≤ nlL l
  | [] => by simp [nlL, cntL]
  | x :: l => by
    have := cnt_nlN x
    have := cnt_nlL l
    simp only [nlL, cntL]
    omega
end
theorem lens_next {α : Type} {l : List (List α)} {p : Nat} {x : List α} (hx : l[p]? = some x) : lens (l.take (p + 1)) = lens (l.take p) + x.length := by
  rw [List.take_add_one, hx]
  simp [lens]
theorem lens_take {α : Type} (l : List (List α)) (p : Nat) : lens (l.take p) ≤ lens l := by
  have h : lens (l.take p ++ l.drop p) = lens (l.take p) + lens (l.drop p) := by unfold lens; rw [List.map_append, List.sum_append]
  rw [List.take_append_drop] at h
  omega
theorem lens_le {α : Type} {l : List (List α)} {p : Nat} {x : List α} (hx : l[p]? = some x) : x.length + lens (l.take p) ≤ lens l := by
  have h1 := lens_next hx
  have h2 := lens_take l (p + 1)
  omega
theorem trls_next {l : List Trow} {p : Nat} {x : Trow} (hx : l[p]? = some x) : trls (l.take (p + 1)) = trls (l.take p) + trl x := by
  rw [List.take_add_one, hx]
  simp [trls]
theorem trls_take (l : List Trow) (p : Nat) : trls (l.take p) ≤ trls l := by
  have h : trls (l.take p ++ l.drop p) = trls (l.take p) + trls (l.drop p) := by unfold trls; rw [List.map_append, List.sum_append]
  rw [List.take_append_drop] at h
  omega
theorem trls_le {l : List Trow} {p : Nat} {x : Trow} (hx : l[p]? = some x) : trl x + trls (l.take p) ≤ trls l := by
  have h1 := trls_next hx
  have h2 := trls_take l (p + 1)
  omega
theorem trls_len : ∀ l : List Trow, l.length ≤ trls l
  | [] => by simp [trls]
  | x :: l => by
    have := trls_len l
    simp only [trls, List.map_cons, List.sum_cons, List.length_cons] at this ⊢
    unfold trl at this ⊢
    omega
/-- Which blocks stand as they stood. -/
def Kp (S : Nat → Prop) (w w' : World) : Prop := ∀ b, S b → w'.heap[b]? = w.heap[b]?
theorem Kp.refl (S : Nat → Prop) (w : World) : Kp S w w := fun _ _ => rfl
theorem Kp.trans {S : Nat → Prop} {a b c : World} (h : Kp S a b) (k : Kp S b c) : Kp S a c := fun i hi => (k i hi).trans (h i hi)
theorem Kp.below {S : Nat → Prop} {D : Nat} {w w' : World} (h : Below D w w') (hS : ∀ b, S b → b < D) : Kp S w w' := fun b hb => h.block b (hS b hb)
theorem Kp.grown {S : Nat → Prop} {w w' : World} {row : Option Nat} (h : w.grownBy w' row) (hS : ∀ b, S b → b < w.heap.size ∧ some b ≠ row) : Kp S w w' := fun b hb => h.block b (hS b hb).1 (hS b hb).2
def foot (S : Nat → Prop) (w : World) (n : Nat) (v : Value) : Prop := ∀ a k c, v = .slice (some a) k c → 0 < k → S a.block ∧ (¬ S 0 → ∀ i, i < k * n → w.frozen? ⟨a.block, a.off + i, none⟩ = false)
/-- A slice that reads as l, in blocks of S. -/
def FsS {α : Type} (S : Nat → Prop) (n : Nat) (f : α → List Value) (w : World) (v : Value) (l : List α) : Prop := Fs n f w v l ∧ foot S w n v
theorem FsS.keep {α : Type} {S : Nat → Prop} {n : Nat} {f : α → List Value} {w w' : World} {v : Value} {l : List α} (h : FsS S n f w v l) (hk : Kp S w w') : FsS S n f w' v l := by
  obtain ⟨⟨a, cap, rfl, hc, hr⟩, hf⟩ := h
  refine ⟨⟨a, cap, rfl, hc, fun j x hj => ?_⟩, fun a' k c e hpos => ⟨(hf a' k c e hpos).1, fun h0 i hi => (World.frozen?_of_block (w := w) (a := ⟨a'.block, a'.off + i, none⟩) (hk a'.block (hf a' k c e hpos).1)).trans ((hf a' k c e hpos).2 h0 i hi)⟩⟩
  obtain ⟨b, off, rfl, h0⟩ := hr j x hj
  have hS : S b := (hf _ _ _ rfl (by have := (List.getElem?_eq_some_iff.1 hj).1; omega)).1
  exact ⟨b, off, rfl, fun i c hi => (World.cell?_of_block (hk b hS)).trans (h0 i c hi)⟩
theorem FsS.mono {α : Type} {S T : Nat → Prop} {n : Nat} {f : α → List Value} {w : World} {v : Value} {l : List α} (h : FsS S n f w v l) (hST : ∀ b, S b → T b) : FsS T n f w v l :=
  ⟨h.1, fun a k c e hk => ⟨hST _ (h.2 a k c e hk).1, fun h0 => (h.2 a k c e hk).2 (fun q => h0 (hST 0 q))⟩⟩
theorem FsS.nil {α : Type} (S : Nat → Prop) (n : Nat) (f : α → List Value) (w : World) : FsS S n f w (.slice none 0 0) ([] : List α) := ⟨Fs.nil w, fun a k c e _ => by injection e with e1; cases e1⟩
theorem FsS.at {α : Type} {S : Nat → Prop} {n : Nat} {f : α → List Value} {w : World} {a : Option Addr} {k cap : Nat} {l : List α} (h : FsS S n f w (.slice a k cap) l) {j : Nat} {x : α} (hx : l[j]? = some x) :
    ∃ g off, a = some ⟨g, off, none⟩ ∧ S g ∧ ∀ i c, (f x)[i]? = some c → w.cell? ⟨g, off + (j * n + i), none⟩ = some c := by
  obtain ⟨⟨a', cap', hv, hc, hr⟩, hf⟩ := h
  injection hv with h1 h2 h3
  subst h1
  obtain ⟨b, off, rfl, h0⟩ := hr j x hx
  exact ⟨b, off, rfl, (hf _ _ _ rfl (by have := (List.getElem?_eq_some_iff.1 hx).1; omega)).1, h0⟩
/-- A slice's value, as it lies. -/
abbrev PV := Option Addr × Nat × Nat
def pv (s : PV) : Value := .slice s.1 s.2.1 s.2.2
theorem pv_of {α : Type} {n : Nat} {f : α → List Value} {w : World} {v : Value} {l : List α} (h : Fs n f w v l) : ∃ s : PV, v = pv s := by
  obtain ⟨a, cap, e⟩ := h.len
  exact ⟨(a, l.length, cap), e⟩
def pcell (s : PV) : List Value := [pv s]
theorem pcell_len (s : PV) : (pcell s).length = 1 := rfl
theorem pcell_one (s : PV) : ∀ u ∈ pcell s, u.oneCell' = true := by
  intro u hu
  simp [pcell, pv] at hu
  subst hu; rfl
def trcell (x : Bool × PV) : List Value := [.bool x.1, pv x.2]
theorem trcell_len (x : Bool × PV) : (trcell x).length = 2 := rfl
theorem trcell_one (x : Bool × PV) : ∀ u ∈ trcell x, u.oneCell' = true := by
  intro u hu
  simp [trcell, pv] at hu
  rcases hu with rfl | rfl <;> rfl
/-- Rows of rows; rows of a table. -/
def GrS (S : Nat → Prop) (w : World) (v : Value) (l : List (List Gly)) : Prop :=
  ∃ L : List PV, L.length = l.length ∧ FsS S 1 pcell w v L ∧ ∀ (i : Nat) s r, L[i]? = some s → l[i]? = some r → FsS S 2 gcell w (pv s) r
def TrS (S : Nat → Prop) (w : World) (v : Value) (l : List Trow) : Prop :=
  ∃ L : List (Bool × PV), L.length = l.length ∧ FsS S 2 trcell w v L ∧ ∀ (i : Nat) s r, L[i]? = some s → l[i]? = some r → s.1 = r.1 ∧ GrS S w (pv s.2) r.2
theorem GrS.keep {S : Nat → Prop} {w w' : World} {v : Value} {l : List (List Gly)} (h : GrS S w v l) (hk : Kp S w w') : GrS S w' v l := by
  obtain ⟨L, h1, h2, h3⟩ := h
  exact ⟨L, h1, h2.keep hk, fun i s r hs hr => (h3 i s r hs hr).keep hk⟩
theorem TrS.keep {S : Nat → Prop} {w w' : World} {v : Value} {l : List Trow} (h : TrS S w v l) (hk : Kp S w w') : TrS S w' v l := by
  obtain ⟨L, h1, h2, h3⟩ := h
  exact ⟨L, h1, h2.keep hk, fun i s r hs hr => ⟨(h3 i s r hs hr).1, (h3 i s r hs hr).2.keep hk⟩⟩
theorem GrS.mono {S T : Nat → Prop} {w : World} {v : Value} {l : List (List Gly)} (h : GrS S w v l) (hST : ∀ b, S b → T b) : GrS T w v l := by
  obtain ⟨L, h1, h2, h3⟩ := h
  exact ⟨L, h1, h2.mono hST, fun i s r hs hr => (h3 i s r hs hr).mono hST⟩
theorem TrS.mono {S T : Nat → Prop} {w : World} {v : Value} {l : List Trow} (h : TrS S w v l) (hST : ∀ b, S b → T b) : TrS T w v l := by
  obtain ⟨L, h1, h2, h3⟩ := h
  exact ⟨L, h1, h2.mono hST, fun i s r hs hr => ⟨(h3 i s r hs hr).1, (h3 i s r hs hr).2.mono hST⟩⟩
theorem GrS.nil (S : Nat → Prop) (w : World) : GrS S w (.slice none 0 0) [] := ⟨[], rfl, FsS.nil _ _ _ _, fun i s r h => by simp at h⟩
theorem TrS.nil (S : Nat → Prop) (w : World) : TrS S w (.slice none 0 0) [] := ⟨[], rfl, FsS.nil _ _ _ _, fun i s r h => by simp at h⟩
theorem GrS.len {S : Nat → Prop} {w : World} {v : Value} {l : List (List Gly)} (h : GrS S w v l) : ∃ a cap, v = .slice a l.length cap := by
  obtain ⟨L, h1, h2, -⟩ := h
  obtain ⟨a, cap, e⟩ := h2.1.len
  exact ⟨a, cap, h1 ▸ e⟩
theorem TrS.len {S : Nat → Prop} {w : World} {v : Value} {l : List Trow} (h : TrS S w v l) : ∃ a cap, v = .slice a l.length cap := by
  obtain ⟨L, h1, h2, -⟩ := h
  obtain ⟨a, cap, e⟩ := h2.1.len
  exact ⟨a, cap, h1 ▸ e⟩
theorem GrS.at {S : Nat → Prop} {w : World} {a : Option Addr} {k cap : Nat} {l : List (List Gly)} (h : GrS S w (.slice a k cap) l) {j : Nat} {r : List Gly} (hr : l[j]? = some r) :
    ∃ g off b c, a = some ⟨g, off, none⟩ ∧ S g ∧ w.cell? ⟨g, off + j, none⟩ = some (.slice b r.length c) ∧ FsS S 2 gcell w (.slice b r.length c) r := by
  obtain ⟨L, h1, h2, h3⟩ := h
  obtain ⟨s, hs⟩ : ∃ s, L[j]? = some s := ⟨L[j]'(by have := (List.getElem?_eq_some_iff.1 hr).1; omega), List.getElem?_eq_getElem _⟩
  obtain ⟨g, off, e, hg, hc⟩ := h2.at hs
  have h4 := h3 j s r hs hr
  obtain ⟨b, c, e2⟩ := h4.1.len
  have c0 := hc 0 _ rfl
  rw [Nat.mul_one, Nat.add_zero, e2] at c0
  rw [e2] at h4
  exact ⟨g, off, b, c, e, hg, c0, h4⟩
theorem TrS.at {S : Nat → Prop} {w : World} {a : Option Addr} {k cap : Nat} {l : List Trow} (h : TrS S w (.slice a k cap) l) {j : Nat} {r : Trow} (hr : l[j]? = some r) :
    ∃ g off b c, a = some ⟨g, off, none⟩ ∧ S g ∧ w.cell? ⟨g, off + j * 2, none⟩ = some (.bool r.1) ∧ w.cell? ⟨g, off + j * 2 + 1, none⟩ = some (.slice b r.2.length c) ∧ GrS S w (.slice b r.2.length c) r.2 := by
  obtain ⟨L, h1, h2, h3⟩ := h
  obtain ⟨s, hs⟩ : ∃ s, L[j]? = some s := ⟨L[j]'(by have := (List.getElem?_eq_some_iff.1 hr).1; omega), List.getElem?_eq_getElem _⟩
  obtain ⟨g, off, e, hg, hc⟩ := h2.at hs
  obtain ⟨e1, h4⟩ := h3 j s r hs hr
  obtain ⟨b, c, e2⟩ := h4.len
  have c0 := hc 0 _ rfl
  have c1 := hc 1 _ rfl
  rw [e1] at c0
  rw [e2] at c1 h4
  exact ⟨g, off, b, c, e, hg, c0, c1, h4⟩
/-- A node as it lies. -/
structure NV where
  kind : Int
  line : Int
  n : Int
  text : PV
  kids : PV
  rows : PV
  cols : List UInt8
  trows : PV
  box : Bool
  all : Bool
def ncell (x : NV) : List Value := [.int .i64 x.kind, .int .i64 x.line, .int .i64 x.n, pv x.text, pv x.kids, pv x.rows, .string ⟨x.cols.toArray⟩, pv x.trows, .bool x.box, .bool x.all]
theorem ncell_len (x : NV) : (ncell x).length = 10 := rfl
theorem ncell_one (x : NV) : ∀ u ∈ ncell x, u.oneCell' = true := by
  intro u hu
  simp [ncell, pv] at hu
  rcases hu with rfl | rfl | rfl | rfl | rfl | rfl | rfl | rfl | rfl | rfl <;> rfl
structure HdIs (S : Nat → Prop) (w : World) (x : NV) (h : Hd) : Prop where
  kind : x.kind = h.kind
  line : x.line = h.line
  n : x.n = h.n
  text : FsS S 2 gcell w (pv x.text) h.text
  rows : GrS S w (pv x.rows) h.rows
  cols : x.cols = h.grid.cols
  trows : TrS S w (pv x.trows) h.grid.rows
  box : x.box = h.grid.box
  all : x.all = h.grid.all
theorem HdIs.keep {S : Nat → Prop} {w w' : World} {x : NV} {h : Hd} (k : HdIs S w x h) (hk : Kp S w w') : HdIs S w' x h :=
  ⟨k.kind, k.line, k.n, k.text.keep hk, k.rows.keep hk, k.cols, k.trows.keep hk, k.box, k.all⟩
theorem HdIs.mono {S T : Nat → Prop} {w : World} {x : NV} {h : Hd} (k : HdIs S w x h) (hST : ∀ b, S b → T b) : HdIs T w x h :=
  ⟨k.kind, k.line, k.n, k.text.mono hST, k.rows.mono hST, k.cols, k.trows.mono hST, k.box, k.all⟩
/-- Nodes in memory, in blocks of S. -/
inductive NsS (S : Nat → Prop) (w : World) : Value → List Nd → Prop where
  | mk (v : Value) (l : List Nd) (L : List NV) (hl : L.length = l.length) (hs : FsS S 10 ncell w v L) (hh : ∀ (i : Nat) x y, L[i]? = some x → l[i]? = some y → HdIs S w x y.hd)
      (hk : ∀ (i : Nat) x y, L[i]? = some x → l[i]? = some y → NsS S w (pv x.kids) y.kids) : NsS S w v l
theorem NsS.keep {S : Nat → Prop} {w w' : World} {v : Value} {l : List Nd} (h : NsS S w v l) (k : Kp S w w') : NsS S w' v l := by
  induction h with
  | mk v l L hl hs hh hk ih => exact .mk v l L hl (hs.keep k) (fun i x y h1 h2 => (hh i x y h1 h2).keep k) ih
theorem NsS.mono {S T : Nat → Prop} {w : World} {v : Value} {l : List Nd} (h : NsS S w v l) (hST : ∀ b, S b → T b) : NsS T w v l := by
  induction h with
  | mk v l L hl hs hh hk ih => exact .mk v l L hl (hs.mono hST) (fun i x y h1 h2 => (hh i x y h1 h2).mono hST) ih
theorem NsS.nil (S : Nat → Prop) (w : World) : NsS S w (.slice none 0 0) [] := .mk _ _ [] rfl (FsS.nil _ _ _ _) (fun i x y h => by simp at h) (fun i x y h => by simp at h)
theorem NsS.len {S : Nat → Prop} {w : World} {v : Value} {l : List Nd} (h : NsS S w v l) : ∃ a cap, v = .slice a l.length cap := by
  cases h with
  | mk _ _ L hl hs hh hk =>
    obtain ⟨a, cap, e⟩ := hs.1.len
    exact ⟨a, cap, hl ▸ e⟩
/-- One of the nodes: its cells. -/
structure NAt (S : Nat → Prop) (w : World) (g o : Nat) (y : Nd) (text kids rows trows : PV) : Prop where
  c0 : w.cell? ⟨g, o, none⟩ = some (.int .i64 y.hd.kind)
  c1 : w.cell? ⟨g, o + 1, none⟩ = some (.int .i64 y.hd.line)
  c2 : w.cell? ⟨g, o + 2, none⟩ = some (.int .i64 y.hd.n)
  c3 : w.cell? ⟨g, o + 3, none⟩ = some (.slice text.1 y.hd.text.length text.2.2)
  c4 : w.cell? ⟨g, o + 4, none⟩ = some (.slice kids.1 y.kids.length kids.2.2)
  c5 : w.cell? ⟨g, o + 5, none⟩ = some (.slice rows.1 y.hd.rows.length rows.2.2)
  c6 : w.cell? ⟨g, o + 6, none⟩ = some (.string ⟨y.hd.grid.cols.toArray⟩)
  c7 : w.cell? ⟨g, o + 7, none⟩ = some (.slice trows.1 y.hd.grid.rows.length trows.2.2)
  c8 : w.cell? ⟨g, o + 8, none⟩ = some (.bool y.hd.grid.box)
  c9 : w.cell? ⟨g, o + 9, none⟩ = some (.bool y.hd.grid.all)
  blk : S g
  text : FsS S 2 gcell w (.slice text.1 y.hd.text.length text.2.2) y.hd.text
  kids : NsS S w (.slice kids.1 y.kids.length kids.2.2) y.kids
  rows : GrS S w (.slice rows.1 y.hd.rows.length rows.2.2) y.hd.rows
  trows : TrS S w (.slice trows.1 y.hd.grid.rows.length trows.2.2) y.hd.grid.rows
theorem pv_eq {s : PV} {a : Option Addr} {n c : Nat} (h : pv s = .slice a n c) : s = (a, n, c) := by
  obtain ⟨s0, s1, s2⟩ := s
  unfold pv at h
  injection h with h1 h2 h3
  simp only at h1 h2 h3
  subst h1 h2 h3
  rfl
theorem NsS.at {S : Nat → Prop} {w : World} {a : Option Addr} {k cap : Nat} {l : List Nd} (h : NsS S w (.slice a k cap) l) {j : Nat} {y : Nd} (hy : l[j]? = some y) :
    ∃ g off text kids rows trows, a = some ⟨g, off, none⟩ ∧ NAt S w g (off + j * 10) y text kids rows trows := by
  cases h with
  | mk _ _ L hl hs hh hk =>
    obtain ⟨x, hx⟩ : ∃ x, L[j]? = some x := ⟨L[j]'(by have := (List.getElem?_eq_some_iff.1 hy).1; omega), List.getElem?_eq_getElem _⟩
    obtain ⟨g, off, e, hg, hc⟩ := hs.at hx
    have H := hh j x y hx hy
    have K := hk j x y hx hy
    obtain ⟨t1, t2, et⟩ := H.text.1.len
    obtain ⟨k1, k2, ek⟩ := K.len
    obtain ⟨r1, r2, er⟩ := H.rows.len
    obtain ⟨q1, q2, eq⟩ := H.trows.len
    have hT := H.text
    have hR := H.rows
    have hQ := H.trows
    rw [et] at hT
    rw [ek] at K
    rw [er] at hR
    rw [eq] at hQ
    have hcell : ∀ i c, (ncell x)[i]? = some c → w.cell? ⟨g, off + j * 10 + i, none⟩ = some c := fun i c h => by rw [Nat.add_assoc]; exact hc i c h
    refine ⟨g, off, (t1, y.hd.text.length, t2), (k1, y.kids.length, k2), (r1, y.hd.rows.length, r2), (q1, y.hd.grid.rows.length, q2), e,
      ⟨hcell 0 _ (by simp [ncell, H.kind]), hcell 1 _ (by simp [ncell, H.line]), hcell 2 _ (by simp [ncell, H.n]), hcell 3 _ (by simp [ncell, et]), hcell 4 _ (by simp [ncell, ek]), hcell 5 _ (by simp [ncell, er]), hcell 6 _ (by simp [ncell, H.cols]), hcell 7 _ (by simp [ncell, eq]), hcell 8 _ (by simp [ncell, H.box]), hcell 9 _ (by simp [ncell, H.all]), hg, hT, K, hR, hQ⟩⟩
end Go.Proofs.YtpccjgoeoeehoaaDoor
namespace Go.Proofs.YtpccjgoeoeehoaaDoor
open Go.RowKit
/-- A row without blanks at its end. -/
def trm : List Gly → List Gly
  | [] => []
  | g :: l => if trm l = [] ∧ g.1 = 32 then [] else g :: trm l
/-- Blanks: none at the begin, one of several. -/
def sqA : Bool → List Gly → List Gly
  | _, [] => []
  | b, g :: l => if g.1 = 32 then (if b then (32, 0) :: sqA false l else sqA false l) else g :: sqA true l
def sqz (l : List Gly) : List Gly := sqA false (trm l)
def sqd (l : List Gly) : Bool := decide (sqz l = l)
theorem trm_cons (g : Gly) (l : List Gly) : trm (g :: l) = if trm l = [] ∧ g.1 = 32 then [] else g :: trm l := rfl
theorem trm_idem : ∀ l : List Gly, trm (trm l) = trm l
  | [] => rfl
  | g :: l => by
    have ih := trm_idem l
    rw [trm_cons]
    split
    · rfl
    · rename_i h
      rw [trm_cons, ih, if_neg h]
theorem trm_len : ∀ l : List Gly, (trm l).length ≤ l.length
  | [] => by simp [trm]
  | g :: l => by
    have ih := trm_len l
    rw [trm_cons]
    split
    · simp
    · simp only [List.length_cons]; omega
theorem sqA_blank (b : Bool) {g : Gly} (h : g.1 = 32) (l : List Gly) : sqA b (g :: l) = if b then (32, 0) :: sqA false l else sqA false l := by
  show (if g.1 = 32 then _ else _) = _
  rw [if_pos h]
theorem sqA_other (b : Bool) {g : Gly} (h : g.1 ≠ 32) (l : List Gly) : sqA b (g :: l) = g :: sqA true l := by
  show (if g.1 = 32 then _ else _) = _
  rw [if_neg h]
theorem sqA_inked : ∀ (b : Bool) (l : List Gly), (sqA b l).filter (fun g => g.1 != 32) = l.filter (fun g => g.1 != 32)
  | _, [] => rfl
  | b, g :: l => by
    by_cases hg : g.1 = 32
    · rw [sqA_blank b hg, List.filter_cons_of_neg (by simp [hg])]
      cases b
      · exact sqA_inked false l
      · rw [if_pos rfl, List.filter_cons_of_neg (by simp)]
        exact sqA_inked false l
    · rw [sqA_other b hg, List.filter_cons_of_pos (by simp [hg]), List.filter_cons_of_pos (by simp [hg]), sqA_inked true l]
theorem sqA_len : ∀ (b : Bool) (l : List Gly), (sqA b l).length ≤ l.length
  | _, [] => by simp [sqA]
  | b, g :: l => by
    by_cases hg : g.1 = 32
    · rw [sqA_blank b hg]
      have := sqA_len false l
      cases b
      · simp only [List.length_cons, Bool.false_eq_true, if_false]; omega
      · simp only [if_true, List.length_cons]; omega
    · rw [sqA_other b hg]
      have := sqA_len true l
      simp only [List.length_cons]; omega
theorem sqA_idem : ∀ (b : Bool) (l : List Gly), sqA b (sqA b l) = sqA b l
  | _, [] => rfl
  | b, g :: l => by
    by_cases hg : g.1 = 32
    · rw [sqA_blank b hg]
      cases b
      · simpa using sqA_idem false l
      · rw [if_pos rfl, sqA_blank true rfl, if_pos rfl, sqA_idem false l]
    · rw [sqA_other b hg, sqA_other b hg, sqA_idem true l]
/-- What ends with no blank, squeezed, ends with none. -/
theorem sqA_nil {b : Bool} : ∀ {l : List Gly}, trm l = l → sqA b l = [] → l = []
  | [], _, _ => rfl
  | g :: l, ht, h => by
    by_cases hg : g.1 = 32
    · rw [sqA_blank b hg] at h
      have hl : trm l ≠ [] := fun e => by rw [trm_cons, if_pos ⟨e, hg⟩] at ht; cases ht
      rw [trm_cons, if_neg (fun k => hl k.1)] at ht
      injection ht with _ ht
      cases b
      · have := sqA_nil (b := false) ht (by simpa using h)
        rw [this] at hl
        exact absurd rfl hl
      · simp at h
    · rw [sqA_other b hg] at h
      cases h
theorem sqA_trm : ∀ (b : Bool) {l : List Gly}, trm l = l → trm (sqA b l) = sqA b l
  | _, [], _ => rfl
  | b, g :: l, ht => by
    by_cases hg : g.1 = 32
    · have hl : trm l ≠ [] := fun e => by rw [trm_cons, if_pos ⟨e, hg⟩] at ht; cases ht
      rw [trm_cons, if_neg (fun k => hl k.1)] at ht
      injection ht with _ ht
      rw [sqA_blank b hg]
      have ih := sqA_trm false ht
      cases b
      · simpa using ih
      · rw [if_pos rfl, trm_cons, ih, if_neg]
        rintro ⟨h1, -⟩
        have := sqA_nil ht h1
        rw [this] at hl
        exact absurd rfl hl
    · have ht' : trm l = l := by
        rw [trm_cons, if_neg (fun k => hg k.2)] at ht
        injection ht
      rw [sqA_other b hg, trm_cons, sqA_trm true ht', if_neg (fun k => hg k.2)]
theorem sqz_idem (l : List Gly) : sqz (sqz l) = sqz l := by
  unfold sqz
  rw [sqA_trm false (trm_idem l), sqA_idem]
theorem sqz_len (l : List Gly) : (sqz l).length ≤ l.length := Nat.le_trans (sqA_len false _) (trm_len l)
theorem sqz_nil : sqz [] = [] := rfl
theorem sqd_sqz (l : List Gly) : sqd (sqz l) = true := decide_eq_true (sqz_idem l)
theorem sqd_nil : sqd [] = true := rfl
def side (c : UInt8) : Bool := c == 108 || c == 99 || c == 114
def mcols (cols : List UInt8) : List UInt8 := if (cols.filter side).take 20 = [] then [108] else (cols.filter side).take 20
/-- The first n cells, squeezed, or none. -/
def mcells : Nat → List (List Gly) → List (List Gly)
  | 0, _ => []
  | n + 1, [] => [] :: mcells n []
  | n + 1, c :: l => sqz c :: mcells n l
def mrowT (n : Nat) (r : Trow) : Trow := (r.1, if r.1 then [] else mcells n r.2)
def mend (t : Tab) : Tab := ⟨mcols t.cols, t.rows.map (mrowT (mcols t.cols).length), t.box, t.all && t.box⟩
def rowOk (n : Nat) (r : Trow) : Bool := (if r.1 then decide (r.2 = []) else decide (r.2.length = n)) && r.2.all sqd
def rightT (t : Tab) : Bool := decide (1 ≤ t.cols.length) && decide (t.cols.length ≤ 20) && !(t.all && !t.box) && t.cols.all side && t.rows.all (rowOk t.cols.length)
theorem mcells_len : ∀ (n : Nat) (l : List (List Gly)), (mcells n l).length = n
  | 0, _ => rfl
  | n + 1, [] => by simp [mcells, mcells_len n []]
  | n + 1, c :: l => by simp [mcells, mcells_len n l]
theorem mcells_sqd : ∀ (n : Nat) (l : List (List Gly)), (mcells n l).all sqd = true
  | 0, _ => rfl
  | n + 1, [] => by simp [mcells, mcells_sqd n [], sqd_nil]
  | n + 1, c :: l => by simp [mcells, mcells_sqd n l, sqd_sqz]
theorem mcols_ok (c : List UInt8) : 1 ≤ (mcols c).length ∧ (mcols c).length ≤ 20 ∧ (mcols c).all side = true := by
  unfold mcols
  split
  · exact ⟨by decide, by decide, by decide⟩
  · rename_i h
    refine ⟨?_, ?_, ?_⟩
    · have := List.length_pos_iff.2 h
      omega
    · rw [List.length_take]; omega
    · rw [List.all_eq_true]
      intro x hx
      exact (List.mem_filter.1 (List.mem_of_mem_take hx)).2
theorem rowOk_mend (n : Nat) (r : Trow) : rowOk n (mrowT n r) = true := by
  unfold rowOk mrowT
  cases r.1
  · simp [mcells_len, mcells_sqd]
  · simp
theorem right_mend (t : Tab) : rightT (mend t) = true := by
  obtain ⟨h1, h2, h3⟩ := mcols_ok t.cols
  unfold rightT mend
  simp only [Bool.and_eq_true, decide_eq_true_eq, h1, h2, h3, true_and, List.all_map, List.all_eq_true, Function.comp]
  refine ⟨⟨?_, trivial⟩, fun r _ => rowOk_mend _ r⟩
  cases t.all <;> cases t.box <;> rfl
end Go.Proofs.YtpccjgoeoeehoaaDoor
namespace Go.Proofs.YtpccjgoeoeehoaaDoor
open Go.RowKit
/-- May a kind stand in another one? -/
def stands (k w : Int) : Bool := (k == 1 && w == 0) || (k == 2 && w == 1) || (decide (3 ≤ k) && decide (k ≤ 7))
def noGrid : Tab := ⟨[], [], false, false⟩
def isNone (t : Tab) : Bool := decide (t.cols = []) && decide (t.rows = []) && !t.box && !t.all
def clipI (lo hi x : Int) : Int := max lo (min x hi)
/-- What a node of a kind has of another one, but its kids. -/
def ownH (h : Hd) (k : Int) : Hd :=
  ⟨k, clipI 0 1099511627775 h.line, if k = 4 ∨ k = 5 then clipI 0 200 h.n else 0, if 1 ≤ k ∧ k ≤ 4 then sqz h.text else [], if k = 6 then h.rows else [], if k = 7 then mend h.grid else noGrid⟩
/-- Has a node what its kind must have? -/
def fullB (h : Hd) (kids : Bool) : Bool :=
  if 1 ≤ h.kind ∧ h.kind ≤ 3 then decide (h.text ≠ []) else if h.kind = 5 then kids else if h.kind = 6 then decide (h.rows ≠ []) else h.kind == 4 || (h.kind == 7 && decide (h.grid.rows ≠ []))
def hasK {α : Type} (l : List α) : Bool := !l.isEmpty
def kindAt (k w : Int) : Int := if (k = 1 ∨ k = 2) ∧ stands k w = false then 3 else k
def mayK (k : Int) : Bool := k == 1 || k == 2 || k == 4 || k == 5
/-- Do a node's kids stand in it? -/
def innerB (h : Hd) (w : Int) : Bool := mayK h.kind && kindAt h.kind w == h.kind && (kindAt h.kind w == 5 || fullB (ownH h (kindAt h.kind w)) false)
mutual
/-- A node put right, within a kind, so deep, so many left (it itself is counted already). -/
def tdN : Nd → Int → Nat → Nat → List Nd × Nat
  | .mk h ks, w, d, n =>
    if innerB h w then
      (if fullB (ownH h (kindAt h.kind w)) (hasK (tdL ks (kindAt h.kind w) (d + 1) n).1) then [.mk (ownH h (kindAt h.kind w)) (tdL ks (kindAt h.kind w) (d + 1) n).1] else [], (tdL ks (kindAt h.kind w) (d + 1) n).2)
    else
      ((if fullB (ownH h (kindAt h.kind w)) false then [.mk (ownH h (kindAt h.kind w)) []] else []) ++ (if mayK h.kind then (tdL ks w d n).1 else []), if mayK h.kind then (tdL ks w d n).2 else n)
def tdL : List Nd → Int → Nat → Nat → List Nd × Nat
  | [], _, _, n => ([], n)
  | x :: l, w, d, n => if n = 0 ∨ 20 ≤ d then ([], n) else ((tdN x w d (n - 1)).1 ++ (tdL l w d (tdN x w d (n - 1)).2).1, (tdL l w d (tdN x w d (n - 1)).2).2)
end
def tidyL (l : List Nd) : List Nd := (tdL l 0 0 20000).1
/-- May a node stand there? -/
def rightH (h : Hd) (kids : Bool) (w : Int) : Bool :=
  stands h.kind w && fullB h kids && decide (0 ≤ h.line) && decide (h.line ≤ 1099511627775) && sqd h.text && decide (0 ≤ h.n) && decide (h.n ≤ 200) && (decide (h.n = 0) || h.kind == 4 || h.kind == 5) && (decide (h.text = []) || (decide (1 ≤ h.kind) && decide (h.kind ≤ 4))) && (!kids || mayK h.kind) &&
    (decide (h.rows = []) || h.kind == 6) && (if h.kind = 7 then rightT h.grid else isNone h.grid)
mutual
def rtN : Nd → Int → Bool
  | .mk h ks, w => rightH h (hasK ks) w && rtL ks h.kind
def rtL : List Nd → Int → Bool
  | [], _ => true
  | x :: l, w => rtN x w && rtL l w
end
def checkL (l : List Nd) : Int := if 20000 < cntL l ∨ 20 < dpL l then 3 else if rtL l 0 then 0 else 2
theorem tdL_nil (w : Int) (d n : Nat) : tdL [] w d n = ([], n) := by simp [tdL]
theorem tdL_cons (x : Nd) (l : List Nd) (w : Int) (d n : Nat) : tdL (x :: l) w d n = if n = 0 ∨ 20 ≤ d then ([], n) else ((tdN x w d (n - 1)).1 ++ (tdL l w d (tdN x w d (n - 1)).2).1, (tdL l w d (tdN x w d (n - 1)).2).2) := by
  conv => lhs; unfold tdL
theorem tdN_mk (h : Hd) (ks : List Nd) (w : Int) (d n : Nat) : tdN (.mk h ks) w d n = if innerB h w then
      (if fullB (ownH h (kindAt h.kind w)) (hasK (tdL ks (kindAt h.kind w) (d + 1) n).1) then [.mk (ownH h (kindAt h.kind w)) (tdL ks (kindAt h.kind w) (d + 1) n).1] else [], (tdL ks (kindAt h.kind w) (d + 1) n).2)
    else
      ((if fullB (ownH h (kindAt h.kind w)) false then [.mk (ownH h (kindAt h.kind w)) []] else []) ++ (if mayK h.kind then (tdL ks w d n).1 else []), if mayK h.kind then (tdL ks w d n).2 else n) := by
  conv => lhs; unfold tdN
mutual
/-- No more are left than there were. -/
theorem tdN_le : ∀ (x : Nd) (w : Int) (d n : Nat), (tdN x w d n).2 ≤ n
  | .mk h ks, w, d, n => by
    rw [tdN_mk]
    split
    · exact tdL_le ks _ _ _
    · simp only
      split
      · exact tdL_le ks _ _ _
      · exact Nat.le_refl _
theorem tdL_le : ∀ (l : List Nd) (w : Int) (d n : Nat), (tdL l w d n).2 ≤ n
  | [], w, d, n => by rw [tdL_nil]; exact Nat.le_refl _
  | x :: l, w, d, n => by
    rw [tdL_cons]
    split
    · exact Nat.le_refl _
    · simp only
      have h1 := tdN_le x w d (n - 1)
      have h2 := tdL_le l w d (tdN x w d (n - 1)).2
      omega
end
theorem rtL_app : ∀ (a b : List Nd) (w : Int), rtL (a ++ b) w = (rtL a w && rtL b w)
  | [], b, w => by simp [rtL]
  | x :: a, b, w => by simp only [List.cons_append, rtL, rtL_app a b, Bool.and_assoc]
theorem rt_next {l : List Nd} {p : Nat} {y : Nd} (hy : l[p]? = some y) (w : Int) : rtL (l.take (p + 1)) w = (rtL (l.take p) w && rtN y w) := by
  rw [List.take_add_one, hy, rtL_app]
  simp [rtL]
theorem rtN_eq (y : Nd) (w : Int) : rtN y w = (rightH y.hd (hasK y.kids) w && rtL y.kids y.hd.kind) := by
  obtain ⟨h, ks⟩ := y
  simp [rtN, Nd.hd, Nd.kids]
end Go.Proofs.YtpccjgoeoeehoaaDoor
namespace Go.Proofs.YtpccjgoeoeehoaaDoor
open Go.RowKit
theorem clip_ok {lo hi x : Int} (h : lo ≤ hi) : lo ≤ clipI lo hi x ∧ clipI lo hi x ≤ hi := by unfold clipI; omega
theorem kindAt_ways (k w : Int) : (kindAt k w = 3 ∧ (k = 1 ∨ k = 2) ∧ stands k w = false) ∨ (kindAt k w = k ∧ ((k = 1 ∨ k = 2) → stands k w = true)) := by
  unfold kindAt
  by_cases h : (k = 1 ∨ k = 2) ∧ stands k w = false
  · rw [if_pos h]
    exact .inl ⟨rfl, h⟩
  · rw [if_neg h]
    refine .inr ⟨rfl, fun hk => ?_⟩
    cases hs : stands k w with
    | true => rfl
    | false => exact absurd ⟨hk, hs⟩ h
theorem kindAt_stands {k w : Int} (h1 : 1 ≤ kindAt k w) (h7 : kindAt k w ≤ 7) : stands (kindAt k w) w = true := by
  rcases kindAt_ways k w with ⟨h, -⟩ | ⟨h, hs⟩
  · rw [h]; simp [stands]
  · rw [h] at h1 h7 ⊢
    by_cases hk : k = 1 ∨ k = 2
    · exact hs hk
    · simp [stands]
      omega
theorem full_kind {h : Hd} {b : Bool} (hf : fullB h b = true) : 1 ≤ h.kind ∧ h.kind ≤ 7 := by
  unfold fullB at hf
  split at hf
  · omega
  · split at hf
    · omega
    · split at hf
      · omega
      · simp only [Bool.or_eq_true, Bool.and_eq_true, beq_iff_eq] at hf
        omega
theorem right_own {h : Hd} {w : Int} {b : Bool} (hf : fullB (ownH h (kindAt h.kind w)) b = true) (hb : b = true → mayK (kindAt h.kind w) = true) : rightH (ownH h (kindAt h.kind w)) b w = true := by
  have hk := full_kind hf
  have e : (ownH h (kindAt h.kind w)).kind = kindAt h.kind w := rfl
  have hs := kindAt_stands hk.1 hk.2
  obtain ⟨k, hkk⟩ : ∃ k, kindAt h.kind w = k := ⟨_, rfl⟩
  rw [hkk] at hf hb hk hs e ⊢
  unfold rightH
  rw [hf, e, hs]
  have l1 := clip_ok (lo := 0) (hi := 1099511627775) (x := h.line) (by decide)
  have n1 := clip_ok (lo := 0) (hi := 200) (x := h.n) (by decide)
  have hsq : sqd (ownH h k).text = true := by
    unfold ownH
    simp only
    split
    · exact sqd_sqz _
    · exact sqd_nil
  have hn : 0 ≤ (ownH h k).n ∧ (ownH h k).n ≤ 200 ∧ ((ownH h k).n = 0 ∨ k = 4 ∨ k = 5) := by
    unfold ownH
    simp only
    split
    · rename_i h45
      exact ⟨n1.1, n1.2, .inr h45⟩
    · exact ⟨by decide, by decide, .inl rfl⟩
  have ht : (ownH h k).text = [] ∨ (1 ≤ k ∧ k ≤ 4) := by
    unfold ownH
    simp only
    split
    · rename_i h14; exact .inr h14
    · exact .inl rfl
  have hr : (ownH h k).rows = [] ∨ k = 6 := by
    unfold ownH
    simp only
    split
    · rename_i h6; exact .inr h6
    · exact .inl rfl
  have hg : (if k = 7 then rightT (ownH h k).grid else isNone (ownH h k).grid) = true := by
    unfold ownH
    simp only
    split
    · exact right_mend _
    · rfl
  rw [hsq, hg]
  have hl : 0 ≤ (ownH h k).line ∧ (ownH h k).line ≤ 1099511627775 := l1
  have hbb : (!b || mayK k) = true := by
    cases b
    · rfl
    · simpa using hb rfl
  rw [hbb]
  simp only [Bool.true_and, Bool.and_true, Bool.and_eq_true, Bool.or_eq_true, decide_eq_true_eq, beq_iff_eq]
  refine ⟨⟨⟨⟨⟨⟨hl.1, hl.2⟩, hn.1⟩, hn.2.1⟩, ?_⟩, ht⟩, hr⟩
  rcases hn.2.2 with q | q | q
  · exact .inl (.inl q)
  · exact .inl (.inr q)
  · exact .inr q
theorem inner_ways {h : Hd} {w : Int} (hi : innerB h w = true) : mayK h.kind = true ∧ kindAt h.kind w = h.kind ∧ (h.kind = 5 ∨ fullB (ownH h h.kind) false = true) := by
  unfold innerB at hi
  simp only [Bool.and_eq_true, Bool.or_eq_true, beq_iff_eq] at hi
  obtain ⟨⟨h1, h2⟩, h3⟩ := hi
  refine ⟨h1, h2, ?_⟩
  rw [h2] at h3
  exact h3
mutual
/-- What was put right is right. -/
theorem tdN_right : ∀ (x : Nd) (w : Int) (d n : Nat), rtL (tdN x w d n).1 w = true
  | .mk h ks, w, d, n => by
    rw [tdN_mk]
    split
    · rename_i hi
      obtain ⟨h1, h2, -⟩ := inner_ways hi
      have ih := tdL_right ks (kindAt h.kind w) (d + 1) n
      simp only
      split
      · rename_i hf
        simp only [rtL, rtN, Bool.and_true, Bool.and_eq_true]
        exact ⟨right_own hf (fun _ => by rw [h2]; exact h1), ih⟩
      · rfl
    · simp only
      rw [rtL_app, Bool.and_eq_true]
      constructor
      · split
        · rename_i hf
          simp only [rtL, rtN, Bool.and_true, Bool.and_eq_true]
          exact right_own hf (fun e => by cases e)
        · rfl
      · split
        · exact tdL_right ks w d n
        · rfl
theorem tdL_right : ∀ (l : List Nd) (w : Int) (d n : Nat), rtL (tdL l w d n).1 w = true
  | [], w, d, n => by rw [tdL_nil]; rfl
  | x :: l, w, d, n => by
    rw [tdL_cons]
    split
    · rfl
    · simp only
      rw [rtL_app, tdN_right x, tdL_right l]
      rfl
end
mutual
/-- How many are made. -/
theorem tdN_cnt : ∀ (x : Nd) (w : Int) (d n : Nat), cntL (tdN x w d n).1 + (tdN x w d n).2 ≤ n + 1
  | .mk h ks, w, d, n => by
    rw [tdN_mk]
    split
    · have ih := tdL_cnt ks (kindAt h.kind w) (d + 1) n
      simp only
      split
      · simp only [cntL, cntN]; omega
      · simp only [cntL]; omega
    · simp only
      rw [cntL_app]
      have h1 : cntL (if fullB (ownH h (kindAt h.kind w)) false = true then [Nd.mk (ownH h (kindAt h.kind w)) []] else []) ≤ 1 := by
        split <;> simp [cntL, cntN]
      by_cases hm : mayK h.kind = true
      · rw [if_pos hm, if_pos hm]
        have ih := tdL_cnt ks w d n
        omega
      · rw [if_neg hm, if_neg hm]
        simp only [cntL]; omega
theorem tdL_cnt : ∀ (l : List Nd) (w : Int) (d n : Nat), cntL (tdL l w d n).1 + (tdL l w d n).2 ≤ n
  | [], w, d, n => by rw [tdL_nil]; simp [cntL]
  | x :: l, w, d, n => by
    rw [tdL_cons]
    split
    · simp [cntL]
    · rename_i h
      simp only
      rw [cntL_app]
      have h1 := tdN_cnt x w d (n - 1)
      have h2 := tdL_cnt l w d (tdN x w d (n - 1)).2
      omega
end
mutual
/-- How deep it is. -/
theorem tdN_deep : ∀ (x : Nd) (w : Int) (d n : Nat), d < 20 → dpL (tdN x w d n).1 + d ≤ 20
  | .mk h ks, w, d, n, hd => by
    rw [tdN_mk]
    split
    · have i1 := tdL_deep ks (kindAt h.kind w) (d + 1) n (by omega)
      simp only
      split
      · simp only [dpL, dpN]; omega
      · simp only [dpL]; omega
    · simp only
      rw [dpL_app]
      have h1 : dpL (if fullB (ownH h (kindAt h.kind w)) false = true then [Nd.mk (ownH h (kindAt h.kind w)) []] else []) ≤ 1 := by
        split <;> simp [dpL, dpN]
      by_cases hm : mayK h.kind = true
      · rw [if_pos hm]
        have i1 := tdL_deep ks w d n (by omega)
        omega
      · rw [if_neg hm]
        simp only [dpL]; omega
theorem tdL_deep : ∀ (l : List Nd) (w : Int) (d n : Nat), d ≤ 20 → dpL (tdL l w d n).1 + d ≤ 20
  | [], w, d, n, hd => by rw [tdL_nil]; simp [dpL]; omega
  | x :: l, w, d, n, hd => by
    rw [tdL_cons]
    split
    · simp [dpL]; omega
    · rename_i h
      simp only
      rw [dpL_app]
      have h1 := tdN_deep x w d (n - 1) (by omega)
      have h2 := tdL_deep l w d (tdN x w d (n - 1)).2 (by omega)
      omega
end
theorem mayK_iff (k : Int) : mayK k = true ↔ k = 1 ∨ k = 2 ∨ k = 4 ∨ k = 5 := by
  unfold mayK
  simp only [Bool.or_eq_true, beq_iff_eq]
  omega
/-- A document put right is right. -/
theorem check_tidy (l : List Nd) : checkL (tidyL l) = 0 := by
  have h1 := tdL_cnt l 0 0 20000
  have h2 := tdL_deep l 0 0 20000 (by decide)
  unfold checkL tidyL
  rw [if_neg (by omega), if_pos (tdL_right l 0 0 20000)]
/-- All text. -/
def ink (l : List Gly) : List Gly := l.filter fun g => g.1 != 32
end Go.Proofs.YtpccjgoeoeehoaaDoor
namespace Go.Proofs.YtpccjgoeoeehoaaDoor
open Go.Shelf Go.RowKit Go.Lib
def mapRen : Go.Shelf.Ren := ⟨fun | 230 => 98 | 197 => 99 | 118 => 100 | 165 => 101 | 166 => 102 | 168 => 103 | 270 => 104 | 167 => 105 | 169 => 106 | 260 => 107 | 240 => 108 | 241 => 109 | 242 => 110 | 276 => 111 | 277 => 112 | 278 => 113 | n => n, fun | 107 => 117 | 9 => 9 | 72 => 122 | 0 => 0 | 4 => 4 | 3 => 3 | 21 => 21 | 105 => 123 | 76 => 128 | 5 => 5 | 75 => 127 | 70 => 119 | 20 => 20 | 37 => 120 | 127 => 134 | 119 => 135 | 46 => 136 | 139 => 139 | 138 => 138 | 164 => 140 | 51 => 143 | 80 => 132 | n => n, fun | 3 => 0 | 4 => 1 | n => n⟩
theorem mapLays : Go.Proofs.Lays.n230 Tryd.prog mapRen := {
  mixed := by kernel_rfl
  f118 := Tryd.func100.trans (congrArg some (by kernel_rfl))
  f165 := Tryd.func101.trans (congrArg some (by kernel_rfl))
  f166 := Tryd.func102.trans (congrArg some (by kernel_rfl))
  f167 := Tryd.func105.trans (congrArg some (by kernel_rfl))
  f168 := Tryd.func103.trans (congrArg some (by kernel_rfl))
  f169 := Tryd.func106.trans (congrArg some (by kernel_rfl))
  f197 := Tryd.func99.trans (congrArg some (by kernel_rfl))
  f230 := Tryd.func98.trans (congrArg some (by kernel_rfl))
  f240 := Tryd.func108.trans (congrArg some (by kernel_rfl))
  f241 := Tryd.func109.trans (congrArg some (by kernel_rfl))
  f242 := Tryd.func110.trans (congrArg some (by kernel_rfl))
  f260 := Tryd.func107.trans (congrArg some (by kernel_rfl))
  f270 := Tryd.func104.trans (congrArg some (by kernel_rfl))
  f276 := Tryd.func111.trans (congrArg some (by kernel_rfl))
  f277 := Tryd.func112.trans (congrArg some (by kernel_rfl))
  f278 := Tryd.func113.trans (congrArg some (by kernel_rfl))
  t0 := Tryd.underlying0
  a0 := Tryd.isAgg0
  z0 := Tryd.sizeOf0
  v0 := Tryd.zeroValue0
  t3 := Tryd.underlying3
  a3 := Tryd.isAgg3
  z3 := Tryd.sizeOf3
  v3 := Tryd.zeroValue3
  t4 := Tryd.underlying4
  a4 := Tryd.isAgg4
  z4 := Tryd.sizeOf4
  v4 := Tryd.zeroValue4
  t5 := Tryd.underlying5
  a5 := Tryd.isAgg5
  z5 := Tryd.sizeOf5
  v5 := Tryd.zeroValue5
  t9 := Tryd.underlying9
  a9 := Tryd.isAgg9
  z9 := Tryd.sizeOf9
  v9 := Tryd.zeroValue9
  t20 := Tryd.underlying20
  a20 := Tryd.isAgg20
  z20 := Tryd.sizeOf20
  v20 := Tryd.zeroValue20
  t21 := Tryd.underlying21
  a21 := Tryd.isAgg21
  z21 := Tryd.sizeOf21
  v21 := Tryd.zeroValue21
  t37 := Tryd.underlying120
  a37 := Tryd.isAgg120
  z37 := Tryd.sizeOf120
  v37 := Tryd.zeroValue120
  t46 := Tryd.underlying136
  a46 := Tryd.isAgg136
  z46 := Tryd.sizeOf136
  v46 := Tryd.zeroValue136
  t51 := Tryd.underlying143
  a51 := Tryd.isAgg143
  z51 := Tryd.sizeOf143
  v51 := Tryd.zeroValue143
  t70 := Tryd.underlying119
  a70 := Tryd.isAgg119
  z70 := Tryd.sizeOf119
  v70 := Tryd.zeroValue119
  t72 := Tryd.underlying122
  a72 := Tryd.isAgg122
  z72 := Tryd.sizeOf122
  v72 := Tryd.zeroValue122
  t75 := Tryd.underlying127
  a75 := Tryd.isAgg127
  z75 := Tryd.sizeOf127
  v75 := Tryd.zeroValue127
  t76 := Tryd.underlying128
  a76 := Tryd.isAgg128
  z76 := Tryd.sizeOf128
  v76 := Tryd.zeroValue128
  t105 := Tryd.underlying123
  a105 := Tryd.isAgg123
  z105 := Tryd.sizeOf123
  v105 := Tryd.zeroValue123
  t107 := Tryd.underlying117
  a107 := Tryd.isAgg117
  z107 := Tryd.sizeOf117
  v107 := Tryd.zeroValue117
  t119 := Tryd.underlying135
  a119 := Tryd.isAgg135
  z119 := Tryd.sizeOf135
  t127 := Tryd.underlying134
  a127 := Tryd.isAgg134
  z127 := Tryd.sizeOf134
  v127 := Tryd.zeroValue134
  t138 := Tryd.underlying138
  a138 := Tryd.isAgg138
  z138 := Tryd.sizeOf138
  v138 := Tryd.zeroValue138
  t139 := Tryd.underlying139
  a139 := Tryd.isAgg139
  z139 := Tryd.sizeOf139
  v139 := Tryd.zeroValue139
  t164 := Tryd.underlying140
  a164 := Tryd.isAgg140
  z164 := Tryd.sizeOf140
  v164 := Tryd.zeroValue140
  g3 := by kernel_rfl
  g4 := by kernel_rfl }
theorem mapExtra : Builder.Extra Tryd.prog mapRen := {
  sizeBuilder := by kernel_rfl
  liesBuilder := by kernel_rfl
  t5 := Tryd.underlying5
  a5 := Tryd.isAgg5
  z5 := Tryd.sizeOf5
  v5 := Tryd.zeroValue5
  infoByte := by kernel_rfl
  cellsByte := by kernel_rfl
  sizeByte := by kernel_rfl
  neB5 := by decide }
/-- The tables of unicode/utf8 lie as they were laid. -/
def U8 (w : World) : Prop := Lib.Utf8Tabs 0 1 w
theorem U8.below {w w' : World} (h : U8 w) (hb : Below w.heap.size w w') : U8 w' := Utf8Tabs_below h hb
theorem smap_any (g : Nat) (lb : Array Value) (eg : ∀ args w, (callFunc g args).run Tryd.prog w = .ok (.enter g args) w) (f : Int → Int) (s : ByteArray) (w : World) (hs : s.size < 35184372088832) (hf : MapGrows Tryd.prog g lb f w) (hnn : ∀ x : Nat, x ≤ 1114111 → -2147483648 ≤ f x ∧ f x ≤ 2147483647) (hT : U8 w) :
    Calls Tryd.prog 98 #[.func (.func g) #[] lb, .string s] w fun e w' => e = .returned (.string ⟨(Lib.mapD f s.data.toList).toArray⟩) ∧ Below w.heap.size w w' := Any.strings_Map_grows mapLays mapExtra g lb eg f s w hs hf hnn hT
end Go.Proofs.YtpccjgoeoeehoaaDoor
namespace Go.Proofs.YtpccjgoeoeehoaaDoor
open Go.RowKit
theorem Kp.drewN (S : Nat → Prop) (w : World) (m : Nat) : Kp S w (w.drewN m) := fun b _ => (below_drewN (Below.refl (b + 1) w) m).block b (by omega)
theorem NsS.drewN {S : Nat → Prop} {w : World} {v : Value} {l : List Nd} (h : NsS S w v l) (m : Nat) : NsS S (w.drewN m) v l := h.keep (Kp.drewN S w m)
def RdN (x : Value) (w : World) (e : Ending) (w' : World) : Prop := e = .returned x ∧ ∃ m, w' = w.drewN m
set_option maxRecDepth 100000 in
set_option maxHeartbeats 2000000 in
theorem rcount_any (S : Nat → Prop) : ∀ (n : Nat) (l : List Nd), cntL l = n → n ≤ 1000000000 → ∀ (v : Value) (w : World), NsS S w v l → Calls Tryd.prog 49 #[v] w (RdN (.int .i64 (cntL l : Int)) w) := by
  intro n
  induction n using Nat.strongRecOn with
  | _ n IH =>
    intro l hn hb v w hv
    have HV := Lib.hid hv
    obtain ⟨aa, ca, rfl⟩ := hv.len
    have HI : Hid (∀ (k : List Nd), cntL k < n → ∀ (v : Value) (w : World), NsS S w v k → Calls Tryd.prog 49 #[v] w (RdN (.int .i64 (cntL k : Int)) w)) := Lib.hid (fun k hk => IH (cntL k) hk k rfl (by omega))
    have HT := Lib.hid (fun p => cnt_take l p)
    have hll := cnt_len l
    clear hv IH
    unfold RdN
    go_enter Tryd.func49, Tryd.ntmps49
    go_wp2_with fail
    go_loopw [3, 4] (fun s i wr => ∃ (p m : Nat), Hid (wr = w.drewN m) ∧ i = .int .i64 (p : Int) ∧ p ≤ l.length ∧ s = .int .i64 (cntL (l.take p) : Int)) (fun _ i _ => l.length - (intOf i).toNat)
    case atStart => exact ⟨0, 0, Lib.hid rfl, rfl, by omega, by simp [cntL]⟩
    case round =>
      obtain ⟨p, m, HW, rfl, hp, rfl⟩ := hrel
      by_cases hlt : p < l.length
      · obtain ⟨y, hy⟩ : ∃ y, l[p]? = some y := ⟨l[p], List.getElem?_eq_getElem hlt⟩
        have HN := Lib.hid (cnt_next hy)
        have hle := cnt_le hy
        have hlt' : (p : Int) < (l.length : Int) := by omega
        have hp0 : (0 : Int) ≤ (p : Int) := by omega
        obtain ⟨g, off, text, kids, rows, trows, rfl, hA⟩ := (HV.out.drewN m).at hy
        rw [← HW.out] at hA
        have c4 := hA.c4
        obtain ⟨c, hc⟩ : ∃ c, cntL (l.take p) = c := ⟨_, rfl⟩
        rw [hc] at hle HN
        obtain ⟨k, hk⟩ : ∃ k, cntL y.kids = k := ⟨_, rfl⟩
        have hR := HI.out y.kids (by omega) _ _ hA.kids
        rw [hk] at hle HN hR
        unfold RdN at hR
        have HR := Lib.hid hR
        have w1 : IntKind.i64.wrap ((c : Int) + 1) = (c : Int) + 1 := IntWalk.i64_in _ (by omega)
        have w2 : IntKind.i64.wrap ((c : Int) + 1 + (k : Int)) = (c : Int) + 1 + (k : Int) := IntWalk.i64_in _ (by omega)
        clear hA hR hy hk
        rw [hc]
        clear hc
        go_wp2_with fail
        refine HR.out.mono ?_
        rintro e w3 ⟨rfl, m3, hw3⟩
        have HW3 : Hid (w3 = w.drewN (m + m3)) := Lib.hid (by rw [hw3, HW.out, World.drewN_drewN])
        clear hw3 HR
        go_wp2_with fail
        go_roundw
        case rel => exact ⟨p + 1, m + m3, HW3, by go_num, by omega, by rw [HN.out]; first | rfl | (congr 1; omega)⟩
        case measure => (simp [intOf]; try omega)
      · obtain rfl : p = l.length := by omega
        have hlt' : ¬ (l.length : Int) < (l.length : Int) := by omega
        rw [List.take_length]
        go_wp2_with fail
        go_ret
        exact ⟨rfl, m, HW.out⟩
/-- 'max' of two numbers, kept whole. -/
noncomputable def mxS (args : Array Value) : Sem Next := do pure (.value (← Builtin.max_ #[3, 3] 3 args))
theorem builtin_mxS (cs : Array Bool) (args : Array Value) : builtin .max #[3, 3] 3 cs args = mxS args := rfl
theorem mxS_run (x y z : Int) (hz : (if y > x then y else x) = z) (w : World) : (mxS #[.int .i64 x, .int .i64 y]).run Tryd.prog w = .ok (.value (.int .i64 z)) w := by
  unfold mxS
  simp only [Sem.run_bind, Sem.run_pure, run_max_int2, Result.andThen_ok, hz]
attribute [local go_sem ↓ high] builtin_mxS
set_option maxRecDepth 100000 in
set_option maxHeartbeats 2000000 in
theorem rdeep_any (S : Nat → Prop) : ∀ (n : Nat) (l : List Nd), cntL l = n → n ≤ 1000000000 → ∀ (v : Value) (w : World), NsS S w v l → Calls Tryd.prog 50 #[v] w (RdN (.int .i64 (dpL l : Int)) w) := by
  intro n
  induction n using Nat.strongRecOn with
  | _ n IH =>
    intro l hn hb v w hv
    have HV := Lib.hid hv
    obtain ⟨aa, ca, rfl⟩ := hv.len
    have HI : Hid (∀ (k : List Nd), cntL k < n → ∀ (v : Value) (w : World), NsS S w v k → Calls Tryd.prog 50 #[v] w (RdN (.int .i64 (dpL k : Int)) w)) := Lib.hid (fun k hk => IH (cntL k) hk k rfl (by omega))
    have hll := cnt_len l
    clear hv IH
    unfold RdN
    go_enter Tryd.func50, Tryd.ntmps50
    go_wp2_with fail
    go_loopw [3, 4] (fun s i wr => ∃ (p m : Nat), Hid (wr = w.drewN m) ∧ i = .int .i64 (p : Int) ∧ p ≤ l.length ∧ s = .int .i64 (dpL (l.take p) : Int)) (fun _ i _ => l.length - (intOf i).toNat)
    case atStart => exact ⟨0, 0, Lib.hid rfl, rfl, by omega, by simp [dpL]⟩
    case round =>
      obtain ⟨p, m, HW, rfl, hp, rfl⟩ := hrel
      by_cases hlt : p < l.length
      · obtain ⟨y, hy⟩ : ∃ y, l[p]? = some y := ⟨l[p], List.getElem?_eq_getElem hlt⟩
        have HN := Lib.hid (dp_next hy)
        have hle := cnt_le hy
        have hd1 := dp_take l p
        have hd2 := dp_le hy
        have hd3 := dp_cntL l
        have hlt' : (p : Int) < (l.length : Int) := by omega
        have hp0 : (0 : Int) ≤ (p : Int) := by omega
        obtain ⟨g, off, text, kids, rows, trows, rfl, hA⟩ := (HV.out.drewN m).at hy
        rw [← HW.out] at hA
        have c4 := hA.c4
        obtain ⟨c, hc⟩ : ∃ c, dpL (l.take p) = c := ⟨_, rfl⟩
        rw [hc] at hd1 HN
        obtain ⟨k, hk⟩ : ∃ k, dpL y.kids = k := ⟨_, rfl⟩
        have hR := HI.out y.kids (by omega) _ _ hA.kids
        rw [hk] at hd2 HN hR
        unfold RdN at hR
        have HR := Lib.hid hR
        have w2 : IntKind.i64.wrap (1 + (k : Int)) = 1 + (k : Int) := IntWalk.i64_in _ (by omega)
        have mm := mxS_run (c : Int) (1 + (k : Int)) ((max c (1 + k) : Nat) : Int) (by split <;> omega)
        clear hA hR hy hk
        rw [hc]
        clear hc
        go_wp2_with fail
        refine HR.out.mono ?_
        rintro e w3 ⟨rfl, m3, hw3⟩
        have HW3 : Hid (w3 = w.drewN (m + m3)) := Lib.hid (by rw [hw3, HW.out, World.drewN_drewN])
        clear hw3 HR
        go_wp2_with fail
        go_roundw
        case rel => exact ⟨p + 1, m + m3, HW3, by go_num, by omega, by rw [HN.out]⟩
        case measure => (simp [intOf]; try omega)
      · obtain rfl : p = l.length := by omega
        have hlt' : ¬ (l.length : Int) < (l.length : Int) := by omega
        rw [List.take_length]
        go_wp2_with fail
        go_ret
        exact ⟨rfl, m, HW.out⟩
end Go.Proofs.YtpccjgoeoeehoaaDoor
namespace Go.Proofs.YtpccjgoeoeehoaaDoor
open Go.RowKit
theorem bsz (b : List UInt8) : (⟨b.toArray⟩ : ByteArray).size = b.length := by simp [Go.Lib.size_eq]
theorem NAt.keep {S : Nat → Prop} {w w' : World} {g o : Nat} {y : Nd} {text kids rows trows : PV} (h : NAt S w g o y text kids rows trows) (hk : Kp S w w') : NAt S w' g o y text kids rows trows :=
  have e : w'.heap[g]? = w.heap[g]? := hk g h.blk
  ⟨(World.cell?_of_block e).trans h.c0, (World.cell?_of_block e).trans h.c1, (World.cell?_of_block e).trans h.c2, (World.cell?_of_block e).trans h.c3, (World.cell?_of_block e).trans h.c4, (World.cell?_of_block e).trans h.c5, (World.cell?_of_block e).trans h.c6, (World.cell?_of_block e).trans h.c7, (World.cell?_of_block e).trans h.c8, (World.cell?_of_block e).trans h.c9,
   h.blk, h.text.keep hk, h.kids.keep hk, h.rows.keep hk, h.trows.keep hk⟩
set_option maxRecDepth 100000 in
set_option maxHeartbeats 4000000 in
theorem rlong_any (S : Nat → Prop) : ∀ (n : Nat) (l : List Nd), cntL l = n → nlL l ≤ 1000000000 → ∀ (v : Value) (w : World), NsS S w v l → Calls Tryd.prog 19 #[v] w (RdN (.int .i64 (nlL l : Int)) w) := by
  intro n
  induction n using Nat.strongRecOn with
  | _ n IH =>
    intro l hn hb v w hv
    have HV := Lib.hid hv
    obtain ⟨aa, ca, rfl⟩ := hv.len
    have HI : Hid (∀ (k : List Nd), cntL k < n → nlL k ≤ 1000000000 → ∀ (v : Value) (w : World), NsS S w v k → Calls Tryd.prog 19 #[v] w (RdN (.int .i64 (nlL k : Int)) w)) := Lib.hid (fun k hk hb => IH (cntL k) hk k rfl hb)
    have hll := cnt_len l
    have hnl := cnt_nlL l
    clear hv IH
    unfold RdN
    go_enter Tryd.func19, Tryd.ntmps19
    go_wp2_with fail
    go_loopw [3, 4] (fun s i wr => ∃ (p m : Nat), Hid (wr = w.drewN m) ∧ i = .int .i64 (p : Int) ∧ p ≤ l.length ∧ s = .int .i64 (nlL (l.take p) : Int)) (fun _ i _ => l.length - (intOf i).toNat)
    case atStart => exact ⟨0, 0, Lib.hid rfl, rfl, by omega, by simp [nlL]⟩
    case round =>
      obtain ⟨p, m, HW, rfl, hp, rfl⟩ := hrel
      by_cases hlt : p < l.length
      · obtain ⟨y, hy⟩ : ∃ y, l[p]? = some y := ⟨l[p], List.getElem?_eq_getElem hlt⟩
        have HN := Lib.hid (nl_next hy)
        have hle := nl_le hy
        have hcl := cnt_le hy
        have hlt' : (p : Int) < (l.length : Int) := by omega
        have hp0 : (0 : Int) ≤ (p : Int) := by omega
        obtain ⟨g, off, text, kids, rows, trows, rfl, hA⟩ := HV.out.at hy
        have HA0 := Lib.hid hA
        have HA : Hid (∀ m, NAt S (w.drewN m) g (off + p * 10) y text kids rows trows) := Lib.hid (fun m => hA.keep (Kp.drewN S w m))
        have hA1 : NAt S wr g (off + p * 10) y text kids rows trows := HW.out ▸ HA.out m
        have c3 := hA1.c3
        have c4 := hA1.c4
        have c6 := hA1.c6
        have hcs := bsz y.hd.grid.cols
        have hdd : hdl y.hd = 3 + y.hd.text.length + y.hd.grid.cols.length + (y.hd.rows.length + lens y.hd.rows) + trls y.hd.grid.rows := rfl
        obtain ⟨c, hc⟩ : ∃ c, nlL (l.take p) = c := ⟨_, rfl⟩
        rw [hc] at hle HN
        obtain ⟨k, hk⟩ : ∃ k, nlL y.kids = k := ⟨_, rfl⟩
        have HR : Hid (∀ q, Calls Tryd.prog 19 #[.slice kids.1 y.kids.length kids.2.2] (wr.drewN q) fun e w' => e = .returned (.int .i64 (k : Int)) ∧ ∃ m, w' = (wr.drewN q).drewN m) := Lib.hid (fun q => by
          have h := HI.out y.kids (by omega) (by omega) _ _ (hA1.kids.drewN q)
          rw [hk] at h
          exact h)
        rw [hk, hdd] at hle
        have HH := Lib.hid hdd
        obtain ⟨b0, hb0⟩ : ∃ b, c + 3 + y.hd.text.length + y.hd.grid.cols.length + k = b := ⟨_, rfl⟩
        have w0 : IntKind.i64.wrap ((c : Int) + 3) = (c : Int) + 3 := IntWalk.i64_in _ (by omega)
        have w1 : IntKind.i64.wrap ((c : Int) + 3 + (y.hd.text.length : Int)) = (c : Int) + 3 + (y.hd.text.length : Int) := IntWalk.i64_in _ (by omega)
        have w2 : IntKind.i64.wrap ((c : Int) + 3 + (y.hd.text.length : Int) + (y.hd.grid.cols.length : Int)) = (c : Int) + 3 + (y.hd.text.length : Int) + (y.hd.grid.cols.length : Int) := IntWalk.i64_in _ (by omega)
        have w3 : IntKind.i64.wrap ((c : Int) + 3 + (y.hd.text.length : Int) + (y.hd.grid.cols.length : Int) + (k : Int)) = (b0 : Int) := by
          rw [IntWalk.i64_in _ (by omega)]; omega
        clear hA hA1 hy hdd
        rw [hc]
        clear hc
        go_wp2_with fail
        go_quiet (first | (go_at_call 19; exact Calls.quiet_of (HR.out _)))
        generalize hwd : World.drewN wr _ = wd
        obtain ⟨m1, HW1⟩ : ∃ m1, Hid (wd = w.drewN m1) := ⟨_, Lib.hid (by rw [← hwd, HW.out, World.drewN_drewN])⟩
        clear hwd c3 c4 c6 w0 w1 w2 w3 HR hcs
        go_wp2_with fail
        go_loopw [3, 5] (fun s i wr => ∃ (q m : Nat), Hid (wr = w.drewN m) ∧ i = .int .i64 (q : Int) ∧ q ≤ y.hd.rows.length ∧ s = .int .i64 ((b0 + (q + lens (y.hd.rows.take q)) : Nat) : Int)) (fun _ i _ => y.hd.rows.length - (intOf i).toNat)
        case atStart => exact ⟨0, m1, HW1, rfl, by omega, by simp [lens]⟩
        case round =>
          obtain ⟨q, m2, HW2, rfl, hq, rfl⟩ := hrel
          have hA2 : NAt S wr g (off + p * 10) y text kids rows trows := HW2.out ▸ HA.out m2
          have c5 := hA2.c5
          have hli := lens_take y.hd.rows q
          by_cases hql : q < y.hd.rows.length
          · obtain ⟨r, hr⟩ : ∃ r, y.hd.rows[q]? = some r := ⟨y.hd.rows[q], List.getElem?_eq_getElem hql⟩
            have HLN := Lib.hid (lens_next hr)
            have hl2 := lens_le hr
            obtain ⟨g1, o1, b1, z1, he1, -, d0, -⟩ := hA2.rows.at hr
            rw [he1] at c5
            have hql' : (q : Int) < (y.hd.rows.length : Int) := by omega
            have hq0 : (0 : Int) ≤ (q : Int) := by omega
            obtain ⟨L, hL⟩ : ∃ L, b0 + (q + lens (y.hd.rows.take q)) = L := ⟨_, rfl⟩
            have HL := Lib.hid hL
            have w1 : IntKind.i64.wrap ((L : Int) + 1) = (L : Int) + 1 := IntWalk.i64_in _ (by omega)
            have w2 : IntKind.i64.wrap ((L : Int) + 1 + (r.length : Int)) = (L : Int) + 1 + (r.length : Int) := IntWalk.i64_in _ (by omega)
            clear hr he1 hA2
            rw [hL]
            clear hL
            go_wp2_with fail
            go_roundw
            case rel => exact ⟨q + 1, m2, HW2, by go_num, by omega, by rw [HLN.out]; have := HL.out; congr 1; omega⟩
            case measure => (simp [intOf]; try omega)
          · obtain rfl : q = y.hd.rows.length := by omega
            have hql' : ¬ (y.hd.rows.length : Int) < (y.hd.rows.length : Int) := by omega
            rw [List.take_length]
            obtain ⟨b1, hb1⟩ : ∃ b, b0 + (y.hd.rows.length + lens y.hd.rows) = b := ⟨_, rfl⟩
            rw [hb1]
            clear hA2 hli
            go_wp2_with fail
            go_loopw [3, 6] (fun s i wr => ∃ (q m : Nat), Hid (wr = w.drewN m) ∧ i = .int .i64 (q : Int) ∧ q ≤ y.hd.grid.rows.length ∧ s = .int .i64 ((b1 + trls (y.hd.grid.rows.take q) : Nat) : Int)) (fun _ i _ => y.hd.grid.rows.length - (intOf i).toNat)
            case atStart => exact ⟨0, m2, HW2, rfl, by omega, by simp [trls]⟩
            case round =>
              obtain ⟨q, m3, HW3, rfl, hq, rfl⟩ := hrel
              have hA3 : NAt S wr g (off + p * 10) y text kids rows trows := HW3.out ▸ HA.out m3
              have c7 := hA3.c7
              have hli := trls_take y.hd.grid.rows q
              have htn := trls_len y.hd.grid.rows
              by_cases hql : q < y.hd.grid.rows.length
              · obtain ⟨t, ht⟩ : ∃ t, y.hd.grid.rows[q]? = some t := ⟨y.hd.grid.rows[q], List.getElem?_eq_getElem hql⟩
                have HLN := Lib.hid (trls_next ht)
                have hl2 := trls_le ht
                obtain ⟨g1, o1, bb, z1, he1, -, d0, d1, hG⟩ := HA0.out.trows.at ht
                replace d1 : wr.cell? ⟨g1, o1 + q * 2 + 1, none⟩ = some (.slice bb t.2.length z1) := by
                  rw [HW3.out]
                  exact ((below_drewN (Below.refl (g1 + 1) w) m3).cell (p := ⟨g1, o1 + q * 2 + 1, none⟩) (by show g1 < g1 + 1; omega)).trans d1
                have HG : Hid (∀ m, GrS S (w.drewN m) (.slice bb t.2.length z1) t.2) := Lib.hid (fun m => hG.keep (Kp.drewN S w m))
                rw [he1] at c7
                have hql' : (q : Int) < (y.hd.grid.rows.length : Int) := by omega
                have hq0 : (0 : Int) ≤ (q : Int) := by omega
                have htl : trl t = 1 + t.2.length + lens t.2 := rfl
                have HTL := Lib.hid htl
                rw [htl] at hl2
                obtain ⟨L, hL⟩ : ∃ L, b1 + trls (y.hd.grid.rows.take q) = L := ⟨_, rfl⟩
                have HL := Lib.hid hL
                have w1 : IntKind.i64.wrap ((L : Int) + 1) = (L : Int) + 1 := IntWalk.i64_in _ (by omega)
                have w2 : IntKind.i64.wrap ((L : Int) + 1 + (t.2.length : Int)) = ((L + 1 + t.2.length : Nat) : Int) := by rw [IntWalk.i64_in _ (by omega)]; omega
                clear ht he1 hA3 hG d0 htl
                rw [hL]
                obtain ⟨L2, hL2⟩ : ∃ L2, L + 1 + t.2.length = L2 := ⟨_, rfl⟩
                rw [hL2] at w2
                have HL2 := Lib.hid hL2
                go_wp2_with fail
                clear w1 w2
                go_loopw [3, 8] (fun s i wr => ∃ (r m : Nat), Hid (wr = w.drewN m) ∧ i = .int .i64 (r : Int) ∧ r ≤ t.2.length ∧ s = .int .i64 ((L2 + lens (t.2.take r) : Nat) : Int)) (fun _ i _ => t.2.length - (intOf i).toNat)
                case atStart => exact ⟨0, m3, HW3, rfl, by omega, by simp [lens]⟩
                case round =>
                  obtain ⟨r, m4, HW4, rfl, hr4, rfl⟩ := hrel
                  have hG4 : GrS S wr (.slice bb t.2.length z1) t.2 := HW4.out ▸ HG.out m4
                  have hli4 := lens_take t.2 r
                  by_cases hrl : r < t.2.length
                  · obtain ⟨x, hx⟩ : ∃ x, t.2[r]? = some x := ⟨t.2[r], List.getElem?_eq_getElem hrl⟩
                    have HLN4 := Lib.hid (lens_next hx)
                    have hl4 := lens_le hx
                    obtain ⟨g4, o4, b4, z4, he4, -, e0, -⟩ := hG4.at hx
                    subst he4
                    have hrl' : (r : Int) < (t.2.length : Int) := by omega
                    have hr0 : (0 : Int) ≤ (r : Int) := by omega
                    obtain ⟨L3, hL3⟩ : ∃ L3, L2 + lens (t.2.take r) = L3 := ⟨_, rfl⟩
                    have HL3 := Lib.hid hL3
                    have w2 : IntKind.i64.wrap ((L3 : Int) + (x.length : Int)) = (L3 : Int) + (x.length : Int) := IntWalk.i64_in _ (by omega)
                    clear hx hG4
                    rw [hL3]
                    clear hL3
                    go_wp2_with fail
                    go_roundw
                    case rel => exact ⟨r + 1, m4, HW4, by go_num, by omega, by rw [HLN4.out]; have := HL3.out; congr 1; omega⟩
                    case measure => (simp [intOf]; try omega)
                  · obtain rfl : r = t.2.length := by omega
                    have hrl' : ¬ (t.2.length : Int) < (t.2.length : Int) := by omega
                    rw [List.take_length]
                    go_wp2_with fail
                    go_roundw
                    case rel => exact ⟨q + 1, m4, HW4, by go_num, by omega, by rw [HLN.out, HTL.out]; have := HL.out; have := HL2.out; congr 1; omega⟩
                    case measure => (simp [intOf]; try omega)
              · obtain rfl : q = y.hd.grid.rows.length := by omega
                have hql' : ¬ (y.hd.grid.rows.length : Int) < (y.hd.grid.rows.length : Int) := by omega
                rw [List.take_length]
                clear hA3
                go_wp2_with fail
                go_roundw
                case rel => exact ⟨p + 1, m3, HW3, by go_num, by omega, by rw [HN.out, HH.out, hk]; congr 1; omega⟩
                case measure => (simp [intOf]; try omega)
      · obtain rfl : p = l.length := by omega
        have hlt' : ¬ (l.length : Int) < (l.length : Int) := by omega
        rw [List.take_length]
        go_wp2_with fail
        go_ret
        exact ⟨rfl, m, HW.out⟩
end Go.Proofs.YtpccjgoeoeehoaaDoor
namespace Go.Proofs.YtpccjgoeoeehoaaDoor
open Go.RowKit
theorem Gs.drewN {w : World} {v : Value} {l : List Gly} (h : Gs w v l) (m : Nat) : Gs (w.drewN m) v l := Fs.below h (below_drewN (Below.refl _ _) m)
theorem GrS.drewN {S : Nat → Prop} {w : World} {v : Value} {l : List (List Gly)} (h : GrS S w v l) (m : Nat) : GrS S (w.drewN m) v l := h.keep (Kp.drewN S w m)
theorem TrS.drewN {S : Nat → Prop} {w : World} {v : Value} {l : List Trow} (h : TrS S w v l) (m : Nat) : TrS S (w.drewN m) v l := h.keep (Kp.drewN S w m)
def QtN (b : Bool) (w : World) (e : Ending) (w' : World) : Prop := e = .returned (.bool b) ∧ ∃ m, w' = w.drewN m
set_option maxRecDepth 100000 in
set_option maxHeartbeats 1000000 in
theorem rsameq_any (a b : List Gly) (v u : Value) (w : World) (hv : Gs w v a) (hu : Gs w u b) (hl : a.length ≤ 1000000000) (hl' : b.length ≤ 1000000000) :
    Calls Tryd.prog 25 #[v, u] w (QtN (decide (a = b)) w) := by
  have HV := Lib.hid hv
  have HU := Lib.hid hu
  obtain ⟨aa, ca, rfl, -, -⟩ := hv
  obtain ⟨ab, cb, rfl, -, -⟩ := hu
  unfold QtN
  by_cases hlen : a.length = b.length
  · have HLen := Lib.hid hlen
    have hne : ((a.length : Int) != (b.length : Int)) = false := by simp [hlen]
    clear hlen
    go_enter Tryd.func25, Tryd.ntmps25
    go_wp2_with fail
    go_loopw [5] (fun i wr => ∃ j m : Nat, j ≤ a.length ∧ i = .int .i64 j ∧ Hid (a.take j = b.take j) ∧ Hid (wr = w.drewN m)) (fun i _ => a.length - (intOf i).toNat)
    case atStart => exact ⟨0, 0, by omega, rfl, Lib.hid rfl, Lib.hid rfl⟩
    case round =>
      obtain ⟨j, m, hj, rfl, HS, HW⟩ := hrel
      by_cases hlt : j < a.length
      · obtain ⟨x, hx⟩ : ∃ x, a[j]? = some x := ⟨a[j], List.getElem?_eq_getElem hlt⟩
        obtain ⟨y, hy⟩ : ∃ y, b[j]? = some y := ⟨b[j]'(by have := HLen.out; omega), List.getElem?_eq_getElem _⟩
        obtain ⟨g, off, rfl, c0, c1, -⟩ := Gs.at (Gs.drewN HV.out m) hx
        obtain ⟨g', off', rfl, c0', c1', -⟩ := Gs.at (Gs.drewN HU.out m) hy
        rw [← HW.out] at c0 c1 c0' c1'
        have hi0 : (j : Int) < (a.length : Int) := by omega
        have hi2 : (j : Int) < (b.length : Int) := by have := HLen.out; omega
        have hi1 : (0 : Int) ≤ (j : Int) := by omega
        by_cases hxy : x = y
        · subst hxy
          have HT := Lib.hid (take_same HS.out hx hy)
          have hq := neqG_same
          clear hx hy
          go_wp2_with fail
          go_quiet (fail)
          go_wp2
          go_roundw
          case rel => exact ⟨j + 1, _, by omega, by go_num, HT, Lib.hid (by rw [HW.out, World.drewN_drewN])⟩
          case measure => simp [intOf]; omega
        · have HT := Lib.hid (decide_eq_false (not_same hx hy hxy))
          have hq := neqG_other hxy
          clear hx hy hxy
          go_wp2_with fail
          go_quiet (fail)
          go_wp2
          go_ret
          exact ⟨ret_bool HT.out.symm, _, by rw [HW.out, World.drewN_drewN]⟩
      · obtain rfl : j = a.length := by omega
        have hs : a = b := by
          have h := HS.out
          rw [List.take_length, HLen.out, List.take_length] at h
          exact h
        have HT := Lib.hid (decide_eq_true hs)
        clear hs
        go_wp2_with fail
        go_ret
        exact ⟨ret_bool HT.out.symm, m, HW.out⟩
  · have hne : ((a.length : Int) != (b.length : Int)) = true := by simp; omega
    have HT := Lib.hid (decide_eq_false (show ¬ a = b from fun h => hlen (by rw [h])))
    clear hlen
    go_enter Tryd.func25, Tryd.ntmps25
    go_wp2_with fail
    go_ret
    exact ⟨ret_bool HT.out.symm, 0, rfl⟩
set_option maxRecDepth 100000 in
set_option maxHeartbeats 2000000 in
theorem rsamerows_any (S T : Nat → Prop) (a b : List (List Gly)) (v u : Value) (w : World) (hv : GrS S w v a) (hu : GrS T w u b) (hl : a.length + lens a ≤ 1000000000) (hl' : b.length + lens b ≤ 1000000000) :
    Calls Tryd.prog 56 #[v, u] w (QtN (decide (a = b)) w) := by
  have HV := Lib.hid hv
  have HU := Lib.hid hu
  obtain ⟨aa, ca, rfl⟩ := hv.len
  obtain ⟨ab, cb, rfl⟩ := hu.len
  clear hv hu
  unfold QtN
  by_cases hlen : a.length = b.length
  · have HLen := Lib.hid hlen
    have hne : ((a.length : Int) != (b.length : Int)) = false := by simp [hlen]
    clear hlen
    go_enter Tryd.func56, Tryd.ntmps56
    go_wp2_with fail
    go_loopw [5] (fun i wr => ∃ j m : Nat, j ≤ a.length ∧ i = .int .i64 j ∧ Hid (a.take j = b.take j) ∧ Hid (wr = w.drewN m)) (fun i _ => a.length - (intOf i).toNat)
    case atStart => exact ⟨0, 0, by omega, rfl, Lib.hid rfl, Lib.hid rfl⟩
    case round =>
      obtain ⟨j, m, hj, rfl, HS, HW⟩ := hrel
      by_cases hlt : j < a.length
      · obtain ⟨x, hx⟩ : ∃ x, a[j]? = some x := ⟨a[j], List.getElem?_eq_getElem hlt⟩
        obtain ⟨y, hy⟩ : ∃ y, b[j]? = some y := ⟨b[j]'(by have := HLen.out; omega), List.getElem?_eq_getElem _⟩
        obtain ⟨g, off, b1, z1, rfl, -, c0, h1⟩ := (HV.out.drewN m).at hx
        obtain ⟨g', off', b2, z2, rfl, -, c0', h2⟩ := (HU.out.drewN m).at hy
        rw [← HW.out] at c0 c0' h1 h2
        have lx := lens_le hx
        have ly := lens_le hy
        have hi0 : (j : Int) < (a.length : Int) := by omega
        have hi2 : (j : Int) < (b.length : Int) := by have := HLen.out; omega
        have hi1 : (0 : Int) ≤ (j : Int) := by omega
        have hR := fun q => rsameq_any x y _ _ (wr.drewN q) (Gs.drewN h1.1 q) (Gs.drewN h2.1 q) (by omega) (by omega)
        unfold QtN at hR
        by_cases hxy : x = y
        · have HT := Lib.hid (take_same HS.out hx (by rw [hxy]; exact hy))
          simp only [decide_eq_true hxy] at hR
          have HR := Lib.hid hR
          clear hx hy hR h1 h2 hxy lx ly
          go_wp2_with fail
          go_quiet (first | (go_at_call 25; exact Calls.quiet_of (HR.out _)))
          go_wp2
          go_roundw
          case rel => exact ⟨j + 1, _, by omega, by go_num, HT, Lib.hid (by rw [HW.out, World.drewN_drewN])⟩
          case measure => simp [intOf]; omega
        · have HT := Lib.hid (decide_eq_false (not_same hx hy hxy))
          simp only [decide_eq_false hxy] at hR
          have HR := Lib.hid hR
          clear hx hy hR h1 h2 hxy lx ly
          go_wp2_with fail
          go_quiet (first | (go_at_call 25; exact Calls.quiet_of (HR.out _)))
          go_wp2
          go_ret
          exact ⟨ret_bool HT.out.symm, _, by rw [HW.out, World.drewN_drewN]⟩
      · obtain rfl : j = a.length := by omega
        have hs : a = b := by
          have h := HS.out
          rw [List.take_length, HLen.out, List.take_length] at h
          exact h
        have HT := Lib.hid (decide_eq_true hs)
        clear hs
        go_wp2_with fail
        go_ret
        exact ⟨ret_bool HT.out.symm, m, HW.out⟩
  · have hne : ((a.length : Int) != (b.length : Int)) = true := by simp; omega
    have HT := Lib.hid (decide_eq_false (show ¬ a = b from fun h => hlen (by rw [h])))
    clear hlen
    go_enter Tryd.func56, Tryd.ntmps56
    go_wp2_with fail
    go_ret
    exact ⟨ret_bool HT.out.symm, 0, rfl⟩
end Go.Proofs.YtpccjgoeoeehoaaDoor
namespace Go.Proofs.YtpccjgoeoeehoaaDoor
open Go.RowKit
/-- The cells of a node. -/
structure NC (w : World) (g o : Nat) (x : NV) : Prop where
  c0 : w.cell? ⟨g, o, none⟩ = some (.int .i64 x.kind)
  c1 : w.cell? ⟨g, o + 1, none⟩ = some (.int .i64 x.line)
  c2 : w.cell? ⟨g, o + 2, none⟩ = some (.int .i64 x.n)
  c3 : w.cell? ⟨g, o + 3, none⟩ = some (.slice x.text.1 x.text.2.1 x.text.2.2)
  c4 : w.cell? ⟨g, o + 4, none⟩ = some (.slice x.kids.1 x.kids.2.1 x.kids.2.2)
  c5 : w.cell? ⟨g, o + 5, none⟩ = some (.slice x.rows.1 x.rows.2.1 x.rows.2.2)
  c6 : w.cell? ⟨g, o + 6, none⟩ = some (.string ⟨x.cols.toArray⟩)
  c7 : w.cell? ⟨g, o + 7, none⟩ = some (.slice x.trows.1 x.trows.2.1 x.trows.2.2)
  c8 : w.cell? ⟨g, o + 8, none⟩ = some (.bool x.box)
  c9 : w.cell? ⟨g, o + 9, none⟩ = some (.bool x.all)
theorem NsS.atC {S : Nat → Prop} {w : World} {a : Option Addr} {k cap : Nat} {l : List Nd} (h : NsS S w (.slice a k cap) l) {j : Nat} {y : Nd} (hy : l[j]? = some y) :
    ∃ g off x, a = some ⟨g, off, none⟩ ∧ NC w g (off + j * 10) x ∧ HdIs S w x y.hd ∧ NsS S w (pv x.kids) y.kids := by
  obtain ⟨g, off, x, e, -, hc, hh, hk⟩ : ∃ g off x, a = some ⟨g, off, none⟩ ∧ S g ∧ (∀ (i : Nat) c, (ncell x)[i]? = some c → w.cell? ⟨g, off + j * 10 + i, none⟩ = some c) ∧ HdIs S w x y.hd ∧ NsS S w (pv x.kids) y.kids := by
    cases h with
    | mk _ _ L hl hs hh hk =>
      obtain ⟨x, hx⟩ : ∃ x, L[j]? = some x := ⟨L[j]'(by have := (List.getElem?_eq_some_iff.1 hy).1; omega), List.getElem?_eq_getElem _⟩
      obtain ⟨g, off, e, hg, hc⟩ := hs.at hx
      exact ⟨g, off, x, e, hg, fun i c hi => by rw [Nat.add_assoc]; exact hc i c hi, hh j x y hx hy, hk j x y hx hy⟩
  exact ⟨g, off, x, e, ⟨hc 0 _ rfl, hc 1 _ rfl, hc 2 _ rfl, hc 3 _ rfl, hc 4 _ rfl, hc 5 _ rfl, hc 6 _ rfl, hc 7 _ rfl, hc 8 _ rfl, hc 9 _ rfl⟩, hh, hk⟩
theorem below_ns {S : Nat → Prop} {w w' : World} {v : Value} {l : List Nd} (h : NsS S w v l) (hb : Below w.heap.size w w') (hS : ∀ b, S b → b < w.heap.size) : NsS S w' v l := h.keep (Kp.below hb hS)
attribute [local go_sem ↓ high] builtin_mxS
end Go.Proofs.YtpccjgoeoeehoaaDoor
namespace Go.Proofs.YtpccjgoeoeehoaaDoor
open Go.RowKit
/-- All blocks that were there stand as they stood, but some. -/
structure Exc (X : Nat → Prop) (w w' : World) : Prop where
  os : w'.os = w.os
  tape : w'.tape = w.tape
  output : w'.output = w.output
  size : w.heap.size ≤ w'.heap.size
  block : ∀ k, k < w.heap.size → ¬ X k → w'.heap[k]? = w.heap[k]?
theorem Exc.refl (X : Nat → Prop) (w : World) : Exc X w w := ⟨rfl, rfl, rfl, Nat.le_refl _, fun _ _ _ => rfl⟩
theorem Exc.trans {X Y : Nat → Prop} {a b c : World} (h : Exc X a b) (k : Exc Y b c) (hXY : ∀ i, i < a.heap.size → Y i → X i) : Exc X a c :=
  ⟨k.os.trans h.os, k.tape.trans h.tape, k.output.trans h.output, Nat.le_trans h.size k.size, fun i hi hx => (k.block i (Nat.lt_of_lt_of_le hi h.size) (fun q => hx (hXY i hi q))).trans (h.block i hi hx)⟩
theorem Exc.then {X : Nat → Prop} {a b c : World} (h : Exc X a b) (k : Exc X b c) : Exc X a c := h.trans k (fun _ _ q => q)
theorem Exc.of {X : Nat → Prop} {w w' : World} (h : Below w.heap.size w w') : Exc X w w' := ⟨h.os, h.tape, h.output, h.size, fun k hk _ => h.block k hk⟩
theorem Exc.below {X : Nat → Prop} {w w' : World} {D : Nat} (h : Exc X w w') (hD : D ≤ w.heap.size) (hX : ∀ b, b < D → ¬ X b) : Below D w w' :=
  ⟨h.os, h.tape, h.output, h.size, fun k hk => h.block k (Nat.lt_of_lt_of_le hk hD) (hX k hk)⟩
theorem Exc.mono {X Y : Nat → Prop} {w w' : World} (h : Exc X w w') (hXY : ∀ i, i < w.heap.size → X i → Y i) : Exc Y w w' :=
  ⟨h.os, h.tape, h.output, h.size, fun k hk hy => h.block k hk (fun q => hy (hXY k hk q))⟩
theorem Exc.set {X : Nat → Prop} {a w : World} (h : Exc X a w) {g : Nat} (j : Nat) (v : Value) (hg : g < a.heap.size → X g) : Exc X a (w.setCell ⟨g, j, none⟩ v) :=
  ⟨h.os, h.tape, h.output, by simpa [World.setCell] using h.size, fun k hk hx => (Below.heap_setCell w ⟨g, j, none⟩ v k (fun e => hx (by subst e; exact hg hk))).trans (h.block k hk hx)⟩
theorem Exc.blk {X : Nat → Prop} {w w' : World} (h : Exc X w w') {g : Nat} {e : TypeId} {L : List Value} (hb : Blk w g e L) (hX : ¬ X g) : Blk w' g e L := (h.block g (Array.getElem?_eq_some_iff.1 hb).1 hX).trans hb
theorem bel2 (w : World) (a b : Obj) : Below w.heap.size w ((w.alloc a).alloc b) := ((Below.refl _ w).alloc (Nat.le_refl _) _).alloc (by simp) _
theorem Blk.lt {W : World} {g : Nat} {e : TypeId} {L : List Value} (h : Blk W g e L) : g < W.heap.size := (Array.getElem?_eq_some_iff.1 h).1
end Go.Proofs.YtpccjgoeoeehoaaDoor
