/- Rows that the call owns: appends of runes and of bytes. The document's own bytes of a rune, of runes; its Sum. Slices of glyphs; Width in the program and in the document's answer; whether two rows are the same. Whether two rows are the same; copies; rows joined. Documents: what they say, and how they lie in memory. Plain maths of documents: rows squeezed; tables mended. Plain maths of documents: what is put right; what may be. Plain maths of documents: what was put right is right, and stays; no text is lost. strings.Map, strings.ContainsFunc: the shelf's contracts, laid at this dump. (The numbers of the lays are this seat's own: tools/shelf7.py.) The document's own answer for documents: Count, Deep. The document's own answer for documents: how much there is of them. The document's own answer for documents: the same? rows of glyphs, rows of rows, tables. The document's own answer for documents: the same tables? The document's own answer for documents: the same nodes? The document's own answer for documents: the same documents (of one name)? The program's own for documents: a node's cells; Deep, Count. The program's own for documents: Count, by a closure that counts. -/
import Derived.Test.YtpccjgoeoeehoaaDoorW5
import Derived.Maps.AppendAt
import Derived.OwnWalk
import Derived.Test.YtpccjgoeoeehoaaDoorGx
import Derived.Deep.QuietTactic
import Derived.BigQuiet
import Derived.Lib.SliceRun
import Derived.Shelf.Strings.MapGrows
import Derived.Laws.Strings3
import Derived.Lib.Strings
set_option linter.unusedVariables false
set_option linter.unusedSimpArgs false
namespace Go.Proofs.YtpccjgoeoeehoaaDoor
open Go.RowKit
end Go.Proofs.YtpccjgoeoeehoaaDoor
namespace Go.Proofs.YtpccjgoeoeehoaaDoor
open Go.RowKit
theorem below_lit (w : World) (o : Obj) : Below w.heap.size w (w.alloc o) := (Below.refl _ w).alloc (Nat.le_refl _) _
end Go.Proofs.YtpccjgoeoeehoaaDoor
namespace Go.Proofs.YtpccjgoeoeehoaaDoor
open Go.RowKit
/-- A glyph: its rune, and how it is set. -/
abbrev Gly := Int × Int
def gcell (g : Gly) : List Value := [.int .i32 g.1, .int .u8 g.2]
theorem gcell_len (g : Gly) : (gcell g).length = 2 := rfl
theorem gcell_one (g : Gly) : ∀ u ∈ gcell g, u.oneCell' = true := by
  intro u hu
  simp only [gcell, List.mem_cons, List.not_mem_nil, or_false] at hu
  rcases hu with rfl | rfl <;> rfl
abbrev Gs (w : World) (v : Value) (l : List Gly) : Prop := Fs 2 gcell w v l
abbrev GOwn (base : Nat) (W : World) (x : Value) (l : List Gly) : Prop := FOwn 56 2 gcell base W x l
theorem Gs.at {w : World} {a : Option Addr} {k cap : Nat} {l : List Gly} (h : Gs w (.slice a k cap) l) {j : Nat} {g : Gly} (hj : l[j]? = some g) :
    ∃ b off, a = some ⟨b, off, none⟩ ∧ w.cell? ⟨b, off + j * 2, none⟩ = some (.int .i32 g.1) ∧ w.cell? ⟨b, off + j * 2 + 1, none⟩ = some (.int .u8 g.2) ∧ b < w.heap.size := by
  obtain ⟨a', cap', hv, _, hr⟩ := h
  injection hv with h1 h2 h3
  subst h1
  obtain ⟨b, off, rfl, h0⟩ := hr j g hj
  have c0 := h0 0 _ rfl
  have c1 := h0 1 _ rfl
  exact ⟨b, off, rfl, c0, c1, World.block_lt_of_cell? w _ c0⟩
theorem infoG : (Tryd.prog.info? 56).map (fun i => (i.zero, i.size, i.bytes)) = some (some (.agg #[.int .i32 0, .int .u8 0]), 2, 8) := by kernel_rfl
theorem eqG (k l k' l' : Int) (w : World) : (Op.equalIn 10000 56 (.agg #[.int .i32 k, .int .u8 l]) (.agg #[.int .i32 k', .int .u8 l'])).run Tryd.prog w = .ok (k == k' && l == l') w := by
  rw [run_equalIn_agg w 9999 56 _ _ (by kernel_rfl) (by kernel_rfl)]
  have h3 : ((Tryd.prog.fieldsOf 56).toList.map fun f => (f.name != "_", f.type, f.offset)) = [(true, 21, 0), (true, 5, 1)] := by kernel_rfl
  generalize (Tryd.prog.fieldsOf 56).toList = fs at *
  rcases fs with _ | ⟨f0, _ | ⟨f1, _ | ⟨f2, fs⟩⟩⟩
  · simp at h3
  · simp at h3
  · simp only [List.map_cons, List.map_nil, List.cons.injEq, Prod.mk.injEq, and_true, bne_iff_ne, ne_eq] at h3
    obtain ⟨⟨n0, t0, o0⟩, ⟨n1, t1, o1⟩⟩ := h3
    have e0 : ∀ (a b : Int) (w : World), (Op.equalIn 9999 21 (.int .i32 a) (.int .i32 b)).run Tryd.prog w = .ok (a == b) w := fun a b w => run_equalIn_int w 9998 21 .i32 .i32 a b Tryd.underlying21
    have e1 : ∀ (a b : Int) (w : World), (Op.equalIn 9999 5 (.int .u8 a) (.int .u8 b)).run Tryd.prog w = .ok (a == b) w := fun a b w => run_equalIn_int w 9998 5 .u8 .u8 a b Tryd.underlying5
    simp [go_sem, Op.eqFields, n0, n1, t0, t1, o0, o1, e0, e1]
    by_cases a1 : k = k' <;> by_cases a2 : l = l' <;> simp [a1, a2]
  · simp at h3
theorem neqG_any (k l k' l' : Int) (w : World) : (binOp .neq 56 (.agg #[.int .i32 k, .int .u8 l]) (.agg #[.int .i32 k', .int .u8 l'])).run Tryd.prog w = .ok (.bool (!(k == k' && l == l'))) w := by
  rw [run_neq_struct, eqG]
  rfl
theorem neqG_same (k l : Int) (w : World) : (binOp .neq 56 (.agg #[.int .i32 k, .int .u8 l]) (.agg #[.int .i32 k, .int .u8 l])).run Tryd.prog w = .ok (.bool false) w := by
  rw [neqG_any]
  simp
theorem neqG_other {x y : Gly} (h : x ≠ y) (w : World) : (binOp .neq 56 (.agg #[.int .i32 x.1, .int .u8 x.2]) (.agg #[.int .i32 y.1, .int .u8 y.2])).run Tryd.prog w = .ok (.bool true) w := by
  rw [neqG_any]
  have : (x.1 == y.1 && x.2 == y.2) = false := by
    rw [Bool.eq_false_iff]
    intro e
    simp only [Bool.and_eq_true, beq_iff_eq] at e
    exact h (Prod.ext e.1 e.2)
  rw [this]
  rfl
end Go.Proofs.YtpccjgoeoeehoaaDoor
namespace Go.Proofs.YtpccjgoeoeehoaaDoor
open Go.RowKit
/-- The append of glyphs, kept whole. -/
noncomputable def appG (args : Array Value) : Sem Next := do pure (.value (← Builtin.append_ #[30, 30] 30 args))
theorem builtin_appG (cs : Array Bool) (args : Array Value) : builtin .append #[30, 30] 30 cs args = appG args := rfl
theorem appG_own {base : Nat} {W : World} {x u : Value} {l m : List Gly} (h : GOwn base W x l) (hu : Gs W u m) (hb : base ≤ W.heap.size) (hd : l.length + m.length ≤ 1000000) :
    ∃ x' w', (appG #[x, u]).run Tryd.prog W = .ok (.value x') w' ∧ GOwn base w' x' (l ++ m) ∧ W.grownBy w' x.ownBlock ∧ (x'.ownBlock = x.ownBlock ∨ x'.ownBlock = some W.heap.size) := by
  obtain ⟨i0, hi, hz0, hz1, hz2⟩ := info_parts infoG
  obtain ⟨x', w', hr, r⟩ := fapp gcell_len gcell_one (by decide) Tryd.underlying30 hi hz0 hz1 hz2 rfl (by decide) h hu hb hd
  refine ⟨x', w', ?_, r⟩
  unfold appG
  simp only [Sem.run_bind, Sem.run_pure, Result.andThen_ok, hr]
/-- 'v[:k]', 'v[k:]'. -/
noncomputable def frontG (x hi : Value) : Sem Value := Instr.slice 30 x none (some hi) none
theorem slice_frontG (x hi : Value) : Instr.slice 30 x none (some hi) none = frontG x hi := rfl
noncomputable def backG (x lo : Value) : Sem Value := Instr.slice 30 x (some lo) none none
theorem slice_backG (x lo : Value) : Instr.slice 30 x (some lo) none none = backG x lo := rfl
theorem frontG_run {w : World} {v : Value} {l : List Gly} (h : Gs w v l) (k : Nat) (hk : k ≤ l.length) :
    ∃ u, (∀ W : World, (frontG v (.int .i64 (k : Int))).run Tryd.prog W = .ok u W) ∧ Gs w u (l.take k) ∧ (∀ a m cap, v = .slice a m cap → u = .slice a k cap) := by
  obtain ⟨i0, hi, hz0, hz1, hz2⟩ := info_parts infoG
  exact Fs.front Tryd.underlying30 hi h k hk
theorem backG_run {w : World} {v : Value} {l : List Gly} (h : Gs w v l) (k : Nat) (hk : k ≤ l.length) :
    ∃ u, (∀ W : World, (backG v (.int .i64 (k : Int))).run Tryd.prog W = .ok u W) ∧ Gs w u (l.drop k) := by
  obtain ⟨i0, hi, hz0, hz1, hz2⟩ := info_parts infoG
  exact Fs.back Tryd.underlying30 hi hz1 h k hk
attribute [local go_sem ↓ high] builtin_appG
set_option maxRecDepth 100000 in
set_option maxHeartbeats 1000000 in
theorem cloneg_any (l : List Gly) (v : Value) (w : World) (hv : Gs w v l) (hl : l.length ≤ 200000) :
    Calls Tryd.prog 67 #[v] w fun e w' => ∃ u, e = .returned u ∧ GOwn w.heap.size w' u l ∧ Below w.heap.size w w' := by
  have HV := Lib.hid hv
  obtain ⟨a, cap, rfl, -, hr⟩ := hv
  cases a with
  | none =>
    obtain rfl : l = [] := by
      cases l with
      | nil => rfl
      | cons x l => obtain ⟨g, off, h0, _⟩ := hr 0 x rfl; cases h0
    clear hr
    have hnil : (binOp .eql 30 (.slice none 0 cap) (.slice none 0 0)).run Tryd.prog w = .ok (.bool true) w := Lib.run_eql_slice_nil w 30 56 none 0 cap 0 0 Tryd.underlying30
    simp only [List.length_nil]
    go_enter Tryd.func67, Tryd.ntmps67
    go_wp2_with fail
    go_ret
    exact ⟨_, rfl, FOwn.nil _ _, Below.refl _ _⟩
  | some a =>
    clear hr
    have b1 := below_lit w (.cells #[] 56)
    have o1 : GOwn w.heap.size (w.alloc (.cells #[] 56)) (.slice (some ⟨w.heap.size, 0, none⟩) 0 0) [] := fown_lit gcell_len w (Nat.le_refl _) [] (by simp)
    obtain ⟨x', w', k1, o2, g2, -⟩ := appG_own o1 (Fs.below HV.out b1) (by simp) (by simp; omega)
    have b2 := Lib.hid (o1.below b1 (by simp) g2)
    have O2 := Lib.hid o2
    have hnil : (binOp .eql 30 (.slice (some a) l.length cap) (.slice none 0 0)).run Tryd.prog w = .ok (.bool false) w := Lib.run_eql_slice_nil w 30 56 (some a) l.length cap 0 0 Tryd.underlying30
    clear o1 o2 g2 b1
    go_enter Tryd.func67, Tryd.ntmps67
    go_wp2_with fail
    go_ret
    exact ⟨_, rfl, O2.out, b2.out⟩
set_option maxRecDepth 100000 in
set_option maxHeartbeats 1000000 in
theorem join_any (a b : List Gly) (v u : Value) (w : World) (hv : Gs w v a) (hu : Gs w u b) (hl : a.length + b.length ≤ 500000) :
    Calls Tryd.prog 77 #[v, u] w fun e w' => ∃ x, e = .returned x ∧ GOwn w.heap.size w' x (a ++ b) ∧ Below w.heap.size w w' := by
  obtain ⟨x1, w1, k1, o1, g1, -⟩ := appG_own (FOwn.nil w.heap.size w) hv (Nat.le_refl _) (by simp; omega)
  have b1 := (FOwn.nil (e := 56) (n := 2) (f := gcell) w.heap.size w).below (Below.refl _ _) (Nat.le_refl _) g1
  rw [List.nil_append] at o1
  obtain ⟨x2, w2, k2, o2, g2, -⟩ := appG_own o1 (Fs.below hu b1) b1.size (by omega)
  have b2 := Lib.hid (o1.below b1 b1.size g2)
  have O2 := Lib.hid o2
  obtain ⟨aa, ca, rfl⟩ := hv.len
  obtain ⟨ab, cb, rfl⟩ := hu.len
  clear hv hu o1 o2 g1 g2 b1
  go_enter Tryd.func77, Tryd.ntmps77
  go_wp2_with fail
  go_ret
  exact ⟨_, rfl, O2.out, b2.out⟩
end Go.Proofs.YtpccjgoeoeehoaaDoor
namespace Go.Proofs.YtpccjgoeoeehoaaDoor
open Go.RowKit
/-- A row of a table; a table; a node's own parts; a node. -/
abbrev Trow := Bool × List (List Gly)
structure Tab where
  cols : List UInt8
  rows : List Trow
  box : Bool
  all : Bool
deriving DecidableEq
structure Hd where
  kind : Int
  line : Int
  n : Int
  text : List Gly
  rows : List (List Gly)
  grid : Tab
deriving DecidableEq
inductive Nd where
  | mk (h : Hd) (kids : List Nd)
def Nd.hd : Nd → Hd
  | .mk h _ => h
def Nd.kids : Nd → List Nd
  | .mk _ k => k
/-- How many; how deep; how much there is of them. -/
def lens {α : Type} (l : List (List α)) : Nat := (l.map List.length).sum
def trl (t : Trow) : Nat := 1 + t.2.length + lens t.2
def trls (l : List Trow) : Nat := (l.map trl).sum
def hdl (h : Hd) : Nat := 3 + h.text.length + h.grid.cols.length + (h.rows.length + lens h.rows) + trls h.grid.rows
mutual
def cntN : Nd → Nat
  | .mk _ ks => 1 + cntL ks
def cntL : List Nd → Nat
  | [] => 0
  | x :: l => cntN x + cntL l
end
mutual
def dpN : Nd → Nat
  | .mk _ ks => 1 + dpL ks
def dpL : List Nd → Nat
  | [] => 0
  | x :: l => max (dpN x) (dpL l)
end
mutual
def nlN : Nd → Nat
  | .mk h ks => hdl h + nlL ks
def nlL : List Nd → Nat
  | [] => 0
  | x :: l => nlN x + nlL l
end
theorem cntN_eq (y : Nd) : cntN y = 1 + cntL y.kids := by cases y; simp [cntN, Nd.kids]
theorem dpN_eq (y : Nd) : dpN y = 1 + dpL y.kids := by cases y; simp [dpN, Nd.kids]
theorem nlN_eq (y : Nd) : nlN y = hdl y.hd + nlL y.kids := by cases y; simp [nlN, Nd.kids, Nd.hd]
theorem cntL_app : ∀ (a b : List Nd), cntL (a ++ b) = cntL a + cntL b
  | [], b => by simp [cntL]
  | x :: a, b => by simp only [List.cons_append, cntL, cntL_app a b]; omega
theorem dpL_app : ∀ (a b : List Nd), dpL (a ++ b) = max (dpL a) (dpL b)
  | [], b => by simp [dpL]
  | x :: a, b => by simp only [List.cons_append, dpL, dpL_app a b]; omega
theorem nlL_app : ∀ (a b : List Nd), nlL (a ++ b) = nlL a + nlL b
  | [], b => by simp [nlL]
  | x :: a, b => by simp only [List.cons_append, nlL, nlL_app a b]; omega
theorem cnt_next {l : List Nd} {p : Nat} {y : Nd} (hy : l[p]? = some y) : cntL (l.take (p + 1)) = cntL (l.take p) + (1 + cntL y.kids) := by
  rw [List.take_add_one, hy, cntL_app]
  simp only [Option.toList_some, cntL, cntN_eq]
  omega
theorem dp_next {l : List Nd} {p : Nat} {y : Nd} (hy : l[p]? = some y) : dpL (l.take (p + 1)) = max (dpL (l.take p)) (1 + dpL y.kids) := by
  rw [List.take_add_one, hy, dpL_app]
  simp only [Option.toList_some, dpL, dpN_eq]
  omega
theorem nl_next {l : List Nd} {p : Nat} {y : Nd} (hy : l[p]? = some y) : nlL (l.take (p + 1)) = nlL (l.take p) + (hdl y.hd + nlL y.kids) := by
  rw [List.take_add_one, hy, nlL_app]
  simp only [Option.toList_some, nlL, nlN_eq]
  omega
theorem cnt_take (l : List Nd) (p : Nat) : cntL (l.take p) ≤ cntL l := by
  have h := cntL_app (l.take p) (l.drop p)
  rw [List.take_append_drop] at h
  omega
theorem dp_take (l : List Nd) (p : Nat) : dpL (l.take p) ≤ dpL l := by
  have h := dpL_app (l.take p) (l.drop p)
  rw [List.take_append_drop] at h
  omega
theorem nl_take (l : List Nd) (p : Nat) : nlL (l.take p) ≤ nlL l := by
  have h := nlL_app (l.take p) (l.drop p)
  rw [List.take_append_drop] at h
  omega
theorem cnt_le {l : List Nd} {p : Nat} {y : Nd} (hy : l[p]? = some y) : 1 + cntL y.kids + cntL (l.take p) ≤ cntL l := by
  have h1 := cnt_next hy
  have h2 := cnt_take l (p + 1)
  omega
theorem dp_le {l : List Nd} {p : Nat} {y : Nd} (hy : l[p]? = some y) : 1 + dpL y.kids ≤ dpL l := by
  have h1 := dp_next hy
  have h2 := dp_take l (p + 1)
  omega
theorem nl_le {l : List Nd} {p : Nat} {y : Nd} (hy : l[p]? = some y) : hdl y.hd + nlL y.kids + nlL (l.take p) ≤ nlL l := by
  have h1 := nl_next hy
  have h2 := nl_take l (p + 1)
  omega
theorem cnt_len : ∀ l : List Nd, l.length ≤ cntL l
  | [] => by simp [cntL]
  | x :: l => by
    have := cnt_len l
    have := cntN_eq x
    simp only [cntL, List.length_cons]
    omega
mutual
theorem dp_cntN : ∀ x : Nd, dpN x ≤ cntN x
  | .mk _ ks => by
    have := dp_cntL ks
    simp only [dpN, cntN]
    omega
theorem dp_cntL : ∀ l : List Nd, dpL l ≤ cntL l
  | [] => by simp [dpL, cntL]
  | x :: l => by
    have := dp_cntN x
    have := dp_cntL l
    simp only [dpL, cntL]
    omega
end
mutual
theorem cnt_nlN : ∀ x : Nd, 3 * cntN x ≤ nlN x
  | .mk h ks => by
    have := cnt_nlL ks
    simp only [nlN, cntN]
    unfold hdl
    omega
theorem cnt_nlL : ∀ l : List Nd, 3 * cntL l ≤ nlL l
  | [] => by simp [nlL, cntL]
  | x :: l => by
    have := cnt_nlN x
    have := cnt_nlL l
    simp only [nlL, cntL]
    omega
end
theorem lens_next {α : Type} {l : List (List α)} {p : Nat} {x : List α} (hx : l[p]? = some x) : lens (l.take (p + 1)) = lens (l.take p) + x.length := by
  rw [List.take_add_one, hx]
  simp [lens]
theorem lens_take {α : Type} (l : List (List α)) (p : Nat) : lens (l.take p) ≤ lens l := by
  have h : lens (l.take p ++ l.drop p) = lens (l.take p) + lens (l.drop p) := by unfold lens; rw [List.map_append, List.sum_append]
  rw [List.take_append_drop] at h
  omega
theorem lens_le {α : Type} {l : List (List α)} {p : Nat} {x : List α} (hx : l[p]? = some x) : x.length + lens (l.take p) ≤ lens l := by
  have h1 := lens_next hx
  have h2 := lens_take l (p + 1)
  omega
theorem trls_next {l : List Trow} {p : Nat} {x : Trow} (hx : l[p]? = some x) : trls (l.take (p + 1)) = trls (l.take p) + trl x := by
  rw [List.take_add_one, hx]
  simp [trls]
theorem trls_take (l : List Trow) (p : Nat) : trls (l.take p) ≤ trls l := by
  have h : trls (l.take p ++ l.drop p) = trls (l.take p) + trls (l.drop p) := by unfold trls; rw [List.map_append, List.sum_append]
  rw [List.take_append_drop] at h
  omega
theorem trls_le {l : List Trow} {p : Nat} {x : Trow} (hx : l[p]? = some x) : trl x + trls (l.take p) ≤ trls l := by
  have h1 := trls_next hx
  have h2 := trls_take l (p + 1)
  omega
theorem trls_len : ∀ l : List Trow, l.length ≤ trls l
  | [] => by simp [trls]
  | x :: l => by
    have := trls_len l
    simp only [trls, List.map_cons, List.sum_cons, List.length_cons] at this ⊢
    unfold trl at this ⊢
    omega
/-- Which blocks stand as they stood. -/
def Kp (S : Nat → Prop) (w w' : World) : Prop := ∀ b, S b → w'.heap[b]? = w.heap[b]?
theorem Kp.refl (S : Nat → Prop) (w : World) : Kp S w w := fun _ _ => rfl
theorem Kp.below {S : Nat → Prop} {D : Nat} {w w' : World} (h : Below D w w') (hS : ∀ b, S b → b < D) : Kp S w w' := fun b hb => h.block b (hS b hb)
theorem Kp.grown {S : Nat → Prop} {w w' : World} {row : Option Nat} (h : w.grownBy w' row) (hS : ∀ b, S b → b < w.heap.size ∧ some b ≠ row) : Kp S w w' := fun b hb => h.block b (hS b hb).1 (hS b hb).2
def foot (S : Nat → Prop) (w : World) (n : Nat) (v : Value) : Prop := ∀ a k c, v = .slice (some a) k c → 0 < k → S a.block ∧ (¬ S 0 → ∀ i, i < k * n → w.frozen? ⟨a.block, a.off + i, none⟩ = false)
/-- A slice that reads as l, in blocks of S. -/
def FsS {α : Type} (S : Nat → Prop) (n : Nat) (f : α → List Value) (w : World) (v : Value) (l : List α) : Prop := Fs n f w v l ∧ foot S w n v
theorem FsS.keep {α : Type} {S : Nat → Prop} {n : Nat} {f : α → List Value} {w w' : World} {v : Value} {l : List α} (h : FsS S n f w v l) (hk : Kp S w w') : FsS S n f w' v l := by
  obtain ⟨⟨a, cap, rfl, hc, hr⟩, hf⟩ := h
  refine ⟨⟨a, cap, rfl, hc, fun j x hj => ?_⟩, fun a' k c e hpos => ⟨(hf a' k c e hpos).1, fun h0 i hi => (World.frozen?_of_block (w := w) (a := ⟨a'.block, a'.off + i, none⟩) (hk a'.block (hf a' k c e hpos).1)).trans ((hf a' k c e hpos).2 h0 i hi)⟩⟩
  obtain ⟨b, off, rfl, h0⟩ := hr j x hj
  have hS : S b := (hf _ _ _ rfl (by have := (List.getElem?_eq_some_iff.1 hj).1; omega)).1
  exact ⟨b, off, rfl, fun i c hi => (World.cell?_of_block (hk b hS)).trans (h0 i c hi)⟩
theorem FsS.mono {α : Type} {S T : Nat → Prop} {n : Nat} {f : α → List Value} {w : World} {v : Value} {l : List α} (h : FsS S n f w v l) (hST : ∀ b, S b → T b) : FsS T n f w v l :=
  ⟨h.1, fun a k c e hk => ⟨hST _ (h.2 a k c e hk).1, fun h0 => (h.2 a k c e hk).2 (fun q => h0 (hST 0 q))⟩⟩
theorem FsS.nil {α : Type} (S : Nat → Prop) (n : Nat) (f : α → List Value) (w : World) : FsS S n f w (.slice none 0 0) ([] : List α) := ⟨Fs.nil w, fun a k c e _ => by injection e with e1; cases e1⟩
theorem FsS.at {α : Type} {S : Nat → Prop} {n : Nat} {f : α → List Value} {w : World} {a : Option Addr} {k cap : Nat} {l : List α} (h : FsS S n f w (.slice a k cap) l) {j : Nat} {x : α} (hx : l[j]? = some x) :
    ∃ g off, a = some ⟨g, off, none⟩ ∧ S g ∧ ∀ i c, (f x)[i]? = some c → w.cell? ⟨g, off + (j * n + i), none⟩ = some c := by
  obtain ⟨⟨a', cap', hv, hc, hr⟩, hf⟩ := h
  injection hv with h1 h2 h3
  subst h1
  obtain ⟨b, off, rfl, h0⟩ := hr j x hx
  exact ⟨b, off, rfl, (hf _ _ _ rfl (by have := (List.getElem?_eq_some_iff.1 hx).1; omega)).1, h0⟩
/-- A slice's value, as it lies. -/
abbrev PV := Option Addr × Nat × Nat
def pv (s : PV) : Value := .slice s.1 s.2.1 s.2.2
theorem pv_of {α : Type} {n : Nat} {f : α → List Value} {w : World} {v : Value} {l : List α} (h : Fs n f w v l) : ∃ s : PV, v = pv s := by
  obtain ⟨a, cap, e⟩ := h.len
  exact ⟨(a, l.length, cap), e⟩
def pcell (s : PV) : List Value := [pv s]
theorem pcell_len (s : PV) : (pcell s).length = 1 := rfl
theorem pcell_one (s : PV) : ∀ u ∈ pcell s, u.oneCell' = true := by
  intro u hu
  simp [pcell, pv] at hu
  subst hu; rfl
def trcell (x : Bool × PV) : List Value := [.bool x.1, pv x.2]
theorem trcell_len (x : Bool × PV) : (trcell x).length = 2 := rfl
theorem trcell_one (x : Bool × PV) : ∀ u ∈ trcell x, u.oneCell' = true := by
  intro u hu
  simp [trcell, pv] at hu
  rcases hu with rfl | rfl <;> rfl
/-- Rows of rows; rows of a table. -/
def GrS (S : Nat → Prop) (w : World) (v : Value) (l : List (List Gly)) : Prop :=
  ∃ L : List PV, L.length = l.length ∧ FsS S 1 pcell w v L ∧ ∀ (i : Nat) s r, L[i]? = some s → l[i]? = some r → FsS S 2 gcell w (pv s) r
def TrS (S : Nat → Prop) (w : World) (v : Value) (l : List Trow) : Prop :=
  ∃ L : List (Bool × PV), L.length = l.length ∧ FsS S 2 trcell w v L ∧ ∀ (i : Nat) s r, L[i]? = some s → l[i]? = some r → s.1 = r.1 ∧ GrS S w (pv s.2) r.2
theorem GrS.keep {S : Nat → Prop} {w w' : World} {v : Value} {l : List (List Gly)} (h : GrS S w v l) (hk : Kp S w w') : GrS S w' v l := by
  obtain ⟨L, h1, h2, h3⟩ := h
  exact ⟨L, h1, h2.keep hk, fun i s r hs hr => (h3 i s r hs hr).keep hk⟩
theorem TrS.keep {S : Nat → Prop} {w w' : World} {v : Value} {l : List Trow} (h : TrS S w v l) (hk : Kp S w w') : TrS S w' v l := by
  obtain ⟨L, h1, h2, h3⟩ := h
  exact ⟨L, h1, h2.keep hk, fun i s r hs hr => ⟨(h3 i s r hs hr).1, (h3 i s r hs hr).2.keep hk⟩⟩
theorem GrS.mono {S T : Nat → Prop} {w : World} {v : Value} {l : List (List Gly)} (h : GrS S w v l) (hST : ∀ b, S b → T b) : GrS T w v l := by
  obtain ⟨L, h1, h2, h3⟩ := h
  exact ⟨L, h1, h2.mono hST, fun i s r hs hr => (h3 i s r hs hr).mono hST⟩
theorem TrS.mono {S T : Nat → Prop} {w : World} {v : Value} {l : List Trow} (h : TrS S w v l) (hST : ∀ b, S b → T b) : TrS T w v l := by
  obtain ⟨L, h1, h2, h3⟩ := h
  exact ⟨L, h1, h2.mono hST, fun i s r hs hr => ⟨(h3 i s r hs hr).1, (h3 i s r hs hr).2.mono hST⟩⟩
theorem GrS.nil (S : Nat → Prop) (w : World) : GrS S w (.slice none 0 0) [] := ⟨[], rfl, FsS.nil _ _ _ _, fun i s r h => by simp at h⟩
theorem TrS.nil (S : Nat → Prop) (w : World) : TrS S w (.slice none 0 0) [] := ⟨[], rfl, FsS.nil _ _ _ _, fun i s r h => by simp at h⟩
theorem GrS.len {S : Nat → Prop} {w : World} {v : Value} {l : List (List Gly)} (h : GrS S w v l) : ∃ a cap, v = .slice a l.length cap := by
  obtain ⟨L, h1, h2, -⟩ := h
  obtain ⟨a, cap, e⟩ := h2.1.len
  exact ⟨a, cap, h1 ▸ e⟩
theorem TrS.len {S : Nat → Prop} {w : World} {v : Value} {l : List Trow} (h : TrS S w v l) : ∃ a cap, v = .slice a l.length cap := by
  obtain ⟨L, h1, h2, -⟩ := h
  obtain ⟨a, cap, e⟩ := h2.1.len
  exact ⟨a, cap, h1 ▸ e⟩
theorem GrS.at {S : Nat → Prop} {w : World} {a : Option Addr} {k cap : Nat} {l : List (List Gly)} (h : GrS S w (.slice a k cap) l) {j : Nat} {r : List Gly} (hr : l[j]? = some r) :
    ∃ g off b c, a = some ⟨g, off, none⟩ ∧ S g ∧ w.cell? ⟨g, off + j, none⟩ = some (.slice b r.length c) ∧ FsS S 2 gcell w (.slice b r.length c) r := by
  obtain ⟨L, h1, h2, h3⟩ := h
  obtain ⟨s, hs⟩ : ∃ s, L[j]? = some s := ⟨L[j]'(by have := (List.getElem?_eq_some_iff.1 hr).1; omega), List.getElem?_eq_getElem _⟩
  obtain ⟨g, off, e, hg, hc⟩ := h2.at hs
  have h4 := h3 j s r hs hr
  obtain ⟨b, c, e2⟩ := h4.1.len
  have c0 := hc 0 _ rfl
  rw [Nat.mul_one, Nat.add_zero, e2] at c0
  rw [e2] at h4
  exact ⟨g, off, b, c, e, hg, c0, h4⟩
theorem TrS.at {S : Nat → Prop} {w : World} {a : Option Addr} {k cap : Nat} {l : List Trow} (h : TrS S w (.slice a k cap) l) {j : Nat} {r : Trow} (hr : l[j]? = some r) :
    ∃ g off b c, a = some ⟨g, off, none⟩ ∧ S g ∧ w.cell? ⟨g, off + j * 2, none⟩ = some (.bool r.1) ∧ w.cell? ⟨g, off + j * 2 + 1, none⟩ = some (.slice b r.2.length c) ∧ GrS S w (.slice b r.2.length c) r.2 := by
  obtain ⟨L, h1, h2, h3⟩ := h
  obtain ⟨s, hs⟩ : ∃ s, L[j]? = some s := ⟨L[j]'(by have := (List.getElem?_eq_some_iff.1 hr).1; omega), List.getElem?_eq_getElem _⟩
  obtain ⟨g, off, e, hg, hc⟩ := h2.at hs
  obtain ⟨e1, h4⟩ := h3 j s r hs hr
  obtain ⟨b, c, e2⟩ := h4.len
  have c0 := hc 0 _ rfl
  have c1 := hc 1 _ rfl
  rw [e1] at c0
  rw [e2] at c1 h4
  exact ⟨g, off, b, c, e, hg, c0, c1, h4⟩
/-- A node as it lies. -/
structure NV where
  kind : Int
  line : Int
  n : Int
  text : PV
  kids : PV
  rows : PV
  cols : List UInt8
  trows : PV
  box : Bool
  all : Bool
def ncell (x : NV) : List Value := [.int .i64 x.kind, .int .i64 x.line, .int .i64 x.n, pv x.text, pv x.kids, pv x.rows, .string ⟨x.cols.toArray⟩, pv x.trows, .bool x.box, .bool x.all]
theorem ncell_len (x : NV) : (ncell x).length = 10 := rfl
theorem ncell_one (x : NV) : ∀ u ∈ ncell x, u.oneCell' = true := by
  intro u hu
  simp [ncell, pv] at hu
  rcases hu with rfl | rfl | rfl | rfl | rfl | rfl | rfl | rfl | rfl | rfl <;> rfl
structure HdIs (S : Nat → Prop) (w : World) (x : NV) (h : Hd) : Prop where
  kind : x.kind = h.kind
  line : x.line = h.line
  n : x.n = h.n
  text : FsS S 2 gcell w (pv x.text) h.text
  rows : GrS S w (pv x.rows) h.rows
  cols : x.cols = h.grid.cols
  trows : TrS S w (pv x.trows) h.grid.rows
  box : x.box = h.grid.box
  all : x.all = h.grid.all
theorem HdIs.keep {S : Nat → Prop} {w w' : World} {x : NV} {h : Hd} (k : HdIs S w x h) (hk : Kp S w w') : HdIs S w' x h :=
  ⟨k.kind, k.line, k.n, k.text.keep hk, k.rows.keep hk, k.cols, k.trows.keep hk, k.box, k.all⟩
theorem HdIs.mono {S T : Nat → Prop} {w : World} {x : NV} {h : Hd} (k : HdIs S w x h) (hST : ∀ b, S b → T b) : HdIs T w x h :=
  ⟨k.kind, k.line, k.n, k.text.mono hST, k.rows.mono hST, k.cols, k.trows.mono hST, k.box, k.all⟩
/-- Nodes in memory, in blocks of S. -/
inductive NsS (S : Nat → Prop) (w : World) : Value → List Nd → Prop where
  | mk (v : Value) (l : List Nd) (L : List NV) (hl : L.length = l.length) (hs : FsS S 10 ncell w v L) (hh : ∀ (i : Nat) x y, L[i]? = some x → l[i]? = some y → HdIs S w x y.hd)
      (hk : ∀ (i : Nat) x y, L[i]? = some x → l[i]? = some y → NsS S w (pv x.kids) y.kids) : NsS S w v l
theorem NsS.keep {S : Nat → Prop} {w w' : World} {v : Value} {l : List Nd} (h : NsS S w v l) (k : Kp S w w') : NsS S w' v l := by
  induction h with
  | mk v l L hl hs hh hk ih => exact .mk v l L hl (hs.keep k) (fun i x y h1 h2 => (hh i x y h1 h2).keep k) ih
theorem NsS.mono {S T : Nat → Prop} {w : World} {v : Value} {l : List Nd} (h : NsS S w v l) (hST : ∀ b, S b → T b) : NsS T w v l := by
  induction h with
  | mk v l L hl hs hh hk ih => exact .mk v l L hl (hs.mono hST) (fun i x y h1 h2 => (hh i x y h1 h2).mono hST) ih
theorem NsS.nil (S : Nat → Prop) (w : World) : NsS S w (.slice none 0 0) [] := .mk _ _ [] rfl (FsS.nil _ _ _ _) (fun i x y h => by simp at h) (fun i x y h => by simp at h)
theorem NsS.len {S : Nat → Prop} {w : World} {v : Value} {l : List Nd} (h : NsS S w v l) : ∃ a cap, v = .slice a l.length cap := by
  cases h with
  | mk _ _ L hl hs hh hk =>
    obtain ⟨a, cap, e⟩ := hs.1.len
    exact ⟨a, cap, hl ▸ e⟩
/-- One of the nodes: its cells. -/
structure NAt (S : Nat → Prop) (w : World) (g o : Nat) (y : Nd) (text kids rows trows : PV) : Prop where
  c0 : w.cell? ⟨g, o, none⟩ = some (.int .i64 y.hd.kind)
  c1 : w.cell? ⟨g, o + 1, none⟩ = some (.int .i64 y.hd.line)
  c2 : w.cell? ⟨g, o + 2, none⟩ = some (.int .i64 y.hd.n)
  c3 : w.cell? ⟨g, o + 3, none⟩ = some (.slice text.1 y.hd.text.length text.2.2)
  c4 : w.cell? ⟨g, o + 4, none⟩ = some (.slice kids.1 y.kids.length kids.2.2)
  c5 : w.cell? ⟨g, o + 5, none⟩ = some (.slice rows.1 y.hd.rows.length rows.2.2)
  c6 : w.cell? ⟨g, o + 6, none⟩ = some (.string ⟨y.hd.grid.cols.toArray⟩)
  c7 : w.cell? ⟨g, o + 7, none⟩ = some (.slice trows.1 y.hd.grid.rows.length trows.2.2)
  c8 : w.cell? ⟨g, o + 8, none⟩ = some (.bool y.hd.grid.box)
  c9 : w.cell? ⟨g, o + 9, none⟩ = some (.bool y.hd.grid.all)
  blk : S g
  text : FsS S 2 gcell w (.slice text.1 y.hd.text.length text.2.2) y.hd.text
  kids : NsS S w (.slice kids.1 y.kids.length kids.2.2) y.kids
  rows : GrS S w (.slice rows.1 y.hd.rows.length rows.2.2) y.hd.rows
  trows : TrS S w (.slice trows.1 y.hd.grid.rows.length trows.2.2) y.hd.grid.rows
theorem pv_eq {s : PV} {a : Option Addr} {n c : Nat} (h : pv s = .slice a n c) : s = (a, n, c) := by
  obtain ⟨s0, s1, s2⟩ := s
  unfold pv at h
  injection h with h1 h2 h3
  simp only at h1 h2 h3
  subst h1 h2 h3
  rfl
theorem NsS.at {S : Nat → Prop} {w : World} {a : Option Addr} {k cap : Nat} {l : List Nd} (h : NsS S w (.slice a k cap) l) {j : Nat} {y : Nd} (hy : l[j]? = some y) :
    ∃ g off text kids rows trows, a = some ⟨g, off, none⟩ ∧ NAt S w g (off + j * 10) y text kids rows trows := by
  cases h with
  | mk _ _ L hl hs hh hk =>
    obtain ⟨x, hx⟩ : ∃ x, L[j]? = some x := ⟨L[j]'(by have := (List.getElem?_eq_some_iff.1 hy).1; omega), List.getElem?_eq_getElem _⟩
    obtain ⟨g, off, e, hg, hc⟩ := hs.at hx
    have H := hh j x y hx hy
    have K := hk j x y hx hy
    obtain ⟨t1, t2, et⟩ := H.text.1.len
    obtain ⟨k1, k2, ek⟩ := K.len
    obtain ⟨r1, r2, er⟩ := H.rows.len
    obtain ⟨q1, q2, eq⟩ := H.trows.len
    have hT := H.text
    have hR := H.rows
    have hQ := H.trows
    rw [et] at hT
    rw [ek] at K
    rw [er] at hR
    rw [eq] at hQ
    have hcell : ∀ i c, (ncell x)[i]? = some c → w.cell? ⟨g, off + j * 10 + i, none⟩ = some c := fun i c h => by rw [Nat.add_assoc]; exact hc i c h
    refine ⟨g, off, (t1, y.hd.text.length, t2), (k1, y.kids.length, k2), (r1, y.hd.rows.length, r2), (q1, y.hd.grid.rows.length, q2), e,
      ⟨hcell 0 _ (by simp [ncell, H.kind]), hcell 1 _ (by simp [ncell, H.line]), hcell 2 _ (by simp [ncell, H.n]), hcell 3 _ (by simp [ncell, et]), hcell 4 _ (by simp [ncell, ek]), hcell 5 _ (by simp [ncell, er]), hcell 6 _ (by simp [ncell, H.cols]), hcell 7 _ (by simp [ncell, eq]), hcell 8 _ (by simp [ncell, H.box]), hcell 9 _ (by simp [ncell, H.all]), hg, hT, K, hR, hQ⟩⟩
end Go.Proofs.YtpccjgoeoeehoaaDoor
namespace Go.Proofs.YtpccjgoeoeehoaaDoor
open Go.RowKit
/-- A row without blanks at its end. -/
def trm : List Gly → List Gly
  | [] => []
  | g :: l => if trm l = [] ∧ g.1 = 32 then [] else g :: trm l
/-- Blanks: none at the begin, one of several. -/
def sqA : Bool → List Gly → List Gly
  | _, [] => []
  | b, g :: l => if g.1 = 32 then (if b then (32, 0) :: sqA false l else sqA false l) else g :: sqA true l
def sqz (l : List Gly) : List Gly := sqA false (trm l)
theorem trm_cons (g : Gly) (l : List Gly) : trm (g :: l) = if trm l = [] ∧ g.1 = 32 then [] else g :: trm l := rfl
theorem trm_idem : ∀ l : List Gly, trm (trm l) = trm l
  | [] => rfl
  | g :: l => by
    have ih := trm_idem l
    rw [trm_cons]
    split
    · rfl
    · rename_i h
      rw [trm_cons, ih, if_neg h]
theorem trm_inked : ∀ l : List Gly, (trm l).filter (fun g => g.1 != 32) = l.filter (fun g => g.1 != 32)
  | [] => rfl
  | g :: l => by
    have ih := trm_inked l
    rw [trm_cons]
    split
    · rename_i h
      rw [h.1] at ih
      rw [List.filter_cons_of_neg (by simp [h.2]), ← ih]
    · by_cases hg : g.1 = 32
      · rw [List.filter_cons_of_neg (by simp [hg]), List.filter_cons_of_neg (by simp [hg]), ih]
      · rw [List.filter_cons_of_pos (by simp [hg]), List.filter_cons_of_pos (by simp [hg]), ih]
theorem trm_len : ∀ l : List Gly, (trm l).length ≤ l.length
  | [] => by simp [trm]
  | g :: l => by
    have ih := trm_len l
    rw [trm_cons]
    split
    · simp
    · simp only [List.length_cons]; omega
theorem sqA_blank (b : Bool) {g : Gly} (h : g.1 = 32) (l : List Gly) : sqA b (g :: l) = if b then (32, 0) :: sqA false l else sqA false l := by
  show (if g.1 = 32 then _ else _) = _
  rw [if_pos h]
theorem sqA_other (b : Bool) {g : Gly} (h : g.1 ≠ 32) (l : List Gly) : sqA b (g :: l) = g :: sqA true l := by
  show (if g.1 = 32 then _ else _) = _
  rw [if_neg h]
theorem sqA_inked : ∀ (b : Bool) (l : List Gly), (sqA b l).filter (fun g => g.1 != 32) = l.filter (fun g => g.1 != 32)
  | _, [] => rfl
  | b, g :: l => by
    by_cases hg : g.1 = 32
    · rw [sqA_blank b hg, List.filter_cons_of_neg (by simp [hg])]
      cases b
      · exact sqA_inked false l
      · rw [if_pos rfl, List.filter_cons_of_neg (by simp)]
        exact sqA_inked false l
    · rw [sqA_other b hg, List.filter_cons_of_pos (by simp [hg]), List.filter_cons_of_pos (by simp [hg]), sqA_inked true l]
theorem sqA_len : ∀ (b : Bool) (l : List Gly), (sqA b l).length ≤ l.length
  | _, [] => by simp [sqA]
  | b, g :: l => by
    by_cases hg : g.1 = 32
    · rw [sqA_blank b hg]
      have := sqA_len false l
      cases b
      · simp only [List.length_cons, Bool.false_eq_true, if_false]; omega
      · simp only [if_true, List.length_cons]; omega
    · rw [sqA_other b hg]
      have := sqA_len true l
      simp only [List.length_cons]; omega
theorem sqz_len (l : List Gly) : (sqz l).length ≤ l.length := Nat.le_trans (sqA_len false _) (trm_len l)
theorem sqz_nil : sqz [] = [] := rfl
def side (c : UInt8) : Bool := c == 108 || c == 99 || c == 114
def mcols (cols : List UInt8) : List UInt8 := if (cols.filter side).take 20 = [] then [108] else (cols.filter side).take 20
/-- The first n cells, squeezed, or none. -/
def mcells : Nat → List (List Gly) → List (List Gly)
  | 0, _ => []
  | n + 1, [] => [] :: mcells n []
  | n + 1, c :: l => sqz c :: mcells n l
def mrowT (n : Nat) (r : Trow) : Trow := (r.1, if r.1 then [] else mcells n r.2)
def mend (t : Tab) : Tab := ⟨mcols t.cols, t.rows.map (mrowT (mcols t.cols).length), t.box, t.all && t.box⟩
theorem mcells_len : ∀ (n : Nat) (l : List (List Gly)), (mcells n l).length = n
  | 0, _ => rfl
  | n + 1, [] => by simp [mcells, mcells_len n []]
  | n + 1, c :: l => by simp [mcells, mcells_len n l]
theorem mcols_ok (c : List UInt8) : 1 ≤ (mcols c).length ∧ (mcols c).length ≤ 20 ∧ (mcols c).all side = true := by
  unfold mcols
  split
  · exact ⟨by decide, by decide, by decide⟩
  · rename_i h
    refine ⟨?_, ?_, ?_⟩
    · have := List.length_pos_iff.2 h
      omega
    · rw [List.length_take]; omega
    · rw [List.all_eq_true]
      intro x hx
      exact (List.mem_filter.1 (List.mem_of_mem_take hx)).2
end Go.Proofs.YtpccjgoeoeehoaaDoor
namespace Go.Proofs.YtpccjgoeoeehoaaDoor
open Go.RowKit
/-- May a kind stand in another one? -/
def stands (k w : Int) : Bool := (k == 1 && w == 0) || (k == 2 && w == 1) || (decide (3 ≤ k) && decide (k ≤ 7))
def noGrid : Tab := ⟨[], [], false, false⟩
def clipI (lo hi x : Int) : Int := max lo (min x hi)
/-- What a node of a kind has of another one, but its kids. -/
def ownH (h : Hd) (k : Int) : Hd :=
  ⟨k, clipI 0 1099511627775 h.line, if k = 4 ∨ k = 5 then clipI 0 200 h.n else 0, if 1 ≤ k ∧ k ≤ 4 then sqz h.text else [], if k = 6 then h.rows else [], if k = 7 then mend h.grid else noGrid⟩
/-- Has a node what its kind must have? -/
def fullB (h : Hd) (kids : Bool) : Bool :=
  if 1 ≤ h.kind ∧ h.kind ≤ 3 then decide (h.text ≠ []) else if h.kind = 5 then kids else if h.kind = 6 then decide (h.rows ≠ []) else h.kind == 4 || (h.kind == 7 && decide (h.grid.rows ≠ []))
def hasK {α : Type} (l : List α) : Bool := !l.isEmpty
def kindAt (k w : Int) : Int := if (k = 1 ∨ k = 2) ∧ stands k w = false then 3 else k
def mayK (k : Int) : Bool := k == 1 || k == 2 || k == 4 || k == 5
/-- Do a node's kids stand in it? -/
def innerB (h : Hd) (w : Int) : Bool := mayK h.kind && kindAt h.kind w == h.kind && (kindAt h.kind w == 5 || fullB (ownH h (kindAt h.kind w)) false)
mutual
/-- A node put right, within a kind, so deep, so many left (it itself is counted already). -/
def tdN : Nd → Int → Nat → Nat → List Nd × Nat
  | .mk h ks, w, d, n =>
    if innerB h w then
      (if fullB (ownH h (kindAt h.kind w)) (hasK (tdL ks (kindAt h.kind w) (d + 1) n).1) then [.mk (ownH h (kindAt h.kind w)) (tdL ks (kindAt h.kind w) (d + 1) n).1] else [], (tdL ks (kindAt h.kind w) (d + 1) n).2)
    else
      ((if fullB (ownH h (kindAt h.kind w)) false then [.mk (ownH h (kindAt h.kind w)) []] else []) ++ (if mayK h.kind then (tdL ks w d n).1 else []), if mayK h.kind then (tdL ks w d n).2 else n)
def tdL : List Nd → Int → Nat → Nat → List Nd × Nat
  | [], _, _, n => ([], n)
  | x :: l, w, d, n => if n = 0 ∨ 20 ≤ d then ([], n) else ((tdN x w d (n - 1)).1 ++ (tdL l w d (tdN x w d (n - 1)).2).1, (tdL l w d (tdN x w d (n - 1)).2).2)
end
def tidyL (l : List Nd) : List Nd := (tdL l 0 0 20000).1
theorem tdL_nil (w : Int) (d n : Nat) : tdL [] w d n = ([], n) := by simp [tdL]
theorem tdL_cons (x : Nd) (l : List Nd) (w : Int) (d n : Nat) : tdL (x :: l) w d n = if n = 0 ∨ 20 ≤ d then ([], n) else ((tdN x w d (n - 1)).1 ++ (tdL l w d (tdN x w d (n - 1)).2).1, (tdL l w d (tdN x w d (n - 1)).2).2) := by
  conv => lhs; unfold tdL
theorem tdL_stop (l : List Nd) (w : Int) (d n : Nat) (h : n = 0 ∨ 20 ≤ d) : tdL l w d n = ([], n) := by
  cases l with
  | nil => exact tdL_nil w d n
  | cons x l => rw [tdL_cons, if_pos h]
theorem tdL_app : ∀ (a b : List Nd) (w : Int) (d n : Nat), tdL (a ++ b) w d n = ((tdL a w d n).1 ++ (tdL b w d (tdL a w d n).2).1, (tdL b w d (tdL a w d n).2).2)
  | [], b, w, d, n => by rw [tdL_nil]; simp
  | x :: a, b, w, d, n => by
    rw [List.cons_append, tdL_cons, tdL_cons x a]
    by_cases h : n = 0 ∨ 20 ≤ d
    · rw [if_pos h, if_pos h, tdL_stop b w d n h]
      simp
    · rw [if_neg h, if_neg h]
      simp only
      rw [tdL_app a b]
      simp
theorem tdL_one (x : Nd) (w : Int) (d n : Nat) (h : ¬ (n = 0 ∨ 20 ≤ d)) : tdL [x] w d n = tdN x w d (n - 1) := by
  rw [tdL_cons, if_neg h, tdL_nil]
  simp
/-- One more in the loop. -/
theorem td_next {l : List Nd} {p : Nat} {y : Nd} (hy : l[p]? = some y) (w : Int) (d n : Nat) (h : ¬ ((tdL (l.take p) w d n).2 = 0 ∨ 20 ≤ d)) :
    tdL (l.take (p + 1)) w d n = ((tdL (l.take p) w d n).1 ++ (tdN y w d ((tdL (l.take p) w d n).2 - 1)).1, (tdN y w d ((tdL (l.take p) w d n).2 - 1)).2) := by
  rw [List.take_add_one, hy]
  simp only [Option.toList_some]
  rw [tdL_app, tdL_one _ _ _ _ h]
/-- The loop is left early. -/
theorem td_early (l : List Nd) (p : Nat) (w : Int) (d n : Nat) (h : (tdL (l.take p) w d n).2 = 0 ∨ 20 ≤ d) : tdL l w d n = tdL (l.take p) w d n := by
  conv => lhs; rw [← List.take_append_drop p l]
  rw [tdL_app, tdL_stop _ _ _ _ h]
  simp
theorem tdN_mk (h : Hd) (ks : List Nd) (w : Int) (d n : Nat) : tdN (.mk h ks) w d n = if innerB h w then
      (if fullB (ownH h (kindAt h.kind w)) (hasK (tdL ks (kindAt h.kind w) (d + 1) n).1) then [.mk (ownH h (kindAt h.kind w)) (tdL ks (kindAt h.kind w) (d + 1) n).1] else [], (tdL ks (kindAt h.kind w) (d + 1) n).2)
    else
      ((if fullB (ownH h (kindAt h.kind w)) false then [.mk (ownH h (kindAt h.kind w)) []] else []) ++ (if mayK h.kind then (tdL ks w d n).1 else []), if mayK h.kind then (tdL ks w d n).2 else n) := by
  conv => lhs; unfold tdN
mutual
/-- No more are left than there were. -/
theorem tdN_le : ∀ (x : Nd) (w : Int) (d n : Nat), (tdN x w d n).2 ≤ n
  | .mk h ks, w, d, n => by
    rw [tdN_mk]
    split
    · exact tdL_le ks _ _ _
    · simp only
      split
      · exact tdL_le ks _ _ _
      · exact Nat.le_refl _
theorem tdL_le : ∀ (l : List Nd) (w : Int) (d n : Nat), (tdL l w d n).2 ≤ n
  | [], w, d, n => by rw [tdL_nil]; exact Nat.le_refl _
  | x :: l, w, d, n => by
    rw [tdL_cons]
    split
    · exact Nat.le_refl _
    · simp only
      have h1 := tdN_le x w d (n - 1)
      have h2 := tdL_le l w d (tdN x w d (n - 1)).2
      omega
end
end Go.Proofs.YtpccjgoeoeehoaaDoor
namespace Go.Proofs.YtpccjgoeoeehoaaDoor
open Go.RowKit
theorem full_kind {h : Hd} {b : Bool} (hf : fullB h b = true) : 1 ≤ h.kind ∧ h.kind ≤ 7 := by
  unfold fullB at hf
  split at hf
  · omega
  · split at hf
    · omega
    · split at hf
      · omega
      · simp only [Bool.or_eq_true, Bool.and_eq_true, beq_iff_eq] at hf
        omega
mutual
/-- How many are made. -/
theorem tdN_cnt : ∀ (x : Nd) (w : Int) (d n : Nat), cntL (tdN x w d n).1 + (tdN x w d n).2 ≤ n + 1
  | .mk h ks, w, d, n => by
    rw [tdN_mk]
    split
    · have ih := tdL_cnt ks (kindAt h.kind w) (d + 1) n
      simp only
      split
      · simp only [cntL, cntN]; omega
      · simp only [cntL]; omega
    · simp only
      rw [cntL_app]
      have h1 : cntL (if fullB (ownH h (kindAt h.kind w)) false = true then [Nd.mk (ownH h (kindAt h.kind w)) []] else []) ≤ 1 := by
        split <;> simp [cntL, cntN]
      by_cases hm : mayK h.kind = true
      · rw [if_pos hm, if_pos hm]
        have ih := tdL_cnt ks w d n
        omega
      · rw [if_neg hm, if_neg hm]
        simp only [cntL]; omega
theorem tdL_cnt : ∀ (l : List Nd) (w : Int) (d n : Nat), cntL (tdL l w d n).1 + (tdL l w d n).2 ≤ n
  | [], w, d, n => by rw [tdL_nil]; simp [cntL]
  | x :: l, w, d, n => by
    rw [tdL_cons]
    split
    · simp [cntL]
    · rename_i h
      simp only
      rw [cntL_app]
      have h1 := tdN_cnt x w d (n - 1)
      have h2 := tdL_cnt l w d (tdN x w d (n - 1)).2
      omega
end
theorem full_other {h : Hd} {b : Bool} (hf : fullB h b = true) (h5 : h.kind ≠ 5) (c : Bool) : fullB h c = true := by
  unfold fullB at hf ⊢
  split at hf
  · rename_i q; rw [if_pos q]; exact hf
  · rename_i q
    rw [if_neg q, if_neg h5]
    exact hf
theorem mayK_iff (k : Int) : mayK k = true ↔ k = 1 ∨ k = 2 ∨ k = 4 ∨ k = 5 := by
  unfold mayK
  simp only [Bool.or_eq_true, beq_iff_eq]
  omega
/-- All text. -/
def ink (l : List Gly) : List Gly := l.filter fun g => g.1 != 32
end Go.Proofs.YtpccjgoeoeehoaaDoor
namespace Go.Proofs.YtpccjgoeoeehoaaDoor
open Go.Shelf Go.RowKit Go.Lib
def mapRen : Go.Shelf.Ren := ⟨fun | 230 => 98 | 197 => 99 | 118 => 100 | 165 => 101 | 166 => 102 | 168 => 103 | 270 => 104 | 167 => 105 | 169 => 106 | 260 => 107 | 240 => 108 | 241 => 109 | 242 => 110 | 276 => 111 | 277 => 112 | 278 => 113 | n => n, fun | 107 => 117 | 9 => 9 | 72 => 122 | 0 => 0 | 4 => 4 | 3 => 3 | 21 => 21 | 105 => 123 | 76 => 128 | 5 => 5 | 75 => 127 | 70 => 119 | 20 => 20 | 37 => 120 | 127 => 134 | 119 => 135 | 46 => 136 | 139 => 139 | 138 => 138 | 164 => 140 | 51 => 143 | 80 => 132 | n => n, fun | 3 => 0 | 4 => 1 | n => n⟩
theorem mapLays : Go.Proofs.Lays.n230 Tryd.prog mapRen := {
  mixed := by kernel_rfl
  f118 := Tryd.func100.trans (congrArg some (by kernel_rfl))
  f165 := Tryd.func101.trans (congrArg some (by kernel_rfl))
  f166 := Tryd.func102.trans (congrArg some (by kernel_rfl))
  f167 := Tryd.func105.trans (congrArg some (by kernel_rfl))
  f168 := Tryd.func103.trans (congrArg some (by kernel_rfl))
  f169 := Tryd.func106.trans (congrArg some (by kernel_rfl))
  f197 := Tryd.func99.trans (congrArg some (by kernel_rfl))
  f230 := Tryd.func98.trans (congrArg some (by kernel_rfl))
  f240 := Tryd.func108.trans (congrArg some (by kernel_rfl))
  f241 := Tryd.func109.trans (congrArg some (by kernel_rfl))
  f242 := Tryd.func110.trans (congrArg some (by kernel_rfl))
  f260 := Tryd.func107.trans (congrArg some (by kernel_rfl))
  f270 := Tryd.func104.trans (congrArg some (by kernel_rfl))
  f276 := Tryd.func111.trans (congrArg some (by kernel_rfl))
  f277 := Tryd.func112.trans (congrArg some (by kernel_rfl))
  f278 := Tryd.func113.trans (congrArg some (by kernel_rfl))
  t0 := Tryd.underlying0
  a0 := Tryd.isAgg0
  z0 := Tryd.sizeOf0
  v0 := Tryd.zeroValue0
  t3 := Tryd.underlying3
  a3 := Tryd.isAgg3
  z3 := Tryd.sizeOf3
  v3 := Tryd.zeroValue3
  t4 := Tryd.underlying4
  a4 := Tryd.isAgg4
  z4 := Tryd.sizeOf4
  v4 := Tryd.zeroValue4
  t5 := Tryd.underlying5
  a5 := Tryd.isAgg5
  z5 := Tryd.sizeOf5
  v5 := Tryd.zeroValue5
  t9 := Tryd.underlying9
  a9 := Tryd.isAgg9
  z9 := Tryd.sizeOf9
  v9 := Tryd.zeroValue9
  t20 := Tryd.underlying20
  a20 := Tryd.isAgg20
  z20 := Tryd.sizeOf20
  v20 := Tryd.zeroValue20
  t21 := Tryd.underlying21
  a21 := Tryd.isAgg21
  z21 := Tryd.sizeOf21
  v21 := Tryd.zeroValue21
  t37 := Tryd.underlying120
  a37 := Tryd.isAgg120
  z37 := Tryd.sizeOf120
  v37 := Tryd.zeroValue120
  t46 := Tryd.underlying136
  a46 := Tryd.isAgg136
  z46 := Tryd.sizeOf136
  v46 := Tryd.zeroValue136
  t51 := Tryd.underlying143
  a51 := Tryd.isAgg143
  z51 := Tryd.sizeOf143
  v51 := Tryd.zeroValue143
  t70 := Tryd.underlying119
  a70 := Tryd.isAgg119
  z70 := Tryd.sizeOf119
  v70 := Tryd.zeroValue119
  t72 := Tryd.underlying122
  a72 := Tryd.isAgg122
  z72 := Tryd.sizeOf122
  v72 := Tryd.zeroValue122
  t75 := Tryd.underlying127
  a75 := Tryd.isAgg127
  z75 := Tryd.sizeOf127
  v75 := Tryd.zeroValue127
  t76 := Tryd.underlying128
  a76 := Tryd.isAgg128
  z76 := Tryd.sizeOf128
  v76 := Tryd.zeroValue128
  t105 := Tryd.underlying123
  a105 := Tryd.isAgg123
  z105 := Tryd.sizeOf123
  v105 := Tryd.zeroValue123
  t107 := Tryd.underlying117
  a107 := Tryd.isAgg117
  z107 := Tryd.sizeOf117
  v107 := Tryd.zeroValue117
  t119 := Tryd.underlying135
  a119 := Tryd.isAgg135
  z119 := Tryd.sizeOf135
  t127 := Tryd.underlying134
  a127 := Tryd.isAgg134
  z127 := Tryd.sizeOf134
  v127 := Tryd.zeroValue134
  t138 := Tryd.underlying138
  a138 := Tryd.isAgg138
  z138 := Tryd.sizeOf138
  v138 := Tryd.zeroValue138
  t139 := Tryd.underlying139
  a139 := Tryd.isAgg139
  z139 := Tryd.sizeOf139
  v139 := Tryd.zeroValue139
  t164 := Tryd.underlying140
  a164 := Tryd.isAgg140
  z164 := Tryd.sizeOf140
  v164 := Tryd.zeroValue140
  g3 := by kernel_rfl
  g4 := by kernel_rfl }
theorem mapExtra : Builder.Extra Tryd.prog mapRen := {
  sizeBuilder := by kernel_rfl
  liesBuilder := by kernel_rfl
  t5 := Tryd.underlying5
  a5 := Tryd.isAgg5
  z5 := Tryd.sizeOf5
  v5 := Tryd.zeroValue5
  infoByte := by kernel_rfl
  cellsByte := by kernel_rfl
  sizeByte := by kernel_rfl
  neB5 := by decide }
/-- The tables of unicode/utf8 lie as they were laid. -/
def U8 (w : World) : Prop := Lib.Utf8Tabs 0 1 w
theorem U8.below {w w' : World} (h : U8 w) (hb : Below w.heap.size w w') : U8 w' := Utf8Tabs_below h hb
theorem smap_any (g : Nat) (lb : Array Value) (eg : ∀ args w, (callFunc g args).run Tryd.prog w = .ok (.enter g args) w) (f : Int → Int) (s : ByteArray) (w : World) (hs : s.size < 35184372088832) (hf : MapGrows Tryd.prog g lb f w) (hnn : ∀ x : Nat, x ≤ 1114111 → -2147483648 ≤ f x ∧ f x ≤ 2147483647) (hT : U8 w) :
    Calls Tryd.prog 98 #[.func (.func g) #[] lb, .string s] w fun e w' => e = .returned (.string ⟨(Lib.mapD f s.data.toList).toArray⟩) ∧ Below w.heap.size w w' := Any.strings_Map_grows mapLays mapExtra g lb eg f s w hs hf hnn hT
end Go.Proofs.YtpccjgoeoeehoaaDoor
namespace Go.Proofs.YtpccjgoeoeehoaaDoor
open Go.RowKit
theorem Kp.drewN (S : Nat → Prop) (w : World) (m : Nat) : Kp S w (w.drewN m) := fun b _ => (below_drewN (Below.refl (b + 1) w) m).block b (by omega)
theorem NsS.drewN {S : Nat → Prop} {w : World} {v : Value} {l : List Nd} (h : NsS S w v l) (m : Nat) : NsS S (w.drewN m) v l := h.keep (Kp.drewN S w m)
def RdN (x : Value) (w : World) (e : Ending) (w' : World) : Prop := e = .returned x ∧ ∃ m, w' = w.drewN m
set_option maxRecDepth 100000 in
set_option maxHeartbeats 2000000 in
theorem rcount_any (S : Nat → Prop) : ∀ (n : Nat) (l : List Nd), cntL l = n → n ≤ 1000000000 → ∀ (v : Value) (w : World), NsS S w v l → Calls Tryd.prog 49 #[v] w (RdN (.int .i64 (cntL l : Int)) w) := by
  intro n
  induction n using Nat.strongRecOn with
  | _ n IH =>
    intro l hn hb v w hv
    have HV := Lib.hid hv
    obtain ⟨aa, ca, rfl⟩ := hv.len
    have HI : Hid (∀ (k : List Nd), cntL k < n → ∀ (v : Value) (w : World), NsS S w v k → Calls Tryd.prog 49 #[v] w (RdN (.int .i64 (cntL k : Int)) w)) := Lib.hid (fun k hk => IH (cntL k) hk k rfl (by omega))
    have HT := Lib.hid (fun p => cnt_take l p)
    have hll := cnt_len l
    clear hv IH
    unfold RdN
    go_enter Tryd.func49, Tryd.ntmps49
    go_wp2_with fail
    go_loopw [3, 4] (fun s i wr => ∃ (p m : Nat), Hid (wr = w.drewN m) ∧ i = .int .i64 (p : Int) ∧ p ≤ l.length ∧ s = .int .i64 (cntL (l.take p) : Int)) (fun _ i _ => l.length - (intOf i).toNat)
    case atStart => exact ⟨0, 0, Lib.hid rfl, rfl, by omega, by simp [cntL]⟩
    case round =>
      obtain ⟨p, m, HW, rfl, hp, rfl⟩ := hrel
      by_cases hlt : p < l.length
      · obtain ⟨y, hy⟩ : ∃ y, l[p]? = some y := ⟨l[p], List.getElem?_eq_getElem hlt⟩
        have HN := Lib.hid (cnt_next hy)
        have hle := cnt_le hy
        have hlt' : (p : Int) < (l.length : Int) := by omega
        have hp0 : (0 : Int) ≤ (p : Int) := by omega
        obtain ⟨g, off, text, kids, rows, trows, rfl, hA⟩ := (HV.out.drewN m).at hy
        rw [← HW.out] at hA
        have c4 := hA.c4
        obtain ⟨c, hc⟩ : ∃ c, cntL (l.take p) = c := ⟨_, rfl⟩
        rw [hc] at hle HN
        obtain ⟨k, hk⟩ : ∃ k, cntL y.kids = k := ⟨_, rfl⟩
        have hR := HI.out y.kids (by omega) _ _ hA.kids
        rw [hk] at hle HN hR
        unfold RdN at hR
        have HR := Lib.hid hR
        have w1 : IntKind.i64.wrap ((c : Int) + 1) = (c : Int) + 1 := IntWalk.i64_in _ (by omega)
        have w2 : IntKind.i64.wrap ((c : Int) + 1 + (k : Int)) = (c : Int) + 1 + (k : Int) := IntWalk.i64_in _ (by omega)
        clear hA hR hy hk
        rw [hc]
        clear hc
        go_wp2_with fail
        refine HR.out.mono ?_
        rintro e w3 ⟨rfl, m3, hw3⟩
        have HW3 : Hid (w3 = w.drewN (m + m3)) := Lib.hid (by rw [hw3, HW.out, World.drewN_drewN])
        clear hw3 HR
        go_wp2_with fail
        go_roundw
        case rel => exact ⟨p + 1, m + m3, HW3, by go_num, by omega, by rw [HN.out]; first | rfl | (congr 1; omega)⟩
        case measure => (simp [intOf]; try omega)
      · obtain rfl : p = l.length := by omega
        have hlt' : ¬ (l.length : Int) < (l.length : Int) := by omega
        rw [List.take_length]
        go_wp2_with fail
        go_ret
        exact ⟨rfl, m, HW.out⟩
/-- 'max' of two numbers, kept whole. -/
noncomputable def mxS (args : Array Value) : Sem Next := do pure (.value (← Builtin.max_ #[3, 3] 3 args))
theorem builtin_mxS (cs : Array Bool) (args : Array Value) : builtin .max #[3, 3] 3 cs args = mxS args := rfl
theorem mxS_run (x y z : Int) (hz : (if y > x then y else x) = z) (w : World) : (mxS #[.int .i64 x, .int .i64 y]).run Tryd.prog w = .ok (.value (.int .i64 z)) w := by
  unfold mxS
  simp only [Sem.run_bind, Sem.run_pure, run_max_int2, Result.andThen_ok, hz]
attribute [local go_sem ↓ high] builtin_mxS
set_option maxRecDepth 100000 in
set_option maxHeartbeats 2000000 in
theorem rdeep_any (S : Nat → Prop) : ∀ (n : Nat) (l : List Nd), cntL l = n → n ≤ 1000000000 → ∀ (v : Value) (w : World), NsS S w v l → Calls Tryd.prog 50 #[v] w (RdN (.int .i64 (dpL l : Int)) w) := by
  intro n
  induction n using Nat.strongRecOn with
  | _ n IH =>
    intro l hn hb v w hv
    have HV := Lib.hid hv
    obtain ⟨aa, ca, rfl⟩ := hv.len
    have HI : Hid (∀ (k : List Nd), cntL k < n → ∀ (v : Value) (w : World), NsS S w v k → Calls Tryd.prog 50 #[v] w (RdN (.int .i64 (dpL k : Int)) w)) := Lib.hid (fun k hk => IH (cntL k) hk k rfl (by omega))
    have hll := cnt_len l
    clear hv IH
    unfold RdN
    go_enter Tryd.func50, Tryd.ntmps50
    go_wp2_with fail
    go_loopw [3, 4] (fun s i wr => ∃ (p m : Nat), Hid (wr = w.drewN m) ∧ i = .int .i64 (p : Int) ∧ p ≤ l.length ∧ s = .int .i64 (dpL (l.take p) : Int)) (fun _ i _ => l.length - (intOf i).toNat)
    case atStart => exact ⟨0, 0, Lib.hid rfl, rfl, by omega, by simp [dpL]⟩
    case round =>
      obtain ⟨p, m, HW, rfl, hp, rfl⟩ := hrel
      by_cases hlt : p < l.length
      · obtain ⟨y, hy⟩ : ∃ y, l[p]? = some y := ⟨l[p], List.getElem?_eq_getElem hlt⟩
        have HN := Lib.hid (dp_next hy)
        have hle := cnt_le hy
        have hd1 := dp_take l p
        have hd2 := dp_le hy
        have hd3 := dp_cntL l
        have hlt' : (p : Int) < (l.length : Int) := by omega
        have hp0 : (0 : Int) ≤ (p : Int) := by omega
        obtain ⟨g, off, text, kids, rows, trows, rfl, hA⟩ := (HV.out.drewN m).at hy
        rw [← HW.out] at hA
        have c4 := hA.c4
        obtain ⟨c, hc⟩ : ∃ c, dpL (l.take p) = c := ⟨_, rfl⟩
        rw [hc] at hd1 HN
        obtain ⟨k, hk⟩ : ∃ k, dpL y.kids = k := ⟨_, rfl⟩
        have hR := HI.out y.kids (by omega) _ _ hA.kids
        rw [hk] at hd2 HN hR
        unfold RdN at hR
        have HR := Lib.hid hR
        have w2 : IntKind.i64.wrap (1 + (k : Int)) = 1 + (k : Int) := IntWalk.i64_in _ (by omega)
        have mm := mxS_run (c : Int) (1 + (k : Int)) ((max c (1 + k) : Nat) : Int) (by split <;> omega)
        clear hA hR hy hk
        rw [hc]
        clear hc
        go_wp2_with fail
        refine HR.out.mono ?_
        rintro e w3 ⟨rfl, m3, hw3⟩
        have HW3 : Hid (w3 = w.drewN (m + m3)) := Lib.hid (by rw [hw3, HW.out, World.drewN_drewN])
        clear hw3 HR
        go_wp2_with fail
        go_roundw
        case rel => exact ⟨p + 1, m + m3, HW3, by go_num, by omega, by rw [HN.out]⟩
        case measure => (simp [intOf]; try omega)
      · obtain rfl : p = l.length := by omega
        have hlt' : ¬ (l.length : Int) < (l.length : Int) := by omega
        rw [List.take_length]
        go_wp2_with fail
        go_ret
        exact ⟨rfl, m, HW.out⟩
end Go.Proofs.YtpccjgoeoeehoaaDoor
namespace Go.Proofs.YtpccjgoeoeehoaaDoor
open Go.RowKit
theorem bsz (b : List UInt8) : (⟨b.toArray⟩ : ByteArray).size = b.length := by simp [Go.Lib.size_eq]
theorem NAt.keep {S : Nat → Prop} {w w' : World} {g o : Nat} {y : Nd} {text kids rows trows : PV} (h : NAt S w g o y text kids rows trows) (hk : Kp S w w') : NAt S w' g o y text kids rows trows :=
  have e : w'.heap[g]? = w.heap[g]? := hk g h.blk
  ⟨(World.cell?_of_block e).trans h.c0, (World.cell?_of_block e).trans h.c1, (World.cell?_of_block e).trans h.c2, (World.cell?_of_block e).trans h.c3, (World.cell?_of_block e).trans h.c4, (World.cell?_of_block e).trans h.c5, (World.cell?_of_block e).trans h.c6, (World.cell?_of_block e).trans h.c7, (World.cell?_of_block e).trans h.c8, (World.cell?_of_block e).trans h.c9,
   h.blk, h.text.keep hk, h.kids.keep hk, h.rows.keep hk, h.trows.keep hk⟩
set_option maxRecDepth 100000 in
set_option maxHeartbeats 4000000 in
theorem rlong_any (S : Nat → Prop) : ∀ (n : Nat) (l : List Nd), cntL l = n → nlL l ≤ 1000000000 → ∀ (v : Value) (w : World), NsS S w v l → Calls Tryd.prog 19 #[v] w (RdN (.int .i64 (nlL l : Int)) w) := by
  intro n
  induction n using Nat.strongRecOn with
  | _ n IH =>
    intro l hn hb v w hv
    have HV := Lib.hid hv
    obtain ⟨aa, ca, rfl⟩ := hv.len
    have HI : Hid (∀ (k : List Nd), cntL k < n → nlL k ≤ 1000000000 → ∀ (v : Value) (w : World), NsS S w v k → Calls Tryd.prog 19 #[v] w (RdN (.int .i64 (nlL k : Int)) w)) := Lib.hid (fun k hk hb => IH (cntL k) hk k rfl hb)
    have hll := cnt_len l
    have hnl := cnt_nlL l
    clear hv IH
    unfold RdN
    go_enter Tryd.func19, Tryd.ntmps19
    go_wp2_with fail
    go_loopw [3, 4] (fun s i wr => ∃ (p m : Nat), Hid (wr = w.drewN m) ∧ i = .int .i64 (p : Int) ∧ p ≤ l.length ∧ s = .int .i64 (nlL (l.take p) : Int)) (fun _ i _ => l.length - (intOf i).toNat)
    case atStart => exact ⟨0, 0, Lib.hid rfl, rfl, by omega, by simp [nlL]⟩
    case round =>
      obtain ⟨p, m, HW, rfl, hp, rfl⟩ := hrel
      by_cases hlt : p < l.length
      · obtain ⟨y, hy⟩ : ∃ y, l[p]? = some y := ⟨l[p], List.getElem?_eq_getElem hlt⟩
        have HN := Lib.hid (nl_next hy)
        have hle := nl_le hy
        have hcl := cnt_le hy
        have hlt' : (p : Int) < (l.length : Int) := by omega
        have hp0 : (0 : Int) ≤ (p : Int) := by omega
        obtain ⟨g, off, text, kids, rows, trows, rfl, hA⟩ := HV.out.at hy
        have HA0 := Lib.hid hA
        have HA : Hid (∀ m, NAt S (w.drewN m) g (off + p * 10) y text kids rows trows) := Lib.hid (fun m => hA.keep (Kp.drewN S w m))
        have hA1 : NAt S wr g (off + p * 10) y text kids rows trows := HW.out ▸ HA.out m
        have c3 := hA1.c3
        have c4 := hA1.c4
        have c6 := hA1.c6
        have hcs := bsz y.hd.grid.cols
        have hdd : hdl y.hd = 3 + y.hd.text.length + y.hd.grid.cols.length + (y.hd.rows.length + lens y.hd.rows) + trls y.hd.grid.rows := rfl
        obtain ⟨c, hc⟩ : ∃ c, nlL (l.take p) = c := ⟨_, rfl⟩
        rw [hc] at hle HN
        obtain ⟨k, hk⟩ : ∃ k, nlL y.kids = k := ⟨_, rfl⟩
        have HR : Hid (∀ q, Calls Tryd.prog 19 #[.slice kids.1 y.kids.length kids.2.2] (wr.drewN q) fun e w' => e = .returned (.int .i64 (k : Int)) ∧ ∃ m, w' = (wr.drewN q).drewN m) := Lib.hid (fun q => by
          have h := HI.out y.kids (by omega) (by omega) _ _ (hA1.kids.drewN q)
          rw [hk] at h
          exact h)
        rw [hk, hdd] at hle
        have HH := Lib.hid hdd
        obtain ⟨b0, hb0⟩ : ∃ b, c + 3 + y.hd.text.length + y.hd.grid.cols.length + k = b := ⟨_, rfl⟩
        have w0 : IntKind.i64.wrap ((c : Int) + 3) = (c : Int) + 3 := IntWalk.i64_in _ (by omega)
        have w1 : IntKind.i64.wrap ((c : Int) + 3 + (y.hd.text.length : Int)) = (c : Int) + 3 + (y.hd.text.length : Int) := IntWalk.i64_in _ (by omega)
        have w2 : IntKind.i64.wrap ((c : Int) + 3 + (y.hd.text.length : Int) + (y.hd.grid.cols.length : Int)) = (c : Int) + 3 + (y.hd.text.length : Int) + (y.hd.grid.cols.length : Int) := IntWalk.i64_in _ (by omega)
        have w3 : IntKind.i64.wrap ((c : Int) + 3 + (y.hd.text.length : Int) + (y.hd.grid.cols.length : Int) + (k : Int)) = (b0 : Int) := by
          rw [IntWalk.i64_in _ (by omega)]; omega
        clear hA hA1 hy hdd
        rw [hc]
        clear hc
        go_wp2_with fail
        go_quiet (first | (go_at_call 19; exact Calls.quiet_of (HR.out _)))
        generalize hwd : World.drewN wr _ = wd
        obtain ⟨m1, HW1⟩ : ∃ m1, Hid (wd = w.drewN m1) := ⟨_, Lib.hid (by rw [← hwd, HW.out, World.drewN_drewN])⟩
        clear hwd c3 c4 c6 w0 w1 w2 w3 HR hcs
        go_wp2_with fail
        go_loopw [3, 5] (fun s i wr => ∃ (q m : Nat), Hid (wr = w.drewN m) ∧ i = .int .i64 (q : Int) ∧ q ≤ y.hd.rows.length ∧ s = .int .i64 ((b0 + (q + lens (y.hd.rows.take q)) : Nat) : Int)) (fun _ i _ => y.hd.rows.length - (intOf i).toNat)
        case atStart => exact ⟨0, m1, HW1, rfl, by omega, by simp [lens]⟩
        case round =>
          obtain ⟨q, m2, HW2, rfl, hq, rfl⟩ := hrel
          have hA2 : NAt S wr g (off + p * 10) y text kids rows trows := HW2.out ▸ HA.out m2
          have c5 := hA2.c5
          have hli := lens_take y.hd.rows q
          by_cases hql : q < y.hd.rows.length
          · obtain ⟨r, hr⟩ : ∃ r, y.hd.rows[q]? = some r := ⟨y.hd.rows[q], List.getElem?_eq_getElem hql⟩
            have HLN := Lib.hid (lens_next hr)
            have hl2 := lens_le hr
            obtain ⟨g1, o1, b1, z1, he1, -, d0, -⟩ := hA2.rows.at hr
            rw [he1] at c5
            have hql' : (q : Int) < (y.hd.rows.length : Int) := by omega
            have hq0 : (0 : Int) ≤ (q : Int) := by omega
            obtain ⟨L, hL⟩ : ∃ L, b0 + (q + lens (y.hd.rows.take q)) = L := ⟨_, rfl⟩
            have HL := Lib.hid hL
            have w1 : IntKind.i64.wrap ((L : Int) + 1) = (L : Int) + 1 := IntWalk.i64_in _ (by omega)
            have w2 : IntKind.i64.wrap ((L : Int) + 1 + (r.length : Int)) = (L : Int) + 1 + (r.length : Int) := IntWalk.i64_in _ (by omega)
            clear hr he1 hA2
            rw [hL]
            clear hL
            go_wp2_with fail
            go_roundw
            case rel => exact ⟨q + 1, m2, HW2, by go_num, by omega, by rw [HLN.out]; have := HL.out; congr 1; omega⟩
            case measure => (simp [intOf]; try omega)
          · obtain rfl : q = y.hd.rows.length := by omega
            have hql' : ¬ (y.hd.rows.length : Int) < (y.hd.rows.length : Int) := by omega
            rw [List.take_length]
            obtain ⟨b1, hb1⟩ : ∃ b, b0 + (y.hd.rows.length + lens y.hd.rows) = b := ⟨_, rfl⟩
            rw [hb1]
            clear hA2 hli
            go_wp2_with fail
            go_loopw [3, 6] (fun s i wr => ∃ (q m : Nat), Hid (wr = w.drewN m) ∧ i = .int .i64 (q : Int) ∧ q ≤ y.hd.grid.rows.length ∧ s = .int .i64 ((b1 + trls (y.hd.grid.rows.take q) : Nat) : Int)) (fun _ i _ => y.hd.grid.rows.length - (intOf i).toNat)
            case atStart => exact ⟨0, m2, HW2, rfl, by omega, by simp [trls]⟩
            case round =>
              obtain ⟨q, m3, HW3, rfl, hq, rfl⟩ := hrel
              have hA3 : NAt S wr g (off + p * 10) y text kids rows trows := HW3.out ▸ HA.out m3
              have c7 := hA3.c7
              have hli := trls_take y.hd.grid.rows q
              have htn := trls_len y.hd.grid.rows
              by_cases hql : q < y.hd.grid.rows.length
              · obtain ⟨t, ht⟩ : ∃ t, y.hd.grid.rows[q]? = some t := ⟨y.hd.grid.rows[q], List.getElem?_eq_getElem hql⟩
                have HLN := Lib.hid (trls_next ht)
                have hl2 := trls_le ht
                obtain ⟨g1, o1, bb, z1, he1, -, d0, d1, hG⟩ := HA0.out.trows.at ht
                replace d1 : wr.cell? ⟨g1, o1 + q * 2 + 1, none⟩ = some (.slice bb t.2.length z1) := by
                  rw [HW3.out]
                  exact ((below_drewN (Below.refl (g1 + 1) w) m3).cell (p := ⟨g1, o1 + q * 2 + 1, none⟩) (by show g1 < g1 + 1; omega)).trans d1
                have HG : Hid (∀ m, GrS S (w.drewN m) (.slice bb t.2.length z1) t.2) := Lib.hid (fun m => hG.keep (Kp.drewN S w m))
                rw [he1] at c7
                have hql' : (q : Int) < (y.hd.grid.rows.length : Int) := by omega
                have hq0 : (0 : Int) ≤ (q : Int) := by omega
                have htl : trl t = 1 + t.2.length + lens t.2 := rfl
                have HTL := Lib.hid htl
                rw [htl] at hl2
                obtain ⟨L, hL⟩ : ∃ L, b1 + trls (y.hd.grid.rows.take q) = L := ⟨_, rfl⟩
                have HL := Lib.hid hL
                have w1 : IntKind.i64.wrap ((L : Int) + 1) = (L : Int) + 1 := IntWalk.i64_in _ (by omega)
                have w2 : IntKind.i64.wrap ((L : Int) + 1 + (t.2.length : Int)) = ((L + 1 + t.2.length : Nat) : Int) := by rw [IntWalk.i64_in _ (by omega)]; omega
                clear ht he1 hA3 hG d0 htl
                rw [hL]
                obtain ⟨L2, hL2⟩ : ∃ L2, L + 1 + t.2.length = L2 := ⟨_, rfl⟩
                rw [hL2] at w2
                have HL2 := Lib.hid hL2
                go_wp2_with fail
                clear w1 w2
                go_loopw [3, 8] (fun s i wr => ∃ (r m : Nat), Hid (wr = w.drewN m) ∧ i = .int .i64 (r : Int) ∧ r ≤ t.2.length ∧ s = .int .i64 ((L2 + lens (t.2.take r) : Nat) : Int)) (fun _ i _ => t.2.length - (intOf i).toNat)
                case atStart => exact ⟨0, m3, HW3, rfl, by omega, by simp [lens]⟩
                case round =>
                  obtain ⟨r, m4, HW4, rfl, hr4, rfl⟩ := hrel
                  have hG4 : GrS S wr (.slice bb t.2.length z1) t.2 := HW4.out ▸ HG.out m4
                  have hli4 := lens_take t.2 r
                  by_cases hrl : r < t.2.length
                  · obtain ⟨x, hx⟩ : ∃ x, t.2[r]? = some x := ⟨t.2[r], List.getElem?_eq_getElem hrl⟩
                    have HLN4 := Lib.hid (lens_next hx)
                    have hl4 := lens_le hx
                    obtain ⟨g4, o4, b4, z4, he4, -, e0, -⟩ := hG4.at hx
                    subst he4
                    have hrl' : (r : Int) < (t.2.length : Int) := by omega
                    have hr0 : (0 : Int) ≤ (r : Int) := by omega
                    obtain ⟨L3, hL3⟩ : ∃ L3, L2 + lens (t.2.take r) = L3 := ⟨_, rfl⟩
                    have HL3 := Lib.hid hL3
                    have w2 : IntKind.i64.wrap ((L3 : Int) + (x.length : Int)) = (L3 : Int) + (x.length : Int) := IntWalk.i64_in _ (by omega)
                    clear hx hG4
                    rw [hL3]
                    clear hL3
                    go_wp2_with fail
                    go_roundw
                    case rel => exact ⟨r + 1, m4, HW4, by go_num, by omega, by rw [HLN4.out]; have := HL3.out; congr 1; omega⟩
                    case measure => (simp [intOf]; try omega)
                  · obtain rfl : r = t.2.length := by omega
                    have hrl' : ¬ (t.2.length : Int) < (t.2.length : Int) := by omega
                    rw [List.take_length]
                    go_wp2_with fail
                    go_roundw
                    case rel => exact ⟨q + 1, m4, HW4, by go_num, by omega, by rw [HLN.out, HTL.out]; have := HL.out; have := HL2.out; congr 1; omega⟩
                    case measure => (simp [intOf]; try omega)
              · obtain rfl : q = y.hd.grid.rows.length := by omega
                have hql' : ¬ (y.hd.grid.rows.length : Int) < (y.hd.grid.rows.length : Int) := by omega
                rw [List.take_length]
                clear hA3
                go_wp2_with fail
                go_roundw
                case rel => exact ⟨p + 1, m3, HW3, by go_num, by omega, by rw [HN.out, HH.out, hk]; congr 1; omega⟩
                case measure => (simp [intOf]; try omega)
      · obtain rfl : p = l.length := by omega
        have hlt' : ¬ (l.length : Int) < (l.length : Int) := by omega
        rw [List.take_length]
        go_wp2_with fail
        go_ret
        exact ⟨rfl, m, HW.out⟩
end Go.Proofs.YtpccjgoeoeehoaaDoor
namespace Go.Proofs.YtpccjgoeoeehoaaDoor
open Go.RowKit
theorem Gs.drewN {w : World} {v : Value} {l : List Gly} (h : Gs w v l) (m : Nat) : Gs (w.drewN m) v l := Fs.below h (below_drewN (Below.refl _ _) m)
theorem GrS.drewN {S : Nat → Prop} {w : World} {v : Value} {l : List (List Gly)} (h : GrS S w v l) (m : Nat) : GrS S (w.drewN m) v l := h.keep (Kp.drewN S w m)
theorem TrS.drewN {S : Nat → Prop} {w : World} {v : Value} {l : List Trow} (h : TrS S w v l) (m : Nat) : TrS S (w.drewN m) v l := h.keep (Kp.drewN S w m)
def QtN (b : Bool) (w : World) (e : Ending) (w' : World) : Prop := e = .returned (.bool b) ∧ ∃ m, w' = w.drewN m
set_option maxRecDepth 100000 in
set_option maxHeartbeats 1000000 in
theorem rsameq_any (a b : List Gly) (v u : Value) (w : World) (hv : Gs w v a) (hu : Gs w u b) (hl : a.length ≤ 1000000000) (hl' : b.length ≤ 1000000000) :
    Calls Tryd.prog 25 #[v, u] w (QtN (decide (a = b)) w) := by
  have HV := Lib.hid hv
  have HU := Lib.hid hu
  obtain ⟨aa, ca, rfl, -, -⟩ := hv
  obtain ⟨ab, cb, rfl, -, -⟩ := hu
  unfold QtN
  by_cases hlen : a.length = b.length
  · have HLen := Lib.hid hlen
    have hne : ((a.length : Int) != (b.length : Int)) = false := by simp [hlen]
    clear hlen
    go_enter Tryd.func25, Tryd.ntmps25
    go_wp2_with fail
    go_loopw [5] (fun i wr => ∃ j m : Nat, j ≤ a.length ∧ i = .int .i64 j ∧ Hid (a.take j = b.take j) ∧ Hid (wr = w.drewN m)) (fun i _ => a.length - (intOf i).toNat)
    case atStart => exact ⟨0, 0, by omega, rfl, Lib.hid rfl, Lib.hid rfl⟩
    case round =>
      obtain ⟨j, m, hj, rfl, HS, HW⟩ := hrel
      by_cases hlt : j < a.length
      · obtain ⟨x, hx⟩ : ∃ x, a[j]? = some x := ⟨a[j], List.getElem?_eq_getElem hlt⟩
        obtain ⟨y, hy⟩ : ∃ y, b[j]? = some y := ⟨b[j]'(by have := HLen.out; omega), List.getElem?_eq_getElem _⟩
        obtain ⟨g, off, rfl, c0, c1, -⟩ := Gs.at (Gs.drewN HV.out m) hx
        obtain ⟨g', off', rfl, c0', c1', -⟩ := Gs.at (Gs.drewN HU.out m) hy
        rw [← HW.out] at c0 c1 c0' c1'
        have hi0 : (j : Int) < (a.length : Int) := by omega
        have hi2 : (j : Int) < (b.length : Int) := by have := HLen.out; omega
        have hi1 : (0 : Int) ≤ (j : Int) := by omega
        by_cases hxy : x = y
        · subst hxy
          have HT := Lib.hid (take_same HS.out hx hy)
          have hq := neqG_same
          clear hx hy
          go_wp2_with fail
          go_quiet (fail)
          go_wp2
          go_roundw
          case rel => exact ⟨j + 1, _, by omega, by go_num, HT, Lib.hid (by rw [HW.out, World.drewN_drewN])⟩
          case measure => simp [intOf]; omega
        · have HT := Lib.hid (decide_eq_false (not_same hx hy hxy))
          have hq := neqG_other hxy
          clear hx hy hxy
          go_wp2_with fail
          go_quiet (fail)
          go_wp2
          go_ret
          exact ⟨ret_bool HT.out.symm, _, by rw [HW.out, World.drewN_drewN]⟩
      · obtain rfl : j = a.length := by omega
        have hs : a = b := by
          have h := HS.out
          rw [List.take_length, HLen.out, List.take_length] at h
          exact h
        have HT := Lib.hid (decide_eq_true hs)
        clear hs
        go_wp2_with fail
        go_ret
        exact ⟨ret_bool HT.out.symm, m, HW.out⟩
  · have hne : ((a.length : Int) != (b.length : Int)) = true := by simp; omega
    have HT := Lib.hid (decide_eq_false (show ¬ a = b from fun h => hlen (by rw [h])))
    clear hlen
    go_enter Tryd.func25, Tryd.ntmps25
    go_wp2_with fail
    go_ret
    exact ⟨ret_bool HT.out.symm, 0, rfl⟩
set_option maxRecDepth 100000 in
set_option maxHeartbeats 2000000 in
theorem rsamerows_any (S T : Nat → Prop) (a b : List (List Gly)) (v u : Value) (w : World) (hv : GrS S w v a) (hu : GrS T w u b) (hl : a.length + lens a ≤ 1000000000) (hl' : b.length + lens b ≤ 1000000000) :
    Calls Tryd.prog 56 #[v, u] w (QtN (decide (a = b)) w) := by
  have HV := Lib.hid hv
  have HU := Lib.hid hu
  obtain ⟨aa, ca, rfl⟩ := hv.len
  obtain ⟨ab, cb, rfl⟩ := hu.len
  clear hv hu
  unfold QtN
  by_cases hlen : a.length = b.length
  · have HLen := Lib.hid hlen
    have hne : ((a.length : Int) != (b.length : Int)) = false := by simp [hlen]
    clear hlen
    go_enter Tryd.func56, Tryd.ntmps56
    go_wp2_with fail
    go_loopw [5] (fun i wr => ∃ j m : Nat, j ≤ a.length ∧ i = .int .i64 j ∧ Hid (a.take j = b.take j) ∧ Hid (wr = w.drewN m)) (fun i _ => a.length - (intOf i).toNat)
    case atStart => exact ⟨0, 0, by omega, rfl, Lib.hid rfl, Lib.hid rfl⟩
    case round =>
      obtain ⟨j, m, hj, rfl, HS, HW⟩ := hrel
      by_cases hlt : j < a.length
      · obtain ⟨x, hx⟩ : ∃ x, a[j]? = some x := ⟨a[j], List.getElem?_eq_getElem hlt⟩
        obtain ⟨y, hy⟩ : ∃ y, b[j]? = some y := ⟨b[j]'(by have := HLen.out; omega), List.getElem?_eq_getElem _⟩
        obtain ⟨g, off, b1, z1, rfl, -, c0, h1⟩ := (HV.out.drewN m).at hx
        obtain ⟨g', off', b2, z2, rfl, -, c0', h2⟩ := (HU.out.drewN m).at hy
        rw [← HW.out] at c0 c0' h1 h2
        have lx := lens_le hx
        have ly := lens_le hy
        have hi0 : (j : Int) < (a.length : Int) := by omega
        have hi2 : (j : Int) < (b.length : Int) := by have := HLen.out; omega
        have hi1 : (0 : Int) ≤ (j : Int) := by omega
        have hR := fun q => rsameq_any x y _ _ (wr.drewN q) (Gs.drewN h1.1 q) (Gs.drewN h2.1 q) (by omega) (by omega)
        unfold QtN at hR
        by_cases hxy : x = y
        · have HT := Lib.hid (take_same HS.out hx (by rw [hxy]; exact hy))
          simp only [decide_eq_true hxy] at hR
          have HR := Lib.hid hR
          clear hx hy hR h1 h2 hxy lx ly
          go_wp2_with fail
          go_quiet (first | (go_at_call 25; exact Calls.quiet_of (HR.out _)))
          go_wp2
          go_roundw
          case rel => exact ⟨j + 1, _, by omega, by go_num, HT, Lib.hid (by rw [HW.out, World.drewN_drewN])⟩
          case measure => simp [intOf]; omega
        · have HT := Lib.hid (decide_eq_false (not_same hx hy hxy))
          simp only [decide_eq_false hxy] at hR
          have HR := Lib.hid hR
          clear hx hy hR h1 h2 hxy lx ly
          go_wp2_with fail
          go_quiet (first | (go_at_call 25; exact Calls.quiet_of (HR.out _)))
          go_wp2
          go_ret
          exact ⟨ret_bool HT.out.symm, _, by rw [HW.out, World.drewN_drewN]⟩
      · obtain rfl : j = a.length := by omega
        have hs : a = b := by
          have h := HS.out
          rw [List.take_length, HLen.out, List.take_length] at h
          exact h
        have HT := Lib.hid (decide_eq_true hs)
        clear hs
        go_wp2_with fail
        go_ret
        exact ⟨ret_bool HT.out.symm, m, HW.out⟩
  · have hne : ((a.length : Int) != (b.length : Int)) = true := by simp; omega
    have HT := Lib.hid (decide_eq_false (show ¬ a = b from fun h => hlen (by rw [h])))
    clear hlen
    go_enter Tryd.func56, Tryd.ntmps56
    go_wp2_with fail
    go_ret
    exact ⟨ret_bool HT.out.symm, 0, rfl⟩
end Go.Proofs.YtpccjgoeoeehoaaDoor
namespace Go.Proofs.YtpccjgoeoeehoaaDoor
open Go.RowKit
noncomputable def eqT (a c : Value) : Sem Value := binOp .eql 9 a c
theorem binop_eqT (a c : Value) : binOp .eql 9 a c = eqT a c := rfl
noncomputable def neqT (a c : Value) : Sem Value := binOp .neq 9 a c
theorem binop_neqT (a c : Value) : binOp .neq 9 a c = neqT a c := rfl
theorem strX_eq (a c : List UInt8) : decide ((⟨a.toArray⟩ : ByteArray) = ⟨c.toArray⟩) = decide (a = c) := by
  apply bool_of_iff
  simp
theorem eqT_run (a c : List UInt8) (W : World) : (eqT (.string ⟨a.toArray⟩) (.string ⟨c.toArray⟩)).run Tryd.prog W = .ok (.bool (decide (a = c))) W := by
  rw [← strX_eq]
  unfold eqT
  simp [go_sem]
  exact bool_of_iff (by simp)
theorem neqT_run (a c : List UInt8) (W : World) : (neqT (.string ⟨a.toArray⟩) (.string ⟨c.toArray⟩)).run Tryd.prog W = .ok (.bool (!decide (a = c))) W := by
  rw [← strX_eq]
  unfold neqT
  simp [go_sem]
  exact bool_of_iff (by simp)
/-- A table's value. -/
def tabV (t : Tab) (r : PV) : Value := .agg #[.string ⟨t.cols.toArray⟩, pv r, .bool t.box, .bool t.all]
theorem tab_eq (a b : Tab) : a = b ↔ a.cols = b.cols ∧ a.rows = b.rows ∧ a.box = b.box ∧ a.all = b.all := by
  obtain ⟨a1, a2, a3, a4⟩ := a
  obtain ⟨b1, b2, b3, b4⟩ := b
  simp
attribute [local go_sem ↓ high] binop_eqT binop_neqT
set_option maxRecDepth 100000 in
set_option maxHeartbeats 4000000 in
theorem rsametable_any (S T : Nat → Prop) (a b : Tab) (r1 r2 : PV) (w : World) (hv : TrS S w (pv r1) a.rows) (hu : TrS T w (pv r2) b.rows) (hl : trls a.rows ≤ 1000000000) (hl' : trls b.rows ≤ 1000000000) (hS : ∀ x, S x → x < w.heap.size) (hT : ∀ x, T x → x < w.heap.size) :
    Calls Tryd.prog 57 #[tabV a r1, tabV b r2] w fun e w' => e = .returned (.bool (decide (a = b))) ∧ Below w.heap.size w w' := by
  obtain ⟨a1, z1, e1⟩ := hv.len
  obtain rfl := pv_eq e1
  obtain ⟨a2, z2, e2⟩ := hu.len
  obtain rfl := pv_eq e2
  unfold tabV pv
  simp only
  obtain ⟨A, hA⟩ : ∃ A : Obj, (.cells #[.string ⟨a.cols.toArray⟩, .slice a1 a.rows.length z1, .bool a.box, .bool a.all] 38 : Obj) = A := ⟨_, rfl⟩
  obtain ⟨B, hB⟩ : ∃ B : Obj, (.cells #[.string ⟨b.cols.toArray⟩, .slice a2 b.rows.length z2, .bool b.box, .bool b.all] 38 : Obj) = B := ⟨_, rfl⟩
  have bl : Below w.heap.size w ((w.alloc A).alloc B) := ((Below.refl _ w).alloc (Nat.le_refl _) _).alloc (by simp) _
  have hbA : Blk ((w.alloc A).alloc B) w.heap.size 38 [.string ⟨a.cols.toArray⟩, .slice a1 a.rows.length z1, .bool a.box, .bool a.all] := by
    rw [← hA]
    exact (heap_alloc_old _ _ (by simp)).trans (heap_alloc_new w _)
  have hbB : Blk ((w.alloc A).alloc B) (w.heap.size + 1) 38 [.string ⟨b.cols.toArray⟩, .slice a2 b.rows.length z2, .bool b.box, .bool b.all] := by
    rw [← hB]
    have := heap_alloc_new (w.alloc A) (.cells #[.string ⟨b.cols.toArray⟩, .slice a2 b.rows.length z2, .bool b.box, .bool b.all] 38)
    rw [World.size_alloc] at this
    exact this
  have hV := hv.keep (Kp.below bl hS)
  have hU := hu.keep (Kp.below bl hT)
  obtain ⟨w0, hw0⟩ : ∃ w0, (w.alloc A).alloc B = w0 := ⟨_, rfl⟩
  rw [hw0] at bl hbA hbB hV hU
  have BL := Lib.hid bl
  have HBA := Lib.hid hbA
  have HBB := Lib.hid hbB
  have HV := Lib.hid hV
  have HU := Lib.hid hU
  have W0 := Lib.hid hw0
  have NE := fun x y => neqT_run x y
  have hiff := tab_eq a b
  have htn := trls_len a.rows
  have c0 : w0.cell? ⟨w.heap.size, 0, none⟩ = some (.string ⟨a.cols.toArray⟩) := hbA.cell 0
  have c1 : w0.cell? ⟨w.heap.size, 1, none⟩ = some (.slice a1 a.rows.length z1) := hbA.cell 1
  have c2 : w0.cell? ⟨w.heap.size, 2, none⟩ = some (.bool a.box) := hbA.cell 2
  have c3 : w0.cell? ⟨w.heap.size, 3, none⟩ = some (.bool a.all) := hbA.cell 3
  have d0 : w0.cell? ⟨w.heap.size + 1, 0, none⟩ = some (.string ⟨b.cols.toArray⟩) := hbB.cell 0
  have d1 : w0.cell? ⟨w.heap.size + 1, 1, none⟩ = some (.slice a2 b.rows.length z2) := hbB.cell 1
  have d2 : w0.cell? ⟨w.heap.size + 1, 2, none⟩ = some (.bool b.box) := hbB.cell 2
  have d3 : w0.cell? ⟨w.heap.size + 1, 3, none⟩ = some (.bool b.all) := hbB.cell 3
  clear bl hbA hbB hV hU hv hu hS hT
  by_cases q0 : a.cols = b.cols
  · have n0 := NE a.cols b.cols
    rw [decide_eq_true q0] at n0
    simp only [Bool.not_true] at n0
    by_cases q2 : a.box = b.box
    · rw [← q2] at d2
      by_cases q3 : a.all = b.all
      · rw [← q3] at d3
        by_cases q1 : a.rows.length = b.rows.length
        · rw [← q1] at d1
          have HLen := Lib.hid q1
          have HIFF : Hid (a = b ↔ a.rows = b.rows) := Lib.hid ⟨fun h => by rw [h], fun h => hiff.2 ⟨q0, h, q2, q3⟩⟩
          clear q0 q1 q2 q3 hiff NE
          subst hA hB
          go_enter Tryd.func57, Tryd.ntmps57
          go_wp2_with fail
          clear c0 c1 c2 c3 d0 d1 d2 d3 n0
          go_loopw [5] (fun i wr => ∃ j m : Nat, j ≤ a.rows.length ∧ i = .int .i64 j ∧ Hid (a.rows.take j = b.rows.take j) ∧ Hid (wr = w0.drewN m)) (fun i _ => a.rows.length - (intOf i).toNat)
          case atStart => exact ⟨0, 0, by omega, rfl, Lib.hid rfl, Lib.hid rfl⟩
          case round =>
            obtain ⟨j, m, hj, rfl, HS, HW⟩ := hrel
            have hbA : Blk wr w.heap.size 38 _ := HW.out ▸ HBA.out.below (below_drewN (Below.refl _ _) m)
            have hbB : Blk wr (w.heap.size + 1) 38 _ := HW.out ▸ HBB.out.below (below_drewN (Below.refl _ _) m)
            have c1 : wr.cell? ⟨w.heap.size, 1, none⟩ = some (.slice a1 a.rows.length z1) := hbA.cell 1
            have d1 : wr.cell? ⟨w.heap.size + 1, 1, none⟩ = some (.slice a2 a.rows.length z2) := HLen.out ▸ hbB.cell 1
            clear hbA hbB
            by_cases hlt : j < a.rows.length
            · obtain ⟨x, hx⟩ : ∃ x, a.rows[j]? = some x := ⟨a.rows[j], List.getElem?_eq_getElem hlt⟩
              obtain ⟨y, hy⟩ : ∃ y, b.rows[j]? = some y := ⟨b.rows[j]'(by have := HLen.out; omega), List.getElem?_eq_getElem _⟩
              obtain ⟨g1, o1, b1, y1, k1, -, c4, c5, h1⟩ := (HV.out.drewN m).at hx
              obtain ⟨g2, o2, b2, y2, k2, -, d4, d5, h2⟩ := (HU.out.drewN m).at hy
              rw [← HW.out] at c4 c5 h1 d4 d5 h2
              simp only at k1 k2
              rw [k1] at c1
              rw [k2] at d1
              have lx := trls_le hx
              have ly := trls_le hy
              unfold trl at lx ly
              have hi0 : (j : Int) < (a.rows.length : Int) := by omega
              have hi1 : (0 : Int) ≤ (j : Int) := by omega
              have hR := fun q => rsamerows_any S T x.2 y.2 _ _ (wr.drewN q) (h1.drewN q) (h2.drewN q) (by omega) (by omega)
              unfold QtN at hR
              have BW := Lib.hid (fun q => below_drewN (B := w.heap.size) (Below.refl w.heap.size w0) q)
              obtain ⟨x1, x2⟩ := x
              obtain ⟨u1, u2⟩ := y
              simp only at c4 c5 d4 d5 hR
              by_cases e1 : x1 = u1
              · rw [← e1] at d4
                by_cases e2 : x2 = u2
                · have HT := Lib.hid (take_same HS.out hx (by rw [e1, e2]; exact hy))
                  simp only [decide_eq_true e2] at hR
                  have HR := Lib.hid hR
                  clear hx hy hR h1 h2 lx ly e1 e2 k1 k2
                  go_wp2_with fail
                  go_quiet (first | (go_at_call 56; exact Calls.quiet_of (HR.out _)))
                  go_wp2
                  go_roundw
                  case rel => exact ⟨j + 1, _, by omega, by go_num, HT, Lib.hid (by rw [HW.out, World.drewN_drewN])⟩
                  case measure => simp [intOf]; omega
                · have HF := Lib.hid (decide_eq_false (show ¬ a = b from fun h => e2 (by
                    have hh := hx
                    rw [HIFF.out.1 h, hy] at hh
                    injection hh with hh
                    injection hh with _ hh
                    exact hh.symm)))
                  simp only [decide_eq_false e2] at hR
                  have HR := Lib.hid hR
                  clear hx hy hR h1 h2 lx ly e1 e2 k1 k2
                  go_wp2_with fail
                  go_quiet (first | (go_at_call 56; exact Calls.quiet_of (HR.out _)))
                  go_wp2
                  go_ret
                  exact ⟨ret_bool HF.out.symm, by rw [HW.out, World.drewN_drewN]; exact BL.out.trans (BW.out _)⟩
              · have HF := Lib.hid (decide_eq_false (show ¬ a = b from fun h => e1 (by
                  have hh := hx
                  rw [HIFF.out.1 h, hy] at hh
                  injection hh with hh
                  injection hh with hh _
                  exact hh.symm)))
                have n1 : (x1 == u1) = false := by simpa using e1
                clear hx hy hR h1 h2 lx ly e1 k1 k2
                go_wp2_with fail
                go_quiet (fail)
                go_wp2
                go_ret
                exact ⟨ret_bool HF.out.symm, by rw [HW.out, World.drewN_drewN]; exact BL.out.trans (BW.out _)⟩
            · obtain rfl : j = a.rows.length := by omega
              have hlt' : ¬ (a.rows.length : Int) < (a.rows.length : Int) := by omega
              have hs : a.rows = b.rows := by
                have h := HS.out
                rw [List.take_length, HLen.out, List.take_length] at h
                exact h
              have HT := Lib.hid (decide_eq_true (HIFF.out.2 hs))
              have BW := Lib.hid (fun q => below_drewN (B := w.heap.size) (Below.refl w.heap.size w0) q)
              clear hs
              go_wp2_with fail
              go_ret
              exact ⟨ret_bool HT.out.symm, by rw [HW.out]; exact BL.out.trans (BW.out _)⟩
        · have n1 : ((a.rows.length : Int) != (b.rows.length : Int)) = true := by simp; omega
          have HF := Lib.hid (decide_eq_false (show ¬ a = b from fun h => q1 (by rw [h])))
          clear q0 q1 q2 q3 hiff NE
          subst hA hB
          go_enter Tryd.func57, Tryd.ntmps57
          go_wp2_with fail
          go_ret
          exact ⟨ret_bool HF.out.symm, BL.out⟩
      · have n3 : (a.all == b.all) = false := by simpa using q3
        have HF := Lib.hid (decide_eq_false (show ¬ a = b from fun h => q3 (by rw [h])))
        clear q0 q2 q3 hiff NE
        subst hA hB
        go_enter Tryd.func57, Tryd.ntmps57
        go_wp2_with fail
        go_ret
        exact ⟨ret_bool HF.out.symm, BL.out⟩
    · have n2 : (a.box == b.box) = false := by simpa using q2
      have HF := Lib.hid (decide_eq_false (show ¬ a = b from fun h => q2 (by rw [h])))
      clear q0 q2 hiff NE
      subst hA hB
      go_enter Tryd.func57, Tryd.ntmps57
      go_wp2_with fail
      go_ret
      exact ⟨ret_bool HF.out.symm, BL.out⟩
  · have n0 := NE a.cols b.cols
    rw [decide_eq_false q0] at n0
    simp only [Bool.not_false] at n0
    have HF := Lib.hid (decide_eq_false (show ¬ a = b from fun h => q0 (by rw [h])))
    clear q0 hiff NE
    subst hA hB
    go_enter Tryd.func57, Tryd.ntmps57
    go_wp2_with fail
    go_ret
    exact ⟨ret_bool HF.out.symm, BL.out⟩
end Go.Proofs.YtpccjgoeoeehoaaDoor
namespace Go.Proofs.YtpccjgoeoeehoaaDoor
open Go.RowKit
attribute [local go_sem ↓ high] binop_eqT binop_neqT
theorem hd_eq (a b : Hd) : a = b ↔ a.kind = b.kind ∧ a.line = b.line ∧ a.n = b.n ∧ a.text = b.text ∧ a.rows = b.rows ∧ a.grid = b.grid := by
  obtain ⟨a1, a2, a3, a4, a5, a6⟩ := a
  obtain ⟨b1, b2, b3, b4, b5, b6⟩ := b
  simp
theorem nd_eq (a b : Nd) : a = b ↔ a.hd = b.hd ∧ a.kids = b.kids := by
  obtain ⟨a1, a2⟩ := a
  obtain ⟨b1, b2⟩ := b
  simp [Nd.hd, Nd.kids]
/-- Are nodes the same? -/
noncomputable def eqNs (a b : List Nd) : Bool := @decide (a = b) (Classical.propDecidable _)
theorem eqNs_true {a b : List Nd} (h : a = b) : eqNs a b = true := by unfold eqNs; exact @decide_eq_true _ (Classical.propDecidable _) h
theorem eqNs_false {a b : List Nd} (h : ¬ a = b) : eqNs a b = false := by unfold eqNs; exact @decide_eq_false _ (Classical.propDecidable _) h
/-- A node's block. -/
def ndL (kd ln nn : Int) (y : Nd) (t k r q : PV) : List Value :=
  [.int .i64 kd, .int .i64 ln, .int .i64 nn, .slice t.1 y.hd.text.length t.2.2, .slice k.1 y.kids.length k.2.2, .slice r.1 y.hd.rows.length r.2.2, .string ⟨y.hd.grid.cols.toArray⟩, .slice q.1 y.hd.grid.rows.length q.2.2, .bool y.hd.grid.box, .bool y.hd.grid.all]
set_option maxRecDepth 100000 in
set_option maxHeartbeats 8000000 in
theorem rsame_any (S T : Nat → Prop) : ∀ (n : Nat) (a b : List Nd), cntL a = n → nlL a ≤ 1000000000 → nlL b ≤ 1000000000 → ∀ (v u : Value) (w : World), NsS S w v a → NsS T w u b → (∀ x, S x → x < w.heap.size) → (∀ x, T x → x < w.heap.size) →
    Calls Tryd.prog 31 #[v, u] w fun e w' => e = .returned (.bool (eqNs a b)) ∧ Below w.heap.size w w' := by
  intro n
  induction n using Nat.strongRecOn with
  | _ n IH =>
    intro a b hn hba hbb v u w hv hu hS hT
    have HV := Lib.hid hv
    have HU := Lib.hid hu
    obtain ⟨aa, ca, rfl⟩ := hv.len
    obtain ⟨ab, cb, rfl⟩ := hu.len
    have HI : Hid (∀ (k m : List Nd), cntL k < n → nlL k ≤ 1000000000 → nlL m ≤ 1000000000 → ∀ (v u : Value) (w : World), NsS S w v k → NsS T w u m → (∀ x, S x → x < w.heap.size) → (∀ x, T x → x < w.heap.size) →
      Calls Tryd.prog 31 #[v, u] w fun e w' => e = .returned (.bool (eqNs k m)) ∧ Below w.heap.size w w') := Lib.hid (fun k m hk h1 h2 => IH (cntL k) hk k m rfl h1 h2)
    have hll := cnt_len a
    have hnl := cnt_nlL a
    have HS := Lib.hid hS
    have HT := Lib.hid hT
    clear hv hu IH hS hT
    by_cases hlen : a.length = b.length
    · have HLen := Lib.hid hlen
      have hne : ((a.length : Int) != (b.length : Int)) = false := by simp [hlen]
      clear hlen
      go_enter Tryd.func31, Tryd.ntmps31
      go_wp2_with fail
      go_loopw [5] (fun i wr => ∃ j : Nat, j ≤ a.length ∧ i = .int .i64 j ∧ Hid (a.take j = b.take j) ∧ Hid (Below w.heap.size w wr)) (fun i _ => a.length - (intOf i).toNat)
      case atStart => exact ⟨0, by omega, rfl, Lib.hid rfl, Lib.hid (Below.refl _ _)⟩
      case round =>
        obtain ⟨j, hj, rfl, HTk, BW⟩ := hrel
        by_cases hlt : j < a.length
        · obtain ⟨x, hx⟩ : ∃ x, a[j]? = some x := ⟨a[j], List.getElem?_eq_getElem hlt⟩
          obtain ⟨y, hy⟩ : ∃ y, b[j]? = some y := ⟨b[j]'(by have := HLen.out; omega), List.getElem?_eq_getElem _⟩
          have hi0 : (j : Int) < (a.length : Int) := by omega
          have hi2 : (j : Int) < (b.length : Int) := by have := HLen.out; omega
          have hi1 : (0 : Int) ≤ (j : Int) := by omega
          have lx := nl_le hx
          have ly := nl_le hy
          have cx := cnt_le hx
          have dx : hdl x.hd = 3 + x.hd.text.length + x.hd.grid.cols.length + (x.hd.rows.length + lens x.hd.rows) + trls x.hd.grid.rows := rfl
          have dy : hdl y.hd = 3 + y.hd.text.length + y.hd.grid.cols.length + (y.hd.rows.length + lens y.hd.rows) + trls y.hd.grid.rows := rfl
          obtain ⟨g1, o1, t1, k1, r1, q1, rfl, hA⟩ := HV.out.at hx
          obtain ⟨g2, o2, t2, k2, r2, q2, rfl, hB⟩ := HU.out.at hy
          have KS := Lib.hid (fun W (h : Below w.heap.size w W) => hA.keep (Kp.below h HS.out))
          have KT := Lib.hid (fun W (h : Below w.heap.size w W) => hB.keep (Kp.below h HT.out))
          have hA1 := KS.out wr BW.out
          have hB1 := KT.out wr BW.out
          have a0 := hA1.c0
          have a1 := hA1.c1
          have a2 := hA1.c2
          have a3 := hA1.c3
          have a4 := hA1.c4
          have a5 := hA1.c5
          have a6 := hA1.c6
          have a7 := hA1.c7
          have a8 := hA1.c8
          have a9 := hA1.c9
          obtain ⟨xk, hxk⟩ : ∃ k, x.hd.kind = k := ⟨_, rfl⟩
          obtain ⟨xl, hxl⟩ : ∃ k, x.hd.line = k := ⟨_, rfl⟩
          obtain ⟨xn, hxn⟩ : ∃ k, x.hd.n = k := ⟨_, rfl⟩
          obtain ⟨yk, hyk⟩ : ∃ k, y.hd.kind = k := ⟨_, rfl⟩
          obtain ⟨yl, hyl⟩ : ∃ k, y.hd.line = k := ⟨_, rfl⟩
          obtain ⟨yn, hyn⟩ : ∃ k, y.hd.n = k := ⟨_, rfl⟩
          rw [hxk] at a0
          rw [hxl] at a1
          rw [hxn] at a2
          have bl1 := below_lit wr (.cells (ndL xk xl xn x t1 k1 r1 q1).toArray 40)
          have hB2 := KT.out (wr.alloc (.cells (ndL xk xl xn x t1 k1 r1 q1).toArray 40)) (BW.out.trans (bl1.mono BW.out.size))
          have b0 := hB2.c0
          have b1 := hB2.c1
          have b2 := hB2.c2
          have b3 := hB2.c3
          have b4 := hB2.c4
          have b5 := hB2.c5
          have b6 := hB2.c6
          have b7 := hB2.c7
          have b8 := hB2.c8
          have b9 := hB2.c9
          rw [hyk] at b0
          rw [hyl] at b1
          rw [hyn] at b2
          have bl2 : Below wr.heap.size wr ((wr.alloc (.cells (ndL xk xl xn x t1 k1 r1 q1).toArray 40)).alloc (.cells (ndL yk yl yn y t2 k2 r2 q2).toArray 40)) := ((Below.refl _ wr).alloc (Nat.le_refl _) _).alloc (by simp) _
          have hbA : Blk ((wr.alloc (.cells (ndL xk xl xn x t1 k1 r1 q1).toArray 40)).alloc (.cells (ndL yk yl yn y t2 k2 r2 q2).toArray 40)) wr.heap.size 40 (ndL xk xl xn x t1 k1 r1 q1) := (heap_alloc_old _ _ (by simp)).trans (heap_alloc_new wr _)
          have hbB : Blk ((wr.alloc (.cells (ndL xk xl xn x t1 k1 r1 q1).toArray 40)).alloc (.cells (ndL yk yl yn y t2 k2 r2 q2).toArray 40)) (wr.heap.size + 1) 40 (ndL yk yl yn y t2 k2 r2 q2) := by
            have := heap_alloc_new (wr.alloc (.cells (ndL xk xl xn x t1 k1 r1 q1).toArray 40)) (.cells (ndL yk yl yn y t2 k2 r2 q2).toArray 40)
            rw [World.size_alloc] at this
            exact this
          have BL2 := BW.out.trans (bl2.mono BW.out.size)
          have c0 : ((wr.alloc (.cells (ndL xk xl xn x t1 k1 r1 q1).toArray 40)).alloc (.cells (ndL yk yl yn y t2 k2 r2 q2).toArray 40)).cell? ⟨wr.heap.size, 0, none⟩ = some (.int .i64 xk) := hbA.cell 0
          have d0 : ((wr.alloc (.cells (ndL xk xl xn x t1 k1 r1 q1).toArray 40)).alloc (.cells (ndL yk yl yn y t2 k2 r2 q2).toArray 40)).cell? ⟨wr.heap.size + 1, 0, none⟩ = some (.int .i64 yk) := hbB.cell 0
          have c1 : ((wr.alloc (.cells (ndL xk xl xn x t1 k1 r1 q1).toArray 40)).alloc (.cells (ndL yk yl yn y t2 k2 r2 q2).toArray 40)).cell? ⟨wr.heap.size, 1, none⟩ = some (.int .i64 xl) := hbA.cell 1
          have d1 : ((wr.alloc (.cells (ndL xk xl xn x t1 k1 r1 q1).toArray 40)).alloc (.cells (ndL yk yl yn y t2 k2 r2 q2).toArray 40)).cell? ⟨wr.heap.size + 1, 1, none⟩ = some (.int .i64 yl) := hbB.cell 1
          have c2 : ((wr.alloc (.cells (ndL xk xl xn x t1 k1 r1 q1).toArray 40)).alloc (.cells (ndL yk yl yn y t2 k2 r2 q2).toArray 40)).cell? ⟨wr.heap.size, 2, none⟩ = some (.int .i64 xn) := hbA.cell 2
          have d2 : ((wr.alloc (.cells (ndL xk xl xn x t1 k1 r1 q1).toArray 40)).alloc (.cells (ndL yk yl yn y t2 k2 r2 q2).toArray 40)).cell? ⟨wr.heap.size + 1, 2, none⟩ = some (.int .i64 yn) := hbB.cell 2
          have c3 : ((wr.alloc (.cells (ndL xk xl xn x t1 k1 r1 q1).toArray 40)).alloc (.cells (ndL yk yl yn y t2 k2 r2 q2).toArray 40)).cell? ⟨wr.heap.size, 3, none⟩ = some (.slice t1.1 x.hd.text.length t1.2.2) := hbA.cell 3
          have d3 : ((wr.alloc (.cells (ndL xk xl xn x t1 k1 r1 q1).toArray 40)).alloc (.cells (ndL yk yl yn y t2 k2 r2 q2).toArray 40)).cell? ⟨wr.heap.size + 1, 3, none⟩ = some (.slice t2.1 y.hd.text.length t2.2.2) := hbB.cell 3
          have HBK : Hid (∀ W, Below ((wr.alloc (.cells (ndL xk xl xn x t1 k1 r1 q1).toArray 40)).alloc (.cells (ndL yk yl yn y t2 k2 r2 q2).toArray 40)).heap.size ((wr.alloc (.cells (ndL xk xl xn x t1 k1 r1 q1).toArray 40)).alloc (.cells (ndL yk yl yn y t2 k2 r2 q2).toArray 40)) W → Blk W wr.heap.size 40 (ndL xk xl xn x t1 k1 r1 q1) ∧ Blk W (wr.heap.size + 1) 40 (ndL yk yl yn y t2 k2 r2 q2)) := Lib.hid (fun W h => ⟨hbA.below h, hbB.below h⟩)
          have HDR := Lib.hid (fun m => below_drewN (Below.refl ((wr.alloc (.cells (ndL xk xl xn x t1 k1 r1 q1).toArray 40)).alloc (.cells (ndL yk yl yn y t2 k2 r2 q2).toArray 40)).heap.size ((wr.alloc (.cells (ndL xk xl xn x t1 k1 r1 q1).toArray 40)).alloc (.cells (ndL yk yl yn y t2 k2 r2 q2).toArray 40))) m)
          have HX := Lib.hid hx
          have HY := Lib.hid hy
          have fin : ∀ (h : ¬ x = y), eqNs a b = false := fun h => eqNs_false (fun e => h (by have h1 := HX.out; rw [e, HY.out] at h1; injection h1 with h1; exact h1.symm))
          have FIN := Lib.hid fin
          have HEQ : Hid (x = y ↔ (xk = yk ∧ xl = yl ∧ xn = yn ∧ x.hd.text = y.hd.text ∧ x.hd.rows = y.hd.rows ∧ x.hd.grid = y.hd.grid) ∧ x.kids = y.kids) := Lib.hid (by rw [nd_eq, hd_eq, hxk, hxl, hxn, hyk, hyl, hyn])
          have HT4 := Lib.hid (fun W (h : Below w.heap.size w W) => rsameq_any x.hd.text y.hd.text _ _ W (KS.out W h).text.1 (KT.out W h).text.1 (by omega) (by omega))
          have HT5 := Lib.hid (fun W (h : Below w.heap.size w W) => rsamerows_any S T x.hd.rows y.hd.rows _ _ W (KS.out W h).rows (KT.out W h).rows (by omega) (by omega))
          have HT6 := Lib.hid (fun W (h : Below w.heap.size w W) => rsametable_any S T x.hd.grid y.hd.grid (q1.1, x.hd.grid.rows.length, q1.2.2) (q2.1, y.hd.grid.rows.length, q2.2.2) W (KS.out W h).trows (KT.out W h).trows (by omega) (by omega) (fun z hz => Nat.lt_of_lt_of_le (HS.out z hz) h.size) (fun z hz => Nat.lt_of_lt_of_le (HT.out z hz) h.size))
          have HT7 := Lib.hid (fun W (h : Below w.heap.size w W) => HI.out x.kids y.kids (by omega) (by omega) (by omega) _ _ W (KS.out W h).kids (KT.out W h).kids (fun z hz => Nat.lt_of_lt_of_le (HS.out z hz) h.size) (fun z hz => Nat.lt_of_lt_of_le (HT.out z hz) h.size))
          unfold QtN at HT4 HT5
          unfold tabV pv at HT6
          have B2 := Lib.hid BL2
          have hwz : w.heap.size ≤ wr.heap.size := BW.out.size
          clear hx hy lx ly cx dx dy hxk hxl hxn hyk hyl hyn fin bl1 bl2 hB2 hbA hbB BL2 KS KT
          simp only [ndL] at b0 b1 b2 b3 b4 b5 b6 b7 b8 b9 c0 d0 c1 d1 c2 d2 c3 d3 B2 HBK HDR
          by_cases e0 : xk = yk
          · subst e0
            by_cases e1 : xl = yl
            · subst e1
              by_cases e2 : xn = yn
              · subst e2
                go_wp2_with fail
                refine (HT4.out _ B2.out).mono ?_
                rintro e w4 ⟨rfl, m4, hw4⟩
                have h4 := HDR.out m4
                rw [← hw4] at h4
                have B4 := Lib.hid (B2.out.trans (h4.mono B2.out.size))
                obtain ⟨kA, kB⟩ := HBK.out w4 h4
                have H4 := Lib.hid h4
                have c5 : w4.cell? ⟨wr.heap.size, 5, none⟩ = some (.slice r1.1 x.hd.rows.length r1.2.2) := kA.cell 5
                have d5 : w4.cell? ⟨wr.heap.size + 1, 5, none⟩ = some (.slice r2.1 y.hd.rows.length r2.2.2) := kB.cell 5
                clear kA kB hw4 h4 HT4 c0 c1 c2 c3 d0 d1 d2 d3 b0 a0 b1 a1 b2 a2 b3 a3 b4 a4 b5 a5 b6 a6 b7 a7 b8 a8 b9 a9
                by_cases e4 : x.hd.text = y.hd.text
                · rw [decide_eq_true e4]
                  have E4 := Lib.hid e4
                  clear e4
                  go_wp2_with fail
                  refine (HT5.out _ B4.out).mono ?_
                  rintro e w5 ⟨rfl, m5, hw5⟩
                  have h5 := below_drewN (Below.refl w4.heap.size w4) m5
                  rw [← hw5] at h5
                  have B5 := Lib.hid (B4.out.trans (h5.mono B4.out.size))
                  have H5 := Lib.hid (H4.out.trans (h5.mono H4.out.size))
                  obtain ⟨kA, kB⟩ := HBK.out w5 H5.out
                  have c6 : w5.cell? ⟨wr.heap.size, 6, none⟩ = some (.string ⟨x.hd.grid.cols.toArray⟩) := kA.cell 6
                  have d6 : w5.cell? ⟨wr.heap.size + 1, 6, none⟩ = some (.string ⟨y.hd.grid.cols.toArray⟩) := kB.cell 6
                  have c7 : w5.cell? ⟨wr.heap.size, 7, none⟩ = some (.slice q1.1 x.hd.grid.rows.length q1.2.2) := kA.cell 7
                  have d7 : w5.cell? ⟨wr.heap.size + 1, 7, none⟩ = some (.slice q2.1 y.hd.grid.rows.length q2.2.2) := kB.cell 7
                  have c8 : w5.cell? ⟨wr.heap.size, 8, none⟩ = some (.bool x.hd.grid.box) := kA.cell 8
                  have d8 : w5.cell? ⟨wr.heap.size + 1, 8, none⟩ = some (.bool y.hd.grid.box) := kB.cell 8
                  have c9 : w5.cell? ⟨wr.heap.size, 9, none⟩ = some (.bool x.hd.grid.all) := kA.cell 9
                  have d9 : w5.cell? ⟨wr.heap.size + 1, 9, none⟩ = some (.bool y.hd.grid.all) := kB.cell 9
                  clear kA kB hw5 h5 HT5 c5 d5 H4 B4
                  by_cases e5 : x.hd.rows = y.hd.rows
                  · rw [decide_eq_true e5]
                    have E5 := Lib.hid e5
                    clear e5
                    go_wp2_with fail
                    refine (HT6.out _ B5.out).mono ?_
                    rintro e w6 ⟨rfl, h6⟩
                    have B6 := Lib.hid (B5.out.trans (h6.mono B5.out.size))
                    have H6 := Lib.hid (H5.out.trans (h6.mono H5.out.size))
                    obtain ⟨kA, kB⟩ := HBK.out w6 H6.out
                    have c4 : w6.cell? ⟨wr.heap.size, 4, none⟩ = some (.slice k1.1 x.kids.length k1.2.2) := kA.cell 4
                    have d4 : w6.cell? ⟨wr.heap.size + 1, 4, none⟩ = some (.slice k2.1 y.kids.length k2.2.2) := kB.cell 4
                    clear kA kB h6 HT6 H5 B5 c6 c7 c8 c9 d6 d7 d8 d9
                    by_cases e6 : x.hd.grid = y.hd.grid
                    · rw [decide_eq_true e6]
                      have E6 := Lib.hid e6
                      clear e6
                      go_wp2_with fail
                      refine (HT7.out _ B6.out).mono ?_
                      rintro e w7 ⟨rfl, h7⟩
                      have B7 := Lib.hid (B6.out.trans (h7.mono B6.out.size))
                      clear h7 HT7 H6 B6 c4 d4
                      by_cases e7 : x.kids = y.kids
                      · have HNX := Lib.hid (take_same HTk.out HX.out (by rw [HEQ.out.2 (by refine ⟨⟨?_, ?_, ?_, E4.out, E5.out, E6.out⟩, e7⟩ <;> first | rfl | trivial)]; exact HY.out))
                        rw [eqNs_true e7]
                        clear e7
                        go_wp2_with fail
                        go_roundw
                        case rel => exact ⟨j + 1, by omega, by go_num, HNX, B7⟩
                        case measure => (simp [intOf]; try omega)
                      · rw [eqNs_false e7]
                        have HF := Lib.hid (FIN.out (fun h => e7 (HEQ.out.1 h).2))
                        clear e7
                        go_wp2_with fail
                        go_ret
                        exact ⟨ret_bool HF.out.symm, B7.out⟩
                    · rw [decide_eq_false e6]
                      have HF := Lib.hid (FIN.out (fun h => e6 (HEQ.out.1 h).1.2.2.2.2.2))
                      clear e6 c4 d4
                      go_wp2_with fail
                      go_ret
                      exact ⟨ret_bool HF.out.symm, B6.out⟩
                  · rw [decide_eq_false e5]
                    have HF := Lib.hid (FIN.out (fun h => e5 (HEQ.out.1 h).1.2.2.2.2.1))
                    clear e5 c6 c7 c8 c9 d6 d7 d8 d9
                    go_wp2_with fail
                    go_ret
                    exact ⟨ret_bool HF.out.symm, B5.out⟩
                · rw [decide_eq_false e4]
                  have HF := Lib.hid (FIN.out (fun h => e4 (HEQ.out.1 h).1.2.2.2.1))
                  clear e4 c5 d5
                  go_wp2_with fail
                  go_ret
                  exact ⟨ret_bool HF.out.symm, B4.out⟩
              · have n2 : (xn == yn) = false := by simpa using e2
                have m2 : (xn != yn) = true := by simpa using e2
                have HF := Lib.hid (FIN.out (fun h => e2 (HEQ.out.1 h).1.2.2.1))
                go_wp2_with fail
                go_ret
                exact ⟨ret_bool HF.out.symm, B2.out⟩
            · have n1 : (xl == yl) = false := by simpa using e1
              have m1 : (xl != yl) = true := by simpa using e1
              have HF := Lib.hid (FIN.out (fun h => e1 (HEQ.out.1 h).1.2.1))
              go_wp2_with fail
              go_ret
              exact ⟨ret_bool HF.out.symm, B2.out⟩
          · have n0 : (xk == yk) = false := by simpa using e0
            have m0 : (xk != yk) = true := by simpa using e0
            have HF := Lib.hid (FIN.out (fun h => e0 (HEQ.out.1 h).1.1))
            go_wp2_with fail
            go_ret
            exact ⟨ret_bool HF.out.symm, B2.out⟩
        · obtain rfl : j = a.length := by omega
          have hlt' : ¬ (a.length : Int) < (a.length : Int) := by omega
          have hs : a = b := by
            have h := HTk.out
            rw [List.take_length, HLen.out, List.take_length] at h
            exact h
          have HQ := Lib.hid (eqNs_true hs)
          clear hs
          go_wp2_with fail
          go_ret
          exact ⟨ret_bool HQ.out.symm, BW.out⟩
    · have hne : ((a.length : Int) != (b.length : Int)) = true := by simp; omega
      have HQ := Lib.hid (eqNs_false (show ¬ a = b from fun h => hlen (by rw [h])))
      clear hlen
      go_enter Tryd.func31, Tryd.ntmps31
      go_wp2_with fail
      go_ret
      exact ⟨ret_bool HQ.out.symm, Below.refl _ _⟩
end Go.Proofs.YtpccjgoeoeehoaaDoor
namespace Go.Proofs.YtpccjgoeoeehoaaDoor
open Go.RowKit
attribute [local go_sem ↓ high] binop_eqT binop_neqT
structure Nm where
  a : List UInt8
  b : List UInt8
  c : List UInt8
  d : List UInt8
/-- A document's value. -/
def docL (m : Nm) (v : Value) : List Value := [.string ⟨m.a.toArray⟩, .string ⟨m.b.toArray⟩, .string ⟨m.c.toArray⟩, .string ⟨m.d.toArray⟩, v]
def docV (m : Nm) (v : Value) : Value := .agg (docL m v).toArray
theorem two_lits {e e' : TypeId} (w : World) (L M : List Value) : ∀ W, W = (w.alloc (.cells L.toArray e)).alloc (.cells M.toArray e') → Below w.heap.size w W ∧ Blk W w.heap.size e L ∧ Blk W (w.heap.size + 1) e' M := by
  rintro W rfl
  refine ⟨((Below.refl _ w).alloc (Nat.le_refl _) _).alloc (by simp) _, (heap_alloc_old _ _ (by simp)).trans (heap_alloc_new w _), ?_⟩
  have := heap_alloc_new (w.alloc (.cells L.toArray e)) (.cells M.toArray e')
  rw [World.size_alloc] at this
  exact this
set_option maxRecDepth 100000 in
set_option maxHeartbeats 2000000 in
theorem rsamedoc_any (S T : Nat → Prop) (m : Nm) (a b : List Nd) (v u : Value) (w : World) (hba : nlL a ≤ 1000000000) (hbb : nlL b ≤ 1000000000) (hv : NsS S w v a) (hu : NsS T w u b) (hS : ∀ x, S x → x < w.heap.size) (hT : ∀ x, T x → x < w.heap.size) :
    Calls Tryd.prog 16 #[docV m v, docV m u] w fun e w' => e = .returned (.bool (eqNs a b)) ∧ Below w.heap.size w w' := by
  obtain ⟨k1, z1, rfl⟩ := hv.len
  obtain ⟨k2, z2, rfl⟩ := hu.len
  obtain ⟨w0, hw0⟩ : ∃ w0, w0 = (w.alloc (.cells (docL m (.slice k1 a.length z1)).toArray 29)).alloc (.cells (docL m (.slice k2 b.length z2)).toArray 29) := ⟨_, rfl⟩
  obtain ⟨bl, hbA, hbB⟩ := two_lits w _ _ w0 hw0
  have c0 : w0.cell? ⟨w.heap.size, 0, none⟩ = some (.string ⟨m.a.toArray⟩) := hbA.cell 0
  have c1 : w0.cell? ⟨w.heap.size, 1, none⟩ = some (.string ⟨m.b.toArray⟩) := hbA.cell 1
  have c2 : w0.cell? ⟨w.heap.size, 2, none⟩ = some (.string ⟨m.c.toArray⟩) := hbA.cell 2
  have c3 : w0.cell? ⟨w.heap.size, 3, none⟩ = some (.string ⟨m.d.toArray⟩) := hbA.cell 3
  have c4 : w0.cell? ⟨w.heap.size, 4, none⟩ = some (.slice k1 a.length z1) := hbA.cell 4
  have d0 : w0.cell? ⟨w.heap.size + 1, 0, none⟩ = some (.string ⟨m.a.toArray⟩) := hbB.cell 0
  have d1 : w0.cell? ⟨w.heap.size + 1, 1, none⟩ = some (.string ⟨m.b.toArray⟩) := hbB.cell 1
  have d2 : w0.cell? ⟨w.heap.size + 1, 2, none⟩ = some (.string ⟨m.c.toArray⟩) := hbB.cell 2
  have d3 : w0.cell? ⟨w.heap.size + 1, 3, none⟩ = some (.string ⟨m.d.toArray⟩) := hbB.cell 3
  have d4 : w0.cell? ⟨w.heap.size + 1, 4, none⟩ = some (.slice k2 b.length z2) := hbB.cell 4
  have EQ : ∀ (s : List UInt8) W, (eqT (.string ⟨s.toArray⟩) (.string ⟨s.toArray⟩)).run Tryd.prog W = .ok (.bool true) W := fun s W => by
    have h := eqT_run s s W
    rw [decide_eq_true rfl] at h
    exact h
  have HR := Lib.hid (rsame_any S T _ a b rfl hba hbb _ _ w0 (hv.keep (Kp.below bl hS)) (hu.keep (Kp.below bl hT)) (fun x hx => Nat.lt_of_lt_of_le (hS x hx) bl.size) (fun x hx => Nat.lt_of_lt_of_le (hT x hx) bl.size))
  have BL := Lib.hid bl
  unfold docV
  clear hv hu hS hT bl hbA hbB
  unfold docL at hw0 ⊢
  subst hw0
  go_enter Tryd.func16, Tryd.ntmps16
  go_wp2_with fail
  refine HR.out.mono ?_
  rintro e w1 ⟨rfl, b1⟩
  have B1 := Lib.hid (BL.out.trans (b1.mono BL.out.size))
  clear b1 HR BL c0 c1 c2 c3 c4 d0 d1 d2 d3 d4
  go_wp2_with fail
  go_ret
  exact ⟨rfl, B1.out⟩
end Go.Proofs.YtpccjgoeoeehoaaDoor
namespace Go.Proofs.YtpccjgoeoeehoaaDoor
open Go.RowKit
/-- The cells of a node. -/
structure NC (w : World) (g o : Nat) (x : NV) : Prop where
  c0 : w.cell? ⟨g, o, none⟩ = some (.int .i64 x.kind)
  c1 : w.cell? ⟨g, o + 1, none⟩ = some (.int .i64 x.line)
  c2 : w.cell? ⟨g, o + 2, none⟩ = some (.int .i64 x.n)
  c3 : w.cell? ⟨g, o + 3, none⟩ = some (.slice x.text.1 x.text.2.1 x.text.2.2)
  c4 : w.cell? ⟨g, o + 4, none⟩ = some (.slice x.kids.1 x.kids.2.1 x.kids.2.2)
  c5 : w.cell? ⟨g, o + 5, none⟩ = some (.slice x.rows.1 x.rows.2.1 x.rows.2.2)
  c6 : w.cell? ⟨g, o + 6, none⟩ = some (.string ⟨x.cols.toArray⟩)
  c7 : w.cell? ⟨g, o + 7, none⟩ = some (.slice x.trows.1 x.trows.2.1 x.trows.2.2)
  c8 : w.cell? ⟨g, o + 8, none⟩ = some (.bool x.box)
  c9 : w.cell? ⟨g, o + 9, none⟩ = some (.bool x.all)
attribute [local go_sem ↓ high] builtin_mxS
end Go.Proofs.YtpccjgoeoeehoaaDoor
namespace Go.Proofs.YtpccjgoeoeehoaaDoor
open Go.RowKit
/-- All blocks that were there stand as they stood, but some. -/
structure Exc (X : Nat → Prop) (w w' : World) : Prop where
  os : w'.os = w.os
  tape : w'.tape = w.tape
  output : w'.output = w.output
  size : w.heap.size ≤ w'.heap.size
  block : ∀ k, k < w.heap.size → ¬ X k → w'.heap[k]? = w.heap[k]?
theorem Exc.refl (X : Nat → Prop) (w : World) : Exc X w w := ⟨rfl, rfl, rfl, Nat.le_refl _, fun _ _ _ => rfl⟩
theorem Exc.trans {X Y : Nat → Prop} {a b c : World} (h : Exc X a b) (k : Exc Y b c) (hXY : ∀ i, i < a.heap.size → Y i → X i) : Exc X a c :=
  ⟨k.os.trans h.os, k.tape.trans h.tape, k.output.trans h.output, Nat.le_trans h.size k.size, fun i hi hx => (k.block i (Nat.lt_of_lt_of_le hi h.size) (fun q => hx (hXY i hi q))).trans (h.block i hi hx)⟩
theorem Exc.then {X : Nat → Prop} {a b c : World} (h : Exc X a b) (k : Exc X b c) : Exc X a c := h.trans k (fun _ _ q => q)
theorem Exc.of {X : Nat → Prop} {w w' : World} (h : Below w.heap.size w w') : Exc X w w' := ⟨h.os, h.tape, h.output, h.size, fun k hk _ => h.block k hk⟩
theorem Exc.below {X : Nat → Prop} {w w' : World} {D : Nat} (h : Exc X w w') (hD : D ≤ w.heap.size) (hX : ∀ b, b < D → ¬ X b) : Below D w w' :=
  ⟨h.os, h.tape, h.output, h.size, fun k hk => h.block k (Nat.lt_of_lt_of_le hk hD) (hX k hk)⟩
theorem Exc.mono {X Y : Nat → Prop} {w w' : World} (h : Exc X w w') (hXY : ∀ i, i < w.heap.size → X i → Y i) : Exc Y w w' :=
  ⟨h.os, h.tape, h.output, h.size, fun k hk hy => h.block k hk (fun q => hy (hXY k hk q))⟩
theorem Exc.set {X : Nat → Prop} {a w : World} (h : Exc X a w) {g : Nat} (j : Nat) (v : Value) (hg : g < a.heap.size → X g) : Exc X a (w.setCell ⟨g, j, none⟩ v) :=
  ⟨h.os, h.tape, h.output, by simpa [World.setCell] using h.size, fun k hk hx => (Below.heap_setCell w ⟨g, j, none⟩ v k (fun e => hx (by subst e; exact hg hk))).trans (h.block k hk hx)⟩
theorem Exc.blk {X : Nat → Prop} {w w' : World} (h : Exc X w w') {g : Nat} {e : TypeId} {L : List Value} (hb : Blk w g e L) (hX : ¬ X g) : Blk w' g e L := (h.block g (Array.getElem?_eq_some_iff.1 hb).1 hX).trans hb
theorem bel2 (w : World) (a b : Obj) : Below w.heap.size w ((w.alloc a).alloc b) := ((Below.refl _ w).alloc (Nat.le_refl _) _).alloc (by simp) _
theorem Blk.lt {W : World} {g : Nat} {e : TypeId} {L : List Value} (h : Blk W g e L) : g < W.heap.size := (Array.getElem?_eq_some_iff.1 h).1
end Go.Proofs.YtpccjgoeoeehoaaDoor
