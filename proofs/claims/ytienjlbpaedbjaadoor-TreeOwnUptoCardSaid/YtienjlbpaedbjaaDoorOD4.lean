/- Documents: what they say, and how they lie in memory. Plain maths of documents: rows squeezed; tables mended. Plain maths of documents: what is put right; what may be. Plain maths of documents: what was put right is right, and stays; no text is lost. -/
import Derived.Test.YtienjlbpaedbjaaDoorG2
namespace Go.Proofs.YtienjlbpaedbjaaDoor
open Go.RowKit

/-- A row of a table; a table; a node's own parts; a node. -/
abbrev Trow := Bool × List (List Gly)
structure Tab where
  cols : List UInt8
  rows : List Trow
  box : Bool
  all : Bool
deriving DecidableEq
structure Hd where
  kind : Int
  line : Int
  n : Int
  text : List Gly
  rows : List (List Gly)
  grid : Tab
deriving DecidableEq
inductive Nd where
  | mk (h : Hd) (kids : List Nd)
def Nd.hd : Nd → Hd
  | .mk h _ => h
def Nd.kids : Nd → List Nd
  | .mk _ k => k

/-- How many; how deep; how much there is of them. -/
def lens {α : Type} (l : List (List α)) : Nat := (l.map List.length).sum
def trl (t : Trow) : Nat := 1 + t.2.length + lens t.2
def trls (l : List Trow) : Nat := (l.map trl).sum
def hdl (h : Hd) : Nat := 3 + h.text.length + h.grid.cols.length + (h.rows.length + lens h.rows) + trls h.grid.rows
mutual
def cntN : Nd → Nat
  | .mk _ ks => 1 + cntL ks
def cntL : List Nd → Nat
  | [] => 0
  | x :: l => cntN x + cntL l
end
mutual
def dpN : Nd → Nat
  | .mk _ ks => 1 + dpL ks
def dpL : List Nd → Nat
  | [] => 0
  | x :: l => max (dpN x) (dpL l)
end
mutual
def nlN : Nd → Nat
  | .mk h ks => hdl h + nlL ks
def nlL : List Nd → Nat
  | [] => 0
  | x :: l => nlN x + nlL l
end
theorem cntN_eq (y : Nd) : cntN y = 1 + cntL y.kids := by cases y; simp [cntN, Nd.kids]
theorem dpN_eq (y : Nd) : dpN y = 1 + dpL y.kids := by cases y; simp [dpN, Nd.kids]
theorem nlN_eq (y : Nd) : nlN y = hdl y.hd + nlL y.kids := by cases y; simp [nlN, Nd.kids, Nd.hd]
theorem cntL_app : ∀ (a b : List Nd), cntL (a ++ b) = cntL a + cntL b
  | [], b => by simp [cntL]
  | x :: a, b => by simp only [List.cons_append, cntL, cntL_app a b]; omega
theorem dpL_app : ∀ (a b : List Nd), dpL (a ++ b) = max (dpL a) (dpL b)
  | [], b => by simp [dpL]
  | x :: a, b => by simp only [List.cons_append, dpL, dpL_app a b]; omega
theorem nlL_app : ∀ (a b : List Nd), nlL (a ++ b) = nlL a + nlL b
  | [], b => by simp [nlL]
  | x :: a, b => by simp only [List.cons_append, nlL, nlL_app a b]; omega
theorem cnt_next {l : List Nd} {p : Nat} {y : Nd} (hy : l[p]? = some y) : cntL (l.take (p + 1)) = cntL (l.take p) + (1 + cntL y.kids) := by
  rw [List.take_add_one, hy, cntL_app]
  simp only [Option.toList_some, cntL, cntN_eq]
  omega
theorem dp_next {l : List Nd} {p : Nat} {y : Nd} (hy : l[p]? = some y) : dpL (l.take (p + 1)) = max (dpL (l.take p)) (1 + dpL y.kids) := by
  rw [List.take_add_one, hy, dpL_app]
  simp only [Option.toList_some, dpL, dpN_eq]
  omega
theorem nl_next {l : List Nd} {p : Nat} {y : Nd} (hy : l[p]? = some y) : nlL (l.take (p + 1)) = nlL (l.take p) + (hdl y.hd + nlL y.kids) := by
  rw [List.take_add_one, hy, nlL_app]
  simp only [Option.toList_some, nlL, nlN_eq]
  omega
theorem cnt_take (l : List Nd) (p : Nat) : cntL (l.take p) ≤ cntL l := by
  have h := cntL_app (l.take p) (l.drop p)
  rw [List.take_append_drop] at h
  omega
theorem dp_take (l : List Nd) (p : Nat) : dpL (l.take p) ≤ dpL l := by
  have h := dpL_app (l.take p) (l.drop p)
  rw [List.take_append_drop] at h
  omega
theorem nl_take (l : List Nd) (p : Nat) : nlL (l.take p) ≤ nlL l := by
  have h := nlL_app (l.take p) (l.drop p)
  rw [List.take_append_drop] at h
  omega
theorem cnt_le {l : List Nd} {p : Nat} {y : Nd} (hy : l[p]? = some y) : 1 + cntL y.kids + cntL (l.take p) ≤ cntL l := by
  have h1 := cnt_next hy
  have h2 := cnt_take l (p + 1)
  omega
theorem dp_le {l : List Nd} {p : Nat} {y : Nd} (hy : l[p]? = some y) : 1 + dpL y.kids ≤ dpL l := by
  have h1 := dp_next hy
  have h2 := dp_take l (p + 1)
  omega
theorem nl_le {l : List Nd} {p : Nat} {y : Nd} (hy : l[p]? = some y) : hdl y.hd + nlL y.kids + nlL (l.take p) ≤ nlL l := by
  have h1 := nl_next hy
  have h2 := nl_take l (p + 1)
  omega
theorem cnt_len : ∀ l : List Nd, l.length ≤ cntL l
  | [] => by simp [cntL]
  | x :: l => by
    have := cnt_len l
    have := cntN_eq x
    simp only [cntL, List.length_cons]
    omega
mutual
theorem dp_cntN : ∀ x : Nd, dpN x ≤ cntN x
  | .mk _ ks => by
    have := dp_cntL ks
    simp only [dpN, cntN]
    omega
theorem dp_cntL : ∀ l : List Nd, dpL l ≤ cntL l
  | [] => by simp [dpL, cntL]
  | x :: l => by
    have := dp_cntN x
    have := dp_cntL l
    simp only [dpL, cntL]
    omega
end
mutual
theorem cnt_nlN : ∀ x : Nd, 3 * cntN x ≤ nlN x
  | .mk h ks => by
    have := cnt_nlL ks
    simp only [nlN, cntN]
    unfold hdl
    omega
theorem cnt_nlL : ∀ l : List Nd, 3 * cntL l ≤ nlL l
  | [] => by simp [nlL, cntL]
  | x :: l => by
    have := cnt_nlN x
    have := cnt_nlL l
    simp only [nlL, cntL]
    omega
end
theorem lens_next {α : Type} {l : List (List α)} {p : Nat} {x : List α} (hx : l[p]? = some x) : lens (l.take (p + 1)) = lens (l.take p) + x.length := by
  rw [List.take_add_one, hx]
  simp [lens]
theorem lens_take {α : Type} (l : List (List α)) (p : Nat) : lens (l.take p) ≤ lens l := by
  have h : lens (l.take p ++ l.drop p) = lens (l.take p) + lens (l.drop p) := by unfold lens; rw [List.map_append, List.sum_append]
  rw [List.take_append_drop] at h
  omega
theorem lens_le {α : Type} {l : List (List α)} {p : Nat} {x : List α} (hx : l[p]? = some x) : x.length + lens (l.take p) ≤ lens l := by
  have h1 := lens_next hx
  have h2 := lens_take l (p + 1)
  omega
theorem trls_next {l : List Trow} {p : Nat} {x : Trow} (hx : l[p]? = some x) : trls (l.take (p + 1)) = trls (l.take p) + trl x := by
  rw [List.take_add_one, hx]
  simp [trls]
theorem trls_take (l : List Trow) (p : Nat) : trls (l.take p) ≤ trls l := by
  have h : trls (l.take p ++ l.drop p) = trls (l.take p) + trls (l.drop p) := by unfold trls; rw [List.map_append, List.sum_append]
  rw [List.take_append_drop] at h
  omega
theorem trls_le {l : List Trow} {p : Nat} {x : Trow} (hx : l[p]? = some x) : trl x + trls (l.take p) ≤ trls l := by
  have h1 := trls_next hx
  have h2 := trls_take l (p + 1)
  omega
theorem trls_len : ∀ l : List Trow, l.length ≤ trls l
  | [] => by simp [trls]
  | x :: l => by
    have := trls_len l
    simp only [trls, List.map_cons, List.sum_cons, List.length_cons] at this ⊢
    unfold trl at this ⊢
    omega

/-- Which blocks stand as they stood. -/
def Kp (S : Nat → Prop) (w w' : World) : Prop := ∀ b, S b → w'.heap[b]? = w.heap[b]?
theorem Kp.refl (S : Nat → Prop) (w : World) : Kp S w w := fun _ _ => rfl
theorem Kp.trans {S : Nat → Prop} {a b c : World} (h : Kp S a b) (k : Kp S b c) : Kp S a c := fun i hi => (k i hi).trans (h i hi)
theorem Kp.below {S : Nat → Prop} {D : Nat} {w w' : World} (h : Below D w w') (hS : ∀ b, S b → b < D) : Kp S w w' := fun b hb => h.block b (hS b hb)
theorem Kp.grown {S : Nat → Prop} {w w' : World} {row : Option Nat} (h : w.grownBy w' row) (hS : ∀ b, S b → b < w.heap.size ∧ some b ≠ row) : Kp S w w' := fun b hb => h.block b (hS b hb).1 (hS b hb).2
def foot (S : Nat → Prop) (w : World) (n : Nat) (v : Value) : Prop := ∀ a k c, v = .slice (some a) k c → 0 < k → S a.block ∧ (¬ S 0 → ∀ i, i < k * n → w.frozen? ⟨a.block, a.off + i, none⟩ = false)
/-- A slice that reads as l, in blocks of S. -/
def FsS {α : Type} (S : Nat → Prop) (n : Nat) (f : α → List Value) (w : World) (v : Value) (l : List α) : Prop := Fs n f w v l ∧ foot S w n v
theorem FsS.keep {α : Type} {S : Nat → Prop} {n : Nat} {f : α → List Value} {w w' : World} {v : Value} {l : List α} (h : FsS S n f w v l) (hk : Kp S w w') : FsS S n f w' v l := by
  obtain ⟨⟨a, cap, rfl, hc, hr⟩, hf⟩ := h
  refine ⟨⟨a, cap, rfl, hc, fun j x hj => ?_⟩, fun a' k c e hpos => ⟨(hf a' k c e hpos).1, fun h0 i hi => (World.frozen?_of_block (w := w) (a := ⟨a'.block, a'.off + i, none⟩) (hk a'.block (hf a' k c e hpos).1)).trans ((hf a' k c e hpos).2 h0 i hi)⟩⟩
  obtain ⟨b, off, rfl, h0⟩ := hr j x hj
  have hS : S b := (hf _ _ _ rfl (by have := (List.getElem?_eq_some_iff.1 hj).1; omega)).1
  exact ⟨b, off, rfl, fun i c hi => (World.cell?_of_block (hk b hS)).trans (h0 i c hi)⟩
theorem FsS.mono {α : Type} {S T : Nat → Prop} {n : Nat} {f : α → List Value} {w : World} {v : Value} {l : List α} (h : FsS S n f w v l) (hST : ∀ b, S b → T b) : FsS T n f w v l :=
  ⟨h.1, fun a k c e hk => ⟨hST _ (h.2 a k c e hk).1, fun h0 => (h.2 a k c e hk).2 (fun q => h0 (hST 0 q))⟩⟩
theorem FsS.nil {α : Type} (S : Nat → Prop) (n : Nat) (f : α → List Value) (w : World) : FsS S n f w (.slice none 0 0) ([] : List α) := ⟨Fs.nil w, fun a k c e _ => by injection e with e1; cases e1⟩
theorem FsS.at {α : Type} {S : Nat → Prop} {n : Nat} {f : α → List Value} {w : World} {a : Option Addr} {k cap : Nat} {l : List α} (h : FsS S n f w (.slice a k cap) l) {j : Nat} {x : α} (hx : l[j]? = some x) :
    ∃ g off, a = some ⟨g, off, none⟩ ∧ S g ∧ ∀ i c, (f x)[i]? = some c → w.cell? ⟨g, off + (j * n + i), none⟩ = some c := by
  obtain ⟨⟨a', cap', hv, hc, hr⟩, hf⟩ := h
  injection hv with h1 h2 h3
  subst h1
  obtain ⟨b, off, rfl, h0⟩ := hr j x hx
  exact ⟨b, off, rfl, (hf _ _ _ rfl (by have := (List.getElem?_eq_some_iff.1 hx).1; omega)).1, h0⟩

/-- A slice's value, as it lies. -/
abbrev PV := Option Addr × Nat × Nat
def pv (s : PV) : Value := .slice s.1 s.2.1 s.2.2
theorem pv_of {α : Type} {n : Nat} {f : α → List Value} {w : World} {v : Value} {l : List α} (h : Fs n f w v l) : ∃ s : PV, v = pv s := by
  obtain ⟨a, cap, e⟩ := h.len
  exact ⟨(a, l.length, cap), e⟩
def pcell (s : PV) : List Value := [pv s]
theorem pcell_len (s : PV) : (pcell s).length = 1 := rfl
theorem pcell_one (s : PV) : ∀ u ∈ pcell s, u.oneCell' = true := by
  intro u hu
  simp [pcell, pv] at hu
  subst hu; rfl
def trcell (x : Bool × PV) : List Value := [.bool x.1, pv x.2]
theorem trcell_len (x : Bool × PV) : (trcell x).length = 2 := rfl
theorem trcell_one (x : Bool × PV) : ∀ u ∈ trcell x, u.oneCell' = true := by
  intro u hu
  simp [trcell, pv] at hu
  rcases hu with rfl | rfl <;> rfl
/-- Rows of rows; rows of a table. -/
def GrS (S : Nat → Prop) (w : World) (v : Value) (l : List (List Gly)) : Prop :=
  ∃ L : List PV, L.length = l.length ∧ FsS S 1 pcell w v L ∧ ∀ (i : Nat) s r, L[i]? = some s → l[i]? = some r → FsS S 2 gcell w (pv s) r
def TrS (S : Nat → Prop) (w : World) (v : Value) (l : List Trow) : Prop :=
  ∃ L : List (Bool × PV), L.length = l.length ∧ FsS S 2 trcell w v L ∧ ∀ (i : Nat) s r, L[i]? = some s → l[i]? = some r → s.1 = r.1 ∧ GrS S w (pv s.2) r.2
theorem GrS.keep {S : Nat → Prop} {w w' : World} {v : Value} {l : List (List Gly)} (h : GrS S w v l) (hk : Kp S w w') : GrS S w' v l := by
  obtain ⟨L, h1, h2, h3⟩ := h
  exact ⟨L, h1, h2.keep hk, fun i s r hs hr => (h3 i s r hs hr).keep hk⟩
theorem TrS.keep {S : Nat → Prop} {w w' : World} {v : Value} {l : List Trow} (h : TrS S w v l) (hk : Kp S w w') : TrS S w' v l := by
  obtain ⟨L, h1, h2, h3⟩ := h
  exact ⟨L, h1, h2.keep hk, fun i s r hs hr => ⟨(h3 i s r hs hr).1, (h3 i s r hs hr).2.keep hk⟩⟩
theorem GrS.mono {S T : Nat → Prop} {w : World} {v : Value} {l : List (List Gly)} (h : GrS S w v l) (hST : ∀ b, S b → T b) : GrS T w v l := by
  obtain ⟨L, h1, h2, h3⟩ := h
  exact ⟨L, h1, h2.mono hST, fun i s r hs hr => (h3 i s r hs hr).mono hST⟩
theorem TrS.mono {S T : Nat → Prop} {w : World} {v : Value} {l : List Trow} (h : TrS S w v l) (hST : ∀ b, S b → T b) : TrS T w v l := by
  obtain ⟨L, h1, h2, h3⟩ := h
  exact ⟨L, h1, h2.mono hST, fun i s r hs hr => ⟨(h3 i s r hs hr).1, (h3 i s r hs hr).2.mono hST⟩⟩
theorem GrS.nil (S : Nat → Prop) (w : World) : GrS S w (.slice none 0 0) [] := ⟨[], rfl, FsS.nil _ _ _ _, fun i s r h => by simp at h⟩
theorem TrS.nil (S : Nat → Prop) (w : World) : TrS S w (.slice none 0 0) [] := ⟨[], rfl, FsS.nil _ _ _ _, fun i s r h => by simp at h⟩
theorem GrS.len {S : Nat → Prop} {w : World} {v : Value} {l : List (List Gly)} (h : GrS S w v l) : ∃ a cap, v = .slice a l.length cap := by
  obtain ⟨L, h1, h2, -⟩ := h
  obtain ⟨a, cap, e⟩ := h2.1.len
  exact ⟨a, cap, h1 ▸ e⟩
theorem TrS.len {S : Nat → Prop} {w : World} {v : Value} {l : List Trow} (h : TrS S w v l) : ∃ a cap, v = .slice a l.length cap := by
  obtain ⟨L, h1, h2, -⟩ := h
  obtain ⟨a, cap, e⟩ := h2.1.len
  exact ⟨a, cap, h1 ▸ e⟩
theorem GrS.at {S : Nat → Prop} {w : World} {a : Option Addr} {k cap : Nat} {l : List (List Gly)} (h : GrS S w (.slice a k cap) l) {j : Nat} {r : List Gly} (hr : l[j]? = some r) :
    ∃ g off b c, a = some ⟨g, off, none⟩ ∧ S g ∧ w.cell? ⟨g, off + j, none⟩ = some (.slice b r.length c) ∧ FsS S 2 gcell w (.slice b r.length c) r := by
  obtain ⟨L, h1, h2, h3⟩ := h
  obtain ⟨s, hs⟩ : ∃ s, L[j]? = some s := ⟨L[j]'(by have := (List.getElem?_eq_some_iff.1 hr).1; omega), List.getElem?_eq_getElem _⟩
  obtain ⟨g, off, e, hg, hc⟩ := h2.at hs
  have h4 := h3 j s r hs hr
  obtain ⟨b, c, e2⟩ := h4.1.len
  have c0 := hc 0 _ rfl
  rw [Nat.mul_one, Nat.add_zero, e2] at c0
  rw [e2] at h4
  exact ⟨g, off, b, c, e, hg, c0, h4⟩
theorem TrS.at {S : Nat → Prop} {w : World} {a : Option Addr} {k cap : Nat} {l : List Trow} (h : TrS S w (.slice a k cap) l) {j : Nat} {r : Trow} (hr : l[j]? = some r) :
    ∃ g off b c, a = some ⟨g, off, none⟩ ∧ S g ∧ w.cell? ⟨g, off + j * 2, none⟩ = some (.bool r.1) ∧ w.cell? ⟨g, off + j * 2 + 1, none⟩ = some (.slice b r.2.length c) ∧ GrS S w (.slice b r.2.length c) r.2 := by
  obtain ⟨L, h1, h2, h3⟩ := h
  obtain ⟨s, hs⟩ : ∃ s, L[j]? = some s := ⟨L[j]'(by have := (List.getElem?_eq_some_iff.1 hr).1; omega), List.getElem?_eq_getElem _⟩
  obtain ⟨g, off, e, hg, hc⟩ := h2.at hs
  obtain ⟨e1, h4⟩ := h3 j s r hs hr
  obtain ⟨b, c, e2⟩ := h4.len
  have c0 := hc 0 _ rfl
  have c1 := hc 1 _ rfl
  rw [e1] at c0
  rw [e2] at c1 h4
  exact ⟨g, off, b, c, e, hg, c0, c1, h4⟩

/-- A node as it lies. -/
structure NV where
  kind : Int
  line : Int
  n : Int
  text : PV
  kids : PV
  rows : PV
  cols : List UInt8
  trows : PV
  box : Bool
  all : Bool
def ncell (x : NV) : List Value := [.int .i64 x.kind, .int .i64 x.line, .int .i64 x.n, pv x.text, pv x.kids, pv x.rows, .string ⟨x.cols.toArray⟩, pv x.trows, .bool x.box, .bool x.all]
theorem ncell_len (x : NV) : (ncell x).length = 10 := rfl
theorem ncell_one (x : NV) : ∀ u ∈ ncell x, u.oneCell' = true := by
  intro u hu
  simp [ncell, pv] at hu
  rcases hu with rfl | rfl | rfl | rfl | rfl | rfl | rfl | rfl | rfl | rfl <;> rfl
structure HdIs (S : Nat → Prop) (w : World) (x : NV) (h : Hd) : Prop where
  kind : x.kind = h.kind
  line : x.line = h.line
  n : x.n = h.n
  text : FsS S 2 gcell w (pv x.text) h.text
  rows : GrS S w (pv x.rows) h.rows
  cols : x.cols = h.grid.cols
  trows : TrS S w (pv x.trows) h.grid.rows
  box : x.box = h.grid.box
  all : x.all = h.grid.all
theorem HdIs.keep {S : Nat → Prop} {w w' : World} {x : NV} {h : Hd} (k : HdIs S w x h) (hk : Kp S w w') : HdIs S w' x h :=
  ⟨k.kind, k.line, k.n, k.text.keep hk, k.rows.keep hk, k.cols, k.trows.keep hk, k.box, k.all⟩
theorem HdIs.mono {S T : Nat → Prop} {w : World} {x : NV} {h : Hd} (k : HdIs S w x h) (hST : ∀ b, S b → T b) : HdIs T w x h :=
  ⟨k.kind, k.line, k.n, k.text.mono hST, k.rows.mono hST, k.cols, k.trows.mono hST, k.box, k.all⟩
/-- Nodes in memory, in blocks of S. -/
inductive NsS (S : Nat → Prop) (w : World) : Value → List Nd → Prop where
  | mk (v : Value) (l : List Nd) (L : List NV) (hl : L.length = l.length) (hs : FsS S 10 ncell w v L) (hh : ∀ (i : Nat) x y, L[i]? = some x → l[i]? = some y → HdIs S w x y.hd)
      (hk : ∀ (i : Nat) x y, L[i]? = some x → l[i]? = some y → NsS S w (pv x.kids) y.kids) : NsS S w v l
theorem NsS.keep {S : Nat → Prop} {w w' : World} {v : Value} {l : List Nd} (h : NsS S w v l) (k : Kp S w w') : NsS S w' v l := by
  induction h with
  | mk v l L hl hs hh hk ih => exact .mk v l L hl (hs.keep k) (fun i x y h1 h2 => (hh i x y h1 h2).keep k) ih
theorem NsS.mono {S T : Nat → Prop} {w : World} {v : Value} {l : List Nd} (h : NsS S w v l) (hST : ∀ b, S b → T b) : NsS T w v l := by
  induction h with
  | mk v l L hl hs hh hk ih => exact .mk v l L hl (hs.mono hST) (fun i x y h1 h2 => (hh i x y h1 h2).mono hST) ih
theorem NsS.nil (S : Nat → Prop) (w : World) : NsS S w (.slice none 0 0) [] := .mk _ _ [] rfl (FsS.nil _ _ _ _) (fun i x y h => by simp at h) (fun i x y h => by simp at h)
theorem NsS.len {S : Nat → Prop} {w : World} {v : Value} {l : List Nd} (h : NsS S w v l) : ∃ a cap, v = .slice a l.length cap := by
  cases h with
  | mk _ _ L hl hs hh hk =>
    obtain ⟨a, cap, e⟩ := hs.1.len
    exact ⟨a, cap, hl ▸ e⟩
/-- One of the nodes: its cells. -/
structure NAt (S : Nat → Prop) (w : World) (g o : Nat) (y : Nd) (text kids rows trows : PV) : Prop where
  c0 : w.cell? ⟨g, o, none⟩ = some (.int .i64 y.hd.kind)
  c1 : w.cell? ⟨g, o + 1, none⟩ = some (.int .i64 y.hd.line)
  c2 : w.cell? ⟨g, o + 2, none⟩ = some (.int .i64 y.hd.n)
  c3 : w.cell? ⟨g, o + 3, none⟩ = some (.slice text.1 y.hd.text.length text.2.2)
  c4 : w.cell? ⟨g, o + 4, none⟩ = some (.slice kids.1 y.kids.length kids.2.2)
  c5 : w.cell? ⟨g, o + 5, none⟩ = some (.slice rows.1 y.hd.rows.length rows.2.2)
  c6 : w.cell? ⟨g, o + 6, none⟩ = some (.string ⟨y.hd.grid.cols.toArray⟩)
  c7 : w.cell? ⟨g, o + 7, none⟩ = some (.slice trows.1 y.hd.grid.rows.length trows.2.2)
  c8 : w.cell? ⟨g, o + 8, none⟩ = some (.bool y.hd.grid.box)
  c9 : w.cell? ⟨g, o + 9, none⟩ = some (.bool y.hd.grid.all)
  blk : S g
  text : FsS S 2 gcell w (.slice text.1 y.hd.text.length text.2.2) y.hd.text
  kids : NsS S w (.slice kids.1 y.kids.length kids.2.2) y.kids
  rows : GrS S w (.slice rows.1 y.hd.rows.length rows.2.2) y.hd.rows
  trows : TrS S w (.slice trows.1 y.hd.grid.rows.length trows.2.2) y.hd.grid.rows
theorem pv_eq {s : PV} {a : Option Addr} {n c : Nat} (h : pv s = .slice a n c) : s = (a, n, c) := by
  obtain ⟨s0, s1, s2⟩ := s
  unfold pv at h
  injection h with h1 h2 h3
  simp only at h1 h2 h3
  subst h1 h2 h3
  rfl
theorem NsS.at {S : Nat → Prop} {w : World} {a : Option Addr} {k cap : Nat} {l : List Nd} (h : NsS S w (.slice a k cap) l) {j : Nat} {y : Nd} (hy : l[j]? = some y) :
    ∃ g off text kids rows trows, a = some ⟨g, off, none⟩ ∧ NAt S w g (off + j * 10) y text kids rows trows := by
  cases h with
  | mk _ _ L hl hs hh hk =>
    obtain ⟨x, hx⟩ : ∃ x, L[j]? = some x := ⟨L[j]'(by have := (List.getElem?_eq_some_iff.1 hy).1; omega), List.getElem?_eq_getElem _⟩
    obtain ⟨g, off, e, hg, hc⟩ := hs.at hx
    have H := hh j x y hx hy
    have K := hk j x y hx hy
    obtain ⟨t1, t2, et⟩ := H.text.1.len
    obtain ⟨k1, k2, ek⟩ := K.len
    obtain ⟨r1, r2, er⟩ := H.rows.len
    obtain ⟨q1, q2, eq⟩ := H.trows.len
    have hT := H.text
    have hR := H.rows
    have hQ := H.trows
    rw [et] at hT
    rw [ek] at K
    rw [er] at hR
    rw [eq] at hQ
    have hcell : ∀ i c, (ncell x)[i]? = some c → w.cell? ⟨g, off + j * 10 + i, none⟩ = some c := fun i c h => by rw [Nat.add_assoc]; exact hc i c h
    refine ⟨g, off, (t1, y.hd.text.length, t2), (k1, y.kids.length, k2), (r1, y.hd.rows.length, r2), (q1, y.hd.grid.rows.length, q2), e,
      ⟨hcell 0 _ (by simp [ncell, H.kind]), hcell 1 _ (by simp [ncell, H.line]), hcell 2 _ (by simp [ncell, H.n]), hcell 3 _ (by simp [ncell, et]), hcell 4 _ (by simp [ncell, ek]), hcell 5 _ (by simp [ncell, er]), hcell 6 _ (by simp [ncell, H.cols]), hcell 7 _ (by simp [ncell, eq]), hcell 8 _ (by simp [ncell, H.box]), hcell 9 _ (by simp [ncell, H.all]), hg, hT, K, hR, hQ⟩⟩
end Go.Proofs.YtienjlbpaedbjaaDoor
namespace Go.Proofs.YtienjlbpaedbjaaDoor
open Go.RowKit

/-- A row without blanks at its end. -/
def trm : List Gly → List Gly
  | [] => []
  | g :: l => if trm l = [] ∧ g.1 = 32 then [] else g :: trm l
/-- Blanks: none at the begin, one of several. -/
def sqA : Bool → List Gly → List Gly
  | _, [] => []
  | b, g :: l => if g.1 = 32 then (if b then (32, 0) :: sqA false l else sqA false l) else g :: sqA true l
def sqz (l : List Gly) : List Gly := sqA false (trm l)
def sqd (l : List Gly) : Bool := decide (sqz l = l)
theorem trm_cons (g : Gly) (l : List Gly) : trm (g :: l) = if trm l = [] ∧ g.1 = 32 then [] else g :: trm l := rfl
theorem trm_idem : ∀ l : List Gly, trm (trm l) = trm l
  | [] => rfl
  | g :: l => by
    have ih := trm_idem l
    rw [trm_cons]
    split
    · rfl
    · rename_i h
      rw [trm_cons, ih, if_neg h]
theorem trm_inked : ∀ l : List Gly, (trm l).filter (fun g => g.1 != 32) = l.filter (fun g => g.1 != 32)
  | [] => rfl
  | g :: l => by
    have ih := trm_inked l
    rw [trm_cons]
    split
    · rename_i h
      rw [h.1] at ih
      rw [List.filter_cons_of_neg (by simp [h.2]), ← ih]
    · by_cases hg : g.1 = 32
      · rw [List.filter_cons_of_neg (by simp [hg]), List.filter_cons_of_neg (by simp [hg]), ih]
      · rw [List.filter_cons_of_pos (by simp [hg]), List.filter_cons_of_pos (by simp [hg]), ih]
theorem trm_len : ∀ l : List Gly, (trm l).length ≤ l.length
  | [] => by simp [trm]
  | g :: l => by
    have ih := trm_len l
    rw [trm_cons]
    split
    · simp
    · simp only [List.length_cons]; omega
theorem sqA_blank (b : Bool) {g : Gly} (h : g.1 = 32) (l : List Gly) : sqA b (g :: l) = if b then (32, 0) :: sqA false l else sqA false l := by
  show (if g.1 = 32 then _ else _) = _
  rw [if_pos h]
theorem sqA_other (b : Bool) {g : Gly} (h : g.1 ≠ 32) (l : List Gly) : sqA b (g :: l) = g :: sqA true l := by
  show (if g.1 = 32 then _ else _) = _
  rw [if_neg h]
theorem sqA_inked : ∀ (b : Bool) (l : List Gly), (sqA b l).filter (fun g => g.1 != 32) = l.filter (fun g => g.1 != 32)
  | _, [] => rfl
  | b, g :: l => by
    by_cases hg : g.1 = 32
    · rw [sqA_blank b hg, List.filter_cons_of_neg (by simp [hg])]
      cases b
      · exact sqA_inked false l
      · rw [if_pos rfl, List.filter_cons_of_neg (by simp)]
        exact sqA_inked false l
    · rw [sqA_other b hg, List.filter_cons_of_pos (by simp [hg]), List.filter_cons_of_pos (by simp [hg]), sqA_inked true l]
theorem sqA_len : ∀ (b : Bool) (l : List Gly), (sqA b l).length ≤ l.length
  | _, [] => by simp [sqA]
  | b, g :: l => by
    by_cases hg : g.1 = 32
    · rw [sqA_blank b hg]
      have := sqA_len false l
      cases b
      · simp only [List.length_cons, Bool.false_eq_true, if_false]; omega
      · simp only [if_true, List.length_cons]; omega
    · rw [sqA_other b hg]
      have := sqA_len true l
      simp only [List.length_cons]; omega
theorem sqA_idem : ∀ (b : Bool) (l : List Gly), sqA b (sqA b l) = sqA b l
  | _, [] => rfl
  | b, g :: l => by
    by_cases hg : g.1 = 32
    · rw [sqA_blank b hg]
      cases b
      · simpa using sqA_idem false l
      · rw [if_pos rfl, sqA_blank true rfl, if_pos rfl, sqA_idem false l]
    · rw [sqA_other b hg, sqA_other b hg, sqA_idem true l]
/-- What ends with no blank, squeezed, ends with none. -/
theorem sqA_nil {b : Bool} : ∀ {l : List Gly}, trm l = l → sqA b l = [] → l = []
  | [], _, _ => rfl
  | g :: l, ht, h => by
    by_cases hg : g.1 = 32
    · rw [sqA_blank b hg] at h
      have hl : trm l ≠ [] := fun e => by rw [trm_cons, if_pos ⟨e, hg⟩] at ht; cases ht
      rw [trm_cons, if_neg (fun k => hl k.1)] at ht
      injection ht with _ ht
      cases b
      · have := sqA_nil (b := false) ht (by simpa using h)
        rw [this] at hl
        exact absurd rfl hl
      · simp at h
    · rw [sqA_other b hg] at h
      cases h
theorem sqA_trm : ∀ (b : Bool) {l : List Gly}, trm l = l → trm (sqA b l) = sqA b l
  | _, [], _ => rfl
  | b, g :: l, ht => by
    by_cases hg : g.1 = 32
    · have hl : trm l ≠ [] := fun e => by rw [trm_cons, if_pos ⟨e, hg⟩] at ht; cases ht
      rw [trm_cons, if_neg (fun k => hl k.1)] at ht
      injection ht with _ ht
      rw [sqA_blank b hg]
      have ih := sqA_trm false ht
      cases b
      · simpa using ih
      · rw [if_pos rfl, trm_cons, ih, if_neg]
        rintro ⟨h1, -⟩
        have := sqA_nil ht h1
        rw [this] at hl
        exact absurd rfl hl
    · have ht' : trm l = l := by
        rw [trm_cons, if_neg (fun k => hg k.2)] at ht
        injection ht
      rw [sqA_other b hg, trm_cons, sqA_trm true ht', if_neg (fun k => hg k.2)]
theorem sqz_idem (l : List Gly) : sqz (sqz l) = sqz l := by
  unfold sqz
  rw [sqA_trm false (trm_idem l), sqA_idem]
theorem sqz_inked (l : List Gly) : (sqz l).filter (fun g => g.1 != 32) = l.filter (fun g => g.1 != 32) := by
  unfold sqz
  rw [sqA_inked, trm_inked]
theorem sqz_len (l : List Gly) : (sqz l).length ≤ l.length := Nat.le_trans (sqA_len false _) (trm_len l)
theorem sqz_nil : sqz [] = [] := rfl
theorem sqd_sqz (l : List Gly) : sqd (sqz l) = true := decide_eq_true (sqz_idem l)
theorem sqd_eq {l : List Gly} (h : sqd l = true) : sqz l = l := of_decide_eq_true h
theorem sqd_nil : sqd [] = true := rfl

def side (c : UInt8) : Bool := c == 108 || c == 99 || c == 114
def mcols (cols : List UInt8) : List UInt8 := if (cols.filter side).take 20 = [] then [108] else (cols.filter side).take 20
/-- The first n cells, squeezed, or none. -/
def mcells : Nat → List (List Gly) → List (List Gly)
  | 0, _ => []
  | n + 1, [] => [] :: mcells n []
  | n + 1, c :: l => sqz c :: mcells n l
def mrowT (n : Nat) (r : Trow) : Trow := (r.1, if r.1 then [] else mcells n r.2)
def mend (t : Tab) : Tab := ⟨mcols t.cols, t.rows.map (mrowT (mcols t.cols).length), t.box, t.all && t.box⟩
def rowOk (n : Nat) (r : Trow) : Bool := (if r.1 then decide (r.2 = []) else decide (r.2.length = n)) && r.2.all sqd
def rightT (t : Tab) : Bool := decide (1 ≤ t.cols.length) && decide (t.cols.length ≤ 20) && !(t.all && !t.box) && t.cols.all side && t.rows.all (rowOk t.cols.length)
theorem mcells_len : ∀ (n : Nat) (l : List (List Gly)), (mcells n l).length = n
  | 0, _ => rfl
  | n + 1, [] => by simp [mcells, mcells_len n []]
  | n + 1, c :: l => by simp [mcells, mcells_len n l]
theorem mcells_sqd : ∀ (n : Nat) (l : List (List Gly)), (mcells n l).all sqd = true
  | 0, _ => rfl
  | n + 1, [] => by simp [mcells, mcells_sqd n [], sqd_nil]
  | n + 1, c :: l => by simp [mcells, mcells_sqd n l, sqd_sqz]
theorem mcells_same : ∀ (l : List (List Gly)), l.all sqd = true → mcells l.length l = l
  | [], _ => rfl
  | c :: l, h => by
    simp only [List.all_cons, Bool.and_eq_true] at h
    show sqz c :: mcells l.length l = c :: l
    rw [sqd_eq h.1, mcells_same l h.2]
theorem mcols_ok (c : List UInt8) : 1 ≤ (mcols c).length ∧ (mcols c).length ≤ 20 ∧ (mcols c).all side = true := by
  unfold mcols
  split
  · exact ⟨by decide, by decide, by decide⟩
  · rename_i h
    refine ⟨?_, ?_, ?_⟩
    · have := List.length_pos_iff.2 h
      omega
    · rw [List.length_take]; omega
    · rw [List.all_eq_true]
      intro x hx
      exact (List.mem_filter.1 (List.mem_of_mem_take hx)).2
theorem mcols_same {c : List UInt8} (h1 : 1 ≤ c.length) (h2 : c.length ≤ 20) (h3 : c.all side = true) : mcols c = c := by
  have e : c.filter side = c := List.filter_eq_self.2 (List.all_eq_true.1 h3)
  unfold mcols
  rw [e, List.take_of_length_le h2, if_neg (fun e => by rw [e] at h1; simp at h1)]
theorem rowOk_mend (n : Nat) (r : Trow) : rowOk n (mrowT n r) = true := by
  unfold rowOk mrowT
  cases r.1
  · simp [mcells_len, mcells_sqd]
  · simp
theorem mrow_same {n : Nat} {r : Trow} (h : rowOk n r = true) : mrowT n r = r := by
  obtain ⟨b, l⟩ := r
  unfold rowOk at h
  unfold mrowT
  simp only [Bool.and_eq_true] at h ⊢
  cases b
  · have e : l.length = n := by have := h.1; simpa using this
    rw [← e]
    simp only [Bool.false_eq_true, if_false]
    rw [mcells_same l h.2]
  · have e : l = [] := by have := h.1; simpa using this
    rw [e]
    rfl
theorem right_mend (t : Tab) : rightT (mend t) = true := by
  obtain ⟨h1, h2, h3⟩ := mcols_ok t.cols
  unfold rightT mend
  simp only [Bool.and_eq_true, decide_eq_true_eq, h1, h2, h3, true_and, List.all_map, List.all_eq_true, Function.comp]
  refine ⟨⟨?_, trivial⟩, fun r _ => rowOk_mend _ r⟩
  cases t.all <;> cases t.box <;> rfl
theorem mend_same {t : Tab} (h : rightT t = true) : mend t = t := by
  obtain ⟨c, r, b, a⟩ := t
  unfold rightT at h
  simp only [Bool.and_eq_true, decide_eq_true_eq] at h
  obtain ⟨⟨⟨⟨h1, h2⟩, h3⟩, h4⟩, h5⟩ := h
  unfold mend
  simp only [mcols_same h1 h2 h4]
  have e : r.map (mrowT c.length) = r := by
    conv => rhs; rw [← List.map_id r]
    refine List.map_congr_left fun x hx => mrow_same (List.all_eq_true.1 h5 x hx)
  rw [e]
  have e2 : (a && b) = a := by revert h3; cases a <;> cases b <;> simp
  rw [e2]
end Go.Proofs.YtienjlbpaedbjaaDoor
namespace Go.Proofs.YtienjlbpaedbjaaDoor
open Go.RowKit

/-- May a kind stand in another one? -/
def stands (k w : Int) : Bool := (k == 1 && w == 0) || (k == 2 && w == 1) || (decide (3 ≤ k) && decide (k ≤ 7))
def noGrid : Tab := ⟨[], [], false, false⟩
def isNone (t : Tab) : Bool := decide (t.cols = []) && decide (t.rows = []) && !t.box && !t.all
def clipI (lo hi x : Int) : Int := max lo (min x hi)
/-- What a node of a kind has of another one, but its kids. -/
def ownH (h : Hd) (k : Int) : Hd :=
  ⟨k, clipI 0 1099511627775 h.line, if k = 4 ∨ k = 5 then clipI 0 200 h.n else 0, if 1 ≤ k ∧ k ≤ 4 then sqz h.text else [], if k = 6 then h.rows else [], if k = 7 then mend h.grid else noGrid⟩
/-- Has a node what its kind must have? -/
def fullB (h : Hd) (kids : Bool) : Bool :=
  if 1 ≤ h.kind ∧ h.kind ≤ 3 then decide (h.text ≠ []) else if h.kind = 5 then kids else if h.kind = 6 then decide (h.rows ≠ []) else h.kind == 4 || (h.kind == 7 && decide (h.grid.rows ≠ []))
def hasK {α : Type} (l : List α) : Bool := !l.isEmpty
def kindAt (k w : Int) : Int := if (k = 1 ∨ k = 2) ∧ stands k w = false then 3 else k
def mayK (k : Int) : Bool := k == 1 || k == 2 || k == 4 || k == 5
/-- Do a node's kids stand in it? -/
def innerB (h : Hd) (w : Int) : Bool := mayK h.kind && kindAt h.kind w == h.kind && (kindAt h.kind w == 5 || fullB (ownH h (kindAt h.kind w)) false)
mutual
/-- A node put right, within a kind, so deep, so many left (it itself is counted already). -/
def tdN : Nd → Int → Nat → Nat → List Nd × Nat
  | .mk h ks, w, d, n =>
    if innerB h w then
      (if fullB (ownH h (kindAt h.kind w)) (hasK (tdL ks (kindAt h.kind w) (d + 1) n).1) then [.mk (ownH h (kindAt h.kind w)) (tdL ks (kindAt h.kind w) (d + 1) n).1] else [], (tdL ks (kindAt h.kind w) (d + 1) n).2)
    else
      ((if fullB (ownH h (kindAt h.kind w)) false then [.mk (ownH h (kindAt h.kind w)) []] else []) ++ (if mayK h.kind then (tdL ks w d n).1 else []), if mayK h.kind then (tdL ks w d n).2 else n)
def tdL : List Nd → Int → Nat → Nat → List Nd × Nat
  | [], _, _, n => ([], n)
  | x :: l, w, d, n => if n = 0 ∨ 20 ≤ d then ([], n) else ((tdN x w d (n - 1)).1 ++ (tdL l w d (tdN x w d (n - 1)).2).1, (tdL l w d (tdN x w d (n - 1)).2).2)
end
def tidyL (l : List Nd) : List Nd := (tdL l 0 0 20000).1
/-- May a node stand there? -/
def rightH (h : Hd) (kids : Bool) (w : Int) : Bool :=
  stands h.kind w && fullB h kids && decide (0 ≤ h.line) && decide (h.line ≤ 1099511627775) && sqd h.text && decide (0 ≤ h.n) && decide (h.n ≤ 200) && (decide (h.n = 0) || h.kind == 4 || h.kind == 5) && (decide (h.text = []) || (decide (1 ≤ h.kind) && decide (h.kind ≤ 4))) && (!kids || mayK h.kind) &&
    (decide (h.rows = []) || h.kind == 6) && (if h.kind = 7 then rightT h.grid else isNone h.grid)
mutual
def rtN : Nd → Int → Bool
  | .mk h ks, w => rightH h (hasK ks) w && rtL ks h.kind
def rtL : List Nd → Int → Bool
  | [], _ => true
  | x :: l, w => rtN x w && rtL l w
end
def checkL (l : List Nd) : Int := if 20000 < cntL l ∨ 20 < dpL l then 3 else if rtL l 0 then 0 else 2

theorem tdL_nil (w : Int) (d n : Nat) : tdL [] w d n = ([], n) := by simp [tdL]
theorem tdL_cons (x : Nd) (l : List Nd) (w : Int) (d n : Nat) : tdL (x :: l) w d n = if n = 0 ∨ 20 ≤ d then ([], n) else ((tdN x w d (n - 1)).1 ++ (tdL l w d (tdN x w d (n - 1)).2).1, (tdL l w d (tdN x w d (n - 1)).2).2) := by
  conv => lhs; unfold tdL
theorem tdL_stop (l : List Nd) (w : Int) (d n : Nat) (h : n = 0 ∨ 20 ≤ d) : tdL l w d n = ([], n) := by
  cases l with
  | nil => exact tdL_nil w d n
  | cons x l => rw [tdL_cons, if_pos h]
theorem tdL_app : ∀ (a b : List Nd) (w : Int) (d n : Nat), tdL (a ++ b) w d n = ((tdL a w d n).1 ++ (tdL b w d (tdL a w d n).2).1, (tdL b w d (tdL a w d n).2).2)
  | [], b, w, d, n => by rw [tdL_nil]; simp
  | x :: a, b, w, d, n => by
    rw [List.cons_append, tdL_cons, tdL_cons x a]
    by_cases h : n = 0 ∨ 20 ≤ d
    · rw [if_pos h, if_pos h, tdL_stop b w d n h]
      simp
    · rw [if_neg h, if_neg h]
      simp only
      rw [tdL_app a b]
      simp
theorem tdL_one (x : Nd) (w : Int) (d n : Nat) (h : ¬ (n = 0 ∨ 20 ≤ d)) : tdL [x] w d n = tdN x w d (n - 1) := by
  rw [tdL_cons, if_neg h, tdL_nil]
  simp
/-- One more in the loop. -/
theorem td_next {l : List Nd} {p : Nat} {y : Nd} (hy : l[p]? = some y) (w : Int) (d n : Nat) (h : ¬ ((tdL (l.take p) w d n).2 = 0 ∨ 20 ≤ d)) :
    tdL (l.take (p + 1)) w d n = ((tdL (l.take p) w d n).1 ++ (tdN y w d ((tdL (l.take p) w d n).2 - 1)).1, (tdN y w d ((tdL (l.take p) w d n).2 - 1)).2) := by
  rw [List.take_add_one, hy]
  simp only [Option.toList_some]
  rw [tdL_app, tdL_one _ _ _ _ h]
/-- The loop is left early. -/
theorem td_early (l : List Nd) (p : Nat) (w : Int) (d n : Nat) (h : (tdL (l.take p) w d n).2 = 0 ∨ 20 ≤ d) : tdL l w d n = tdL (l.take p) w d n := by
  conv => lhs; rw [← List.take_append_drop p l]
  rw [tdL_app, tdL_stop _ _ _ _ h]
  simp
theorem tdN_mk (h : Hd) (ks : List Nd) (w : Int) (d n : Nat) : tdN (.mk h ks) w d n = if innerB h w then
      (if fullB (ownH h (kindAt h.kind w)) (hasK (tdL ks (kindAt h.kind w) (d + 1) n).1) then [.mk (ownH h (kindAt h.kind w)) (tdL ks (kindAt h.kind w) (d + 1) n).1] else [], (tdL ks (kindAt h.kind w) (d + 1) n).2)
    else
      ((if fullB (ownH h (kindAt h.kind w)) false then [.mk (ownH h (kindAt h.kind w)) []] else []) ++ (if mayK h.kind then (tdL ks w d n).1 else []), if mayK h.kind then (tdL ks w d n).2 else n) := by
  conv => lhs; unfold tdN
mutual
/-- No more are left than there were. -/
theorem tdN_le : ∀ (x : Nd) (w : Int) (d n : Nat), (tdN x w d n).2 ≤ n
  | .mk h ks, w, d, n => by
    rw [tdN_mk]
    split
    · exact tdL_le ks _ _ _
    · simp only
      split
      · exact tdL_le ks _ _ _
      · exact Nat.le_refl _
theorem tdL_le : ∀ (l : List Nd) (w : Int) (d n : Nat), (tdL l w d n).2 ≤ n
  | [], w, d, n => by rw [tdL_nil]; exact Nat.le_refl _
  | x :: l, w, d, n => by
    rw [tdL_cons]
    split
    · exact Nat.le_refl _
    · simp only
      have h1 := tdN_le x w d (n - 1)
      have h2 := tdL_le l w d (tdN x w d (n - 1)).2
      omega
end
theorem rtL_app : ∀ (a b : List Nd) (w : Int), rtL (a ++ b) w = (rtL a w && rtL b w)
  | [], b, w => by simp [rtL]
  | x :: a, b, w => by simp only [List.cons_append, rtL, rtL_app a b, Bool.and_assoc]
theorem rt_next {l : List Nd} {p : Nat} {y : Nd} (hy : l[p]? = some y) (w : Int) : rtL (l.take (p + 1)) w = (rtL (l.take p) w && rtN y w) := by
  rw [List.take_add_one, hy, rtL_app]
  simp [rtL]
theorem rtN_eq (y : Nd) (w : Int) : rtN y w = (rightH y.hd (hasK y.kids) w && rtL y.kids y.hd.kind) := by
  obtain ⟨h, ks⟩ := y
  simp [rtN, Nd.hd, Nd.kids]
end Go.Proofs.YtienjlbpaedbjaaDoor
namespace Go.Proofs.YtienjlbpaedbjaaDoor
open Go.RowKit

theorem hasK_iff {α : Type} (l : List α) : hasK l = true ↔ l ≠ [] := by cases l <;> simp [hasK]
theorem clip_ok {lo hi x : Int} (h : lo ≤ hi) : lo ≤ clipI lo hi x ∧ clipI lo hi x ≤ hi := by unfold clipI; omega
theorem clip_same {lo hi x : Int} (h1 : lo ≤ x) (h2 : x ≤ hi) : clipI lo hi x = x := by unfold clipI; omega
theorem isNone_noGrid : isNone noGrid = true := rfl
theorem kindAt_ways (k w : Int) : (kindAt k w = 3 ∧ (k = 1 ∨ k = 2) ∧ stands k w = false) ∨ (kindAt k w = k ∧ ((k = 1 ∨ k = 2) → stands k w = true)) := by
  unfold kindAt
  by_cases h : (k = 1 ∨ k = 2) ∧ stands k w = false
  · rw [if_pos h]
    exact .inl ⟨rfl, h⟩
  · rw [if_neg h]
    refine .inr ⟨rfl, fun hk => ?_⟩
    cases hs : stands k w with
    | true => rfl
    | false => exact absurd ⟨hk, hs⟩ h
theorem kindAt_stands {k w : Int} (h1 : 1 ≤ kindAt k w) (h7 : kindAt k w ≤ 7) : stands (kindAt k w) w = true := by
  rcases kindAt_ways k w with ⟨h, -⟩ | ⟨h, hs⟩
  · rw [h]; simp [stands]
  · rw [h] at h1 h7 ⊢
    by_cases hk : k = 1 ∨ k = 2
    · exact hs hk
    · simp [stands]
      omega
theorem full_kind {h : Hd} {b : Bool} (hf : fullB h b = true) : 1 ≤ h.kind ∧ h.kind ≤ 7 := by
  unfold fullB at hf
  split at hf
  · omega
  · split at hf
    · omega
    · split at hf
      · omega
      · simp only [Bool.or_eq_true, Bool.and_eq_true, beq_iff_eq] at hf
        omega
theorem right_own {h : Hd} {w : Int} {b : Bool} (hf : fullB (ownH h (kindAt h.kind w)) b = true) (hb : b = true → mayK (kindAt h.kind w) = true) : rightH (ownH h (kindAt h.kind w)) b w = true := by
  have hk := full_kind hf
  have e : (ownH h (kindAt h.kind w)).kind = kindAt h.kind w := rfl
  have hs := kindAt_stands hk.1 hk.2
  obtain ⟨k, hkk⟩ : ∃ k, kindAt h.kind w = k := ⟨_, rfl⟩
  rw [hkk] at hf hb hk hs e ⊢
  unfold rightH
  rw [hf, e, hs]
  have l1 := clip_ok (lo := 0) (hi := 1099511627775) (x := h.line) (by decide)
  have n1 := clip_ok (lo := 0) (hi := 200) (x := h.n) (by decide)
  have hsq : sqd (ownH h k).text = true := by
    unfold ownH
    simp only
    split
    · exact sqd_sqz _
    · exact sqd_nil
  have hn : 0 ≤ (ownH h k).n ∧ (ownH h k).n ≤ 200 ∧ ((ownH h k).n = 0 ∨ k = 4 ∨ k = 5) := by
    unfold ownH
    simp only
    split
    · rename_i h45
      exact ⟨n1.1, n1.2, .inr h45⟩
    · exact ⟨by decide, by decide, .inl rfl⟩
  have ht : (ownH h k).text = [] ∨ (1 ≤ k ∧ k ≤ 4) := by
    unfold ownH
    simp only
    split
    · rename_i h14; exact .inr h14
    · exact .inl rfl
  have hr : (ownH h k).rows = [] ∨ k = 6 := by
    unfold ownH
    simp only
    split
    · rename_i h6; exact .inr h6
    · exact .inl rfl
  have hg : (if k = 7 then rightT (ownH h k).grid else isNone (ownH h k).grid) = true := by
    unfold ownH
    simp only
    split
    · exact right_mend _
    · rfl
  rw [hsq, hg]
  have hl : 0 ≤ (ownH h k).line ∧ (ownH h k).line ≤ 1099511627775 := l1
  have hbb : (!b || mayK k) = true := by
    cases b
    · rfl
    · simpa using hb rfl
  rw [hbb]
  simp only [Bool.true_and, Bool.and_true, Bool.and_eq_true, Bool.or_eq_true, decide_eq_true_eq, beq_iff_eq]
  refine ⟨⟨⟨⟨⟨⟨hl.1, hl.2⟩, hn.1⟩, hn.2.1⟩, ?_⟩, ht⟩, hr⟩
  rcases hn.2.2 with q | q | q
  · exact .inl (.inl q)
  · exact .inl (.inr q)
  · exact .inr q
theorem inner_ways {h : Hd} {w : Int} (hi : innerB h w = true) : mayK h.kind = true ∧ kindAt h.kind w = h.kind ∧ (h.kind = 5 ∨ fullB (ownH h h.kind) false = true) := by
  unfold innerB at hi
  simp only [Bool.and_eq_true, Bool.or_eq_true, beq_iff_eq] at hi
  obtain ⟨⟨h1, h2⟩, h3⟩ := hi
  refine ⟨h1, h2, ?_⟩
  rw [h2] at h3
  exact h3
mutual
/-- What was put right is right. -/
theorem tdN_right : ∀ (x : Nd) (w : Int) (d n : Nat), rtL (tdN x w d n).1 w = true
  | .mk h ks, w, d, n => by
    rw [tdN_mk]
    split
    · rename_i hi
      obtain ⟨h1, h2, -⟩ := inner_ways hi
      have ih := tdL_right ks (kindAt h.kind w) (d + 1) n
      simp only
      split
      · rename_i hf
        simp only [rtL, rtN, Bool.and_true, Bool.and_eq_true]
        exact ⟨right_own hf (fun _ => by rw [h2]; exact h1), ih⟩
      · rfl
    · simp only
      rw [rtL_app, Bool.and_eq_true]
      constructor
      · split
        · rename_i hf
          simp only [rtL, rtN, Bool.and_true, Bool.and_eq_true]
          exact right_own hf (fun e => by cases e)
        · rfl
      · split
        · exact tdL_right ks w d n
        · rfl
theorem tdL_right : ∀ (l : List Nd) (w : Int) (d n : Nat), rtL (tdL l w d n).1 w = true
  | [], w, d, n => by rw [tdL_nil]; rfl
  | x :: l, w, d, n => by
    rw [tdL_cons]
    split
    · rfl
    · simp only
      rw [rtL_app, tdN_right x, tdL_right l]
      rfl
end
mutual
/-- How many are made. -/
theorem tdN_cnt : ∀ (x : Nd) (w : Int) (d n : Nat), cntL (tdN x w d n).1 + (tdN x w d n).2 ≤ n + 1
  | .mk h ks, w, d, n => by
    rw [tdN_mk]
    split
    · have ih := tdL_cnt ks (kindAt h.kind w) (d + 1) n
      simp only
      split
      · simp only [cntL, cntN]; omega
      · simp only [cntL]; omega
    · simp only
      rw [cntL_app]
      have h1 : cntL (if fullB (ownH h (kindAt h.kind w)) false = true then [Nd.mk (ownH h (kindAt h.kind w)) []] else []) ≤ 1 := by
        split <;> simp [cntL, cntN]
      by_cases hm : mayK h.kind = true
      · rw [if_pos hm, if_pos hm]
        have ih := tdL_cnt ks w d n
        omega
      · rw [if_neg hm, if_neg hm]
        simp only [cntL]; omega
theorem tdL_cnt : ∀ (l : List Nd) (w : Int) (d n : Nat), cntL (tdL l w d n).1 + (tdL l w d n).2 ≤ n
  | [], w, d, n => by rw [tdL_nil]; simp [cntL]
  | x :: l, w, d, n => by
    rw [tdL_cons]
    split
    · simp [cntL]
    · rename_i h
      simp only
      rw [cntL_app]
      have h1 := tdN_cnt x w d (n - 1)
      have h2 := tdL_cnt l w d (tdN x w d (n - 1)).2
      omega
end
mutual
/-- No more than there were. -/
theorem tdN_few : ∀ (x : Nd) (w : Int) (d n : Nat), cntL (tdN x w d n).1 ≤ cntN x ∧ dpL (tdN x w d n).1 ≤ dpN x
  | .mk h ks, w, d, n => by
    rw [tdN_mk]
    split
    · obtain ⟨i1, i2⟩ := tdL_few ks (kindAt h.kind w) (d + 1) n
      simp only
      split
      · simp only [cntL, cntN, dpL, dpN]; omega
      · simp only [cntL, cntN, dpL, dpN]; omega
    · simp only
      rw [cntL_app, dpL_app]
      have h1 : cntL (if fullB (ownH h (kindAt h.kind w)) false = true then [Nd.mk (ownH h (kindAt h.kind w)) []] else []) ≤ 1 ∧ dpL (if fullB (ownH h (kindAt h.kind w)) false = true then [Nd.mk (ownH h (kindAt h.kind w)) []] else []) ≤ 1 := by
        split <;> simp [cntL, cntN, dpL, dpN]
      by_cases hm : mayK h.kind = true
      · rw [if_pos hm]
        obtain ⟨i1, i2⟩ := tdL_few ks w d n
        simp only [cntN, dpN]
        omega
      · rw [if_neg hm]
        simp only [cntL, dpL, cntN, dpN]; omega
theorem tdL_few : ∀ (l : List Nd) (w : Int) (d n : Nat), cntL (tdL l w d n).1 ≤ cntL l ∧ dpL (tdL l w d n).1 ≤ dpL l
  | [], w, d, n => by rw [tdL_nil]; simp
  | x :: l, w, d, n => by
    rw [tdL_cons]
    split
    · simp [cntL, dpL]
    · simp only
      rw [cntL_app, dpL_app]
      obtain ⟨h1, h2⟩ := tdN_few x w d (n - 1)
      obtain ⟨h3, h4⟩ := tdL_few l w d (tdN x w d (n - 1)).2
      simp only [cntL, dpL]
      omega
end
mutual
/-- How deep it is. -/
theorem tdN_deep : ∀ (x : Nd) (w : Int) (d n : Nat), d < 20 → dpL (tdN x w d n).1 + d ≤ 20
  | .mk h ks, w, d, n, hd => by
    rw [tdN_mk]
    split
    · have i1 := tdL_deep ks (kindAt h.kind w) (d + 1) n (by omega)
      simp only
      split
      · simp only [dpL, dpN]; omega
      · simp only [dpL]; omega
    · simp only
      rw [dpL_app]
      have h1 : dpL (if fullB (ownH h (kindAt h.kind w)) false = true then [Nd.mk (ownH h (kindAt h.kind w)) []] else []) ≤ 1 := by
        split <;> simp [dpL, dpN]
      by_cases hm : mayK h.kind = true
      · rw [if_pos hm]
        have i1 := tdL_deep ks w d n (by omega)
        omega
      · rw [if_neg hm]
        simp only [dpL]; omega
theorem tdL_deep : ∀ (l : List Nd) (w : Int) (d n : Nat), d ≤ 20 → dpL (tdL l w d n).1 + d ≤ 20
  | [], w, d, n, hd => by rw [tdL_nil]; simp [dpL]; omega
  | x :: l, w, d, n, hd => by
    rw [tdL_cons]
    split
    · simp [dpL]; omega
    · rename_i h
      simp only
      rw [dpL_app]
      have h1 := tdN_deep x w d (n - 1) (by omega)
      have h2 := tdL_deep l w d (tdN x w d (n - 1)).2 (by omega)
      omega
end
theorem isNone_eq {t : Tab} (h : isNone t = true) : t = noGrid := by
  obtain ⟨c, r, b, a⟩ := t
  unfold isNone at h
  simp only [Bool.and_eq_true, decide_eq_true_eq, Bool.not_eq_true'] at h
  obtain ⟨⟨⟨rfl, rfl⟩, rfl⟩, rfl⟩ := h
  rfl
/-- What is right has what its kind has. -/
theorem own_same {h : Hd} {b : Bool} {w : Int} (hr : rightH h b w = true) : ownH h h.kind = h := by
  unfold rightH at hr
  simp only [Bool.and_eq_true, Bool.or_eq_true, decide_eq_true_eq, beq_iff_eq] at hr
  obtain ⟨⟨⟨⟨⟨⟨⟨⟨⟨⟨⟨-, -⟩, l1⟩, l2⟩, hsq⟩, n1⟩, n2⟩, n3⟩, ht⟩, -⟩, hrw⟩, hg⟩ := hr
  obtain ⟨k, ln, n, t, r, g⟩ := h
  simp only at l1 l2 hsq n1 n2 n3 ht hrw hg
  unfold ownH
  simp only
  have e1 : clipI 0 1099511627775 ln = ln := clip_same l1 l2
  have e2 : (if k = 4 ∨ k = 5 then clipI 0 200 n else 0) = n := by
    split
    · exact clip_same n1 n2
    · rename_i h45
      rcases n3 with (q | q) | q
      · exact q.symm
      · exact absurd (.inl q) h45
      · exact absurd (.inr q) h45
  have e3 : (if 1 ≤ k ∧ k ≤ 4 then sqz t else []) = t := by
    split
    · exact sqd_eq hsq
    · rename_i h14
      rcases ht with q | q
      · exact q.symm
      · exact absurd q h14
  have e4 : (if k = 6 then r else []) = r := by
    split
    · rfl
    · rename_i h6
      rcases hrw with q | q
      · exact q.symm
      · exact absurd q h6
  have e5 : (if k = 7 then mend g else noGrid) = g := by
    by_cases h7 : k = 7
    · rw [if_pos h7] at hg ⊢
      exact mend_same hg
    · rw [if_neg h7] at hg ⊢
      exact (isNone_eq hg).symm
  rw [e1, e2, e3, e4, e5]
theorem right_stands {h : Hd} {b : Bool} {w : Int} (hr : rightH h b w = true) : stands h.kind w = true ∧ fullB h b = true ∧ (b = true → mayK h.kind = true) := by
  unfold rightH at hr
  simp only [Bool.and_eq_true] at hr
  refine ⟨hr.1.1.1.1.1.1.1.1.1.1.1, hr.1.1.1.1.1.1.1.1.1.1.2, fun hb => ?_⟩
  have := hr.1.1.2
  rw [hb] at this
  simpa using this
theorem kindAt_same {k w : Int} (h : stands k w = true) : kindAt k w = k := by
  unfold kindAt
  rw [if_neg (by rw [h]; simp)]
theorem full_other {h : Hd} {b : Bool} (hf : fullB h b = true) (h5 : h.kind ≠ 5) (c : Bool) : fullB h c = true := by
  unfold fullB at hf ⊢
  split at hf
  · rename_i q; rw [if_pos q]; exact hf
  · rename_i q
    rw [if_neg q, if_neg h5]
    exact hf
theorem mayK_iff (k : Int) : mayK k = true ↔ k = 1 ∨ k = 2 ∨ k = 4 ∨ k = 5 := by
  unfold mayK
  simp only [Bool.or_eq_true, beq_iff_eq]
  omega
mutual
/-- What is right stays. -/
theorem tdN_same : ∀ (x : Nd) (w : Int) (d n : Nat), rtN x w = true → dpN x + d ≤ 20 → cntN x ≤ n + 1 → tdN x w d n = ([x], n + 1 - cntN x)
  | .mk h ks, w, d, n, hr, hd, hc => by
    simp only [rtN, Bool.and_eq_true] at hr
    obtain ⟨hr, hk⟩ := hr
    obtain ⟨h1, h2, h3⟩ := right_stands hr
    have ek := kindAt_same h1
    have eo := own_same hr
    simp only [dpN] at hd
    simp only [cntN] at hc ⊢
    rw [tdN_mk]
    unfold innerB
    rw [ek, eo]
    by_cases hm : mayK h.kind = true
    · have hi : (mayK h.kind && h.kind == h.kind && (h.kind == 5 || fullB h false)) = true := by
        rw [hm]
        simp only [Bool.true_and, beq_self_eq_true, Bool.or_eq_true, beq_iff_eq]
        by_cases h5 : h.kind = 5
        · exact .inl h5
        · exact .inr (full_other h2 h5 false)
      rw [if_pos hi, tdL_same ks h.kind (d + 1) n hk (by omega) (by omega)]
      simp only
      rw [if_pos h2]
      congr 1
      omega
    · have hks : ks = [] := by
        rcases ks with _ | ⟨x, l⟩
        · rfl
        · exact absurd (h3 rfl) hm
      subst hks
      have hi : ¬ (mayK h.kind && h.kind == h.kind && (h.kind == 5 || fullB h false)) = true := by
        rw [Bool.eq_false_iff.2 hm]; simp
      have h2' : fullB h false = true := h2
      rw [if_neg hi, if_pos h2', if_neg hm, if_neg hm]
      simp [cntL]
theorem tdL_same : ∀ (l : List Nd) (w : Int) (d n : Nat), rtL l w = true → dpL l + d ≤ 20 → cntL l ≤ n → tdL l w d n = (l, n - cntL l)
  | [], w, d, n, _, _, _ => by rw [tdL_nil]; simp [cntL]
  | x :: l, w, d, n, hr, hd, hc => by
    simp only [rtL, Bool.and_eq_true] at hr
    simp only [dpL] at hd
    simp only [cntL] at hc ⊢
    have hx := cntN_eq x
    have hx2 := dpN_eq x
    have h1 := tdN_same x w d (n - 1) hr.1 (by omega) (by omega)
    rw [tdL_cons, if_neg (by omega), h1]
    simp only
    have h2 := tdL_same l w d (n - 1 + 1 - cntN x) hr.2 (by omega) (by omega)
    rw [h2]
    simp only [List.singleton_append]
    congr 1
    omega
end
/-- A document put right is right. -/
theorem check_tidy (l : List Nd) : checkL (tidyL l) = 0 := by
  have h1 := tdL_cnt l 0 0 20000
  have h2 := tdL_deep l 0 0 20000 (by decide)
  unfold checkL tidyL
  rw [if_neg (by omega), if_pos (tdL_right l 0 0 20000)]
theorem tidy_of {l : List Nd} (h : checkL l = 0) : tidyL l = l := by
  unfold checkL at h
  split at h
  · cases h
  · rename_i hc
    split at h
    · rename_i hr
      unfold tidyL
      rw [tdL_same l 0 0 20000 hr (by omega) (by omega)]
    · cases h
theorem tidy_idem (l : List Nd) : tidyL (tidyL l) = tidyL l := tidy_of (check_tidy l)
theorem tidy_few (l : List Nd) : cntL (tidyL l) ≤ cntL l ∧ dpL (tidyL l) ≤ dpL l := tdL_few l 0 0 20000

/-- All text. -/
def ink (l : List Gly) : List Gly := l.filter fun g => g.1 != 32
def inks (l : List (List Gly)) : List Gly := l.flatMap ink
def hdInk (h : Hd) : List Gly := ink h.text ++ inks h.rows ++ h.grid.rows.flatMap fun r => inks r.2
mutual
def lvN : Nd → List Gly
  | .mk h ks => hdInk h ++ lvL ks
def lvL : List Nd → List Gly
  | [] => []
  | x :: l => lvN x ++ lvL l
end
def plainH (h : Hd) (kids : Bool) : Bool := decide (1 ≤ h.kind) && decide (h.kind ≤ 5) && decide (h.rows = []) && decide (h.grid.rows = []) && !(h.kind == 5 && decide (h.text ≠ [])) && !(h.kind == 3 && kids)
mutual
def plN : Nd → Bool
  | .mk h ks => plainH h (hasK ks) && plL ks
def plL : List Nd → Bool
  | [] => true
  | x :: l => plN x && plL l
end
theorem lvL_app : ∀ (a b : List Nd), lvL (a ++ b) = lvL a ++ lvL b
  | [], b => by simp [lvL]
  | x :: a, b => by simp only [List.cons_append, lvL, lvL_app a b, List.append_assoc]
theorem lv_next {l : List Nd} {p : Nat} {y : Nd} (hy : l[p]? = some y) : lvL (l.take (p + 1)) = lvL (l.take p) ++ (hdInk y.hd ++ lvL y.kids) := by
  rw [List.take_add_one, hy, lvL_app]
  obtain ⟨h, ks⟩ := y
  simp [lvL, lvN, Nd.hd, Nd.kids]
theorem plL_app : ∀ (a b : List Nd), plL (a ++ b) = (plL a && plL b)
  | [], b => by simp [plL]
  | x :: a, b => by simp only [List.cons_append, plL, plL_app a b, Bool.and_assoc]
theorem ink_sqz (l : List Gly) : ink (sqz l) = ink l := sqz_inked l
theorem full_text {h : Hd} {b : Bool} (hk : 1 ≤ h.kind ∧ h.kind ≤ 3) (hf : ¬ fullB h b = true) : h.text = [] := by
  unfold fullB at hf
  rw [if_pos hk] at hf
  simpa using hf
mutual
/-- No text is lost. -/
theorem tdN_keep : ∀ (x : Nd) (w : Int) (d n : Nat), plN x = true → dpN x + d ≤ 20 → cntN x ≤ n + 1 → lvL (tdN x w d n).1 = lvN x ∧ n + 1 ≤ (tdN x w d n).2 + cntN x
  | .mk h ks, w, d, n, hp, hd, hc => by
    simp only [plN, Bool.and_eq_true] at hp
    obtain ⟨hp, hk⟩ := hp
    unfold plainH at hp
    simp only [Bool.and_eq_true, decide_eq_true_eq, Bool.not_eq_true', Bool.and_eq_false_iff, beq_eq_false_iff_ne, decide_eq_false_iff_not, ne_eq] at hp
    obtain ⟨⟨⟨⟨⟨p1, p2⟩, p3⟩, p4⟩, p5⟩, p6⟩ := hp
    simp only [dpN] at hd
    simp only [cntN] at hc ⊢
    have hin : hdInk h = ink h.text := by simp [hdInk, p3, p4, inks]
    have hown : ∀ k, k ≤ 5 → hdInk (ownH h k) = ink (if 1 ≤ k ∧ k ≤ 4 then sqz h.text else []) := fun k hk5 => by
      unfold hdInk ownH
      simp only
      rw [if_neg (show ¬ k = 6 by omega), if_neg (show ¬ k = 7 by omega)]
      simp [noGrid, inks]
    have hk5 : kindAt h.kind w ≤ 5 ∧ 1 ≤ kindAt h.kind w := by
      rcases kindAt_ways h.kind w with ⟨e, -⟩ | ⟨e, -⟩ <;> omega
    rw [tdN_mk]
    simp only [lvN]
    rw [hin]
    by_cases hi : innerB h w = true
    · rw [if_pos hi]
      obtain ⟨i1, i2, i3⟩ := inner_ways hi
      obtain ⟨h1, h2⟩ := tdL_keep ks (kindAt h.kind w) (d + 1) n hk (by omega) (by omega)
      refine ⟨?_, by simp only; omega⟩
      simp only
      rw [i2] at h1 ⊢
      by_cases h5 : h.kind = 5
      · have ht : h.text = [] := by
          rcases p5 with q | q
          · exact absurd h5 q
          · exact Classical.byContradiction fun hh => q hh
        rw [ht]
        split
        · simp only [lvL, lvN, List.append_nil]
          rw [hown _ (by omega), if_neg (by omega), h1]
        · rename_i hf
          have hkids : (tdL ks h.kind (d + 1) n).1 = [] := by
            unfold fullB at hf
            have e : (ownH h h.kind).kind = 5 := h5
            rw [e, if_neg (by decide), if_pos rfl] at hf
            cases hq : (tdL ks h.kind (d + 1) n).1 with
            | nil => rfl
            | cons a b => rw [hq] at hf; exact absurd rfl hf
          rw [hkids] at h1
          rw [← h1]
          rfl
      · have hff : fullB (ownH h h.kind) (hasK (tdL ks h.kind (d + 1) n).1) = true := by
          rcases i3 with q | q
          · exact absurd q h5
          · exact full_other q h5 _
        rw [if_pos hff]
        have hm := (mayK_iff h.kind).1 i1
        simp only [lvL, lvN, List.append_nil]
        rw [hown _ (by omega), if_pos (by omega), ink_sqz, h1]
    · rw [if_neg hi]
      simp only
      rw [lvL_app]
      have h4 : h.kind ≠ 4 := fun e => hi (by
        unfold innerB
        have ek : kindAt h.kind w = h.kind := by unfold kindAt; rw [if_neg (by omega)]
        rw [ek, e]
        simp [mayK, fullB, ownH])
      have h5 : h.kind ≠ 5 := fun e => hi (by
        unfold innerB
        have ek : kindAt h.kind w = h.kind := by unfold kindAt; rw [if_neg (by omega)]
        rw [ek, e]
        simp [mayK])
      have hk3 : 1 ≤ kindAt h.kind w ∧ kindAt h.kind w ≤ 3 := by
        rcases kindAt_ways h.kind w with ⟨e, -⟩ | ⟨e, -⟩ <;> omega
      have hfirst : lvL (if fullB (ownH h (kindAt h.kind w)) false = true then [Nd.mk (ownH h (kindAt h.kind w)) []] else []) = ink h.text := by
        split
        · simp only [lvL, lvN, List.append_nil]
          rw [hown _ hk5.1, if_pos (by omega), ink_sqz]
        · rename_i hf
          have ht := full_text (h := ownH h (kindAt h.kind w)) hk3 hf
          have e : (ownH h (kindAt h.kind w)).text = sqz h.text := by
            unfold ownH
            simp only
            rw [if_pos (by omega)]
          rw [e] at ht
          rw [← ink_sqz, ht]
          rfl
      rw [hfirst]
      by_cases hm : mayK h.kind = true
      · rw [if_pos hm, if_pos hm]
        obtain ⟨h1, h2⟩ := tdL_keep ks w d n hk (by omega) (by omega)
        exact ⟨by rw [h1], by omega⟩
      · rw [if_neg hm, if_neg hm]
        have h3 : h.kind = 3 := by
          have := mt (mayK_iff h.kind).2 hm
          omega
        have hks : ks = [] := by
          rcases p6 with q | q
          · exact absurd h3 q
          · cases ks with
            | nil => rfl
            | cons a b => cases q
        subst hks
        exact ⟨rfl, by omega⟩
theorem tdL_keep : ∀ (l : List Nd) (w : Int) (d n : Nat), plL l = true → dpL l + d ≤ 20 → cntL l ≤ n → lvL (tdL l w d n).1 = lvL l ∧ n ≤ (tdL l w d n).2 + cntL l
  | [], w, d, n, _, _, _ => by rw [tdL_nil]; simp [cntL]
  | x :: l, w, d, n, hp, hd, hc => by
    simp only [plL, Bool.and_eq_true] at hp
    simp only [dpL] at hd
    simp only [cntL] at hc ⊢
    have hx := cntN_eq x
    have hx2 := dpN_eq x
    obtain ⟨h1, h2⟩ := tdN_keep x w d (n - 1) hp.1 (by omega) (by omega)
    obtain ⟨h3, h4⟩ := tdL_keep l w d (tdN x w d (n - 1)).2 hp.2 (by omega) (by omega)
    rw [tdL_cons, if_neg (by omega)]
    simp only
    rw [lvL_app, h1, h3]
    exact ⟨rfl, by omega⟩
end
theorem keep_tidy {l : List Nd} (hp : plL l = true) (hd : dpL l ≤ 20) (hc : cntL l ≤ 20000) : lvL (tidyL l) = lvL l := (tdL_keep l 0 0 20000 hp (by omega) hc).1
end Go.Proofs.YtienjlbpaedbjaaDoor
