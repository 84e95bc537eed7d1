/- The document's answer for layer 8: has, add, Inside. The document's answer for layer 8: name, Step. The document's answer for layer 8: rows of what is told; Long. What the laws of layer 8 ask of a builder, whatever it keeps (BI); TB: what the tables say. Rows of Bools. Rows as a builder keeps them: one's own, or to be read alone; a node stored in one; a node behind one. The program's builder, as it lies: what is its own (each block has a number that says what it is for), and what it reads. The program's builder: a node is laid where the document goes on. The program's builder: a node is laid into the innermost that is open. The laws' known, over whatever a builder keeps. The document's answer for layer 7: inked, Leaves. -/
import Derived.Test.YtpccjgoeoeehoaaDoorBs
import Derived.Deep.RegionHeld3
import Derived.Deep.DeepCutAuto
import Derived.StillTailTactics
import Derived.ArgAppend
import Derived.Test.YtpccjgoeoeehoaaDoorBm
set_option linter.unusedVariables false
set_option linter.unusedSimpArgs false
namespace Go.Proofs.YtpccjgoeoeehoaaDoor
open Go.RowKit
/-- Nodes in S. -/
def NdIs (S : Nat → Prop) (w : World) (x : NV) (y : Nd) : Prop := HdIs S w x y.hd ∧ NsS S w (pv x.kids) y.kids
theorem NdIs.keep {S : Nat → Prop} {w w' : World} {x : NV} {y : Nd} (h : NdIs S w x y) (k : Kp S w w') : NdIs S w' x y := ⟨h.1.keep k, h.2.keep k⟩
attribute [local go_sem ↓ high] builtin_appN
end Go.Proofs.YtpccjgoeoeehoaaDoor
namespace Go.Proofs.YtpccjgoeoeehoaaDoor
open Go.RowKit
def scell (b : List UInt8) : List Value := [.string ⟨b.toArray⟩]
theorem scell_len (b : List UInt8) : (scell b).length = 1 := rfl
/-- Something that is told. -/
structure Dd where
  kind : Int
  s : List (List UInt8)
  x : Nd
  n : Int
  l : List Int
  g : List Gly
structure DV where
  kind : Int
  s : PV
  x : NV
  n : Int
  l : PV
  g : PV
def dcell (v : DV) : List Value := [.int .i64 v.kind, pv v.s, .int .i64 v.x.kind, .int .i64 v.x.line, .int .i64 v.x.n, pv v.x.text, pv v.x.kids, pv v.x.rows, .string ⟨v.x.cols.toArray⟩, pv v.x.trows, .bool v.x.box, .bool v.x.all, .int .i64 v.n, pv v.l, pv v.g]
structure DdIs (S : Nat → Prop) (w : World) (v : DV) (d : Dd) : Prop where
  kind : v.kind = d.kind
  s : FsS S 1 scell w (pv v.s) d.s
  x : NdIs S w v.x d.x
  n : v.n = d.n
  l : FsS S 1 icell w (pv v.l) d.l
  g : FsS S 2 gcell w (pv v.g) d.g
def ddl (d : Dd) : Nat := 2 + d.g.length + d.l.length + nlN d.x
end Go.Proofs.YtpccjgoeoeehoaaDoor
namespace Go.Proofs.YtpccjgoeoeehoaaDoor
open Go.RowKit
theorem dcell_len (v : DV) : (dcell v).length = 15 := rfl
def DosS (S : Nat → Prop) (w : World) (v : Value) (l : List Dd) : Prop := ∃ L : List DV, L.length = l.length ∧ FsS S 15 dcell w v L ∧ ∀ (i : Nat) x y, L[i]? = some x → l[i]? = some y → DdIs S w x y
def ddls (l : List Dd) : Nat := (l.map ddl).sum
end Go.Proofs.YtpccjgoeoeehoaaDoor
namespace Go.Proofs.YtpccjgoeoeehoaaDoor
open Go.RowKit
/-- All blocks that were there stand, but those of X. -/
structure Exq (X : Nat → Prop) (w w' : World) : Prop where
  os : w'.os = w.os
  tape : w'.tape = w.tape
  output : w'.output = w.output
  size : w.heap.size ≤ w'.heap.size
  block : ∀ k, k < w.heap.size → ¬ X k → w'.heap[k]? = w.heap[k]?
theorem Exq.below {X : Nat → Prop} {w w' : World} {D : Nat} (h : Exq X w w') (hD : D ≤ w.heap.size) (hX : ∀ b, X b → D ≤ b) : Below D w w' :=
  ⟨h.os, h.tape, h.output, h.size, fun k hk => h.block k (Nat.lt_of_lt_of_le hk hD) (fun q => by have := hX k q; omega)⟩
/-- A builder that was told nothing. -/
def bt0 : Bt := ⟨⟨[], [], [], []⟩, [], [], [], 0, false⟩
abbrev BIT := (Nat → Prop) → (Nat → Prop) → World → Nat → Bt → Prop
/-- What there is behind a call: X writable, R read, S what came in. -/
def Aft (BI : BIT) (X R S : Nat → Prop) (w : World) (b : Nat) (t' : Bt) (w' : World) : Prop :=
  ∃ X' R', BI X' R' w' b t' ∧ Exq X w w' ∧ (∀ k, X' k → X k ∨ w.heap.size ≤ k) ∧ (∀ k, R' k → R k ∨ S k ∨ X k ∨ w.heap.size ≤ k)
abbrev ptrV (b : Nat) : Value := .pointer (some ⟨b, 0, none⟩)
structure Impl (BI : BIT) (TB : World → Prop) : Prop where
  lt : ∀ {X R w b t}, BI X R w b t → ∀ k, X k ∨ R k → k < w.heap.size
  keep : ∀ {X R w w' b t}, BI X R w b t → Kp X w w' → Kp R w w' → w.heap.size ≤ w'.heap.size → BI X R w' b t
  new : ∀ w, Calls Tryd.prog 10 #[] w fun e w' => ∃ b X, e = .returned (ptrV b) ∧ BI X (fun _ => False) w' b bt0 ∧ Below w.heap.size w w' ∧ ∀ k, X k → w.heap.size ≤ k
  title : ∀ {X R w b t} (n0 n1 n2 n3 : List UInt8), BI X R w b t → TB w → Calls Tryd.prog 28 #[ptrV b, .string ⟨n0.toArray⟩, .string ⟨n1.toArray⟩, .string ⟨n2.toArray⟩, .string ⟨n3.toArray⟩] w fun e w' => e = .returned (.tuple #[]) ∧ Aft BI X R (fun _ => False) w b { t with nm := ⟨n0, n1, n2, n3⟩ } w'
  opn : ∀ {X R S w b t nv y}, BI X R w b t → TB w → NdIs S w nv y → (∀ k, S k → k < w.heap.size ∧ ¬ X k) → btl t + nlN y ≤ 30000 → Calls Tryd.prog 30 #[ptrV b, .agg (ncell nv).toArray] w fun e w' => e = .returned (.tuple #[]) ∧ Aft BI X R S w b (bOpen t y) w'
  add : ∀ {X R S w b t nv y}, BI X R w b t → TB w → NdIs S w nv y → (∀ k, S k → k < w.heap.size ∧ ¬ X k) → btl t + nlN y ≤ 30000 → Calls Tryd.prog 20 #[ptrV b, .agg (ncell nv).toArray] w fun e w' => e = .returned (.tuple #[]) ∧ Aft BI X R S w b (bAdd t y) w'
  close : ∀ {X R w b t} (k : Int), BI X R w b t → TB w → btl t ≤ 30000 → Calls Tryd.prog 27 #[ptrV b, .int .i64 k] w fun e w' => e = .returned (.bool (bClose t k).2) ∧ Aft BI X R (fun _ => False) w b (bClose t k).1 w'
  shut : ∀ {X R S w b t v} (K : List Int), BI X R w b t → TB w → FsS S 1 icell w v K → (∀ k, S k → k < w.heap.size ∧ ¬ X k) → K.length ≤ 30000 → btl t ≤ 30000 → Calls Tryd.prog 23 #[ptrV b, v] w fun e w' => e = .returned (.tuple #[]) ∧ Aft BI X R S w b (bShut t K) w'
  text : ∀ {X R S w b t v} (g : List Gly) (i : Int), BI X R w b t → TB w → FsS S 2 gcell w v g → (∀ k, S k → k < w.heap.size ∧ ¬ X k) → btl t + g.length ≤ 30000 → Calls Tryd.prog 24 #[ptrV b, v, .int .i64 i] w fun e w' => e = .returned (.tuple #[]) ∧ Aft BI X R S w b (bText t g i) w'
  nd : ∀ {X R w b t}, BI X R w b t → TB w → btl t ≤ 30000 → Calls Tryd.prog 22 #[ptrV b] w fun e w' => e = .returned (.tuple #[]) ∧ Aft BI X R (fun _ => False) w b (bEnd t) w'
  depth : ∀ {X R w b t}, BI X R w b t → TB w → Calls Tryd.prog 13 #[ptrV b] w fun e w' => e = .returned (.int .i64 (t.opn.length : Int)) ∧ Below w.heap.size w w'
  inside : ∀ {X R w b t} (k : Int), BI X R w b t → TB w → btl t ≤ 30000 → Calls Tryd.prog 14 #[ptrV b, .int .i64 k] w fun e w' => e = .returned (.bool (bIn t k)) ∧ Below w.heap.size w w'
  doc : ∀ {X R w b t}, BI X R w b t → TB w → btl t ≤ 30000 → Calls Tryd.prog 17 #[ptrV b] w fun e w' => ∃ s : PV, e = .returned (docV t.nm (pv s)) ∧ NsS (fun k => w.heap.size ≤ k ∧ k < w'.heap.size) w' (pv s) (bDoc t) ∧ Below w.heap.size w w'
  tb : ∀ {w w'}, TB w → Below w.heap.size w w' → TB w'
end Go.Proofs.YtpccjgoeoeehoaaDoor
namespace Go.Proofs.YtpccjgoeoeehoaaDoor
open Go.RowKit
def blcell (b : Bool) : List Value := [.bool b]
theorem blcell_len (b : Bool) : (blcell b).length = 1 := rfl
end Go.Proofs.YtpccjgoeoeehoaaDoor
namespace Go.Proofs.YtpccjgoeoeehoaaDoor
open Go.RowKit
section
variable {α : Type} {e n : Nat} {f : α → List Value} {base : Nat} {W W' : World} {x : Value} {l : List α}
theorem FOwn.kp (h : FOwn e n f base W x l) (k : ∀ b, x.ownBlock = some b → W'.heap[b]? = W.heap[b]?) : FOwn e n f base W' x l := by
  refine ⟨h.1, ?_⟩
  rcases h.2 with h0 | ⟨g, cap, cur, rfl, hg, hh, r⟩
  · exact .inl h0
  · exact .inr ⟨g, cap, cur, rfl, hg, (k g rfl).trans hh, r⟩
theorem FOwn.z (h : FOwn e n f base W x l) : FOwn e n f 0 W x l := h.mono (Nat.zero_le _)
theorem own_blk (hf : ∀ x, (f x).length = n) (h : FOwn e n f base W x l) : FsS (fun b => x.ownBlock = some b) n f W x l := by
  refine ⟨FOwn.sl hf h, fun a k c e1 hk => ?_⟩
  subst e1
  rcases h.2 with ⟨hn, -⟩ | ⟨g, cap, cur, hx, hb, hgg, -⟩
  · injection hn with e1 e2 e3
    cases e1
  · injection hx with e1 e2 e3
    injection e1 with e1
    subst e1
    exact ⟨rfl, fun _ i _ => by simp [World.frozen?, hgg]⟩
theorem FOwn.ltb (h : FOwn e n f base W x l) {g : Nat} (hg : x.ownBlock = some g) : g < W.heap.size := by
  obtain ⟨-, cur, hc⟩ := h.ty hg
  exact (Array.getElem?_eq_some_iff.1 hc).1
/-- Where a row of one's own lies. -/
theorem FOwn.place (hf : ∀ x, (f x).length = n) (h : FOwn e n f base W x l) (hl : 0 < l.length) : ∃ g c, x = .slice (some ⟨g, 0, none⟩) l.length c ∧ l.length ≤ c ∧ base ≤ g ∧ ∃ cur, W.heap[g]? = some (.cells cur e (0, 0)) ∧ cur.size = c * n := by
  rcases h.2 with ⟨-, h0⟩ | ⟨g, cap, cur, rfl, hb, hh, h1, -, hs, -⟩
  · omega
  · exact ⟨g, cap, rfl, h1, hb, cur, hh, hs⟩
theorem FOwn.slotA (hf : ∀ x, (f x).length = n) {g c N : Nat} (h : FOwn e n f base W (.slice (some ⟨g, 0, none⟩) N c) l) {j : Nat} {s : α} (hs : l[j]? = some s) {i : Nat} {u : Value} (hu : (f s)[i]? = some u) :
    W.cell? ⟨g, j * n + i, none⟩ = some u ∧ W.frozen? ⟨g, j * n + i, none⟩ = false := by
  have hx := flatV_at hf l j i s u hs hu
  obtain ⟨a, c', e2⟩ := (FOwn.sl hf h).len
  injection e2 with e3 e4 e5
  have h' : W.ownsRow base e n (.slice (some ⟨g, 0, none⟩) N c) l.length (flatV f l) := h
  rw [e4] at h'
  refine ⟨?_, h'.frozenAt _⟩
  have := World.ownsRow.cells (g := g) h' rfl (j * n + i) u hx
  rw [Addr.add_lit] at this
  rw [Nat.zero_add] at this
  exact this
/-- Cells stored one behind the other. -/
def setV : List Value → Nat → List Value → List Value
  | xs, _, [] => xs
  | xs, o, v :: r => setV (xs.set o v) (o + 1) r
theorem setV_mid : ∀ (vs u A B : List Value), u.length = vs.length → setV (A ++ u ++ B) A.length vs = A ++ vs ++ B
  | [], u, A, B, h => by
    obtain rfl : u = [] := List.eq_nil_of_length_eq_zero h
    rfl
  | v :: vs, [], A, B, h => by simp at h
  | v :: vs, c :: u, A, B, h => by
    have ih := setV_mid vs u (A ++ [v]) B (by simpa using h)
    have e1 : (A ++ c :: u ++ B).set A.length v = (A ++ [v]) ++ u ++ B := by simp
    show setV ((A ++ c :: u ++ B).set A.length v) (A.length + 1) vs = _
    rw [e1]
    have e2 : (A ++ [v]).length = A.length + 1 := by simp
    rw [e2] at ih
    rw [ih]
    simp
theorem own_setCells {g N c : Nat} : ∀ (vs : List Value) (o : Nat) (xs : List Value) (W : World), W.ownsRow base e n (.slice (some ⟨g, 0, none⟩) N c) N xs → (W.setCells g o vs).ownsRow base e n (.slice (some ⟨g, 0, none⟩) N c) N (setV xs o vs)
  | [], _, _, _, h => h
  | v :: vs, o, xs, W, h => own_setCells vs (o + 1) (xs.set o v) _ (h.stored o v).1
theorem split_at {l : List α} {j : Nat} {s : α} (hs : l[j]? = some s) : l = l.take j ++ [s] ++ l.drop (j + 1) := by
  obtain ⟨hj, rfl⟩ := List.getElem?_eq_some_iff.1 hs
  simp
theorem FOwn.putA (hf : ∀ x, (f x).length = n) {g c N : Nat} (h : FOwn e n f base W (.slice (some ⟨g, 0, none⟩) N c) l) {j : Nat} (hj : j < l.length) (s : α) :
    FOwn e n f base (W.setCells g (j * n) (f s)) (.slice (some ⟨g, 0, none⟩) N c) (l.set j s) := by
  obtain ⟨a, c', e2⟩ := (FOwn.sl hf h).len
  injection e2 with e3 e4 e5
  have h' : W.ownsRow base e n (.slice (some ⟨g, 0, none⟩) N c) l.length (flatV f l) := h
  rw [← e4] at h'
  have k := own_setCells (f s) (j * n) (flatV f l) W h'
  obtain ⟨y, hy⟩ : ∃ y, l[j]? = some y := ⟨l[j], List.getElem?_eq_getElem hj⟩
  have e6 := split_at hy
  have e7 : l.set j s = l.take j ++ [s] ++ l.drop (j + 1) := by
    rw [List.set_eq_take_append_cons_drop]
    simp [hj]
  have e8 : (flatV f (l.take j)).length = j * n := by rw [flatV_len hf, List.length_take, Nat.min_eq_left (Nat.le_of_lt hj)]
  have e9 : setV (flatV f l) (j * n) (f s) = flatV f (l.set j s) := by
    rw [e7, flatV_app, flatV_app, flatV_one]
    conv => lhs; rw [e6, flatV_app, flatV_app, flatV_one, ← e8]
    exact setV_mid (f s) (f y) _ _ (by rw [hf, hf])
  unfold FOwn
  rw [List.length_set, e4, ← e9] at *
  exact k
/-- 'v[:k]' of a row of one's own is one. -/
theorem FOwn.cut (hf : ∀ x, (f x).length = n) {a : Option Addr} {N c : Nat} (h : FOwn e n f base W (.slice a N c) l) {k : Nat} (hk : k ≤ l.length) : FOwn e n f base W (.slice a k c) (l.take k) := by
  have hl : (l.take k).length = k := by rw [List.length_take]; omega
  refine ⟨flatV_len hf _, ?_⟩
  rcases h.2 with ⟨h1, h0⟩ | ⟨g, cap, cur, h1, hg, hh, hn, hm, hs, ht⟩
  · injection h1 with e1 e2 e3
    subst e1 e3
    have : k = 0 := by omega
    subst this
    exact .inl ⟨rfl, by simp⟩
  · injection h1 with e1 e2 e3
    subst e1 e3
    refine .inr ⟨g, c, cur, by rw [hl], hg, hh, by omega, hm, hs, ?_⟩
    rw [hl]
    have e4 : flatV f (l.take k) = (flatV f l).take (k * n) := by
      have h2 : flatV f l = flatV f (l.take k) ++ flatV f (l.drop k) := by rw [← flatV_app, List.take_append_drop]
      have h3 : (flatV f (l.take k)).length = k * n := by rw [flatV_len hf, hl]
      rw [h2, ← h3, List.take_left]
    rw [e4, ← ht, List.take_take, Nat.min_eq_left (Nat.mul_le_mul_right _ hk)]
/-- Cells of the row's block that lie behind it. -/
theorem FOwn.behind (hf : ∀ x, (f x).length = n) {g c k : Nat} {v : Value} (h : FOwn e n f base W (.slice (some ⟨g, 0, none⟩) k c) l) {q : Nat} (hq : l.length * n ≤ q) : FOwn e n f base (W.setCell ⟨g, q, none⟩ v) (.slice (some ⟨g, 0, none⟩) k c) l := by
  obtain ⟨a, c', e2⟩ := (FOwn.sl hf h).len
  injection e2 with e3 e4 e5
  have h' : W.ownsRow base e n (.slice (some ⟨g, 0, none⟩) k c) l.length (flatV f l) := h
  rw [← e4] at h'
  have k1 := (h'.stored q v).1
  rw [List.set_eq_of_length_le (by rw [flatV_len hf]; exact hq)] at k1
  unfold FOwn
  rw [← e4]
  exact k1
end
theorem below_setC {B : Nat} {a : World} {b : Nat} (hb : B ≤ b) : ∀ (vs : List Value) (o : Nat) (w : World), Below B a w → Below B a (w.setCells b o vs)
  | [], _, _, h => h
  | v :: r, o, w, h => below_setC hb r (o + 1) _ (h.setCell hb _)
theorem exc_setC {X : Nat → Prop} {a : World} {g : Nat} (hg : g < a.heap.size → X g) : ∀ (vs : List Value) (o : Nat) (w : World), Exc X a w → Exc X a (w.setCells g o vs)
  | [], _, _, h => h
  | v :: r, o, w, h => exc_setC hg r (o + 1) _ (h.set o v hg)
theorem sz_setC {g : Nat} : ∀ (vs : List Value) (o : Nat) (w : World), (w.setCells g o vs).heap.size = w.heap.size
  | [], _, _ => rfl
  | v :: r, o, w => (sz_setC r (o + 1) _).trans (szset _ _ _)
theorem heap_setC {g k : Nat} (hk : k ≠ g) : ∀ (vs : List Value) (o : Nat) (w : World), (w.setCells g o vs).heap[k]? = w.heap[k]?
  | [], _, _ => rfl
  | v :: r, o, w => (heap_setC hk r (o + 1) _).trans (Below.heap_setCell w ⟨g, o, none⟩ v k hk)
/-- A row of nodes as it lies: one's own, in a block of O; or to be read alone, with no room behind it. -/
def RwV (R O : Nat → Prop) (w : World) (v : Value) (L : List NV) : Prop :=
  (FOwn 40 10 ncell 0 w v L ∧ ∀ k, v.ownBlock = some k → O k) ∨ (FsS R 10 ncell w v L ∧ ∃ a, v = .slice a L.length L.length)
def RwN (R O : Nat → Prop) (w : World) (v : Value) (l : List Nd) : Prop :=
  ∃ L : List NV, RwV R O w v L ∧ L.length = l.length ∧ ∀ (i : Nat) x y, L[i]? = some x → l[i]? = some y → HdIs R w x y.hd ∧ NsS R w (pv x.kids) y.kids
section
variable {R R' O O' : Nat → Prop} {w w' : World} {v : Value} {L : List NV} {l : List Nd}
theorem RwV.keep (h : RwV R O w v L) (hR : Kp R w w') (hO : Kp O w w') : RwV R O w' v L :=
  h.imp (fun q => ⟨q.1.kp (fun b e => hO b (q.2 b e)), q.2⟩) (fun q => ⟨q.1.keep hR, q.2⟩)
theorem RwV.mono (h : RwV R O w v L) (hR : ∀ k, R k → R' k) (hO : ∀ k, O k → O' k) : RwV R' O' w v L :=
  h.imp (fun q => ⟨q.1, fun k e => hO k (q.2 k e)⟩) (fun q => ⟨q.1.mono hR, q.2⟩)
theorem RwV.fs (h : RwV R O w v L) : FsS (fun k => R k ∨ O k) 10 ncell w v L :=
  h.elim (fun q => (own_blk ncell_len q.1).mono (fun k e => .inr (q.2 k e))) (fun q => q.1.mono (fun k => .inl))
theorem RwV.len (h : RwV R O w v L) : ∃ a c, v = .slice a L.length c ∧ L.length ≤ c := by
  obtain ⟨⟨a, c, e, hc, -⟩, -⟩ := h.fs
  exact ⟨a, c, e, hc⟩
theorem RwN.keep (h : RwN R O w v l) (hR : Kp R w w') (hO : Kp O w w') : RwN R O w' v l := by
  obtain ⟨L, h1, h2, h3⟩ := h
  exact ⟨L, h1.keep hR hO, h2, fun i x y a b => ⟨(h3 i x y a b).1.keep hR, (h3 i x y a b).2.keep hR⟩⟩
theorem RwN.mono (h : RwN R O w v l) (hR : ∀ k, R k → R' k) (hO : ∀ k, O k → O' k) : RwN R' O' w v l := by
  obtain ⟨L, h1, h2, h3⟩ := h
  exact ⟨L, h1.mono hR hO, h2, fun i x y a b => ⟨(h3 i x y a b).1.mono hR, (h3 i x y a b).2.mono hR⟩⟩
theorem RwN.nil (R O : Nat → Prop) (w : World) : RwN R O w (.slice none 0 0) [] := ⟨[], .inl ⟨FOwn.nil _ _, fun k e => by cases e⟩, rfl, fun i x y h => by simp at h⟩
theorem RwN.len (h : RwN R O w v l) : ∃ a c, v = .slice a l.length c ∧ l.length ≤ c := by
  obtain ⟨L, h1, h2, -⟩ := h
  obtain ⟨a, c, e, hc⟩ := h1.len
  exact ⟨a, c, h2 ▸ e, h2 ▸ hc⟩
theorem RwN.nss (h : RwN R O w v l) : NsS (fun k => R k ∨ O k) w v l := by
  obtain ⟨L, h1, h2, h3⟩ := h
  exact .mk _ _ L h2 h1.fs (fun i x y a b => (h3 i x y a b).1.mono (fun k => .inl)) (fun i x y a b => (h3 i x y a b).2.mono (fun k => .inl))
/-- Nodes that were made are a row of one's own. -/
theorem NInv.rwn {base : Nat} (h : NInv (fun _ => False) base w v l) (hO : ∀ k, v.ownBlock = some k → O k) (hR : ∀ k, base ≤ k → k < w.heap.size → v.ownBlock ≠ some k → R k) : RwN R O w v l := by
  obtain ⟨L, S, h1, h2, h3, h4⟩ := h.own
  have m : ∀ b, S b → R b := fun b q => (h3 b q).elim (fun z => z.elim) (fun z => hR b z.1 z.2.1 z.2.2)
  exact ⟨L, .inl ⟨h1.z, hO⟩, h2, fun i x y a b => ⟨(h4 i x y a b).1.mono m, (h4 i x y a b).2.mono m⟩⟩
/-- Read alone. -/
theorem RwN.clip (h : RwN R O w v l) : ∃ a c, v = .slice a l.length c ∧ RwN (fun k => R k ∨ O k) O' w (.slice a l.length l.length) l := by
  obtain ⟨L, h1, h2, h3⟩ := h
  have hf := h1.fs
  obtain ⟨a, c, rfl, hc⟩ := h1.len
  refine ⟨a, c, by rw [h2], L, .inr ⟨⟨?_, fun a' k c' e hk => ?_⟩, a, by rw [h2]⟩, h2, fun i x y p q => ⟨(h3 i x y p q).1.mono (fun k => .inl), (h3 i x y p q).2.mono (fun k => .inl)⟩⟩
  · obtain ⟨⟨a2, c2, e2, hc2, hr⟩, -⟩ := hf
    injection e2 with e3 e4 e5
    subst e3
    exact ⟨a, _, by rw [h2], Nat.le_of_eq h2, hr⟩
  · injection e with e1 e2 e3
    subst e1 e2
    exact hf.2 a' _ c (by rw [h2]) hk
/-- The append of a node to it. -/
theorem RwV.app1 (h : RwV R O w v L) (hl : L.length ≤ 400000) {u : Value} {z : NV} {c0 : Nat} {ad : Addr} (hu : u = .slice (some ad) 1 c0) (hf : Fs 10 ncell w u [z]) :
    ∃ g c w', (Builtin.append_ #[27, 27] 27 #[v, u]).run Tryd.prog w = .ok (.slice (some ⟨g, 0, none⟩) (L.length + 1) c) w' ∧ FOwn 40 10 ncell 0 w' (.slice (some ⟨g, 0, none⟩) (L.length + 1) c) (L ++ [z]) ∧ Exc O w w' ∧ (O g ∨ w.heap.size ≤ g) ∧ g < w'.heap.size := by
  obtain ⟨i0, hi, hz0, hz1, hz2⟩ := info_parts infoNd
  have fin : ∀ x' w', (Builtin.append_ #[27, 27] 27 #[v, u]).run Tryd.prog w = .ok x' w' → FOwn 40 10 ncell 0 w' x' (L ++ [z]) → Exc O w w' → (∀ k, x'.ownBlock = some k → O k ∨ w.heap.size ≤ k) →
      ∃ g c w', (Builtin.append_ #[27, 27] 27 #[v, u]).run Tryd.prog w = .ok (.slice (some ⟨g, 0, none⟩) (L.length + 1) c) w' ∧ FOwn 40 10 ncell 0 w' (.slice (some ⟨g, 0, none⟩) (L.length + 1) c) (L ++ [z]) ∧ Exc O w w' ∧ (O g ∨ w.heap.size ≤ g) ∧ g < w'.heap.size := fun x' w' hr ho hE hg => by
    obtain ⟨g, c, e, -, -, cur, hcur, -⟩ := ho.place ncell_len (by simp)
    have e2 : (L ++ [z]).length = L.length + 1 := by simp
    rw [e2] at e
    subst e
    exact ⟨g, c, w', hr, ho, hE, hg g rfl, (Array.getElem?_eq_some_iff.1 hcur).1⟩
  rcases h with ⟨ho, hO⟩ | ⟨hF, a, hv⟩
  · obtain ⟨x', w', hr, ho', hg, hq⟩ := fapp (P := Tryd.prog) (t := 27) ncell_len ncell_one (by decide) Tryd.underlying27 hi hz0 hz1 hz2 rfl (by decide) ho hf (Nat.zero_le _) (by simp; omega)
    refine fin x' w' hr ho' ⟨hg.os, hg.tape, hg.output, hg.size, fun k hk hx => hg.block k hk (fun e => hx (hO k e.symm))⟩ (fun k hk => ?_)
    rcases hq with e | e
    · exact .inl (hO k (e ▸ hk))
    · rw [e] at hk
      exact .inr (Nat.le_of_eq (Option.some.inj hk))
  · subst hv hu
    rcases a with _ | b
    · obtain ⟨⟨a2, c2, e2, -, hr2⟩, -⟩ := hF
      injection e2 with e3 e4 e5
      subst e3
      have hL : L = [] := by
        cases L with
        | nil => rfl
        | cons x r =>
          obtain ⟨g, off, h0, -⟩ := hr2 0 x rfl
          cases h0
      subst hL
      obtain ⟨x', w', hr, ho', hg, hq⟩ := fapp (P := Tryd.prog) (t := 27) ncell_len ncell_one (by decide) Tryd.underlying27 hi hz0 hz1 hz2 rfl (by decide) (FOwn.nil (e := 40) (n := 10) (f := ncell) 0 w) hf (Nat.zero_le _) (by simp)
      refine fin x' w' hr ho' ⟨hg.os, hg.tape, hg.output, hg.size, fun k hk hx => hg.block k hk (fun e => by cases e)⟩ (fun k hk => ?_)
      rcases hq with e | e
      · rw [e] at hk; cases hk
      · rw [e] at hk
        exact .inr (Nat.le_of_eq (Option.some.inj hk))
    · obtain ⟨⟨a2, c2, e2, -, hr2⟩, -⟩ := hF
      injection e2 with e3 e4 e5
      subst e3
      obtain ⟨a3, c3, e6, -, hr3⟩ := hf
      injection e6 with e7 e8 e9
      subst e7
      have hold : ∀ j u, (flatV ncell L)[j]? = some u → w.cell? (b.add j) = some u := fun j u hj => by
        obtain ⟨q, i, y, rfl, hq, hi'⟩ := flatV_inv ncell_len L j u hj
        obtain ⟨g, off, hg, h0⟩ := hr2 q y hq
        obtain rfl := Option.some.inj hg
        rw [Addr.add_lit]
        exact h0 i u hi'
      have hnew : ∀ j u, (flatV ncell [z])[j]? = some u → w.cell? (ad.add j) = some u := fun j u hj => by
        obtain ⟨q, i, y, rfl, hq, hi'⟩ := flatV_inv ncell_len [z] j u hj
        obtain ⟨g, off, hg, h0⟩ := hr3 q y hq
        obtain rfl := Option.some.inj hg
        rw [Addr.add_lit]
        exact h0 i u hi'
      obtain ⟨x', w', hr, ho', hg⟩ := run_append_arg_grows (P := Tryd.prog) w 27 27 40 i0 _ 10 144 Tryd.underlying27 hi hz0 hz1 hz2 rfl (by decide) b L.length L.length (flatV ncell L) (flatV_len ncell_len L) hold ad 1 c0 (flatV ncell [z]) (flatV_len ncell_len [z]) hnew (by omega) (by unfold maxLen; omega) (by omega)
      have ho2 : FOwn 40 10 ncell w.heap.size w' x' (L ++ [z]) := by
        unfold FOwn
        rw [flatV_app, List.length_append]
        exact ho'
      refine fin x' w' hr ho2.z ⟨hg.os, hg.tape, hg.output, hg.size, fun k hk hx => hg.block k hk (by simp)⟩ (fun k hk => ?_)
      obtain ⟨g, c, e, -, hgb, cur, hcur, -⟩ := ho2.place ncell_len (by simp)
      subst e
      simp only [Value.ownBlock, Option.some.injEq] at hk
      exact .inr (by omega)
end
end Go.Proofs.YtpccjgoeoeehoaaDoor
namespace Go.Proofs.YtpccjgoeoeehoaaDoor
open Go.RowKit
/-- A builder's seven cells. -/
def bcell (n : Nm) (kv ov : PV) (pa : Value) : List Value := [.string ⟨n.a.toArray⟩, .string ⟨n.b.toArray⟩, .string ⟨n.c.toArray⟩, .string ⟨n.d.toArray⟩, pv kv, pv ov, pa]
/-- A paragraph's node. -/
def pnode (line : Int) (tv : PV) : NV := ⟨3, line, 0, tv, nilP, nilP, [], nilP, false, false⟩
/-- The paragraph: none; or a node, its own (4, its text 5), or to be read alone. -/
def PaIs (m : Bool) (lab : Nat → Nat) (R : Nat → Prop) (w : World) (pa : Value) (t : Bt) : Prop :=
  (t.has = false ∧ pa = .pointer none ∧ t.text = [] ∧ t.line = 0) ∨
  (t.has = true ∧ ∃ g tv, pa = .pointer (some ⟨g, 0, none⟩) ∧ Blk w g 40 (ncell (pnode t.line tv)) ∧
    ((m = true ∧ lab g = 4 ∧ FOwn 56 2 gcell 0 w (pv tv) t.text ∧ ∀ k, (pv tv).ownBlock = some k → lab k = 5) ∨ (m = false ∧ R g ∧ FsS R 2 gcell w (pv tv) t.text)))
/-- A builder: 1 its box, 2 its nodes' row, 3 what is open, 4 and 5 the paragraph, 6 + i the nodes within the open node i; 0 is not its own. -/
structure BC (m : Bool) (R : Nat → Prop) (w : World) (b : Nat) (t : Bt) (kv ov : PV) (pa : Value) (LO : List NV) (lab : Nat → Nat) : Prop where
  ll : ∀ k, lab k ≠ 0 → k < w.heap.size
  rl : ∀ k, R k → k < w.heap.size
  sep : ∀ k, R k → lab k = 0
  lb : lab b = 1
  box : Blk w b 71 (bcell t.nm kv ov pa)
  kids : RwN R (fun k => lab k = 2) w (pv kv) t.kids
  opn : FOwn 40 10 ncell 0 w (pv ov) LO
  opb : ∀ k, (pv ov).ownBlock = some k → lab k = 3
  ol : LO.length = t.opn.length
  on : ∀ (i : Nat) x y, LO[i]? = some x → t.opn[i]? = some y → HdIs R w x y.hd ∧ RwN R (fun k => lab k = 6 + i) w (pv x.kids) y.kids
  para : PaIs m lab R w pa t
/-- .. with all that is its own in X. -/
def BM (m : Bool) (X R : Nat → Prop) (w : World) (b : Nat) (t : Bt) : Prop := ∃ kv ov pa LO lab, BC m R w b t kv ov pa LO lab ∧ ∀ k, X k ↔ lab k ≠ 0
section
variable {m : Bool} {X R R' : Nat → Prop} {w w' : World} {b : Nat} {t : Bt} {kv ov : PV} {pa : Value} {LO : List NV} {lab lab' : Nat → Nat}
theorem PaIs.keep (h : PaIs m lab R w pa t) (hR : Kp R w w') (hX : Kp (fun k => lab k = 4 ∨ lab k = 5) w w') : PaIs m lab R w' pa t := by
  rcases h with h | ⟨h1, g, tv, h2, h3, h4⟩
  · exact .inl h
  · refine .inr ⟨h1, g, tv, h2, ?_, ?_⟩
    · rcases h4 with ⟨-, q, -⟩ | ⟨-, q, -⟩
      · exact (hX g (.inl q)).trans h3
      · exact (hR g q).trans h3
    · exact h4.imp (fun ⟨q1, q2, q3, q4⟩ => ⟨q1, q2, q3.kp (fun k e => hX k (.inr (q4 k e))), q4⟩) (fun ⟨q1, q2, q3⟩ => ⟨q1, q2, q3.keep hR⟩)
theorem PaIs.relab (h : PaIs m lab R w pa t) (hR : ∀ k, R k → R' k) (h4 : ∀ k, lab k = 4 → lab' k = 4) (h5 : ∀ k, lab k = 5 → lab' k = 5) : PaIs m lab' R' w pa t := by
  rcases h with h | ⟨q1, g, tv, q2, q3, q4⟩
  · exact .inl h
  · exact .inr ⟨q1, g, tv, q2, q3, q4.imp (fun ⟨z1, z2, z3, z4⟩ => ⟨z1, h4 _ z2, z3, fun k e => h5 _ (z4 k e)⟩) (fun ⟨z1, z2, z3⟩ => ⟨z1, hR _ z2, z3.mono hR⟩)⟩
/-- All that is its own, and all that it reads, stands: so does the builder. -/
theorem BC.keep (h : BC m R w b t kv ov pa LO lab) (hX : Kp (fun k => lab k ≠ 0) w w') (hR : Kp R w w') (hs : w.heap.size ≤ w'.heap.size) : BC m R w' b t kv ov pa LO lab :=
  have kz : ∀ z, z ≠ 0 → Kp (fun k => lab k = z) w w' := fun z hz k e => hX k (show lab k ≠ 0 by rw [show lab k = z from e]; exact hz)
  ⟨fun k q => Nat.lt_of_lt_of_le (h.ll k q) hs, fun k q => Nat.lt_of_lt_of_le (h.rl k q) hs, h.sep, h.lb, (hX b (show lab b ≠ 0 by rw [h.lb]; decide)).trans h.box, h.kids.keep hR (kz 2 (by decide)),
    h.opn.kp (fun k e => hX k (show lab k ≠ 0 by rw [h.opb k e]; decide)), h.opb, h.ol, fun i x y a c => ⟨(h.on i x y a c).1.keep hR, (h.on i x y a c).2.keep hR (kz _ (by omega))⟩, PaIs.keep h.para hR (fun k q => hX k (show lab k ≠ 0 by rcases q with q | q <;> omega))⟩
theorem BM.keep (h : BM m X R w b t) (hX : Kp X w w') (hR : Kp R w w') (hs : w.heap.size ≤ w'.heap.size) : BM m X R w' b t := by
  obtain ⟨kv, ov, pa, LO, lab, h1, h2⟩ := h
  exact ⟨kv, ov, pa, LO, lab, h1.keep (fun k q => hX k ((h2 k).2 q)) hR hs, h2⟩
theorem BM.lt (h : BM m X R w b t) : ∀ k, X k ∨ R k → k < w.heap.size := by
  obtain ⟨kv, ov, pa, LO, lab, h1, h2⟩ := h
  exact fun k q => q.elim (fun q => h1.ll k ((h2 k).1 q)) (h1.rl k)
theorem BM.self (h : BM m X R w b t) : X b := by
  obtain ⟨kv, ov, pa, LO, lab, h1, h2⟩ := h
  exact (h2 b).2 (by rw [h1.lb]; decide)
/-- More is read. -/
theorem BC.more (h : BC m R w b t kv ov pa LO lab) (hR : ∀ k, R k → R' k) (hn : ∀ k, R' k → R k ∨ (k < w.heap.size ∧ lab k = 0)) : BC m R' w b t kv ov pa LO lab :=
  ⟨h.ll, fun k q => (hn k q).elim (h.rl k) (fun z => z.1), fun k q => (hn k q).elim (h.sep k) (fun z => z.2), h.lb, h.box, h.kids.mono hR (fun _ q => q), h.opn, h.opb, h.ol,
    fun i x y a c => ⟨(h.on i x y a c).1.mono hR, (h.on i x y a c).2.mono hR (fun _ q => q)⟩, PaIs.relab h.para hR (fun _ q => q) (fun _ q => q)⟩
theorem BM.more (h : BM m X R w b t) (hR : ∀ k, R k → R' k) (hn : ∀ k, R' k → R k ∨ (k < w.heap.size ∧ ¬ X k)) : BM m X R' w b t := by
  obtain ⟨kv, ov, pa, LO, lab, h1, h2⟩ := h
  refine ⟨kv, ov, pa, LO, lab, h1.more hR (fun k q => (hn k q).imp id (fun z => ⟨z.1, ?_⟩)), h2⟩
  have := z.2
  rw [h2 k] at this
  omega
/-- One of those that are open. -/
theorem BC.at (h : BC m R w b t kv ov pa LO lab) {i : Nat} {y : Nd} (hy : t.opn[i]? = some y) : ∃ g c x, pv ov = .slice (some ⟨g, 0, none⟩) t.opn.length c ∧ t.opn.length ≤ c ∧ lab g = 3 ∧ LO[i]? = some x ∧ (∀ (j : Nat) u, (ncell x)[j]? = some u → w.cell? ⟨g, i * 10 + j, none⟩ = some u ∧ w.frozen? ⟨g, i * 10 + j, none⟩ = false) ∧ HdIs R w x y.hd ∧ RwN R (fun k => lab k = 6 + i) w (pv x.kids) y.kids := by
  have hi := (List.getElem?_eq_some_iff.1 hy).1
  have hl := h.ol
  obtain ⟨x, hx⟩ : ∃ x, LO[i]? = some x := ⟨LO[i]'(by omega), List.getElem?_eq_getElem _⟩
  obtain ⟨g, c, e, hc, -, -⟩ := h.opn.place ncell_len (by omega)
  have ho := h.opn
  rw [e] at ho
  refine ⟨g, c, x, by rw [e, hl], by omega, h.opb g (by rw [e]; rfl), hx, fun j u hu => ho.slotA ncell_len hx hu, h.on i x y hx hy⟩
theorem BC.olen (h : BC m R w b t kv ov pa LO lab) : ∃ a c, pv ov = .slice a t.opn.length c ∧ t.opn.length ≤ c := by
  obtain ⟨a, c, e, hc, -⟩ := FOwn.sl ncell_len h.opn
  exact ⟨a, c, h.ol ▸ e, h.ol ▸ hc⟩
end
end Go.Proofs.YtpccjgoeoeehoaaDoor
namespace Go.Proofs.YtpccjgoeoeehoaaDoor
open Go.RowKit
section
variable {R O : Nat → Prop} {W : World} {v : Value} {l : List Nd}
theorem flatV_set {α : Type} {n : Nat} {f : α → List Value} (hf : ∀ x, (f x).length = n) {l : List α} {j : Nat} {s s' : α} (hs : l[j]? = some s) {i : Nat} {u : Value} (hi : i < n) (hu : f s' = (f s).set i u) : flatV f (l.set j s') = (flatV f l).set (j * n + i) u := by
  have hj := (List.getElem?_eq_some_iff.1 hs).1
  have e6 := split_at hs
  have e7 : l.set j s' = l.take j ++ [s'] ++ l.drop (j + 1) := by
    rw [List.set_eq_take_append_cons_drop]
    simp [hj]
  have e8 : (flatV f (l.take j)).length = j * n := by rw [flatV_len hf, List.length_take, Nat.min_eq_left (Nat.le_of_lt hj)]
  rw [e7, flatV_app, flatV_app, flatV_one, hu]
  conv => rhs; rw [e6, flatV_app, flatV_app, flatV_one, ← e8]
  rw [List.append_assoc, List.append_assoc, List.set_append_right _ _ (by omega), show (flatV f (l.take j)).length + i - (flatV f (l.take j)).length = i by omega, List.set_append_left _ _ (by rw [hf]; exact hi)]
theorem one_at' {α β : Type} {x x' : α} {y y' : β} {i : Nat} (h : [x][i]? = some x') (k : [y][i]? = some y') : x = x' ∧ y = y' := by
  match i, h, k with
  | 0, h, k => exact ⟨by simpa using h, by simpa using k⟩
  | i + 1, h, k => simp at h
theorem FOwn.set1 {α : Type} {e n base : Nat} {f : α → List Value} (hf : ∀ x, (f x).length = n) {l : List α} {g c N : Nat} (h : FOwn e n f base W (.slice (some ⟨g, 0, none⟩) N c) l) {j : Nat} {s s' : α} (hs : l[j]? = some s) {i : Nat} {u : Value} (hi : i < n) (hu : f s' = (f s).set i u) :
    FOwn e n f base (W.setCell ⟨g, j * n + i, none⟩ u) (.slice (some ⟨g, 0, none⟩) N c) (l.set j s') := by
  obtain ⟨a, c', e2⟩ := (FOwn.sl hf h).len
  injection e2 with e3 e4 e5
  have h' : W.ownsRow base e n (.slice (some ⟨g, 0, none⟩) N c) l.length (flatV f l) := h
  rw [← e4] at h'
  have k := (h'.stored (j * n + i) u).1
  rw [← flatV_set hf hs hi hu] at k
  unfold FOwn
  rw [List.length_set, ← e4]
  exact k
/-- A node behind a row of them. -/
theorem RwN.push (h : RwN R O W v l) (hlt : ∀ k, R k ∨ O k → k < W.heap.size) (hRO : ∀ k, R k → ¬ O k) {x : NV} {y : Nd} (hx : HdIs R W x y.hd) (hk : NsS R W (pv x.kids) y.kids) (hl : l.length ≤ 400000) {W1 : World} (b1 : Below W.heap.size W W1) (hz : Blk W1 W.heap.size 40 zNd) :
    ∃ g c w', (Builtin.append_ #[27, 27] 27 #[v, .slice (some ⟨W.heap.size, 0, none⟩) 1 1]).run Tryd.prog W1 = .ok (.slice (some ⟨g, 0, none⟩) (l.length + 1) c) w' ∧ l.length + 1 ≤ c ∧ Exc O W w' ∧ (O g ∨ W.heap.size ≤ g) ∧ g < w'.heap.size ∧
      (∀ (i : Nat) u, zNd[i]? = some u → w'.cell? ⟨g, l.length * 10 + i, none⟩ = some u ∧ w'.frozen? ⟨g, l.length * 10 + i, none⟩ = false) ∧ RwN R (fun k => k = g) (w'.setCells g (l.length * 10) (ncell x)) (.slice (some ⟨g, 0, none⟩) (l.length + 1) c) (l ++ [y]) := by
  have hRl : ∀ k, R k → k < W.heap.size := fun k q => hlt k (.inl q)
  have kR1 : Kp R W W1 := Kp.below b1 hRl
  have kO1 : Kp O W W1 := Kp.below b1 (fun k q => hlt k (.inr q))
  obtain ⟨L, h1, h2, h3⟩ := h.keep kR1 kO1
  have hz' : Fs 10 ncell W1 (.slice (some ⟨W.heap.size, 0, none⟩) 1 1) [(⟨0, 0, 0, nilP, nilP, nilP, [], nilP, false, false⟩ : NV)] := by
    refine ⟨_, _, rfl, Nat.le_refl _, fun j x hj => ⟨_, _, rfl, fun i c hi => ?_⟩⟩
    match j, hj with
    | 0, hj =>
      simp at hj
      subst hj
      rw [Nat.zero_add, Nat.zero_mul, Nat.zero_add, hz.cell i]
      exact hi
    | j + 1, hj => simp at hj
  obtain ⟨g, c, w', hr, ho, hE, hg, hgl⟩ := h1.app1 (by omega) rfl hz'
  rw [h2] at hr ho
  have hc : l.length + 1 ≤ c := by
    obtain ⟨a, c', e, hc', -⟩ := FOwn.sl ncell_len ho
    injection e with e1 e2 e3
    subst e3
    simpa [h2] using hc'
  have hgR : ∀ k, R k → k ≠ g := fun k q e => by
    subst e
    have := hRl k q
    have := b1.size
    rcases hg with z | z
    · exact hRO k q z
    · omega
  have hEW : Exc O W w' := (Exc.of (X := O) b1).trans hE (fun _ _ q => q)
  refine ⟨g, c, w', hr, hc, hEW, hg.imp id (fun z => Nat.le_trans b1.size z), hgl, fun i u hi => ?_, ?_⟩
  · have := ho.slotA ncell_len (j := l.length) (s := ⟨0, 0, 0, nilP, nilP, nilP, [], nilP, false, false⟩) (by rw [List.getElem?_append_right (by omega), h2]; simp) (i := i) (u := u) hi
    exact this
  · have kR : Kp R W (w'.setCells g (l.length * 10) (ncell x)) := fun k q => (heap_setC (hgR k q) _ _ _).trans (hEW.block k (hRl k q) (hRO k q))
    have kR' : Kp R W1 (w'.setCells g (l.length * 10) (ncell x)) := fun k q => (kR k q).trans (kR1 k q).symm
    have hp := ho.putA ncell_len (j := l.length) (by simp [h2]) x
    have e1 : (L ++ [(⟨0, 0, 0, nilP, nilP, nilP, [], nilP, false, false⟩ : NV)]).set l.length x = L ++ [x] := by
      rw [List.set_append_right _ _ (by omega), h2]
      simp
    rw [e1] at hp
    refine ⟨L ++ [x], .inl ⟨hp, fun k e => (Option.some.inj e).symm⟩, by simp [h2], fun i x' y' hx' hy' => ?_⟩
    by_cases hil : i < l.length
    · rw [List.getElem?_append_left (by omega)] at hx' hy'
      obtain ⟨q1, q2⟩ := h3 i x' y' hx' hy'
      exact ⟨q1.keep kR', q2.keep kR'⟩
    · rw [List.getElem?_append_right (by omega)] at hx' hy'
      rw [h2] at hx'
      obtain ⟨rfl, rfl⟩ := one_at' hx' hy'
      exact ⟨hx.keep kR, hk.keep kR⟩
end
section
variable {m : Bool} {X R : Nat → Prop} {w : World} {b : Nat} {t : Bt}
/-- What 'put' finds, and what becomes of the builder. -/
def LayP (m : Bool) (X R : Nat → Prop) (w : World) (b : Nat) (t t' : Bt) (x : NV) (pb po : Nat) (ka : Option Addr) (kn kc : Nat) : Prop :=
  X pb ∧ w.cell? ⟨pb, po, none⟩ = some (.slice ka kn kc) ∧ ∀ W W1, Below w.heap.size w W → Below W.heap.size W W1 → Blk W1 W.heap.size 40 zNd →
    ∃ g c w', (Builtin.append_ #[27, 27] 27 #[.slice ka kn kc, .slice (some ⟨W.heap.size, 0, none⟩) 1 1]).run Tryd.prog W1 = .ok (.slice (some ⟨g, 0, none⟩) (kn + 1) c) w' ∧ kn + 1 ≤ c ∧ kn ≤ 400000 ∧
      (∀ (i : Nat) u, zNd[i]? = some u → w'.cell? ⟨g, kn * 10 + i, none⟩ = some u ∧ w'.frozen? ⟨g, kn * 10 + i, none⟩ = false) ∧
      (w'.setCells g (kn * 10) (ncell x)).cell? ⟨pb, po, none⟩ = some (.slice ka kn kc) ∧ (w'.setCells g (kn * 10) (ncell x)).frozen? ⟨pb, po, none⟩ = false ∧
      w'.cell? ⟨pb, po, none⟩ = some (.slice ka kn kc) ∧ w'.frozen? ⟨pb, po, none⟩ = false ∧ g ≠ pb ∧ (∀ k, w.heap.size ≤ k → k < W.heap.size → k ≠ g ∧ w'.heap[k]? = W.heap[k]?) ∧
      ∃ X', BM m X' R ((w'.setCells g (kn * 10) (ncell x)).setCell ⟨pb, po, none⟩ (.slice (some ⟨g, 0, none⟩) (kn + 1) c)) b t' ∧ Exc X w ((w'.setCells g (kn * 10) (ncell x)).setCell ⟨pb, po, none⟩ (.slice (some ⟨g, 0, none⟩) (kn + 1) c)) ∧ ∀ k, X' k → X k ∨ w.heap.size ≤ k
theorem BM.lay0 (h : BM m X R w b t) (ho : t.opn = []) (hl : t.kids.length ≤ 400000) {x : NV} {y : Nd} (hx : HdIs R w x y.hd) (hk : NsS R w (pv x.kids) y.kids) : ∃ ka kn kc, LayP m X R w b t (bLay t y) x b 4 ka kn kc := by
  rw [lay_none y ho]
  obtain ⟨kv, ov, pa, LO, lab, h1, h2⟩ := h
  obtain ⟨ka, kc, ek, -⟩ := h1.kids.len
  have ek' := ek
  unfold pv at ek'
  refine ⟨ka, t.kids.length, kc, (h2 b).2 (by rw [h1.lb]; decide), ?_, fun W W1 hb hb1 hz => ?_⟩
  · rw [h1.box.cell 4, ← ek]
    rfl
  have hblt := h1.box.lt
  have hks : ∀ k, R k ∨ lab k = 2 → k < w.heap.size := fun k q => q.elim (h1.rl k) (fun q => h1.ll k (by omega))
  have kbR : Kp R w W := Kp.below hb h1.rl
  have kbO : Kp (fun k => lab k = 2) w W := Kp.below hb (fun k q => hks k (.inr q))
  obtain ⟨g, c, w', hr, hc, hE, hg, hgl, hcell, hrow⟩ := (h1.kids.keep kbR kbO).push (fun k q => Nat.lt_of_lt_of_le (hks k q) hb.size) (fun k q z => by have := h1.sep k q; omega) (hx.keep kbR) (hk.keep kbR) hl hb1 hz
  rw [ek] at hr
  have hgb : b ≠ g := fun e => by
    subst e
    rcases hg with z | z
    · have := h1.lb; omega
    · have := hb.size; omega
  have hg' : lab g = 2 ∨ w.heap.size ≤ g := hg.imp id (fun z => Nat.le_trans hb.size z)
  have hEw : Exc (fun k => lab k = 2) w w' := (Exc.of (X := fun k => lab k = 2) hb).trans hE (fun _ _ q => q)
  have box' : Blk w' b 71 (bcell t.nm kv ov pa) := hEw.blk h1.box (by rw [h1.lb]; decide)
  have box2 : Blk (w'.setCells g (t.kids.length * 10) (ncell x)) b 71 (bcell t.nm kv ov pa) := (heap_setC hgb _ _ _).trans box'
  have box3 := box2.set 4 (.slice (some ⟨g, 0, none⟩) (t.kids.length + 1) c)
  obtain ⟨F, hF⟩ : ∃ F, (w'.setCells g (t.kids.length * 10) (ncell x)).setCell ⟨b, 4, none⟩ (.slice (some ⟨g, 0, none⟩) (t.kids.length + 1) c) = F := ⟨_, rfl⟩
  have hFh : ∀ k, k ≠ b → F.heap[k]? = (w'.setCells g (t.kids.length * 10) (ncell x)).heap[k]? := fun k hk => by rw [← hF]; exact Below.heap_setCell _ ⟨b, 4, none⟩ _ k hk
  have hFs : F.heap.size = w'.heap.size := by rw [← hF, szset, sz_setC]
  have kS : ∀ k, k < w.heap.size → lab k ≠ 2 → lab k ≠ 1 → F.heap[k]? = w.heap[k]? := fun k q1 q2 q3 => by
    rw [hFh k (fun e => q3 (by rw [e]; exact h1.lb)), heap_setC (fun e => by subst e; rcases hg' with z | z <;> omega)]
    exact hEw.block k q1 q2
  have kR : Kp R w F := fun k q => kS k (h1.rl k q) (by rw [h1.sep k q]; decide) (by rw [h1.sep k q]; decide)
  have kz : ∀ z, z ≠ 0 → z ≠ 1 → z ≠ 2 → Kp (fun k => lab k = z) w F := fun z a0 a1 a2 k q => kS k (h1.ll k (by rw [show lab k = z from q]; exact a0)) (by rw [show lab k = z from q]; exact a2) (by rw [show lab k = z from q]; exact a1)
  have hsz : w.heap.size ≤ F.heap.size := by rw [hFs]; exact hEw.size
  have hlab : ∀ k, lab k ≠ 2 → lab k ≠ 0 → k ≠ g := fun k q1 q2 e => by
    subst e
    rcases hg' with z | z
    · exact q1 z
    · have := h1.ll k q2; omega
  have e4 : (t.kids ++ [y]).length = t.kids.length + 1 := by simp
  rw [hF] at box3
  refine ⟨g, c, w', hr, hc, hl, hcell, by rw [box2.cell 4, ← ek]; rfl, box2.frozen (by simp [bcell]), by rw [box'.cell 4, ← ek]; rfl, box'.frozen (by simp [bcell]), fun e => hgb e.symm, fun k q1 q2 => ⟨fun e => hg.elim (fun z => by have := hks g (.inr z); omega) (fun z => by omega), hE.block k q2 (fun z => by have := hks k (.inr z); omega)⟩, fun k => lab k ≠ 0 ∨ k = g, ?_, ?_, fun k q => ?_⟩
  · rw [hF]
    refine ⟨(some ⟨g, 0, none⟩, t.kids.length + 1, c), ov, pa, LO, fun k => if k = g then 2 else lab k, ⟨fun k q => ?_, fun k q => Nat.lt_of_lt_of_le (h1.rl k q) hsz, fun k q => ?_, ?_, box3, ?_, ?_, fun k e => ?_, h1.ol, fun i x' y' p q => ?_, ?_⟩, fun k => ?_⟩
    · by_cases e : k = g
      · rw [e, hFs]; exact hgl
      · simp only [if_neg e] at q
        exact Nat.lt_of_lt_of_le (h1.ll k q) hsz
    · have q0 := h1.sep k q
      have : k ≠ g := fun e => by
        subst e
        have := h1.rl k q
        rcases hg' with z | z <;> omega
      simp only [if_neg this, q0]
    · simp only [if_neg hgb, h1.lb]
    · have hrow' : RwN R (fun k => k = g) F (.slice (some ⟨g, 0, none⟩) (t.kids.length + 1) c) (t.kids ++ [y]) := hrow.keep (fun k q => hFh k (fun e => by have := h1.sep k q; rw [e, h1.lb] at this; omega)) (fun k q => hFh k (fun e => hgb (by rw [← e]; exact q)))
      exact hrow'.mono (fun _ q => q) (fun k q => by simp [show k = g from q])
    · exact h1.opn.kp (fun k e => kz 3 (by decide) (by decide) (by decide) k (h1.opb k e))
    · have := h1.opb k e
      have hne := hlab k (by omega) (by omega)
      simp only [if_neg hne, this]
    · obtain ⟨q1, q2⟩ := h1.on i x' y' p q
      exact ⟨q1.keep kR, (q2.keep kR (kz _ (by omega) (by omega) (by omega))).mono (fun _ z => z) (fun k z => by
        have hne := hlab k (by omega) (by omega)
        simp only [if_neg hne]; exact z)⟩
    · have := PaIs.keep h1.para kR (fun k q => q.elim (kz 4 (by decide) (by decide) (by decide) k) (kz 5 (by decide) (by decide) (by decide) k))
      exact PaIs.relab this (fun _ q => q) (fun k q => by
        have hne := hlab k (by omega) (by omega)
        simp only [if_neg hne]; exact q) (fun k q => by
        have hne := hlab k (by omega) (by omega)
        simp only [if_neg hne]; exact q)
    · by_cases e : k = g
      · simp [e]
      · simp [e]
  · rw [hF]
    refine ⟨?_, ?_, ?_, hsz, fun k q1 q2 => ?_⟩
    · rw [← hF]; exact ((exc_setC (X := fun _ => True) (a := w) (g := g) (fun _ => trivial) (ncell x) _ w' (hEw.mono (fun _ _ _ => trivial))).set 4 _ (fun _ => trivial)).os
    · rw [← hF]; exact ((exc_setC (X := fun _ => True) (a := w) (g := g) (fun _ => trivial) (ncell x) _ w' (hEw.mono (fun _ _ _ => trivial))).set 4 _ (fun _ => trivial)).tape
    · rw [← hF]; exact ((exc_setC (X := fun _ => True) (a := w) (g := g) (fun _ => trivial) (ncell x) _ w' (hEw.mono (fun _ _ _ => trivial))).set 4 _ (fun _ => trivial)).output
    · rw [h2 k] at q2
      exact kS k q1 (by omega) (by omega)
  · rcases q with q | q
    · exact .inl ((h2 k).2 q)
    · subst q
      rcases hg' with z | z
      · exact .inl ((h2 k).2 (by omega))
      · exact .inr z
end
end Go.Proofs.YtpccjgoeoeehoaaDoor
namespace Go.Proofs.YtpccjgoeoeehoaaDoor
open Go.RowKit
def NV.wkids (x : NV) (s : PV) : NV := ⟨x.kind, x.line, x.n, x.text, s, x.rows, x.cols, x.trows, x.box, x.all⟩
theorem HdIs.wkids {S : Nat → Prop} {w : World} {x : NV} {h : Hd} (k : HdIs S w x h) (s : PV) : HdIs S w (x.wkids s) h := ⟨k.kind, k.line, k.n, k.text, k.rows, k.cols, k.trows, k.box, k.all⟩
theorem exc_any (X : Nat → Prop) {a w' : World} (h : Exc X a w') (g o b p : Nat) (vs : List Value) (v : Value) : ((w'.setCells g o vs).setCell ⟨b, p, none⟩ v).os = a.os ∧ ((w'.setCells g o vs).setCell ⟨b, p, none⟩ v).tape = a.tape ∧ ((w'.setCells g o vs).setCell ⟨b, p, none⟩ v).output = a.output := by
  have k := ((exc_setC (X := fun _ => True) (a := a) (g := g) (fun _ => trivial) vs o w' (h.mono (fun _ _ _ => trivial))).set (g := b) p v (fun _ => trivial))
  exact ⟨k.os, k.tape, k.output⟩
section
variable {m : Bool} {X R : Nat → Prop} {w : World} {b : Nat} {t : Bt}
theorem BM.lay1 (h : BM m X R w b t) {l : List Nd} {y0 : Nd} (ho : t.opn = l ++ [y0]) (hl : y0.kids.length ≤ 400000) {x : NV} {y : Nd} (hx : HdIs R w x y.hd) (hk : NsS R w (pv x.kids) y.kids) :
    ∃ og oc ka kn kc, w.cell? ⟨b, 5, none⟩ = some (.slice (some ⟨og, 0, none⟩) (l.length + 1) oc) ∧ LayP m X R w b t (bLay t y) x og (l.length * 10 + 4) ka kn kc := by
  rw [lay_some y ho]
  obtain ⟨kv, ov, pa, LO, lab, h1, h2⟩ := h
  have hy0 : t.opn[l.length]? = some y0 := by rw [ho]; simp
  obtain ⟨og, oc, x0, eo, hoc, hog, hx0, hcel, hH0, hK0⟩ := h1.at hy0
  have htl : t.opn.length = l.length + 1 := by rw [ho]; simp
  obtain ⟨ka, kc, ek, -⟩ := hK0.len
  have c4 := (hcel 4 _ rfl).1
  rw [ek] at c4
  rw [htl] at eo
  refine ⟨og, oc, ka, y0.kids.length, kc, ?_, (h2 og).2 (by rw [hog]; decide), c4, fun W W1 hb hb1 hz => ?_⟩
  · rw [h1.box.cell 5, ← eo]
    rfl
  have hollt := h1.ll og (by omega)
  have hks : ∀ k, R k ∨ lab k = 6 + l.length → k < w.heap.size := fun k q => q.elim (h1.rl k) (fun q => h1.ll k (by omega))
  have kbR : Kp R w W := Kp.below hb h1.rl
  have kbO : Kp (fun k => lab k = 6 + l.length) w W := Kp.below hb (fun k q => hks k (.inr q))
  obtain ⟨g, c, w', hr, hc, hE, hg, hgl, hcell, hrow⟩ := (hK0.keep kbR kbO).push (fun k q => Nat.lt_of_lt_of_le (hks k q) hb.size) (fun k q z => by have := h1.sep k q; omega) (hx.keep kbR) (hk.keep kbR) hl hb1 hz
  rw [ek] at hr
  have hgb : og ≠ g := fun e => by
    subst e
    rcases hg with z | z
    · omega
    · have := hb.size; omega
  have hg' : lab g = 6 + l.length ∨ w.heap.size ≤ g := hg.imp id (fun z => Nat.le_trans hb.size z)
  have hEw : Exc (fun k => lab k = 6 + l.length) w w' := (Exc.of (X := fun k => lab k = 6 + l.length) hb).trans hE (fun _ _ q => q)
  have hogN : ¬ lab og = 6 + l.length := by omega
  have ho1 := h1.opn
  rw [eo] at ho1
  have ho2 : FOwn 40 10 ncell 0 w' (.slice (some ⟨og, 0, none⟩) (l.length + 1) oc) LO := ho1.kp (fun k e => by
    obtain rfl := Option.some.inj e
    exact hEw.block og hollt hogN)
  have ho3 : FOwn 40 10 ncell 0 (w'.setCells g (y0.kids.length * 10) (ncell x)) (.slice (some ⟨og, 0, none⟩) (l.length + 1) oc) LO := ho2.kp (fun k e => by
    obtain rfl := Option.some.inj e
    exact heap_setC hgb _ _ _)
  have ho4 := ho3.set1 ncell_len (s' := x0.wkids (some ⟨g, 0, none⟩, y0.kids.length + 1, c)) hx0 (i := 4) (u := .slice (some ⟨g, 0, none⟩) (y0.kids.length + 1) c) (by decide) rfl
  obtain ⟨d2, f2⟩ := ho2.slotA ncell_len hx0 (i := 4) (u := pv x0.kids) rfl
  obtain ⟨d3, f3⟩ := ho3.slotA ncell_len hx0 (i := 4) (u := pv x0.kids) rfl
  rw [ek] at d2 d3
  obtain ⟨F, hF⟩ : ∃ F, (w'.setCells g (y0.kids.length * 10) (ncell x)).setCell ⟨og, l.length * 10 + 4, none⟩ (.slice (some ⟨g, 0, none⟩) (y0.kids.length + 1) c) = F := ⟨_, rfl⟩
  have hFh : ∀ k, k ≠ og → F.heap[k]? = (w'.setCells g (y0.kids.length * 10) (ncell x)).heap[k]? := fun k hk => by rw [← hF]; exact Below.heap_setCell _ ⟨og, _, none⟩ _ k hk
  have hFs : F.heap.size = w'.heap.size := by rw [← hF, szset, sz_setC]
  have kS : ∀ k, k < w.heap.size → lab k ≠ 6 + l.length → lab k ≠ 3 → F.heap[k]? = w.heap[k]? := fun k q1 q2 q3 => by
    rw [hFh k (fun e => q3 (by rw [e]; exact hog)), heap_setC (fun e => by subst e; rcases hg' with z | z <;> omega)]
    exact hEw.block k q1 q2
  have kR : Kp R w F := fun k q => kS k (h1.rl k q) (by rw [h1.sep k q]; omega) (by rw [h1.sep k q]; decide)
  have kz : ∀ z, z ≠ 0 → z ≠ 3 → z ≠ 6 + l.length → Kp (fun k => lab k = z) w F := fun z a0 a1 a2 k q => kS k (h1.ll k (by rw [show lab k = z from q]; exact a0)) (by rw [show lab k = z from q]; exact a2) (by rw [show lab k = z from q]; exact a1)
  have hsz : w.heap.size ≤ F.heap.size := by rw [hFs]; exact hEw.size
  have hlab : ∀ k, lab k ≠ 6 + l.length → lab k ≠ 0 → k ≠ g := fun k q1 q2 e => by
    subst e
    rcases hg' with z | z
    · exact q1 z
    · have := h1.ll k q2; omega
  rw [hF] at ho4
  refine ⟨g, c, w', hr, hc, hl, hcell, d3, f3, d2, f2, fun e => hgb e.symm, fun k q1 q2 => ⟨fun e => hg.elim (fun z => by have := hks g (.inr z); omega) (fun z => by omega), hE.block k q2 (fun z => by have := hks k (.inr z); omega)⟩, fun k => lab k ≠ 0 ∨ k = g, ?_, ?_, fun k q => ?_⟩
  · rw [hF]
    refine ⟨kv, ov, pa, LO.set l.length (x0.wkids (some ⟨g, 0, none⟩, y0.kids.length + 1, c)), fun k => if k = g then 6 + l.length else lab k, ⟨fun k q => ?_, fun k q => Nat.lt_of_lt_of_le (h1.rl k q) hsz, fun k q => ?_, ?_, ?_, ?_, ?_, fun k e => ?_, ?_, fun i x' y' p q => ?_, ?_⟩, fun k => ?_⟩
    · by_cases e : k = g
      · rw [e, hFs]; exact hgl
      · simp only [if_neg e] at q
        exact Nat.lt_of_lt_of_le (h1.ll k q) hsz
    · have q0 := h1.sep k q
      have : k ≠ g := fun e => by
        subst e
        have := h1.rl k q
        rcases hg' with z | z <;> omega
      simp only [if_neg this, q0]
    · have := hlab b (by rw [h1.lb]; omega) (by rw [h1.lb]; decide)
      simp only [if_neg this, h1.lb]
    · exact (kz 1 (by decide) (by decide) (by omega) b h1.lb).trans h1.box
    · exact (h1.kids.keep kR (kz 2 (by decide) (by decide) (by omega))).mono (fun _ q => q) (fun k q => by
        have hne := hlab k (by omega) (by omega)
        simp only [if_neg hne]; exact q)
    · rw [eo]; exact ho4
    · have := h1.opb k e
      have hne := hlab k (by omega) (by omega)
      simp only [if_neg hne, this]
    · rw [List.length_set, h1.ol, htl]; simp
    · have hil : i < l.length + 1 := by
        have := (List.getElem?_eq_some_iff.1 q).1
        simpa using this
      by_cases e : i = l.length
      · subst e
        have hlo : l.length < LO.length := (List.getElem?_eq_some_iff.1 hx0).1
        rw [List.getElem?_set_self hlo] at p
        obtain rfl := Option.some.inj p
        have e2 : (l ++ [ownKid y0 y])[l.length]? = some (ownKid y0 y) := by simp
        rw [e2] at q
        obtain rfl := Option.some.inj q
        refine ⟨(hH0.keep kR).wkids _, ?_⟩
        have hrow' : RwN R (fun k => k = g) F (.slice (some ⟨g, 0, none⟩) (y0.kids.length + 1) c) (y0.kids ++ [y]) := hrow.keep (fun k q => hFh k (fun e => by have := h1.sep k q; rw [e, hog] at this; omega)) (fun k q => hFh k (fun e => hgb (by rw [← e]; exact q)))
        exact hrow'.mono (fun _ q => q) (fun k q => by simp [show k = g from q])
      · rw [List.getElem?_set_ne (fun z => e z.symm)] at p
        have q' : t.opn[i]? = some y' := by
          rw [ho]
          rw [List.getElem?_append_left (by omega)] at q ⊢
          exact q
        obtain ⟨q1, q2⟩ := h1.on i x' y' p q'
        exact ⟨q1.keep kR, (q2.keep kR (kz _ (by omega) (by omega) (by omega))).mono (fun _ z => z) (fun k z => by
          have hne := hlab k (by omega) (by omega)
          simp only [if_neg hne]; exact z)⟩
    · have := PaIs.keep h1.para kR (fun k q => q.elim (kz 4 (by decide) (by decide) (by omega) k) (kz 5 (by decide) (by decide) (by omega) k))
      exact PaIs.relab this (fun _ q => q) (fun k q => by
        have hne := hlab k (by omega) (by omega)
        simp only [if_neg hne]; exact q) (fun k q => by
        have hne := hlab k (by omega) (by omega)
        simp only [if_neg hne]; exact q)
    · by_cases e : k = g
      · simp [e]
      · simp [e]
  · rw [hF]
    obtain ⟨e1, e2, e3⟩ := exc_any _ hEw g (y0.kids.length * 10) og (l.length * 10 + 4) (ncell x) (.slice (some ⟨g, 0, none⟩) (y0.kids.length + 1) c)
    rw [hF] at e1 e2 e3
    refine ⟨e1, e2, e3, hsz, fun k q1 q2 => ?_⟩
    rw [h2 k] at q2
    exact kS k q1 (by omega) (by omega)
  · rcases q with q | q
    · exact .inl ((h2 k).2 q)
    · subst q
      rcases hg' with z | z
      · exact .inl ((h2 k).2 (by omega))
      · exact .inr z
end
end Go.Proofs.YtpccjgoeoeehoaaDoor
namespace Go.Proofs.YtpccjgoeoeehoaaDoor
open Go.RowKit
theorem ns_lit8 {S : Nat → Prop} (w : World) (L : List NV) (l : List Nd) (hl : L.length = l.length) (hS : ∀ b, S b → b < w.heap.size) (hh : ∀ (i : Nat) x y, L[i]? = some x → l[i]? = some y → HdIs S w x y.hd ∧ NsS S w (pv x.kids) y.kids) :
    NsS (fun b => S b ∨ b = w.heap.size) (w.alloc (.cells (flatV ncell L).toArray 40)) (.slice (some ⟨w.heap.size, 0, none⟩) L.length L.length) l := by
  have hk : Kp S w (w.alloc (.cells (flatV ncell L).toArray 40)) := Kp.below (below_lit w _) hS
  refine .mk _ _ L hl ⟨fs_lit ncell_len w _ L, fun a k c e _ => ?_⟩ (fun i x y a b => ((hh i x y a b).1.keep hk).mono (fun b q => .inl q)) (fun i x y a b => ((hh i x y a b).2.keep hk).mono (fun b q => .inl q))
  injection e with e1
  injection e1 with e1
  subst e1
  exact ⟨.inr rfl, fun _ i _ => by
    have h := heap_alloc_new w (.cells (flatV ncell L).toArray 40)
    simp only [World.frozen?, h]
    simp⟩
theorem one_at8 {α β : Type} {x x' : α} {y y' : β} {i : Nat} (h : [x][i]? = some x') (k : [y][i]? = some y') : x = x' ∧ y = y' := by
  match i with
  | 0 => simp at h k; exact ⟨h, k⟩
  | i + 1 => simp at h
def gl8 (r : Int) : List Gly := [(r, 0)]
theorem gly8 (W : World) (r : Int) : FsS (fun k => k = W.heap.size) 2 gcell (W.alloc (.cells #[.int .i32 r, .int .u8 0] 56)) (.slice (some ⟨W.heap.size, 0, none⟩) 1 1) (gl8 r) := by
  refine ⟨fs_lit gcell_len W 56 (gl8 r), fun a k c e _ => ?_⟩
  injection e with e1
  injection e1 with e1
  subst e1
  exact ⟨rfl, fun _ i _ => by
    have h := heap_alloc_new W (.cells #[.int .i32 r, .int .u8 0] 56)
    simp only [World.frozen?, h]
    simp⟩
def ab8 : List Gly := [(97, 0), (32, 0), (98, 0)]
theorem glys8 (W : World) : FsS (fun k => k = W.heap.size) 2 gcell (W.alloc (.cells #[.int .i32 97, .int .u8 0, .int .i32 32, .int .u8 0, .int .i32 98, .int .u8 0] 56)) (.slice (some ⟨W.heap.size, 0, none⟩) 3 3) ab8 := by
  refine ⟨fs_lit gcell_len W 56 ab8, fun a k c e _ => ?_⟩
  injection e with e1
  injection e1 with e1
  subst e1
  exact ⟨rfl, fun _ i _ => by
    have h := heap_alloc_new W (.cells #[.int .i32 97, .int .u8 0, .int .i32 32, .int .u8 0, .int .i32 98, .int .u8 0] 56)
    simp only [World.frozen?, h]
    simp⟩
def hd8 (k ln : Int) (t : List Gly) : Hd := ⟨k, ln, 0, t, [], noGrid⟩
def y8 : Nd := .mk (hd8 1 0 (gl8 120)) []
def t8 : Bt := bText (bText (bOpen bt0 y8) (gl8 97) 4) (gl8 98) 5
def want8 : List Nd := [.mk (hd8 1 0 (gl8 120)) [.mk (hd8 3 4 ab8) []]]
theorem all8 : bAll (bEnd t8) = want8 := by rfl
theorem doc8 : bDoc t8 = want8 := by
  unfold bDoc
  rw [all8]
  unfold tidyL want8
  simp only [tdL_cons, tdL_nil, tdN_mk]
  rfl
theorem nm8 : t8.nm = ⟨[], [], [], []⟩ := rfl
theorem opn8 : t8.opn.length = 1 := rfl
def nv8 (k ln : Int) (t s : PV) : NV := ⟨k, ln, 0, t, s, (none, 0, 0), [], (none, 0, 0), false, false⟩
theorem hdis8 {S : Nat → Prop} {w : World} (k ln : Int) {t s : PV} {g : List Gly} (h : FsS S 2 gcell w (pv t) g) : HdIs S w (nv8 k ln t s) (hd8 k ln g) := ⟨rfl, rfl, rfl, h, GrS.nil _ _, rfl, TrS.nil _ _, rfl, rfl⟩
/-- What is wanted, as the law builds it. -/
theorem want_is (W0 W4 : World) (h : W4 = (((W0.alloc (.cells #[.int .i32 120, .int .u8 0] 56)).alloc (.cells #[.int .i32 97, .int .u8 0, .int .i32 32, .int .u8 0, .int .i32 98, .int .u8 0] 56)).alloc (.cells #[.int .i64 3, .int .i64 4, .int .i64 0, .slice (some ⟨W0.heap.size + 1, 0, none⟩) 3 3, .slice none 0 0, .slice none 0 0, .string ⟨#[]⟩, .slice none 0 0, .bool false, .bool false] 40)).alloc (.cells #[.int .i64 1, .int .i64 0, .int .i64 0, .slice (some ⟨W0.heap.size, 0, none⟩) 1 1, .slice (some ⟨W0.heap.size + 1 + 1, 0, none⟩) 1 1, .slice none 0 0, .string ⟨#[]⟩, .slice none 0 0, .bool false, .bool false] 40)) :
    NsS (fun b => b < W4.heap.size) W4 (.slice (some ⟨W0.heap.size + 1 + 1 + 1, 0, none⟩) 1 1) want8 ∧ Below W0.heap.size W0 W4 := by
  obtain ⟨W1, hW1⟩ : ∃ W, W = W0.alloc (.cells #[.int .i32 120, .int .u8 0] 56) := ⟨_, rfl⟩
  have z1 : W1.heap.size = W0.heap.size + 1 := by rw [hW1, World.size_alloc]
  have b1 : Below W0.heap.size W0 W1 := by rw [hW1]; exact below_lit _ _
  have g1 := gly8 W0 120
  rw [← hW1] at g1 h
  obtain ⟨W2, hW2⟩ : ∃ W, W = W1.alloc (.cells #[.int .i32 97, .int .u8 0, .int .i32 32, .int .u8 0, .int .i32 98, .int .u8 0] 56) := ⟨_, rfl⟩
  have z2 : W2.heap.size = W1.heap.size + 1 := by rw [hW2, World.size_alloc]
  have b2 : Below W1.heap.size W1 W2 := by rw [hW2]; exact below_lit _ _
  have g2 := glys8 W1
  rw [← hW2] at g2 h
  have g1' : FsS (fun b => b < W2.heap.size) 2 gcell W2 (.slice (some ⟨W0.heap.size, 0, none⟩) 1 1) (gl8 120) := (g1.keep (Kp.below b2 (fun b q => by omega))).mono (fun b q => by omega)
  have g2' : FsS (fun b => b < W2.heap.size) 2 gcell W2 (.slice (some ⟨W1.heap.size, 0, none⟩) 3 3) ab8 := g2.mono (fun b q => by omega)
  obtain ⟨W3, hW3⟩ : ∃ W, W = W2.alloc (.cells (flatV ncell [nv8 3 4 (some ⟨W1.heap.size, 0, none⟩, 3, 3) (none, 0, 0)]).toArray 40) := ⟨_, rfl⟩
  have z3 : W3.heap.size = W2.heap.size + 1 := by rw [hW3, World.size_alloc]
  have b3 : Below W2.heap.size W2 W3 := by rw [hW3]; exact below_lit _ _
  have hN3 : NsS (fun b => b < W3.heap.size) W3 (.slice (some ⟨W2.heap.size, 0, none⟩) 1 1) [.mk (hd8 3 4 ab8) []] := by
    have := ns_lit8 W2 [nv8 3 4 (some ⟨W1.heap.size, 0, none⟩, 3, 3) (none, 0, 0)] [.mk (hd8 3 4 ab8) []] rfl (fun b q => q) (fun i x y a b => by
      obtain ⟨rfl, rfl⟩ := one_at8 a b
      exact ⟨hdis8 3 4 g2', NsS.nil _ _⟩)
    rw [← hW3] at this
    exact this.mono (fun b q => by rcases q with q | q <;> omega)
  have g3 : FsS (fun b => b < W3.heap.size) 2 gcell W3 (.slice (some ⟨W0.heap.size, 0, none⟩) 1 1) (gl8 120) := (g1'.keep (Kp.below b3 (fun b q => q))).mono (fun b q => by omega)
  have h4 : W4 = W3.alloc (.cells (flatV ncell [nv8 1 0 (some ⟨W0.heap.size, 0, none⟩, 1, 1) (some ⟨W2.heap.size, 0, none⟩, 1, 1)]).toArray 40) := by
    rw [h, hW3, z2, z1]
    rfl
  have z4 : W4.heap.size = W3.heap.size + 1 := by rw [h4, World.size_alloc]
  have b4 : Below W3.heap.size W3 W4 := by rw [h4]; exact below_lit _ _
  have hN4 : NsS (fun b => b < W4.heap.size) W4 (.slice (some ⟨W3.heap.size, 0, none⟩) 1 1) want8 := by
    have := ns_lit8 W3 [nv8 1 0 (some ⟨W0.heap.size, 0, none⟩, 1, 1) (some ⟨W2.heap.size, 0, none⟩, 1, 1)] want8 rfl (fun b q => q) (fun i x y a b => by
      obtain ⟨rfl, rfl⟩ := one_at8 a b
      exact ⟨hdis8 1 0 g3, hN3⟩)
    rw [← h4] at this
    exact this.mono (fun b q => by rcases q with q | q <;> omega)
  rw [show W3.heap.size = W0.heap.size + 1 + 1 + 1 by omega] at hN4
  exact ⟨hN4, b1.trans ((b2.trans ((b3.trans (b4.mono (by omega))).mono (by omega))).mono (by omega))⟩
set_option maxRecDepth 100000 in
set_option maxHeartbeats 8000000 in
theorem bknown_any (BI : BIT) (TB : World → Prop) (I : Impl BI TB) (hNil : ∀ W, TB W → Calls Tryd.prog 13 #[.pointer none] W fun e w' => e = .returned (.int .i64 0) ∧ Below W.heap.size W w') (w : World) (hTB : TB w) :
    Calls Tryd.prog 9 #[] w fun e w' => e = .returned (.bool true) ∧ Below w.heap.size w w' := by
  have HTB := Lib.hid hTB
  have HNI := Lib.hid hNil
  clear hTB hNil
  have HNW := Lib.hid (I.new w)
  go_enter Tryd.func9, Tryd.ntmps9
  go_wp2_with fail
  refine HNW.out.mono ?_
  rintro e w2 ⟨b, X, rfl, h1, h2, h3⟩
  have HBI := Lib.hid h1
  have HBW := Lib.hid h2
  have HX := Lib.hid h3
  clear h1 h2 h3 HNW
  obtain ⟨we, hwe⟩ : ∃ W : World, W = w2 := ⟨_, rfl⟩
  rw [← hwe] at HBI HBW ⊢
  clear hwe
  obtain ⟨X7, hX7⟩ : ∃ Y, Y = we.alloc (.cells #[.int .i32 120, .int .u8 0] 56) := ⟨_, rfl⟩
  have b7 : Below we.heap.size we X7 := by rw [hX7]; exact below_lit _ _
  have hz7 : X7.heap.size = we.heap.size + 1 := by rw [hX7, World.size_alloc]
  have hI9 := gly8 we 120
  rw [← hX7] at hI9
  have hlt7 : ∀ k, _ → k < we.heap.size := fun k z => I.lt HBI.out k (.inl z)
  have hBIn := I.keep HBI.out (Kp.below b7 (fun k q => I.lt HBI.out k (.inl q))) (Kp.below b7 (fun k q => I.lt HBI.out k (.inr q))) b7.size
  have hBWn := HBW.out.trans (b7.mono HBW.out.size)
  clear HBI HBW
  have HBI := Lib.hid hBIn
  have HBW := Lib.hid hBWn
  clear hBIn hBWn
  have hcl := I.opn (nv := nv8 1 0 (some ⟨we.heap.size, 0, none⟩, 1, 1) (none, 0, 0)) (y := y8) HBI.out (I.tb HTB.out HBW.out) ⟨hdis8 1 0 hI9, NsS.nil _ _⟩ (fun k z => ⟨by omega, fun z2 => by have := hlt7 k z2; omega⟩) (by decide)
  have HCL := Lib.hid hcl
  have HX7 := Lib.hid hX7
  clear hX7 b7 hz7 hI9 hlt7 hcl
  go_wp2_with fail
  rw [← HX7.out]
  clear HX7
  refine HCL.out.mono ?_
  rintro e we ⟨rfl, X2, R2, g1, g2, g3, g4⟩
  have hBWn := g2.below HBW.out.size HX.out
  have hX2w : ∀ k, X2 k → w.heap.size ≤ k := fun k q => (g3 k q).elim (HX.out k) (fun z => Nat.le_trans HBW.out.size z)
  have hBW2 := HBW.out.trans hBWn
  clear HBI HBW HX
  have HBI := Lib.hid g1
  have HBW := Lib.hid hBW2
  have HX := Lib.hid hX2w
  clear g1 g2 g3 g4 hBWn hX2w hBW2 HCL
  obtain ⟨X7, hX7⟩ : ∃ Y, Y = we.alloc (.cells #[.int .i32 97, .int .u8 0] 56) := ⟨_, rfl⟩
  have b7 : Below we.heap.size we X7 := by rw [hX7]; exact below_lit _ _
  have hz7 : X7.heap.size = we.heap.size + 1 := by rw [hX7, World.size_alloc]
  have hI9 := gly8 we 97
  rw [← hX7] at hI9
  have hlt7 : ∀ k, _ → k < we.heap.size := fun k z => I.lt HBI.out k (.inl z)
  have hBIn := I.keep HBI.out (Kp.below b7 (fun k q => I.lt HBI.out k (.inl q))) (Kp.below b7 (fun k q => I.lt HBI.out k (.inr q))) b7.size
  have hBWn := HBW.out.trans (b7.mono HBW.out.size)
  clear HBI HBW
  have HBI := Lib.hid hBIn
  have HBW := Lib.hid hBWn
  clear hBIn hBWn
  have hcl := I.text (gl8 97) 4 HBI.out (I.tb HTB.out HBW.out) hI9 (fun k z => ⟨by omega, fun z2 => by have := hlt7 k z2; omega⟩) (by decide)
  have HCL := Lib.hid hcl
  have HX7 := Lib.hid hX7
  clear hX7 b7 hz7 hI9 hlt7 hcl
  go_wp2_with fail
  rw [← HX7.out]
  clear HX7
  refine HCL.out.mono ?_
  rintro e we ⟨rfl, X2, R2, g1, g2, g3, g4⟩
  have hBWn := g2.below HBW.out.size HX.out
  have hX2w : ∀ k, X2 k → w.heap.size ≤ k := fun k q => (g3 k q).elim (HX.out k) (fun z => Nat.le_trans HBW.out.size z)
  have hBW2 := HBW.out.trans hBWn
  clear HBI HBW HX
  have HBI := Lib.hid g1
  have HBW := Lib.hid hBW2
  have HX := Lib.hid hX2w
  clear g1 g2 g3 g4 hBWn hX2w hBW2 HCL
  obtain ⟨X7, hX7⟩ : ∃ Y, Y = we.alloc (.cells #[.int .i32 98, .int .u8 0] 56) := ⟨_, rfl⟩
  have b7 : Below we.heap.size we X7 := by rw [hX7]; exact below_lit _ _
  have hz7 : X7.heap.size = we.heap.size + 1 := by rw [hX7, World.size_alloc]
  have hI9 := gly8 we 98
  rw [← hX7] at hI9
  have hlt7 : ∀ k, _ → k < we.heap.size := fun k z => I.lt HBI.out k (.inl z)
  have hBIn := I.keep HBI.out (Kp.below b7 (fun k q => I.lt HBI.out k (.inl q))) (Kp.below b7 (fun k q => I.lt HBI.out k (.inr q))) b7.size
  have hBWn := HBW.out.trans (b7.mono HBW.out.size)
  clear HBI HBW
  have HBI := Lib.hid hBIn
  have HBW := Lib.hid hBWn
  clear hBIn hBWn
  have hcl := I.text (gl8 98) 5 HBI.out (I.tb HTB.out HBW.out) hI9 (fun k z => ⟨by omega, fun z2 => by have := hlt7 k z2; omega⟩) (by decide)
  have HCL := Lib.hid hcl
  have HX7 := Lib.hid hX7
  clear hX7 b7 hz7 hI9 hlt7 hcl
  go_wp2_with fail
  rw [← HX7.out]
  clear HX7
  refine HCL.out.mono ?_
  rintro e we ⟨rfl, X2, R2, g1, g2, g3, g4⟩
  have hBWn := g2.below HBW.out.size HX.out
  have hX2w : ∀ k, X2 k → w.heap.size ≤ k := fun k q => (g3 k q).elim (HX.out k) (fun z => Nat.le_trans HBW.out.size z)
  have hBW2 := HBW.out.trans hBWn
  clear HBI HBW HX
  have HBI := Lib.hid g1
  have HBW := Lib.hid hBW2
  have HX := Lib.hid hX2w
  clear g1 g2 g3 g4 hBWn hX2w hBW2 HCL
  have HBI8 : Hid (BI X2 R2 we b t8) := HBI
  clear HBI
  have HBI := HBI8
  clear HBI8
  have hdc := I.doc HBI.out (I.tb HTB.out HBW.out) (by decide)
  rw [nm8, doc8] at hdc
  unfold docV docL at hdc
  have HDC := Lib.hid hdc
  clear hdc
  go_wp2_with fail
  refine HDC.out.mono ?_
  rintro e wd ⟨⟨s1, s2, s3⟩, rfl, hn1, hbd⟩
  simp only [pv] at hn1 ⊢
  clear HDC
  have hBIn := I.keep HBI.out (Kp.below hbd (fun k q => I.lt HBI.out k (.inl q))) (Kp.below hbd (fun k q => I.lt HBI.out k (.inr q))) hbd.size
  have hBWn := HBW.out.trans (hbd.mono HBW.out.size)
  clear HBI HBW
  have HBI := Lib.hid hBIn
  have HBW := Lib.hid hBWn
  clear hBIn hBWn
  obtain ⟨X5, hX5⟩ : ∃ Y, Y = wd.alloc (.cells #[.string ⟨#[]⟩, .string ⟨#[]⟩, .string ⟨#[]⟩, .string ⟨#[]⟩, .slice s1 s2 s3] 29) := ⟨_, rfl⟩
  have b5 : Below wd.heap.size wd X5 := by rw [hX5]; exact below_lit _ _
  obtain ⟨o1, ho1⟩ : ∃ q, wd.heap.size = q := ⟨_, rfl⟩
  have hKD : Blk X5 o1 29 [.string ⟨#[]⟩, .string ⟨#[]⟩, .string ⟨#[]⟩, .string ⟨#[]⟩, .slice s1 s2 s3] := by rw [← ho1, hX5]; exact heap_alloc_new wd _
  have hN5 : NsS (fun k => k < X5.heap.size) X5 (.slice s1 s2 s3) want8 := (hn1.keep (Kp.below b5 (fun k q => q.2))).mono (fun k q => Nat.lt_of_lt_of_le q.2 b5.size)
  have hBIn := I.keep HBI.out (Kp.below b5 (fun k q => I.lt HBI.out k (.inl q))) (Kp.below b5 (fun k q => I.lt HBI.out k (.inr q))) b5.size
  have hBWn := HBW.out.trans (b5.mono HBW.out.size)
  clear HBI HBW
  have HBI := Lib.hid hBIn
  have HBW := Lib.hid hBWn
  clear hBIn hBWn
  obtain ⟨X6, hX6⟩ : ∃ W4, W4 = (((X5.alloc (.cells #[.int .i32 120, .int .u8 0] 56)).alloc (.cells #[.int .i32 97, .int .u8 0, .int .i32 32, .int .u8 0, .int .i32 98, .int .u8 0] 56)).alloc (.cells #[.int .i64 3, .int .i64 4, .int .i64 0, .slice (some ⟨X5.heap.size + 1, 0, none⟩) 3 3, .slice none 0 0, .slice none 0 0, .string ⟨#[]⟩, .slice none 0 0, .bool false, .bool false] 40)).alloc (.cells #[.int .i64 1, .int .i64 0, .int .i64 0, .slice (some ⟨X5.heap.size, 0, none⟩) 1 1, .slice (some ⟨X5.heap.size + 1 + 1, 0, none⟩) 1 1, .slice none 0 0, .string ⟨#[]⟩, .slice none 0 0, .bool false, .bool false] 40) := ⟨_, rfl⟩
  obtain ⟨hw4, b6⟩ := want_is X5 X6 hX6
  have c4 : X6.cell? ⟨o1, 4, none⟩ = some (.slice s1 s2 s3) := (hKD.below b6).cell 4
  have hsm := rsame_any _ _ _ want8 want8 rfl (by decide) (by decide) _ _ X6 ((hN5.keep (Kp.below b6 (fun k q => q))).mono (T := fun k => k < X6.heap.size) (fun k q => Nat.lt_of_lt_of_le q b6.size)) hw4 (fun k q => q) (fun k q => q)
  rw [eqNs_true rfl] at hsm
  have HSM := Lib.hid hsm
  have hBIn := I.keep HBI.out (Kp.below b6 (fun k q => I.lt HBI.out k (.inl q))) (Kp.below b6 (fun k q => I.lt HBI.out k (.inr q))) b6.size
  have hBWn := HBW.out.trans (b6.mono HBW.out.size)
  clear HBI HBW
  have HBI := Lib.hid hBIn
  have HBW := Lib.hid hBWn
  clear hBIn hBWn
  have HX5 := Lib.hid hX5
  have HX6 := Lib.hid hX6
  have HO1 := Lib.hid ho1
  clear hn1 hbd hX5 b5 hKD hN5 hX6 hw4 b6 hsm ho1
  go_upto_region 6 with fail
  rw [← HX5.out]
  try rw [HO1.out]
  go_upto_region 8 with fail
  rw [← HX6.out]
  clear HX5 HX6 HO1
  go_wp2_with fail
  refine HSM.out.mono ?_
  rintro e w5 ⟨rfl, b7⟩
  clear HSM c4
  have hBIn := I.keep HBI.out (Kp.below b7 (fun k q => I.lt HBI.out k (.inl q))) (Kp.below b7 (fun k q => I.lt HBI.out k (.inr q))) b7.size
  have hBWn := HBW.out.trans (b7.mono HBW.out.size)
  clear HBI HBW
  have HBI := Lib.hid hBIn
  have HBW := Lib.hid hBWn
  clear hBIn hBWn
  clear b7
  have hdp := I.depth HBI.out (I.tb HTB.out HBW.out)
  rw [opn8] at hdp
  have HDP := Lib.hid hdp
  clear hdp
  go_wp2_with fail
  refine HDP.out.mono ?_
  rintro e w6 ⟨rfl, b8⟩
  clear HDP
  have hBIn := I.keep HBI.out (Kp.below b8 (fun k q => I.lt HBI.out k (.inl q))) (Kp.below b8 (fun k q => I.lt HBI.out k (.inr q))) b8.size
  have hBWn := HBW.out.trans (b8.mono HBW.out.size)
  clear HBI HBW
  have HBI := Lib.hid hBIn
  have HBW := Lib.hid hBWn
  clear hBIn hBWn
  clear b8
  have HDP := Lib.hid (HNI.out _ (I.tb HTB.out HBW.out))
  go_wp2_with fail
  refine HDP.out.mono ?_
  rintro e w7 ⟨rfl, b9⟩
  clear HDP
  have hBIn := I.keep HBI.out (Kp.below b9 (fun k q => I.lt HBI.out k (.inl q))) (Kp.below b9 (fun k q => I.lt HBI.out k (.inr q))) b9.size
  have hBWn := HBW.out.trans (b9.mono HBW.out.size)
  clear HBI HBW
  have HBI := Lib.hid hBIn
  have HBW := Lib.hid hBWn
  clear hBIn hBWn
  clear b9
  go_wp2_with fail
  go_ret
  exact ⟨rfl, HBW.out⟩
end Go.Proofs.YtpccjgoeoeehoaaDoor
namespace Go.Proofs.YtpccjgoeoeehoaaDoor
open Go.RowKit
theorem inks_next {l : List (List Gly)} {p : Nat} {x : List Gly} (hx : l[p]? = some x) : inks (l.take (p + 1)) = inks (l.take p) ++ ink x := by
  rw [List.take_add_one, hx]
  simp [inks]
theorem tinks_next {l : List Trow} {p : Nat} {x : Trow} (hx : l[p]? = some x) : ((l.take (p + 1)).flatMap fun r => inks r.2) = ((l.take p).flatMap fun r => inks r.2) ++ inks x.2 := by
  rw [List.take_add_one, hx]
  simp
theorem inkL_next {l : List Gly} {p : Nat} {x : Gly} (hx : l[p]? = some x) : ink (l.take (p + 1)) = ink (l.take p) ++ ink [x] := by
  rw [List.take_add_one, hx]
  simp [ink]
theorem ink_le (l : List Gly) : (ink l).length ≤ l.length := List.length_filter_le _ _
theorem inks_le (l : List (List Gly)) : (inks l).length ≤ lens l := by
  induction l with
  | nil => simp [inks, lens]
  | cons x l ih =>
    have := ink_le x
    simp only [inks, List.flatMap_cons, List.length_append, lens, List.map_cons, List.sum_cons] at *
    omega
theorem tinks_le (l : List Trow) : (l.flatMap fun r => inks r.2).length ≤ trls l := by
  induction l with
  | nil => simp [trls]
  | cons x l ih =>
    have := inks_le x.2
    have e : trl x = 1 + x.2.length + lens x.2 := rfl
    simp only [List.flatMap_cons, List.length_append, trls, List.map_cons, List.sum_cons] at *
    omega
mutual
theorem lvN_le : ∀ x : Nd, (lvN x).length ≤ nlN x
  | .mk h ks => by
    have h1 := ink_le h.text
    have h2 := inks_le h.rows
    have h3 := tinks_le h.grid.rows
    have h4 := lvL_le ks
    simp only [lvN, hdInk, nlN, hdl, List.length_append]
    omega
theorem lvL_le : ∀ l : List Nd, (lvL l).length ≤ nlL l
  | [] => by simp [lvL, nlL]
  | x :: l => by
    have h1 := lvN_le x
    have h2 := lvL_le l
    simp only [lvL, nlL, List.length_append]
    omega
end
def InQ (base : Nat) (l : List Gly) (w : World) (e : Ending) (w' : World) : Prop := ∃ u, e = .returned u ∧ GOwn base w' u l ∧ Below base w w'
attribute [local go_sem ↓ high] builtin_appG
set_option maxRecDepth 100000 in
set_option maxHeartbeats 2000000 in
theorem rinked_any (base : Nat) (S : Nat → Prop) (acc l : List Gly) (v u : Value) (w : World) (hbw : base ≤ w.heap.size) (hO : GOwn base w v acc) (hu : FsS S 2 gcell w u l) (hS : ∀ b, S b → b < base) (hl : acc.length + l.length ≤ 400000) :
    Calls Tryd.prog 55 #[v, u] w (InQ base (acc ++ ink l) w) := by
  have HU := Lib.hid hu
  have HS := Lib.hid hS
  have HO0 := Lib.hid hO
  obtain ⟨ua, uc, rfl⟩ := hu.1.len
  clear hu hS hO
  go_enter Tryd.func55, Tryd.ntmps55
  go_wp2_with fail
  go_loopw [0, 5] (fun s i wr => ∃ j : Nat, j ≤ l.length ∧ i = .int .i64 (j : Int) ∧ Hid (GOwn base wr s (acc ++ ink (l.take j))) ∧ Hid (Below base w wr)) (fun _ i _ => l.length - (intOf i).toNat)
  case atStart => exact ⟨0, by omega, rfl, Lib.hid (by simpa [ink] using HO0.out), Lib.hid (Below.refl _ _)⟩
  case round =>
    obtain ⟨j, hj, rfl, HO, BW⟩ := hrel
    obtain ⟨sa, sc, hs⟩ := (FOwn.sl gcell_len HO.out).len
    obtain ⟨sn, hsn⟩ : ∃ n, (acc ++ ink (l.take j)).length = n := ⟨_, rfl⟩
    have hsl : sn ≤ 400000 := by
      have h1 := ink_le (l.take j)
      have h2 := List.length_take_le j l
      rw [← hsn, List.length_append]
      omega
    rw [hsn] at hs
    subst hs
    by_cases hlt : j < l.length
    · obtain ⟨z, hz⟩ : ∃ z, l[j]? = some z := ⟨l[j], List.getElem?_eq_getElem hlt⟩
      have HN := Lib.hid (inkL_next hz)
      obtain ⟨g, off, rfl, c0, c1, -⟩ := Gs.at (HU.out.keep (Kp.below BW.out HS.out)).1 hz
      have hi0 : (j : Int) < (l.length : Int) := by omega
      have hi1 : (0 : Int) ≤ (j : Int) := by omega
      obtain ⟨z0, z1⟩ := z
      simp only at c0 c1 HN
      clear hz
      by_cases h32 : z0 = 32
      · subst h32
        have HN2 : Hid (ink (l.take (j + 1)) = ink (l.take j)) := Lib.hid (by rw [HN.out]; simp [ink])
        clear HN
        go_wp2_with fail
        go_roundw
        case rel => exact ⟨j + 1, by omega, by go_num, by rw [HN2.out]; exact HO, BW⟩
        case measure => (simp [intOf]; try omega)
      · have hq : (z0 != 32) = true := by simpa using h32
        have HN2 : Hid (ink (l.take (j + 1)) = ink (l.take j) ++ [(z0, z1)]) := Lib.hid (by rw [HN.out]; simp [ink, hq])
        obtain ⟨a', c', W', hr, ho, hb⟩ := gpush HO.out (Nat.le_trans hbw BW.out.size) (by rw [hsn]; omega) z0 z1
        rw [hsn] at hr ho
        have H2 := Lib.hid ho
        have B2 := Lib.hid (BW.out.trans hb)
        clear HN ho hb hsn
        go_wp2_with fail
        go_roundw
        case rel => exact ⟨j + 1, by omega, by go_num, by rw [HN2.out, ← List.append_assoc]; exact H2, B2⟩
        case measure => (simp [intOf]; try omega)
    · obtain rfl : j = l.length := by omega
      have hlt' : ¬ (l.length : Int) < (l.length : Int) := by omega
      rw [List.take_length] at HO
      go_wp2_with fail
      go_ret
      exact ⟨_, rfl, HO.out, BW.out⟩
set_option maxRecDepth 100000 in
set_option maxHeartbeats 8000000 in
theorem rleaves_any (S : Nat → Prop) : ∀ (n : Nat) (l : List Nd), cntL l = n → ∀ (v : Value) (w : World), NsS S w v l → (∀ b, S b → b < w.heap.size) → nlL l ≤ 100000 →
    Calls Tryd.prog 26 #[v] w (InQ w.heap.size (lvL l) w) := by
  intro n
  induction n using Nat.strongRecOn with
  | _ n IH =>
    intro l hn v w hv hS hl
    subst hn
    have HV := Lib.hid hv
    have HS := Lib.hid hS
    obtain ⟨aa, ca, rfl⟩ := hv.len
    have HI : Hid (∀ (m : List Nd), cntL m < cntL l → ∀ (v : Value) (w : World), NsS S w v m → (∀ b, S b → b < w.heap.size) → nlL m ≤ 100000 → Calls Tryd.prog 26 #[v] w (InQ w.heap.size (lvL m) w)) := Lib.hid (fun m hm => IH (cntL m) hm m rfl)
    have hll := cnt_len l
    have hcl := cnt_nlL l
    clear hv hS IH
    go_enter Tryd.func26, Tryd.ntmps26
    go_wp2_with fail
    go_loopw [3, 4] (fun s i wr => ∃ p : Nat, p ≤ l.length ∧ i = .int .i64 (p : Int) ∧ Hid (GOwn w.heap.size wr s (lvL (l.take p))) ∧ Hid (Below w.heap.size w wr)) (fun _ i _ => l.length - (intOf i).toNat)
    case atStart => exact ⟨0, by omega, rfl, Lib.hid (FOwn.nil _ _), Lib.hid (Below.refl _ _)⟩
    case round =>
      obtain ⟨p, hp, rfl, HO, BW⟩ := hrel
      by_cases hlt : p < l.length
      · obtain ⟨y, hy⟩ : ∃ y, l[p]? = some y := ⟨l[p], List.getElem?_eq_getElem hlt⟩
        have HN := Lib.hid (lv_next hy)
        have hle := cnt_le hy
        have hnl := nl_le hy
        have hv1 := lvL_le (l.take p)
        have hdd : hdl y.hd = 3 + y.hd.text.length + y.hd.grid.cols.length + (y.hd.rows.length + lens y.hd.rows) + trls y.hd.grid.rows := rfl
        have hrr := inks_le y.hd.rows
        have htt := tinks_le y.hd.grid.rows
        have hik := ink_le y.hd.text
        have hlt' : (p : Int) < (l.length : Int) := by omega
        have hp0 : (0 : Int) ≤ (p : Int) := by omega
        obtain ⟨g, off, ⟨t1, t2, t3⟩, ⟨k1, k2, k3⟩, ⟨r1, r2, r3⟩, ⟨q1, q2, q3⟩, rfl, hA⟩ := HV.out.at hy
        have HA : Hid (∀ W, Below w.heap.size w W → NAt S W g (off + p * 10) y (t1, t2, t3) (k1, k2, k3) (r1, r2, r3) (q1, q2, q3)) := Lib.hid (fun W hb => hA.keep (Kp.below hb HS.out))
        obtain ⟨tn, htn⟩ : ∃ n, y.hd.text.length = n := ⟨_, rfl⟩
        obtain ⟨rn, hrn⟩ : ∃ n, y.hd.rows.length = n := ⟨_, rfl⟩
        obtain ⟨qn, hqn⟩ : ∃ n, y.hd.grid.rows.length = n := ⟨_, rfl⟩
        obtain ⟨kn, hkn⟩ : ∃ n, y.kids.length = n := ⟨_, rfl⟩
        have HTN := Lib.hid htn
        have HRN := Lib.hid hrn
        have HQN := Lib.hid hqn
        have HKN := Lib.hid hkn
        have hrb : rn ≤ 100000 := by omega
        have hql := trls_len y.hd.grid.rows
        have hqb : qn ≤ 100000 := by omega
        have N := HA.out wr BW.out
        have u3 : wr.cell? ⟨g, off + p * 10 + 3, none⟩ = some (.slice t1 tn t3) := by rw [← htn]; exact N.c3
        have HC := Lib.hid (rinked_any w.heap.size S (lvL (l.take p)) y.hd.text _ (.slice t1 tn t3) wr BW.out.size HO.out (by rw [← htn]; exact N.text) HS.out (by omega))
        clear hy hA htn hrn hqn hkn N
        go_wp2_with fail
        refine HC.out.mono ?_
        rintro e w1 ⟨x1, rfl, ho, hb⟩
        have HO1 := Lib.hid ho
        have BW1 := Lib.hid (BW.out.trans hb)
        clear ho hb HC u3
        go_wp2_with fail
        go_loopw [3, 5] (fun s i wr => ∃ q : Nat, q ≤ rn ∧ i = .int .i64 (q : Int) ∧ Hid (GOwn w.heap.size wr s (lvL (l.take p) ++ ink y.hd.text ++ inks (y.hd.rows.take q))) ∧ Hid (Below w.heap.size w wr)) (fun _ i _ => rn - (intOf i).toNat)
        case atStart => exact ⟨0, by omega, rfl, Lib.hid (by simpa [inks] using HO1.out), BW1⟩
        case round =>
          obtain ⟨q, hq, rfl, HOq, BWq⟩ := hrel
          have N := HA.out wr BWq.out
          have u5 : wr.cell? ⟨g, off + p * 10 + 5, none⟩ = some (.slice r1 rn r3) := by rw [← HRN.out]; exact N.c5
          by_cases hqr : q < rn
          · obtain ⟨r, hr⟩ : ∃ r, y.hd.rows[q]? = some r := ⟨y.hd.rows[q]'(by rw [HRN.out]; exact hqr), List.getElem?_eq_getElem _⟩
            have hrl := lens_le hr
            have hil := inks_le (y.hd.rows.take q)
            obtain ⟨gr, og, rb, rc, hr1, -, d0, hf⟩ := N.rows.at hr
            simp only at hr1
            subst hr1
            obtain ⟨rl, hrl2⟩ : ∃ n, r.length = n := ⟨_, rfl⟩
            have hqr' : (q : Int) < (rn : Int) := by omega
            have hq0 : (0 : Int) ≤ (q : Int) := by omega
            have HC := Lib.hid (rinked_any w.heap.size S _ r _ (.slice rb r.length rc) wr BWq.out.size HOq.out hf HS.out (by simp only [List.length_append]; omega))
            rw [hrl2] at HC d0
            have HNX := Lib.hid (inks_next hr)
            clear hr hrl hil hf hrl2 N
            go_wp2_with fail
            refine HC.out.mono ?_
            rintro e w3 ⟨x3, rfl, ho, hb⟩
            have HO3 := Lib.hid ho
            have BW3 := Lib.hid (BWq.out.trans hb)
            clear ho hb HC u5 d0
            go_wp2_with fail
            go_roundw
            case rel => exact ⟨q + 1, by omega, by go_num, by rw [HNX.out, ← List.append_assoc]; exact HO3, BW3⟩
            case measure => (simp [intOf]; try omega)
          · have hqr' : ¬ (q : Int) < (rn : Int) := by omega
            have HOr : Hid (GOwn w.heap.size wr _ (lvL (l.take p) ++ ink y.hd.text ++ inks y.hd.rows)) := Lib.hid (by have := HOq.out; rwa [show y.hd.rows.take q = y.hd.rows from List.take_of_length_le (by rw [HRN.out]; omega)] at this)
            clear N
            go_wp2_with fail
            clear u5 hqr'
            go_loopw [3, 6] (fun s i wr => ∃ z : Nat, z ≤ qn ∧ i = .int .i64 (z : Int) ∧ Hid (GOwn w.heap.size wr s (lvL (l.take p) ++ ink y.hd.text ++ inks y.hd.rows ++ ((y.hd.grid.rows.take z).flatMap fun r => inks r.2))) ∧ Hid (Below w.heap.size w wr)) (fun _ i _ => qn - (intOf i).toNat)
            case atStart => exact ⟨0, by omega, rfl, Lib.hid (by simpa using HOr.out), BWq⟩
            case round =>
              obtain ⟨z, hz, rfl, HOz, BWz⟩ := hrel
              have N := HA.out wr BWz.out
              have u7 : wr.cell? ⟨g, off + p * 10 + 7, none⟩ = some (.slice q1 qn q3) := by rw [← HQN.out]; exact N.c7
              by_cases hzq : z < qn
              · obtain ⟨r, hr⟩ : ∃ r, y.hd.grid.rows[z]? = some r := ⟨y.hd.grid.rows[z]'(by rw [HQN.out]; exact hzq), List.getElem?_eq_getElem _⟩
                have hrl := trls_le hr
                have htr : trl r = 1 + r.2.length + lens r.2 := rfl
                have hil := tinks_le (y.hd.grid.rows.take z)
                obtain ⟨gr, og, rb, rc, hr1, -, d0, d1, hf⟩ := N.trows.at hr
                simp only at hr1
                subst hr1
                obtain ⟨cn, hcn⟩ : ∃ n, r.2.length = n := ⟨_, rfl⟩
                have HCN := Lib.hid hcn
                have hcb : cn ≤ 100000 := by omega
                have hzq' : (z : Int) < (qn : Int) := by omega
                have hz0 : (0 : Int) ≤ (z : Int) := by omega
                have HTX := Lib.hid (tinks_next hr)
                obtain ⟨Wz, hWz⟩ : ∃ W, W = wr := ⟨_, rfl⟩
                have HGR : Hid (GrS S w (.slice rb cn rc) r.2) := Lib.hid (by
                  have h0 := (HA.out w (Below.refl _ _)).trows.at hr
                  obtain ⟨g', o', b', c', e1, -, -, e3, e4⟩ := h0
                  simp only at e1
                  injection e1 with e1
                  injection e1 with e5 e6
                  subst e5 e6
                  have e7 := (BWz.out.cell (World.block_lt_of_cell? w _ e3)).trans e3
                  rw [d1] at e7
                  injection e7 with e7
                  injection e7 with e8 e9 e10
                  subst e8 e10
                  rw [← hcn]; exact e4)
                rw [hcn] at d1
                clear hr hf N hWz hcn
                go_wp2_with fail
                clear u7 d0 d1 hzq' hz0
                go_loopw [3, 8] (fun s i wr => ∃ j : Nat, j ≤ cn ∧ i = .int .i64 (j : Int) ∧ Hid (GOwn w.heap.size wr s (lvL (l.take p) ++ ink y.hd.text ++ inks y.hd.rows ++ ((y.hd.grid.rows.take z).flatMap fun r => inks r.2) ++ inks (r.2.take j))) ∧ Hid (Below w.heap.size w wr)) (fun _ i _ => cn - (intOf i).toNat)
                case atStart => exact ⟨0, by omega, rfl, Lib.hid (by simpa [inks] using HOz.out), BWz⟩
                case round =>
                  obtain ⟨j, hj, rfl, HOj, BWj⟩ := hrel
                  by_cases hjc : j < cn
                  · obtain ⟨cc, hcc⟩ : ∃ c, r.2[j]? = some c := ⟨r.2[j]'(by rw [HCN.out]; exact hjc), List.getElem?_eq_getElem _⟩
                    have hcl2 := lens_le hcc
                    have hcl3 := inks_le (r.2.take j)
                    obtain ⟨gc, oc, cb, ccap, hc1, -, f0, hf⟩ := (HGR.out.keep (Kp.below BWj.out HS.out)).at hcc
                    subst hc1
                    obtain ⟨ccl, hccl⟩ : ∃ n, cc.length = n := ⟨_, rfl⟩
                    have hjc' : (j : Int) < (cn : Int) := by omega
                    have hj0 : (0 : Int) ≤ (j : Int) := by omega
                    have HC := Lib.hid (rinked_any w.heap.size S _ cc _ (.slice cb cc.length ccap) wr BWj.out.size HOj.out hf HS.out (by simp only [List.length_append]; omega))
                    rw [hccl] at HC f0
                    have HNX := Lib.hid (inks_next hcc)
                    clear hcc hf hccl
                    go_wp2_with fail
                    refine HC.out.mono ?_
                    rintro e w3 ⟨x3, rfl, ho, hb⟩
                    have HO3 := Lib.hid ho
                    have BW3 := Lib.hid (BWj.out.trans hb)
                    clear ho hb HC f0
                    go_wp2_with fail
                    go_roundw
                    case rel => exact ⟨j + 1, by omega, by go_num, by rw [HNX.out, ← List.append_assoc]; exact HO3, BW3⟩
                    case measure => (simp [intOf]; try omega)
                  · have hjc' : ¬ (j : Int) < (cn : Int) := by omega
                    have HO4 : Hid (GOwn w.heap.size wr _ (lvL (l.take p) ++ ink y.hd.text ++ inks y.hd.rows ++ ((y.hd.grid.rows.take (z + 1)).flatMap fun r => inks r.2))) := Lib.hid (by
                      have := HOj.out
                      rw [show r.2.take j = r.2 from List.take_of_length_le (by rw [HCN.out]; omega)] at this
                      rw [HTX.out, ← List.append_assoc]
                      exact this)
                    go_wp2_with fail
                    go_roundw
                    case rel => exact ⟨z + 1, by omega, by go_num, HO4, BWj⟩
                    case measure => (simp [intOf]; try omega)
              · have hzq' : ¬ (z : Int) < (qn : Int) := by omega
                have HOx : Hid (GOwn w.heap.size wr _ (lvL (l.take p) ++ hdInk y.hd)) := Lib.hid (by
                  have := HOz.out
                  rw [show y.hd.grid.rows.take z = y.hd.grid.rows from List.take_of_length_le (by rw [HQN.out]; omega)] at this
                  unfold hdInk
                  simpa [List.append_assoc] using this)
                have u4 : wr.cell? ⟨g, off + p * 10 + 4, none⟩ = some (.slice k1 kn k3) := by rw [← HKN.out]; exact N.c4
                have HR := Lib.hid (HI.out y.kids (by omega) (.slice k1 y.kids.length k3) wr N.kids (fun b q => Nat.lt_of_lt_of_le (HS.out b q) BWz.out.size) (by omega))
                rw [HKN.out] at HR
                have hkl := lvL_le y.kids
                have hhd : (lvL (l.take p) ++ hdInk y.hd).length ≤ 100000 := by unfold hdInk; simp only [List.length_append]; omega
                clear N
                go_wp2_with fail
                refine HR.out.mono ?_
                rintro e w5 ⟨x5, rfl, ho5, hb5⟩
                obtain ⟨x6, w6, hr6, ho6, hg6, -⟩ := appG_own (HOx.out.keep hb5) (FOwn.sl gcell_len ho5) (Nat.le_trans BWz.out.size hb5.size) (by omega)
                have hb6 := (HOx.out.keep hb5).below (hb5.mono BWz.out.size) (Nat.le_trans BWz.out.size hb5.size) hg6
                have HO6 := Lib.hid ho6
                have BW6 := Lib.hid (BWz.out.trans hb6)
                clear ho5 hb5 ho6 hg6 hb6 HR u4 u7
                go_wp2_with fail
                go_roundw
                case rel => exact ⟨p + 1, by omega, by go_num, by rw [HN.out, ← List.append_assoc]; exact HO6, BW6⟩
                case measure => (simp [intOf]; try omega)
      · obtain rfl : p = l.length := by omega
        have hlt' : ¬ (l.length : Int) < (l.length : Int) := by omega
        rw [List.take_length] at HO
        go_wp2_with fail
        go_ret
        exact ⟨_, rfl, HO.out, BW.out⟩
end Go.Proofs.YtpccjgoeoeehoaaDoor
