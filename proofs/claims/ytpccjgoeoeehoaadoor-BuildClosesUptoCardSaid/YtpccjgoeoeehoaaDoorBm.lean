/- Plain maths of layer 8: what a builder holds, and what becomes of it. The program's own for documents: a node's cells; Deep, Count. The program's own for documents: Count, by a closure that counts. Plain maths of layer 8: what is closed, what is shut. -/
import Derived.Test.YtpccjgoeoeehoaaDoorDa
set_option linter.unusedVariables false
set_option linter.unusedSimpArgs false
namespace Go.Proofs.YtpccjgoeoeehoaaDoor
open Go.RowKit
/-- Two texts, one behind the other. -/
def jn (a b : List Gly) : List Gly := if a = [] then b else if b = [] then a else a ++ [(32, 0)] ++ b
/-- What a builder has: the document's names and nodes; what is open, the innermost last; a paragraph. -/
structure Bt where
  nm : Nm
  kids : List Nd
  opn : List Nd
  text : List Gly
  line : Int
  has : Bool
def ownKid (y x : Nd) : Nd := .mk y.hd (y.kids ++ [x])
def bLay (t : Bt) (x : Nd) : Bt :=
  match t.opn.getLast? with
  | none => { t with kids := t.kids ++ [x] }
  | some y => { t with opn := t.opn.dropLast ++ [ownKid y x] }
def paraN (t : Bt) : Nd := .mk ⟨3, t.line, 0, t.text, [], noGrid⟩ []
def bFlat (t : Bt) : Bt := { t with text := [], line := 0, has := false }
def bEnd (t : Bt) : Bt := bFlat (if ink t.text = [] then t else bLay t (paraN t))
def bText (t : Bt) (l : List Gly) (line : Int) : Bt := { t with text := jn t.text l, line := if t.has then t.line else line, has := true }
def bAdd (t : Bt) (x : Nd) : Bt := bLay (bEnd t) x
def bOpen (t : Bt) (x : Nd) : Bt := { bEnd t with opn := (bEnd t).opn ++ [x] }
def bPop (t : Bt) : Bt :=
  match t.opn.getLast? with
  | none => t
  | some x => bLay { t with opn := t.opn.dropLast } x
def bIn (t : Bt) (k : Int) : Bool := t.opn.any fun y => y.hd.kind == k
def popTo (k : Int) : Nat → Bt → Bt
  | 0, t => t
  | n + 1, t => match t.opn.getLast? with
    | none => t
    | some y => if y.hd.kind = k then bPop t else popTo k n (bPop t)
def bClose (t : Bt) (k : Int) : Bt × Bool := if bIn (bEnd t) k then (popTo k (bEnd t).opn.length (bEnd t), true) else (bEnd t, false)
def popAll (K : List Int) : Nat → Bt → Bt
  | 0, t => t
  | n + 1, t => match t.opn.getLast? with
    | none => t
    | some y => if y.hd.kind ∈ K then popAll K n (bPop t) else t
def bShut (t : Bt) (K : List Int) : Bt := popAll K (bEnd t).opn.length (bEnd t)
/-- All nodes, were all closed. -/
def wrapK : List Nd → List Nd
  | [] => []
  | y :: r => [.mk y.hd (y.kids ++ wrapK r)]
def bAll (t : Bt) : List Nd := t.kids ++ wrapK t.opn
def bDoc (t : Bt) : List Nd := tidyL (bAll (bEnd t))
theorem nd_eta (x : Nd) : Nd.mk x.hd x.kids = x := by cases x; rfl
theorem wrapK_two : ∀ (l : List Nd) (y x : Nd), wrapK (l ++ [y, x]) = wrapK (l ++ [ownKid y x])
  | [], y, x => by
    cases y; cases x
    simp [wrapK, ownKid, Nd.hd, Nd.kids]
  | z :: l, y, x => by
    have := wrapK_two l y x
    simp only [List.cons_append, wrapK, this]
theorem lay_none {t : Bt} (x : Nd) (h : t.opn = []) : bLay t x = { t with kids := t.kids ++ [x] } := by unfold bLay; rw [h]; rfl
theorem lay_some {t : Bt} (x : Nd) {l : List Nd} {y : Nd} (h : t.opn = l ++ [y]) : bLay t x = { t with opn := l ++ [ownKid y x] } := by unfold bLay; rw [h]; simp
theorem opn_cases (l : List Nd) : l = [] ∨ ∃ r y, l = r ++ [y] := by
  rcases List.eq_nil_or_concat l with h | ⟨r, y, h⟩
  · exact .inl h
  · exact .inr ⟨r, y, by simpa using h⟩
theorem pop_none {t : Bt} (h : t.opn = []) : bPop t = t := by unfold bPop; rw [h]; rfl
theorem pop_some {t : Bt} {l : List Nd} {x : Nd} (h : t.opn = l ++ [x]) : bPop t = bLay { t with opn := l } x := by unfold bPop; rw [h]; simp
theorem pop_all (t : Bt) : bAll (bPop t) = bAll t := by
  rcases opn_cases t.opn with h | ⟨l, x, h⟩
  · rw [pop_none h]
  · rw [pop_some h]
    rcases opn_cases l with h2 | ⟨r, y, h2⟩
    · rw [lay_none x (by exact h2)]
      unfold bAll
      simp only
      rw [h, h2]
      simp [wrapK, nd_eta]
    · rw [lay_some x (show ({ t with opn := l } : Bt).opn = r ++ [y] from h2)]
      unfold bAll
      simp only
      rw [h, h2, List.append_assoc]
      rw [show [y] ++ [x] = [y, x] from rfl, wrapK_two]
theorem pop_len (t : Bt) : (bPop t).opn.length = t.opn.length - 1 := by
  rcases opn_cases t.opn with h | ⟨l, x, h⟩
  · rw [pop_none h, h]; rfl
  · rw [pop_some h]
    rcases opn_cases l with h2 | ⟨r, y, h2⟩
    · rw [lay_none x (by exact h2), h]; simp [h2]
    · rw [lay_some x (show ({ t with opn := l } : Bt).opn = r ++ [y] from h2), h, h2]; simp
/-- What is kept by laying, popping: the names, the paragraph. -/
def sameP (t u : Bt) : Prop := u.nm = t.nm ∧ u.text = t.text ∧ u.line = t.line ∧ u.has = t.has
theorem sameP.trans {a b c : Bt} (h : sameP a b) (k : sameP b c) : sameP a c := ⟨k.1.trans h.1, k.2.1.trans h.2.1, k.2.2.1.trans h.2.2.1, k.2.2.2.trans h.2.2.2⟩
theorem lay_sameP (t : Bt) (x : Nd) : sameP t (bLay t x) := by
  unfold bLay
  split <;> exact ⟨rfl, rfl, rfl, rfl⟩
theorem pop_sameP (t : Bt) : sameP t (bPop t) := by
  unfold bPop
  split
  · exact ⟨rfl, rfl, rfl, rfl⟩
  · exact (show sameP t { t with opn := t.opn.dropLast } from ⟨rfl, rfl, rfl, rfl⟩).trans (lay_sameP _ _)
theorem popAll_sameP (K : List Int) : ∀ (n : Nat) (t : Bt), sameP t (popAll K n t)
  | 0, t => ⟨rfl, rfl, rfl, rfl⟩
  | n + 1, t => by
    unfold popAll
    split
    · exact ⟨rfl, rfl, rfl, rfl⟩
    · split
      · exact (pop_sameP t).trans (popAll_sameP K n _)
      · exact ⟨rfl, rfl, rfl, rfl⟩
/-- No paragraph. -/
def flatB (t : Bt) : Prop := t.text = [] ∧ t.line = 0 ∧ t.has = false
theorem end_flat (t : Bt) : flatB (bEnd t) := ⟨rfl, rfl, rfl⟩
theorem flatB.of {t u : Bt} (h : flatB t) (k : sameP t u) : flatB u := ⟨k.2.1.trans h.1, k.2.2.1.trans h.2.1, k.2.2.2.trans h.2.2⟩
theorem end_of {t : Bt} (h : flatB t) : bEnd t = t := by
  obtain ⟨nm, kids, opn, text, line, has⟩ := t
  obtain ⟨h1, h2, h3⟩ := h
  simp only at h1 h2 h3
  subst h1 h2 h3
  rfl
theorem shut_end (t : Bt) (K : List Int) : bEnd (bShut t K) = bShut t K := end_of ((end_flat t).of (popAll_sameP _ _ _))
end Go.Proofs.YtpccjgoeoeehoaaDoor
namespace Go.Proofs.YtpccjgoeoeehoaaDoor
open Go.RowKit
/-- The cells of a node. -/
structure NC (w : World) (g o : Nat) (x : NV) : Prop where
  c0 : w.cell? ⟨g, o, none⟩ = some (.int .i64 x.kind)
  c1 : w.cell? ⟨g, o + 1, none⟩ = some (.int .i64 x.line)
  c2 : w.cell? ⟨g, o + 2, none⟩ = some (.int .i64 x.n)
  c3 : w.cell? ⟨g, o + 3, none⟩ = some (.slice x.text.1 x.text.2.1 x.text.2.2)
  c4 : w.cell? ⟨g, o + 4, none⟩ = some (.slice x.kids.1 x.kids.2.1 x.kids.2.2)
  c5 : w.cell? ⟨g, o + 5, none⟩ = some (.slice x.rows.1 x.rows.2.1 x.rows.2.2)
  c6 : w.cell? ⟨g, o + 6, none⟩ = some (.string ⟨x.cols.toArray⟩)
  c7 : w.cell? ⟨g, o + 7, none⟩ = some (.slice x.trows.1 x.trows.2.1 x.trows.2.2)
  c8 : w.cell? ⟨g, o + 8, none⟩ = some (.bool x.box)
  c9 : w.cell? ⟨g, o + 9, none⟩ = some (.bool x.all)
theorem NsS.atC {S : Nat → Prop} {w : World} {a : Option Addr} {k cap : Nat} {l : List Nd} (h : NsS S w (.slice a k cap) l) {j : Nat} {y : Nd} (hy : l[j]? = some y) :
    ∃ g off x, a = some ⟨g, off, none⟩ ∧ NC w g (off + j * 10) x ∧ HdIs S w x y.hd ∧ NsS S w (pv x.kids) y.kids := by
  obtain ⟨g, off, x, e, -, hc, hh, hk⟩ : ∃ g off x, a = some ⟨g, off, none⟩ ∧ S g ∧ (∀ (i : Nat) c, (ncell x)[i]? = some c → w.cell? ⟨g, off + j * 10 + i, none⟩ = some c) ∧ HdIs S w x y.hd ∧ NsS S w (pv x.kids) y.kids := by
    cases h with
    | mk _ _ L hl hs hh hk =>
      obtain ⟨x, hx⟩ : ∃ x, L[j]? = some x := ⟨L[j]'(by have := (List.getElem?_eq_some_iff.1 hy).1; omega), List.getElem?_eq_getElem _⟩
      obtain ⟨g, off, e, hg, hc⟩ := hs.at hx
      exact ⟨g, off, x, e, hg, fun i c hi => by rw [Nat.add_assoc]; exact hc i c hi, hh j x y hx hy, hk j x y hx hy⟩
  exact ⟨g, off, x, e, ⟨hc 0 _ rfl, hc 1 _ rfl, hc 2 _ rfl, hc 3 _ rfl, hc 4 _ rfl, hc 5 _ rfl, hc 6 _ rfl, hc 7 _ rfl, hc 8 _ rfl, hc 9 _ rfl⟩, hh, hk⟩
theorem below_ns {S : Nat → Prop} {w w' : World} {v : Value} {l : List Nd} (h : NsS S w v l) (hb : Below w.heap.size w w') (hS : ∀ b, S b → b < w.heap.size) : NsS S w' v l := h.keep (Kp.below hb hS)
attribute [local go_sem ↓ high] builtin_mxS
end Go.Proofs.YtpccjgoeoeehoaaDoor
namespace Go.Proofs.YtpccjgoeoeehoaaDoor
open Go.RowKit
/-- All blocks that were there stand as they stood, but some. -/
structure Exc (X : Nat → Prop) (w w' : World) : Prop where
  os : w'.os = w.os
  tape : w'.tape = w.tape
  output : w'.output = w.output
  size : w.heap.size ≤ w'.heap.size
  block : ∀ k, k < w.heap.size → ¬ X k → w'.heap[k]? = w.heap[k]?
theorem Exc.refl (X : Nat → Prop) (w : World) : Exc X w w := ⟨rfl, rfl, rfl, Nat.le_refl _, fun _ _ _ => rfl⟩
theorem Exc.trans {X Y : Nat → Prop} {a b c : World} (h : Exc X a b) (k : Exc Y b c) (hXY : ∀ i, i < a.heap.size → Y i → X i) : Exc X a c :=
  ⟨k.os.trans h.os, k.tape.trans h.tape, k.output.trans h.output, Nat.le_trans h.size k.size, fun i hi hx => (k.block i (Nat.lt_of_lt_of_le hi h.size) (fun q => hx (hXY i hi q))).trans (h.block i hi hx)⟩
theorem Exc.then {X : Nat → Prop} {a b c : World} (h : Exc X a b) (k : Exc X b c) : Exc X a c := h.trans k (fun _ _ q => q)
theorem Exc.of {X : Nat → Prop} {w w' : World} (h : Below w.heap.size w w') : Exc X w w' := ⟨h.os, h.tape, h.output, h.size, fun k hk _ => h.block k hk⟩
theorem Exc.below {X : Nat → Prop} {w w' : World} {D : Nat} (h : Exc X w w') (hD : D ≤ w.heap.size) (hX : ∀ b, b < D → ¬ X b) : Below D w w' :=
  ⟨h.os, h.tape, h.output, h.size, fun k hk => h.block k (Nat.lt_of_lt_of_le hk hD) (hX k hk)⟩
theorem Exc.mono {X Y : Nat → Prop} {w w' : World} (h : Exc X w w') (hXY : ∀ i, i < w.heap.size → X i → Y i) : Exc Y w w' :=
  ⟨h.os, h.tape, h.output, h.size, fun k hk hy => h.block k hk (fun q => hy (hXY k hk q))⟩
theorem Exc.set {X : Nat → Prop} {a w : World} (h : Exc X a w) {g : Nat} (j : Nat) (v : Value) (hg : g < a.heap.size → X g) : Exc X a (w.setCell ⟨g, j, none⟩ v) :=
  ⟨h.os, h.tape, h.output, by simpa [World.setCell] using h.size, fun k hk hx => (Below.heap_setCell w ⟨g, j, none⟩ v k (fun e => hx (by subst e; exact hg hk))).trans (h.block k hk hx)⟩
theorem Exc.blk {X : Nat → Prop} {w w' : World} (h : Exc X w w') {g : Nat} {e : TypeId} {L : List Value} (hb : Blk w g e L) (hX : ¬ X g) : Blk w' g e L := (h.block g (Array.getElem?_eq_some_iff.1 hb).1 hX).trans hb
theorem bel2 (w : World) (a b : Obj) : Below w.heap.size w ((w.alloc a).alloc b) := ((Below.refl _ w).alloc (Nat.le_refl _) _).alloc (by simp) _
theorem Blk.lt {W : World} {g : Nat} {e : TypeId} {L : List Value} (h : Blk W g e L) : g < W.heap.size := (Array.getElem?_eq_some_iff.1 h).1
end Go.Proofs.YtpccjgoeoeehoaaDoor
namespace Go.Proofs.YtpccjgoeoeehoaaDoor
open Go.RowKit
/-- The kinds that are open. -/
def knd (t : Bt) : List Int := t.opn.map fun y => y.hd.kind
theorem knd_len (t : Bt) : (knd t).length = t.opn.length := by simp [knd]
theorem lay_knd (t : Bt) (x : Nd) : knd (bLay t x) = knd t := by
  rcases opn_cases t.opn with h | ⟨l, y, h⟩
  · rw [lay_none x h]; rfl
  · rw [lay_some x h]
    unfold knd
    rw [h]
    simp [ownKid, Nd.hd]
theorem end_knd (t : Bt) : knd (bEnd t) = knd t := by
  unfold bEnd
  split
  · rfl
  · exact lay_knd t _
theorem in_knd (t : Bt) (k : Int) : bIn t k = (knd t).contains k := by
  unfold bIn knd
  induction t.opn with
  | nil => rfl
  | cons y l ih => simp only [List.any_cons, List.map_cons, List.contains_cons, ih, Bool.beq_comm (a := k)]
theorem pop_knd {t : Bt} {l : List Nd} {x : Nd} (h : t.opn = l ++ [x]) : knd t = knd (bPop t) ++ [x.hd.kind] := by
  rw [pop_some h, lay_knd]
  unfold knd
  rw [h]
  simp
theorem popTo_knd (k : Int) : ∀ (n : Nat) (t : Bt), t.opn.length ≤ n → bIn t k = true → (popTo k n t).opn.length < t.opn.length
  | 0, t, hn, h => by
    have : t.opn = [] := List.eq_nil_of_length_eq_zero (by omega)
    simp [bIn, this] at h
  | n + 1, t, hn, h => by
    rcases opn_cases t.opn with h0 | ⟨l, x, h0⟩
    · simp [bIn, h0] at h
    · have hp := pop_len t
      have hl : t.opn.length = l.length + 1 := by rw [h0]; simp
      unfold popTo
      rw [h0]
      simp only [List.getLast?_append, List.getLast?_singleton, Option.some_or]
      split
      · rw [hp]; simp; omega
      · next hk =>
        rw [in_knd, pop_knd h0] at h
        have h' : bIn (bPop t) k = true := by
          rw [in_knd]
          simp only [List.contains_append, Bool.or_eq_true] at h
          rcases h with h | h
          · exact h
          · simp at h; exact absurd h.symm hk
        have := popTo_knd k n (bPop t) (by omega) h'
        simp
        omega
theorem popAll_len (K : List Int) : ∀ (n : Nat) (t : Bt), (popAll K n t).opn.length ≤ t.opn.length
  | 0, t => Nat.le_refl _
  | n + 1, t => by
    unfold popAll
    split
    · exact Nat.le_refl _
    · split
      · have := popAll_len K n (bPop t)
        have := pop_len t
        omega
      · exact Nat.le_refl _
/-- The innermost is of none of these kinds. -/
def topOut (K : List Int) (t : Bt) : Prop := ∀ y, t.opn.getLast? = some y → y.hd.kind ∉ K
theorem popAll_top (K : List Int) : ∀ (n : Nat) (t : Bt), t.opn.length ≤ n → topOut K (popAll K n t)
  | 0, t, hn => fun y hy => by
    have : t.opn = [] := List.eq_nil_of_length_eq_zero (by omega)
    simp [popAll, this] at hy
  | n + 1, t, hn => by
    unfold popAll
    split
    · next h0 => exact fun y hy => by rw [h0] at hy; cases hy
    · next z hz =>
      split
      · refine popAll_top K n _ ?_
        have := pop_len t
        omega
      · next hk => exact fun y hy => by rw [hz] at hy; injection hy with hy; rw [← hy]; exact hk
theorem popAll_out {K : List Int} {t : Bt} (h : topOut K t) : ∀ n : Nat, popAll K n t = t
  | 0 => rfl
  | n + 1 => by
    unfold popAll
    split
    · rfl
    · next y hy => rw [if_neg (h y hy)]
theorem end_len (t : Bt) : (bEnd t).opn.length = t.opn.length := by rw [← knd_len, end_knd, knd_len]
theorem end_in (t : Bt) (k : Int) : bIn (bEnd t) k = bIn t k := by rw [in_knd, end_knd, in_knd]
theorem close_is (t : Bt) (k : Int) : (bClose t k).2 = bIn t k := by
  unfold bClose
  rw [end_in]
  cases bIn t k <;> rfl
theorem close_less {t : Bt} {k : Int} (h : bIn t k = true) : (bClose t k).1.opn.length < t.opn.length := by
  unfold bClose
  rw [end_in, h]
  have := popTo_knd k _ (bEnd t) (Nat.le_refl _) (by rw [end_in]; exact h)
  rw [end_len] at this ⊢
  exact this
theorem close_none {t : Bt} {k : Int} (h : bIn t k = false) : (bClose t k).1.opn.length = t.opn.length := by
  unfold bClose
  rw [end_in, h]
  exact end_len t
theorem shut_len (t : Bt) (K : List Int) : (bShut t K).opn.length ≤ t.opn.length := by
  have := popAll_len K (bEnd t).opn.length (bEnd t)
  rw [end_len] at this
  unfold bShut
  rw [end_len]
  exact this
theorem shut_shut (t : Bt) (K : List Int) : bShut (bShut t K) K = bShut t K := by
  have h : topOut K (bShut t K) := popAll_top K _ _ (Nat.le_refl _)
  obtain ⟨u, hu⟩ : ∃ u, bShut t K = u := ⟨_, rfl⟩
  have he := shut_end t K
  rw [hu] at h he ⊢
  unfold bShut
  rw [he]
  exact popAll_out h _
def t0 : Bt := ⟨⟨[], [], [], []⟩, [], [], [], 0, false⟩
end Go.Proofs.YtpccjgoeoeehoaaDoor
