/- Cut; known() is true. known() is true. Trim, in the program and in the document's answer. The document's own answer for documents: a row squeezed; is it? The document's own answer for documents: side, in, stands, full. The document's own answer for documents: full. Texts, byte by byte; the document's own answer for documents: Right. Rows of rows that are made: whose blocks lie apart, by their types. The document's own answer for documents: Mend. The document's own answer for documents: Mend, the walk. The document's own answer for documents: what a node of a kind has of another one. The document's own answer for documents: own, the walk. slices.Concat of three rows; styles.Join. The program's own for documents: glyphs squeezed. The program's own for documents: which kind may stand where; what a node of a kind lacks; what it may have. The program's own for documents: rows of rows, copied. The program's own for documents: a table's row, mended. -/
import Derived.Test.YtaeplneiicobgaaDoorQ2
import Derived.Deep.RegionWith
import Derived.Deep.LoopGhost
import Derived.Lib.AppendZerosOnto
import Derived.Laws.OwnMore
import Derived.Laws.CopyOwn
import Derived.Laws.MakeOwn
set_option linter.unusedVariables false
set_option linter.unusedSimpArgs false
namespace Go.Proofs.YtaeplneiicobgaaDoor
open Go.RowKit
attribute [local go_sem ↓ high] slice_frontG
end Go.Proofs.YtaeplneiicobgaaDoor
namespace Go.Proofs.YtaeplneiicobgaaDoor
open Go.RowKit
attribute [local go_sem ↓ high] slice_frontG
def kl : List Gly := [(97, 0), (19968, 0), (98, 0)]
end Go.Proofs.YtaeplneiicobgaaDoor
namespace Go.Proofs.YtaeplneiicobgaaDoor
open Go.RowKit
attribute [local go_sem ↓ high] slice_frontG
end Go.Proofs.YtaeplneiicobgaaDoor
namespace Go.Proofs.YtaeplneiicobgaaDoor
open Go.RowKit
/-- Does what stands there end with no blank? -/
def lastNB (b : Bool) (l : List Gly) : Bool := match l.getLast? with
  | none => b
  | some g => g.1 != 32
theorem lastNB_cons (b : Bool) (g : Gly) (l : List Gly) : lastNB b (g :: l) = lastNB (g.1 != 32) l := by
  unfold lastNB
  cases l with
  | nil => rfl
  | cons x l =>
    rw [List.getLast?_cons_cons]
    cases h : (x :: l).getLast? with
    | none => simp at h
    | some y => rfl
theorem sqA_app : ∀ (b : Bool) (P Q : List Gly), sqA b (P ++ Q) = sqA b P ++ sqA (lastNB b (sqA b P)) Q
  | b, [], Q => rfl
  | b, g :: P, Q => by
    rw [List.cons_append]
    by_cases hg : g.1 = 32
    · rw [sqA_blank b hg, sqA_blank b hg]
      cases b
      · simpa using sqA_app false P Q
      · rw [if_pos rfl, if_pos rfl, sqA_app false P Q, lastNB_cons]
        rfl
    · rw [sqA_other b hg, sqA_other b hg, sqA_app true P Q, lastNB_cons]
      have e : (g.1 != 32) = true := by simpa using hg
      rw [e]
      rfl
attribute [local go_sem ↓ high] builtin_appG
end Go.Proofs.YtaeplneiicobgaaDoor
namespace Go.Proofs.YtaeplneiicobgaaDoor
open Go.RowKit
end Go.Proofs.YtaeplneiicobgaaDoor
namespace Go.Proofs.YtaeplneiicobgaaDoor
open Go.RowKit
end Go.Proofs.YtaeplneiicobgaaDoor
namespace Go.Proofs.YtaeplneiicobgaaDoor
open Go.RowKit
end Go.Proofs.YtaeplneiicobgaaDoor
namespace Go.Proofs.YtaeplneiicobgaaDoor
open Go.RowKit
/-- Blocks of elements of type e, from base on, stand as they stood. -/
def SamT (e : TypeId) (base : Nat) (W W' : World) : Prop := ∀ g cur fz, base ≤ g → W.heap[g]? = some (.cells cur e fz) → W'.heap[g]? = some (.cells cur e fz)
theorem SamT.trans {e : TypeId} {base : Nat} {a b c : World} (h : SamT e base a b) (k : SamT e base b c) : SamT e base a c := fun g cur fz hb hg => k g cur fz hb (h g cur fz hb hg)
theorem SamT.below {e : TypeId} {base : Nat} {W W' : World} (h : Below W.heap.size W W') : SamT e base W W' := fun g _ _ _ hg => (h.block g (Array.getElem?_eq_some_iff.1 hg).1).trans hg
theorem SamT.grown {e e' : TypeId} {base : Nat} {W W' : World} {row : Option Nat} (h : W.grownBy W' row) (hr : ∀ g, row = some g → ∃ cur fz, W.heap[g]? = some (.cells cur e' fz)) (he : e ≠ e') : SamT e base W W' := by
  intro g cur fz _ hg
  rw [h.block g (Array.getElem?_eq_some_iff.1 hg).1 (fun e2 => by
    obtain ⟨cur', fz', h2⟩ := hr g e2.symm
    rw [hg] at h2
    injection h2 with h2
    injection h2 with _ h3
    exact he h3)]
  exact hg
theorem SamT.set {e e' : TypeId} {base g : Nat} {W : World} {L : List Value} (hb : Blk W g e' L) (he : e ≠ e') (j : Nat) (v : Value) : SamT e base W (W.setCell ⟨g, j, none⟩ v) := by
  intro g2 cur fz _ hg
  have hne : g2 ≠ g := fun e2 => by
    rw [e2] at hg
    have h1 : W.heap[g]? = some (.cells L.toArray e' (0, 0)) := hb
    rw [h1] at hg
    injection hg with hg
    injection hg with _ h3
    exact he h3.symm
  rw [Below.heap_setCell _ _ _ _ (fun e2 => hne e2)]
  exact hg
theorem FOwn.sam {α : Type} {e n : Nat} {f : α → List Value} {base : Nat} {W W' : World} {x : Value} {l : List α} (h : FOwn e n f base W x l) (hs : SamT e base W W') : FOwn e n f base W' x l := by
  refine ⟨h.1, ?_⟩
  rcases h.2 with hn | ⟨g, cap, cur, hx, hb, hgg, rest⟩
  · exact .inl hn
  · exact .inr ⟨g, cap, cur, hx, hb, hs g cur _ hb hgg, rest⟩
/-- One more, behind a row of one's own. -/
theorem fpush {α : Type} {P : Program} {W : World} {base t e n bytes : Nat} {f : α → List Value} {i0 : TypeInfo} {z : Value} (hf : ∀ x, (f x).length = n) (h1 : ∀ x, ∀ u ∈ f x, u.oneCell' = true) (hn : 0 < n)
    (ht : P.underlying t = some (.slice e)) (hi : P.info? e = some i0) (hz0 : i0.zero = some z) (hz1 : i0.size = n) (hz2 : i0.bytes = bytes) (hzs : z.cells.size = n) (hbt : bytes ≤ 1000)
    {x : Value} {l : List α} (h : FOwn e n f base W x l) (hb : base ≤ W.heap.size) (hl : l.length ≤ 500000) (y : α) :
    ∃ a' c' w', (Builtin.append_ #[t, t] t #[x, .slice (some ⟨W.heap.size, 0, none⟩) 1 1]).run P (W.alloc (.cells (f y).toArray e)) = .ok (.slice a' (l.length + 1) c') w' ∧ FOwn e n f base w' (.slice a' (l.length + 1) c') (l ++ [y]) ∧
      (W.alloc (.cells (f y).toArray e)).grownBy w' x.ownBlock ∧ (∀ g, x.ownBlock = some g → ∃ cur fz, (W.alloc (.cells (f y).toArray e)).heap[g]? = some (.cells cur e fz)) := by
  have b1 := below_lit W (.cells (f y).toArray e)
  have hu : Fs n f (W.alloc (.cells (f y).toArray e)) (.slice (some ⟨W.heap.size, 0, none⟩) 1 1) [y] := by
    have := fs_lit hf W e [y]
    rw [flatV_one] at this
    exact this
  obtain ⟨x', w', hr, ho, hg, -⟩ := fapp hf h1 hn ht hi hz0 hz1 hz2 hzs hbt (h.keep b1) hu (Nat.le_trans hb b1.size) (by simp; omega)
  obtain ⟨a', c', e'⟩ := (FOwn.sl hf ho).len
  have e2 : (l ++ [y]).length = l.length + 1 := by simp
  rw [e2] at e'
  subst e'
  refine ⟨a', c', w', hr, ho, hg, fun g hg' => ?_⟩
  obtain ⟨-, cur, hc⟩ := (h.keep b1).ty hg'
  exact ⟨cur, _, hc⟩
theorem infoSG : (Tryd.prog.info? 46).map (fun i => (i.zero, i.size, i.bytes)) = some (some (.slice none 0 0), 1, 24) := by kernel_rfl
theorem infoTR : (Tryd.prog.info? 49).map (fun i => (i.zero, i.size, i.bytes)) = some (some (.agg #[.bool false, .slice none 0 0]), 2, 32) := by kernel_rfl
noncomputable def appP (args : Array Value) : Sem Next := do pure (.value (← Builtin.append_ #[47, 47] 47 args))
theorem builtin_appP (cs : Array Bool) (args : Array Value) : builtin .append #[47, 47] 47 cs args = appP args := rfl
noncomputable def appW (args : Array Value) : Sem Next := do pure (.value (← Builtin.append_ #[34, 34] 34 args))
theorem builtin_appW (cs : Array Bool) (args : Array Value) : builtin .append #[34, 34] 34 cs args = appW args := rfl
/-- Cells that are made: a row of one's own, of rows of one's own. -/
structure CInv (base : Nat) (W : World) (v : Value) (l : List (List Gly)) : Prop where
  own : ∃ (L : List PV) (S : Nat → Prop), FOwn 46 1 pcell base W v L ∧ L.length = l.length ∧ (∀ b, S b → base ≤ b ∧ ∃ cur fz, W.heap[b]? = some (.cells cur 45 fz)) ∧
    ∀ (i : Nat) s r, L[i]? = some s → l[i]? = some r → FsS S 2 gcell W (pv s) r
theorem CInv.nil (base : Nat) (W : World) : CInv base W (.slice none 0 0) [] := ⟨⟨[], fun _ => False, FOwn.nil _ _, rfl, fun _ h => h.elim, fun i s r h => by simp at h⟩⟩
theorem CInv.sam {base : Nat} {W W' : World} {v : Value} {l : List (List Gly)} (h : CInv base W v l) (h1 : SamT 46 base W W') (h2 : SamT 45 base W W') : CInv base W' v l := by
  obtain ⟨L, S, hL, hl, hS, hE⟩ := h.own
  have hk : Kp S W W' := fun b hb => by
    obtain ⟨q1, cur, fz, q2⟩ := hS b hb
    rw [h2 b cur fz q1 q2, q2]
  exact ⟨⟨L, S, hL.sam h1, hl, fun b hb => by
    obtain ⟨q1, cur, fz, q2⟩ := hS b hb
    exact ⟨q1, cur, fz, h2 b cur fz q1 q2⟩, fun i s r a b => (hE i s r a b).keep hk⟩⟩
theorem CInv.len {base : Nat} {W : World} {v : Value} {l : List (List Gly)} (h : CInv base W v l) : ∃ a cap, v = .slice a l.length cap := by
  obtain ⟨L, S, hL, hl, -, -⟩ := h.own
  obtain ⟨a, cap, e⟩ := (FOwn.sl pcell_len hL).len
  exact ⟨a, cap, hl ▸ e⟩
/-- As it reads. -/
theorem own_foot {α : Type} {e n : Nat} {f : α → List Value} {base : Nat} {W : World} {x : Value} {l : List α} (hf : ∀ x, (f x).length = n) (h : FOwn e n f base W x l) : FsS (fun b => base ≤ b ∧ ∃ cur fz, W.heap[b]? = some (.cells cur e fz)) n f W x l := by
  refine ⟨FOwn.sl hf h, fun a k c e1 hk => ?_⟩
  subst e1
  rcases h.2 with ⟨hn, -⟩ | ⟨g, cap, cur, hx, hb, hgg, -⟩
  · injection hn with e1 e2 e3
    cases e1
  · injection hx with e1 e2 e3
    injection e1 with e1
    subst e1
    exact ⟨⟨hb, cur, _, hgg⟩, fun _ i _ => by simp [World.frozen?, hgg]⟩
theorem CInv.grs {base : Nat} {W : World} {v : Value} {l : List (List Gly)} (h : CInv base W v l) :
    GrS (fun b => base ≤ b ∧ ∃ cur e fz, W.heap[b]? = some (.cells cur e fz) ∧ (e = 46 ∨ e = 45)) W v l := by
  obtain ⟨L, S, hL, hl, hS, hE⟩ := h.own
  refine ⟨L, hl, (own_foot pcell_len hL).mono fun b hb => ?_, fun i s r a b => (hE i s r a b).mono fun x hx => ?_⟩
  · obtain ⟨q1, cur, fz, q2⟩ := hb
    exact ⟨q1, cur, _, fz, q2, .inl rfl⟩
  · obtain ⟨q1, cur, fz, q2⟩ := hS x hx
    exact ⟨q1, cur, _, fz, q2, .inr rfl⟩
/-- A cell more. -/
theorem CInv.push {base : Nat} {W : World} {v : Value} {l : List (List Gly)} (h : CInv base W v l) (hb : base ≤ W.heap.size) (hl : l.length ≤ 500000) (s : PV) (r : List Gly) (hs : FsS (fun b => base ≤ b ∧ ∃ cur fz, W.heap[b]? = some (.cells cur 45 fz)) 2 gcell W (pv s) r) :
    ∃ a' c' w', (appP #[v, .slice (some ⟨W.heap.size, 0, none⟩) 1 1]).run Tryd.prog (W.alloc (.cells #[pv s] 46)) = .ok (.value (.slice a' (l.length + 1) c')) w' ∧ CInv base w' (.slice a' (l.length + 1) c') (l ++ [r]) ∧ Below base W w' ∧
      ∀ e, e ≠ 46 → SamT e base W w' := by
  obtain ⟨L, S, hL, hLl, hS, hE⟩ := h.own
  obtain ⟨i0, hi, hz0, hz1, hz2⟩ := info_parts infoSG
  obtain ⟨a', c', w', hr, ho, hg, hty⟩ := fpush (P := Tryd.prog) (t := 47) pcell_len pcell_one (by decide) Tryd.underlying47 hi hz0 hz1 hz2 rfl (by decide) hL hb (by omega) s
  have b1 := below_lit W (.cells (pcell s).toArray 46)
  have sam : ∀ e, e ≠ 46 → SamT e base W w' := fun e he => (SamT.below b1).trans (SamT.grown hg hty he)
  have sg := sam 45 (by decide)
  have kpw : ∀ (T : Nat → Prop), (∀ b, T b → base ≤ b ∧ ∃ cur fz, W.heap[b]? = some (.cells cur 45 fz)) → Kp T W w' ∧ ∀ b, T b → base ≤ b ∧ ∃ cur fz, w'.heap[b]? = some (.cells cur 45 fz) := fun T hT =>
    ⟨fun b hb => by
      obtain ⟨q1, cur, fz, q2⟩ := hT b hb
      rw [sg b cur fz q1 q2, q2], fun b hb => by
      obtain ⟨q1, cur, fz, q2⟩ := hT b hb
      exact ⟨q1, cur, fz, sg b cur fz q1 q2⟩⟩
  obtain ⟨k1, t1⟩ := kpw S hS
  obtain ⟨k2, t2⟩ := kpw _ (fun b hb => hb)
  rw [hLl] at hr ho
  refine ⟨a', c', w', ?_, ⟨⟨L ++ [s], fun b => S b ∨ (base ≤ b ∧ ∃ cur fz, W.heap[b]? = some (.cells cur 45 fz)), ho, by simp [hLl], fun b hb => ?_, fun i x y hx hy => ?_⟩⟩, ?_, sam⟩
  · unfold appP
    simp only [Sem.run_bind, Sem.run_pure, Result.andThen_ok]
    rw [show (#[pv s] : Array Value) = (pcell s).toArray from rfl, hr]
    rfl
  · rcases hb with hb | hb
    · exact t1 b hb
    · exact t2 b hb
  · by_cases hil : i < l.length
    · rw [List.getElem?_append_left (by omega)] at hx hy
      exact ((hE i x y hx hy).keep k1).mono fun b hb => .inl hb
    · have : i = l.length := by
        have := (List.getElem?_eq_some_iff.1 hy).1
        simp at this
        omega
      subst this
      rw [List.getElem?_append_right (by omega), hLl, Nat.sub_self] at hx
      rw [List.getElem?_append_right (by omega), Nat.sub_self] at hy
      simp at hx hy
      subst hx hy
      exact (hs.keep k2).mono fun b hb => .inr hb
  · exact (hL.keep b1).below (b1.mono hb) (Nat.le_trans hb b1.size) hg
/-- Rows of a table that are made. -/
structure WInv (base : Nat) (W : World) (v : Value) (l : List Trow) : Prop where
  own : ∃ (L : List (Bool × PV)) (S : Nat → Prop), FOwn 49 2 trcell base W v L ∧ L.length = l.length ∧ (∀ b, S b → base ≤ b ∧ ∃ cur e fz, W.heap[b]? = some (.cells cur e fz) ∧ (e = 46 ∨ e = 45)) ∧
    ∀ (i : Nat) s r, L[i]? = some s → l[i]? = some r → s.1 = r.1 ∧ GrS S W (pv s.2) r.2
theorem WInv.nil (base : Nat) (W : World) : WInv base W (.slice none 0 0) [] := ⟨⟨[], fun _ => False, FOwn.nil _ _, rfl, fun _ h => h.elim, fun i s r h => by simp at h⟩⟩
theorem WInv.len {base : Nat} {W : World} {v : Value} {l : List Trow} (h : WInv base W v l) : ∃ a cap, v = .slice a l.length cap := by
  obtain ⟨L, S, hL, hl, -, -⟩ := h.own
  obtain ⟨a, cap, e⟩ := (FOwn.sl trcell_len hL).len
  exact ⟨a, cap, hl ▸ e⟩
theorem kp_two {base : Nat} {W W' : World} {S : Nat → Prop} (hS : ∀ b, S b → base ≤ b ∧ ∃ cur e fz, W.heap[b]? = some (.cells cur e fz) ∧ (e = 46 ∨ e = 45)) (h1 : SamT 46 base W W') (h2 : SamT 45 base W W') :
    Kp S W W' ∧ ∀ b, S b → base ≤ b ∧ ∃ cur e fz, W'.heap[b]? = some (.cells cur e fz) ∧ (e = 46 ∨ e = 45) := by
  have key : ∀ b, S b → W'.heap[b]? = W.heap[b]? := fun b hb => by
    obtain ⟨q1, cur, e, fz, q2, q3⟩ := hS b hb
    rcases q3 with rfl | rfl
    · rw [h1 b cur fz q1 q2, q2]
    · rw [h2 b cur fz q1 q2, q2]
  refine ⟨key, fun b hb => ?_⟩
  obtain ⟨q1, cur, e, fz, q2, q3⟩ := hS b hb
  exact ⟨q1, cur, e, fz, by rw [key b hb, q2], q3⟩
/-- What holds besides its own block's being kept. -/
theorem WInv.held {base : Nat} {W W' : World} {v : Value} {l : List Trow} (h : WInv base W v l) (ho : ∀ L, FOwn 49 2 trcell base W v L → FOwn 49 2 trcell base W' v L) (h1 : SamT 46 base W W') (h2 : SamT 45 base W W') : WInv base W' v l := by
  obtain ⟨L, S, hL, hl, hS, hE⟩ := h.own
  obtain ⟨k1, t1⟩ := kp_two hS h1 h2
  exact ⟨⟨L, S, ho L hL, hl, t1, fun i s r a b => ⟨(hE i s r a b).1, (hE i s r a b).2.keep k1⟩⟩⟩
theorem WInv.sam {base : Nat} {W W' : World} {v : Value} {l : List Trow} (h : WInv base W v l) (h0 : SamT 49 base W W') (h1 : SamT 46 base W W') (h2 : SamT 45 base W W') : WInv base W' v l := h.held (fun L hL => hL.sam h0) h1 h2
theorem WInv.keep {base : Nat} {W W' : World} {v : Value} {l : List Trow} (h : WInv base W v l) (hb : Below W.heap.size W W') : WInv base W' v l := h.sam (SamT.below hb) (SamT.below hb) (SamT.below hb)
theorem WInv.trs {base : Nat} {W : World} {v : Value} {l : List Trow} (h : WInv base W v l) : TrS (fun b => base ≤ b ∧ b < W.heap.size) W v l := by
  obtain ⟨L, S, hL, hl, hS, hE⟩ := h.own
  refine ⟨L, hl, (own_foot trcell_len hL).mono fun b hb => ?_, fun i s r a b => ⟨(hE i s r a b).1, (hE i s r a b).2.mono fun x hx => ?_⟩⟩
  · obtain ⟨q1, cur, fz, q2⟩ := hb
    exact ⟨q1, (Array.getElem?_eq_some_iff.1 q2).1⟩
  · obtain ⟨q1, cur, e, fz, q2, -⟩ := hS x hx
    exact ⟨q1, (Array.getElem?_eq_some_iff.1 q2).1⟩
/-- A row more. -/
theorem WInv.push {base : Nat} {W : World} {v : Value} {l : List Trow} (h : WInv base W v l) (hb : base ≤ W.heap.size) (hl : l.length ≤ 500000) (b : Bool) (s : PV) (r : List (List Gly))
    (hs : GrS (fun b => base ≤ b ∧ ∃ cur e fz, W.heap[b]? = some (.cells cur e fz) ∧ (e = 46 ∨ e = 45)) W (pv s) r) :
    ∃ a' c' w', (appW #[v, .slice (some ⟨W.heap.size, 0, none⟩) 1 1]).run Tryd.prog (W.alloc (.cells #[.bool b, pv s] 49)) = .ok (.value (.slice a' (l.length + 1) c')) w' ∧ WInv base w' (.slice a' (l.length + 1) c') (l ++ [(b, r)]) ∧ Below base W w' ∧
      ∀ e, e ≠ 49 → SamT e base W w' := by
  obtain ⟨L, S, hL, hLl, hS, hE⟩ := h.own
  obtain ⟨i0, hi, hz0, hz1, hz2⟩ := info_parts infoTR
  obtain ⟨a', c', w', hr, ho, hg, hty⟩ := fpush (P := Tryd.prog) (t := 34) trcell_len trcell_one (by decide) Tryd.underlying34 hi hz0 hz1 hz2 rfl (by decide) hL hb (by omega) (b, s)
  have b1 := below_lit W (.cells (trcell (b, s)).toArray 49)
  have sam : ∀ e, e ≠ 49 → SamT e base W w' := fun e he => (SamT.below b1).trans (SamT.grown hg hty he)
  obtain ⟨k1, t1⟩ := kp_two hS (sam _ (by decide)) (sam _ (by decide))
  obtain ⟨k2, t2⟩ := kp_two (S := fun b => base ≤ b ∧ ∃ cur e fz, W.heap[b]? = some (.cells cur e fz) ∧ (e = 46 ∨ e = 45)) (fun b hb => hb) (sam _ (by decide)) (sam _ (by decide))
  rw [hLl] at hr ho
  refine ⟨a', c', w', ?_, ⟨⟨L ++ [(b, s)], fun b => S b ∨ (base ≤ b ∧ ∃ cur e fz, W.heap[b]? = some (.cells cur e fz) ∧ (e = 46 ∨ e = 45)), ho, by simp [hLl], fun b hb => ?_, fun i x y hx hy => ?_⟩⟩, ?_, sam⟩
  · unfold appW
    simp only [Sem.run_bind, Sem.run_pure, Result.andThen_ok]
    rw [show (#[.bool b, pv s] : Array Value) = (trcell (b, s)).toArray from rfl, hr]
    rfl
  · rcases hb with hb | hb
    · exact t1 b hb
    · exact t2 b hb
  · by_cases hil : i < l.length
    · rw [List.getElem?_append_left (by omega)] at hx hy
      exact ⟨(hE i x y hx hy).1, ((hE i x y hx hy).2.keep k1).mono fun b hb => .inl hb⟩
    · have : i = l.length := by
        have := (List.getElem?_eq_some_iff.1 hy).1
        simp at this
        omega
      subst this
      rw [List.getElem?_append_right (by omega), hLl, Nat.sub_self] at hx
      rw [List.getElem?_append_right (by omega), Nat.sub_self] at hy
      simp at hx hy
      subst hx hy
      exact ⟨rfl, (hs.keep k2).mono fun b hb => .inr hb⟩
  · exact (hL.keep b1).below (b1.mono hb) (Nat.le_trans hb b1.size) hg
end Go.Proofs.YtaeplneiicobgaaDoor
namespace Go.Proofs.YtaeplneiicobgaaDoor
open Go.RowKit
attribute [local go_sem ↓ high] binop_eqT binop_neqT builtin_appP builtin_appW
theorem Blk.sam {W W' : World} {g e base : Nat} {L : List Value} (h : Blk W g e L) (hb : base ≤ g) (hs : SamT e base W W') : Blk W' g e L := hs g _ _ hb h
theorem Blk.other {W : World} {g e g' : Nat} {L : List Value} (h : Blk W g e L) (hne : g ≠ g') (j : Nat) (v : Value) : Blk (W.setCell ⟨g', j, none⟩ v) g e L := by
  show (W.setCell ⟨g', j, none⟩ v).heap[g]? = _
  rw [Below.heap_setCell _ _ _ _ (fun e2 => hne e2)]
  exact h
section
variable {w W W' : World} {cols C : List UInt8} {rv v : Value} {gb ga al : Bool} {rows : List Trow}
end
section
variable {wo W W' : World} {x : Bool} {v : Value} {cells : List (List Gly)}
end
end Go.Proofs.YtaeplneiicobgaaDoor
namespace Go.Proofs.YtaeplneiicobgaaDoor
open Go.RowKit
attribute [local go_sem ↓ high] binop_eqT binop_neqT builtin_appP builtin_appW
end Go.Proofs.YtaeplneiicobgaaDoor
namespace Go.Proofs.YtaeplneiicobgaaDoor
open Go.RowKit
/-- 'min' of two numbers, kept whole. -/
noncomputable def mnS (args : Array Value) : Sem Next := do pure (.value (← Builtin.min_ #[3, 3] 3 args))
theorem builtin_mnS (cs : Array Bool) (args : Array Value) : builtin .min #[3, 3] 3 cs args = mnS args := rfl
theorem mnS_run (x y z : Int) (hz : (if y < x then y else x) = z) (w : World) : (mnS #[.int .i64 x, .int .i64 y]).run Tryd.prog w = .ok (.value (.int .i64 z)) w := by
  unfold mnS
  simp only [Sem.run_bind, Sem.run_pure, run_min_int2, Result.andThen_ok, hz]
section
variable {w W W' : World} {x y y' : NV}
end
end Go.Proofs.YtaeplneiicobgaaDoor
namespace Go.Proofs.YtaeplneiicobgaaDoor
open Go.RowKit
attribute [local go_sem ↓ high] builtin_mnS
theorem szset (W : World) (a : Addr) (v : Value) : (W.setCell a v).heap.size = W.heap.size := by simp [World.setCell]
end Go.Proofs.YtaeplneiicobgaaDoor
namespace Go.Proofs.YtaeplneiicobgaaDoor
open Go.RowKit
theorem below_two (w : World) (a b : Obj) : Below w.heap.size w ((w.alloc a).alloc b) := ((Below.refl _ w).alloc (Nat.le_refl _) _).alloc (by simp) _
theorem blk_second (w : World) (a : Obj) (L : List Value) (e : TypeId) : Blk ((w.alloc a).alloc (.cells L.toArray e)) (w.heap.size + 1) e L := by
  have := heap_alloc_new (w.alloc a) (.cells L.toArray e)
  have e1 : (w.alloc a).heap.size = w.heap.size + 1 := by simp
  rw [e1] at this
  exact this
noncomputable def appZ (args : Array Value) : Sem Next := do pure (.value (← Builtin.append_ #[46, 3] 46 args))
theorem builtin_appZ (cs : Array Bool) (args : Array Value) : builtin .append #[46, 3] 46 cs args = appZ args := rfl
theorem front_zero (a : Option Addr) (l c : Nat) (W : World) : (frontG (.slice a l c) (.int .i64 0)).run Tryd.prog W = .ok (.slice a 0 c) W := by
  obtain ⟨i0, hi, hz0, hz1, hz2⟩ := info_parts infoG
  unfold frontG
  simp [Instr.slice, Instr.sliceBounds, Instr.sliceBound, asIntOf, run_underlying Tryd.underlying46, sizeOf, typeInfo, hi]
  intro _
  cases a <;> rfl
theorem appZ_run (W : World) (n : Nat) (h0 : 0 < n) (hn : n ≤ 1000000) : ∃ G C, n ≤ G ∧ G ≤ maxLen ∧ C.size = G * 2 ∧ (appZ #[.slice none 0 0, .int .i64 (n : Int)]).run Tryd.prog W = .ok (.value (.slice (some ⟨W.heap.size, 0, none⟩) n G)) (W.drew.alloc (.cells C 45)) := by
  obtain ⟨i0, hi, hz0, hz1, hz2⟩ := info_parts infoG
  have h := Lib.run_append_grow_zeros (P := Tryd.prog) W 46 3 46 45 i0 _ .i64 .i64 Tryd.underlying46 Tryd.underlying3 hi hz0 none 0 0 [] (run_firstCells_none _ _ _ _ _) n h0 (by rw [hz1]; decide) (by omega) (by omega) (by rw [hz2]; omega) (growslice_fits (by omega) (by rw [hz2]; omega))
  have hg := grownCap_ge W (0 + n) 0 45
  have hm := grownCap_le_maxLen W (0 + n) 0 45 (by unfold maxLen; omega)
  simp only [Nat.zero_add] at h hg hm
  have e : (Value.agg #[Value.int .i32 0, Value.int .u8 0]).cells = #[.int .i32 0, .int .u8 0] := rfl
  rw [e] at h
  obtain ⟨C, hC⟩ : ∃ C, ([] : List Value).toArray ++ Builtin.zeroCells #[Value.int .i32 0, .int .u8 0] n ++ Builtin.zeroCells #[Value.int .i32 0, .int .u8 0] (grownCap W n 0 45 - n) = C := ⟨_, rfl⟩
  rw [hC] at h
  refine ⟨grownCap W n 0 45, C, hg, hm, ?_, ?_⟩
  · rw [← hC]
    simp [Builtin.zeroCells]
    omega
  · unfold appZ
    simp only [Sem.run_bind, Sem.run_pure, Result.andThen_ok, h]
attribute [local go_sem ↓ high] slice_frontG builtin_appZ
set_option maxRecDepth 100000 in
set_option maxHeartbeats 1000000 in
theorem grow_nil (n : Nat) (hn : n ≤ 1000000) (w : World) :
    Calls Tryd.prog 95 #[.slice none 0 0, .int .i64 (n : Int)] w fun e w' => ∃ u, e = .returned u ∧ GOwn w.heap.size w' u [] ∧ Below w.heap.size w w' := by
  by_cases h0 : n = 0
  · subst h0
    go_enter Tryd.func95, Tryd.ntmps95
    go_wp2_with fail
    go_ret
    exact ⟨_, rfl, FOwn.nil _ _, Below.refl _ _⟩
  · have hp : (0 : Int) < (n : Int) := by omega
    have hn0 : (n : Int) ≤ 1000000 := by omega
    obtain ⟨G, C, hG, hGm, hC, k1⟩ := appZ_run w n (by omega) hn
    have f1 : ∀ W : World, (frontG (.slice none 0 0) (.int .i64 0)).run Tryd.prog W = .ok (.slice none 0 0) W := fun W => front_zero none 0 0 W
    have f2 : ∀ W : World, (frontG (.slice (some ⟨w.heap.size, 0, none⟩) n G) (.int .i64 0)).run Tryd.prog W = .ok (.slice (some ⟨w.heap.size, 0, none⟩) 0 G) W := fun W => front_zero _ n G W
    have HO : Hid (GOwn w.heap.size (w.drew.alloc (.cells C 45)) (.slice (some ⟨w.heap.size, 0, none⟩) 0 G) []) := Lib.hid (World.ownsRow_made w.drew C G (Nat.le_refl _) hGm hC)
    have HB := Lib.hid ((Below.refl w.heap.size w).drew.alloc (Nat.le_refl _) (.cells C 45))
    clear h0 hG hGm hC
    go_enter Tryd.func95, Tryd.ntmps95
    go_wp2_with fail
    go_ret
    exact ⟨_, rfl, HO.out, HB.out⟩
attribute [local go_sem ↓ high] builtin_appG
set_option maxRecDepth 100000 in
set_option maxHeartbeats 2000000 in
theorem concat3_any (a b c : List Gly) (v1 v2 v3 : Value) (g : Nat) (w : World) (c0 : w.cell? ⟨g, 0, none⟩ = some v1) (c1 : w.cell? ⟨g, 1, none⟩ = some v2) (c2 : w.cell? ⟨g, 2, none⟩ = some v3) (h1 : Gs w v1 a) (h2 : Gs w v2 b) (h3 : Gs w v3 c) (hl : a.length + b.length + c.length ≤ 400000) :
    Calls Tryd.prog 84 #[.slice (some ⟨g, 0, none⟩) 3 3] w fun e w' => ∃ u, e = .returned u ∧ GOwn w.heap.size w' u (a ++ b ++ c) ∧ Below w.heap.size w w' := by
  have H1 := Lib.hid h1
  have H2 := Lib.hid h2
  have H3 := Lib.hid h3
  obtain ⟨a1, k1, rfl⟩ := h1.len
  obtain ⟨a2, k2, rfl⟩ := h2.len
  obtain ⟨a3, k3, rfl⟩ := h3.len
  have hg := World.block_lt_of_cell? w _ c0
  simp only at hg
  have HG := Lib.hid (grow_nil (a.length + b.length + c.length) (by omega))
  have ha0 : (0 : Int) ≤ (a.length : Int) := by omega
  have ha1 : (a.length : Int) ≤ 400000 := by omega
  have hb0 : (0 : Int) ≤ (b.length : Int) := by omega
  have hb1 : (b.length : Int) ≤ 400000 := by omega
  have hc0 : (0 : Int) ≤ (c.length : Int) := by omega
  have hc1 : (c.length : Int) ≤ 400000 := by omega
  clear h1 h2 h3
  go_enter Tryd.func84, Tryd.ntmps84
  go_wp2_with fail
  go_loopw [3, 11] (fun s i wr => wr = w ∧ ((i = .int .i64 0 ∧ s = .int .i64 0) ∨ (i = .int .i64 1 ∧ s = .int .i64 (a.length : Int)) ∨ (i = .int .i64 2 ∧ s = .int .i64 ((a.length : Int) + (b.length : Int))) ∨ (i = .int .i64 3 ∧ s = .int .i64 ((a.length : Int) + (b.length : Int) + (c.length : Int))))) (fun _ i _ => 4 - (intOf i).toNat)
  case atStart => exact ⟨rfl, .inl ⟨rfl, rfl⟩⟩
  case round =>
    obtain ⟨rfl, hcase⟩ := hrel
    rcases hcase with ⟨rfl, rfl⟩ | ⟨rfl, rfl⟩ | ⟨rfl, rfl⟩ | ⟨rfl, rfl⟩
    · go_wp2_with fail
      go_roundw
      case rel => exact ⟨by first | trivial | rfl, .inr (.inl ⟨by first | trivial | rfl, by first | trivial | rfl⟩)⟩
      case measure => simp [intOf]
    · go_wp2_with fail
      go_roundw
      case rel => exact ⟨by first | trivial | rfl, .inr (.inr (.inl ⟨by first | trivial | rfl, by first | trivial | rfl⟩))⟩
      case measure => simp [intOf]
    · go_wp2_with fail
      go_roundw
      case rel => exact ⟨by first | trivial | rfl, .inr (.inr (.inr ⟨by first | trivial | rfl, by first | trivial | rfl⟩))⟩
      case measure => simp [intOf]
    · go_wp2_with fail
      refine (HG.out _).mono ?_
      rintro e w1 ⟨u, rfl, o1, b1⟩
      have z1 := b1.size
      have q0 := (b1.cell (p := ⟨g, 0, none⟩) hg).trans c0
      have q1 := (b1.cell (p := ⟨g, 1, none⟩) hg).trans c1
      have q2 := (b1.cell (p := ⟨g, 2, none⟩) hg).trans c2
      obtain ⟨x1, w2, j1, o2, g2, -⟩ := appG_own o1 (Fs.below H1.out b1) z1 (by simp; omega)
      rw [List.nil_append] at o2
      have b2 := o1.below b1 z1 g2
      obtain ⟨x2, w3, j2, o3, g3, -⟩ := appG_own o2 (Fs.below H2.out b2) b2.size (by omega)
      have b3 := o2.below b2 b2.size g3
      obtain ⟨x3, w4, j3, o4, g4, -⟩ := appG_own o3 (Fs.below H3.out b3) b3.size (by rw [List.length_append]; omega)
      have O4 := Lib.hid o4
      have B4 := Lib.hid (o3.below b3 b3.size g4)
      have r0 := (b2.cell (p := ⟨g, 0, none⟩) hg).trans c0
      have r1 := (b2.cell (p := ⟨g, 1, none⟩) hg).trans c1
      have r2 := (b2.cell (p := ⟨g, 2, none⟩) hg).trans c2
      have s0 := (b3.cell (p := ⟨g, 0, none⟩) hg).trans c0
      have s1 := (b3.cell (p := ⟨g, 1, none⟩) hg).trans c1
      have s2 := (b3.cell (p := ⟨g, 2, none⟩) hg).trans c2
      clear o1 b1 o2 g2 b2 o3 g3 o4 g4 b3 HG
      go_wp2_with fail
      go_loopw [6, 27] (fun s i wr => (i = .int .i64 0 ∧ s = u ∧ wr = w1) ∨ (i = .int .i64 1 ∧ s = x1 ∧ wr = w2) ∨ (i = .int .i64 2 ∧ s = x2 ∧ wr = w3) ∨ (i = .int .i64 3 ∧ s = x3 ∧ wr = w4)) (fun _ i _ => 4 - (intOf i).toNat)
      case atStart => exact .inl ⟨rfl, rfl, rfl⟩
      case round =>
        rcases hrel with ⟨rfl, rfl, rfl⟩ | ⟨rfl, rfl, rfl⟩ | ⟨rfl, rfl, rfl⟩ | ⟨rfl, rfl, rfl⟩
        · go_wp2_with fail
          go_roundw
          case rel => exact .inr (.inl ⟨by first | trivial | rfl, by first | trivial | rfl, by first | trivial | rfl⟩)
          case measure => simp [intOf]
        · go_wp2_with fail
          go_roundw
          case rel => exact .inr (.inr (.inl ⟨by first | trivial | rfl, by first | trivial | rfl, by first | trivial | rfl⟩))
          case measure => simp [intOf]
        · go_wp2_with fail
          go_roundw
          case rel => exact .inr (.inr (.inr ⟨by first | trivial | rfl, by first | trivial | rfl, by first | trivial | rfl⟩))
          case measure => simp [intOf]
        · go_wp2_with fail
          go_ret
          exact ⟨_, rfl, O4.out, B4.out⟩
theorem jn_nil (a : List Gly) : jn [] a = a := rfl
theorem jn_nil' (a : List Gly) : jn a [] = a := by
  unfold jn
  split
  · rename_i h; rw [h]
  · rfl
theorem jn_assoc (a b c : List Gly) : jn (jn a b) c = jn a (jn b c) := by
  by_cases ha : a = []
  · rw [ha, jn_nil, jn_nil]
  · by_cases hb : b = []
    · rw [hb, jn_nil, jn_nil']
    · by_cases hc : c = []
      · rw [hc, jn_nil', jn_nil']
      · unfold jn
        rw [if_neg ha, if_neg hb, if_neg (by simp), if_neg hc, if_neg hb, if_neg ha, if_neg hc, if_neg (by simp)]
        simp
set_option maxRecDepth 100000 in
set_option maxHeartbeats 2000000 in
theorem sjoin_any (a b : List Gly) (v u : Value) (w : World) (hv : Gs w v a) (hu : Gs w u b) (hl : a.length + b.length ≤ 100000) :
    Calls Tryd.prog 71 #[v, u] w fun e w' => ∃ x, e = .returned x ∧ GOwn w.heap.size w' x (jn a b) ∧ Below w.heap.size w w' := by
  obtain ⟨aa, ca, rfl⟩ := hv.len
  obtain ⟨ab, cb, rfl⟩ := hu.len
  by_cases ha : a = []
  · have e : jn a b = b := by rw [ha]; rfl
    rw [e]
    have HC := Lib.hid (cloneg_any b _ w hu (by omega))
    subst ha
    clear hv hu e
    simp only [List.length_nil]
    go_enter Tryd.func71, Tryd.ntmps71
    go_wp2_with fail
    refine HC.out.mono ?_
    rintro e w1 ⟨x, rfl, o1, b1⟩
    have O1 := Lib.hid o1
    have B1 := Lib.hid b1
    clear o1 b1 HC
    go_wp2_with fail
    go_ret
    exact ⟨_, rfl, O1.out, B1.out⟩
  · have hal : 0 < a.length := List.length_pos_iff.2 ha
    have ha0 : ¬ (a.length : Int) = 0 := by omega
    by_cases hb : b = []
    · have e : jn a b = a := by rw [hb]; exact jn_nil' a
      rw [e]
      have HC := Lib.hid (cloneg_any a _ w hv (by omega))
      subst hb
      clear hv hu e ha hal
      simp only [List.length_nil]
      go_enter Tryd.func71, Tryd.ntmps71
      go_wp2_with fail
      refine HC.out.mono ?_
      rintro e w1 ⟨x, rfl, o1, b1⟩
      have O1 := Lib.hid o1
      have B1 := Lib.hid b1
      clear o1 b1 HC
      go_wp2_with fail
      go_ret
      exact ⟨_, rfl, O1.out, B1.out⟩
    · have hbl : 0 < b.length := List.length_pos_iff.2 hb
      have hb0 : ¬ (b.length : Int) = 0 := by omega
      have e : jn a b = a ++ [(32, 0)] ++ b := by unfold jn; rw [if_neg ha, if_neg hb]
      rw [e]
      have bl := below_lit w (.cells #[.int .i32 32, .int .u8 0] 45)
      have g2 : Gs (w.alloc (.cells #[.int .i32 32, .int .u8 0] 45)) (.slice (some ⟨w.heap.size, 0, none⟩) 1 1) [(32, 0)] := fs_lit gcell_len w 45 [(32, 0)]
      have bl2 := below_lit (w.alloc (.cells #[.int .i32 32, .int .u8 0] 45)) (.cells #[.slice aa a.length ca, .slice (some ⟨w.heap.size, 0, none⟩) 1 1, .slice ab b.length cb] 46)
      have hbk : Blk ((w.alloc (.cells #[.int .i32 32, .int .u8 0] 45)).alloc (.cells #[.slice aa a.length ca, .slice (some ⟨w.heap.size, 0, none⟩) 1 1, .slice ab b.length cb] 46)) (w.heap.size + 1) 46 [.slice aa a.length ca, .slice (some ⟨w.heap.size, 0, none⟩) 1 1, .slice ab b.length cb] := blk_second w _ [.slice aa a.length ca, .slice (some ⟨w.heap.size, 0, none⟩) 1 1, .slice ab b.length cb] _
      have hb2 := below_two w (.cells #[.int .i32 32, .int .u8 0] 45) (.cells #[.slice aa a.length ca, .slice (some ⟨w.heap.size, 0, none⟩) 1 1, .slice ab b.length cb] 46)
      have HC := Lib.hid (concat3_any a [(32, 0)] b _ _ _ (w.heap.size + 1) _ (hbk.cell 0) (hbk.cell 1) (hbk.cell 2) (Fs.below hv hb2) (Fs.below g2 bl2) (Fs.below hu hb2) (by simp; omega))
      have HB := Lib.hid hb2
      clear hv hu e ha hal hb hbl bl g2 bl2 hbk hb2
      go_enter Tryd.func71, Tryd.ntmps71
      go_wp2_with fail
      refine HC.out.mono ?_
      rintro e w1 ⟨x, rfl, o1, b1⟩
      have O1 := Lib.hid (FOwn.mono (base' := w.heap.size) o1 HB.out.size)
      have B1 := Lib.hid (HB.out.trans (b1.mono HB.out.size))
      clear o1 b1 HC
      go_wp2_with fail
      go_ret
      exact ⟨_, rfl, O1.out, B1.out⟩
end Go.Proofs.YtaeplneiicobgaaDoor
namespace Go.Proofs.YtaeplneiicobgaaDoor
open Go.RowKit
def endB (l : List Gly) : Bool := match l.getLast? with
  | none => false
  | some g => g.1 == 32
/-- Is a blank due ahead of the next glyph? -/
def due (l : List Gly) : Bool := endB l && !(sqz l).isEmpty
theorem endB_snoc (l : List Gly) (g : Gly) : endB (l ++ [g]) = (g.1 == 32) := by simp [endB]
theorem trm_blank {g : Gly} (h : g.1 = 32) : ∀ l : List Gly, trm (l ++ [g]) = trm l
  | [] => by simp [trm, h]
  | x :: l => by
    rw [List.cons_append, trm_cons, trm_blank h l, trm_cons]
theorem trm_other {g : Gly} (h : g.1 ≠ 32) : ∀ l : List Gly, trm (l ++ [g]) = l ++ [g]
  | [] => by simp [trm, h]
  | x :: l => by
    rw [List.cons_append, trm_cons, trm_other h l, if_neg (fun k => by simp at k)]
theorem sqz_blank {g : Gly} (h : g.1 = 32) (l : List Gly) : sqz (l ++ [g]) = sqz l := by unfold sqz; rw [trm_blank h]
theorem sqA_dueN : ∀ (n : Nat) (l : List Gly), l.length = n → sqA false l = sqz l ++ (if due l then [(32, 0)] else [])
  | 0, l, h => by
    rw [List.eq_nil_of_length_eq_zero h]
    rfl
  | n + 1, l, h => by
    rcases List.eq_nil_or_concat l with rfl | ⟨Q, b, rfl⟩
    · rfl
    rw [List.concat_eq_append] at h ⊢
    have ih := sqA_dueN n Q (by simpa using h)
    unfold due
    rw [endB_snoc]
    by_cases hb : b.1 = 32
    · rw [sqz_blank hb, sqA_app, sqA_blank _ hb]
      have e1 : (b.1 == 32) = true := by simpa using hb
      rw [e1, Bool.true_and]
      have e0 : sqA false [] = [] := rfl
      rw [e0]
      by_cases hd : due Q = true
      · rw [if_pos hd] at ih
        have hne : (!(sqz Q).isEmpty) = true := by unfold due at hd; rw [Bool.and_eq_true] at hd; exact hd.2
        rw [ih, hne]
        simp [lastNB]
      · rw [if_neg hd, List.append_nil] at ih
        rw [ih]
        by_cases hq : sqz Q = []
        · rw [hq]; rfl
        · have hne : (!(sqz Q).isEmpty) = true := by simpa using hq
          rw [hne]
          have hend : endB Q = false := by
            unfold due at hd
            rw [hne, Bool.and_true] at hd
            simpa using hd
          have hl : lastNB false (sqz Q) = true := by
            rcases List.eq_nil_or_concat Q with rfl | ⟨R, c, rfl⟩
            · exact absurd rfl hq
            · rw [List.concat_eq_append] at hend ih ⊢
              rw [endB_snoc] at hend
              have hc : c.1 ≠ 32 := by simpa using hend
              rw [← ih, sqA_app, sqA_other _ hc]
              have e0 : sqA true [] = [] := rfl
              rw [e0]
              simp [lastNB, hc]
          rw [hl]
    · have e1 : (b.1 == 32) = false := by simpa using hb
      rw [e1, Bool.false_and]
      unfold sqz
      rw [trm_other hb]
      simp
theorem sqA_due (l : List Gly) : sqA false l = sqz l ++ (if due l then [(32, 0)] else []) := sqA_dueN _ l rfl
theorem sqz_other {g : Gly} (h : g.1 ≠ 32) (l : List Gly) : sqz (l ++ [g]) = sqz l ++ (if due l then [(32, 0)] else []) ++ [g] := by
  rw [← sqA_due]
  unfold sqz
  rw [trm_other h, sqA_app, sqA_other _ h]
  rfl
theorem due_blank {g : Gly} (h : g.1 = 32) (l : List Gly) : due (l ++ [g]) = !(sqz l).isEmpty := by
  unfold due
  rw [endB_snoc, sqz_blank h, show (g.1 == 32) = true by simpa using h, Bool.true_and]
theorem due_other {g : Gly} (h : g.1 ≠ 32) (l : List Gly) : due (l ++ [g]) = false := by
  unfold due
  rw [endB_snoc, show (g.1 == 32) = false by simpa using h, Bool.false_and]
theorem take_snoc' {α : Type} {l : List α} {j : Nat} {x : α} (h : l[j]? = some x) : l.take (j + 1) = l.take j ++ [x] := by
  rw [List.take_add_one, h]; rfl
theorem FOwn.blt {α : Type} {e n : Nat} {f : α → List Value} {base : Nat} {W : World} {x : Value} {l : List α} (h : FOwn e n f base W x l) {g : Nat} (hg : x.ownBlock = some g) : g < W.heap.size := by
  obtain ⟨-, cur, hc⟩ := h.ty hg
  exact (Array.getElem?_eq_some_iff.1 hc).1
/-- A glyph behind a row of the call's own; all else stands. -/
theorem gpush2 {base : Nat} {W : World} {x : Value} {l : List Gly} (h : GOwn base W x l) (hb : base ≤ W.heap.size) (hl : l.length ≤ 500000) (r s : Int) :
    ∃ a' c' w', (appG #[x, .slice (some ⟨W.heap.size, 0, none⟩) 1 1]).run Tryd.prog (W.alloc (.cells #[.int .i32 r, .int .u8 s] 45)) = .ok (.value (.slice a' (l.length + 1) c')) w' ∧ GOwn base w' (.slice a' (l.length + 1) c') (l ++ [(r, s)]) ∧ Below base W w' ∧ Exc (fun b => x.ownBlock = some b) W w' := by
  have b1 := below_lit W (.cells #[.int .i32 r, .int .u8 s] 45)
  have hu : Gs (W.alloc (.cells #[.int .i32 r, .int .u8 s] 45)) (.slice (some ⟨W.heap.size, 0, none⟩) 1 1) [(r, s)] := fs_lit gcell_len W 45 [(r, s)]
  obtain ⟨x', w', hr, ho, hg, -⟩ := appG_own (h.keep b1) hu (Nat.le_trans hb b1.size) (by simp; omega)
  obtain ⟨a', c', e⟩ := (FOwn.sl gcell_len ho).len
  have hbel := (h.keep b1).below (b1.mono hb) (Nat.le_trans hb b1.size) hg
  have e2 : (l ++ [(r, s)]).length = l.length + 1 := by simp
  rw [e2] at e
  subst e
  refine ⟨a', c', w', hr, ho, hbel, ⟨hbel.os, hbel.tape, hbel.output, hbel.size, fun k hk hx => ?_⟩⟩
  exact (hg.block k (Nat.lt_of_lt_of_le hk b1.size) (fun e => hx e.symm)).trans (b1.block k hk)
attribute [local go_sem ↓ high] builtin_appG
set_option maxRecDepth 100000 in
set_option maxHeartbeats 2000000 in
theorem psqueeze_any (l : List Gly) (v : Value) (w : World) (hv : Gs w v l) (hl : l.length ≤ 90000) :
    Calls Tryd.prog 64 #[v] w fun e w' => ∃ u, e = .returned u ∧ GOwn w.heap.size w' u (sqz l) ∧ Below w.heap.size w w' := by
  have HV := Lib.hid hv
  obtain ⟨va, vc, rfl⟩ := hv.len
  clear hv
  go_enter Tryd.func64, Tryd.ntmps64
  go_wp2_with fail
  go_step3
  go_wp2_with fail
  go_step3
  go_wp2_with fail
  go_loopw [3, 4, 9] (fun s q i wr => ∃ j : Nat, j ≤ l.length ∧ i = .int .i64 j ∧ q = .bool (due (l.take j)) ∧ Hid (GOwn w.heap.size wr s (sqz (l.take j))) ∧ Hid (Below w.heap.size w wr)) (fun _ _ i _ => l.length - (intOf i).toNat)
  case atStart => exact ⟨0, by omega, rfl, rfl, Lib.hid (FOwn.nil _ _), Lib.hid (Below.refl _ _)⟩
  case round =>
    obtain ⟨j, hj, rfl, rfl, HO, BW⟩ := hrel
    have hsl := sqz_len (l.take j)
    rw [List.length_take] at hsl
    obtain ⟨sa, sc, hs⟩ := (FOwn.sl gcell_len HO.out).len
    subst hs
    by_cases hlt : j < l.length
    · obtain ⟨z, hz⟩ : ∃ z, l[j]? = some z := ⟨l[j], List.getElem?_eq_getElem hlt⟩
      have HTS := Lib.hid (take_snoc' hz)
      obtain ⟨g, off, rfl, c0, c1, -⟩ := Gs.at (Fs.below HV.out BW.out) hz
      have hi0 : (j : Int) < (l.length : Int) := by omega
      have hi1 : (0 : Int) ≤ (j : Int) := by omega
      obtain ⟨z0, z1⟩ := z
      simp only at c0 c1
      have bl := below_lit wr (.cells #[.int .i32 z0, .int .u8 z1] 45)
      have BL := Lib.hid (BW.out.trans (bl.mono BW.out.size))
      have HOL := Lib.hid (HO.out.keep bl)
      clear hz
      by_cases h32 : z0 = 32
      · have HN := Lib.hid (sqz_blank (g := (z0, z1)) h32 (l.take j))
        have HD := Lib.hid (due_blank (g := (z0, z1)) h32 (l.take j))
        subst h32
        obtain ⟨O, hO⟩ : ∃ O, sqz (l.take j) = O := ⟨_, rfl⟩
        rw [hO] at HN HD HOL ⊢
        by_cases hne : O = []
        · subst hne
          have HD2 : Hid (due (l.take j ++ [(32, z1)]) = false) := Lib.hid (by rw [HD.out]; rfl)
          clear hO hsl HO bl HD
          go_wp2_with fail
          go_roundw
          case rel => exact ⟨j + 1, by omega, by go_num, by rw [HTS.out, HD2.out], by rw [HTS.out, HN.out]; exact HOL, BL⟩
          case measure => (simp [intOf]; try omega)
        · have HD2 : Hid (due (l.take j ++ [(32, z1)]) = true) := Lib.hid (by rw [HD.out]; simpa using hne)
          have p0 : 0 < O.length := List.length_pos_iff.2 hne
          obtain ⟨n, hn⟩ : ∃ n, O.length = n := ⟨_, rfl⟩
          rw [hn] at p0 ⊢
          have p1 : (0 : Int) < (n : Int) := by omega
          have HHN := Lib.hid hn
          clear hO hsl hn HO bl HD hne
          go_wp2_with fail
          go_roundw
          case rel => exact ⟨j + 1, by omega, by go_num, by rw [HTS.out, HD2.out], by rw [HTS.out, HN.out]; exact HHN.out ▸ HOL, BL⟩
          case measure => (simp [intOf]; try omega)
      · have HN := Lib.hid (sqz_other (g := (z0, z1)) h32 (l.take j))
        have HD := Lib.hid (due_other (g := (z0, z1)) h32 (l.take j))
        have e32 : (z0 == 32) = false := by simpa using h32
        have hX : Blk (wr.alloc (.cells #[.int .i32 z0, .int .u8 z1] 45)) wr.heap.size 45 [.int .i32 z0, .int .u8 z1] := heap_alloc_new wr _
        have hown : (Value.slice sa (sqz (l.take j)).length sc).ownBlock ≠ some wr.heap.size := fun e => by have := HO.out.blt e; omega
        by_cases hdu : due (l.take j) = true
        · rw [if_pos hdu] at HN
          obtain ⟨a1, n1, w1, hr1, ho1, hb1, he1⟩ := gpush2 HOL.out BL.out.size (by omega) 32 0
          have hX1 := he1.blk hX hown
          have x0 : w1.cell? ⟨wr.heap.size, 0, none⟩ = some (.int .i32 z0) := hX1.cell 0
          have x1 : w1.cell? ⟨wr.heap.size, 1, none⟩ = some (.int .u8 z1) := hX1.cell 1
          have B1 := BL.out.trans hb1
          obtain ⟨a2, n2, w2, hr2, ho2, hb2, -⟩ := gpush2 ho1 B1.size (by simp; omega) z0 z1
          have B2 := Lib.hid (B1.trans hb2)
          rw [List.length_append] at hr2 ho2
          simp only [List.length_cons, List.length_nil, Nat.zero_add] at hr2 ho2
          have H2 := Lib.hid ho2
          rw [hdu]
          obtain ⟨O, hO⟩ : ∃ O, sqz (l.take j) = O := ⟨_, rfl⟩
          rw [hO] at HN H2 hr1 hr2 hsl ⊢
          obtain ⟨n, hn⟩ : ∃ n, O.length = n := ⟨_, rfl⟩
          rw [hn] at hr1 hr2 H2 ⊢
          rw [World.size_alloc] at hr1
          clear hO hsl hn HO bl h32 hdu hX hX1 hown ho1 hb1 he1 B1 ho2 hb2 HOL
          go_wp2_with fail
          go_roundw
          case rel => exact ⟨j + 1, by omega, by go_num, by rw [HTS.out, HD.out], by rw [HTS.out, HN.out]; exact H2, B2⟩
          case measure => (simp [intOf]; try omega)
        · have hdf : due (l.take j) = false := by simpa using hdu
          rw [hdf] at HN
          simp only [Bool.false_eq_true, if_false, List.append_nil] at HN
          obtain ⟨a2, n2, w2, hr2, ho2, hb2, -⟩ := gpush2 HOL.out BL.out.size (by omega) z0 z1
          have B2 := Lib.hid (BL.out.trans hb2)
          have H2 := Lib.hid ho2
          rw [hdf]
          obtain ⟨O, hO⟩ : ∃ O, sqz (l.take j) = O := ⟨_, rfl⟩
          rw [hO] at HN H2 hr2 hsl ⊢
          obtain ⟨n, hn⟩ : ∃ n, O.length = n := ⟨_, rfl⟩
          rw [hn] at hr2 H2 ⊢
          rw [World.size_alloc] at hr2
          clear hO hsl hn HO bl h32 hdu hdf hX hown ho2 hb2 HOL
          go_wp2_with fail
          go_roundw
          case rel => exact ⟨j + 1, by omega, by go_num, by rw [HTS.out, HD.out], by rw [HTS.out, HN.out]; exact H2, B2⟩
          case measure => (simp [intOf]; try omega)
    · obtain rfl : j = l.length := by omega
      have hlt' : ¬ (l.length : Int) < (l.length : Int) := by omega
      rw [List.take_length] at HO ⊢
      go_wp2_with fail
      go_ret
      exact ⟨_, rfl, HO.out, BW.out⟩
end Go.Proofs.YtaeplneiicobgaaDoor
namespace Go.Proofs.YtaeplneiicobgaaDoor
open Go.RowKit
/-- What a node of its kind may have, as it is. -/
abbrev nilP : PV := (none, 0, 0)
end Go.Proofs.YtaeplneiicobgaaDoor
namespace Go.Proofs.YtaeplneiicobgaaDoor
open Go.RowKit
/-- A row of one's own, of one-cell values: its cells; one that is stored. -/
theorem p_flat (L : List PV) : flatV pcell L = L.map pv := by
  induction L with
  | nil => rfl
  | cons x L ih => rw [flatV_cons, ih]; rfl
theorem FOwn.slot {e base : Nat} {W : World} {g n c : Nat} {L : List PV} (h : FOwn e 1 pcell base W (.slice (some ⟨g, 0, none⟩) n c) L) {j : Nat} {s : PV} (hs : L[j]? = some s) :
    W.cell? ⟨g, j, none⟩ = some (pv s) ∧ W.frozen? ⟨g, j, none⟩ = false := by
  obtain ⟨a, c', e2⟩ := (FOwn.sl pcell_len h).len
  injection e2 with e3 e4 e5
  have hjl := (List.getElem?_eq_some_iff.1 hs).1
  have h' : W.ownsRow base e 1 (.slice (some ⟨g, 0, none⟩) n c) L.length (flatV pcell L) := h
  rw [e4] at h'
  refine ⟨?_, h'.frozenAt j⟩
  rw [h'.cellAt j (by omega), p_flat, List.getElem?_map, hs]
  rfl
theorem FOwn.put {e base : Nat} {W : World} {g n c : Nat} {L : List PV} (h : FOwn e 1 pcell base W (.slice (some ⟨g, 0, none⟩) n c) L) (j : Nat) (s : PV) :
    FOwn e 1 pcell base (W.setCell ⟨g, j, none⟩ (pv s)) (.slice (some ⟨g, 0, none⟩) n c) (L.set j s) := by
  obtain ⟨a, c', e2⟩ := (FOwn.sl pcell_len h).len
  injection e2 with e3 e4 e5
  have h' : W.ownsRow base e 1 (.slice (some ⟨g, 0, none⟩) n c) L.length (flatV pcell L) := h
  rw [e4] at h'
  have k := (h'.stored j (pv s)).1
  rw [p_flat, ← List.map_set, ← p_flat] at k
  unfold FOwn
  rw [List.length_set, e4]
  exact k
theorem FOwn.addr {α : Type} {e n : Nat} {f : α → List Value} {base : Nat} {W : World} {a : Option Addr} {k c : Nat} {l : List α} (h : FOwn e n f base W (.slice a k c) l) (hl : 0 < l.length) : ∃ g, a = some ⟨g, 0, none⟩ ∧ base ≤ g ∧ ∃ cur, W.heap[g]? = some (.cells cur e (0, 0)) := by
  rcases h.2 with ⟨h', h0⟩ | ⟨g, cap, cur, hx, hb, hgg, -⟩
  · omega
  · injection hx with e1 e2 e3
    subst e1
    exact ⟨g, rfl, hb, cur, hgg⟩
/-- Rows of a row of one's own that are made anew, one by one: those ahead of j are. -/
structure RIq9 (SI : Nat → Prop) (F : List Gly → List Gly) (base : Nat) (W : World) (v : Value) (l : List (List Gly)) (j : Nat) : Prop where
  lt : ∀ b, SI b → b < base
  sz : base ≤ W.heap.size
  own : ∃ (L : List PV) (S : Nat → Prop), FOwn 46 1 pcell base W v L ∧ L.length = l.length ∧ (∀ b, S b → base ≤ b ∧ ∃ cur fz, W.heap[b]? = some (.cells cur 45 fz)) ∧
    (∀ (i : Nat) s r, i < j → L[i]? = some s → l[i]? = some r → FsS S 2 gcell W (pv s) (F r)) ∧ (∀ (i : Nat) s r, j ≤ i → L[i]? = some s → l[i]? = some r → FsS SI 2 gcell W (pv s) r)
section
variable {SI : Nat → Prop} {F : List Gly → List Gly} {base : Nat} {W W' : World} {v : Value} {l : List (List Gly)} {j : Nat}
theorem RIq9.at {a : Option Addr} {n c : Nat} (h : RIq9 SI F base W (.slice a n c) l j) {r : List Gly} (hr : l[j]? = some r) :
    ∃ g s, a = some ⟨g, 0, none⟩ ∧ W.cell? ⟨g, j, none⟩ = some (pv s) ∧ W.frozen? ⟨g, j, none⟩ = false ∧ FsS SI 2 gcell W (pv s) r := by
  obtain ⟨L, S, hL, hl, hS, h1, h2⟩ := h.own
  have hj := (List.getElem?_eq_some_iff.1 hr).1
  obtain ⟨s, hs⟩ : ∃ s, L[j]? = some s := ⟨L[j]'(by omega), List.getElem?_eq_getElem _⟩
  obtain ⟨g, rfl, -, -⟩ := hL.addr (by omega)
  obtain ⟨k1, k2⟩ := hL.slot hs
  exact ⟨g, s, rfl, k1, k2, h2 j s r (Nat.le_refl _) hs hr⟩
/-- One more: a row of one's own, just made, in its place. -/
theorem RIq9.step {g n c : Nat} (h : RIq9 SI F base W (.slice (some ⟨g, 0, none⟩) n c) l j) (hb : Below W.heap.size W W') {r : List Gly} (hr : l[j]? = some r) {s : PV} (hs : GOwn W.heap.size W' (pv s) (F r)) :
    RIq9 SI F base (W'.setCell ⟨g, j, none⟩ (pv s)) (.slice (some ⟨g, 0, none⟩) n c) l (j + 1) ∧ Exc (fun b => b = g) W (W'.setCell ⟨g, j, none⟩ (pv s)) := by
  obtain ⟨L, S, hL, hl, hS, h1, h2⟩ := h.own
  have hj := (List.getElem?_eq_some_iff.1 hr).1
  obtain ⟨s0, hs0⟩ : ∃ s, L[j]? = some s := ⟨L[j]'(by omega), List.getElem?_eq_getElem _⟩
  obtain ⟨g', e1, hg, cur0, hcur⟩ := hL.addr (by omega)
  injection e1 with e1
  injection e1 with e1
  subst e1
  have hne : ∀ b cur fz, W.heap[b]? = some (.cells cur 45 fz) → b ≠ g := fun b cur fz hb' e => by
    rw [e, hcur] at hb'
    injection hb' with hb'
    injection hb' with _ h3
    exact absurd h3 (by decide)
  have hglt : g < W.heap.size := (Array.getElem?_eq_some_iff.1 hcur).1
  have kS : Kp S W (W'.setCell ⟨g, j, none⟩ (pv s)) := fun b hb' => by
    obtain ⟨q1, cur, fz, q2⟩ := hS b hb'
    rw [Below.heap_setCell _ _ _ _ (hne b cur fz q2)]
    exact hb.block b (Array.getElem?_eq_some_iff.1 q2).1
  have kI : Kp SI W (W'.setCell ⟨g, j, none⟩ (pv s)) := fun b hb' => by
    have := h.lt b hb'
    rw [Below.heap_setCell _ _ _ _ (show b ≠ g by omega)]
    exact hb.block b (Nat.lt_of_lt_of_le this h.sz)
  have fS := own_foot gcell_len hs
  have hne2 : ∀ b, (W.heap.size ≤ b ∧ ∃ cur fz, W'.heap[b]? = some (.cells cur 45 fz)) → b ≠ g := fun b hb' => by omega
  have kN : Kp (fun b => W.heap.size ≤ b ∧ ∃ cur fz, W'.heap[b]? = some (.cells cur 45 fz)) W' (W'.setCell ⟨g, j, none⟩ (pv s)) := fun b hb' => by
    rw [Below.heap_setCell _ _ _ _ (hne2 b hb')]
  refine ⟨⟨h.lt, by rw [szset]; exact Nat.le_trans h.sz hb.size, ⟨L.set j s, fun b => S b ∨ (W.heap.size ≤ b ∧ ∃ cur fz, W'.heap[b]? = some (.cells cur 45 fz)), (hL.keep hb).put j s, by rw [List.length_set]; exact hl, ?_, ?_, ?_⟩⟩, ?_⟩
  · rintro b (hb' | hb')
    · obtain ⟨q1, cur, fz, q2⟩ := hS b hb'
      exact ⟨q1, cur, fz, (kS b hb').trans q2⟩
    · obtain ⟨q1, cur, fz, q2⟩ := hb'
      exact ⟨Nat.le_trans h.sz q1, cur, fz, (kN b ⟨q1, cur, fz, q2⟩).trans q2⟩
  · intro i s' r' hi hs' hr'
    by_cases hij : i = j
    · subst hij
      rw [List.getElem?_set_self (by omega)] at hs'
      obtain rfl := Option.some.inj hs'
      rw [hr] at hr'
      obtain rfl := Option.some.inj hr'
      exact (fS.keep kN).mono (fun b q => .inr q)
    · rw [List.getElem?_set_ne (fun e => hij e.symm)] at hs'
      exact ((h1 i s' r' (by omega) hs' hr').keep kS).mono (fun b q => .inl q)
  · intro i s' r' hi hs' hr'
    rw [List.getElem?_set_ne (by omega)] at hs'
    exact (h2 i s' r' (by omega) hs' hr').keep kI
  · exact (Exc.of hb).set _ _ (fun _ => rfl)
theorem RIq9.done (h : RIq9 SI F base W v l l.length) : CInv base W v (l.map F) := by
  obtain ⟨L, S, hL, hl, hS, h1, h2⟩ := h.own
  refine ⟨⟨L, S, hL, by rw [List.length_map]; exact hl, hS, fun i s r hs hr => ?_⟩⟩
  rw [List.getElem?_map] at hr
  cases hx : l[i]? with
  | none => rw [hx] at hr; cases hr
  | some x =>
    rw [hx] at hr
    obtain rfl := Option.some.inj hr
    exact h1 i s x (List.getElem?_eq_some_iff.1 hx).1 hs hx
end
attribute [local go_sem ↓ high] builtin_appP
end Go.Proofs.YtaeplneiicobgaaDoor
namespace Go.Proofs.YtaeplneiicobgaaDoor
open Go.RowKit
def padL {α : Type} (z : α) (n : Nat) (l : List α) : List α := l.take n ++ List.replicate (n - l.length) z
theorem padL_len {α : Type} (z : α) (n : Nat) (l : List α) : (padL z n l).length = n := by unfold padL; simp; omega
theorem mcells_pad : ∀ (n : Nat) (l : List (List Gly)), mcells n l = (padL [] n l).map sqz
  | 0, l => by simp [mcells, padL]
  | n + 1, [] => by
    have ih := mcells_pad n []
    unfold mcells
    rw [ih]
    simp [padL, List.replicate_succ, sqz_nil]
  | n + 1, c :: l => by
    have ih := mcells_pad n l
    unfold mcells
    rw [ih]
    simp [padL]
theorem padL_at {α β : Type} (z : α) (z' : β) (n : Nat) {l : List α} {m : List β} (h : l.length = m.length) {i : Nat} {x : α} {y : β} (hx : (padL z n l)[i]? = some x) (hy : (padL z' n m)[i]? = some y) : (l[i]? = some x ∧ m[i]? = some y) ∨ (x = z ∧ y = z') := by
  unfold padL at hx hy
  by_cases hi : i < (l.take n).length
  · rw [List.getElem?_append_left hi] at hx
    have hi' : i < (m.take n).length := by rw [List.length_take] at hi ⊢; omega
    rw [List.getElem?_append_left hi'] at hy
    rw [List.length_take] at hi
    rw [List.getElem?_take_of_lt (by omega)] at hx hy
    exact .inl ⟨hx, hy⟩
  · rw [List.getElem?_append_right (by omega)] at hx
    have hi' : ¬ i < (m.take n).length := by rw [List.length_take] at hi ⊢; omega
    rw [List.getElem?_append_right (by omega)] at hy
    rw [List.getElem?_replicate] at hx hy
    split at hx <;> split at hy <;> simp at hx hy
    exact .inr ⟨hx.symm, hy.symm⟩
theorem CInv.mono {base base' : Nat} {W : World} {v : Value} {l : List (List Gly)} (h : CInv base W v l) (hb : base' ≤ base) : CInv base' W v l := by
  obtain ⟨L, S, hL, hl, hS, hE⟩ := h.own
  exact ⟨⟨L, S, hL.mono hb, hl, fun b q => ⟨Nat.le_trans hb (hS b q).1, (hS b q).2⟩, hE⟩⟩
theorem pflat_len (L : List PV) : (flatV pcell L).length = L.length := by rw [flatV_len pcell_len]; omega
noncomputable def makeP (a b : Value) : Sem Value := Instr.makeSlice 47 a b
theorem make_makeP (a b : Value) : Instr.makeSlice 47 a b = makeP a b := rfl
noncomputable def copyP (args : Array Value) : Sem Next := do pure (.value (← Builtin.copy_ #[47, 47] 3 args))
theorem builtin_copyP (cs : Array Bool) (args : Array Value) : builtin .copy #[47, 47] 3 cs args = copyP args := rfl
theorem makeP_run (W : World) (n : Nat) (hn : n ≤ 100000) : (makeP (.int .i64 (n : Int)) (.int .i64 (n : Int))).run Tryd.prog W = .ok (.slice (some ⟨W.heap.size, 0, none⟩) n n) (W.alloc (.cells (flatV pcell (List.replicate n nilP)).toArray 46)) := by
  obtain ⟨i0, hi, hz0, hz1, hz2⟩ := info_parts infoSG
  have := run_makeSlice (P := Tryd.prog) W 47 46 i0 _ Tryd.underlying47 hi hz0 .i64 .i64 (n : Int) (n : Int) (by omega) (Int.le_refl _) (by rw [hz1]; simp; omega) (by rw [hz2]; omega) (by omega)
  unfold makeP
  rw [this]
  simp only [Int.toNat_natCast, hz1]
  have e : (Value.slice none 0 0).cells = #[.slice none 0 0] := rfl
  rw [e]
  have e2 : madeCells #[Value.slice none 0 0] (n * 1) = (flatV pcell (List.replicate n nilP)).toArray := by
    apply Array.ext'
    rw [toList_madeCells_one, p_flat, List.map_replicate, Nat.mul_one]
    rfl
  rw [e2]
theorem copyP_run {base g : Nat} {W : World} {n : Nat} {L : List PV} {v : Value} (hd : FOwn 46 1 pcell base W (.slice (some ⟨g, 0, none⟩) n n) (List.replicate n nilP)) (hb : Blk W g 46 (flatV pcell (List.replicate n nilP))) (hs : Fs 1 pcell W v L) (hm : n ≤ maxLen) (hbg : base ≤ g) :
    ∃ W', (copyP #[.slice (some ⟨g, 0, none⟩) n n, v]).run Tryd.prog W = .ok (.value (.int .i64 ((min L.length n : Nat) : Int))) W' ∧ FOwn 46 1 pcell base W' (.slice (some ⟨g, 0, none⟩) n n) (padL nilP n L) ∧ Exc (fun b => b = g) W W' := by
  obtain ⟨i0, hi, hz0, hz1, hz2⟩ := info_parts infoSG
  obtain ⟨a, c, rfl, hc, hr⟩ := hs
  cases a with
  | none =>
    obtain rfl : L = [] := by
      cases L with
      | nil => rfl
      | cons x l => obtain ⟨g, off, h0, _⟩ := hr 0 x rfl; cases h0
    refine ⟨W, ?_, by simpa [padL] using hd, Exc.refl _ _⟩
    unfold copyP
    simp [Builtin.copy_, run_underlying Tryd.underlying47, Builtin.lenOf, Builtin.firstCells, sizeOf, typeInfo, hi, hz1, Result.andThen, goInt, storeCells]
  | some a =>
    have hcells : ∀ j v, (flatV pcell (L.take n))[j]? = some v → W.cell? (a.add j) = some v := by
      intro j v hj
      obtain ⟨q, i, y, rfl, hq, hi⟩ := flatV_inv pcell_len _ j v hj
      have hq' : L[q]? = some y := by
        have := (List.getElem?_eq_some_iff.1 hq).1
        rw [List.length_take] at this
        rwa [List.getElem?_take_of_lt (by omega)] at hq
      obtain ⟨g, off, hg, h0⟩ := hr q y hq'
      obtain rfl := Option.some.inj hg
      rw [Addr.add_lit]
      exact h0 i v hi
    have hlen : (flatV pcell (L.take n)).length = Nat.min L.length n * 1 := by rw [pflat_len, List.length_take]; show min n L.length = min L.length n * 1; omega
    have hl := run_loadCells_list (P := Tryd.prog) W a (flatV pcell (L.take n)) hcells
    have hfit : (flatV pcell (L.take n)).length ≤ (flatV pcell (List.replicate n nilP)).length := by rw [pflat_len, pflat_len, List.length_take, List.length_replicate]; omega
    have hst := run_storeCells_at (P := Tryd.prog) g 0 46 (flatV pcell (L.take n)) 0 (flatV pcell (List.replicate n nilP)).toArray W hb (by simpa using hfit) (fun v hv => by
      simp only [flatV, List.mem_flatten, List.mem_map] at hv
      obtain ⟨ys, ⟨y, _, rfl⟩, hy⟩ := hv
      exact pcell_one y v hy)
    simp only [Nat.add_zero, Nat.zero_add] at hst
    have hcell : ∀ A : Array Value, Blk W g 46 (flatV pcell (List.replicate n nilP)) → (W.setRow g A).heap[g]? = some (.cells A 46 (0, 0)) := fun A h => setRow_heap _ _ _ _ _ _ h
    obtain ⟨A, hA⟩ : ∃ A, A = ((flatV pcell (List.replicate n nilP)).take 0 ++ flatV pcell (L.take n) ++ (flatV pcell (List.replicate n nilP)).drop (flatV pcell (L.take n)).length).toArray := ⟨_, rfl⟩
    have hEq : (flatV pcell (List.replicate n nilP)).take 0 ++ flatV pcell (L.take n) ++ (flatV pcell (List.replicate n nilP)).drop (flatV pcell (L.take n)).length = flatV pcell (padL nilP n L) := by
      have e3 : (flatV pcell (L.take n)).length = min n L.length := by rw [pflat_len, List.length_take]
      have e4 : (flatV pcell (List.replicate n nilP)).drop (min n L.length) = flatV pcell (List.replicate (n - L.length) nilP) := by
        rw [p_flat, p_flat, List.map_replicate, List.map_replicate, List.drop_replicate, show n - min n L.length = n - L.length by omega]
      rw [List.take_zero, List.nil_append, e3, e4]
      unfold padL
      rw [flatV_app]
    have hrow : Blk (W.setRow g A) g 46 (flatV pcell (padL nilP n L)) := by
      have h1 := hcell A hb
      rw [hA, hEq] at h1
      rw [hA, hEq]
      exact h1
    refine ⟨W.setRow g A, ?_, ?_, ?_⟩
    · unfold copyP
      rw [hA]
      simp [Builtin.copy_, run_underlying Tryd.underlying47, Builtin.lenOf, Builtin.firstCells, sizeOf, typeInfo, hi, hz1, ← hlen, hl, hst, Result.andThen, goInt]
    · have := Blk.fown (base := base) (l := padL nilP n L) pcell_len hrow hbg (by rw [padL_len]; exact hm)
      rw [padL_len] at this
      exact this
    · exact ⟨rfl, rfl, rfl, by simp [World.setRow], fun k hk hx => setRow_other W g k A (fun e => hx (by omega))⟩
attribute [local go_sem ↓ high] make_makeP builtin_copyP
def MRowP (b : Bool) (m : List (List Gly)) (w : World) (e : Ending) (w' : World) : Prop := ∃ s : PV, e = .returned (.agg (trcell (b, s)).toArray) ∧ CInv w.heap.size w' (pv s) m ∧ Below w.heap.size w w'
set_option maxRecDepth 100000 in
set_option maxHeartbeats 4000000 in
theorem pmendrow_any (S : Nat → Prop) (x : Bool × PV) (r : Trow) (n : Nat) (w : World) (hx : x.1 = r.1) (hv : GrS S w (pv x.2) r.2) (hS : ∀ b, S b → b < w.heap.size) (h1 : 1 ≤ n) (hn : n ≤ 1000) (hl : r.2.length + lens r.2 ≤ 90000) :
    Calls Tryd.prog 48 #[.agg (trcell x).toArray, .int .i64 (n : Int)] w (MRowP r.1 (mrowT n r).2 w) := by
  obtain ⟨x1, ⟨x2, x3, x4⟩⟩ := x
  obtain ⟨b, l⟩ := r
  simp only at hx hv hl
  subst hx
  obtain ⟨L, hLl, hLv, hLr⟩ := hv
  have b2 := bel2 w (.cells (trcell (x1, (x2, x3, x4))).toArray 49) (.cells ([.bool false, .slice none 0 0] : List Value).toArray 49)
  cases x1
  · have hmr : (mrowT n (false, l)).2 = (padL [] n l).map sqz := by rw [← mcells_pad]; rfl
    rw [hmr]
    clear hmr
    obtain ⟨W1, hW1⟩ : ∃ W, W = (w.alloc (.cells (trcell (false, (x2, x3, x4))).toArray 49)).alloc (.cells ([.bool false, .slice none 0 0] : List Value).toArray 49) := ⟨_, rfl⟩
    rw [← hW1] at b2
    have hz1 : W1.heap.size = w.heap.size + 2 := by rw [hW1, World.size_alloc, World.size_alloc]
    have hX : Blk W1 w.heap.size 49 (trcell (false, (x2, x3, x4))) := by rw [hW1]; exact (heap_alloc_old _ _ (by simp)).trans (heap_alloc_new w _)
    have hR : Blk W1 (w.heap.size + 1) 49 [.bool false, .slice none 0 0] := by
      have := heap_alloc_new (w.alloc (.cells (trcell (false, (x2, x3, x4))).toArray 49)) (.cells ([.bool false, .slice none 0 0] : List Value).toArray 49)
      rw [World.size_alloc, ← hW1] at this
      exact this
    have hmk := makeP_run W1 n (by omega)
    obtain ⟨W2, hW2⟩ : ∃ W, W = W1.alloc (.cells (flatV pcell (List.replicate n nilP)).toArray 46) := ⟨_, rfl⟩
    rw [← hW2] at hmk
    have b3 : Below W1.heap.size W1 W2 := by rw [hW2]; exact below_lit _ _
    have hB2 : Blk W2 W1.heap.size 46 (flatV pcell (List.replicate n nilP)) := by rw [hW2]; exact heap_alloc_new W1 _
    have hO2 : FOwn 46 1 pcell W1.heap.size W2 (.slice (some ⟨W1.heap.size, 0, none⟩) n n) (List.replicate n nilP) := by
      have := fown_lit (e := 46) pcell_len W1 (Nat.le_refl _) (List.replicate n nilP) (by rw [List.length_replicate]; unfold maxLen; omega)
      rw [List.length_replicate, ← hW2] at this
      exact this
    have hs2 : Fs 1 pcell W2 (pv (x2, x3, x4)) L := Fs.below (Fs.below hLv.1 b2) b3
    obtain ⟨W3, hcp, hO3, hE3⟩ := copyP_run hO2 hB2 hs2 (by unfold maxLen; omega) (Nat.le_refl _)
    have hX2 := hX.below b3
    have x4' : W2.cell? ⟨w.heap.size, 1, none⟩ = some (.slice x2 x3 x4) := hX2.cell 1
    have hR3 := Lib.hid (hE3.blk (hR.below b3) (by omega))
    have hB3 : Below w.heap.size w W3 := (b2.trans (b3.mono (by omega))).trans (hE3.below (by have := b3.size; omega) (fun b hb e => by omega))
    have HR0 : Hid (RIq9 S sqz W1.heap.size W3 (.slice (some ⟨W1.heap.size, 0, none⟩) n n) (padL [] n l) 0) := Lib.hid ⟨fun b hb => by have := hS b hb; omega, by have := b3.size; have := hE3.size; omega, ⟨padL nilP n L, fun _ => False, hO3, by rw [padL_len, padL_len], fun _ h => h.elim, fun i s r h => by omega, fun i s r _ hs hr => by
      rcases padL_at nilP [] n hLl hs hr with ⟨q1, q2⟩ | ⟨rfl, rfl⟩
      · exact (hLr i s r q1 q2).keep (Kp.below hB3 hS)
      · exact FsS.nil _ _ _ _⟩⟩
    have hlens : ∀ (j : Nat) r, (padL [] n l)[j]? = some r → r.length ≤ 90000 := fun j r hr => by
      unfold padL at hr
      have hm := List.mem_of_getElem? hr
      rcases List.mem_append.1 hm with q | q
      · obtain ⟨i, hi⟩ := List.mem_iff_getElem?.1 (List.mem_of_mem_take q)
        have := lens_le hi
        omega
      · rw [(List.mem_replicate.1 q).2]
        simp
    have HLE := Lib.hid hlens
    have HB3 := Lib.hid hB3
    have HZ1 := Lib.hid hz1
    have hpl : (padL ([] : List Gly) n l).length = n := padL_len _ _ _
    have HPL := Lib.hid hpl
    obtain ⟨M, hM⟩ : ∃ M, padL ([] : List Gly) n l = M := ⟨_, rfl⟩
    rw [hM] at HR0 HLE HPL ⊢
    obtain ⟨G, hG⟩ : ∃ G, W1.heap.size = G := ⟨_, rfl⟩
    rw [hG] at HR0 hmk hcp HZ1
    simp only [trcell, pv] at hW1 hcp ⊢
    subst hW1
    clear b2 b3 hX hR hB2 hO2 hO3 hE3 hX2 hB3 hs2 hLv hLr hS hW2 hlens hpl hz1 hM hG hLl hl
    go_enter Tryd.func48, Tryd.ntmps48
    go_wp2_with fail
    go_loopw [6, 7, 19] (fun _ _ i wr => ∃ j : Nat, j ≤ n ∧ i = .int .i64 j ∧ Hid (RIq9 S sqz G wr (.slice (some ⟨G, 0, none⟩) n n) M j) ∧ Hid (Below w.heap.size w wr) ∧ Hid (Blk wr (w.heap.size + 1) 49 [.bool false, .slice none 0 0])) (fun _ _ i _ => n - (intOf i).toNat)
    case atStart => exact ⟨0, by omega, rfl, HR0, HB3, hR3⟩
    case round =>
      obtain ⟨j, hj, rfl, HR, BW, HRB⟩ := hrel
      clear HR0 HB3 hR3
      by_cases hlt : j < n
      · obtain ⟨r, hr⟩ : ∃ r, M[j]? = some r := ⟨M[j]'(by rw [HPL.out]; exact hlt), List.getElem?_eq_getElem _⟩
        obtain ⟨g, ⟨s1, s2, s3⟩, hgg, c0, f0, hs⟩ := HR.out.at hr
        injection hgg with hgg
        injection hgg with hgg
        subst hgg
        simp only [pv] at c0 hs
        have HG := Lib.hid (psqueeze_any r _ wr hs.1 (HLE.out j r hr))
        have hi0 : (j : Int) < (n : Int) := by omega
        have hi1 : (0 : Int) ≤ (j : Int) := by omega
        have HRR := Lib.hid hr
        have HSZ := Lib.hid (World.block_lt_of_cell? wr _ c0)
        clear hr hs
        go_wp2_with fail
        refine HG.out.mono ?_
        rintro e w2 ⟨u, rfl, ho, b2⟩
        obtain ⟨u1, u3, e2⟩ := (FOwn.sl gcell_len ho).len
        obtain ⟨k1, k2⟩ := HR.out.step b2 HRR.out (s := (u1, (sqz r).length, u3)) (by unfold pv; rw [← e2]; exact ho)
        simp only [pv] at k1 k2
        subst e2
        have c2 : w2.cell? ⟨G, j, none⟩ = some (.slice s1 s2 s3) := (b2.cell (p := ⟨G, j, none⟩) HSZ.out).trans c0
        have f2 : w2.frozen? ⟨G, j, none⟩ = false := (b2.frozen (p := ⟨G, j, none⟩) HSZ.out).trans f0
        have K1 := Lib.hid k1
        have K2 := Lib.hid (BW.out.trans (k2.below BW.out.size (fun b hb e => by have := HZ1.out; omega)))
        have K3 := Lib.hid (k2.blk HRB.out (by have := HZ1.out; omega))
        obtain ⟨q, hq⟩ : ∃ q, (sqz r).length = q := ⟨_, rfl⟩
        rw [hq] at K1 K2 K3 ⊢
        clear k1 k2 ho b2 HG c0 f0 hq
        go_wp2_with fail
        go_roundw
        case rel => exact ⟨j + 1, by omega, by go_num, K1, K2, K3⟩
        case measure => (simp [intOf]; try omega)
      · obtain rfl : j = n := by omega
        have hlt' : ¬ (j : Int) < (j : Int) := by omega
        have hd := HR.out
        have hj2 : Hid (RIq9 S sqz G wr (.slice (some ⟨G, 0, none⟩) j j) M M.length) := Lib.hid (by rw [HPL.out]; exact hd)
        have HD := Lib.hid hj2.out.done
        have x0 := HRB.out.cell 0
        have x1 := HRB.out.cell 1
        have y0 : wr.frozen? ⟨w.heap.size + 1, 0, none⟩ = false := HRB.out.frozen (by simp)
        have y1 : wr.frozen? ⟨w.heap.size + 1, 1, none⟩ = false := HRB.out.frozen (by simp)
        simp only [List.getElem?_cons_zero, List.getElem?_cons_succ] at x0 x1
        have HBL := Lib.hid ((HRB.out.set 0 (.bool false)).set 1 (.slice (some ⟨G, 0, none⟩) j j))
        clear hd hj2 HR
        go_wp2_with fail
        have B7 := HBL.out
        have k0 := B7.cell 0
        have k1 := B7.cell 1
        simp at k0 k1
        refine bodyPost_ret (v := .agg #[.bool false, .slice (some ⟨G, 0, none⟩) j j]) (by simp [results, Tryd.results48, go_sem, k0, k1]) rfl ?_
        refine ⟨(some ⟨G, 0, none⟩, j, j), rfl, ?_, ?_⟩
        · have h1 := HRB.out
          have h2 := h1.set 0 (.bool false)
          exact ((HD.out.mono (by have := HZ1.out; omega)).sam (SamT.set h1 (by decide) 0 _) (SamT.set h1 (by decide) 0 _)).sam (SamT.set h2 (by decide) 1 _) (SamT.set h2 (by decide) 1 _)
        · exact (BW.out.setCell (by show w.heap.size ≤ w.heap.size + 1; omega) _).setCell (by show w.heap.size ≤ w.heap.size + 1; omega) _
  · have hmr : (mrowT n (true, l)).2 = [] := rfl
    rw [hmr]
    clear hmr
    have B2 := Lib.hid b2
    simp only [trcell, pv] at B2 ⊢
    clear hLv hLr hS hLl b2
    go_enter Tryd.func48, Tryd.ntmps48
    go_wp2_with fail
    refine bodyPost_ret (v := .agg #[.bool true, .slice none 0 0]) (by simp [results, Tryd.results48, go_sem]) rfl ?_
    refine ⟨nilP, rfl, CInv.nil _ _, ?_⟩
    exact ((Below.refl _ w).alloc (Nat.le_refl _) _).alloc (by simp) _
end Go.Proofs.YtaeplneiicobgaaDoor
