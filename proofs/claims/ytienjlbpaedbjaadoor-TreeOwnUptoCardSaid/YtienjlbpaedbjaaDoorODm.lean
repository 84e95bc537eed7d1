/- Rows of nodes that are made. The document's own answer for documents: tidy; what its walk wants. The document's own answer for documents: tidy; the round's memory. -/
import Derived.Test.YtienjlbpaedbjaaDoorODj
namespace Go.Proofs.YtienjlbpaedbjaaDoor
open Go.RowKit

theorem infoNd : (Tryd.prog.info? 39).map (fun i => (i.zero, i.size, i.bytes)) = some (some (.agg zNd.toArray), 10, 144) := by kernel_rfl
noncomputable def appN (args : Array Value) : Sem Next := do pure (.value (← Builtin.append_ #[22, 22] 22 args))
theorem builtin_appN (cs : Array Bool) (args : Array Value) : builtin .append #[22, 22] 22 cs args = appN args := rfl
/-- A node as it lies, and what it says. -/
theorem NsS.atR {S : Nat → Prop} {w : World} {a : Option Addr} {k cap : Nat} {l : List Nd} (h : NsS S w (.slice a k cap) l) {j : Nat} {y : Nd} (hy : l[j]? = some y) :
    ∃ g off x, a = some ⟨g, off, none⟩ ∧ S g ∧ (∀ (i : Nat) c, (ncell x)[i]? = some c → w.cell? ⟨g, off + j * 10 + i, none⟩ = some c) ∧ HdIs S w x y.hd ∧ NsS S w (pv x.kids) y.kids := by
  cases h with
  | mk _ _ L hl hs hh hk =>
    obtain ⟨x, hx⟩ : ∃ x, L[j]? = some x := ⟨L[j]'(by have := (List.getElem?_eq_some_iff.1 hy).1; omega), List.getElem?_eq_getElem _⟩
    obtain ⟨g, off, e, hg, hc⟩ := hs.at hx
    exact ⟨g, off, x, e, hg, fun i c hi => by rw [Nat.add_assoc]; exact hc i c hi, hh j x y hx hy, hk j x y hx hy⟩
/-- Nodes that are made: a row of one's own; what they hold lies among what came in (SI), or was made, apart from the row itself. -/
structure NInv (SI : Nat → Prop) (base : Nat) (W : World) (v : Value) (l : List Nd) : Prop where
  lt : ∀ b, SI b → b < base
  sz : base ≤ W.heap.size
  own : ∃ (L : List NV) (S : Nat → Prop), FOwn 39 10 ncell base W v L ∧ L.length = l.length ∧ (∀ b, S b → SI b ∨ (base ≤ b ∧ b < W.heap.size ∧ v.ownBlock ≠ some b)) ∧
    ∀ (i : Nat) x y, L[i]? = some x → l[i]? = some y → HdIs S W x y.hd ∧ NsS S W (pv x.kids) y.kids
section
variable {SI : Nat → Prop} {base : Nat} {W W' : World} {v : Value} {l : List Nd}
theorem NInv.nil (h1 : ∀ b, SI b → b < base) (h2 : base ≤ W.heap.size) : NInv SI base W (.slice none 0 0) [] :=
  ⟨h1, h2, ⟨[], fun _ => False, FOwn.nil _ _, rfl, fun _ h => h.elim, fun i x y h => by simp at h⟩⟩
theorem NInv.len (h : NInv SI base W v l) : ∃ a cap, v = .slice a l.length cap := by
  obtain ⟨L, S, hL, hl, -, -⟩ := h.own
  obtain ⟨a, cap, e⟩ := (FOwn.sl ncell_len hL).len
  exact ⟨a, cap, hl ▸ e⟩
theorem NInv.keep (h : NInv SI base W v l) (hb : Below W.heap.size W W') : NInv SI base W' v l := by
  obtain ⟨L, S, hL, hl, hS, hE⟩ := h.own
  have hk : Kp S W W' := fun b hb' => hb.block b (by
    rcases hS b hb' with q | q
    · exact Nat.lt_of_lt_of_le (h.lt b q) h.sz
    · exact q.2.1)
  refine ⟨h.lt, Nat.le_trans h.sz hb.size, ⟨L, S, hL.keep hb, hl, fun b hb' => ?_, fun i x y a c => ⟨(hE i x y a c).1.keep hk, (hE i x y a c).2.keep hk⟩⟩⟩
  rcases hS b hb' with q | q
  · exact .inl q
  · exact .inr ⟨q.1, Nat.lt_of_lt_of_le q.2.1 hb.size, q.2.2⟩
/-- The row's own block is older than what was made behind it. -/
theorem NInv.old (h : NInv SI base W v l) {b : Nat} (hb : W.heap.size ≤ b) : v.ownBlock ≠ some b := by
  obtain ⟨L, S, hL, -⟩ := h.own
  intro e
  obtain ⟨-, cur, hc⟩ := hL.ty e
  have := (Array.getElem?_eq_some_iff.1 hc).1
  omega
theorem NInv.nss (h : NInv SI base W v l) : NsS (fun b => SI b ∨ (base ≤ b ∧ b < W.heap.size)) W v l := by
  obtain ⟨L, S, hL, hl, hS, hE⟩ := h.own
  have hm : ∀ b, S b → SI b ∨ (base ≤ b ∧ b < W.heap.size) := fun b hb => (hS b hb).imp id fun q => ⟨q.1, q.2.1⟩
  refine .mk _ _ L hl ((own_foot ncell_len hL).mono fun b hb => .inr ⟨hb.1, ?_⟩) (fun i x y a c => (hE i x y a c).1.mono hm) (fun i x y a c => (hE i x y a c).2.mono hm)
  obtain ⟨-, cur, fz, hc⟩ := hb
  exact (Array.getElem?_eq_some_iff.1 hc).1
/-- Nodes behind them. -/
theorem NInv.app (h : NInv SI base W v l) {u : Value} {M : List NV} {m : List Nd} {T : Nat → Prop} (hu : Fs 10 ncell W u M) (hM : M.length = m.length) (hT : ∀ b, T b → SI b ∨ (base ≤ b ∧ b < W.heap.size ∧ v.ownBlock ≠ some b))
    (hm : ∀ (i : Nat) x y, M[i]? = some x → m[i]? = some y → HdIs T W x y.hd ∧ NsS T W (pv x.kids) y.kids) (hd : l.length + m.length ≤ 1000000) :
    ∃ a' c' w', (appN #[v, u]).run Tryd.prog W = .ok (.value (.slice a' (l.length + m.length) c')) w' ∧ NInv SI base w' (.slice a' (l.length + m.length) c') (l ++ m) ∧ Below base W w' ∧ ∀ b, b < W.heap.size → v.ownBlock ≠ some b → w'.heap[b]? = W.heap[b]? := by
  obtain ⟨L, S, hL, hl, hS, hE⟩ := h.own
  obtain ⟨i0, hi, hz0, hz1, hz2⟩ := info_parts infoNd
  obtain ⟨x', w', hr, ho, hg, hq⟩ := fapp (P := Tryd.prog) (t := 22) ncell_len ncell_one (by decide) Tryd.underlying22 hi hz0 hz1 hz2 rfl (by decide) hL hu h.sz (by rw [hl, hM]; exact hd)
  obtain ⟨a', c', e⟩ := (FOwn.sl ncell_len ho).len
  rw [List.length_append, hl, hM] at e
  subst e
  have kp : ∀ T : Nat → Prop, (∀ b, T b → SI b ∨ (base ≤ b ∧ b < W.heap.size ∧ v.ownBlock ≠ some b)) → Kp T W w' := fun T hT => Kp.grown hg fun b hb => by
    rcases hT b hb with q | q
    · refine ⟨Nat.lt_of_lt_of_le (h.lt b q) h.sz, fun e => ?_⟩
      have := (hL.ty e.symm).1
      have := h.lt b q
      omega
    · exact ⟨q.2.1, fun e => q.2.2 e.symm⟩
  have k1 := kp S hS
  have k2 := kp T hT
  have hsz := hg.size
  have step : ∀ T : Nat → Prop, (∀ b, T b → SI b ∨ (base ≤ b ∧ b < W.heap.size ∧ v.ownBlock ≠ some b)) → ∀ b, T b → SI b ∨ (base ≤ b ∧ b < w'.heap.size ∧ (Value.slice a' (l.length + m.length) c').ownBlock ≠ some b) := fun T hT b hb => by
    rcases hT b hb with q | q
    · exact .inl q
    · refine .inr ⟨q.1, by omega, ?_⟩
      rcases hq with e | e
      · rw [e]; exact q.2.2
      · rw [e]
        intro e2
        injection e2 with e2
        omega
  refine ⟨a', c', w', ?_, ⟨h.lt, Nat.le_trans h.sz hsz, ⟨L ++ M, fun b => S b ∨ T b, ho, by simp [hl, hM], fun b hb => hb.elim (step S hS b) (step T hT b), fun i x y hx hy => ?_⟩⟩, hL.below (Below.refl _ _) h.sz hg, fun b hb hn => hg.block b hb (fun e => hn e.symm)⟩
  · unfold appN
    simp only [Sem.run_bind, Sem.run_pure, Result.andThen_ok, hr]
  · by_cases hil : i < l.length
    · rw [List.getElem?_append_left (by omega)] at hx hy
      obtain ⟨q1, q2⟩ := hE i x y hx hy
      exact ⟨(q1.keep k1).mono fun b hb => .inl hb, (q2.keep k1).mono fun b hb => .inl hb⟩
    · rw [List.getElem?_append_right (by omega), hl] at hx
      rw [List.getElem?_append_right (by omega)] at hy
      obtain ⟨q1, q2⟩ := hm _ x y hx hy
      exact ⟨(q1.keep k2).mono fun b hb => .inr hb, (q2.keep k2).mono fun b hb => .inr hb⟩
/-- A node behind them. -/
theorem NInv.push (h : NInv SI base W v l) {x : NV} {y : Nd} {T : Nat → Prop} (hT : ∀ b, T b → SI b ∨ (base ≤ b ∧ b < W.heap.size ∧ v.ownBlock ≠ some b)) (hx : HdIs T W x y.hd) (hk : NsS T W (pv x.kids) y.kids) (hd : l.length ≤ 500000) :
    ∃ a' c' w', (appN #[v, .slice (some ⟨W.heap.size, 0, none⟩) 1 1]).run Tryd.prog (W.alloc (.cells (ncell x).toArray 39)) = .ok (.value (.slice a' (l.length + 1) c')) w' ∧ NInv SI base w' (.slice a' (l.length + 1) c') (l ++ [y]) ∧ Below base W w' ∧ ∀ b, b < W.heap.size → v.ownBlock ≠ some b → w'.heap[b]? = W.heap[b]? := by
  have b1 := below_lit W (.cells (ncell x).toArray 39)
  have hkp : Kp T W (W.alloc (.cells (ncell x).toArray 39)) := fun b hb => b1.block b (by
    rcases hT b hb with q | q
    · exact Nat.lt_of_lt_of_le (h.lt b q) h.sz
    · exact q.2.1)
  have hu : Fs 10 ncell (W.alloc (.cells (ncell x).toArray 39)) (.slice (some ⟨W.heap.size, 0, none⟩) 1 1) [x] := by
    have := fs_lit ncell_len W 39 [x]
    rw [flatV_one] at this
    exact this
  obtain ⟨a', c', w', hr, hi, hb, ho⟩ := (h.keep b1).app (m := [y]) hu rfl (fun b hb => (hT b hb).imp id fun q => ⟨q.1, Nat.lt_of_lt_of_le q.2.1 b1.size, q.2.2⟩) (fun i x' y' hx' hy' => by
    match i, hx', hy' with
    | 0, hx', hy' =>
      simp at hx' hy'
      subst hx' hy'
      exact ⟨hx.keep hkp, hk.keep hkp⟩
    | i + 1, hx', _ => simp at hx') (by simp; omega)
  exact ⟨a', c', w', hr, hi, (b1.mono h.sz).trans hb, fun b hb' hn => (ho b (Nat.lt_of_lt_of_le hb' b1.size) hn).trans (b1.block b hb')⟩
end
end Go.Proofs.YtienjlbpaedbjaaDoor
namespace Go.Proofs.YtienjlbpaedbjaaDoor
open Go.RowKit

theorem pv_len {α : Type} {n : Nat} {f : α → List Value} {w : World} {s : PV} {l : List α} (h : Fs n f w (pv s) l) : s.2.1 = l.length := by
  obtain ⟨a, c, e⟩ := h.len
  rw [pv_eq e]
theorem full_of {S : Nat → Prop} {w : World} {x : NV} {h : Hd} (hh : HdIs S w x h) (c : Nat) : fullV x.kind x.text.2.1 c x.rows.2.1 x.trows.2.1 = fullB h (decide (0 < c)) := by
  have e1 := pv_len hh.text.1
  obtain ⟨a2, c2, e2⟩ := hh.rows.len
  obtain ⟨a3, c3, e3⟩ := hh.trows.len
  rw [e1, pv_eq e2, pv_eq e3, hh.kind]
  simp only
  unfold fullV fullB
  have p : ∀ {α : Type} (l : List α), decide (0 < l.length) = decide (l ≠ []) := fun l => by
    cases l <;> simp
  rw [p, p, p]
theorem hasK_len {α : Type} (l : List α) : decide (0 < l.length) = hasK l := by cases l <;> simp [hasK]
/-- 'full' of a node as it lies. -/
theorem rfull_of {S : Nat → Prop} {w0 : World} {x : NV} {h : Hd} (hh : HdIs S w0 x h) (w : World) :
    Calls Tryd.prog 68 #[.agg (ncell x).toArray] w fun e w' => e = .returned (.bool (fullB h (decide (0 < x.kids.2.1)))) ∧ Below w.heap.size w w' := by
  have := rfull_any x.kind x.line x.n x.text x.kids x.rows x.cols x.trows x.box x.all w
  rw [full_of hh] at this
  exact this
/-- What stands in the round of tidy: the two nodes' blocks, all older ones as they stood. -/
structure TS (wo : World) (x : NV) (gy : Nat) (y : NV) (W : World) : Prop where
  bel : Below wo.heap.size wo W
  bx : Blk W wo.heap.size 39 (ncell x)
  by' : Blk W gy 39 (ncell y)
  lt : wo.heap.size < gy
theorem TS.keep {wo W W' : World} {x y : NV} {gy : Nat} (h : TS wo x gy y W) (hb : Below W.heap.size W W') : TS wo x gy y W' := ⟨h.bel.trans (hb.mono h.bel.size), h.bx.below hb, h.by'.below hb, h.lt⟩
theorem TS.set {wo W : World} {x y y' : NV} {gy : Nat} (h : TS wo x gy y W) (j : Nat) (v : Value) (hy : (ncell y).set j v = ncell y') : TS wo x gy y' (W.setCell ⟨gy, j, none⟩ v) :=
  ⟨h.bel.setCell (by have := h.lt; show wo.heap.size ≤ gy; omega) _, h.bx.other (by have := h.lt; omega) _ _, hy ▸ h.by'.set j v, h.lt⟩
theorem TS.sz {wo W : World} {x y : NV} {gy : Nat} (h : TS wo x gy y W) : gy < W.heap.size := (Array.getElem?_eq_some_iff.1 h.by').1
/-- What is put behind, in the ways of tidy. -/
theorem td_in {h : Hd} {ks : List Nd} {m : Int} {d n : Nat} {K : Int} (hK : kindAt h.kind m = K) (hi : innerB h m = true) :
    tdN (.mk h ks) m d n = (if fullB (ownH h K) (hasK (tdL ks K (d + 1) n).1) then [.mk (ownH h K) (tdL ks K (d + 1) n).1] else [], (tdL ks K (d + 1) n).2) := by
  rw [tdN_mk, if_pos hi, hK]
theorem td_out {h : Hd} {ks : List Nd} {m : Int} {d n : Nat} {K : Int} (hK : kindAt h.kind m = K) (hi : innerB h m = false) (hm : mayK h.kind = true) :
    tdN (.mk h ks) m d n = ((if fullB (ownH h K) false then [.mk (ownH h K) []] else []) ++ (tdL ks m d n).1, (tdL ks m d n).2) := by
  rw [tdN_mk, if_neg (by rw [hi]; simp), hK, if_pos hm, if_pos hm]
theorem td_no {h : Hd} {ks : List Nd} {m : Int} {d n : Nat} {K : Int} (hK : kindAt h.kind m = K) (hm : mayK h.kind = false) :
    tdN (.mk h ks) m d n = (if fullB (ownH h K) false then [.mk (ownH h K) []] else [], n) := by
  have hi : innerB h m = false := by unfold innerB; rw [hm]; rfl
  rw [tdN_mk, if_neg (by rw [hi]; simp), hK]
  simp [hm]
theorem full_kind4 {h : Hd} (hk : h.kind = 4) (b : Bool) : fullB h b = true := by unfold fullB; rw [hk]; rfl
theorem NsS.parts {S : Nat → Prop} {w : World} {v : Value} {l : List Nd} (h : NsS S w v l) : ∃ L : List NV, L.length = l.length ∧ Fs 10 ncell w v L ∧ ∀ (i : Nat) x y, L[i]? = some x → l[i]? = some y → HdIs S w x y.hd ∧ NsS S w (pv x.kids) y.kids := by
  cases h with
  | mk _ _ L hl hs hh hk => exact ⟨L, hl, hs.1, fun i x y a b => ⟨hh i x y a b, hk i x y a b⟩⟩
end Go.Proofs.YtienjlbpaedbjaaDoor
namespace Go.Proofs.YtienjlbpaedbjaaDoor
open Go.RowKit

def NV.wk (y : NV) (s : PV) : NV := ⟨y.kind, y.line, y.n, y.text, s, y.rows, y.cols, y.trows, y.box, y.all⟩
/-- The two nodes of tidy's round, and what the second says. -/
structure TR (SI : Nat → Prop) (base : Nat) (wo : World) (x : NV) (gy : Nat) (y : NV) (hy : Hd) (W : World) : Prop where
  ts : TS wo x gy y W
  hd : HdIs (fun b => SI b ∨ (wo.heap.size < b ∧ b < gy)) W y hy
  lt : ∀ b, SI b → b < base
  le : base ≤ wo.heap.size
section
variable {SI : Nat → Prop} {base gy : Nat} {wo W W' : World} {x y : NV} {hy : Hd} {v : Value} {l : List Nd}
theorem TR.old (h : TR SI base wo x gy y hy W) (b : Nat) (q : SI b ∨ (wo.heap.size < b ∧ b < gy)) : b < W.heap.size ∧ b ≠ gy := by
  have h1 := h.ts.sz
  have h2 := h.ts.bel.size
  have h3 := h.le
  have h4 := h.ts.lt
  rcases q with q | q
  · have := h.lt b q
    omega
  · omega
theorem TR.keep (h : TR SI base wo x gy y hy W) (hb : Below W.heap.size W W') : TR SI base wo x gy y hy W' :=
  ⟨h.ts.keep hb, h.hd.keep (fun b q => hb.block b (h.old b q).1), h.lt, h.le⟩
theorem TR.setK (h : TR SI base wo x gy y hy W) (s : PV) : TR SI base wo x gy (y.wk s) hy (W.setCell ⟨gy, 4, none⟩ (pv s)) := by
  have k := h.hd.keep (w' := W.setCell ⟨gy, 4, none⟩ (pv s)) (fun b q => Below.heap_setCell W ⟨gy, 4, none⟩ (pv s) b (h.old b q).2)
  exact ⟨h.ts.set 4 _ rfl, ⟨k.kind, k.line, k.n, k.text, k.rows, k.cols, k.trows, k.box, k.all⟩, h.lt, h.le⟩
theorem TR.start {w2 : World} (h1 : ∀ b, SI b → b < base) (h2 : base ≤ wo.heap.size) (hb : Below (wo.heap.size + 1) (wo.alloc (.cells (ncell x).toArray 39)) w2) (hh : HdIs (fun b => SI b ∨ (wo.heap.size + 1 ≤ b ∧ b < w2.heap.size)) w2 y hy) :
    TR SI base wo x w2.heap.size y hy (w2.alloc (.cells (ncell y).toArray 39)) := by
  have b0 := below_lit wo (.cells (ncell x).toArray 39)
  have b2 := below_lit w2 (.cells (ncell y).toArray 39)
  have hs := hb.size
  rw [World.size_alloc] at hs
  have bx : Blk w2 wo.heap.size 39 (ncell x) := (hb.block wo.heap.size (by omega)).trans (heap_alloc_new wo _)
  refine ⟨⟨(b0.trans (hb.mono (by omega))).trans (b2.mono (by omega)), bx.below b2, heap_alloc_new w2 _, by omega⟩, ?_, h1, h2⟩
  refine (hh.mono ?_).keep (fun b q => b2.block b ?_)
  · rintro b (q | q)
    · exact .inl q
    · exact .inr (by omega)
  · rcases q with q | q
    · have := h1 b q
      omega
    · exact q.2
/-- The second node behind the others. -/
theorem TR.push (h : TR SI base wo x gy y hy W) (hi : NInv SI base wo v l) {kl : List Nd} (hk : NsS (fun b => SI b ∨ (wo.heap.size ≤ b ∧ b < W.heap.size)) W (pv y.kids) kl) (hl : l.length ≤ 500000) :
    ∃ a' c' w', (appN #[v, .slice (some ⟨W.heap.size, 0, none⟩) 1 1]).run Tryd.prog (W.alloc (.cells (ncell y).toArray 39)) = .ok (.value (.slice a' (l.length + 1) c')) w' ∧ NInv SI base w' (.slice a' (l.length + 1) c') (l ++ [.mk hy kl]) ∧ Below base W w' ∧ Blk w' wo.heap.size 39 (ncell x) := by
  have hz := h.ts.bel.size
  have hle := h.le
  obtain ⟨a', c', w', hr, hI, hb, ho⟩ := (hi.keep h.ts.bel).push (y := .mk hy kl) (T := fun b => SI b ∨ (wo.heap.size ≤ b ∧ b < W.heap.size)) (fun b q => q.imp id fun q => ⟨by omega, q.2, hi.old q.1⟩)
    (h.hd.mono fun b q => q.imp id fun q => ⟨by omega, Nat.lt_trans q.2 h.ts.sz⟩) hk hl
  exact ⟨a', c', w', hr, hI, hb, (ho wo.heap.size (by have := h.ts.sz; have := h.ts.lt; omega) (hi.old (Nat.le_refl _))).trans h.ts.bx⟩
/-- What was put right within, behind the others. -/
theorem NInv.kids (h : NInv SI base W v l) (hb : Below W.heap.size W W') {s : PV} {m : List Nd} (hs : NsS (fun b => SI b ∨ (W.heap.size ≤ b ∧ b < W'.heap.size)) W' (pv s) m) (hd : l.length + m.length ≤ 1000000) :
    ∃ a' c' w', (appN #[v, pv s]).run Tryd.prog W' = .ok (.value (.slice a' (l.length + m.length) c')) w' ∧ NInv SI base w' (.slice a' (l.length + m.length) c') (l ++ m) ∧ Below base W' w' := by
  obtain ⟨M, hM, hu, hm⟩ := hs.parts
  have hz := h.sz
  obtain ⟨a', c', w', hr, hi, hb', -⟩ := (h.keep hb).app (M := M) (m := m) (T := fun b => SI b ∨ (W.heap.size ≤ b ∧ b < W'.heap.size)) hu hM (fun b q => q.imp id fun q => ⟨by omega, q.2, h.old q.1⟩) hm hd
  exact ⟨a', c', w', hr, hi, hb'⟩
end
theorem td_len (l : List Nd) (m : Int) (d n : Nat) : (tdL l m d n).1.length + (tdL l m d n).2 ≤ n := by
  have h1 := tdL_cnt l m d n
  have h2 := cnt_len (tdL l m d n).1
  omega
end Go.Proofs.YtienjlbpaedbjaaDoor
