/- Rows of rows: slices of slices of glyphs that the call owns; what the closure of Runs leaves. -/
import Derived.Test.YtkiglnfapoifiaaDoorN1
namespace Go.Proofs.YtkiglnfapoifiaaDoor
open Go.RowKit

abbrev SV := Option Addr × Nat × Nat
def sv (s : SV) : Value := .slice s.1 s.2.1 s.2.2
def fS (s : SV) : List Value := [sv s]
theorem fS_len (s : SV) : (fS s).length = 1 := rfl
theorem fS_one (s : SV) : ∀ u ∈ fS s, u.oneCell' = true := by
  intro u hu
  simp [fS] at hu
  subst hu
  rfl
theorem infoS : (Tryd.prog.info? 22).map (fun i => (i.zero, i.size, i.bytes)) = some (some (.slice none 0 0), 1, 24) := by kernel_rfl

abbrev SOwn (base : Nat) (W : World) (x : Value) (ss : List SV) : Prop := FOwn 22 1 fS base W x ss

theorem FOwn.ty {α : Type} {e n : Nat} {f : α → List Value} {base : Nat} {W : World} {x : Value} {l : List α} (h : FOwn e n f base W x l) {g : Nat} (hg : x.ownBlock = some g) : base ≤ g ∧ ∃ cur, W.heap[g]? = some (.cells cur e (0, 0)) := by
  rcases h.2 with ⟨rfl, _⟩ | ⟨g', cap, cur, rfl, hb, hh, _⟩
  · cases hg
  · simp only [Value.ownBlock, Option.some.injEq] at hg
    subst hg
    exact ⟨hb, cur, hh⟩
theorem ty_apart {α β : Type} {e n e' n' : Nat} {f : α → List Value} {f' : β → List Value} {base base' : Nat} {W : World} {x y : Value} {l : List α} {m : List β} (h1 : FOwn e n f base W x l) (h2 : FOwn e' n' f' base' W y m) (he : e ≠ e') :
    x.ownBlock = none ∨ x.ownBlock ≠ y.ownBlock := by
  cases hx : x.ownBlock with
  | none => exact .inl rfl
  | some g =>
    refine .inr fun h => ?_
    obtain ⟨-, c1, e1⟩ := h1.ty hx
    obtain ⟨-, c2, e2⟩ := h2.ty h.symm
    rw [e1] at e2
    injection e2 with e2
    injection e2 with _ e3 _
    exact he e3

/-- A slice of the call's own, of rows of the call's own. -/
def Rws (base : Nat) (W : World) (v : Value) (rs : List (List Gly)) : Prop :=
  ∃ ss : List SV, ss.length = rs.length ∧ SOwn base W v ss ∧ ∀ (i : Nat) (s : SV) (r : List Gly), ss[i]? = some s → rs[i]? = some r → GOwn base W (sv s) r
theorem Rws.nil (base : Nat) (W : World) : Rws base W (.slice none 0 0) [] := ⟨[], rfl, FOwn.nil _ _, fun i s r h => by simp at h⟩
theorem Rws.keep {base : Nat} {W W' : World} {v : Value} {rs : List (List Gly)} (h : Rws base W v rs) (hb : Below W.heap.size W W') : Rws base W' v rs := by
  obtain ⟨ss, hl, ho, hi⟩ := h
  exact ⟨ss, hl, ho.keep hb, fun i s r hs hr => (hi i s r hs hr).keep hb⟩
theorem Rws.mono {base base' : Nat} {W : World} {v : Value} {rs : List (List Gly)} (h : Rws base W v rs) (hb : base' ≤ base) : Rws base' W v rs := by
  obtain ⟨ss, hl, ho, hi⟩ := h
  exact ⟨ss, hl, ho.mono hb, fun i s r hs hr => (hi i s r hs hr).mono hb⟩
theorem Rws.set {base : Nat} {W : World} {v : Value} {rs : List (List Gly)} (h : Rws base W v rs) {a : Addr} (ha : a.block < base) (u : Value) : Rws base (W.setCell a u) v rs := by
  obtain ⟨ss, hl, ho, hi⟩ := h
  exact ⟨ss, hl, ownsRow_setCell_below ho ha u, fun i s r hs hr => ownsRow_setCell_below (hi i s r hs hr) ha u⟩
theorem Rws.len {base : Nat} {W : World} {v : Value} {rs : List (List Gly)} (h : Rws base W v rs) : ∃ a cap, v = .slice a rs.length cap := by
  obtain ⟨ss, hl, ho, hi⟩ := h
  rw [← hl]
  exact (FOwn.sl fS_len ho).len
theorem Rws.at {base : Nat} {W : World} {a : Option Addr} {k cap : Nat} {rs : List (List Gly)} (h : Rws base W (.slice a k cap) rs) {i : Nat} {r : List Gly} (hr : rs[i]? = some r) :
    ∃ b off ar c, a = some ⟨b, off, none⟩ ∧ W.cell? ⟨b, off + i, none⟩ = some (.slice ar r.length c) ∧ GOwn base W (.slice ar r.length c) r := by
  obtain ⟨ss, hl, ho, hi⟩ := h
  have hlt := (List.getElem?_eq_some_iff.1 hr).1
  have hs : ss[i]? = some (ss[i]'(by omega)) := List.getElem?_eq_getElem (by omega)
  have hg := hi i _ r hs hr
  obtain ⟨a', cap', hv, _, hrd⟩ := FOwn.sl fS_len ho
  injection hv with h1 h2 h3
  subst h1
  obtain ⟨b, off, rfl, h0⟩ := hrd i _ hs
  have c0 := h0 0 _ rfl
  obtain ⟨ar, c, hsv⟩ := (FOwn.sl gcell_len hg).len
  rw [Nat.mul_one, Nat.add_zero, hsv] at c0
  rw [hsv] at hg
  exact ⟨b, off, ar, c, rfl, c0, hg⟩
theorem Rws.push {base : Nat} {W : World} {v : Value} {rs : List (List Gly)} {s : SV} {r : List Gly} (h : Rws base W v rs) (hr : GOwn base W (sv s) r) (hb : base ≤ W.heap.size) (hl : rs.length ≤ 500000) :
    ∃ v' w', (Builtin.append_ #[29, 29] 29 #[v, .slice (some ⟨W.heap.size, 0, none⟩) 1 1]).run Tryd.prog (W.alloc (.cells #[sv s] 22)) = .ok v' w' ∧ Rws base w' v' (rs ++ [r]) ∧
      (W.alloc (.cells #[sv s] 22)).grownBy w' v.ownBlock ∧ (∀ g, v.ownBlock = some g → base ≤ g) := by
  obtain ⟨i0, hi0, hz0, hz1, hz2⟩ := info_parts infoS
  obtain ⟨ss, hsl, ho, hi⟩ := h
  have hb1 := below_lit W (.cells #[sv s] 22)
  have h1 : SOwn base (W.alloc (.cells #[sv s] 22)) v ss := ho.keep hb1
  obtain ⟨x', w', hrun, ho', hg, -⟩ := fapp fS_len fS_one (by decide) Tryd.underlying29 hi0 hz0 hz1 hz2 rfl (by decide) h1 (fs_lit fS_len W 22 [s]) (by simp; omega) (by simp; omega)
  refine ⟨x', w', hrun, ⟨ss ++ [s], by simp [hsl], ho', fun i s' r' hs' hr' => ?_⟩, hg, fun g hgg => (ho.ty hgg).1⟩
  by_cases hil : i < ss.length
  · rw [List.getElem?_append_left hil] at hs'
    rw [List.getElem?_append_left (by omega)] at hr'
    have hk : GOwn base (W.alloc (.cells #[sv s] 22)) (sv s') r' := (hi i s' r' hs' hr').keep hb1
    exact FOwn.apart hk hg (ty_apart hk h1 (by decide))
  · rw [List.getElem?_append_right (by omega)] at hs'
    rw [List.getElem?_append_right (by omega), ← hsl] at hr'
    have hk : GOwn base (W.alloc (.cells #[sv s] 22)) (sv s) r := hr.keep hb1
    match hq : i - ss.length, hs', hr' with
    | 0, hs', hr' =>
      simp at hs' hr'
      subst hs' hr'
      exact FOwn.apart hk hg (ty_apart hk h1 (by decide))
    | q + 1, hs', hr' => simp at hs'

/-- 'v[q:k]'. -/
theorem Fs.mid {α : Type} {n : Nat} {f : α → List Value} {e : Nat} {P : Program} {w : World} {v : Value} {l : List α} {t : TypeId} {i0 : TypeInfo} (ht : P.underlying t = some (.slice e)) (hi : P.info? e = some i0) (hz1 : i0.size = n) (h : Fs n f w v l) (q k : Nat) (hq : q ≤ k) (hk : k ≤ l.length) :
    ∃ u, (∀ W : World, (Instr.slice t v (some (.int .i64 (q : Int))) (some (.int .i64 (k : Int))) none).run P W = .ok u W) ∧ Fs n f w u ((l.take k).drop q) := by
  obtain ⟨a, cap, rfl, hc, hr⟩ := h
  refine ⟨.slice (if cap = q then a else a.map (·.add (q * n))) (k - q) (cap - q), fun W => ?_, ?_⟩
  · have h1 : k ≤ cap := by omega
    simp [Instr.slice, Instr.sliceBounds, Instr.sliceBound, asIntOf, run_underlying ht, h1, hq, sizeOf, typeInfo, hi, hz1]
  · have hl : ((l.take k).drop q).length = k - q := by rw [List.length_drop, List.length_take]; omega
    refine ⟨_, _, by rw [hl], by rw [hl]; omega, fun j x hj => ?_⟩
    have hj1 : j < k - q := by
      have := (List.getElem?_eq_some_iff.1 hj).1
      omega
    rw [List.getElem?_drop, List.getElem?_take_of_lt (by omega)] at hj
    obtain ⟨g, off, rfl, h0⟩ := hr (q + j) x hj
    rw [if_neg (by omega)]
    refine ⟨g, off + q * n, ?_, fun i c hi => ?_⟩
    · simp only [Option.map_some, Option.some.injEq]
      rw [Addr.add_lit]
    · have := h0 i c hi
      rw [show off + q * n + (j * n + i) = off + ((q + j) * n + i) by rw [Nat.add_mul]; omega]
      exact this
noncomputable def midG (x lo hi : Value) : Sem Value := Instr.slice 22 x (some lo) (some hi) none
theorem slice_midG (x lo hi : Value) : Instr.slice 22 x (some lo) (some hi) none = midG x lo hi := rfl
theorem midG_run {w : World} {v : Value} {l : List Gly} (h : Gs w v l) (q k : Nat) (hq : q ≤ k) (hk : k ≤ l.length) :
    ∃ u, (∀ W : World, (midG v (.int .i64 (q : Int)) (.int .i64 (k : Int))).run Tryd.prog W = .ok u W) ∧ Gs w u ((l.take k).drop q) := by
  obtain ⟨i0, hi, hz0, hz1, hz2⟩ := info_parts infoG
  exact Fs.mid Tryd.underlying22 hi hz1 h q k hq hk
noncomputable def appS (args : Array Value) : Sem Next := do pure (.value (← Builtin.append_ #[29, 29] 29 args))
theorem builtin_appS (cs : Array Bool) (args : Array Value) : builtin .append #[29, 29] 29 cs args = appS args := rfl
theorem appS_of {W W' : World} {args : Array Value} {v : Value} (h : (Builtin.append_ #[29, 29] 29 args).run Tryd.prog W = .ok v W') : (appS args).run Tryd.prog W = .ok (.value v) W' := by
  unfold appS
  simp only [Sem.run_bind, Sem.run_pure, Result.andThen_ok, h]

/-- An append whose run is known, as one step of a region that draws. -/
theorem step_append_run {P : Program} {ops : Array Oper} {o : Oper} {a : Act} {w : World} {K : Act → World → Prop} {Q : Exit → Act → World → Prop} {E : Prop}
    (hgd : o.guard = none) (d s : Operand) (t t' : TypeId) (hop : o.op = Op.call { callee := Callee.builtin Builtin.append, args := #[d, s], argTypes := #[t, t'] })
    (vd vs : Value) (hd : a.eval d = vd) (hs : a.eval s = vs) {v' : Value} {w' : World} (hrun : (Builtin.append_ #[t, t'] o.type #[vd, vs]).run P w = .ok v' w') (hK : K (a.put o.dst v') w') :
    if Region.wanted o (yielded ops a.tmps) = true then Oper.wp P o a w K Q else E := by
  have hw : Region.wanted o (yielded ops a.tmps) = true := by simp [Region.wanted, hgd]
  rw [if_pos hw]
  unfold Oper.wp
  have hb : builtin .append #[t, t'] o.type = fun _ args => (do pure (.value (← Builtin.append_ #[t, t'] o.type args)) : Sem Next) := rfl
  simp [execOp, hop, resolve, invoke, hb, hd, hs, hrun, Result.andThen]
  exact hK

/-- The world while Runs runs: the box of l, that of the rows, that of from. -/
structure RunW (w : World) (lv : Value) (W : World) (rs : List (List Gly)) (fr : Nat) : Prop where
  bel : Below w.heap.size w W
  big : w.heap.size + 3 ≤ W.heap.size
  cl : W.cell? ⟨w.heap.size, 0, none⟩ = some lv
  row : ∃ v, W.cell? ⟨w.heap.size + 1, 0, none⟩ = some v ∧ Rws (w.heap.size + 3) W v rs
  cf : W.cell? ⟨w.heap.size + 2, 0, none⟩ = some (.int .i64 (fr : Int))
  f1 : W.frozen? ⟨w.heap.size + 1, 0, none⟩ = false
  f2 : W.frozen? ⟨w.heap.size + 2, 0, none⟩ = false
theorem RunW.keep {w : World} {lv : Value} {W W' : World} {rs : List (List Gly)} {fr : Nat} (h : RunW w lv W rs fr) (hb : Below W.heap.size W W') : RunW w lv W' rs fr := by
  have hbig := h.big
  obtain ⟨v, hv, hr⟩ := h.row
  exact ⟨h.bel.trans (hb.mono h.bel.size), Nat.le_trans hbig hb.size, (hb.cell (p := ⟨w.heap.size, 0, none⟩) (by simp only; omega)).trans h.cl, ⟨v, (hb.cell (p := ⟨w.heap.size + 1, 0, none⟩) (by simp only; omega)).trans hv, hr.keep hb⟩,
    (hb.cell (p := ⟨w.heap.size + 2, 0, none⟩) (by simp only; omega)).trans h.cf, (hb.frozen (p := ⟨w.heap.size + 1, 0, none⟩) (by simp only; omega)).trans h.f1, (hb.frozen (p := ⟨w.heap.size + 2, 0, none⟩) (by simp only; omega)).trans h.f2⟩
theorem grown_cell {W W' : World} {row : Option Nat} (h : W.grownBy W' row) {b : Nat} (hb : b < W.heap.size) (hr : row ≠ some b) : W'.cell? ⟨b, 0, none⟩ = W.cell? ⟨b, 0, none⟩ ∧ W'.frozen? ⟨b, 0, none⟩ = W.frozen? ⟨b, 0, none⟩ :=
  ⟨World.cell?_of_block (w := W) (h.block b hb (fun e => hr e.symm)), World.frozen?_of_block (w := W) (h.block b hb (fun e => hr e.symm))⟩
theorem RunW.push {w : World} {lv : Value} {W W1 : World} {rs : List (List Gly)} {fr : Nat} (h : RunW w lv W rs fr) (b1 : Below W.heap.size W W1) {s : SV} {r : List Gly} (o1 : GOwn W.heap.size W1 (sv s) r) (hl : rs.length ≤ 500000) (to : Nat) {v : Value} (hv : W.cell? ⟨w.heap.size + 1, 0, none⟩ = some v) :
    ∃ v' w2, (∃ av n cv, v' = .slice av n cv) ∧ (Builtin.append_ #[29, 29] 29 #[v, .slice (some ⟨W1.heap.size, 0, none⟩) 1 1]).run Tryd.prog (W1.alloc (.cells #[sv s] 22)) = .ok v' w2 ∧
      w2.cell? ⟨w.heap.size + 1, 0, none⟩ = some v ∧ w2.cell? ⟨w.heap.size + 2, 0, none⟩ = some (.int .i64 (fr : Int)) ∧ w2.frozen? ⟨w.heap.size + 1, 0, none⟩ = false ∧ w2.frozen? ⟨w.heap.size + 2, 0, none⟩ = false ∧
      RunW w lv ((w2.setCell ⟨w.heap.size + 1, 0, none⟩ v').setCell ⟨w.heap.size + 2, 0, none⟩ (.int .i64 (to : Int))) (rs ++ [r]) to := by
  have h1 := h.keep b1
  have hbig := h.big
  have hbig1 := h1.big
  obtain ⟨v0, hv0, hr0⟩ := h1.row
  have e : v0 = v := by
    have := (b1.cell (p := ⟨w.heap.size + 1, 0, none⟩) (by simp only; omega)).trans hv
    rw [this] at hv0
    exact (Option.some.inj hv0).symm
  subst e
  obtain ⟨v', w2, hrun, hr2, hg, hge⟩ := hr0.push (o1.mono (by omega)) hbig1 hl
  have ha := below_lit W1 (.cells #[sv s] 22)
  have h2 := h1.keep ha
  have hne : ∀ k, k < 3 → v0.ownBlock ≠ some (w.heap.size + k) := fun k hk e => by have := hge _ e; omega
  have sz : w.heap.size + 3 ≤ (W1.alloc (.cells #[sv s] 22)).heap.size := h2.big
  have g0 := grown_cell hg (b := w.heap.size) (by omega) (by have := hne 0 (by omega); simpa using this)
  have g1 := grown_cell hg (b := w.heap.size + 1) (by omega) (hne 1 (by omega))
  have g2 := grown_cell hg (b := w.heap.size + 2) (by omega) (hne 2 (by omega))
  have c1 : w2.cell? ⟨w.heap.size + 1, 0, none⟩ = some v0 := g1.1.trans ((ha.cell (p := ⟨w.heap.size + 1, 0, none⟩) (by simp only; omega)).trans hv0)
  have bl : Below w.heap.size w w2 := h2.bel.grown hg h2.bel.size (fun k e => by have := hge k e; omega)
  have s2 := hg.size
  obtain ⟨av, cv, hvs⟩ := hr2.len
  refine ⟨v', w2, ⟨av, _, cv, hvs⟩, hrun, c1, g2.1.trans h2.cf, g1.2.trans h2.f1, g2.2.trans h2.f2, ⟨(bl.setCell (by simp only; omega) _).setCell (by simp only; omega) _, ?_, ?_, ⟨v', ?_, (hr2.set (by simp only; omega) _).set (by simp only; omega) _⟩, ?_, ?_, ?_⟩⟩
  · simp; omega
  · have c0 := g0.1.trans h2.cl
    simp [go_sem, c0]
  · simp [go_sem, c1]
  · have c2 := g2.1.trans h2.cf
    simp [go_sem, c2]
  · have q1 := g1.2.trans h2.f1
    simp [go_sem, q1]
  · have q2 := g2.2.trans h2.f2
    simp [go_sem, q2]
end Go.Proofs.YtkiglnfapoifiaaDoor
