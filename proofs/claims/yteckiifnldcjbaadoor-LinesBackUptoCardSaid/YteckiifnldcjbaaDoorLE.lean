/- Rows put behind rows whose arguments lie elsewhere. -/
import Derived.Test.YteckiifnldcjbaaDoorLB
import Derived.Test.YteckiifnldcjbaaDoorLD
import Derived.Test.YteckiifnldcjbaaDoorKK
namespace Go.Proofs.YteckiifnldcjbaaDoor
open Go.RowKit

noncomputable def appR (args : Array Value) : Sem Next := do pure (.value (← Builtin.append_ #[29, 29] 29 args))
theorem builtin_appR (cs : Array Bool) (args : Array Value) : builtin .append #[29, 29] 29 cs args = appR args := rfl
theorem AllIs.app {A : Value → List (List UInt8) → Prop} {L : List RV} {l : List Row} (h : AllIs A L l) : ∀ {M : List RV} {m : List Row}, AllIs A M m → AllIs A (L ++ M) (l ++ m) := by
  intro M m k
  refine ⟨by simp [h.1, k.1], fun j x y h1 h2 => ?_⟩
  by_cases hj : j < L.length
  · rw [List.getElem?_append_left hj] at h1
    rw [List.getElem?_append_left (by rw [← h.1]; exact hj)] at h2
    exact h.2 j x y h1 h2
  · rw [List.getElem?_append_right (by omega)] at h1
    rw [List.getElem?_append_right (by rw [← h.1]; omega), ← h.1] at h2
    exact k.2 _ x y h1 h2
/-- A row of rows that is this walk's own; what its rows' arguments are was there before. -/
structure RwA (W3 W : World) (v : Value) (l : List Row) : Prop where
  own : ∃ L, VOwn W3.heap.size W v L ∧ AllIs (Ss W3) L l
  bel : Below W3.heap.size W3 W
theorem RwA.start (W3 : World) : RwA W3 W3 (.slice none 0 0) [] := ⟨⟨[], FOwn.nil _ _, AllIs.nil _⟩, Below.refl _ _⟩
theorem RwA.keep {W3 W W' : World} {v : Value} {l : List Row} (h : RwA W3 W v l) (hb : Below W.heap.size W W') : RwA W3 W' v l := by
  obtain ⟨⟨L, hL, hA⟩, hl⟩ := h
  exact ⟨⟨L, hL.keep hb, hA⟩, hl.trans (hb.mono hl.size)⟩
theorem RwA.app {W3 W : World} {v u : Value} {l m : List Row} (h : RwA W3 W v l) (hu : Rws W3 u m) (hd : l.length + m.length ≤ 1000000) :
    ∃ v' w', (appR #[v, u]).run Tryd.prog W = .ok (.value v') w' ∧ RwA W3 w' v' (l ++ m) := by
  obtain ⟨⟨L, hL, hA⟩, hl⟩ := h
  obtain ⟨M, hM, hB⟩ := hu
  obtain ⟨i0, hi, hz0, hz1, hz2⟩ := info_parts infoRw
  obtain ⟨v', w', hr, ho, hg, -⟩ := fapp rcell_len rcell_one (by decide) Tryd.underlying29 hi hz0 hz1 hz2 rfl (by decide) hL (hM.below hl) hl.size (by rw [hA.1, hB.1]; exact hd)
  refine ⟨v', w', ?_, ⟨L ++ M, ho, hA.app hB⟩, ?_⟩
  · unfold appR
    simp only [Sem.run_bind, Sem.run_pure, Result.andThen_ok, hr]
  · exact hl.grown hg hl.size (fun j e => (hL.ty e).1)
theorem RwA.push {W3 W : World} {v : Value} {l : List Row} (h : RwA W3 W v l) (hd : l.length ≤ 500000) (y : Row) (a : Option Addr × Nat × Nat) (hA : Ss W3 (avOf a) y.2.2.1) (C : Array Value) (hC : C = (rcell (y.1, y.2.1, a, y.2.2.2)).toArray) :
    ∃ v' w', (appR #[v, .slice (some ⟨W.heap.size, 0, none⟩) 1 1]).run Tryd.prog (W.alloc (.cells C 34)) = .ok (.value v') w' ∧ RwA W3 w' v' (l ++ [y]) := by
  have b1 := below_lit W (.cells C 34)
  obtain ⟨⟨L, hL, hAA⟩, hl⟩ := h.keep b1
  obtain ⟨i0, hi, hz0, hz1, hz2⟩ := info_parts infoRw
  have hu : Fs 4 rcell (W.alloc (.cells C 34)) (.slice (some ⟨W.heap.size, 0, none⟩) 1 1) [(y.1, y.2.1, a, y.2.2.2)] := by
    have := fs_lit rcell_len W 34 [(y.1, y.2.1, a, y.2.2.2)]
    rw [flatV_one, ← hC] at this
    exact this
  obtain ⟨v', w', hr, ho, hg, -⟩ := fapp rcell_len rcell_one (by decide) Tryd.underlying29 hi hz0 hz1 hz2 rfl (by decide) hL hu hl.size (by rw [hAA.1]; simp; omega)
  refine ⟨v', w', ?_, ⟨_, ho, hAA.snoc ⟨rfl, rfl, rfl, hA⟩⟩, ?_⟩
  · unfold appR
    simp only [Sem.run_bind, Sem.run_pure, Result.andThen_ok, hr]
  · exact hl.grown hg hl.size (fun j e => (hL.ty e).1)
theorem RwA.fin {W3 W : World} {v : Value} {l : List Row} (h : RwA W3 W v l) : Rws W v l := by
  obtain ⟨⟨L, hL, hA⟩, hl⟩ := h
  exact ⟨L, FOwn.sl rcell_len hL, hA.mono fun v a ha => ha.below hl⟩
theorem RwA.len {W3 W : World} {v : Value} {l : List Row} (h : RwA W3 W v l) : ∃ a cap, v = .slice a l.length cap := h.fin.len
end Go.Proofs.YteckiifnldcjbaaDoor
