/- A slice of structs of four numbers that came in: opened. -/
import Derived.Test.YtalopkplpbdgjaaDoorRb
import Derived.Test.YtalopkplpbdgjaaDoorZ4
import Derived.Carry
import Derived.Deep.Slices
namespace Go.Proofs.YtalopkplpbdgjaaDoor
open Go.ChangeShapes Go.WideShapes Go.ChangeAt Go.RowKit Go.Joins

theorem laidOut : laidOutB Tryd.prog = true := by kernel_rfl
theorem cells54 : Tryd.prog.cellsOf 54 = 4 := by kernel_rfl
theorem cells3 : Tryd.prog.cellsOf 3 = 1 := by kernel_rfl

variable {H : Type} {enc : TypeId × Value → H} {W : World}

set_option maxRecDepth 100000 in
theorem do_cells {base : Nat} {sp : Nat → Bool} {held : Bool} {n : Nat} {cs : List Value} {x : DataW H × List MemPlace} (h : DataW.trod enc Tryd.prog W base sp held n 54 cs = some x) :
    ∃ d : Do4, cs[0]? = some (.int .i64 d.1) ∧ cs[1]? = some (.int .i64 d.2.1) ∧ cs[2]? = some (.int .i64 d.2.2.1) ∧ cs[3]? = some (.int .i64 d.2.2.2) := by
  obtain ⟨y0, y1, y2, y3, m, _, hl, h0, h1, h2, h3⟩ := trod_struct4 Tryd.underlying54 h
  obtain ⟨a, e0, _, _⟩ := DataW.trod_int Tryd.underlying3 h0
  obtain ⟨b, e1, _, _⟩ := DataW.trod_int Tryd.underlying3 h1
  obtain ⟨c, e2, _, _⟩ := DataW.trod_int Tryd.underlying3 h2
  obtain ⟨d, e3, _, _⟩ := DataW.trod_int Tryd.underlying3 h3
  have f0 := congrArg (·[0]?) e0
  have f1 := congrArg (·[0]?) e1
  have f2 := congrArg (·[0]?) e2
  have f3 := congrArg (·[0]?) e3
  simp only [List.getElem?_take, List.getElem?_drop, cells3] at f0 f1 f2 f3
  refine ⟨(a, b, c, d), ?_, ?_, ?_, ?_⟩
  · simpa using f0
  · simpa using f1
  · simpa using f2
  · simpa using f3

set_option maxRecDepth 100000 in
theorem do_open {r : Reach} {b0 : Nat} {v : Value} {d : DataW H} {p : List MemPlace} (hval : Value.okWide Tryd.prog W r b0 22 v) (h : DataW.Trod enc Tryd.prog W 0 (fun _ => true) true 22 v d p) :
    ∃ ds : List Do4, SDo W v ds := by
  obtain ⟨a, len, cap, rfl⟩ := okWide_slice Tryd.underlying22 hval
  obtain ⟨fu, hf⟩ := h
  rcases Deep.open_slice Tryd.underlying22 hf with ⟨hcs, hx⟩ | ⟨a', len', cap', m, n, D, Pl, hcs, _, hl, hm, hmm, hx, hel⟩
  · simp [Value.cells] at hcs
    obtain ⟨rfl, rfl, rfl⟩ := hcs
    exact ⟨[], none, 0, rfl, fun j d hj => by simp at hj⟩
  · simp [Value.cells] at hcs
    obtain ⟨rfl, rfl, rfl⟩ := hcs
    simp only [if_true] at hmm
    subst hmm
    have key : ∀ i, i < len → ∃ d : Do4, W.cell? ((a'.add (i * 4)).add 0) = some (.int .i64 d.1) ∧ W.cell? ((a'.add (i * 4)).add 1) = some (.int .i64 d.2.1) ∧ W.cell? ((a'.add (i * 4)).add 2) = some (.int .i64 d.2.2.1) ∧ W.cell? ((a'.add (i * 4)).add 3) = some (.int .i64 d.2.2.2) := by
      intro i hi
      obtain ⟨cs', h1, h2⟩ := hel i (by omega)
      rw [cells54] at h1
      obtain ⟨_, _, hc⟩ := World.cells?_some h1
      obtain ⟨d, e0, e1, e2, e3⟩ := do_cells h2
      exact ⟨d, (hc 0 (by omega)).trans e0, (hc 1 (by omega)).trans e1, (hc 2 (by omega)).trans e2, (hc 3 (by omega)).trans e3⟩
    obtain ⟨f, hf'⟩ := Deep.choose_lt key
    have hlen : ((List.range len).map f).length = len := by simp
    refine ⟨(List.range len).map f, some a', m, by rw [hlen], fun j d hj => ?_⟩
    have hj1 : j < len := by
      have := (List.getElem?_eq_some_iff.1 hj).1
      omega
    have hd : d = f j := by
      simp [hj1] at hj
      exact hj.symm
    subst hd
    obtain ⟨xb, xo, spot⟩ := a'
    have hspot : spot = none := by
      have := World.cell?_spot (hf' 0 (by omega)).1
      simpa [Addr.add] using this
    subst hspot
    obtain ⟨k0, k1, k2, k3⟩ := hf' j hj1
    simp only [Addr.add_lit] at k0 k1 k2 k3
    exact ⟨xb, xo, rfl, k0, k1, k2, k3⟩
end Go.Proofs.YtalopkplpbdgjaaDoor
