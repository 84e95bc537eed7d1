/- An api.Diag by value: opened and shut. -/
import Derived.Test.YtalopkplpbdgjaaDoorR
import Derived.Lib.SmallJoins
namespace Go.Proofs.YtalopkplpbdgjaaDoor
open Go.ChangeShapes Go.WideShapes Go.ChangeAt Go.RowKit Go.Joins

theorem cells29 : Tryd.prog.cellsOf 29 = 3 := by kernel_rfl
def diagD {H : Type} (k l c : Int) : DataW H := .agg [.lit (.int .i64 k), .lit (.int .i64 l), .lit (.int .i64 c)]

variable {H : Type} {enc : TypeId × Value → H} {w : World} {base : Nat} {spare : Nat → Bool} {held : Bool}
set_option maxRecDepth 100000 in
theorem open_diag {r : Reach} {b0 : Nat} {v : Value} {d : DataW H} {p : List MemPlace} (hv : Value.okWide Tryd.prog w r b0 29 v) (h : DataW.Trod enc Tryd.prog w base spare held 29 v d p) :
    ∃ k l c : Int, v = .agg #[.int .i64 k, .int .i64 l, .int .i64 c] ∧ d = diagD k l c ∧ p = [] ∧ (Lit.int .i64 k).wf = true ∧ (Lit.int .i64 l).wf = true ∧ (Lit.int .i64 c).wf = true := by
  obtain ⟨c0, c1, c2, y0, y1, y2, m, rfl, rfl, rfl, hy0, hy1, hy2⟩ := open_agg3 Tryd.underlying29 (by kernel_rfl) cells29 hv h
  obtain ⟨a, e0, rfl, wa⟩ := DataW.trod_int Tryd.underlying3 hy0
  obtain ⟨b, e1, rfl, wb⟩ := DataW.trod_int Tryd.underlying3 hy1
  obtain ⟨c, e2, rfl, wc⟩ := DataW.trod_int Tryd.underlying3 hy2
  simp at e0 e1 e2
  subst e0 e1 e2
  exact ⟨a, b, c, rfl, rfl, rfl, wa, wb, wc⟩
set_option maxRecDepth 100000 in
theorem shut_diag {k l c : Int} (wk : (Lit.int .i64 k).wf = true) (wl : (Lit.int .i64 l).wf = true) (wc : (Lit.int .i64 c).wf = true) :
    DataW.Trod enc Tryd.prog w base spare held 29 (.agg #[.int .i64 k, .int .i64 l, .int .i64 c]) (diagD k l c) [] :=
  shut_agg3 (y0 := (.lit (.int .i64 k), [])) (y1 := (.lit (.int .i64 l), [])) (y2 := (.lit (.int .i64 c), [])) Tryd.underlying29 (by kernel_rfl) cells29
    ⟨1, by simp [DataW.trod, Tryd.underlying3, wk]⟩ ⟨1, by simp [DataW.trod, Tryd.underlying3, wl]⟩ ⟨1, by simp [DataW.trod, Tryd.underlying3, wc]⟩
theorem u16_bd {x : Int} (h : (Lit.int .u16 x).wf = true) : 0 ≤ x ∧ x ≤ 65535 := by
  simp [Lit.wf, IntKind.min, IntKind.max, IntKind.signed, IntKind.bits] at h
  omega
end Go.Proofs.YtalopkplpbdgjaaDoor
