/- Kind and Place over errors, nil or not, as the first of what is told. -/
import Derived.Test.YtalopkplpbdgjaaDoorZ7
namespace Go.Proofs.YtalopkplpbdgjaaDoor
open Go.RowKit Go.Shelf Go.Extern.Stop Go.Stop Go.Extern

/-- The first of ds, or none. -/
def head0 (ds : List D) : D := ds.headD (0, 0, 0)
theorem kind_eo {w : World} {n : Nat} {v : Value} {ds : List D} (h : EO w n v ds) (hn : n ≤ 1000) (hE : ErrType w) : Calls Tryd.prog 15 #[v] w fun e W' => e = .returned (.int .i64 (head0 ds).1) ∧ Below w.heap.size w W' := by
  rcases h with ⟨rfl, rfl⟩ | ⟨t, x, rfl, h⟩
  · exact kind_nil w
  · rcases ds with _ | ⟨⟨k, l, c⟩, rest⟩
    · exact absurd rfl h.ne_nil
    · exact kind_any w n hn hE t x k l c rest h
theorem place_eo {w : World} {n : Nat} {v : Value} {ds : List D} (h : EO w n v ds) (hn : n ≤ 1000) (hE : ErrType w) : Calls Tryd.prog 12 #[v] w fun e W' => e = .returned (.tuple #[.int .i64 (head0 ds).2.1, .int .i64 (head0 ds).2.2]) ∧ Below w.heap.size w W' := by
  rcases h with ⟨rfl, rfl⟩ | ⟨t, x, rfl, h⟩
  · exact place_nil w
  · rcases ds with _ | ⟨⟨k, l, c⟩, rest⟩
    · exact absurd rfl h.ne_nil
    · exact place_any w n hn hE t x k l c rest h
theorem EO.isNil {w : World} {n : Nat} {v : Value} {ds : List D} (h : EO w n v ds) : (v = .nilIface ∧ ds.length = 0) ∨ (∃ t x, v = .iface t x ∧ 0 < ds.length) := by
  rcases h with ⟨rfl, rfl⟩ | ⟨t, x, rfl, h⟩
  · exact .inl ⟨rfl, rfl⟩
  · exact .inr ⟨t, x, rfl, List.length_pos_iff.2 h.ne_nil⟩
end Go.Proofs.YtalopkplpbdgjaaDoor
