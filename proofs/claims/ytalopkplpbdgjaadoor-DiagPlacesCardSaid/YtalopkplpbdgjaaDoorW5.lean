/- Contracts of inside and made, at errors of this package's own types; old memory is as it was. -/
import Derived.Test.YtalopkplpbdgjaaDoorW4
import Derived.Test.YtalopkplpbdgjaaDoorAs
import Derived.Defers
import Derived.Recover
import Derived.Laws.Pointers
import Derived.Stop.Asserts
import Derived.LaidEql
import Derived.Lib.Hide
namespace Go.Proofs.YtalopkplpbdgjaaDoor
open Go.RowKit Go.Extern.Stop Go.Stop Go.Extern

theorem one_no_wrapper (v : Value) (xT : TypeId) (w : World) : (Instr.typeAssert (.iface 62 v) xT 110 true).run Tryd.prog w = .ok (.tuple #[.nilIface, .bool false]) w := run_typeAssert_lacksB Tryd.underlying110 (by kernel_rfl) (by kernel_rfl) v xT w
theorem one_no_bundle (v : Value) (xT : TypeId) (w : World) : (Instr.typeAssert (.iface 62 v) xT 111 true).run Tryd.prog w = .ok (.tuple #[.nilIface, .bool false]) w := run_typeAssert_lacksB Tryd.underlying111 (by kernel_rfl) (by kernel_rfl) v xT w
theorem moved_wrapper (v : Value) (xT : TypeId) (w : World) : (Instr.typeAssert (.iface 75 v) xT 110 true).run Tryd.prog w = .ok (.tuple #[.iface 75 v, .bool true]) w := run_typeAssert_hasB Tryd.underlying110 (by kernel_rfl) v xT w
theorem joined_no_wrapper (v : Value) (xT : TypeId) (w : World) : (Instr.typeAssert (.iface 78 v) xT 110 true).run Tryd.prog w = .ok (.tuple #[.nilIface, .bool false]) w := run_typeAssert_lacksB Tryd.underlying110 (by kernel_rfl) (by kernel_rfl) v xT w
theorem joined_bundle (v : Value) (xT : TypeId) (w : World) : (Instr.typeAssert (.iface 78 v) xT 111 true).run Tryd.prog w = .ok (.tuple #[.iface 78 v, .bool true]) w := run_typeAssert_hasB Tryd.underlying111 (by kernel_rfl) v xT w

/-- The deferred closure of 'inside', at a frame that returns: nothing. -/
theorem inside1_idle (p q : Addr) (w : World) :
    CallsD Tryd.prog 52 #[.pointer (some p), .pointer (some q)] .returning w fun e u' w' => e = .returned (.tuple #[]) ∧ u' = .returning ∧ w' = w := by
  refine callsD_of_wpS Tryd.func52 rfl fun c₀ cs hu => ?_
  apply wpS_seq
  apply wpS_region
  simp [wpOpsS, go_sem, recoverD, hu, Tryd.ntmps52, Exit.thenS]
  refine wpS_cond (t := false) (by simp [Act.eval, Array.replicate]) ?_
  simp only [Bool.false_eq_true, if_false]
  refine wpS_of_wp (wp_skip ?_)
  cases c₀
  simp_all [bodyPostS, results, Tryd.results52]

theorem made1_idle (p : Addr) (w : World) :
    CallsD Tryd.prog 53 #[.pointer (some p)] .returning w fun e u' w' => e = .returned (.tuple #[]) ∧ u' = .returning ∧ w' = w := by
  refine callsD_of_wpS Tryd.func53 rfl fun c₀ cs hu => ?_
  apply wpS_seq
  apply wpS_region
  simp [wpOpsS, go_sem, recoverD, hu, Tryd.ntmps53, Exit.thenS]
  refine wpS_cond (t := false) (by simp [Act.eval, Array.replicate]) ?_
  simp only [Bool.false_eq_true, if_false]
  refine wpS_of_wp (wp_skip ?_)
  cases c₀
  simp_all [bodyPostS, results, Tryd.results53]

set_option maxHeartbeats 1000000 in
theorem inside_one (v : Value) (w : World) :
    Calls Tryd.prog 46 #[.iface 62 v] w fun e w' => e = .returned (.tuple #[.slice none 0 0, .bool false]) ∧ Below w.heap.size w w' := by
  have hmf : ∀ (fn : Fn) (first cap : Array Value) (w : World), (Instr.makeFunc fn first cap).run Tryd.prog w = .ok (.func fn first cap) w := fun _ _ _ _ => rfl
  have t1 := one_no_wrapper
  have t2 := one_no_bundle
  go_enter_defers Tryd.func46, Tryd.ntmps46
  go_wp2
  refine leaves_cons (f := 52) (args := #[.pointer (some ⟨w.heap.size, 0, none⟩), .pointer (some ⟨w.heap.size + 1, 0, none⟩)]) (by simp) (by simp [go_sem]) ?_
  refine (inside1_idle _ _ _).mono ?_
  rintro e u' w'' ⟨rfl, rfl, rfl⟩
  simp [Leaves, settle, results, Tryd.results46, go_sem]
  exact ((Below.refl _ _).alloc (Nat.le_refl _) _).alloc (by simp) _

theorem moved_nil_ahead (a : Addr) (w : World) : (nilAhead 260 75 (.pointer (some a)) "Unwrap").run Tryd.prog w = .ok (some false) w := by kernel_rfl
theorem moved_method (a : Addr) (w : World) : (Go.method 260 75 (.pointer (some a)) "Unwrap").run Tryd.prog w = .ok (85, .pointer (some a)) w := by kernel_rfl
theorem joined_nil_ahead (a : Addr) (w : World) : (nilAhead 260 78 (.pointer (some a)) "Unwrap").run Tryd.prog w = .ok (some false) w := by kernel_rfl
theorem joined_method (a : Addr) (w : World) : (Go.method 260 78 (.pointer (some a)) "Unwrap").run Tryd.prog w = .ok (87, .pointer (some a)) w := by kernel_rfl

set_option maxHeartbeats 1000000 in
theorem unwrap_moved (b : Nat) (x : Value) (w : World) (h : w.cell? ⟨b, 0, none⟩ = some x) :
    Calls Tryd.prog 85 #[.pointer (some ⟨b, 0, none⟩)] w fun e w' => e = .returned x ∧ w = w' := by
  go_enter Tryd.func85, Tryd.ntmps85
  go_wp2
  go_ret
  exact ⟨rfl, rfl⟩

set_option maxHeartbeats 1000000 in
theorem inside_moved (b : Nat) (tx : TypeId) (x : Value) (w : World) (h : w.cell? ⟨b, 0, none⟩ = some (.iface tx x)) :
    Calls Tryd.prog 46 #[.iface 75 (.pointer (some ⟨b, 0, none⟩))] w fun e w' => ∃ g, e = .returned (.tuple #[.slice (some ⟨g, 0, none⟩) 1 1, .bool true]) ∧ Below w.heap.size w w' ∧ w'.heap[g]? = some (.cells #[.iface tx x] 34 (0, 0)) ∧ w.heap.size ≤ g := by
  have hmf : ∀ (fn : Fn) (first cap : Array Value) (w : World), (Instr.makeFunc fn first cap).run Tryd.prog w = .ok (.func fn first cap) w := fun _ _ _ _ => rfl
  have t1 := moved_wrapper
  have t2 := moved_nil_ahead
  have t3 := moved_method
  have hlt := World.block_lt_of_cell? w _ h
  simp only at hlt
  have hU := unwrap_moved b (.iface tx x) ((w.alloc (.cells #[.slice none 0 0] 24)).alloc (.cells #[.bool false] 4)) (by rw [World.cell?_alloc_lt _ _ ⟨b, 0, none⟩ (by simp; omega), World.cell?_alloc_lt _ _ ⟨b, 0, none⟩ hlt]; exact h)
  go_enter_defers Tryd.func46, Tryd.ntmps46
  go_wp2_with (go_at_call 85; refine hU.mono ?_; clear hU; rintro e w' ⟨rfl, rfl⟩)
  refine leaves_cons (f := 52) (args := #[.pointer (some ⟨w.heap.size, 0, none⟩), .pointer (some ⟨w.heap.size + 1, 0, none⟩)]) (by simp) (by simp [go_sem]) ?_
  refine (inside1_idle _ _ _).mono ?_
  rintro e u' w'' ⟨rfl, rfl, rfl⟩
  simp [Leaves, settle, results, Tryd.results46, go_sem]
  refine ⟨(((Below.refl _ _).alloc (Nat.le_refl _) _).alloc (by simp) _).alloc (by simp; omega) _, ?_, by omega⟩
  have hh := heap_alloc_new ((w.alloc (.cells #[.slice (some ⟨w.heap.size + 1 + 1, 0, none⟩) 1 1] 24)).alloc (.cells #[.bool true] 4)) (.cells #[.iface tx x] 34)
  simp only [World.size_alloc] at hh
  exact (Array.getElem?_eq_some_iff.1 hh).2
set_option maxHeartbeats 4000000 in
theorem made_one (a : Addr) (w : World) (hg : w.cell? ⟨0, 0, none⟩ = some (.iface 96 (.agg #[.pointer (some ⟨1, 34, none⟩)]))) :
    Calls Tryd.prog 47 #[.iface 62 (.pointer (some a))] w fun e w' => e = .returned (.pointer (some a)) ∧ Below w.heap.size w w' := by
  have hmf : ∀ (fn : Fn) (first cap : Array Value) (w : World), (Instr.makeFunc fn first cap).run Tryd.prog w = .ok (.func fn first cap) w := fun _ _ _ _ => rfl
  have hlt := World.block_lt_of_cell? w _ hg
  simp only at hlt
  have hnot : ∀ (x : Bool) (w : World), (Op.unary .not (.bool x)).run Tryd.prog w = .ok (.bool (!x)) w := fun _ _ => rfl
  have hA := as_hit a ⟨w.heap.size, 0, none⟩ (.pointer none) (w.alloc (.cells #[.pointer none] 62)) (by rw [World.cell?_alloc_lt _ _ ⟨0, 0, none⟩ hlt]; exact hg) (by simp) (by simp)
  go_enter_defers Tryd.func47, Tryd.ntmps47
  go_wp2_with (go_at_call 54; refine hA.mono ?_; clear hA; rintro e w' ⟨rfl, rfl⟩)
  refine leaves_cons (f := 53) (args := #[.pointer (some ⟨w.heap.size, 0, none⟩)]) (by simp) (by simp [go_sem]) ?_
  refine (made1_idle _ _).mono ?_
  rintro e u' w'' ⟨rfl, rfl, rfl⟩
  simp [Leaves, settle, results, Tryd.results47, go_sem]
  exact (((((Below.refl _ _).alloc (Nat.le_refl _) _).alloc (by simp) _).alloc (by simp; omega) _).alloc (by simp; omega) _).alloc (by simp; omega) _
end Go.Proofs.YtalopkplpbdgjaaDoor
