/- Contracts of inside, made, walk, first and All at the nil error: nothing is told; old memory is as it was. -/
import Derived.Test.YtalopkplpbdgjaaDoorX5
namespace Go.Proofs.YtalopkplpbdgjaaDoor
open Go.RowKit Go.Shelf Go.Extern.Stop Go.Stop Go.Extern

attribute [local go_sem] Oper.semAt_some

theorem nil_no_wrapper (xT : TypeId) (w : World) : (Instr.typeAssert .nilIface xT 110 true).run Tryd.prog w = .ok (.tuple #[.nilIface, .bool false]) w := by kernel_rfl
theorem nil_no_bundle (xT : TypeId) (w : World) : (Instr.typeAssert .nilIface xT 111 true).run Tryd.prog w = .ok (.tuple #[.nilIface, .bool false]) w := by kernel_rfl
theorem nil_no_moved (xT : TypeId) (w : World) : (Instr.typeAssert .nilIface xT 75 true).run Tryd.prog w = .ok (.tuple #[.pointer none, .bool false]) w := by kernel_rfl

set_option maxHeartbeats 1000000 in
theorem inside_nil (w : World) :
    Calls Tryd.prog 46 #[.nilIface] w fun e w' => e = .returned (.tuple #[.slice none 0 0, .bool false]) ∧ Below w.heap.size w w' := by
  have hmf : ∀ (fn : Fn) (first cap : Array Value) (w : World), (Instr.makeFunc fn first cap).run Tryd.prog w = .ok (.func fn first cap) w := fun _ _ _ _ => rfl
  have t1 := nil_no_wrapper
  have t2 := nil_no_bundle
  go_enter_defers Tryd.func46, Tryd.ntmps46
  go_wp2
  refine leaves_cons (f := 52) (args := #[.pointer (some ⟨w.heap.size, 0, none⟩), .pointer (some ⟨w.heap.size + 1, 0, none⟩)]) (by simp) (by simp [go_sem]) ?_
  refine (inside1_idle _ _ _).mono ?_
  rintro e u' w'' ⟨rfl, rfl, rfl⟩
  simp [Leaves, settle, results, Tryd.results46, go_sem]
  exact ((Below.refl _ _).alloc (Nat.le_refl _) _).alloc (by simp) _

set_option maxHeartbeats 4000000 in
theorem made_nil (w : World) :
    Calls Tryd.prog 47 #[.nilIface] w fun e w' => e = .returned (.pointer none) ∧ Below w.heap.size w w' := by
  have hmf : ∀ (fn : Fn) (first cap : Array Value) (w : World), (Instr.makeFunc fn first cap).run Tryd.prog w = .ok (.func fn first cap) w := fun _ _ _ _ => rfl
  have hnot : ∀ (x : Bool) (w : World), (Op.unary .not (.bool x)).run Tryd.prog w = .ok (.bool (!x)) w := fun _ _ => rfl
  go_enter_defers Tryd.func47, Tryd.ntmps47
  go_wp2_with (go_at_call 54; refine (as_nil _ _).mono ?_; rintro e w' ⟨rfl, rfl⟩)
  refine leaves_cons (f := 53) (args := #[.pointer (some ⟨w.heap.size, 0, none⟩)]) (by simp) (by simp [go_sem]) ?_
  refine (made1_idle _ _).mono ?_
  rintro e u' w'' ⟨rfl, rfl, rfl⟩
  simp [Leaves, settle, results, Tryd.results47, go_sem]
  exact (Below.refl _ _).alloc (Nat.le_refl _) _

set_option maxRecDepth 100000 in
set_option maxHeartbeats 4000000 in
theorem walk_nil (a1 l1 h1 a2 l2 h2 : Int) (y : Value) (W : World) :
    Calls Tryd.prog 37 #[.nilIface, .agg #[.int .i64 a1, .int .i64 l1, .int .i64 h1, .int .i64 a2, .int .i64 l2, .int .i64 h2], y] W fun e W' => e = .returned (.bool true) ∧ Below W.heap.size W W' := by
  have hnot : ∀ (x : Bool) (w : World), (Op.unary .not (.bool x)).run Tryd.prog w = .ok (.bool (!x)) w := fun _ _ => rfl
  have ta := nil_no_moved
  go_enter Tryd.func37, Tryd.ntmps37
  go_wp2_with (first
    | (go_at_call 46; refine (inside_nil _).mono ?_; rintro e W1 ⟨rfl, hb1⟩)
    | (go_at_call 47; refine (made_nil _).mono ?_; rintro e W2 ⟨rfl, hb2⟩))
  go_ret
  exact ⟨rfl, (((Below.refl _ W).alloc (Nat.le_refl _) _).trans (hb1.mono (by simp))).trans (hb2.mono (by have := hb1.size; simp at this; omega))⟩

set_option maxRecDepth 100000 in
set_option maxHeartbeats 1000000 in
theorem found1_nil (l m : Nat) (Be : Nat) (W : World) (hbe : W.cell? ⟨Be, 0, none⟩ = some .nilIface) :
    CallsIn Fence.wide m Tryd.prog 36 #[.func (.yield l) #[] #[], .pointer (some ⟨Be, 0, none⟩)] W fun e W' => (∃ v, e = .returned v) ∧ Below W.heap.size W W' := by
  refine callsIn_wide.2 ?_
  go_enter Tryd.func36, Tryd.ntmps36
  have hlt := World.block_lt_of_cell? W _ hbe
  simp only at hlt
  go_region_held3 (fun w' => w'.cell? ⟨Be, 0, none⟩ = some .nilIface)
    (first | go_keep | (rw [hc1 _ _ (by simpa using hlt)]; assumption) | (rw [hc2 _ _ hn1]; assumption))
    ((first
      | (go_at_call 38; refine (still_any _).mono ?_; rintro e W1 ⟨rfl, hb1⟩; obtain ⟨hc1, hf1⟩ := bcell hb1; have hz1 := hb1.size; simp at hz1; have hn1 : Be < W1.heap.size := (by omega))
      | (go_at_call 37; refine (walk_nil _ _ _ _ _ _ _ _).mono ?_; rintro e W2 ⟨rfl, hb2⟩; obtain ⟨hc2, hf2⟩ := bcell hb2)))
  go_wp2
  go_end0
  have hB1 : Below W.heap.size W W1 := (Below.refl _ W).drew.trans hb1
  exact ⟨⟨_, rfl⟩, hB1.trans (hb2.mono hB1.size)⟩

theorem found_nil_stops (We W0 : World) (m : Nat) (Be : Nat) (hBe : W0.cell? ⟨Be, 0, none⟩ = some .nilIface) :
    SeqStopsK Fence.wide m Tryd.prog 36 #[.pointer (some ⟨Be, 0, none⟩)] (encs (W := We)) (KT We.heap.size) (fun q => q.map dOf = []) (fun _ => False) 0 W0 := fun l J Jx W hW hJ _ _ h0 => by
  refine (found1_nil l m Be W (by rw [hW.cell (World.block_lt_of_cell? W0 _ hBe)]; exact hBe)).mono fun e W' ⟨h1, h2⟩ => ⟨h1, .inl ⟨[], rfl, ?_⟩⟩
  exact hJ [] W W' none h0 (grown_of_below h2 none) (fun r e => by cases e)
end Go.Proofs.YtalopkplpbdgjaaDoor
