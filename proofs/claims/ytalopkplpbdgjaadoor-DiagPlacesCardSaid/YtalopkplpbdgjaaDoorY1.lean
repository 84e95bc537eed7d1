/- errors.Is at an error that New made, and any ofKind: by its contract. -/
import Derived.Test.YtalopkplpbdgjaaDoorX8
namespace Go.Proofs.YtalopkplpbdgjaaDoor
open Go.RowKit Go.Shelf Go.Extern.Stop Go.Stop Go.Extern

theorem isTypeOf71 (v : Value) (w : World) : (ReflectliteType.typeOf #[.iface 71 v]).run Tryd.prog w = .ok (.iface 96 (.agg #[.pointer (some ⟨1, 71, none⟩)])) w := by kernel_rfl
/-- The model's entry for (rtype).Comparable. -/
def compEntry : Array Value → Sem Value := ReflectliteType.method fun t => do Rtype.noPackHeld "Comparable" t; pure (.bool (← typeInfo t).comparable)
theorem isComparable71 (w : World) : (compEntry #[.agg #[.pointer (some ⟨1, 71, none⟩)]]).run Tryd.prog w = .ok (.bool true) w := by kernel_rfl
theorem isMethodComparable (h : Value) (w : World) : (Go.method 260 96 (.agg #[h]) "Comparable").run Tryd.prog w = .ok (91, .agg #[h]) w := by kernel_rfl
theorem hasIs62 (v : Value) (xT : TypeId) (w : World) : (Instr.typeAssert (.iface 62 v) xT 98 true).run Tryd.prog w = .ok (.tuple #[.iface 62 v, .bool true]) w := run_typeAssert_hasB Tryd.underlying98 (by kernel_rfl) v xT w
theorem noUnwrap62 (v : Value) (xT : TypeId) (w : World) : (Instr.typeAssert (.iface 62 v) xT 101 true).run Tryd.prog w = .ok (.tuple #[.nilIface, .bool false]) w := run_typeAssert_lacksB Tryd.underlying101 (by kernel_rfl) (by kernel_rfl) v xT w
theorem noUnwraps62 (v : Value) (xT : TypeId) (w : World) : (Instr.typeAssert (.iface 62 v) xT 103 true).run Tryd.prog w = .ok (.tuple #[.nilIface, .bool false]) w := run_typeAssert_lacksB Tryd.underlying103 (by kernel_rfl) (by kernel_rfl) v xT w
theorem methodIs62 (v : Value) (w : World) : (Go.method 260 62 v "Is").run Tryd.prog w = .ok (82, v) w := by kernel_rfl

theorem eq71 (a b : Int) (w : World) : (binOp .eql 34 (.iface 71 (.int .i64 a)) (.iface 71 (.int .i64 b))).run Tryd.prog w = .ok (.bool (a == b)) w := by
  have hc : (Tryd.prog.info? 71).map (·.comparable) = some true := by kernel_rfl
  obtain ⟨i, hi, hcmp⟩ := Option.map_eq_some_iff.1 hc
  have h : ∀ d : Nat, (Op.equalIn (d + 2) 34 (.iface 71 (.int .i64 a)) (.iface 71 (.int .i64 b))).run Tryd.prog w = .ok (a == b) w := fun d => by
    simp [Op.equalIn, run_underlying Tryd.underlying34, run_underlying Tryd.underlying71, typeInfo, hi, hcmp]
  simp only [binOp]
  simp [Op.equal, Op.maxDepth, h 9998]

theorem oneis_any (b : Nat) (k kk : Int) (w : World) (h0 : w.cell? ⟨b, 0, none⟩ = some (.int .i64 k)) :
    Calls Tryd.prog 82 #[.pointer (some ⟨b, 0, none⟩), .iface 71 (.int .i64 kk)] w fun e w' => e = .returned (.bool (kk == k)) ∧ w' = w := by
  have he := eq71
  go_enter Tryd.func82, Tryd.ntmps82
  go_wp2
  go_ret
  exact ⟨rfl, rfl⟩

theorem ptr_of_int (b : Addr) (kk : Int) (w : World) : (binOp .eql 34 (.iface 62 (.pointer (some b))) (.iface 71 (.int .i64 kk))).run Tryd.prog w = .ok (.bool false) w :=
  run_eql_iface_types (P := Tryd.prog) 62 71 (.pointer (some b)) (.int .i64 kk) Tryd.underlying34 (by decide) w

set_option maxHeartbeats 4000000 in
theorem is_one_at (b : Nat) (kk : Int) (r : Bool) (w : World) (hO : Calls Tryd.prog 82 #[.pointer (some ⟨b, 0, none⟩), .iface 71 (.int .i64 kk)] w fun e w' => e = .returned (.bool r) ∧ w' = w) :
    Calls Tryd.prog 31 #[.iface 62 (.pointer (some ⟨b, 0, none⟩)), .iface 71 (.int .i64 kk)] w fun e w' => e = .returned (.bool r) ∧ w' = w := by
  have h8 := @run_callFunc_extern Tryd.prog 40 _ ReflectliteType.typeOf Tryd.func40 (by kernel_rfl) (by kernel_rfl) (by kernel_rfl) (by kernel_rfl)
  have h32 := @run_callFunc_extern Tryd.prog 91 _ compEntry Tryd.func91 (by kernel_rfl) (by kernel_rfl) (by kernel_rfl) (by kernel_rfl)
  have tT := isTypeOf71
  have cT := isComparable71
  have mR := isMethodComparable
  have hI := hasIs62
  have uE := noUnwrap62
  have vE := noUnwraps62
  have mI := methodIs62
  have hty := ptr_of_int
  cases r
  all_goals
    go_enter Tryd.func31, Tryd.ntmps31
    go_wp2
    refine wp_loop_rounds 1 ?_
    rw [rounds_succ]
    go_wp2_with (go_at_call 82; refine hO.mono ?_; clear hO; rintro e w1 ⟨rfl, rfl⟩)
    go_ret
    exact ⟨rfl, rfl⟩

/-- errors.Is(o, ofKind(kk)), o what New made of kind k. -/
theorem is_one (b : Nat) (k kk : Int) (w : World) (h0 : w.cell? ⟨b, 0, none⟩ = some (.int .i64 k)) :
    Calls Tryd.prog 31 #[.iface 62 (.pointer (some ⟨b, 0, none⟩)), .iface 71 (.int .i64 kk)] w fun e w' => e = .returned (.bool (kk == k)) ∧ w' = w :=
  is_one_at b kk _ w (oneis_any b k kk w h0)
end Go.Proofs.YtalopkplpbdgjaaDoor
