/- Short names of what is used most. -/
import Derived.OrdersHeld
import Derived.WalkKit
import Derived.WalkSpells
import Derived.WalkLawsBesides
import Derived.Below
import Derived.Test.YtebabjnngdjceaaGreatDoorProg
import Derived.Tactics
import Derived.KernelRfl
import Derived.Lib.Hide
namespace Go.Proofs.YtebabjnngdjceaaGreatDoor
open Go.RowKit

theorem zT {α : Type} {xs : List α} {i : Nat} (h : i < xs.toArray.size) : xs.toArray[i] = xs[i]'(by simpa using h) := List.getElem_toArray h
theorem zZ {α : Type} {a : α} {l : List α} (h : 0 < (a :: l).length) : getElem (a :: l) 0 h = a := rfl
theorem zS {α : Type} {i : Nat} {a : α} {l : List α} (h : i + 1 < (a :: l).length) : getElem (a :: l) (i + 1) h = getElem l i (Nat.lt_of_succ_lt_succ h) := rfl
theorem yT {α : Type} (l : List α) (i : Nat) (a : α) : l.toArray.setIfInBounds i a = (l.set i a).toArray := List.setIfInBounds_toArray l i a
theorem yZ {α : Type} {x a : α} {xs : List α} : (x :: xs).set 0 a = a :: xs := rfl
theorem yS {α : Type} {i : Nat} {x a : α} {xs : List α} : (x :: xs).set (i + 1) a = x :: xs.set i a := rfl
theorem zA : (∀ {α : Type} {xs : List α} {i : Nat} (h : i < xs.toArray.size), xs.toArray[i] = xs[i]'(by simpa using h)) ∧ (∀ {α : Type} {i : Nat} {a : α} {l : List α} (h : i + 1 < (a :: l).length), getElem (a :: l) (i + 1) h = getElem l i (Nat.lt_of_succ_lt_succ h)) ∧ (∀ {α : Type} {a : α} {l : List α} (h : 0 < (a :: l).length), getElem (a :: l) 0 h = a) ∧ (∀ {α : Type} (l : List α) (i : Nat) (a : α), l.toArray.setIfInBounds i a = (l.set i a).toArray) ∧ (∀ {α : Type} {x a : α} {xs : List α}, (x :: xs).set 0 a = a :: xs) ∧ (∀ {α : Type} {i : Nat} {x a : α} {xs : List α}, (x :: xs).set (i + 1) a = x :: xs.set i a) :=
  ⟨zT, zS, zZ, yT, yZ, yS⟩
theorem zG : (∀ {α : Type} {xs : List α} {i : Nat} (h : i < xs.toArray.size), xs.toArray[i] = xs[i]'(by simpa using h)) ∧ (∀ {α : Type} {i : Nat} {a : α} {l : List α} (h : i + 1 < (a :: l).length), getElem (a :: l) (i + 1) h = getElem l i (Nat.lt_of_succ_lt_succ h)) ∧ (∀ {α : Type} {a : α} {l : List α} (h : 0 < (a :: l).length), getElem (a :: l) 0 h = a) :=
  ⟨zT, zS, zZ⟩
abbrev zB (w W : World) : Prop := Below w.heap.size w W
theorem zH {p : Prop} (h : p) : Hid p := h
theorem zK {P : Program} {ops : Array Oper} {Q : Exit → Act → World → Prop} {md : Region.Mode} {S : World → Prop} {i : Nat} {oi : Oper} {v : Value} {fuel : Nat} {listed : Array Bool} {a : Act} {w : World} (hi : ops[i]? = some oi)
    (h : wpAnyH P md ops Q S fuel (listed.setIfInBounds i true) (a.put oi.dst v) w)
    (hs : Region.noSelect ops = true := by kernel_rfl) (hf : Region.free md ops listed i = true := by kernel_rfl) (hr : (Region.ready md ops listed).contains i = true := by kernel_rfl)
    (hQ : ∀ c a w, Q (.panic c) (a.put oi.dst v) w → Q (.panic c) a w := by exact fun _ _ _ h => h)
    (hy : YieldsIf P ops S oi v a := by exact Or.inl ⟨by rfl, fun w' hSw => by (try dsimp only at hSw); go_simp⟩) (hS : S w := by assumption) : wpAnyH P md ops Q S (fuel + 1) listed a w :=
  wpAnyH_take hi hs hf hr hQ hy hS h
theorem Pw : type_of% @List.getElem?_eq_some_iff := @List.getElem?_eq_some_iff
theorem Px : type_of% @Nat.le_refl := @Nat.le_refl
theorem Py : type_of% @Array.getElem?_eq_some_iff := @Array.getElem?_eq_some_iff
theorem Pz : type_of% @List.getElem?_eq_getElem := @List.getElem?_eq_getElem
theorem PD : type_of% @List.getElem?_cons_zero := @List.getElem?_cons_zero
theorem PE : type_of% @List.getElem?_cons_succ := @List.getElem?_cons_succ
theorem PG : type_of% @Go.RowKit.Below.refl := @Go.RowKit.Below.refl
theorem PH : type_of% @Nat.lt_of_lt_of_le := @Nat.lt_of_lt_of_le
theorem PI : type_of% @List.length_cons := @List.length_cons
theorem PK : type_of% @Go.heap_alloc_new := @Go.heap_alloc_new
theorem PL : type_of% @List.length_append := @List.length_append
theorem PN : type_of% @Go.RowKit.Below.heap_setCell := @Go.RowKit.Below.heap_setCell
theorem PO : type_of% @if_neg := @if_neg
theorem PQ : type_of% @List.length_nil := @List.length_nil
theorem PR : type_of% @congrArg := @congrArg
theorem PS : type_of% @Go.World.size_alloc := @Go.World.size_alloc
theorem PT : type_of% @Option.some.inj := @Option.some.inj
theorem PU : type_of% @List.length_drop := @List.length_drop
theorem PW : type_of% @List.length_take := @List.length_take
theorem PX : type_of% @Go.World.block_lt_of_cell? := @Go.World.block_lt_of_cell?
theorem PY : type_of% @Nat.le_trans := @Nat.le_trans
theorem PZ : type_of% @if_pos := @if_pos
theorem P5 : type_of% @List.getElem?_append_right := @List.getElem?_append_right
theorem P6 : type_of% @Nat.zero_le := @Nat.zero_le
theorem P7 : type_of% @List.getElem?_append_left := @List.getElem?_append_left
theorem P8 : type_of% @decide_eq_false := @decide_eq_false
theorem P9 : type_of% @Option.isSome_iff_exists := @Option.isSome_iff_exists
theorem Qa : type_of% @List.take_length := @List.take_length
theorem Qb : type_of% @Go.callsIn_wide := @Go.callsIn_wide
theorem Qc : type_of% @List.append_nil := @List.append_nil
theorem Qd : type_of% @Go.wpAnyH_done := @Go.wpAnyH_done
theorem Qe : type_of% @List.cons_append := @List.cons_append
theorem Qf : type_of% @Bool.false_eq_true := @Bool.false_eq_true
theorem Qg : type_of% @Go.RowKit.ownsRow_setCell_below := @Go.RowKit.ownsRow_setCell_below
theorem Qh : type_of% @Go.World.cell?_of_block := @Go.World.cell?_of_block
theorem Qi : type_of% @Go.bodyPost_ret := @Go.bodyPost_ret
theorem Qj : type_of% @List.eq_nil_of_length_eq_zero := @List.eq_nil_of_length_eq_zero
theorem Qk : type_of% @Go.heap_alloc_old := @Go.heap_alloc_old
theorem Ql : type_of% @Go.info_parts := @Go.info_parts
theorem Qm : type_of% @Go.Result.andThen_ok := @Go.Result.andThen_ok
theorem Qn : type_of% @List.mem_cons := @List.mem_cons
theorem Qo : type_of% @List.map_cons := @List.map_cons
theorem Qp : type_of% @List.length_pos_iff := @List.length_pos_iff
theorem Qq : type_of% @List.mem_of_getElem? := @List.mem_of_getElem?
theorem Qr : type_of% @Nat.add_zero := @Nat.add_zero
theorem Qs : type_of% @List.not_mem_nil := @List.not_mem_nil
theorem Qt : type_of% @List.nil_append := @List.nil_append
theorem Qu : type_of% @List.drop_eq_getElem_cons := @List.drop_eq_getElem_cons
theorem Qv : type_of% @Go.wpAnyH_take := @Go.wpAnyH_take
theorem Qw : type_of% @List.take_add_one := @List.take_add_one
theorem Qx : type_of% @List.append_assoc := @List.append_assoc
theorem Qy : type_of% @List.length_map := @List.length_map
theorem Qz : type_of% @decide_eq_true := @decide_eq_true
theorem QA : type_of% @Decidable.byContradiction := @Decidable.byContradiction
theorem QB : type_of% @Go.run_underlying := @Go.run_underlying
theorem QC : type_of% @Option.some.injEq := @Option.some.injEq
theorem QD : type_of% @Go.Sem.run_bind := @Go.Sem.run_bind
theorem QE : type_of% @List.getElem?_drop := @List.getElem?_drop
theorem QF : type_of% @List.length_singleton := @List.length_singleton
theorem QG : type_of% @Go.Sem.run_pure := @Go.Sem.run_pure
theorem QH : type_of% @List.map_nil := @List.map_nil
theorem QI : type_of% @Option.isSome_none := @Option.isSome_none
theorem QJ : type_of% @Go.Exit.noGoto_ret := @Go.Exit.noGoto_ret
theorem QK : type_of% @List.take_append_drop := @List.take_append_drop
theorem QL : type_of% @List.getElem?_map := @List.getElem?_map
theorem QM : type_of% @List.mem_cons_of_mem := @List.mem_cons_of_mem
theorem QN : type_of% @List.take_of_length_le := @List.take_of_length_le
theorem QO : type_of% @Option.getD_none := @Option.getD_none
theorem QP : type_of% @List.mem_iff_getElem? := @List.mem_iff_getElem?
theorem QQ : type_of% @List.mem_cons_self := @List.mem_cons_self
theorem QR : type_of% @List.mem_append := @List.mem_append
theorem QS : type_of% @Array.replicate_zero := @Array.replicate_zero
theorem QT : type_of% @Array.replicate_succ := @Array.replicate_succ
theorem QU : type_of% @List.append_toArray := @List.append_toArray
theorem QV : type_of% @Go.Addr.add_lit := @Go.Addr.add_lit
theorem QW : type_of% @Option.isSome_some := @Option.isSome_some
theorem QX : type_of% @Go.Oper.semAt_some := @Go.Oper.semAt_some
theorem QY : type_of% @List.getElem?_set_ne := @List.getElem?_set_ne
theorem QZ : type_of% @Go.Lib.run_eql_slice_nil := @Go.Lib.run_eql_slice_nil
theorem Q0 : type_of% @List.size_toArray := @List.size_toArray
theorem Q5 : type_of% @List.push_toArray := @List.push_toArray
theorem Q6 : type_of% @Option.getD_some := @Option.getD_some
theorem Q7 : type_of% @Bool.and_eq_true := @Bool.and_eq_true
theorem Q8 : type_of% @if_false := @if_false
theorem Q9 : type_of% @Prod.mk.injEq := @Prod.mk.injEq
theorem Ra : type_of% @Nat.zero_add := @Nat.zero_add
theorem Rb : type_of% @List.mem_of_mem_take := @List.mem_of_mem_take
theorem Rc : type_of% @of_decide_eq_true := @of_decide_eq_true
theorem Re : type_of% @Option.map_some := @Option.map_some
theorem Rf : type_of% @Int.toNat_natCast := @Int.toNat_natCast
theorem Rh : type_of% @Go.RowKit.Below.heap_alloc := @Go.RowKit.Below.heap_alloc
theorem Ri : type_of% @or_false := @or_false
theorem Rj : type_of% @Go.World.drewN_drewN := @Go.World.drewN_drewN
theorem Rk : type_of% @List.drop_length := @List.drop_length
theorem Rl : type_of% @Nat.le_succ := @Nat.le_succ
theorem Rm : type_of% @List.mem_map := @List.mem_map
theorem Rn : type_of% @List.map_append := @List.map_append
theorem Ro : type_of% @List.eq_nil_or_concat := @List.eq_nil_or_concat
theorem Rp : type_of% @Go.ownsRow_setCell_other := @Go.ownsRow_setCell_other
theorem Rq : type_of% @beq_eq_false_iff_ne := @beq_eq_false_iff_ne
theorem Rs : type_of% @Nat.sub_self := @Nat.sub_self
theorem Rt : type_of% @UInt8.toNat_inj := @UInt8.toNat_inj
theorem Ru : type_of% @List.length_set := @List.length_set
theorem Rv : type_of% @List.foldl_append := @List.foldl_append
theorem Rw : type_of% @Nat.le_of_eq := @Nat.le_of_eq
theorem Rx : type_of% @List.set_append_right := @List.set_append_right
theorem Ry : type_of% @List.count_cons_self := @List.count_cons_self
theorem Rz : type_of% @List.sum_cons := @List.sum_cons
theorem RA : type_of% @beq_iff_eq := @beq_iff_eq
theorem RB : type_of% @Nat.mul_one := @Nat.mul_one
theorem RD : type_of% @Nat.min_eq_left := @Nat.min_eq_left
theorem RF : type_of% @List.foldl_cons := @List.foldl_cons
theorem RG : type_of% @List.drop_succ_cons := @List.drop_succ_cons
theorem RH : type_of% @List.mem_singleton := @List.mem_singleton
theorem RJ : type_of% @Iff.rfl := @Iff.rfl
theorem RL : type_of% @Go.RowKit.Below.alloc := @Go.RowKit.Below.alloc
theorem RN : type_of% @List.getElem?_take_of_lt := @List.getElem?_take_of_lt
theorem RO : type_of% @Prod.mk.inj := @Prod.mk.inj
theorem RP : type_of% @Go.results_none := @Go.results_none
theorem RQ : type_of% @List.getElem?_set_self := @List.getElem?_set_self
theorem RU : type_of% @List.drop_eq_nil_of_le := @List.drop_eq_nil_of_le
theorem RX : type_of% @List.sum_nil := @List.sum_nil
theorem RY : type_of% @List.singleton_append := @List.singleton_append
theorem RZ : type_of% @List.getElem?_eq_none := @List.getElem?_eq_none
theorem R6 : type_of% @List.count_cons_of_ne := @List.count_cons_of_ne
theorem R7 : type_of% @List.cons.injEq := @List.cons.injEq
theorem R8 : type_of% @Int.natCast_add := @Int.natCast_add
theorem R9 : type_of% @Nat.mul_le_mul_right := @Nat.mul_le_mul_right
theorem Sa : type_of% @List.drop_drop := @List.drop_drop
end Go.Proofs.YtebabjnngdjceaaGreatDoor
