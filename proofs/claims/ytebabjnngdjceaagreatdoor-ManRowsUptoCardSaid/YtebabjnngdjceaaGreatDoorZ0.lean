/- Short names of what is used most. -/
import Derived.OrdersHeld
import Derived.WalkKit
import Derived.WalkSpells
import Derived.WalkLawsBesides
import Derived.Below
import Derived.Test.YtebabjnngdjceaaGreatDoorProg
import Derived.Tactics
import Derived.KernelRfl
import Derived.Lib.Hide
namespace Go.Proofs.YtebabjnngdjceaaGreatDoor
open Go.RowKit

theorem zT {α : Type} {xs : List α} {i : Nat} (h : i < xs.toArray.size) : xs.toArray[i] = xs[i]'(by simpa using h) := List.getElem_toArray h
theorem zZ {α : Type} {a : α} {l : List α} (h : 0 < (a :: l).length) : getElem (a :: l) 0 h = a := rfl
theorem zS {α : Type} {i : Nat} {a : α} {l : List α} (h : i + 1 < (a :: l).length) : getElem (a :: l) (i + 1) h = getElem l i (Nat.lt_of_succ_lt_succ h) := rfl
theorem yT {α : Type} (l : List α) (i : Nat) (a : α) : l.toArray.setIfInBounds i a = (l.set i a).toArray := List.setIfInBounds_toArray l i a
theorem yZ {α : Type} {x a : α} {xs : List α} : (x :: xs).set 0 a = a :: xs := rfl
theorem yS {α : Type} {i : Nat} {x a : α} {xs : List α} : (x :: xs).set (i + 1) a = x :: xs.set i a := rfl
theorem zA : (∀ {α : Type} {xs : List α} {i : Nat} (h : i < xs.toArray.size), xs.toArray[i] = xs[i]'(by simpa using h)) ∧ (∀ {α : Type} {i : Nat} {a : α} {l : List α} (h : i + 1 < (a :: l).length), getElem (a :: l) (i + 1) h = getElem l i (Nat.lt_of_succ_lt_succ h)) ∧ (∀ {α : Type} {a : α} {l : List α} (h : 0 < (a :: l).length), getElem (a :: l) 0 h = a) ∧ (∀ {α : Type} (l : List α) (i : Nat) (a : α), l.toArray.setIfInBounds i a = (l.set i a).toArray) ∧ (∀ {α : Type} {x a : α} {xs : List α}, (x :: xs).set 0 a = a :: xs) ∧ (∀ {α : Type} {i : Nat} {x a : α} {xs : List α}, (x :: xs).set (i + 1) a = x :: xs.set i a) :=
  ⟨zT, zS, zZ, yT, yZ, yS⟩
theorem zG : (∀ {α : Type} {xs : List α} {i : Nat} (h : i < xs.toArray.size), xs.toArray[i] = xs[i]'(by simpa using h)) ∧ (∀ {α : Type} {i : Nat} {a : α} {l : List α} (h : i + 1 < (a :: l).length), getElem (a :: l) (i + 1) h = getElem l i (Nat.lt_of_succ_lt_succ h)) ∧ (∀ {α : Type} {a : α} {l : List α} (h : 0 < (a :: l).length), getElem (a :: l) 0 h = a) :=
  ⟨zT, zS, zZ⟩
abbrev zB (w W : World) : Prop := Below w.heap.size w W
theorem zH {p : Prop} (h : p) : Hid p := h
theorem zK {P : Program} {ops : Array Oper} {Q : Exit → Act → World → Prop} {md : Region.Mode} {S : World → Prop} {i : Nat} {oi : Oper} {v : Value} {fuel : Nat} {listed : Array Bool} {a : Act} {w : World} (hi : ops[i]? = some oi)
    (h : wpAnyH P md ops Q S fuel (listed.setIfInBounds i true) (a.put oi.dst v) w)
    (hs : Region.noSelect ops = true := by kernel_rfl) (hf : Region.free md ops listed i = true := by kernel_rfl) (hr : (Region.ready md ops listed).contains i = true := by kernel_rfl)
    (hQ : ∀ c a w, Q (.panic c) (a.put oi.dst v) w → Q (.panic c) a w := by exact fun _ _ _ h => h)
    (hy : YieldsIf P ops S oi v a := by exact Or.inl ⟨by rfl, fun w' hSw => by (try dsimp only at hSw); go_simp⟩) (hS : S w := by assumption) : wpAnyH P md ops Q S (fuel + 1) listed a w :=
  wpAnyH_take hi hs hf hr hQ hy hS h
theorem Qu : type_of% @List.getElem?_eq_some_iff := @List.getElem?_eq_some_iff
theorem Qv : type_of% @Nat.le_refl := @Nat.le_refl
theorem Qw : type_of% @List.getElem?_eq_getElem := @List.getElem?_eq_getElem
theorem Qx : type_of% @Array.getElem?_eq_some_iff := @Array.getElem?_eq_some_iff
theorem Qy : type_of% @List.getElem?_cons_zero := @List.getElem?_cons_zero
theorem Qz : type_of% @List.getElem?_cons_succ := @List.getElem?_cons_succ
theorem QA : type_of% @Go.RowKit.Below.refl := @Go.RowKit.Below.refl
theorem QB : type_of% @Nat.lt_of_lt_of_le := @Nat.lt_of_lt_of_le
theorem QC : type_of% @List.length_cons := @List.length_cons
theorem QD : type_of% @Go.heap_alloc_new := @Go.heap_alloc_new
theorem QE : type_of% @List.length_append := @List.length_append
theorem QF : type_of% @Go.RowKit.Below.heap_setCell := @Go.RowKit.Below.heap_setCell
theorem QG : type_of% @if_neg := @if_neg
theorem QH : type_of% @List.length_nil := @List.length_nil
theorem QI : type_of% @congrArg := @congrArg
theorem QJ : type_of% @Go.World.block_lt_of_cell? := @Go.World.block_lt_of_cell?
theorem QK : type_of% @Go.World.size_alloc := @Go.World.size_alloc
theorem QL : type_of% @Option.some.inj := @Option.some.inj
theorem QM : type_of% @List.length_drop := @List.length_drop
theorem QN : type_of% @List.length_take := @List.length_take
theorem QO : type_of% @Nat.le_trans := @Nat.le_trans
theorem QP : type_of% @if_pos := @if_pos
theorem QQ : type_of% @decide_eq_false := @decide_eq_false
theorem QR : type_of% @Nat.zero_le := @Nat.zero_le
theorem QS : type_of% @List.getElem?_append_right := @List.getElem?_append_right
theorem QT : type_of% @List.take_length := @List.take_length
theorem QU : type_of% @Option.isSome_iff_exists := @Option.isSome_iff_exists
theorem QV : type_of% @List.getElem?_append_left := @List.getElem?_append_left
theorem QW : type_of% @List.append_nil := @List.append_nil
theorem QX : type_of% @Bool.false_eq_true := @Bool.false_eq_true
theorem QY : type_of% @List.cons_append := @List.cons_append
theorem QZ : type_of% @Go.callsIn_wide := @Go.callsIn_wide
theorem Q0 : type_of% @Go.wpAnyH_done := @Go.wpAnyH_done
theorem Q5 : type_of% @List.map_cons := @List.map_cons
theorem Q6 : type_of% @decide_eq_true := @decide_eq_true
theorem Q7 : type_of% @List.take_add_one := @List.take_add_one
theorem Q8 : type_of% @List.mem_cons := @List.mem_cons
theorem Q9 : type_of% @Go.RowKit.ownsRow_setCell_below := @Go.RowKit.ownsRow_setCell_below
theorem Ra : type_of% @Go.World.cell?_of_block := @Go.World.cell?_of_block
theorem Rb : type_of% @Go.bodyPost_ret := @Go.bodyPost_ret
theorem Rc : type_of% @List.nil_append := @List.nil_append
theorem Re : type_of% @List.eq_nil_of_length_eq_zero := @List.eq_nil_of_length_eq_zero
theorem Rf : type_of% @Go.heap_alloc_old := @Go.heap_alloc_old
theorem Rh : type_of% @List.length_pos_iff := @List.length_pos_iff
theorem Ri : type_of% @List.mem_iff_getElem? := @List.mem_iff_getElem?
theorem Rj : type_of% @Go.info_parts := @Go.info_parts
theorem Rk : type_of% @Go.Result.andThen_ok := @Go.Result.andThen_ok
theorem Rl : type_of% @List.drop_eq_getElem_cons := @List.drop_eq_getElem_cons
theorem Rm : type_of% @Nat.add_zero := @Nat.add_zero
theorem Rn : type_of% @List.not_mem_nil := @List.not_mem_nil
theorem Ro : type_of% @List.mem_of_getElem? := @List.mem_of_getElem?
theorem Rp : type_of% @Go.wpAnyH_take := @Go.wpAnyH_take
theorem Rq : type_of% @List.append_assoc := @List.append_assoc
theorem Rs : type_of% @List.take_append_drop := @List.take_append_drop
theorem Rt : type_of% @Decidable.byContradiction := @Decidable.byContradiction
theorem Ru : type_of% @List.map_nil := @List.map_nil
theorem Rv : type_of% @Go.run_underlying := @Go.run_underlying
theorem Rw : type_of% @Option.some.injEq := @Option.some.injEq
theorem Rx : type_of% @Go.Sem.run_bind := @Go.Sem.run_bind
theorem Ry : type_of% @List.getElem?_drop := @List.getElem?_drop
theorem Rz : type_of% @List.length_singleton := @List.length_singleton
theorem RA : type_of% @Go.Sem.run_pure := @Go.Sem.run_pure
theorem RB : type_of% @List.length_map := @List.length_map
theorem RD : type_of% @List.take_of_length_le := @List.take_of_length_le
theorem RF : type_of% @Option.isSome_none := @Option.isSome_none
theorem RG : type_of% @Go.Exit.noGoto_ret := @Go.Exit.noGoto_ret
theorem RH : type_of% @List.getElem?_map := @List.getElem?_map
theorem RJ : type_of% @List.mem_cons_of_mem := @List.mem_cons_of_mem
theorem RL : type_of% @Option.getD_none := @Option.getD_none
theorem RN : type_of% @Bool.and_eq_true := @Bool.and_eq_true
theorem RO : type_of% @List.mem_cons_self := @List.mem_cons_self
theorem RP : type_of% @Array.replicate_zero := @Array.replicate_zero
theorem RU : type_of% @Array.replicate_succ := @Array.replicate_succ
theorem RX : type_of% @List.append_toArray := @List.append_toArray
theorem RY : type_of% @Go.Addr.add_lit := @Go.Addr.add_lit
theorem RZ : type_of% @Option.isSome_some := @Option.isSome_some
theorem R6 : type_of% @Go.Oper.semAt_some := @Go.Oper.semAt_some
theorem R7 : type_of% @List.mem_of_mem_take := @List.mem_of_mem_take
theorem R8 : type_of% @List.getElem?_set_ne := @List.getElem?_set_ne
theorem R9 : type_of% @Go.Lib.run_eql_slice_nil := @Go.Lib.run_eql_slice_nil
theorem Sa : type_of% @if_false := @if_false
theorem Sb : type_of% @List.sum_cons := @List.sum_cons
theorem Sc : type_of% @Nat.zero_add := @Nat.zero_add
theorem Sd : type_of% @List.size_toArray := @List.size_toArray
theorem Sg : type_of% @List.push_toArray := @List.push_toArray
theorem Si : type_of% @List.map_append := @List.map_append
theorem Sj : type_of% @Option.getD_some := @Option.getD_some
theorem Sm : type_of% @Prod.mk.injEq := @Prod.mk.injEq
theorem Sn : type_of% @of_decide_eq_true := @of_decide_eq_true
theorem Sq : type_of% @UInt8.toNat_inj := @UInt8.toNat_inj
theorem Sr : type_of% @Option.map_some := @Option.map_some
theorem Su : type_of% @Int.toNat_natCast := @Int.toNat_natCast
theorem Sv : type_of% @Go.RowKit.Below.heap_alloc := @Go.RowKit.Below.heap_alloc
theorem Sw : type_of% @or_false := @or_false
theorem Sy : type_of% @Go.World.drewN_drewN := @Go.World.drewN_drewN
theorem Sz : type_of% @List.drop_length := @List.drop_length
theorem SA : type_of% @Nat.le_succ := @Nat.le_succ
theorem SB : type_of% @List.mem_append := @List.mem_append
theorem SC : type_of% @List.eq_nil_or_concat := @List.eq_nil_or_concat
theorem SE : type_of% @Go.ownsRow_setCell_other := @Go.ownsRow_setCell_other
theorem SF : type_of% @beq_eq_false_iff_ne := @beq_eq_false_iff_ne
theorem SG : type_of% @List.drop_succ_cons := @List.drop_succ_cons
theorem SH : type_of% @Nat.sub_self := @Nat.sub_self
theorem SK : type_of% @List.length_set := @List.length_set
theorem SN : type_of% @decide_eq_true_eq := @decide_eq_true_eq
theorem SQ : type_of% @beq_iff_eq := @beq_iff_eq
theorem SS : type_of% @Nat.mul_one := @Nat.mul_one
theorem SV : type_of% @List.foldl_append := @List.foldl_append
theorem SX : type_of% @Nat.le_of_eq := @Nat.le_of_eq
theorem SY : type_of% @List.set_append_right := @List.set_append_right
theorem S9 : type_of% @List.mem_map := @List.mem_map
theorem Ta : type_of% @List.count_cons_self := @List.count_cons_self
theorem Tc : type_of% @Nat.min_eq_left := @Nat.min_eq_left
theorem Td : type_of% @List.foldl_cons := @List.foldl_cons
theorem Te : type_of% @Iff.rfl := @Iff.rfl
theorem Tf : type_of% @Bool.false_and := @Bool.false_and
theorem Tg : type_of% @Go.RowKit.Below.alloc := @Go.RowKit.Below.alloc
theorem Ti : type_of% @List.getElem?_take_of_lt := @List.getElem?_take_of_lt
theorem Tj : type_of% @List.flatMap_cons := @List.flatMap_cons
theorem Tk : type_of% @Bool.eq_false_iff := @Bool.eq_false_iff
theorem Tm : type_of% @Prod.mk.inj := @Prod.mk.inj
theorem Tn : type_of% @List.filter_cons_of_pos := @List.filter_cons_of_pos
theorem Tp : type_of% @List.filter_cons_of_neg := @List.filter_cons_of_neg
theorem Tq : type_of% @Bool.true_and := @Bool.true_and
theorem Tt : type_of% @Go.results_none := @Go.results_none
theorem Tu : type_of% @List.getElem?_set_self := @List.getElem?_set_self
theorem Tv : type_of% @List.drop_eq_nil_of_le := @List.drop_eq_nil_of_le
theorem Tw : type_of% @List.sum_nil := @List.sum_nil
theorem Tx : type_of% @List.singleton_append := @List.singleton_append
theorem Ty : type_of% @List.getElem?_eq_none := @List.getElem?_eq_none
theorem Tz : type_of% @List.count_cons_of_ne := @List.count_cons_of_ne
theorem TA : type_of% @List.cons.injEq := @List.cons.injEq
theorem TC : type_of% @Int.natCast_add := @Int.natCast_add
theorem TD : type_of% @Nat.mul_le_mul_right := @Nat.mul_le_mul_right
theorem TE : type_of% @List.drop_drop := @List.drop_drop
end Go.Proofs.YtebabjnngdjceaaGreatDoor
