/- Short names of what is used most. -/
import Derived.OrdersHeld
import Derived.WalkKit
import Derived.WalkSpells
import Derived.WalkLawsBesides
import Derived.Below
import Derived.Test.YtebabjnngdjceaaGreatDoorProg
import Derived.Tactics
import Derived.KernelRfl
import Derived.Lib.Hide
namespace Go.Proofs.YtebabjnngdjceaaGreatDoor
open Go.RowKit

theorem zT {α : Type} {xs : List α} {i : Nat} (h : i < xs.toArray.size) : xs.toArray[i] = xs[i]'(by simpa using h) := List.getElem_toArray h
theorem zZ {α : Type} {a : α} {l : List α} (h : 0 < (a :: l).length) : getElem (a :: l) 0 h = a := rfl
theorem zS {α : Type} {i : Nat} {a : α} {l : List α} (h : i + 1 < (a :: l).length) : getElem (a :: l) (i + 1) h = getElem l i (Nat.lt_of_succ_lt_succ h) := rfl
theorem yT {α : Type} (l : List α) (i : Nat) (a : α) : l.toArray.setIfInBounds i a = (l.set i a).toArray := List.setIfInBounds_toArray l i a
theorem yZ {α : Type} {x a : α} {xs : List α} : (x :: xs).set 0 a = a :: xs := rfl
theorem yS {α : Type} {i : Nat} {x a : α} {xs : List α} : (x :: xs).set (i + 1) a = x :: xs.set i a := rfl
theorem zH {p : Prop} (h : p) : Hid p := h
theorem zK {P : Program} {ops : Array Oper} {Q : Exit → Act → World → Prop} {md : Region.Mode} {S : World → Prop} {i : Nat} {oi : Oper} {v : Value} {fuel : Nat} {listed : Array Bool} {a : Act} {w : World} (hi : ops[i]? = some oi)
    (h : wpAnyH P md ops Q S fuel (listed.setIfInBounds i true) (a.put oi.dst v) w)
    (hs : Region.noSelect ops = true := by kernel_rfl) (hf : Region.free md ops listed i = true := by kernel_rfl) (hr : (Region.ready md ops listed).contains i = true := by kernel_rfl)
    (hQ : ∀ c a w, Q (.panic c) (a.put oi.dst v) w → Q (.panic c) a w := by exact fun _ _ _ h => h)
    (hy : YieldsIf P ops S oi v a := by exact Or.inl ⟨by rfl, fun w' hSw => by (try dsimp only at hSw); go_simp⟩) (hS : S w := by assumption) : wpAnyH P md ops Q S (fuel + 1) listed a w :=
  wpAnyH_take hi hs hf hr hQ hy hS h
theorem Mk : type_of% @List.getElem?_cons_succ := @List.getElem?_cons_succ
theorem Ml : type_of% @List.getElem?_cons_zero := @List.getElem?_cons_zero
theorem Mm : type_of% @List.getElem?_eq_some_iff := @List.getElem?_eq_some_iff
theorem Mo : type_of% @Nat.le_refl := @Nat.le_refl
theorem Mq : type_of% @List.getElem?_eq_getElem := @List.getElem?_eq_getElem
theorem Mr : type_of% @Go.RowKit.Below.refl := @Go.RowKit.Below.refl
theorem Ms : type_of% @Nat.lt_of_lt_of_le := @Nat.lt_of_lt_of_le
theorem Mt : type_of% @Go.RowKit.Below.heap_setCell := @Go.RowKit.Below.heap_setCell
theorem Mv : type_of% @Array.getElem?_eq_some_iff := @Array.getElem?_eq_some_iff
theorem Mw : type_of% @Go.heap_alloc_new := @Go.heap_alloc_new
theorem MB : type_of% @List.length_cons := @List.length_cons
theorem ME : type_of% @if_neg := @if_neg
theorem MF : type_of% @List.length_append := @List.length_append
theorem MG : type_of% @Go.World.size_alloc := @Go.World.size_alloc
theorem MH : type_of% @Option.some.inj := @Option.some.inj
theorem MI : type_of% @congrArg := @congrArg
theorem MJ : type_of% @List.length_drop := @List.length_drop
theorem MK : type_of% @List.length_nil := @List.length_nil
theorem ML : type_of% @List.length_take := @List.length_take
theorem MN : type_of% @Go.World.block_lt_of_cell? := @Go.World.block_lt_of_cell?
theorem MO : type_of% @if_pos := @if_pos
theorem MP : type_of% @Nat.le_trans := @Nat.le_trans
theorem MQ : type_of% @List.append_nil := @List.append_nil
theorem MR : type_of% @List.getElem?_append_right := @List.getElem?_append_right
theorem MS : type_of% @Option.isSome_iff_exists := @Option.isSome_iff_exists
theorem MU : type_of% @Go.wpAnyH_done := @Go.wpAnyH_done
theorem MV : type_of% @List.getElem?_append_left := @List.getElem?_append_left
theorem MW : type_of% @decide_eq_false := @decide_eq_false
theorem MX : type_of% @Bool.false_eq_true := @Bool.false_eq_true
theorem MZ : type_of% @Go.wpAnyH_take := @Go.wpAnyH_take
theorem M0 : type_of% @Go.RowKit.ownsRow_setCell_below := @Go.RowKit.ownsRow_setCell_below
theorem M7 : type_of% @List.eq_nil_of_length_eq_zero := @List.eq_nil_of_length_eq_zero
theorem Na : type_of% @List.take_length := @List.take_length
theorem Nb : type_of% @Go.Result.andThen_ok := @Go.Result.andThen_ok
theorem Nc : type_of% @List.length_pos_iff := @List.length_pos_iff
theorem Nf : type_of% @Go.bodyPost_ret := @Go.bodyPost_ret
theorem Ng : type_of% @Go.info_parts := @Go.info_parts
theorem Nh : type_of% @List.map_cons := @List.map_cons
theorem Ni : type_of% @List.append_assoc := @List.append_assoc
theorem Nj : type_of% @List.not_mem_nil := @List.not_mem_nil
theorem Nk : type_of% @List.nil_append := @List.nil_append
theorem Nl : type_of% @List.take_add_one := @List.take_add_one
theorem Nn : type_of% @List.cons_append := @List.cons_append
theorem Np : type_of% @Go.World.cell?_of_block := @Go.World.cell?_of_block
theorem Nq : type_of% @Nat.add_zero := @Nat.add_zero
theorem Nr : type_of% @List.mem_cons := @List.mem_cons
theorem Ns : type_of% @Decidable.byContradiction := @Decidable.byContradiction
theorem Nt : type_of% @Go.run_underlying := @Go.run_underlying
theorem Nu : type_of% @Go.Sem.run_bind := @Go.Sem.run_bind
theorem Nv : type_of% @Option.isSome_none := @Option.isSome_none
theorem Nw : type_of% @Go.heap_alloc_old := @Go.heap_alloc_old
theorem Ny : type_of% @Go.Sem.run_pure := @Go.Sem.run_pure
theorem Nz : type_of% @Option.some.injEq := @Option.some.injEq
theorem NA : type_of% @List.getElem?_map := @List.getElem?_map
theorem NB : type_of% @decide_eq_true := @decide_eq_true
theorem ND : type_of% @List.length_map := @List.length_map
theorem NF : type_of% @List.drop_eq_getElem_cons := @List.drop_eq_getElem_cons
theorem NG : type_of% @Option.getD_none := @Option.getD_none
theorem NH : type_of% @List.mem_iff_getElem? := @List.mem_iff_getElem?
theorem NI : type_of% @List.getElem?_drop := @List.getElem?_drop
theorem NJ : type_of% @List.take_of_length_le := @List.take_of_length_le
theorem NK : type_of% @Nat.zero_le := @Nat.zero_le
theorem NL : type_of% @Option.isSome_some := @Option.isSome_some
theorem NM : type_of% @Bool.and_eq_true := @Bool.and_eq_true
theorem NN : type_of% @List.mem_of_getElem? := @List.mem_of_getElem?
theorem NP : type_of% @Go.Lib.run_eql_slice_nil := @Go.Lib.run_eql_slice_nil
theorem NQ : type_of% @Go.Exit.noGoto_ret := @Go.Exit.noGoto_ret
theorem NR : type_of% @Nat.le_succ := @Nat.le_succ
theorem NS : type_of% @Go.Addr.add_lit := @Go.Addr.add_lit
theorem NT : type_of% @Option.getD_some := @Option.getD_some
theorem NU : type_of% @if_false := @if_false
theorem NW : type_of% @List.take_append_drop := @List.take_append_drop
theorem NY : type_of% @List.map_nil := @List.map_nil
theorem NZ : type_of% @List.mem_of_mem_take := @List.mem_of_mem_take
theorem N7 : type_of% @List.getElem?_set_ne := @List.getElem?_set_ne
theorem N8 : type_of% @of_decide_eq_true := @of_decide_eq_true
theorem N9 : type_of% @Nat.zero_add := @Nat.zero_add
theorem Oa : type_of% @Prod.mk.injEq := @Prod.mk.injEq
theorem Ob : type_of% @or_false := @or_false
theorem Oc : type_of% @List.eq_nil_or_concat := @List.eq_nil_or_concat
theorem Od : type_of% @Go.RowKit.Below.heap_alloc := @Go.RowKit.Below.heap_alloc
theorem Oe : type_of% @List.foldl_append := @List.foldl_append
theorem Og : type_of% @Int.toNat_natCast := @Int.toNat_natCast
theorem Oh : type_of% @Go.ownsRow_setCell_other := @Go.ownsRow_setCell_other
theorem Oi : type_of% @beq_eq_false_iff_ne := @beq_eq_false_iff_ne
theorem Oj : type_of% @Go.World.drewN_drewN := @Go.World.drewN_drewN
theorem Ol : type_of% @Nat.sub_self := @Nat.sub_self
theorem Om : type_of% @List.length_set := @List.length_set
theorem Oo : type_of% @List.foldl_cons := @List.foldl_cons
theorem Oq : type_of% @beq_iff_eq := @beq_iff_eq
theorem Ot : type_of% @Nat.le_of_eq := @Nat.le_of_eq
theorem Ou : type_of% @List.set_append_right := @List.set_append_right
theorem Ov : type_of% @Go.callsIn_wide := @Go.callsIn_wide
theorem Ox : type_of% @UInt8.toNat_inj := @UInt8.toNat_inj
theorem Oy : type_of% @Option.map_some := @Option.map_some
theorem Oz : type_of% @Nat.mul_one := @Nat.mul_one
theorem OA : type_of% @Nat.min_eq_left := @Nat.min_eq_left
theorem OB : type_of% @List.drop_succ_cons := @List.drop_succ_cons
theorem OC : type_of% @Iff.rfl := @Iff.rfl
theorem OD : type_of% @Go.RowKit.Below.alloc := @Go.RowKit.Below.alloc
end Go.Proofs.YtebabjnngdjceaaGreatDoor
