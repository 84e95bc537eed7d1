/- Small things that all of layer 5 wants: bytes of texts, '+' of texts, worlds that only grow. -/
import Derived.Test.YteckiifnldcjbaaDoorGx
import Derived.Lib.Hide
import Derived.Lib.Strings
import Derived.Laws.Strings3
import Derived.Deep.QuietTactic
import Derived.BigQuiet
namespace Go.Proofs.YteckiifnldcjbaaDoor
open Go.RowKit

theorem ret_bool {a b : Bool} (h : a = b) : Ending.returned (.bool a) = .returned (.bool b) := by rw [h]
theorem ret_int {k : IntKind} {a b : Int} (h : a = b) : Ending.returned (.int k a) = .returned (.int k b) := by rw [h]
theorem bool_of_iff {a b : Bool} (h : a = true ↔ b = true) : a = b := by cases a <;> cases b <;> simp at h ⊢
theorem arr_size (b : List UInt8) : (⟨b.toArray⟩ : ByteArray).size = b.length := by simp [Go.Lib.size_eq]

/-- One byte of a text; a text's end; a piece of one; its front. -/
theorem str_idx (b : List UInt8) (i : Nat) (x : UInt8) (h : b[i]? = some x) (w : World) : (Instr.index 9 (.string ⟨b.toArray⟩) (.int .i64 (i : Int))).run Tryd.prog w = .ok (.int .u8 (x.toNat : Int)) w := by
  obtain ⟨hi, hx⟩ := List.getElem?_eq_some_iff.1 h
  have hsz := arr_size b
  rw [run_index_string w 9 _ .i64 (i : Int) Tryd.underlying9, dif_pos ⟨by omega, by rw [hsz]; omega⟩]
  have e : (⟨b.toArray⟩ : ByteArray)[((i : Int)).toNat]'(by rw [hsz]; omega) = x := by
    show b.toArray[((i : Int)).toNat]'_ = x
    simp only [Int.toNat_natCast, List.getElem_toArray]
    exact hx
  rw [e]
theorem str_from (b : List UInt8) (i : Nat) (h : i ≤ b.length) (w : World) : (Instr.slice 9 (.string ⟨b.toArray⟩) (some (.int .i64 (i : Int))) none none).run Tryd.prog w = .ok (.string ⟨(b.drop i).toArray⟩) w := by
  have hsz := arr_size b
  rw [run_slice_string_from_if w 9 _ .i64 (i : Int) Tryd.underlying9, if_pos ⟨by omega, by rw [hsz]; omega⟩, hsz, ByteArray.extract_mk]
  simp only [Int.toNat_natCast]
  rw [List.take_of_length_le (by simp)]
theorem str_mid (b : List UInt8) (i j : Nat) (hi : i ≤ j) (h : j ≤ b.length) (w : World) : (Instr.slice 9 (.string ⟨b.toArray⟩) (some (.int .i64 (i : Int))) (some (.int .i64 (j : Int))) none).run Tryd.prog w = .ok (.string ⟨((b.drop i).take (j - i)).toArray⟩) w := by
  have hsz := arr_size b
  rw [run_slice_string w 9 _ .i64 .i64 (i : Int) (j : Int) Tryd.underlying9 (by omega) (by omega) (by rw [hsz]; omega), ByteArray.extract_mk]
  simp only [Int.toNat_natCast]
theorem str_to (b : List UInt8) (j : Nat) (h : j ≤ b.length) (w : World) : (Instr.slice 9 (.string ⟨b.toArray⟩) none (some (.int .i64 (j : Int))) none).run Tryd.prog w = .ok (.string ⟨(b.take j).toArray⟩) w := by
  have hsz := arr_size b
  rw [run_slice_string_to_if w 9 _ .i64 (j : Int) Tryd.underlying9, if_pos ⟨by omega, by rw [hsz]; omega⟩, ByteArray.extract_mk]
  simp only [Int.toNat_natCast, List.drop_zero, Nat.sub_zero]

theorem cat_str (a c : List UInt8) : (⟨a.toArray⟩ : ByteArray) ++ ⟨c.toArray⟩ = ⟨(a ++ c).toArray⟩ := by
  apply ByteArray.ext
  simp
/-- '+' of texts, kept whole. -/
noncomputable def addS (a c : Value) : Sem Value := binOp .add 9 a c
theorem binop_addS (a c : Value) : binOp .add 9 a c = addS a c := rfl
theorem str_add (a c : List UInt8) (h : a.length + c.length ≤ 100000000) (W : World) : (addS (.string ⟨a.toArray⟩) (.string ⟨c.toArray⟩)).run Tryd.prog W = .ok (.string ⟨(a ++ c).toArray⟩) W := by
  unfold addS
  have ha := arr_size a
  have hc := arr_size c
  rw [binOp_string_add]
  simp [Op.stringOp, cat_str, ha, hc, maxLen]
  omega
/-- Two texts are one. -/
theorem str_eq (a c : List UInt8) : decide ((⟨a.toArray⟩ : ByteArray) = ⟨c.toArray⟩) = decide (a = c) := by
  apply bool_of_iff
  simp
theorem str_inj {a c : List UInt8} (h : (⟨a.toArray⟩ : ByteArray) = ⟨c.toArray⟩) : a = c := by
  have := congrArg (fun b : ByteArray => b.data.toList) h
  simpa using this

theorem below_drewN {B : Nat} {a w : World} (h : Below B a w) : ∀ q, Below B a (w.drewN q)
  | 0 => h
  | q + 1 => (below_drewN h q).drew
theorem below_lit (w : World) (o : Obj) : Below w.heap.size w (w.alloc o) := (Below.refl _ w).alloc (Nat.le_refl _) _
theorem below_two (w : World) (a b : Obj) : Below w.heap.size w ((w.alloc a).alloc b) := ((Below.refl _ w).alloc (Nat.le_refl _) _).alloc (by simp) _
theorem setCell_sz (w : World) (a : Addr) (v : Value) : (w.setCell a v).heap.size = w.heap.size := by simp [World.setCell]
theorem row_ne {α : Type} {e n base : Nat} {f : α → List Value} {W : World} {x : Value} {l : List α} (h : FOwn e n f base W x l) {b e' : Nat} {C : List Value} (hb : Blk W b e' C) (he : e ≠ e') : x.ownBlock ≠ some b := by
  intro hx
  obtain ⟨-, cur, hc⟩ := h.ty hx
  have hb' : W.heap[b]? = some (.cells C.toArray e' (0, 0)) := hb
  rw [hb'] at hc
  injection hc with hc
  injection hc with _ h2 _
  exact he h2.symm
theorem blk_new (w : World) (L : List Value) (e : TypeId) : Blk (w.alloc (.cells L.toArray e)) w.heap.size e L := heap_alloc_new w _
end Go.Proofs.YteckiifnldcjbaaDoor
