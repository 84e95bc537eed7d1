/- What every row of this seat needs: the listed tables' cells, and a world that meets the condition. -/
import Derived.Test.YtkiglnfapoifiaaDoorCards
import Derived.Test.YtkiglnfapoifiaaDoorTie
import Derived.Test.YtkiglnfapoifiaaDoorW5
import Derived.WalkKit
import Derived.ProofKit
import Derived.OpenShut
import Derived.LaidLaws
import Derived.LaidHandle
import Derived.LaidSub
import Derived.Deep.DeepHandedRow
import Derived.Lib.LaidTab
import Derived.Lib.LaidU8
import Derived.PinnedBridge
namespace Go.Proofs.YtkiglnfapoifiaaDoor
open Go.ChangeShapes Go.WideShapes Go.ChangeAt Go.RowKit

theorem own : ownKnob Tryd.prog.godebug = none := by kernel_rfl
theorem cellsR : Tryd.prog.cellsOf 21 = 1 := by kernel_rfl
theorem cellsP : Tryd.prog.cellsOf 67 = 2 := by kernel_rfl
theorem gNone : Tryd.prog.globalNamed "flong/runes.none" = some 0 := by kernel_rfl
theorem gTwice : Tryd.prog.globalNamed "flong/runes.twice" = some 1 := by kernel_rfl
theorem yNone : (Tryd.prog.globals[0]?).map (·.type) = some 68 := by kernel_rfl
theorem yTwice : (Tryd.prog.globals[1]?).map (·.type) = some 69 := by kernel_rfl

def tabD (T : List (Int × Int)) : DataW Unit := .agg (T.map fun p => .agg [.lit (.int .i32 p.1), .lit (.int .i32 p.2)])
theorem tabD_none : Rows.laid_flong_runes_none = tabD nones := rfl
theorem tabD_twice : Rows.laid_flong_runes_twice = tabD twos := rfl

theorem tab_of {W : World} {name : String} {g t n : Nat} {T : List (Int × Int)} (hg : Tryd.prog.globalNamed name = some g) (hty : (Tryd.prog.globals[g]?).map (·.type) = some t) (ht : Tryd.prog.underlying t = some (.array n 67)) (hn : T.length = n)
    (h : Lib.VarReads Tryd.prog W name (tabD T)) : ∀ i, i < n → W.cell? ⟨g, i * 2, none⟩ = some (.int .i32 (lo T i)) ∧ W.cell? ⟨g, i * 2 + 1, none⟩ = some (.int .i32 (hi T i)) := by
  intro i hi
  obtain ⟨g', t', cs, fuel, p, hg', hty', hvar, hd⟩ := h
  obtain rfl := Option.some.inj (hg.symm.trans hg')
  obtain rfl := Option.some.inj (hty.symm.trans hty')
  obtain ⟨fuel', d, q, hdi, he⟩ := Lib.array_elem ht hd i hi
  subst hn
  simp only [List.getElem?_map, List.getElem?_eq_getElem hi, Option.map_some, Option.some.injEq] at hdi
  subst hdi
  rw [cellsP] at he
  have hcs := Lib.cells_of_tab (k := .i32) (zs := [T[i].1, T[i].2]) Tryd.underlying67 Tryd.underlying21 cellsR cellsP he
  have e0 := congrArg (·[0]?) hcs
  have e1 := congrArg (·[1]?) hcs
  simp only [List.getElem?_take, List.getElem?_drop] at e0 e1
  have l0 : lo T i = T[i].1 := by simp [lo, List.getD, hi]
  have l1 : Go.Proofs.YtkiglnfapoifiaaDoor.hi T i = T[i].2 := by simp [Go.Proofs.YtkiglnfapoifiaaDoor.hi, List.getD, hi]
  rw [l0, l1]
  constructor
  · rw [World.var?_cell hg hvar (i * 2), ← Array.getElem?_toList]
    simpa using e0
  · rw [World.var?_cell hg hvar (i * 2 + 1), ← Array.getElem?_toList]
    simpa using e1

theorem tabs_of_reads {W : World} (h1 : Lib.VarReads Tryd.prog W "flong/runes.none" Rows.laid_flong_runes_none) (h2 : Lib.VarReads Tryd.prog W "flong/runes.twice" Rows.laid_flong_runes_twice) : Tabs W :=
  ⟨tab_of gNone yNone Tryd.underlying68 rfl (tabD_none ▸ h1), tab_of gTwice yTwice Tryd.underlying69 rfl (tabD_twice ▸ h2)⟩

/-- The list of the rows. -/
def laid2 : List (String × DataW Unit) := [("flong/runes.none", Rows.laid_flong_runes_none), ("flong/runes.twice", Rows.laid_flong_runes_twice)]

theorem plainH {l : List (String × DataW Unit)} (hl : (l.filter fun x => x.2.handleName?.isSome) = []) (W : World) : laidMetH Tryd.prog l W = laidMet Tryd.prog l W := by
  unfold laidMetH
  rw [hl]
theorem plain_of {l : List (String × DataW Unit)} (hl : (l.filter fun x => x.2.handleName?.isSome) = []) {W : World} (h : laidMetH Tryd.prog l W) : laidMet Tryd.prog l W := (plainH hl W) ▸ h
theorem tabs_of_laid2 {W : World} (h : laidMetH Tryd.prog laid2 W) : Tabs W := by
  have h' := plain_of (by kernel_rfl) h
  exact tabs_of_reads (Lib.laidMet.reads h' (by simp [laid2])) (Lib.laidMet.reads h' (by simp [laid2]))

/-- A world for a witness: the settled one, the variables' cells laid. -/
def rowOf (T : List (Int × Int)) : Array Value := ((T.map fun p => [Value.int .i32 p.1, .int .i32 p.2]).flatten).toArray
def setCells (C : Array Value) : Obj → Obj
  | .cells _ t frozen => .cells C t frozen
  | o => o
noncomputable def laidWorld (os : Os) : World :=
  { World.holding Tryd.prog os ⟨#[], #[], []⟩ with heap := ((World.holding Tryd.prog os ⟨#[], #[], []⟩).heap.modify 0 (setCells (rowOf nones))).modify 1 (setCells (rowOf twos)) }
theorem laid_met2 (os : Os) (args : Array Value) : laidMetH Tryd.prog laid2 ((laidWorld os).forCall (fun _ _ => 0) ⟨#[], args, []⟩).memory := by
  rw [plainH (by kernel_rfl)]
  exact laidMet_of_run' 8 (by kernel_rfl) (by kernel_rfl)
theorem laidOut : laidOutB Tryd.prog = true := by kernel_rfl
theorem cellsB : Tryd.prog.cellsOf 5 = 1 := by kernel_rfl

theorem u8_bd {x : Int} (h : (Lit.int .u8 x).wf = true) : 0 ≤ x ∧ x ≤ 255 := by
  simp [Lit.wf, IntKind.min, IntKind.max, IntKind.signed, IntKind.bits] at h
  omega
theorem u16_bd {x : Int} (h : (Lit.int .u16 x).wf = true) : 0 ≤ x ∧ x ≤ 65535 := by
  simp [Lit.wf, IntKind.min, IntKind.max, IntKind.signed, IntKind.bits] at h
  omega
theorem i32_bd {x : Int} (h : (Lit.int .i32 x).wf = true) : -2147483648 ≤ x ∧ x ≤ 2147483647 := by
  simp [Lit.wf, IntKind.min, IntKind.max, IntKind.signed, IntKind.bits] at h
  omega
end Go.Proofs.YtkiglnfapoifiaaDoor
