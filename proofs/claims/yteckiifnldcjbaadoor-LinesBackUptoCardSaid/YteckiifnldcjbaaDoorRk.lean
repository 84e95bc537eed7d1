/- What every row of this seat needs: a world that meets the condition (the two tables of unicode/utf8 laid). -/
import Derived.Test.YteckiifnldcjbaaDoorCards
import Derived.Test.YteckiifnldcjbaaDoorTie
import Derived.Test.YteckiifnldcjbaaDoorRs
import Derived.WalkKit
import Derived.ProofKit
import Derived.OpenShut
import Derived.LaidLaws
import Derived.LaidHandle
import Derived.LaidSub
import Derived.Deep.DeepHandedRow
import Derived.Lib.LaidTab
import Derived.Lib.LaidU8
import Derived.PinnedBridge
namespace Go.Proofs.YteckiifnldcjbaaDoor
open Go.ChangeShapes Go.WideShapes Go.ChangeAt Go.RowKit

theorem own : ownKnob Tryd.prog.godebug = none := by kernel_rfl
theorem plainH {l : List (String × DataW Unit)} (hl : (l.filter fun x => x.2.handleName?.isSome) = []) (W : World) : laidMetH Tryd.prog l W = laidMet Tryd.prog l W := by
  unfold laidMetH
  rw [hl]
def laidU : List (String × DataW Unit) := [("unicode/utf8.acceptRanges", Rows.laid_unicode_utf8_acceptRanges), ("unicode/utf8.first", Rows.laid_unicode_utf8_first)]
def setCells (C : Array Value) : Obj → Obj
  | .cells _ t frozen => .cells C t frozen
  | o => o
def firstRow : Array Value := (Lib.firstTab.map fun z => Value.int .u8 z).toArray
def acceptRow : Array Value := (((List.range 16).map fun i => [Value.int .u8 (Lib.accLo i : Int), .int .u8 (Lib.accHi i : Int)]).flatten).toArray
noncomputable def laidWorld (os : Os) : World :=
  { World.holding Tryd.prog os ⟨#[], #[], []⟩ with heap := ((World.holding Tryd.prog os ⟨#[], #[], []⟩).heap.modify 1 (setCells firstRow)).modify 2 (setCells acceptRow) }
theorem laid_metU (os : Os) (args : Array Value) : laidMetH Tryd.prog laidU ((laidWorld os).forCall (fun _ _ => 0) ⟨#[], args, []⟩).memory := by
  rw [plainH (by kernel_rfl)]
  exact laidMet_of_run' 8 (by kernel_rfl) (by kernel_rfl)
theorem laidOut : laidOutB Tryd.prog = true := by kernel_rfl
theorem u8_bd {x : Int} (h : (Lit.int .u8 x).wf = true) : 0 ≤ x ∧ x ≤ 255 := by
  simp [Lit.wf, IntKind.min, IntKind.max, IntKind.signed, IntKind.bits] at h
  omega
end Go.Proofs.YteckiifnldcjbaaDoor
