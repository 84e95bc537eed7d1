/-
  NARROWER THAN 'FOR EVERY INPUT', by the rows' own cells (each row's printed sentence says how): DiagMakes: laid · DiagSorts: laid · DiagMoves: laid · DiagClips: laid · DiagNone: laid · DiagPlaces: laid.
  DERIVED. THE GIVEN ROWS OF THIS SEAT. 6 by the template 'for every input the law returns true; each argument reads behind the call as it read before'; 0 by the template 'total and deterministic' (their statements: YtalopkplpbdgjaaDoorTotals.lean).
  GIVEN WITH THE SEED: the statements are not yours to turn. If you find one false, say at which input.
  Laid BY PROGRAM, IN A SANDBOX (cutbox-rows.mjs): the forced cells as the released guide's own fill.sh prints them over the translation 0695524aa29992b7… (all of the seat's roots in one cut). By AI agents, Wed Nov 11 2026. No macro, syntax, notation, axiom, sorry.
-/
import Derived.Test.YtalopkplpbdgjaaDoorChecked
import GoSem.Claim
import GoSem.ClaimJoined
import GoSem.ClaimMapViews
import Derived.JoinedTies
import Derived.KernelRfl
namespace Go.Proofs.YtalopkplpbdgjaaDoor
/- THE CELL 'sum', in the pinned program and in every row, IS THE sha256 OF THE DUMP (.gsa) THAT YtalopkplpbdgjaaDoorProg.lean LOADS. Nothing in Lean hashes anything: it is a label: what it is worth is what the hold of that sum in a sandbox is worth. -/
noncomputable def Tryd.pinned : Pinned := { name := "ytalopkplpbdgjaadoor", sum := "0695524aa29992b7900fce74f4459d53646374aeefd4b54882916f2e5d53f545", checked := Tryd.checked }
namespace Rows
def none {H : Type} : Left H := { results := [], args := [] }

/- WHAT THE LISTED PACKAGE-LEVEL VARIABLES READ AS WHEN THE CALL BEGINS. Each datum BY PROGRAM (the guide's laid-datum.mjs) off the statement by which the dump's own 'gosem.cut.vars' lays the variable. In a bare row this is a premise. The card (YtalopkplpbdgjaaDoorCards.lean) ties it to the program's text. -/
def laid_errors_errorType {H : Type} : DataW H := .iface "internal/reflectlite.rtype" (.agg [.ptr (.lit (.string [101, 114, 114, 111, 114]))])

/-- 'flonglaw01.DiagMakes': WHATEVER THE INPUT: true; the input reads as it did. -/
def diagMakesSpec : ChangeSpec := { name := "diagMakes", fn := fun _ => fun
  | [d1, d2] => { results := [.lit (.bool true)], args := [d1, d2] }
  | _ => none }
def diagMakesRow : OpenClaim := { program := "ytalopkplpbdgjaadoor", sum := "0695524aa29992b7900fce74f4459d53646374aeefd4b54882916f2e5d53f545", func := "flong/flonglaw01.DiagMakes", spec := "diagMakes", inPlace := ["internal/reflectlite.ValueOf", "(internal/reflectlite.Value).Type", "(internal/reflectlite.Value).IsNil", "internal/reflectlite.TypeOf", "(internal/reflectlite.Value).Elem", "(internal/reflectlite.Value).Set"], unfollowed := true, recurses := true, named := ["errors.errorType"], apart := false, laid := [("errors.errorType", laid_errors_errorType)] }
def DiagMakesSaid : Prop := diagMakesRow.holds Tryd.pinned (OpenSpec.ofChange diagMakesSpec)

/-- ITS FALSE NEIGHBOUR: 'it returns false'. Refute it at one input. -/
def diagMakesWrong : ChangeSpec := { name := "diagMakes", fn := fun _ => fun
  | [d1, d2] => { results := [.lit (.bool false)], args := [d1, d2] }
  | _ => none }
def DiagMakesWrongFalsely : Prop := diagMakesRow.holds Tryd.pinned (OpenSpec.ofChange diagMakesWrong)

/-- 'flonglaw01.DiagSorts': WHATEVER THE INPUT: true; the input reads as it did. -/
def diagSortsSpec : ChangeSpec := { name := "diagSorts", fn := fun _ => fun
  | [d] => { results := [.lit (.bool true)], args := [d] }
  | _ => none }
def diagSortsRow : OpenClaim := { program := "ytalopkplpbdgjaadoor", sum := "0695524aa29992b7900fce74f4459d53646374aeefd4b54882916f2e5d53f545", func := "flong/flonglaw01.DiagSorts", spec := "diagSorts", inPlace := ["internal/reflectlite.ValueOf", "(internal/reflectlite.Value).Type", "(internal/reflectlite.Value).IsNil", "internal/reflectlite.TypeOf", "(internal/reflectlite.Value).Elem", "(internal/reflectlite.Value).Set"], unfollowed := true, recurses := true, named := ["errors.errorType"], apart := false, laid := [("errors.errorType", laid_errors_errorType)] }
def DiagSortsSaid : Prop := diagSortsRow.holds Tryd.pinned (OpenSpec.ofChange diagSortsSpec)

/-- ITS FALSE NEIGHBOUR: 'it returns false'. Refute it at one input. -/
def diagSortsWrong : ChangeSpec := { name := "diagSorts", fn := fun _ => fun
  | [d] => { results := [.lit (.bool false)], args := [d] }
  | _ => none }
def DiagSortsWrongFalsely : Prop := diagSortsRow.holds Tryd.pinned (OpenSpec.ofChange diagSortsWrong)

/-- 'flonglaw01.DiagMoves': WHATEVER THE INPUT: true; the input reads as it did. -/
def diagMovesSpec : ChangeSpec := { name := "diagMoves", fn := fun _ => fun
  | [d1, d2, d3, d4, d5] => { results := [.lit (.bool true)], args := [d1, d2, d3, d4, d5] }
  | _ => none }
def diagMovesRow : OpenClaim := { program := "ytalopkplpbdgjaadoor", sum := "0695524aa29992b7900fce74f4459d53646374aeefd4b54882916f2e5d53f545", func := "flong/flonglaw01.DiagMoves", spec := "diagMoves", inPlace := ["internal/reflectlite.ValueOf", "(internal/reflectlite.Value).Type", "(internal/reflectlite.Value).IsNil", "internal/reflectlite.TypeOf", "(internal/reflectlite.Value).Elem", "(internal/reflectlite.Value).Set"], unfollowed := true, recurses := true, named := ["errors.errorType"], apart := false, laid := [("errors.errorType", laid_errors_errorType)] }
def DiagMovesSaid : Prop := diagMovesRow.holds Tryd.pinned (OpenSpec.ofChange diagMovesSpec)

/-- ITS FALSE NEIGHBOUR: 'it returns false'. Refute it at one input. -/
def diagMovesWrong : ChangeSpec := { name := "diagMoves", fn := fun _ => fun
  | [d1, d2, d3, d4, d5] => { results := [.lit (.bool false)], args := [d1, d2, d3, d4, d5] }
  | _ => none }
def DiagMovesWrongFalsely : Prop := diagMovesRow.holds Tryd.pinned (OpenSpec.ofChange diagMovesWrong)

/-- 'flonglaw01.DiagClips': WHATEVER THE INPUT: true; the input reads as it did. -/
def diagClipsSpec : ChangeSpec := { name := "diagClips", fn := fun _ => fun
  | [d1, d2] => { results := [.lit (.bool true)], args := [d1, d2] }
  | _ => none }
def diagClipsRow : OpenClaim := { program := "ytalopkplpbdgjaadoor", sum := "0695524aa29992b7900fce74f4459d53646374aeefd4b54882916f2e5d53f545", func := "flong/flonglaw01.DiagClips", spec := "diagClips", inPlace := ["internal/reflectlite.ValueOf", "(internal/reflectlite.Value).Type", "(internal/reflectlite.Value).IsNil", "internal/reflectlite.TypeOf", "(internal/reflectlite.Value).Elem", "(internal/reflectlite.Value).Set"], unfollowed := true, recurses := true, named := ["errors.errorType"], apart := false, laid := [("errors.errorType", laid_errors_errorType)] }
def DiagClipsSaid : Prop := diagClipsRow.holds Tryd.pinned (OpenSpec.ofChange diagClipsSpec)

/-- ITS FALSE NEIGHBOUR: 'it returns false'. Refute it at one input. -/
def diagClipsWrong : ChangeSpec := { name := "diagClips", fn := fun _ => fun
  | [d1, d2] => { results := [.lit (.bool false)], args := [d1, d2] }
  | _ => none }
def DiagClipsWrongFalsely : Prop := diagClipsRow.holds Tryd.pinned (OpenSpec.ofChange diagClipsWrong)

/-- 'flonglaw01.DiagNone': WHATEVER THE INPUT: true; the input reads as it did. -/
def diagNoneSpec : ChangeSpec := { name := "diagNone", fn := fun _ => fun
  | [d1, d2, d3] => { results := [.lit (.bool true)], args := [d1, d2, d3] }
  | _ => none }
def diagNoneRow : OpenClaim := { program := "ytalopkplpbdgjaadoor", sum := "0695524aa29992b7900fce74f4459d53646374aeefd4b54882916f2e5d53f545", func := "flong/flonglaw01.DiagNone", spec := "diagNone", inPlace := ["internal/reflectlite.ValueOf", "(internal/reflectlite.Value).Type", "(internal/reflectlite.Value).IsNil", "internal/reflectlite.TypeOf", "(internal/reflectlite.Value).Elem", "(internal/reflectlite.Value).Set"], unfollowed := true, recurses := true, named := ["errors.errorType"], apart := false, laid := [("errors.errorType", laid_errors_errorType)] }
def DiagNoneSaid : Prop := diagNoneRow.holds Tryd.pinned (OpenSpec.ofChange diagNoneSpec)

/-- ITS FALSE NEIGHBOUR: 'it returns false'. Refute it at one input. -/
def diagNoneWrong : ChangeSpec := { name := "diagNone", fn := fun _ => fun
  | [d1, d2, d3] => { results := [.lit (.bool false)], args := [d1, d2, d3] }
  | _ => none }
def DiagNoneWrongFalsely : Prop := diagNoneRow.holds Tryd.pinned (OpenSpec.ofChange diagNoneWrong)

/-- 'flonglaw01.DiagPlaces': WHATEVER THE INPUT: true; the input reads as it did. -/
def diagPlacesSpec : ChangeSpec := { name := "diagPlaces", fn := fun _ => fun
  | [d1, d2] => { results := [.lit (.bool true)], args := [d1, d2] }
  | _ => none }
def diagPlacesRow : OpenClaim := { program := "ytalopkplpbdgjaadoor", sum := "0695524aa29992b7900fce74f4459d53646374aeefd4b54882916f2e5d53f545", func := "flong/flonglaw01.DiagPlaces", spec := "diagPlaces", inPlace := ["internal/reflectlite.ValueOf", "(internal/reflectlite.Value).Type", "(internal/reflectlite.Value).IsNil", "internal/reflectlite.TypeOf", "(internal/reflectlite.Value).Elem", "(internal/reflectlite.Value).Set"], unfollowed := true, recurses := true, named := ["errors.errorType"], apart := false, laid := [("errors.errorType", laid_errors_errorType)] }
def DiagPlacesSaid : Prop := diagPlacesRow.holds Tryd.pinned (OpenSpec.ofChange diagPlacesSpec)

/-- ITS FALSE NEIGHBOUR: 'it returns false'. Refute it at one input. -/
def diagPlacesWrong : ChangeSpec := { name := "diagPlaces", fn := fun _ => fun
  | [d1, d2] => { results := [.lit (.bool false)], args := [d1, d2] }
  | _ => none }
def DiagPlacesWrongFalsely : Prop := diagPlacesRow.holds Tryd.pinned (OpenSpec.ofChange diagPlacesWrong)

/- THE SECOND FORM. 'bulk': how many values and letters a reading holds, each counted each time it is reached (what is shared counts as often as it is met; a slice's spare places count too). A statement '..UptoSaid' is the law's where the arguments, and the package variables that the reading takes, are together of bulk at most 1048576: NARROWER than '..Said'. Prove '..Said' where nothing that the law and all that it calls make is longer than what came in: it says more and counts as full. Else prove '..UptoSaid'. A law counts once. -/
mutual
def uptoBulk {H : Type} : DataW H → Nat
  | .lit (.string bytes) => bytes.length + 1
  | .lit _ => 1
  | .nil => 1
  | .ptr d => uptoBulk d + 1
  | .slice elems spare => uptoBulkAll elems + uptoBulkAll spare + 1
  | .agg parts => uptoBulkAll parts + 1
  | .iface _ d => uptoBulk d + 1
  | .map entries => uptoBulkEntries entries + 1
  | .held _ => 1
def uptoBulkAll {H : Type} : List (DataW H) → Nat
  | [] => 0
  | d :: r => uptoBulk d + uptoBulkAll r
def uptoBulkEntries {H : Type} : List (Lit × DataW H) → Nat
  | [] => 0
  | x :: r => uptoBulkEntry x + uptoBulkEntries r
def uptoBulkEntry {H : Type} : Lit × DataW H → Nat
  | (.string bytes, d) => bytes.length + uptoBulk d + 1
  | (_, d) => uptoBulk d + 1
 end
def uptoSmall : (H : Type) → List (DataW H) → Bool := fun _ ds => decide (uptoBulkAll ds ≤ 1048576)
def OpenSpec.upto (s : _root_.Go.ChangeSpec) : _root_.Go.OpenSpec := { _root_.Go.OpenSpec.ofChange s with cond := some uptoSmall }

/-- 'flonglaw01.DiagMakes', WHERE WHAT IT READS IS OF BULK AT MOST 1048576: true; the input reads as it did. -/
def diagMakesUptoRow : OpenClaim := { program := "ytalopkplpbdgjaadoor", sum := "0695524aa29992b7900fce74f4459d53646374aeefd4b54882916f2e5d53f545", func := "flong/flonglaw01.DiagMakes", spec := "diagMakes", inPlace := ["internal/reflectlite.ValueOf", "(internal/reflectlite.Value).Type", "(internal/reflectlite.Value).IsNil", "internal/reflectlite.TypeOf", "(internal/reflectlite.Value).Elem", "(internal/reflectlite.Value).Set"], unfollowed := true, recurses := true, named := ["errors.errorType"], apart := false, laid := [("errors.errorType", laid_errors_errorType)], narrowed := true }
def DiagMakesUptoSaid : Prop := diagMakesUptoRow.holds Tryd.pinned (OpenSpec.upto diagMakesSpec)

/-- 'flonglaw01.DiagSorts', WHERE WHAT IT READS IS OF BULK AT MOST 1048576: true; the input reads as it did. -/
def diagSortsUptoRow : OpenClaim := { program := "ytalopkplpbdgjaadoor", sum := "0695524aa29992b7900fce74f4459d53646374aeefd4b54882916f2e5d53f545", func := "flong/flonglaw01.DiagSorts", spec := "diagSorts", inPlace := ["internal/reflectlite.ValueOf", "(internal/reflectlite.Value).Type", "(internal/reflectlite.Value).IsNil", "internal/reflectlite.TypeOf", "(internal/reflectlite.Value).Elem", "(internal/reflectlite.Value).Set"], unfollowed := true, recurses := true, named := ["errors.errorType"], apart := false, laid := [("errors.errorType", laid_errors_errorType)], narrowed := true }
def DiagSortsUptoSaid : Prop := diagSortsUptoRow.holds Tryd.pinned (OpenSpec.upto diagSortsSpec)

/-- 'flonglaw01.DiagMoves', WHERE WHAT IT READS IS OF BULK AT MOST 1048576: true; the input reads as it did. -/
def diagMovesUptoRow : OpenClaim := { program := "ytalopkplpbdgjaadoor", sum := "0695524aa29992b7900fce74f4459d53646374aeefd4b54882916f2e5d53f545", func := "flong/flonglaw01.DiagMoves", spec := "diagMoves", inPlace := ["internal/reflectlite.ValueOf", "(internal/reflectlite.Value).Type", "(internal/reflectlite.Value).IsNil", "internal/reflectlite.TypeOf", "(internal/reflectlite.Value).Elem", "(internal/reflectlite.Value).Set"], unfollowed := true, recurses := true, named := ["errors.errorType"], apart := false, laid := [("errors.errorType", laid_errors_errorType)], narrowed := true }
def DiagMovesUptoSaid : Prop := diagMovesUptoRow.holds Tryd.pinned (OpenSpec.upto diagMovesSpec)

/-- 'flonglaw01.DiagClips', WHERE WHAT IT READS IS OF BULK AT MOST 1048576: true; the input reads as it did. -/
def diagClipsUptoRow : OpenClaim := { program := "ytalopkplpbdgjaadoor", sum := "0695524aa29992b7900fce74f4459d53646374aeefd4b54882916f2e5d53f545", func := "flong/flonglaw01.DiagClips", spec := "diagClips", inPlace := ["internal/reflectlite.ValueOf", "(internal/reflectlite.Value).Type", "(internal/reflectlite.Value).IsNil", "internal/reflectlite.TypeOf", "(internal/reflectlite.Value).Elem", "(internal/reflectlite.Value).Set"], unfollowed := true, recurses := true, named := ["errors.errorType"], apart := false, laid := [("errors.errorType", laid_errors_errorType)], narrowed := true }
def DiagClipsUptoSaid : Prop := diagClipsUptoRow.holds Tryd.pinned (OpenSpec.upto diagClipsSpec)

/-- 'flonglaw01.DiagNone', WHERE WHAT IT READS IS OF BULK AT MOST 1048576: true; the input reads as it did. -/
def diagNoneUptoRow : OpenClaim := { program := "ytalopkplpbdgjaadoor", sum := "0695524aa29992b7900fce74f4459d53646374aeefd4b54882916f2e5d53f545", func := "flong/flonglaw01.DiagNone", spec := "diagNone", inPlace := ["internal/reflectlite.ValueOf", "(internal/reflectlite.Value).Type", "(internal/reflectlite.Value).IsNil", "internal/reflectlite.TypeOf", "(internal/reflectlite.Value).Elem", "(internal/reflectlite.Value).Set"], unfollowed := true, recurses := true, named := ["errors.errorType"], apart := false, laid := [("errors.errorType", laid_errors_errorType)], narrowed := true }
def DiagNoneUptoSaid : Prop := diagNoneUptoRow.holds Tryd.pinned (OpenSpec.upto diagNoneSpec)

/-- 'flonglaw01.DiagPlaces', WHERE WHAT IT READS IS OF BULK AT MOST 1048576: true; the input reads as it did. -/
def diagPlacesUptoRow : OpenClaim := { program := "ytalopkplpbdgjaadoor", sum := "0695524aa29992b7900fce74f4459d53646374aeefd4b54882916f2e5d53f545", func := "flong/flonglaw01.DiagPlaces", spec := "diagPlaces", inPlace := ["internal/reflectlite.ValueOf", "(internal/reflectlite.Value).Type", "(internal/reflectlite.Value).IsNil", "internal/reflectlite.TypeOf", "(internal/reflectlite.Value).Elem", "(internal/reflectlite.Value).Set"], unfollowed := true, recurses := true, named := ["errors.errorType"], apart := false, laid := [("errors.errorType", laid_errors_errorType)], narrowed := true }
def DiagPlacesUptoSaid : Prop := diagPlacesUptoRow.holds Tryd.pinned (OpenSpec.upto diagPlacesSpec)

end Rows
end Go.Proofs.YtalopkplpbdgjaaDoor
