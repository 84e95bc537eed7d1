/-
  No cell of these rows narrows 'for every input' (looked for: loops, veiled, ifaces, maps, wideKeys, modest, calm, conditions, laid).
  DERIVED. THE GIVEN ROWS OF THIS SEAT. 4 by the template 'for every input the law returns true; each argument reads behind the call as it read before'; 0 by the template 'total and deterministic' (their statements: YtgfmpndojjopnaaTotals.lean).
  GIVEN WITH THE SEED: the statements are not yours to turn. If you find one false, say at which input.
  Laid BY PROGRAM, IN A SANDBOX (cutbox-rows.mjs): the forced cells as the released guide's own fill.sh prints them over the translation e59c03ce8925e556… (all of the seat's roots in one cut). By AI agents, Wed Nov 11 2026. No macro, syntax, notation, axiom, sorry.
-/
import Derived.Test.YtgfmpndojjopnaaChecked
import GoSem.Claim
import GoSem.ClaimJoined
import GoSem.ClaimMapViews
import Derived.JoinedTies
import Derived.KernelRfl
namespace Go.Proofs.Ytgfmpndojjopnaa
/- THE CELL 'sum', in the pinned program and in every row, IS THE sha256 OF THE DUMP (.gsa) THAT YtgfmpndojjopnaaProg.lean LOADS. Nothing in Lean hashes anything: it is a label: what it is worth is what the hold of that sum in a sandbox is worth. -/
noncomputable def Try.pinned : Pinned := { name := "ytgfmpndojjopnaa", sum := "e59c03ce8925e55623aa40defc3d3a4ea7ba7c440d6c42fed7bd5772954c4315", checked := Try.checked }
namespace Rows
def none {H : Type} : Left H := { results := [], args := [] }

/-- 'flonglaw06.StylesSets': WHATEVER THE INPUT: true; the input reads as it did. -/
def stylesSetsSpec : ChangeSpec := { name := "stylesSets", fn := fun _ => fun
  | [d1, d2, d3] => { results := [.lit (.bool true)], args := [d1, d2, d3] }
  | _ => none }
def stylesSetsRow : OpenClaim := { program := "ytgfmpndojjopnaa", sum := "e59c03ce8925e55623aa40defc3d3a4ea7ba7c440d6c42fed7bd5772954c4315", func := "flong/flonglaw06.StylesSets", spec := "stylesSets", unfollowed := true, recurses := true, apart := false }
def StylesSetsSaid : Prop := stylesSetsRow.holds Try.pinned (OpenSpec.ofChange stylesSetsSpec)

/-- ITS FALSE NEIGHBOUR: 'it returns false'. Refute it at one input. -/
def stylesSetsWrong : ChangeSpec := { name := "stylesSets", fn := fun _ => fun
  | [d1, d2, d3] => { results := [.lit (.bool false)], args := [d1, d2, d3] }
  | _ => none }
def StylesSetsWrongFalsely : Prop := stylesSetsRow.holds Try.pinned (OpenSpec.ofChange stylesSetsWrong)

/-- 'flonglaw06.StylesBack': WHATEVER THE INPUT: true; the input reads as it did. -/
def stylesBackSpec : ChangeSpec := { name := "stylesBack", fn := fun _ => fun
  | [d1, d2] => { results := [.lit (.bool true)], args := [d1, d2] }
  | _ => none }
def stylesBackRow : OpenClaim := { program := "ytgfmpndojjopnaa", sum := "e59c03ce8925e55623aa40defc3d3a4ea7ba7c440d6c42fed7bd5772954c4315", func := "flong/flonglaw06.StylesBack", spec := "stylesBack", unfollowed := true, recurses := true, apart := false }
def StylesBackSaid : Prop := stylesBackRow.holds Try.pinned (OpenSpec.ofChange stylesBackSpec)

/-- ITS FALSE NEIGHBOUR: 'it returns false'. Refute it at one input. -/
def stylesBackWrong : ChangeSpec := { name := "stylesBack", fn := fun _ => fun
  | [d1, d2] => { results := [.lit (.bool false)], args := [d1, d2] }
  | _ => none }
def StylesBackWrongFalsely : Prop := stylesBackRow.holds Try.pinned (OpenSpec.ofChange stylesBackWrong)

/-- 'flonglaw06.StylesJoins': WHATEVER THE INPUT: true; the input reads as it did. -/
def stylesJoinsSpec : ChangeSpec := { name := "stylesJoins", fn := fun _ => fun
  | [d1, d2, d3] => { results := [.lit (.bool true)], args := [d1, d2, d3] }
  | _ => none }
def stylesJoinsRow : OpenClaim := { program := "ytgfmpndojjopnaa", sum := "e59c03ce8925e55623aa40defc3d3a4ea7ba7c440d6c42fed7bd5772954c4315", func := "flong/flonglaw06.StylesJoins", spec := "stylesJoins", unfollowed := true, recurses := true, apart := false }
def StylesJoinsSaid : Prop := stylesJoinsRow.holds Try.pinned (OpenSpec.ofChange stylesJoinsSpec)

/-- ITS FALSE NEIGHBOUR: 'it returns false'. Refute it at one input. -/
def stylesJoinsWrong : ChangeSpec := { name := "stylesJoins", fn := fun _ => fun
  | [d1, d2, d3] => { results := [.lit (.bool false)], args := [d1, d2, d3] }
  | _ => none }
def StylesJoinsWrongFalsely : Prop := stylesJoinsRow.holds Try.pinned (OpenSpec.ofChange stylesJoinsWrong)

/-- 'flonglaw06.StylesLines': WHATEVER THE INPUT: true; the input reads as it did. -/
def stylesLinesSpec : ChangeSpec := { name := "stylesLines", fn := fun _ => fun
  | [d1, d2, d3, d4] => { results := [.lit (.bool true)], args := [d1, d2, d3, d4] }
  | _ => none }
def stylesLinesRow : OpenClaim := { program := "ytgfmpndojjopnaa", sum := "e59c03ce8925e55623aa40defc3d3a4ea7ba7c440d6c42fed7bd5772954c4315", func := "flong/flonglaw06.StylesLines", spec := "stylesLines", unfollowed := true, recurses := true, apart := false }
def StylesLinesSaid : Prop := stylesLinesRow.holds Try.pinned (OpenSpec.ofChange stylesLinesSpec)

/-- ITS FALSE NEIGHBOUR: 'it returns false'. Refute it at one input. -/
def stylesLinesWrong : ChangeSpec := { name := "stylesLines", fn := fun _ => fun
  | [d1, d2, d3, d4] => { results := [.lit (.bool false)], args := [d1, d2, d3, d4] }
  | _ => none }
def StylesLinesWrongFalsely : Prop := stylesLinesRow.holds Try.pinned (OpenSpec.ofChange stylesLinesWrong)

/- THE SECOND FORM. 'bulk': how many values and letters a reading holds, each counted each time it is reached (what is shared counts as often as it is met; a slice's spare places count too). A statement '..UptoSaid' is the law's where the arguments, and the package variables that the reading takes, are together of bulk at most 1048576: NARROWER than '..Said'. Prove '..Said' where nothing that the law and all that it calls make is longer than what came in: it says more and counts as full. Else prove '..UptoSaid'. A law counts once. -/
mutual
def uptoBulk {H : Type} : DataW H → Nat
  | .lit (.string bytes) => bytes.length + 1
  | .lit _ => 1
  | .nil => 1
  | .ptr d => uptoBulk d + 1
  | .slice elems spare => uptoBulkAll elems + uptoBulkAll spare + 1
  | .agg parts => uptoBulkAll parts + 1
  | .iface _ d => uptoBulk d + 1
  | .map entries => uptoBulkEntries entries + 1
  | .held _ => 1
def uptoBulkAll {H : Type} : List (DataW H) → Nat
  | [] => 0
  | d :: r => uptoBulk d + uptoBulkAll r
def uptoBulkEntries {H : Type} : List (Lit × DataW H) → Nat
  | [] => 0
  | x :: r => uptoBulkEntry x + uptoBulkEntries r
def uptoBulkEntry {H : Type} : Lit × DataW H → Nat
  | (.string bytes, d) => bytes.length + uptoBulk d + 1
  | (_, d) => uptoBulk d + 1
 end
def uptoSmall : (H : Type) → List (DataW H) → Bool := fun _ ds => decide (uptoBulkAll ds ≤ 1048576)
def OpenSpec.upto (s : _root_.Go.ChangeSpec) : _root_.Go.OpenSpec := { _root_.Go.OpenSpec.ofChange s with cond := some uptoSmall }

/-- 'flonglaw06.StylesSets', WHERE WHAT IT READS IS OF BULK AT MOST 1048576: true; the input reads as it did. -/
def stylesSetsUptoRow : OpenClaim := { program := "ytgfmpndojjopnaa", sum := "e59c03ce8925e55623aa40defc3d3a4ea7ba7c440d6c42fed7bd5772954c4315", func := "flong/flonglaw06.StylesSets", spec := "stylesSets", unfollowed := true, recurses := true, apart := false, narrowed := true }
def StylesSetsUptoSaid : Prop := stylesSetsUptoRow.holds Try.pinned (OpenSpec.upto stylesSetsSpec)

/-- 'flonglaw06.StylesBack', WHERE WHAT IT READS IS OF BULK AT MOST 1048576: true; the input reads as it did. -/
def stylesBackUptoRow : OpenClaim := { program := "ytgfmpndojjopnaa", sum := "e59c03ce8925e55623aa40defc3d3a4ea7ba7c440d6c42fed7bd5772954c4315", func := "flong/flonglaw06.StylesBack", spec := "stylesBack", unfollowed := true, recurses := true, apart := false, narrowed := true }
def StylesBackUptoSaid : Prop := stylesBackUptoRow.holds Try.pinned (OpenSpec.upto stylesBackSpec)

/-- 'flonglaw06.StylesJoins', WHERE WHAT IT READS IS OF BULK AT MOST 1048576: true; the input reads as it did. -/
def stylesJoinsUptoRow : OpenClaim := { program := "ytgfmpndojjopnaa", sum := "e59c03ce8925e55623aa40defc3d3a4ea7ba7c440d6c42fed7bd5772954c4315", func := "flong/flonglaw06.StylesJoins", spec := "stylesJoins", unfollowed := true, recurses := true, apart := false, narrowed := true }
def StylesJoinsUptoSaid : Prop := stylesJoinsUptoRow.holds Try.pinned (OpenSpec.upto stylesJoinsSpec)

/-- 'flonglaw06.StylesLines', WHERE WHAT IT READS IS OF BULK AT MOST 1048576: true; the input reads as it did. -/
def stylesLinesUptoRow : OpenClaim := { program := "ytgfmpndojjopnaa", sum := "e59c03ce8925e55623aa40defc3d3a4ea7ba7c440d6c42fed7bd5772954c4315", func := "flong/flonglaw06.StylesLines", spec := "stylesLines", unfollowed := true, recurses := true, apart := false, narrowed := true }
def StylesLinesUptoSaid : Prop := stylesLinesUptoRow.holds Try.pinned (OpenSpec.upto stylesLinesSpec)

end Rows
end Go.Proofs.Ytgfmpndojjopnaa
