/-
  DERIVED. GIVEN WITH THE SEED: THE CARDS: each row of YtienjlbpaedbjaaDoorRows.lean that lists a variable, with what it lists TIED to the program's text (the seventh form; the later family's looks); each row that meets fmt, with fmt's text TOLD by the authors' own Lean function (tested against real Go, not proved from fmt's source: count such statements apart). THE CARD IS WHAT COUNTS. Prove the row's statement (the work); the ties are given (YtienjlbpaedbjaaDoorTie.lean); close each card by the builder's one call (the guide's Derived/Test/ToyasCard.lean, 'card_holds'). Laid BY PROGRAM, IN A SANDBOX (cutbox-door.mjs). By AI agents, Wed Nov 11 2026. No macro, syntax, notation, axiom, sorry.
-/
import Derived.Test.YtienjlbpaedbjaaDoorRows
import GoSem.ClaimSeven
namespace Go.Proofs.YtienjlbpaedbjaaDoor
namespace Rows

/-- THE TIED CARD OF 'flonglaw07.TreeTidies'. -/
def treeTidiesCard : Claim7 := { stood := { row := treeTidiesRow, standIns := [], harness := (true, "3dc2ef5bf4520efe06bf0cca4ef741835327c9ab8d01444aa9e5808285d76f92"), looks := false }, kinds := [], alts := [], laidByText := true, laidKinds := [.data, .pinned], laidTests := true, laidLooks := .later }
def TreeTidiesCardSaid : Prop := Claim7.holds Tryd.pinned (.plain (OpenSpec.ofChange treeTidiesSpec)) treeTidiesCard

/-- THE TIED CARD OF 'flonglaw07.TreeTables'. -/
def treeTablesCard : Claim7 := { stood := { row := treeTablesRow, standIns := [], harness := (true, "3dc2ef5bf4520efe06bf0cca4ef741835327c9ab8d01444aa9e5808285d76f92"), looks := false }, kinds := [], alts := [], laidByText := true, laidKinds := [.data, .pinned], laidTests := true, laidLooks := .later }
def TreeTablesCardSaid : Prop := Claim7.holds Tryd.pinned (.plain (OpenSpec.ofChange treeTablesSpec)) treeTablesCard

/-- THE TIED CARD OF 'flonglaw07.TreeStays'. -/
def treeStaysCard : Claim7 := { stood := { row := treeStaysRow, standIns := [], harness := (true, "3dc2ef5bf4520efe06bf0cca4ef741835327c9ab8d01444aa9e5808285d76f92"), looks := false }, kinds := [], alts := [], laidByText := true, laidKinds := [.data, .pinned], laidTests := true, laidLooks := .later }
def TreeStaysCardSaid : Prop := Claim7.holds Tryd.pinned (.plain (OpenSpec.ofChange treeStaysSpec)) treeStaysCard

/-- THE TIED CARD OF 'flonglaw07.TreeKeeps'. -/
def treeKeepsCard : Claim7 := { stood := { row := treeKeepsRow, standIns := [], harness := (true, "3dc2ef5bf4520efe06bf0cca4ef741835327c9ab8d01444aa9e5808285d76f92"), looks := false }, kinds := [], alts := [], laidByText := true, laidKinds := [.data, .pinned], laidTests := true, laidLooks := .later }
def TreeKeepsCardSaid : Prop := Claim7.holds Tryd.pinned (.plain (OpenSpec.ofChange treeKeepsSpec)) treeKeepsCard

/-- THE TIED CARD OF 'flonglaw07.TreeSame'. -/
def treeSameCard : Claim7 := { stood := { row := treeSameRow, standIns := [], harness := (true, "3dc2ef5bf4520efe06bf0cca4ef741835327c9ab8d01444aa9e5808285d76f92"), looks := false }, kinds := [], alts := [], laidByText := true, laidKinds := [.data, .pinned], laidTests := true, laidLooks := .later }
def TreeSameCardSaid : Prop := Claim7.holds Tryd.pinned (.plain (OpenSpec.ofChange treeSameSpec)) treeSameCard

/-- THE TIED CARD OF 'flonglaw07.TreeOwn'. -/
def treeOwnCard : Claim7 := { stood := { row := treeOwnRow, standIns := [], harness := (true, "3dc2ef5bf4520efe06bf0cca4ef741835327c9ab8d01444aa9e5808285d76f92"), looks := false }, kinds := [], alts := [], laidByText := true, laidKinds := [.data, .pinned], laidTests := true, laidLooks := .later }
def TreeOwnCardSaid : Prop := Claim7.holds Tryd.pinned (.plain (OpenSpec.ofChange treeOwnSpec)) treeOwnCard

/-- THE SECOND FORM's CARD OF 'flonglaw07.TreeTidies'. -/
def treeTidiesUptoCard : Claim7 := { stood := { row := treeTidiesUptoRow, standIns := [], harness := (true, "3dc2ef5bf4520efe06bf0cca4ef741835327c9ab8d01444aa9e5808285d76f92"), looks := false }, kinds := [], alts := [], laidByText := true, laidKinds := [.data, .pinned], laidTests := true, laidLooks := .later }
def TreeTidiesUptoCardSaid : Prop := Claim7.holds Tryd.pinned (.plain (OpenSpec.upto treeTidiesSpec)) treeTidiesUptoCard

/-- THE SECOND FORM's CARD OF 'flonglaw07.TreeTables'. -/
def treeTablesUptoCard : Claim7 := { stood := { row := treeTablesUptoRow, standIns := [], harness := (true, "3dc2ef5bf4520efe06bf0cca4ef741835327c9ab8d01444aa9e5808285d76f92"), looks := false }, kinds := [], alts := [], laidByText := true, laidKinds := [.data, .pinned], laidTests := true, laidLooks := .later }
def TreeTablesUptoCardSaid : Prop := Claim7.holds Tryd.pinned (.plain (OpenSpec.upto treeTablesSpec)) treeTablesUptoCard

/-- THE SECOND FORM's CARD OF 'flonglaw07.TreeStays'. -/
def treeStaysUptoCard : Claim7 := { stood := { row := treeStaysUptoRow, standIns := [], harness := (true, "3dc2ef5bf4520efe06bf0cca4ef741835327c9ab8d01444aa9e5808285d76f92"), looks := false }, kinds := [], alts := [], laidByText := true, laidKinds := [.data, .pinned], laidTests := true, laidLooks := .later }
def TreeStaysUptoCardSaid : Prop := Claim7.holds Tryd.pinned (.plain (OpenSpec.upto treeStaysSpec)) treeStaysUptoCard

/-- THE SECOND FORM's CARD OF 'flonglaw07.TreeKeeps'. -/
def treeKeepsUptoCard : Claim7 := { stood := { row := treeKeepsUptoRow, standIns := [], harness := (true, "3dc2ef5bf4520efe06bf0cca4ef741835327c9ab8d01444aa9e5808285d76f92"), looks := false }, kinds := [], alts := [], laidByText := true, laidKinds := [.data, .pinned], laidTests := true, laidLooks := .later }
def TreeKeepsUptoCardSaid : Prop := Claim7.holds Tryd.pinned (.plain (OpenSpec.upto treeKeepsSpec)) treeKeepsUptoCard

/-- THE SECOND FORM's CARD OF 'flonglaw07.TreeSame'. -/
def treeSameUptoCard : Claim7 := { stood := { row := treeSameUptoRow, standIns := [], harness := (true, "3dc2ef5bf4520efe06bf0cca4ef741835327c9ab8d01444aa9e5808285d76f92"), looks := false }, kinds := [], alts := [], laidByText := true, laidKinds := [.data, .pinned], laidTests := true, laidLooks := .later }
def TreeSameUptoCardSaid : Prop := Claim7.holds Tryd.pinned (.plain (OpenSpec.upto treeSameSpec)) treeSameUptoCard

/-- THE SECOND FORM's CARD OF 'flonglaw07.TreeOwn'. -/
def treeOwnUptoCard : Claim7 := { stood := { row := treeOwnUptoRow, standIns := [], harness := (true, "3dc2ef5bf4520efe06bf0cca4ef741835327c9ab8d01444aa9e5808285d76f92"), looks := false }, kinds := [], alts := [], laidByText := true, laidKinds := [.data, .pinned], laidTests := true, laidLooks := .later }
def TreeOwnUptoCardSaid : Prop := Claim7.holds Tryd.pinned (.plain (OpenSpec.upto treeOwnSpec)) treeOwnUptoCard
end Rows
end Go.Proofs.YtienjlbpaedbjaaDoor
