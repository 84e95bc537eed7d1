/-
  DERIVED. GIVEN WITH THE SEED: THE CARDS: each row of YtalopkplpbdgjaaDoorRows.lean that lists a variable, with what it lists TIED to the program's text (the seventh form; the later family's looks); each row that meets fmt, with fmt's text TOLD by the authors' own Lean function (tested against real Go, not proved from fmt's source: count such statements apart). THE CARD IS WHAT COUNTS. Prove the row's statement (the work); the ties are given (YtalopkplpbdgjaaDoorTie.lean); close each card by the builder's one call (the guide's Derived/Test/ToyasCard.lean, 'card_holds'). Laid BY PROGRAM, IN A SANDBOX (cutbox-door.mjs). By AI agents, Wed Nov 11 2026. No macro, syntax, notation, axiom, sorry.
-/
import Derived.Test.YtalopkplpbdgjaaDoorRows
import GoSem.ClaimSeven
namespace Go.Proofs.YtalopkplpbdgjaaDoor
namespace Rows

/-- THE TIED CARD OF 'flonglaw01.DiagMakes'. -/
def diagMakesCard : Claim7 := { stood := { row := diagMakesRow, standIns := [], harness := (true, "1922348cb4db755c4a292aecf0fdbafbb9df64f86b44e5080e3f489c6379149d"), looks := true }, kinds := [], alts := [], laidByText := true, laidKinds := [.handle], laidTests := true, laidLooks := .later }
def DiagMakesCardSaid : Prop := Claim7.holds Tryd.pinned (.plain (OpenSpec.ofChange diagMakesSpec)) diagMakesCard

/-- THE TIED CARD OF 'flonglaw01.DiagSorts'. -/
def diagSortsCard : Claim7 := { stood := { row := diagSortsRow, standIns := [], harness := (true, "1922348cb4db755c4a292aecf0fdbafbb9df64f86b44e5080e3f489c6379149d"), looks := true }, kinds := [], alts := [], laidByText := true, laidKinds := [.handle], laidTests := true, laidLooks := .later }
def DiagSortsCardSaid : Prop := Claim7.holds Tryd.pinned (.plain (OpenSpec.ofChange diagSortsSpec)) diagSortsCard

/-- THE TIED CARD OF 'flonglaw01.DiagMoves'. -/
def diagMovesCard : Claim7 := { stood := { row := diagMovesRow, standIns := [], harness := (true, "1922348cb4db755c4a292aecf0fdbafbb9df64f86b44e5080e3f489c6379149d"), looks := true }, kinds := [], alts := [], laidByText := true, laidKinds := [.handle], laidTests := true, laidLooks := .later }
def DiagMovesCardSaid : Prop := Claim7.holds Tryd.pinned (.plain (OpenSpec.ofChange diagMovesSpec)) diagMovesCard

/-- THE TIED CARD OF 'flonglaw01.DiagClips'. -/
def diagClipsCard : Claim7 := { stood := { row := diagClipsRow, standIns := [], harness := (true, "1922348cb4db755c4a292aecf0fdbafbb9df64f86b44e5080e3f489c6379149d"), looks := true }, kinds := [], alts := [], laidByText := true, laidKinds := [.handle], laidTests := true, laidLooks := .later }
def DiagClipsCardSaid : Prop := Claim7.holds Tryd.pinned (.plain (OpenSpec.ofChange diagClipsSpec)) diagClipsCard

/-- THE TIED CARD OF 'flonglaw01.DiagNone'. -/
def diagNoneCard : Claim7 := { stood := { row := diagNoneRow, standIns := [], harness := (true, "1922348cb4db755c4a292aecf0fdbafbb9df64f86b44e5080e3f489c6379149d"), looks := true }, kinds := [], alts := [], laidByText := true, laidKinds := [.handle], laidTests := true, laidLooks := .later }
def DiagNoneCardSaid : Prop := Claim7.holds Tryd.pinned (.plain (OpenSpec.ofChange diagNoneSpec)) diagNoneCard

/-- THE TIED CARD OF 'flonglaw01.DiagPlaces'. -/
def diagPlacesCard : Claim7 := { stood := { row := diagPlacesRow, standIns := [], harness := (true, "1922348cb4db755c4a292aecf0fdbafbb9df64f86b44e5080e3f489c6379149d"), looks := true }, kinds := [], alts := [], laidByText := true, laidKinds := [.handle], laidTests := true, laidLooks := .later }
def DiagPlacesCardSaid : Prop := Claim7.holds Tryd.pinned (.plain (OpenSpec.ofChange diagPlacesSpec)) diagPlacesCard

/-- THE SECOND FORM's CARD OF 'flonglaw01.DiagMakes'. -/
def diagMakesUptoCard : Claim7 := { stood := { row := diagMakesUptoRow, standIns := [], harness := (true, "1922348cb4db755c4a292aecf0fdbafbb9df64f86b44e5080e3f489c6379149d"), looks := true }, kinds := [], alts := [], laidByText := true, laidKinds := [.handle], laidTests := true, laidLooks := .later }
def DiagMakesUptoCardSaid : Prop := Claim7.holds Tryd.pinned (.plain (OpenSpec.upto diagMakesSpec)) diagMakesUptoCard

/-- THE SECOND FORM's CARD OF 'flonglaw01.DiagSorts'. -/
def diagSortsUptoCard : Claim7 := { stood := { row := diagSortsUptoRow, standIns := [], harness := (true, "1922348cb4db755c4a292aecf0fdbafbb9df64f86b44e5080e3f489c6379149d"), looks := true }, kinds := [], alts := [], laidByText := true, laidKinds := [.handle], laidTests := true, laidLooks := .later }
def DiagSortsUptoCardSaid : Prop := Claim7.holds Tryd.pinned (.plain (OpenSpec.upto diagSortsSpec)) diagSortsUptoCard

/-- THE SECOND FORM's CARD OF 'flonglaw01.DiagMoves'. -/
def diagMovesUptoCard : Claim7 := { stood := { row := diagMovesUptoRow, standIns := [], harness := (true, "1922348cb4db755c4a292aecf0fdbafbb9df64f86b44e5080e3f489c6379149d"), looks := true }, kinds := [], alts := [], laidByText := true, laidKinds := [.handle], laidTests := true, laidLooks := .later }
def DiagMovesUptoCardSaid : Prop := Claim7.holds Tryd.pinned (.plain (OpenSpec.upto diagMovesSpec)) diagMovesUptoCard

/-- THE SECOND FORM's CARD OF 'flonglaw01.DiagClips'. -/
def diagClipsUptoCard : Claim7 := { stood := { row := diagClipsUptoRow, standIns := [], harness := (true, "1922348cb4db755c4a292aecf0fdbafbb9df64f86b44e5080e3f489c6379149d"), looks := true }, kinds := [], alts := [], laidByText := true, laidKinds := [.handle], laidTests := true, laidLooks := .later }
def DiagClipsUptoCardSaid : Prop := Claim7.holds Tryd.pinned (.plain (OpenSpec.upto diagClipsSpec)) diagClipsUptoCard

/-- THE SECOND FORM's CARD OF 'flonglaw01.DiagNone'. -/
def diagNoneUptoCard : Claim7 := { stood := { row := diagNoneUptoRow, standIns := [], harness := (true, "1922348cb4db755c4a292aecf0fdbafbb9df64f86b44e5080e3f489c6379149d"), looks := true }, kinds := [], alts := [], laidByText := true, laidKinds := [.handle], laidTests := true, laidLooks := .later }
def DiagNoneUptoCardSaid : Prop := Claim7.holds Tryd.pinned (.plain (OpenSpec.upto diagNoneSpec)) diagNoneUptoCard

/-- THE SECOND FORM's CARD OF 'flonglaw01.DiagPlaces'. -/
def diagPlacesUptoCard : Claim7 := { stood := { row := diagPlacesUptoRow, standIns := [], harness := (true, "1922348cb4db755c4a292aecf0fdbafbb9df64f86b44e5080e3f489c6379149d"), looks := true }, kinds := [], alts := [], laidByText := true, laidKinds := [.handle], laidTests := true, laidLooks := .later }
def DiagPlacesUptoCardSaid : Prop := Claim7.holds Tryd.pinned (.plain (OpenSpec.upto diagPlacesSpec)) diagPlacesUptoCard
end Rows
end Go.Proofs.YtalopkplpbdgjaaDoor
