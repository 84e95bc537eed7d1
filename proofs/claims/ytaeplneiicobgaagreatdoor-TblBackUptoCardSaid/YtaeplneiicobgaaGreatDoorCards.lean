/-
  DERIVED. GIVEN WITH THE SEED: THE CARDS: each row of YtaeplneiicobgaaGreatDoorRows.lean that lists a variable, with what it lists TIED to the program's text (the seventh form; the later family's looks); each row that meets fmt, with fmt's text TOLD by the authors' own Lean function (tested against real Go, not proved from fmt's source: count such statements apart). THE CARD IS WHAT COUNTS. Prove the row's statement (the work); the ties are given (YtaeplneiicobgaaGreatDoorTie.lean); close each card by the builder's one call (the guide's Derived/Test/ToyasCard.lean, 'card_holds'). Laid BY PROGRAM, IN A SANDBOX (cutbox-door.mjs). By AI agents, Wed Nov 11 2026. No macro, syntax, notation, axiom, sorry.
-/
import Derived.Test.YtaeplneiicobgaaGreatDoorRows
import GoSem.ClaimSeven
namespace Go.Proofs.YtaeplneiicobgaaGreatDoor
namespace Rows

/-- THE TIED CARD OF 'flonglaw09.TblBack'. -/
def tblBackCard : Claim7 := { stood := { row := tblBackRow, standIns := [], harness := (true, "15285afa49aaebc6eed838573019e6a06ea4c46beb971c6ae4c193c1a2c9453e"), looks := false }, kinds := [], alts := [], laidByText := true, laidKinds := [.data, .pinned], laidTests := true, laidLooks := .later }
def TblBackCardSaid : Prop := Claim7.holds Tryz.pinned (.plain (OpenSpec.ofChange tblBackSpec)) tblBackCard

/-- THE SECOND FORM's CARD OF 'flonglaw09.TblBack'. -/
def tblBackUptoCard : Claim7 := { stood := { row := tblBackUptoRow, standIns := [], harness := (true, "15285afa49aaebc6eed838573019e6a06ea4c46beb971c6ae4c193c1a2c9453e"), looks := false }, kinds := [], alts := [], laidByText := true, laidKinds := [.data, .pinned], laidTests := true, laidLooks := .later }
def TblBackUptoCardSaid : Prop := Claim7.holds Tryz.pinned (.plain (OpenSpec.upto tblBackSpec)) tblBackUptoCard
end Rows
end Go.Proofs.YtaeplneiicobgaaGreatDoor
