/-
  DERIVED. GIVEN WITH THE SEED: THE CARDS: each row of YtebabjnngdjceaaGreatDoorRows.lean that lists a variable, with what it lists TIED to the program's text (the seventh form; the later family's looks); each row that meets fmt, with fmt's text TOLD by the authors' own Lean function (tested against real Go, not proved from fmt's source: count such statements apart). THE CARD IS WHAT COUNTS. Prove the row's statement (the work); the ties are given (YtebabjnngdjceaaGreatDoorTie.lean); close each card by the builder's one call (the guide's Derived/Test/ToyasCard.lean, 'card_holds'). Laid BY PROGRAM, IN A SANDBOX (cutbox-door.mjs). By AI agents, Wed Nov 11 2026. No macro, syntax, notation, axiom, sorry.
-/
import Derived.Test.YtebabjnngdjceaaGreatDoorRows
import GoSem.ClaimSeven
namespace Go.Proofs.YtebabjnngdjceaaGreatDoor
namespace Rows

/-- THE TIED CARD OF 'flonglaw10.ManTexts'. -/
def manTextsCard : Claim7 := { stood := { row := manTextsRow, standIns := [], harness := (true, "fde21860ef1d53293204a90921c03c4f8aca20b633d07fcf3e03c2ae9fa7d9fd"), looks := true }, kinds := [], alts := [], laidByText := true, laidKinds := [.data, .data, .data, .data, .sentinel, .sentinel, .pinned], laidTests := true, laidLooks := .later }
def ManTextsCardSaid : Prop := Claim7.holds Tryz.pinned (.plain (OpenSpec.ofChange manTextsSpec)) manTextsCard

/-- THE TIED CARD OF 'flonglaw10.ManWrong'. -/
def manWrongCard : Claim7 := { stood := { row := manWrongRow, standIns := [], harness := (true, "fde21860ef1d53293204a90921c03c4f8aca20b633d07fcf3e03c2ae9fa7d9fd"), looks := true }, kinds := [], alts := [], laidByText := true, laidKinds := [.data, .data, .data, .data, .sentinel, .sentinel, .pinned], laidTests := true, laidLooks := .later }
def ManWrongCardSaid : Prop := Claim7.holds Tryz.pinned (.plain (OpenSpec.ofChange manWrongSpec)) manWrongCard

/-- THE TIED CARD OF 'flonglaw10.ManHeads'. -/
def manHeadsCard : Claim7 := { stood := { row := manHeadsRow, standIns := [], harness := (true, "fde21860ef1d53293204a90921c03c4f8aca20b633d07fcf3e03c2ae9fa7d9fd"), looks := true }, kinds := [], alts := [], laidByText := true, laidKinds := [.data, .data, .data, .data, .sentinel, .sentinel, .pinned], laidTests := true, laidLooks := .later }
def ManHeadsCardSaid : Prop := Claim7.holds Tryz.pinned (.plain (OpenSpec.ofChange manHeadsSpec)) manHeadsCard

/-- THE TIED CARD OF 'flonglaw10.ManVerbs'. -/
def manVerbsCard : Claim7 := { stood := { row := manVerbsRow, standIns := [], harness := (true, "fde21860ef1d53293204a90921c03c4f8aca20b633d07fcf3e03c2ae9fa7d9fd"), looks := true }, kinds := [], alts := [], laidByText := true, laidKinds := [.data, .data, .data, .data, .sentinel, .sentinel, .pinned], laidTests := true, laidLooks := .later }
def ManVerbsCardSaid : Prop := Claim7.holds Tryz.pinned (.plain (OpenSpec.ofChange manVerbsSpec)) manVerbsCard

/-- THE TIED CARD OF 'flonglaw10.ManRows'. -/
def manRowsCard : Claim7 := { stood := { row := manRowsRow, standIns := [], harness := (true, "fde21860ef1d53293204a90921c03c4f8aca20b633d07fcf3e03c2ae9fa7d9fd"), looks := true }, kinds := [], alts := [], laidByText := true, laidKinds := [.data, .data, .data, .data, .sentinel, .sentinel, .pinned], laidTests := true, laidLooks := .later }
def ManRowsCardSaid : Prop := Claim7.holds Tryz.pinned (.plain (OpenSpec.ofChange manRowsSpec)) manRowsCard

/-- THE SECOND FORM's CARD OF 'flonglaw10.ManTexts'. -/
def manTextsUptoCard : Claim7 := { stood := { row := manTextsUptoRow, standIns := [], harness := (true, "fde21860ef1d53293204a90921c03c4f8aca20b633d07fcf3e03c2ae9fa7d9fd"), looks := true }, kinds := [], alts := [], laidByText := true, laidKinds := [.data, .data, .data, .data, .sentinel, .sentinel, .pinned], laidTests := true, laidLooks := .later }
def ManTextsUptoCardSaid : Prop := Claim7.holds Tryz.pinned (.plain (OpenSpec.upto manTextsSpec)) manTextsUptoCard

/-- THE SECOND FORM's CARD OF 'flonglaw10.ManWrong'. -/
def manWrongUptoCard : Claim7 := { stood := { row := manWrongUptoRow, standIns := [], harness := (true, "fde21860ef1d53293204a90921c03c4f8aca20b633d07fcf3e03c2ae9fa7d9fd"), looks := true }, kinds := [], alts := [], laidByText := true, laidKinds := [.data, .data, .data, .data, .sentinel, .sentinel, .pinned], laidTests := true, laidLooks := .later }
def ManWrongUptoCardSaid : Prop := Claim7.holds Tryz.pinned (.plain (OpenSpec.upto manWrongSpec)) manWrongUptoCard

/-- THE SECOND FORM's CARD OF 'flonglaw10.ManHeads'. -/
def manHeadsUptoCard : Claim7 := { stood := { row := manHeadsUptoRow, standIns := [], harness := (true, "fde21860ef1d53293204a90921c03c4f8aca20b633d07fcf3e03c2ae9fa7d9fd"), looks := true }, kinds := [], alts := [], laidByText := true, laidKinds := [.data, .data, .data, .data, .sentinel, .sentinel, .pinned], laidTests := true, laidLooks := .later }
def ManHeadsUptoCardSaid : Prop := Claim7.holds Tryz.pinned (.plain (OpenSpec.upto manHeadsSpec)) manHeadsUptoCard

/-- THE SECOND FORM's CARD OF 'flonglaw10.ManVerbs'. -/
def manVerbsUptoCard : Claim7 := { stood := { row := manVerbsUptoRow, standIns := [], harness := (true, "fde21860ef1d53293204a90921c03c4f8aca20b633d07fcf3e03c2ae9fa7d9fd"), looks := true }, kinds := [], alts := [], laidByText := true, laidKinds := [.data, .data, .data, .data, .sentinel, .sentinel, .pinned], laidTests := true, laidLooks := .later }
def ManVerbsUptoCardSaid : Prop := Claim7.holds Tryz.pinned (.plain (OpenSpec.upto manVerbsSpec)) manVerbsUptoCard

/-- THE SECOND FORM's CARD OF 'flonglaw10.ManRows'. -/
def manRowsUptoCard : Claim7 := { stood := { row := manRowsUptoRow, standIns := [], harness := (true, "fde21860ef1d53293204a90921c03c4f8aca20b633d07fcf3e03c2ae9fa7d9fd"), looks := true }, kinds := [], alts := [], laidByText := true, laidKinds := [.data, .data, .data, .data, .sentinel, .sentinel, .pinned], laidTests := true, laidLooks := .later }
def ManRowsUptoCardSaid : Prop := Claim7.holds Tryz.pinned (.plain (OpenSpec.upto manRowsSpec)) manRowsUptoCard
end Rows
end Go.Proofs.YtebabjnngdjceaaGreatDoor
