/-
  DERIVED. GIVEN WITH THE SEED: THE CARDS: each row of YtndehkoglgakpaaGreatDoorRows.lean that lists a variable, with what it lists TIED to the program's text (the seventh form; the later family's looks); each row that meets fmt, with fmt's text TOLD by the authors' own Lean function (tested against real Go, not proved from fmt's source: count such statements apart). THE CARD IS WHAT COUNTS. Prove the row's statement (the work); the ties are given (YtndehkoglgakpaaGreatDoorTie.lean); close each card by the builder's one call (the guide's Derived/Test/ToyasCard.lean, 'card_holds'). Laid BY PROGRAM, IN A SANDBOX (cutbox-door.mjs). By AI agents, Wed Nov 11 2026. No macro, syntax, notation, axiom, sorry.
-/
import Derived.Test.YtndehkoglgakpaaGreatDoorRows
import GoSem.ClaimSeven
namespace Go.Proofs.YtndehkoglgakpaaGreatDoor
namespace Rows

/-- THE TIED CARD OF 'licitlaw08.ExprParses'. -/
def exprParsesCard : Claim7 := { stood := { row := exprParsesRow, standIns := [], harness := (true, "57d96e897bb4a199df53e98a5be4c49bb27c99cec08b747c31ca1d654c3e6009"), looks := true }, kinds := [], alts := [], laidByText := true, laidKinds := [.data, .data, .data, .sentinel, .sentinel], laidTests := true, laidLooks := .later }
def ExprParsesCardSaid : Prop := Claim7.holds Tryz.pinned (.plain (OpenSpec.ofChange exprParsesSpec)) exprParsesCard

/-- THE TIED CARD OF 'licitlaw08.ExprPrints'. -/
def exprPrintsCard : Claim7 := { stood := { row := exprPrintsRow, standIns := [], harness := (true, "57d96e897bb4a199df53e98a5be4c49bb27c99cec08b747c31ca1d654c3e6009"), looks := true }, kinds := [], alts := [], laidByText := true, laidKinds := [.data, .data, .data, .sentinel, .sentinel], laidTests := true, laidLooks := .later }
def ExprPrintsCardSaid : Prop := Claim7.holds Tryz.pinned (.plain (OpenSpec.ofChange exprPrintsSpec)) exprPrintsCard

/-- THE TIED CARD OF 'licitlaw08.ExprFolds'. -/
def exprFoldsCard : Claim7 := { stood := { row := exprFoldsRow, standIns := [], harness := (true, "57d96e897bb4a199df53e98a5be4c49bb27c99cec08b747c31ca1d654c3e6009"), looks := true }, kinds := [], alts := [], laidByText := true, laidKinds := [.data, .data, .data, .sentinel, .sentinel], laidTests := true, laidLooks := .later }
def ExprFoldsCardSaid : Prop := Claim7.holds Tryz.pinned (.plain (OpenSpec.ofChange exprFoldsSpec)) exprFoldsCard

/-- THE SECOND FORM's CARD OF 'licitlaw08.ExprParses'. -/
def exprParsesUptoCard : Claim7 := { stood := { row := exprParsesUptoRow, standIns := [], harness := (true, "57d96e897bb4a199df53e98a5be4c49bb27c99cec08b747c31ca1d654c3e6009"), looks := true }, kinds := [], alts := [], laidByText := true, laidKinds := [.data, .data, .data, .sentinel, .sentinel], laidTests := true, laidLooks := .later }
def ExprParsesUptoCardSaid : Prop := Claim7.holds Tryz.pinned (.plain (OpenSpec.upto exprParsesSpec)) exprParsesUptoCard

/-- THE SECOND FORM's CARD OF 'licitlaw08.ExprPrints'. -/
def exprPrintsUptoCard : Claim7 := { stood := { row := exprPrintsUptoRow, standIns := [], harness := (true, "57d96e897bb4a199df53e98a5be4c49bb27c99cec08b747c31ca1d654c3e6009"), looks := true }, kinds := [], alts := [], laidByText := true, laidKinds := [.data, .data, .data, .sentinel, .sentinel], laidTests := true, laidLooks := .later }
def ExprPrintsUptoCardSaid : Prop := Claim7.holds Tryz.pinned (.plain (OpenSpec.upto exprPrintsSpec)) exprPrintsUptoCard

/-- THE SECOND FORM's CARD OF 'licitlaw08.ExprFolds'. -/
def exprFoldsUptoCard : Claim7 := { stood := { row := exprFoldsUptoRow, standIns := [], harness := (true, "57d96e897bb4a199df53e98a5be4c49bb27c99cec08b747c31ca1d654c3e6009"), looks := true }, kinds := [], alts := [], laidByText := true, laidKinds := [.data, .data, .data, .sentinel, .sentinel], laidTests := true, laidLooks := .later }
def ExprFoldsUptoCardSaid : Prop := Claim7.holds Tryz.pinned (.plain (OpenSpec.upto exprFoldsSpec)) exprFoldsUptoCard
end Rows
end Go.Proofs.YtndehkoglgakpaaGreatDoor
