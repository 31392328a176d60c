/-
  DERIVED. GIVEN WITH THE SEED: THE CARDS: each row of YtkmldaelgbkfbaaDoorRows.lean that lists a variable, with what it lists TIED to the program's text (the seventh form; the later family's looks); each row that meets fmt, with fmt's text TOLD by the authors' own Lean function (tested against real Go, not proved from fmt's source: count such statements apart). THE CARD IS WHAT COUNTS. Prove the row's statement (the work); the ties are given (YtkmldaelgbkfbaaDoorTie.lean); close each card by the builder's one call (the guide's Derived/Test/ToyasCard.lean, 'card_holds'). Laid BY PROGRAM, IN A SANDBOX (cutbox-door.mjs). By AI agents, Wed Nov 11 2026. No macro, syntax, notation, axiom, sorry.
-/
import Derived.Test.YtkmldaelgbkfbaaDoorRows
import GoSem.ClaimSeven
namespace Go.Proofs.YtkmldaelgbkfbaaDoor
namespace Rows

/-- THE TIED CARD OF 'licitlaw25.WinnowPrints'. -/
def winnowPrintsCard : Claim7 := { stood := { row := winnowPrintsRow, standIns := [], harness := (true, "e84306ea001ec31dd2f586495b90cbb3557cf201644b4254a561849a48fe4cfb"), looks := false }, kinds := [], alts := [], laidByText := true, laidKinds := [.data, .pinned], laidTests := true, laidLooks := .later }
def WinnowPrintsCardSaid : Prop := Claim7.holds Tryd.pinned (.plain (OpenSpec.ofChange winnowPrintsSpec)) winnowPrintsCard

/-- THE TIED CARD OF 'licitlaw25.WinnowComplete'. -/
def winnowCompleteCard : Claim7 := { stood := { row := winnowCompleteRow, standIns := [], harness := (true, "e84306ea001ec31dd2f586495b90cbb3557cf201644b4254a561849a48fe4cfb"), looks := false }, kinds := [], alts := [], laidByText := true, laidKinds := [.data, .pinned], laidTests := true, laidLooks := .later }
def WinnowCompleteCardSaid : Prop := Claim7.holds Tryd.pinned (.plain (OpenSpec.ofChange winnowCompleteSpec)) winnowCompleteCard

/-- THE SECOND FORM's CARD OF 'licitlaw25.WinnowPrints'. -/
def winnowPrintsUptoCard : Claim7 := { stood := { row := winnowPrintsUptoRow, standIns := [], harness := (true, "e84306ea001ec31dd2f586495b90cbb3557cf201644b4254a561849a48fe4cfb"), looks := false }, kinds := [], alts := [], laidByText := true, laidKinds := [.data, .pinned], laidTests := true, laidLooks := .later }
def WinnowPrintsUptoCardSaid : Prop := Claim7.holds Tryd.pinned (.plain (OpenSpec.upto winnowPrintsSpec)) winnowPrintsUptoCard

/-- THE SECOND FORM's CARD OF 'licitlaw25.WinnowComplete'. -/
def winnowCompleteUptoCard : Claim7 := { stood := { row := winnowCompleteUptoRow, standIns := [], harness := (true, "e84306ea001ec31dd2f586495b90cbb3557cf201644b4254a561849a48fe4cfb"), looks := false }, kinds := [], alts := [], laidByText := true, laidKinds := [.data, .pinned], laidTests := true, laidLooks := .later }
def WinnowCompleteUptoCardSaid : Prop := Claim7.holds Tryd.pinned (.plain (OpenSpec.upto winnowCompleteSpec)) winnowCompleteUptoCard
end Rows
end Go.Proofs.YtkmldaelgbkfbaaDoor
