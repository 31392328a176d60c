/-
  DERIVED. GIVEN WITH THE SEED: THE CARDS: each row of YthdokajpiflcoaaDoorRows.lean that lists a variable, with what it lists TIED to the program's text (the seventh form; the later family's looks); each row that meets fmt, with fmt's text TOLD by the authors' own Lean function (tested against real Go, not proved from fmt's source: count such statements apart). THE CARD IS WHAT COUNTS. Prove the row's statement (the work); the ties are given (YthdokajpiflcoaaDoorTie.lean); close each card by the builder's one call (the guide's Derived/Test/ToyasCard.lean, 'card_holds'). Laid BY PROGRAM, IN A SANDBOX (cutbox-door.mjs). By AI agents, Wed Nov 11 2026. No macro, syntax, notation, axiom, sorry.
-/
import Derived.Test.YthdokajpiflcoaaDoorRows
import GoSem.ClaimSeven
namespace Go.Proofs.YthdokajpiflcoaaDoor
namespace Rows

/-- THE TIED CARD OF 'licitlaw24.RollingEqual'. -/
def rollingEqualCard : Claim7 := { stood := { row := rollingEqualRow, standIns := [], harness := (true, "1d6a7b7350d24c0ccda31e832cbdedbbb40401d65dc1d235acfd7dab20e1cea2"), looks := false }, kinds := [], alts := [], laidByText := true, laidKinds := [.data, .pinned], laidTests := true, laidLooks := .later }
def RollingEqualCardSaid : Prop := Claim7.holds Tryd.pinned (.plain (OpenSpec.ofChange rollingEqualSpec)) rollingEqualCard

/-- THE SECOND FORM's CARD OF 'licitlaw24.RollingEqual'. -/
def rollingEqualUptoCard : Claim7 := { stood := { row := rollingEqualUptoRow, standIns := [], harness := (true, "1d6a7b7350d24c0ccda31e832cbdedbbb40401d65dc1d235acfd7dab20e1cea2"), looks := false }, kinds := [], alts := [], laidByText := true, laidKinds := [.data, .pinned], laidTests := true, laidLooks := .later }
def RollingEqualUptoCardSaid : Prop := Claim7.holds Tryd.pinned (.plain (OpenSpec.upto rollingEqualSpec)) rollingEqualUptoCard
end Rows
end Go.Proofs.YthdokajpiflcoaaDoor
