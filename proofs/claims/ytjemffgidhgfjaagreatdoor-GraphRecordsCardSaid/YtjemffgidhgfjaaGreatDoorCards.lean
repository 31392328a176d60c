/-
  DERIVED. GIVEN WITH THE SEED: THE CARDS: each row of YtjemffgidhgfjaaGreatDoorRows.lean that lists a variable, with what it lists TIED to the program's text (the seventh form; the later family's looks); each row that meets fmt, with fmt's text TOLD by the authors' own Lean function (tested against real Go, not proved from fmt's source: count such statements apart). THE CARD IS WHAT COUNTS. Prove the row's statement (the work); the ties are given (YtjemffgidhgfjaaGreatDoorTie.lean); close each card by the builder's one call (the guide's Derived/Test/ToyasCard.lean, 'card_holds'). Laid BY PROGRAM, IN A SANDBOX (cutbox-door.mjs). By AI agents, Wed Nov 11 2026. No macro, syntax, notation, axiom, sorry.
-/
import Derived.Test.YtjemffgidhgfjaaGreatDoorRows
import GoSem.ClaimSeven
namespace Go.Proofs.YtjemffgidhgfjaaGreatDoor
namespace Rows

/-- THE TIED CARD OF 'licitlaw18.GraphChecks'. -/
def graphChecksCard : Claim7 := { stood := { row := graphChecksRow, standIns := [], harness := (true, "2116f9d1265b23338e1ef798818358c0cfc474789ff1d8d95a390cfdb21cb6ea"), looks := false }, kinds := [], alts := [], laidByText := true, laidKinds := [.data, .pinned], laidTests := true, laidLooks := .later }
def GraphChecksCardSaid : Prop := Claim7.holds Tryz.pinned (.plain (OpenSpec.ofChange graphChecksSpec)) graphChecksCard

/-- THE TIED CARD OF 'licitlaw18.GraphRecords'. -/
def graphRecordsCard : Claim7 := { stood := { row := graphRecordsRow, standIns := [], harness := (true, "2116f9d1265b23338e1ef798818358c0cfc474789ff1d8d95a390cfdb21cb6ea"), looks := false }, kinds := [], alts := [], laidByText := true, laidKinds := [.data, .pinned], laidTests := true, laidLooks := .later }
def GraphRecordsCardSaid : Prop := Claim7.holds Tryz.pinned (.plain (OpenSpec.ofChange graphRecordsSpec)) graphRecordsCard

/-- THE SECOND FORM's CARD OF 'licitlaw18.GraphChecks'. -/
def graphChecksUptoCard : Claim7 := { stood := { row := graphChecksUptoRow, standIns := [], harness := (true, "2116f9d1265b23338e1ef798818358c0cfc474789ff1d8d95a390cfdb21cb6ea"), looks := false }, kinds := [], alts := [], laidByText := true, laidKinds := [.data, .pinned], laidTests := true, laidLooks := .later }
def GraphChecksUptoCardSaid : Prop := Claim7.holds Tryz.pinned (.plain (OpenSpec.upto graphChecksSpec)) graphChecksUptoCard

/-- THE SECOND FORM's CARD OF 'licitlaw18.GraphRecords'. -/
def graphRecordsUptoCard : Claim7 := { stood := { row := graphRecordsUptoRow, standIns := [], harness := (true, "2116f9d1265b23338e1ef798818358c0cfc474789ff1d8d95a390cfdb21cb6ea"), looks := false }, kinds := [], alts := [], laidByText := true, laidKinds := [.data, .pinned], laidTests := true, laidLooks := .later }
def GraphRecordsUptoCardSaid : Prop := Claim7.holds Tryz.pinned (.plain (OpenSpec.upto graphRecordsSpec)) graphRecordsUptoCard
end Rows
end Go.Proofs.YtjemffgidhgfjaaGreatDoor
