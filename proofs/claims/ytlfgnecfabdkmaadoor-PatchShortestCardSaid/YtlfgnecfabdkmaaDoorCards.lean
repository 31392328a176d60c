/-
  DERIVED. GIVEN WITH THE SEED: THE CARDS: each row of YtlfgnecfabdkmaaDoorRows.lean that lists a variable, with what it lists TIED to the program's text (the seventh form; the later family's looks); each row that meets fmt, with fmt's text TOLD by the authors' own Lean function (tested against real Go, not proved from fmt's source: count such statements apart). THE CARD IS WHAT COUNTS. Prove the row's statement (the work); the ties are given (YtlfgnecfabdkmaaDoorTie.lean); close each card by the builder's one call (the guide's Derived/Test/ToyasCard.lean, 'card_holds'). Laid BY PROGRAM, IN A SANDBOX (cutbox-door.mjs). By AI agents, Wed Nov 11 2026. No macro, syntax, notation, axiom, sorry.
-/
import Derived.Test.YtlfgnecfabdkmaaDoorRows
import GoSem.ClaimSeven
namespace Go.Proofs.YtlfgnecfabdkmaaDoor
namespace Rows

/-- THE TIED CARD OF 'licitlaw04.PatchShortest'. -/
def patchShortestCard : Claim7 := { stood := { row := patchShortestRow, standIns := [], harness := (true, "a86a19c753d0c1364ec90408d87a941f00b68cc36711079e348b262adc36c105"), looks := true }, kinds := [], alts := [], laidByText := true, laidKinds := [.data, .data, .data, .data, .sentinel, .sentinel, .data, .pinned], laidTests := true, laidLooks := .later }
def PatchShortestCardSaid : Prop := Claim7.holds Tryd.pinned (.plain (OpenSpec.ofChange patchShortestSpec)) patchShortestCard

/-- THE SECOND FORM's CARD OF 'licitlaw04.PatchShortest'. -/
def patchShortestUptoCard : Claim7 := { stood := { row := patchShortestUptoRow, standIns := [], harness := (true, "a86a19c753d0c1364ec90408d87a941f00b68cc36711079e348b262adc36c105"), looks := true }, kinds := [], alts := [], laidByText := true, laidKinds := [.data, .data, .data, .data, .sentinel, .sentinel, .data, .pinned], laidTests := true, laidLooks := .later }
def PatchShortestUptoCardSaid : Prop := Claim7.holds Tryd.pinned (.plain (OpenSpec.upto patchShortestSpec)) patchShortestUptoCard
end Rows
end Go.Proofs.YtlfgnecfabdkmaaDoor
