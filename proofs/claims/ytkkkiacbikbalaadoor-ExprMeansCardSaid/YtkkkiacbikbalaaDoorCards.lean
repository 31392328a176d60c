/-
  DERIVED. GIVEN WITH THE SEED: THE CARDS: each row of YtkkkiacbikbalaaDoorRows.lean that lists a variable, with what it lists TIED to the program's text (the seventh form; the later family's looks); each row that meets fmt, with fmt's text TOLD by the authors' own Lean function (tested against real Go, not proved from fmt's source: count such statements apart). THE CARD IS WHAT COUNTS. Prove the row's statement (the work); the ties are given (YtkkkiacbikbalaaDoorTie.lean); close each card by the builder's one call (the guide's Derived/Test/ToyasCard.lean, 'card_holds'). Laid BY PROGRAM, IN A SANDBOX (cutbox-door.mjs). By AI agents, Wed Nov 11 2026. No macro, syntax, notation, axiom, sorry.
-/
import Derived.Test.YtkkkiacbikbalaaDoorRows
import GoSem.ClaimSeven
namespace Go.Proofs.YtkkkiacbikbalaaDoor
namespace Rows

/-- THE TIED CARD OF 'licitlaw08.ExprOperates'. -/
def exprOperatesCard : Claim7 := { stood := { row := exprOperatesRow, standIns := [], harness := (true, "cbd1ad84b646fc3ac6969f621f8a19e4cf6afe00074fbf3103d20ef85d71e63b"), looks := true }, kinds := [], alts := [], laidByText := true, laidKinds := [.data, .data, .data, .sentinel, .sentinel], laidTests := true, laidLooks := .later }
def ExprOperatesCardSaid : Prop := Claim7.holds Tryd.pinned (.plain (OpenSpec.ofChange exprOperatesSpec)) exprOperatesCard

/-- THE TIED CARD OF 'licitlaw08.ExprReturns'. -/
def exprReturnsCard : Claim7 := { stood := { row := exprReturnsRow, standIns := [], harness := (true, "cbd1ad84b646fc3ac6969f621f8a19e4cf6afe00074fbf3103d20ef85d71e63b"), looks := true }, kinds := [], alts := [], laidByText := true, laidKinds := [.data, .data, .data, .sentinel, .sentinel], laidTests := true, laidLooks := .later }
def ExprReturnsCardSaid : Prop := Claim7.holds Tryd.pinned (.plain (OpenSpec.ofChange exprReturnsSpec)) exprReturnsCard

/-- THE TIED CARD OF 'licitlaw08.ExprMeans'. -/
def exprMeansCard : Claim7 := { stood := { row := exprMeansRow, standIns := [], harness := (true, "cbd1ad84b646fc3ac6969f621f8a19e4cf6afe00074fbf3103d20ef85d71e63b"), looks := true }, kinds := [], alts := [], laidByText := true, laidKinds := [.data, .data, .data, .sentinel, .sentinel], laidTests := true, laidLooks := .later }
def ExprMeansCardSaid : Prop := Claim7.holds Tryd.pinned (.plain (OpenSpec.ofChange exprMeansSpec)) exprMeansCard

/-- THE TIED CARD OF 'licitlaw08.ExprArithmetic'. -/
def exprArithmeticCard : Claim7 := { stood := { row := exprArithmeticRow, standIns := [], harness := (true, "cbd1ad84b646fc3ac6969f621f8a19e4cf6afe00074fbf3103d20ef85d71e63b"), looks := true }, kinds := [], alts := [], laidByText := true, laidKinds := [.data, .data, .data, .sentinel, .sentinel], laidTests := true, laidLooks := .later }
def ExprArithmeticCardSaid : Prop := Claim7.holds Tryd.pinned (.plain (OpenSpec.ofChange exprArithmeticSpec)) exprArithmeticCard

/-- THE SECOND FORM's CARD OF 'licitlaw08.ExprOperates'. -/
def exprOperatesUptoCard : Claim7 := { stood := { row := exprOperatesUptoRow, standIns := [], harness := (true, "cbd1ad84b646fc3ac6969f621f8a19e4cf6afe00074fbf3103d20ef85d71e63b"), looks := true }, kinds := [], alts := [], laidByText := true, laidKinds := [.data, .data, .data, .sentinel, .sentinel], laidTests := true, laidLooks := .later }
def ExprOperatesUptoCardSaid : Prop := Claim7.holds Tryd.pinned (.plain (OpenSpec.upto exprOperatesSpec)) exprOperatesUptoCard

/-- THE SECOND FORM's CARD OF 'licitlaw08.ExprReturns'. -/
def exprReturnsUptoCard : Claim7 := { stood := { row := exprReturnsUptoRow, standIns := [], harness := (true, "cbd1ad84b646fc3ac6969f621f8a19e4cf6afe00074fbf3103d20ef85d71e63b"), looks := true }, kinds := [], alts := [], laidByText := true, laidKinds := [.data, .data, .data, .sentinel, .sentinel], laidTests := true, laidLooks := .later }
def ExprReturnsUptoCardSaid : Prop := Claim7.holds Tryd.pinned (.plain (OpenSpec.upto exprReturnsSpec)) exprReturnsUptoCard

/-- THE SECOND FORM's CARD OF 'licitlaw08.ExprMeans'. -/
def exprMeansUptoCard : Claim7 := { stood := { row := exprMeansUptoRow, standIns := [], harness := (true, "cbd1ad84b646fc3ac6969f621f8a19e4cf6afe00074fbf3103d20ef85d71e63b"), looks := true }, kinds := [], alts := [], laidByText := true, laidKinds := [.data, .data, .data, .sentinel, .sentinel], laidTests := true, laidLooks := .later }
def ExprMeansUptoCardSaid : Prop := Claim7.holds Tryd.pinned (.plain (OpenSpec.upto exprMeansSpec)) exprMeansUptoCard

/-- THE SECOND FORM's CARD OF 'licitlaw08.ExprArithmetic'. -/
def exprArithmeticUptoCard : Claim7 := { stood := { row := exprArithmeticUptoRow, standIns := [], harness := (true, "cbd1ad84b646fc3ac6969f621f8a19e4cf6afe00074fbf3103d20ef85d71e63b"), looks := true }, kinds := [], alts := [], laidByText := true, laidKinds := [.data, .data, .data, .sentinel, .sentinel], laidTests := true, laidLooks := .later }
def ExprArithmeticUptoCardSaid : Prop := Claim7.holds Tryd.pinned (.plain (OpenSpec.upto exprArithmeticSpec)) exprArithmeticUptoCard
end Rows
end Go.Proofs.YtkkkiacbikbalaaDoor
