/-
  DERIVED. GIVEN WITH THE SEED: THE CARDS: each row of YtkgnbjhgdjmfdaaDoorRows.lean that lists a variable, with what it lists TIED to the program's text (the seventh form; the later family's looks); each row that meets fmt, with fmt's text TOLD by the authors' own Lean function (tested against real Go, not proved from fmt's source: count such statements apart). THE CARD IS WHAT COUNTS. Prove the row's statement (the work); the ties are given (YtkgnbjhgdjmfdaaDoorTie.lean); close each card by the builder's one call (the guide's Derived/Test/ToyasCard.lean, 'card_holds'). Laid BY PROGRAM, IN A SANDBOX (cutbox-door.mjs). By AI agents, Wed Nov 11 2026. No macro, syntax, notation, axiom, sorry.
-/
import Derived.Test.YtkgnbjhgdjmfdaaDoorRows
import GoSem.ClaimSeven
namespace Go.Proofs.YtkgnbjhgdjmfdaaDoor
namespace Rows

/-- THE TIED CARD OF 'licitlaw17.RecordChecks'. -/
def recordChecksCard : Claim7 := { stood := { row := recordChecksRow, standIns := [], harness := (true, "e7eb1608b3a9679de393d5c90968bce14f12da385d484a57f5f0728c05f721b1"), looks := false }, kinds := [], alts := [], laidByText := true, laidKinds := [.data, .pinned], laidTests := true, laidLooks := .later }
def RecordChecksCardSaid : Prop := Claim7.holds Tryd.pinned (.plain (OpenSpec.ofChange recordChecksSpec)) recordChecksCard

/-- THE TIED CARD OF 'licitlaw17.RecordNeeds'. -/
def recordNeedsCard : Claim7 := { stood := { row := recordNeedsRow, standIns := [], harness := (true, "e7eb1608b3a9679de393d5c90968bce14f12da385d484a57f5f0728c05f721b1"), looks := false }, kinds := [], alts := [], laidByText := true, laidKinds := [.data, .pinned], laidTests := true, laidLooks := .later }
def RecordNeedsCardSaid : Prop := Claim7.holds Tryd.pinned (.plain (OpenSpec.ofChange recordNeedsSpec)) recordNeedsCard

/-- THE TIED CARD OF 'licitlaw17.RecordAffects'. -/
def recordAffectsCard : Claim7 := { stood := { row := recordAffectsRow, standIns := [], harness := (true, "e7eb1608b3a9679de393d5c90968bce14f12da385d484a57f5f0728c05f721b1"), looks := false }, kinds := [], alts := [], laidByText := true, laidKinds := [.data, .pinned], laidTests := true, laidLooks := .later }
def RecordAffectsCardSaid : Prop := Claim7.holds Tryd.pinned (.plain (OpenSpec.ofChange recordAffectsSpec)) recordAffectsCard

/-- THE TIED CARD OF 'licitlaw17.RecordCloses'. -/
def recordClosesCard : Claim7 := { stood := { row := recordClosesRow, standIns := [], harness := (true, "e7eb1608b3a9679de393d5c90968bce14f12da385d484a57f5f0728c05f721b1"), looks := false }, kinds := [], alts := [], laidByText := true, laidKinds := [.data, .pinned], laidTests := true, laidLooks := .later }
def RecordClosesCardSaid : Prop := Claim7.holds Tryd.pinned (.plain (OpenSpec.ofChange recordClosesSpec)) recordClosesCard

/-- THE SECOND FORM's CARD OF 'licitlaw17.RecordChecks'. -/
def recordChecksUptoCard : Claim7 := { stood := { row := recordChecksUptoRow, standIns := [], harness := (true, "e7eb1608b3a9679de393d5c90968bce14f12da385d484a57f5f0728c05f721b1"), looks := false }, kinds := [], alts := [], laidByText := true, laidKinds := [.data, .pinned], laidTests := true, laidLooks := .later }
def RecordChecksUptoCardSaid : Prop := Claim7.holds Tryd.pinned (.plain (OpenSpec.upto recordChecksSpec)) recordChecksUptoCard

/-- THE SECOND FORM's CARD OF 'licitlaw17.RecordNeeds'. -/
def recordNeedsUptoCard : Claim7 := { stood := { row := recordNeedsUptoRow, standIns := [], harness := (true, "e7eb1608b3a9679de393d5c90968bce14f12da385d484a57f5f0728c05f721b1"), looks := false }, kinds := [], alts := [], laidByText := true, laidKinds := [.data, .pinned], laidTests := true, laidLooks := .later }
def RecordNeedsUptoCardSaid : Prop := Claim7.holds Tryd.pinned (.plain (OpenSpec.upto recordNeedsSpec)) recordNeedsUptoCard

/-- THE SECOND FORM's CARD OF 'licitlaw17.RecordAffects'. -/
def recordAffectsUptoCard : Claim7 := { stood := { row := recordAffectsUptoRow, standIns := [], harness := (true, "e7eb1608b3a9679de393d5c90968bce14f12da385d484a57f5f0728c05f721b1"), looks := false }, kinds := [], alts := [], laidByText := true, laidKinds := [.data, .pinned], laidTests := true, laidLooks := .later }
def RecordAffectsUptoCardSaid : Prop := Claim7.holds Tryd.pinned (.plain (OpenSpec.upto recordAffectsSpec)) recordAffectsUptoCard

/-- THE SECOND FORM's CARD OF 'licitlaw17.RecordCloses'. -/
def recordClosesUptoCard : Claim7 := { stood := { row := recordClosesUptoRow, standIns := [], harness := (true, "e7eb1608b3a9679de393d5c90968bce14f12da385d484a57f5f0728c05f721b1"), looks := false }, kinds := [], alts := [], laidByText := true, laidKinds := [.data, .pinned], laidTests := true, laidLooks := .later }
def RecordClosesUptoCardSaid : Prop := Claim7.holds Tryd.pinned (.plain (OpenSpec.upto recordClosesSpec)) recordClosesUptoCard
end Rows
end Go.Proofs.YtkgnbjhgdjmfdaaDoor
