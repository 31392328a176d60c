/-
  DERIVED. GIVEN WITH THE SEED: THE CARDS: each row of YtkcpncgngblooaaDoorRows.lean that lists a variable, with what it lists TIED to the program's text (the seventh form; the later family's looks); each row that meets fmt, with fmt's text TOLD by the authors' own Lean function (tested against real Go, not proved from fmt's source: count such statements apart). THE CARD IS WHAT COUNTS. Prove the row's statement (the work); the ties are given (YtkcpncgngblooaaDoorTie.lean); close each card by the builder's one call (the guide's Derived/Test/ToyasCard.lean, 'card_holds'). Laid BY PROGRAM, IN A SANDBOX (cutbox-door.mjs). By AI agents, Wed Nov 11 2026. No macro, syntax, notation, axiom, sorry.
-/
import Derived.Test.YtkcpncgngblooaaDoorRows
import GoSem.ClaimSeven
namespace Go.Proofs.YtkcpncgngblooaaDoor
namespace Rows

/-- THE TIED CARD OF 'licitlaw01.DigestSums'. -/
def digestSumsCard : Claim7 := { stood := { row := digestSumsRow, standIns := [], harness := (true, "ba219fde5a28632368b75cda2208019452fec57fb0901a370f35208240b9afc3"), looks := false }, kinds := [], alts := [], laidByText := true, laidKinds := [.data], laidTests := true, laidLooks := .later }
def DigestSumsCardSaid : Prop := Claim7.holds Tryd.pinned (.plain (OpenSpec.ofChange digestSumsSpec)) digestSumsCard

/-- THE TIED CARD OF 'licitlaw01.DigestPermutes'. -/
def digestPermutesCard : Claim7 := { stood := { row := digestPermutesRow, standIns := [], harness := (true, "ba219fde5a28632368b75cda2208019452fec57fb0901a370f35208240b9afc3"), looks := false }, kinds := [], alts := [], laidByText := true, laidKinds := [.data], laidTests := true, laidLooks := .later }
def DigestPermutesCardSaid : Prop := Claim7.holds Tryd.pinned (.plain (OpenSpec.ofChange digestPermutesSpec)) digestPermutesCard

/-- THE TIED CARD OF 'licitlaw01.DigestPermutations'. -/
def digestPermutationsCard : Claim7 := { stood := { row := digestPermutationsRow, standIns := [], harness := (true, "ba219fde5a28632368b75cda2208019452fec57fb0901a370f35208240b9afc3"), looks := false }, kinds := [], alts := [], laidByText := true, laidKinds := [.data], laidTests := true, laidLooks := .later }
def DigestPermutationsCardSaid : Prop := Claim7.holds Tryd.pinned (.plain (OpenSpec.ofChange digestPermutationsSpec)) digestPermutationsCard

/-- THE TIED CARD OF 'licitlaw01.DigestStream'. -/
def digestStreamCard : Claim7 := { stood := { row := digestStreamRow, standIns := [], harness := (true, "ba219fde5a28632368b75cda2208019452fec57fb0901a370f35208240b9afc3"), looks := false }, kinds := [], alts := [], laidByText := true, laidKinds := [.data], laidTests := true, laidLooks := .later }
def DigestStreamCardSaid : Prop := Claim7.holds Tryd.pinned (.plain (OpenSpec.ofChange digestStreamSpec)) digestStreamCard

/-- THE TIED CARD OF 'licitlaw01.DigestClones'. -/
def digestClonesCard : Claim7 := { stood := { row := digestClonesRow, standIns := [], harness := (true, "ba219fde5a28632368b75cda2208019452fec57fb0901a370f35208240b9afc3"), looks := false }, kinds := [], alts := [], laidByText := true, laidKinds := [.data], laidTests := true, laidLooks := .later }
def DigestClonesCardSaid : Prop := Claim7.holds Tryd.pinned (.plain (OpenSpec.ofChange digestClonesSpec)) digestClonesCard

/-- THE TIED CARD OF 'licitlaw01.DigestTexts'. -/
def digestTextsCard : Claim7 := { stood := { row := digestTextsRow, standIns := [], harness := (true, "ba219fde5a28632368b75cda2208019452fec57fb0901a370f35208240b9afc3"), looks := false }, kinds := [], alts := [], laidByText := true, laidKinds := [.data], laidTests := true, laidLooks := .later }
def DigestTextsCardSaid : Prop := Claim7.holds Tryd.pinned (.plain (OpenSpec.ofChange digestTextsSpec)) digestTextsCard

/-- THE TIED CARD OF 'licitlaw01.DigestBlocks'. -/
def digestBlocksCard : Claim7 := { stood := { row := digestBlocksRow, standIns := [], harness := (true, "ba219fde5a28632368b75cda2208019452fec57fb0901a370f35208240b9afc3"), looks := false }, kinds := [], alts := [], laidByText := true, laidKinds := [.data], laidTests := true, laidLooks := .later }
def DigestBlocksCardSaid : Prop := Claim7.holds Tryd.pinned (.plain (OpenSpec.ofChange digestBlocksSpec)) digestBlocksCard

/-- THE SECOND FORM's CARD OF 'licitlaw01.DigestSums'. -/
def digestSumsUptoCard : Claim7 := { stood := { row := digestSumsUptoRow, standIns := [], harness := (true, "ba219fde5a28632368b75cda2208019452fec57fb0901a370f35208240b9afc3"), looks := false }, kinds := [], alts := [], laidByText := true, laidKinds := [.data], laidTests := true, laidLooks := .later }
def DigestSumsUptoCardSaid : Prop := Claim7.holds Tryd.pinned (.plain (OpenSpec.upto digestSumsSpec)) digestSumsUptoCard

/-- THE SECOND FORM's CARD OF 'licitlaw01.DigestPermutes'. -/
def digestPermutesUptoCard : Claim7 := { stood := { row := digestPermutesUptoRow, standIns := [], harness := (true, "ba219fde5a28632368b75cda2208019452fec57fb0901a370f35208240b9afc3"), looks := false }, kinds := [], alts := [], laidByText := true, laidKinds := [.data], laidTests := true, laidLooks := .later }
def DigestPermutesUptoCardSaid : Prop := Claim7.holds Tryd.pinned (.plain (OpenSpec.upto digestPermutesSpec)) digestPermutesUptoCard

/-- THE SECOND FORM's CARD OF 'licitlaw01.DigestPermutations'. -/
def digestPermutationsUptoCard : Claim7 := { stood := { row := digestPermutationsUptoRow, standIns := [], harness := (true, "ba219fde5a28632368b75cda2208019452fec57fb0901a370f35208240b9afc3"), looks := false }, kinds := [], alts := [], laidByText := true, laidKinds := [.data], laidTests := true, laidLooks := .later }
def DigestPermutationsUptoCardSaid : Prop := Claim7.holds Tryd.pinned (.plain (OpenSpec.upto digestPermutationsSpec)) digestPermutationsUptoCard

/-- THE SECOND FORM's CARD OF 'licitlaw01.DigestStream'. -/
def digestStreamUptoCard : Claim7 := { stood := { row := digestStreamUptoRow, standIns := [], harness := (true, "ba219fde5a28632368b75cda2208019452fec57fb0901a370f35208240b9afc3"), looks := false }, kinds := [], alts := [], laidByText := true, laidKinds := [.data], laidTests := true, laidLooks := .later }
def DigestStreamUptoCardSaid : Prop := Claim7.holds Tryd.pinned (.plain (OpenSpec.upto digestStreamSpec)) digestStreamUptoCard

/-- THE SECOND FORM's CARD OF 'licitlaw01.DigestClones'. -/
def digestClonesUptoCard : Claim7 := { stood := { row := digestClonesUptoRow, standIns := [], harness := (true, "ba219fde5a28632368b75cda2208019452fec57fb0901a370f35208240b9afc3"), looks := false }, kinds := [], alts := [], laidByText := true, laidKinds := [.data], laidTests := true, laidLooks := .later }
def DigestClonesUptoCardSaid : Prop := Claim7.holds Tryd.pinned (.plain (OpenSpec.upto digestClonesSpec)) digestClonesUptoCard

/-- THE SECOND FORM's CARD OF 'licitlaw01.DigestTexts'. -/
def digestTextsUptoCard : Claim7 := { stood := { row := digestTextsUptoRow, standIns := [], harness := (true, "ba219fde5a28632368b75cda2208019452fec57fb0901a370f35208240b9afc3"), looks := false }, kinds := [], alts := [], laidByText := true, laidKinds := [.data], laidTests := true, laidLooks := .later }
def DigestTextsUptoCardSaid : Prop := Claim7.holds Tryd.pinned (.plain (OpenSpec.upto digestTextsSpec)) digestTextsUptoCard

/-- THE SECOND FORM's CARD OF 'licitlaw01.DigestBlocks'. -/
def digestBlocksUptoCard : Claim7 := { stood := { row := digestBlocksUptoRow, standIns := [], harness := (true, "ba219fde5a28632368b75cda2208019452fec57fb0901a370f35208240b9afc3"), looks := false }, kinds := [], alts := [], laidByText := true, laidKinds := [.data], laidTests := true, laidLooks := .later }
def DigestBlocksUptoCardSaid : Prop := Claim7.holds Tryd.pinned (.plain (OpenSpec.upto digestBlocksSpec)) digestBlocksUptoCard
end Rows
end Go.Proofs.YtkcpncgngblooaaDoor
