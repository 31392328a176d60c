/-
  No cell of these rows narrows 'for every input' (looked for: loops, veiled, ifaces, maps, wideKeys, modest, calm, conditions, laid).
  DERIVED. THE GIVEN ROWS OF THIS SEAT. 6 by the template 'for every input the law returns true; each argument reads behind the call as it read before'; 0 by the template 'total and deterministic' (their statements: YthdokajpiflcoaaTotals.lean).
  GIVEN WITH THE SEED: the statements are not yours to turn. If you find one false, say at which input.
  Laid BY PROGRAM, IN A SANDBOX (cutbox-rows.mjs): the forced cells as the released guide's own fill.sh prints them over the translation a6b7eba28b6189df… (all of the seat's roots in one cut). By AI agents, Wed Nov 11 2026. No macro, syntax, notation, axiom, sorry.
-/
import Derived.Test.YthdokajpiflcoaaChecked
import GoSem.Claim
import GoSem.ClaimJoined
import GoSem.ClaimMapViews
import Derived.JoinedTies
import Derived.KernelRfl
namespace Go.Proofs.Ythdokajpiflcoaa
/- THE CELL 'sum', in the pinned program and in every row, IS THE sha256 OF THE DUMP (.gsa) THAT YthdokajpiflcoaaProg.lean LOADS. Nothing in Lean hashes anything: it is a label: what it is worth is what the hold of that sum in a sandbox is worth. -/
noncomputable def Try.pinned : Pinned := { name := "ythdokajpiflcoaa", sum := "a6b7eba28b6189df9be63f1cd5d69302e2a4fa4a96a6f68d6c8ef8f4edcd53ee", checked := Try.checked }
namespace Rows
def none {H : Type} : Left H := { results := [], args := [] }

/-- 'licitlaw24.RollingNumbers': WHATEVER THE INPUT: true; the input reads as it did. -/
def rollingNumbersSpec : ChangeSpec := { name := "rollingNumbers", fn := fun _ => fun
  | [d1, d2, d3, d4] => { results := [.lit (.bool true)], args := [d1, d2, d3, d4] }
  | _ => none }
def rollingNumbersRow : OpenClaim := { program := "ythdokajpiflcoaa", sum := "a6b7eba28b6189df9be63f1cd5d69302e2a4fa4a96a6f68d6c8ef8f4edcd53ee", func := "licit/licitlaw24.RollingNumbers", spec := "rollingNumbers", apart := false }
def RollingNumbersSaid : Prop := rollingNumbersRow.holds Try.pinned (OpenSpec.ofChange rollingNumbersSpec)

/-- ITS FALSE NEIGHBOUR: 'it returns false'. Refute it at one input. -/
def rollingNumbersWrong : ChangeSpec := { name := "rollingNumbers", fn := fun _ => fun
  | [d1, d2, d3, d4] => { results := [.lit (.bool false)], args := [d1, d2, d3, d4] }
  | _ => none }
def RollingNumbersWrongFalsely : Prop := rollingNumbersRow.holds Try.pinned (OpenSpec.ofChange rollingNumbersWrong)

/-- 'licitlaw24.RollingHashes': WHATEVER THE INPUT: true; the input reads as it did. -/
def rollingHashesSpec : ChangeSpec := { name := "rollingHashes", fn := fun _ => fun
  | [d1, d2] => { results := [.lit (.bool true)], args := [d1, d2] }
  | _ => none }
def rollingHashesRow : OpenClaim := { program := "ythdokajpiflcoaa", sum := "a6b7eba28b6189df9be63f1cd5d69302e2a4fa4a96a6f68d6c8ef8f4edcd53ee", func := "licit/licitlaw24.RollingHashes", spec := "rollingHashes", apart := false }
def RollingHashesSaid : Prop := rollingHashesRow.holds Try.pinned (OpenSpec.ofChange rollingHashesSpec)

/-- ITS FALSE NEIGHBOUR: 'it returns false'. Refute it at one input. -/
def rollingHashesWrong : ChangeSpec := { name := "rollingHashes", fn := fun _ => fun
  | [d1, d2] => { results := [.lit (.bool false)], args := [d1, d2] }
  | _ => none }
def RollingHashesWrongFalsely : Prop := rollingHashesRow.holds Try.pinned (OpenSpec.ofChange rollingHashesWrong)

/-- 'licitlaw24.RollingMoves': WHATEVER THE INPUT: true; the input reads as it did. -/
def rollingMovesSpec : ChangeSpec := { name := "rollingMoves", fn := fun _ => fun
  | [d1, d2, d3, d4, d5, d6] => { results := [.lit (.bool true)], args := [d1, d2, d3, d4, d5, d6] }
  | _ => none }
def rollingMovesRow : OpenClaim := { program := "ythdokajpiflcoaa", sum := "a6b7eba28b6189df9be63f1cd5d69302e2a4fa4a96a6f68d6c8ef8f4edcd53ee", func := "licit/licitlaw24.RollingMoves", spec := "rollingMoves", apart := false }
def RollingMovesSaid : Prop := rollingMovesRow.holds Try.pinned (OpenSpec.ofChange rollingMovesSpec)

/-- ITS FALSE NEIGHBOUR: 'it returns false'. Refute it at one input. -/
def rollingMovesWrong : ChangeSpec := { name := "rollingMoves", fn := fun _ => fun
  | [d1, d2, d3, d4, d5, d6] => { results := [.lit (.bool false)], args := [d1, d2, d3, d4, d5, d6] }
  | _ => none }
def RollingMovesWrongFalsely : Prop := rollingMovesRow.holds Try.pinned (OpenSpec.ofChange rollingMovesWrong)

/-- 'licitlaw24.RollingRolls': WHATEVER THE INPUT: true; the input reads as it did. -/
def rollingRollsSpec : ChangeSpec := { name := "rollingRolls", fn := fun _ => fun
  | [d1, d2] => { results := [.lit (.bool true)], args := [d1, d2] }
  | _ => none }
def rollingRollsRow : OpenClaim := { program := "ythdokajpiflcoaa", sum := "a6b7eba28b6189df9be63f1cd5d69302e2a4fa4a96a6f68d6c8ef8f4edcd53ee", func := "licit/licitlaw24.RollingRolls", spec := "rollingRolls", apart := false }
def RollingRollsSaid : Prop := rollingRollsRow.holds Try.pinned (OpenSpec.ofChange rollingRollsSpec)

/-- ITS FALSE NEIGHBOUR: 'it returns false'. Refute it at one input. -/
def rollingRollsWrong : ChangeSpec := { name := "rollingRolls", fn := fun _ => fun
  | [d1, d2] => { results := [.lit (.bool false)], args := [d1, d2] }
  | _ => none }
def RollingRollsWrongFalsely : Prop := rollingRollsRow.holds Try.pinned (OpenSpec.ofChange rollingRollsWrong)

/-- 'licitlaw24.RollingJoins': WHATEVER THE INPUT: true; the input reads as it did. -/
def rollingJoinsSpec : ChangeSpec := { name := "rollingJoins", fn := fun _ => fun
  | [d1, d2] => { results := [.lit (.bool true)], args := [d1, d2] }
  | _ => none }
def rollingJoinsRow : OpenClaim := { program := "ythdokajpiflcoaa", sum := "a6b7eba28b6189df9be63f1cd5d69302e2a4fa4a96a6f68d6c8ef8f4edcd53ee", func := "licit/licitlaw24.RollingJoins", spec := "rollingJoins", apart := false }
def RollingJoinsSaid : Prop := rollingJoinsRow.holds Try.pinned (OpenSpec.ofChange rollingJoinsSpec)

/-- ITS FALSE NEIGHBOUR: 'it returns false'. Refute it at one input. -/
def rollingJoinsWrong : ChangeSpec := { name := "rollingJoins", fn := fun _ => fun
  | [d1, d2] => { results := [.lit (.bool false)], args := [d1, d2] }
  | _ => none }
def RollingJoinsWrongFalsely : Prop := rollingJoinsRow.holds Try.pinned (OpenSpec.ofChange rollingJoinsWrong)

/-- 'licitlaw24.RollingField': WHATEVER THE INPUT: true; the input reads as it did. -/
def rollingFieldSpec : ChangeSpec := { name := "rollingField", fn := fun _ => fun
  | [d1, d2, d3, d4, d5] => { results := [.lit (.bool true)], args := [d1, d2, d3, d4, d5] }
  | _ => none }
def rollingFieldRow : OpenClaim := { program := "ythdokajpiflcoaa", sum := "a6b7eba28b6189df9be63f1cd5d69302e2a4fa4a96a6f68d6c8ef8f4edcd53ee", func := "licit/licitlaw24.RollingField", spec := "rollingField", apart := false }
def RollingFieldSaid : Prop := rollingFieldRow.holds Try.pinned (OpenSpec.ofChange rollingFieldSpec)

/-- ITS FALSE NEIGHBOUR: 'it returns false'. Refute it at one input. -/
def rollingFieldWrong : ChangeSpec := { name := "rollingField", fn := fun _ => fun
  | [d1, d2, d3, d4, d5] => { results := [.lit (.bool false)], args := [d1, d2, d3, d4, d5] }
  | _ => none }
def RollingFieldWrongFalsely : Prop := rollingFieldRow.holds Try.pinned (OpenSpec.ofChange rollingFieldWrong)

/- THE SECOND FORM. 'bulk': how many values and letters a reading holds, each counted each time it is reached (what is shared counts as often as it is met; a slice's spare places count too). A statement '..UptoSaid' is the law's where the arguments, and the package variables that the reading takes, are together of bulk at most 1048576: NARROWER than '..Said'. Prove '..Said' where nothing that the law and all that it calls make is longer than what came in: it says more and counts as full. Else prove '..UptoSaid'. A law counts once. -/
mutual
def uptoBulk {H : Type} : DataW H → Nat
  | .lit (.string bytes) => bytes.length + 1
  | .lit _ => 1
  | .nil => 1
  | .ptr d => uptoBulk d + 1
  | .slice elems spare => uptoBulkAll elems + uptoBulkAll spare + 1
  | .agg parts => uptoBulkAll parts + 1
  | .iface _ d => uptoBulk d + 1
  | .map entries => uptoBulkEntries entries + 1
  | .held _ => 1
def uptoBulkAll {H : Type} : List (DataW H) → Nat
  | [] => 0
  | d :: r => uptoBulk d + uptoBulkAll r
def uptoBulkEntries {H : Type} : List (Lit × DataW H) → Nat
  | [] => 0
  | x :: r => uptoBulkEntry x + uptoBulkEntries r
def uptoBulkEntry {H : Type} : Lit × DataW H → Nat
  | (.string bytes, d) => bytes.length + uptoBulk d + 1
  | (_, d) => uptoBulk d + 1
 end
def uptoSmall : (H : Type) → List (DataW H) → Bool := fun _ ds => decide (uptoBulkAll ds ≤ 1048576)
def OpenSpec.upto (s : _root_.Go.ChangeSpec) : _root_.Go.OpenSpec := { _root_.Go.OpenSpec.ofChange s with cond := some uptoSmall }

/-- 'licitlaw24.RollingNumbers', WHERE WHAT IT READS IS OF BULK AT MOST 1048576: true; the input reads as it did. -/
def rollingNumbersUptoRow : OpenClaim := { program := "ythdokajpiflcoaa", sum := "a6b7eba28b6189df9be63f1cd5d69302e2a4fa4a96a6f68d6c8ef8f4edcd53ee", func := "licit/licitlaw24.RollingNumbers", spec := "rollingNumbers", apart := false, narrowed := true }
def RollingNumbersUptoSaid : Prop := rollingNumbersUptoRow.holds Try.pinned (OpenSpec.upto rollingNumbersSpec)

/-- 'licitlaw24.RollingHashes', WHERE WHAT IT READS IS OF BULK AT MOST 1048576: true; the input reads as it did. -/
def rollingHashesUptoRow : OpenClaim := { program := "ythdokajpiflcoaa", sum := "a6b7eba28b6189df9be63f1cd5d69302e2a4fa4a96a6f68d6c8ef8f4edcd53ee", func := "licit/licitlaw24.RollingHashes", spec := "rollingHashes", apart := false, narrowed := true }
def RollingHashesUptoSaid : Prop := rollingHashesUptoRow.holds Try.pinned (OpenSpec.upto rollingHashesSpec)

/-- 'licitlaw24.RollingMoves', WHERE WHAT IT READS IS OF BULK AT MOST 1048576: true; the input reads as it did. -/
def rollingMovesUptoRow : OpenClaim := { program := "ythdokajpiflcoaa", sum := "a6b7eba28b6189df9be63f1cd5d69302e2a4fa4a96a6f68d6c8ef8f4edcd53ee", func := "licit/licitlaw24.RollingMoves", spec := "rollingMoves", apart := false, narrowed := true }
def RollingMovesUptoSaid : Prop := rollingMovesUptoRow.holds Try.pinned (OpenSpec.upto rollingMovesSpec)

/-- 'licitlaw24.RollingRolls', WHERE WHAT IT READS IS OF BULK AT MOST 1048576: true; the input reads as it did. -/
def rollingRollsUptoRow : OpenClaim := { program := "ythdokajpiflcoaa", sum := "a6b7eba28b6189df9be63f1cd5d69302e2a4fa4a96a6f68d6c8ef8f4edcd53ee", func := "licit/licitlaw24.RollingRolls", spec := "rollingRolls", apart := false, narrowed := true }
def RollingRollsUptoSaid : Prop := rollingRollsUptoRow.holds Try.pinned (OpenSpec.upto rollingRollsSpec)

/-- 'licitlaw24.RollingJoins', WHERE WHAT IT READS IS OF BULK AT MOST 1048576: true; the input reads as it did. -/
def rollingJoinsUptoRow : OpenClaim := { program := "ythdokajpiflcoaa", sum := "a6b7eba28b6189df9be63f1cd5d69302e2a4fa4a96a6f68d6c8ef8f4edcd53ee", func := "licit/licitlaw24.RollingJoins", spec := "rollingJoins", apart := false, narrowed := true }
def RollingJoinsUptoSaid : Prop := rollingJoinsUptoRow.holds Try.pinned (OpenSpec.upto rollingJoinsSpec)

/-- 'licitlaw24.RollingField', WHERE WHAT IT READS IS OF BULK AT MOST 1048576: true; the input reads as it did. -/
def rollingFieldUptoRow : OpenClaim := { program := "ythdokajpiflcoaa", sum := "a6b7eba28b6189df9be63f1cd5d69302e2a4fa4a96a6f68d6c8ef8f4edcd53ee", func := "licit/licitlaw24.RollingField", spec := "rollingField", apart := false, narrowed := true }
def RollingFieldUptoSaid : Prop := rollingFieldUptoRow.holds Try.pinned (OpenSpec.upto rollingFieldSpec)

end Rows
end Go.Proofs.Ythdokajpiflcoaa
