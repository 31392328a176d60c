/-
  No cell of these rows narrows 'for every input' (looked for: loops, veiled, ifaces, maps, wideKeys, modest, calm, conditions, laid).
  DERIVED. THE GIVEN ROWS OF THIS SEAT. 5 by the template 'for every input the law returns true; each argument reads behind the call as it read before'; 0 by the template 'total and deterministic' (their statements: YtkmldaelgbkfbaaTotals.lean).
  GIVEN WITH THE SEED: the statements are not yours to turn. If you find one false, say at which input.
  Laid BY PROGRAM, IN A SANDBOX (cutbox-rows.mjs): the forced cells as the released guide's own fill.sh prints them over the translation 2e732104630dc465… (all of the seat's roots in one cut). By AI agents, Wed Nov 11 2026. No macro, syntax, notation, axiom, sorry.
-/
import Derived.Test.YtkmldaelgbkfbaaChecked
import GoSem.Claim
import GoSem.ClaimJoined
import GoSem.ClaimMapViews
import Derived.JoinedTies
import Derived.KernelRfl
namespace Go.Proofs.Ytkmldaelgbkfbaa
/- THE CELL 'sum', in the pinned program and in every row, IS THE sha256 OF THE DUMP (.gsa) THAT YtkmldaelgbkfbaaProg.lean LOADS. Nothing in Lean hashes anything: it is a label: what it is worth is what the hold of that sum in a sandbox is worth. -/
noncomputable def Try.pinned : Pinned := { name := "ytkmldaelgbkfbaa", sum := "2e732104630dc465b9d2443052ae6a93561cc11d25c359ef577978d8098d4ba3", checked := Try.checked }
namespace Rows
def none {H : Type} : Left H := { results := [], args := [] }

/-- 'licitlaw25.WinnowSelects': WHATEVER THE INPUT: true; the input reads as it did. -/
def winnowSelectsSpec : ChangeSpec := { name := "winnowSelects", fn := fun _ => fun
  | [d1, d2, d3, d4] => { results := [.lit (.bool true)], args := [d1, d2, d3, d4] }
  | _ => none }
def winnowSelectsRow : OpenClaim := { program := "ytkmldaelgbkfbaa", sum := "2e732104630dc465b9d2443052ae6a93561cc11d25c359ef577978d8098d4ba3", func := "licit/licitlaw25.WinnowSelects", spec := "winnowSelects", unfollowed := true, recurses := true, apart := false }
def WinnowSelectsSaid : Prop := winnowSelectsRow.holds Try.pinned (OpenSpec.ofChange winnowSelectsSpec)

/-- ITS FALSE NEIGHBOUR: 'it returns false'. Refute it at one input. -/
def winnowSelectsWrong : ChangeSpec := { name := "winnowSelects", fn := fun _ => fun
  | [d1, d2, d3, d4] => { results := [.lit (.bool false)], args := [d1, d2, d3, d4] }
  | _ => none }
def WinnowSelectsWrongFalsely : Prop := winnowSelectsRow.holds Try.pinned (OpenSpec.ofChange winnowSelectsWrong)

/-- 'licitlaw25.WinnowShares': WHATEVER THE INPUT: true; the input reads as it did. -/
def winnowSharesSpec : ChangeSpec := { name := "winnowShares", fn := fun _ => fun
  | [d1, d2] => { results := [.lit (.bool true)], args := [d1, d2] }
  | _ => none }
def winnowSharesRow : OpenClaim := { program := "ytkmldaelgbkfbaa", sum := "2e732104630dc465b9d2443052ae6a93561cc11d25c359ef577978d8098d4ba3", func := "licit/licitlaw25.WinnowShares", spec := "winnowShares", unfollowed := true, recurses := true, apart := false }
def WinnowSharesSaid : Prop := winnowSharesRow.holds Try.pinned (OpenSpec.ofChange winnowSharesSpec)

/-- ITS FALSE NEIGHBOUR: 'it returns false'. Refute it at one input. -/
def winnowSharesWrong : ChangeSpec := { name := "winnowShares", fn := fun _ => fun
  | [d1, d2] => { results := [.lit (.bool false)], args := [d1, d2] }
  | _ => none }
def WinnowSharesWrongFalsely : Prop := winnowSharesRow.holds Try.pinned (OpenSpec.ofChange winnowSharesWrong)

/-- 'licitlaw25.WinnowWindows': WHATEVER THE INPUT: true; the input reads as it did. -/
def winnowWindowsSpec : ChangeSpec := { name := "winnowWindows", fn := fun _ => fun
  | [d1, d2] => { results := [.lit (.bool true)], args := [d1, d2] }
  | _ => none }
def winnowWindowsRow : OpenClaim := { program := "ytkmldaelgbkfbaa", sum := "2e732104630dc465b9d2443052ae6a93561cc11d25c359ef577978d8098d4ba3", func := "licit/licitlaw25.WinnowWindows", spec := "winnowWindows", unfollowed := true, recurses := true, apart := false }
def WinnowWindowsSaid : Prop := winnowWindowsRow.holds Try.pinned (OpenSpec.ofChange winnowWindowsSpec)

/-- ITS FALSE NEIGHBOUR: 'it returns false'. Refute it at one input. -/
def winnowWindowsWrong : ChangeSpec := { name := "winnowWindows", fn := fun _ => fun
  | [d1, d2] => { results := [.lit (.bool false)], args := [d1, d2] }
  | _ => none }
def WinnowWindowsWrongFalsely : Prop := winnowWindowsRow.holds Try.pinned (OpenSpec.ofChange winnowWindowsWrong)

/-- 'licitlaw25.WinnowGaps': WHATEVER THE INPUT: true; the input reads as it did. -/
def winnowGapsSpec : ChangeSpec := { name := "winnowGaps", fn := fun _ => fun
  | [d1, d2] => { results := [.lit (.bool true)], args := [d1, d2] }
  | _ => none }
def winnowGapsRow : OpenClaim := { program := "ytkmldaelgbkfbaa", sum := "2e732104630dc465b9d2443052ae6a93561cc11d25c359ef577978d8098d4ba3", func := "licit/licitlaw25.WinnowGaps", spec := "winnowGaps", unfollowed := true, recurses := true, apart := false }
def WinnowGapsSaid : Prop := winnowGapsRow.holds Try.pinned (OpenSpec.ofChange winnowGapsSpec)

/-- ITS FALSE NEIGHBOUR: 'it returns false'. Refute it at one input. -/
def winnowGapsWrong : ChangeSpec := { name := "winnowGaps", fn := fun _ => fun
  | [d1, d2] => { results := [.lit (.bool false)], args := [d1, d2] }
  | _ => none }
def WinnowGapsWrongFalsely : Prop := winnowGapsRow.holds Try.pinned (OpenSpec.ofChange winnowGapsWrong)

/-- 'licitlaw25.WinnowLocal': WHATEVER THE INPUT: true; the input reads as it did. -/
def winnowLocalSpec : ChangeSpec := { name := "winnowLocal", fn := fun _ => fun
  | [d1, d2, d3, d4, d5, d6] => { results := [.lit (.bool true)], args := [d1, d2, d3, d4, d5, d6] }
  | _ => none }
def winnowLocalRow : OpenClaim := { program := "ytkmldaelgbkfbaa", sum := "2e732104630dc465b9d2443052ae6a93561cc11d25c359ef577978d8098d4ba3", func := "licit/licitlaw25.WinnowLocal", spec := "winnowLocal", unfollowed := true, recurses := true, apart := false }
def WinnowLocalSaid : Prop := winnowLocalRow.holds Try.pinned (OpenSpec.ofChange winnowLocalSpec)

/-- ITS FALSE NEIGHBOUR: 'it returns false'. Refute it at one input. -/
def winnowLocalWrong : ChangeSpec := { name := "winnowLocal", fn := fun _ => fun
  | [d1, d2, d3, d4, d5, d6] => { results := [.lit (.bool false)], args := [d1, d2, d3, d4, d5, d6] }
  | _ => none }
def WinnowLocalWrongFalsely : Prop := winnowLocalRow.holds Try.pinned (OpenSpec.ofChange winnowLocalWrong)

/- THE SECOND FORM. 'bulk': how many values and letters a reading holds, each counted each time it is reached (what is shared counts as often as it is met; a slice's spare places count too). A statement '..UptoSaid' is the law's where the arguments, and the package variables that the reading takes, are together of bulk at most 1048576: NARROWER than '..Said'. Prove '..Said' where nothing that the law and all that it calls make is longer than what came in: it says more and counts as full. Else prove '..UptoSaid'. A law counts once. -/
mutual
def uptoBulk {H : Type} : DataW H → Nat
  | .lit (.string bytes) => bytes.length + 1
  | .lit _ => 1
  | .nil => 1
  | .ptr d => uptoBulk d + 1
  | .slice elems spare => uptoBulkAll elems + uptoBulkAll spare + 1
  | .agg parts => uptoBulkAll parts + 1
  | .iface _ d => uptoBulk d + 1
  | .map entries => uptoBulkEntries entries + 1
  | .held _ => 1
def uptoBulkAll {H : Type} : List (DataW H) → Nat
  | [] => 0
  | d :: r => uptoBulk d + uptoBulkAll r
def uptoBulkEntries {H : Type} : List (Lit × DataW H) → Nat
  | [] => 0
  | x :: r => uptoBulkEntry x + uptoBulkEntries r
def uptoBulkEntry {H : Type} : Lit × DataW H → Nat
  | (.string bytes, d) => bytes.length + uptoBulk d + 1
  | (_, d) => uptoBulk d + 1
 end
def uptoSmall : (H : Type) → List (DataW H) → Bool := fun _ ds => decide (uptoBulkAll ds ≤ 1048576)
def OpenSpec.upto (s : _root_.Go.ChangeSpec) : _root_.Go.OpenSpec := { _root_.Go.OpenSpec.ofChange s with cond := some uptoSmall }

/-- 'licitlaw25.WinnowSelects', WHERE WHAT IT READS IS OF BULK AT MOST 1048576: true; the input reads as it did. -/
def winnowSelectsUptoRow : OpenClaim := { program := "ytkmldaelgbkfbaa", sum := "2e732104630dc465b9d2443052ae6a93561cc11d25c359ef577978d8098d4ba3", func := "licit/licitlaw25.WinnowSelects", spec := "winnowSelects", unfollowed := true, recurses := true, apart := false, narrowed := true }
def WinnowSelectsUptoSaid : Prop := winnowSelectsUptoRow.holds Try.pinned (OpenSpec.upto winnowSelectsSpec)

/-- 'licitlaw25.WinnowShares', WHERE WHAT IT READS IS OF BULK AT MOST 1048576: true; the input reads as it did. -/
def winnowSharesUptoRow : OpenClaim := { program := "ytkmldaelgbkfbaa", sum := "2e732104630dc465b9d2443052ae6a93561cc11d25c359ef577978d8098d4ba3", func := "licit/licitlaw25.WinnowShares", spec := "winnowShares", unfollowed := true, recurses := true, apart := false, narrowed := true }
def WinnowSharesUptoSaid : Prop := winnowSharesUptoRow.holds Try.pinned (OpenSpec.upto winnowSharesSpec)

/-- 'licitlaw25.WinnowWindows', WHERE WHAT IT READS IS OF BULK AT MOST 1048576: true; the input reads as it did. -/
def winnowWindowsUptoRow : OpenClaim := { program := "ytkmldaelgbkfbaa", sum := "2e732104630dc465b9d2443052ae6a93561cc11d25c359ef577978d8098d4ba3", func := "licit/licitlaw25.WinnowWindows", spec := "winnowWindows", unfollowed := true, recurses := true, apart := false, narrowed := true }
def WinnowWindowsUptoSaid : Prop := winnowWindowsUptoRow.holds Try.pinned (OpenSpec.upto winnowWindowsSpec)

/-- 'licitlaw25.WinnowGaps', WHERE WHAT IT READS IS OF BULK AT MOST 1048576: true; the input reads as it did. -/
def winnowGapsUptoRow : OpenClaim := { program := "ytkmldaelgbkfbaa", sum := "2e732104630dc465b9d2443052ae6a93561cc11d25c359ef577978d8098d4ba3", func := "licit/licitlaw25.WinnowGaps", spec := "winnowGaps", unfollowed := true, recurses := true, apart := false, narrowed := true }
def WinnowGapsUptoSaid : Prop := winnowGapsUptoRow.holds Try.pinned (OpenSpec.upto winnowGapsSpec)

/-- 'licitlaw25.WinnowLocal', WHERE WHAT IT READS IS OF BULK AT MOST 1048576: true; the input reads as it did. -/
def winnowLocalUptoRow : OpenClaim := { program := "ytkmldaelgbkfbaa", sum := "2e732104630dc465b9d2443052ae6a93561cc11d25c359ef577978d8098d4ba3", func := "licit/licitlaw25.WinnowLocal", spec := "winnowLocal", unfollowed := true, recurses := true, apart := false, narrowed := true }
def WinnowLocalUptoSaid : Prop := winnowLocalUptoRow.holds Try.pinned (OpenSpec.upto winnowLocalSpec)

end Rows
end Go.Proofs.Ytkmldaelgbkfbaa
