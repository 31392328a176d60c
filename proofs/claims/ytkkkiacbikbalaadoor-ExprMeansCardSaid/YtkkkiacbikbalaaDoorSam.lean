/- Two equal lists of tokens are found equal; whether tokens are few; the Texts of tokens. No condition. -/
import Derived.Test.YtkkkiacbikbalaaDoorPrn
import Derived.WalkSmall
import Derived.BigQuiet
import Derived.Deep.QuietTactic
namespace Go.Proofs.YtkkkiacbikbalaaDoor
open Go.RowKit

/-- Whether tokens are few. -/
def fewB (ts : List Tok.Tk) : Bool := ts.all (fun t => decide (t.text.length ≤ 50)) && decide (ts.length ≤ 300)
/-- The Texts with a blank behind each. -/
def blankL (ts : List Tok.Tk) : List UInt8 := ts.flatMap fun t => t.text ++ [32]
theorem blankL_take (ts : List Tok.Tk) (k : Nat) (h : k < ts.length) : blankL (ts.take (k + 1)) = blankL (ts.take k) ++ (ts[k].text ++ [32]) := by
  unfold blankL
  rw [List.take_succ_eq_append_getElem h, List.flatMap_append]; simp
end Go.Proofs.YtkkkiacbikbalaaDoor
