/- Join and Roll. No condition but the words' lengths. -/
import Derived.Test.YtkmldaelgbkfbaaDoorPow
namespace Go.Proofs.YtkmldaelgbkfbaaDoor
open Go.RowKit
namespace Rl
/-- What Join returns. -/
def joinI (a b n : Int) : Nat := if isR a = true ∧ isR b = true ∧ 0 ≤ n ∧ n ≤ 8192 then (a.toNat * pw n.toNat % P + b.toNat) % P else 0
def joinE (a b n : Int) : Int := if isR a = true ∧ isR b = true ∧ 0 ≤ n ∧ n ≤ 8192 then 0 else 3
end Rl
end Go.Proofs.YtkmldaelgbkfbaaDoor
