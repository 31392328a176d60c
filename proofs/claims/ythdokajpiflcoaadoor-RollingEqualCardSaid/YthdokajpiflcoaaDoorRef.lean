/- The reference's numbers: sums, products, powers, codes. No condition but the words' lengths. -/
import Derived.Test.YthdokajpiflcoaaDoorLx

namespace Go.Proofs.YthdokajpiflcoaaDoor
open Go.RowKit Go.Deep
namespace Rl
/-- What Mul returns. -/
def mulI (a b : Int) : Nat := if isR a = true ∧ isR b = true then a.toNat * b.toNat % P else 0
set_option maxHeartbeats 4000000 in
set_option maxRecDepth 100000 in
theorem mul_all (a b : Int) (w : World) :
    Calls Tryd.prog 12 #[.int .i64 a, .int .i64 b] w fun e w' => e = .returned (.int .i64 (mulI a b : Int)) ∧ w = w' := by
  have c1 := res_any a w
  have c2 := res_any b w
  by_cases h : isR a = true ∧ isR b = true
  · obtain ⟨h1, h2⟩ := id h
    have HV := Lib.hid (show mulI a b = a.toNat * b.toNat % P from if_pos h)
    generalize mulI a b = v at *
    obtain ⟨x, rfl, hx⟩ := isR_of h1
    obtain ⟨y, rfl, hy⟩ := isR_of h2
    have c3 := mul_any x y hx hy w
    rw [show x * y % P = v from HV.out.symm] at c3
    exact c3
  · have HV := Lib.hid (show mulI a b = 0 from if_neg h)
    rw [HV.out]
    clear HV
    generalize isR a = p at *
    generalize isR b = q at *
    cases p <;> cases q
    case true.true => exact absurd ⟨rfl, rfl⟩ h
    all_goals
      clear h
      go_enter Tryd.func12, Tryd.ntmps12
      go_wp2_with (first
        | (go_at_call 15; (with_reducible refine c1.mono ?_); rintro e w' ⟨rfl, rfl⟩)
        | (go_at_call 15; (with_reducible refine c2.mono ?_); rintro e w' ⟨rfl, rfl⟩))
      go_ret
      exact ⟨rfl, rfl⟩
end Rl
end Go.Proofs.YthdokajpiflcoaaDoor
