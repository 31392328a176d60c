/- The levels of operations, and whether one is unary. No condition. -/
import Derived.Test.YtndehkoglgakpaaGreatDoorPrn
import Derived.Test.YtndehkoglgakpaaGreatDoorPar
namespace Go.Proofs.YtndehkoglgakpaaGreatDoor
open Go.RowKit

set_option maxHeartbeats 4000000 in
set_option maxRecDepth 100000 in
theorem levelOf_any (s : ByteArray) (w : World) : Calls Tryz.prog 48 #[.string s] w fun e w' => e = .returned (.int .i64 (Ex.levL s.toList : Nat)) ∧ w = w' := by
  go_enter Tryz.func48, Tryz.ntmps48
  go_wp2_with fail
  all_goals
    go_ret
    exact ⟨by first | (simp only [Ex.levL, *]; rfl) | (simp only [Ex.levL, *]; simp [*]; done) | (exfalso; simp_all; done), rfl⟩
set_option maxHeartbeats 2000000 in
set_option maxRecDepth 100000 in
theorem isUnary_any (s : ByteArray) (w : World) : Calls Tryz.prog 51 #[.string s] w fun e w' => e = .returned (.bool (Ex.unL s.toList)) ∧ w = w' := by
  go_enter Tryz.func51, Tryz.ntmps51
  go_wp2_with fail
  all_goals
    go_ret
    exact ⟨by simp only [Ex.unL, *]; first | rfl | (simp [*]; done), rfl⟩
end Go.Proofs.YtndehkoglgakpaaGreatDoor
