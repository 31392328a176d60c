/- The levels of operations, and whether one is unary. No condition. -/
import Derived.Test.YtkkkiacbikbalaaDoorPrn
import Derived.Test.YtkkkiacbikbalaaDoorPar
namespace Go.Proofs.YtkkkiacbikbalaaDoor
open Go.RowKit

set_option maxHeartbeats 4000000 in
set_option maxRecDepth 100000 in
theorem levelOf_any (s : ByteArray) (w : World) : Calls Tryd.prog 42 #[.string s] w fun e w' => e = .returned (.int .i64 (Ex.levL s.toList : Nat)) ∧ w = w' := by
  go_enter Tryd.func42, Tryd.ntmps42
  go_wp2_with fail
  all_goals
    go_ret
    exact ⟨by first | (simp only [Ex.levL, *]; rfl) | (simp only [Ex.levL, *]; simp [*]; done) | (exfalso; simp_all; done), rfl⟩
set_option maxHeartbeats 2000000 in
set_option maxRecDepth 100000 in
theorem isUnary_any (s : ByteArray) (w : World) : Calls Tryd.prog 41 #[.string s] w fun e w' => e = .returned (.bool (Ex.unL s.toList)) ∧ w = w' := by
  go_enter Tryd.func41, Tryd.ntmps41
  go_wp2_with fail
  all_goals
    go_ret
    exact ⟨by simp only [Ex.unL, *]; first | rfl | (simp [*]; done), rfl⟩
end Go.Proofs.YtkkkiacbikbalaaDoor
