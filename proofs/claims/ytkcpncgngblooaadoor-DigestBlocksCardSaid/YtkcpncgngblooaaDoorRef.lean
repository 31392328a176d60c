/- The reference's permutation. No condition. -/
import Derived.Test.YtkcpncgngblooaaDoorPerm
namespace Go.Proofs.YtkcpncgngblooaaDoor
open Go.RowKit

set_option maxHeartbeats 1000000 in
set_option maxRecDepth 100000 in
theorem constant_any (k : Nat) (hk : k < 24) (w : World) :
    Calls Tryd.prog 28 #[.int .i64 k] w fun e w' => e = .returned (.int .u64 (U (Kec.const k))) ∧ Below w.heap.size w w' := by
  go_enter Tryd.func28, Tryd.ntmps28
  go_wp2_with fail
  go_ret
  refine ⟨congrArg Ending.returned ?_, (Below.refl _ _).alloc (Nat.le_refl _) _⟩
  have hc : k = 0 ∨ k = 1 ∨ k = 2 ∨ k = 3 ∨ k = 4 ∨ k = 5 ∨ k = 6 ∨ k = 7 ∨ k = 8 ∨ k = 9 ∨ k = 10 ∨ k = 11 ∨ k = 12 ∨ k = 13 ∨ k = 14 ∨ k = 15 ∨ k = 16 ∨ k = 17 ∨ k = 18 ∨ k = 19 ∨ k = 20 ∨ k = 21 ∨ k = 22 ∨ k = 23 := by omega
  rcases hc with rfl | rfl | rfl | rfl | rfl | rfl | rfl | rfl | rfl | rfl | rfl | rfl | rfl | rfl | rfl | rfl | rfl | rfl | rfl | rfl | rfl | rfl | rfl | rfl <;> (show (_ : Value) = _; kernel_rfl)

theorem offs_lt : ∀ k, k < 25 → Kec.offs.getD k 0 < 64 := by decide
set_option maxHeartbeats 1000000 in
set_option maxRecDepth 100000 in
theorem offset_any (x y : Nat) (hx : x < 5) (hy : y < 5) (w : World) :
    Calls Tryd.prog 34 #[.int .i64 x, .int .i64 y] w fun e w' => e = .returned (.int .i64 ((Kec.offs.getD (x + 5 * y) 0 : Nat) : Int)) ∧ Below w.heap.size w w' := by
  have hl : [Value.int .i64 0, Value.int .i64 1, Value.int .i64 62, Value.int .i64 28, Value.int .i64 27, Value.int .i64 36, Value.int .i64 44, Value.int .i64 6, Value.int .i64 55, Value.int .i64 20, Value.int .i64 3, Value.int .i64 10, Value.int .i64 43, Value.int .i64 25, Value.int .i64 39, Value.int .i64 41, Value.int .i64 45, Value.int .i64 15, Value.int .i64 21, Value.int .i64 8, Value.int .i64 18, Value.int .i64 2, Value.int .i64 61, Value.int .i64 56, Value.int .i64 14][x + 5 * y]? = some (Value.int .i64 ((Kec.offs.getD (x + 5 * y) 0 : Nat) : Int)) := by
    have hl : x + 5 * y < 25 := by omega
    generalize x + 5 * y = k at *
    have hc : k = 0 ∨ k = 1 ∨ k = 2 ∨ k = 3 ∨ k = 4 ∨ k = 5 ∨ k = 6 ∨ k = 7 ∨ k = 8 ∨ k = 9 ∨ k = 10 ∨ k = 11 ∨ k = 12 ∨ k = 13 ∨ k = 14 ∨ k = 15 ∨ k = 16 ∨ k = 17 ∨ k = 18 ∨ k = 19 ∨ k = 20 ∨ k = 21 ∨ k = 22 ∨ k = 23 ∨ k = 24 := by omega
    rcases hc with rfl | rfl | rfl | rfl | rfl | rfl | rfl | rfl | rfl | rfl | rfl | rfl | rfl | rfl | rfl | rfl | rfl | rfl | rfl | rfl | rfl | rfl | rfl | rfl | rfl <;> rfl
  go_enter Tryd.func34, Tryd.ntmps34
  go_wp2_with fail
  go_ret
  exact ⟨rfl, (Below.refl _ _).alloc (Nat.le_refl _) _⟩
end Go.Proofs.YtkcpncgngblooaaDoor
