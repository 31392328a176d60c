/- Arrays of two numbers compared. No condition. -/
import Derived.Test.YtkmldaelgbkfbaaDoorWel
import Derived.ChangeKeysEq
import Derived.DeepKeys
namespace Go.Proofs.YtkmldaelgbkfbaaDoor
open Go.RowKit Go.Deep
namespace Wn
theorem eq_int (d : Nat) (a : Int) (w : World) : (Op.equalIn (d + 1) 3 (.int .i64 a) (.int .i64 a)).run Tryd.prog w = .ok true w := by
  simp [Op.equalIn, go_sem, run_underlying Tryd.underlying3]
theorem arr_ne (a b : Int) (w : World) : (binOp .neq 44 (.agg #[.int .i64 a, .int .i64 b]) (.agg #[.int .i64 a, .int .i64 b])).run Tryd.prog w = .ok (.bool false) w := by
  obtain ⟨i, hi, hz, hs, hb⟩ := info_parts infoIn
  have hc : Tryd.prog.cellsOf 3 = 1 := by kernel_rfl
  have h := run_equalIn_array (P := Tryd.prog) (w := w) 9999 #[.int .i64 a, .int .i64 b] #[.int .i64 a, .int .i64 b] Tryd.underlying44 hi
  rw [hc] at h
  simp only [binOp]
  simp [Op.equal, Op.maxDepth, h, Op.eqItems, eq_int, List.range_succ, part, go_sem]
end Wn
end Go.Proofs.YtkmldaelgbkfbaaDoor
