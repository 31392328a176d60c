/- The law ExprOperates returns true. Condition: the library's error of ranges lies in its variable. -/
import Derived.Test.YtcilicgcflligaaDoorAwk
import Derived.Test.YtcilicgcflligaaDoorRfo
namespace Go.Proofs.YtcilicgcflligaaDoor
open Go.RowKit

theorem wf_lt {n : Int} (h : (Lit.int .u32 n).wf = true) : 0 ≤ n ∧ n < 4294967296 := by
  simp [Lit.wf] at h
  have q1 : IntKind.u32.min = 0 := by rfl
  have q2 : IntKind.u32.max = 4294967295 := by rfl
  omega
set_option maxHeartbeats 4000000 in
set_option maxRecDepth 100000 in
theorem operates_law (s : ByteArray) (x y : Int) (w : World) (hE : Errs w) (hx : 0 ≤ x ∧ x < 4294967296) (hy : 0 ≤ y ∧ y < 4294967296) :
    Calls Tryd.prog 3 #[.string s, .int .u32 x, .int .u32 y] w fun e w' => e = .returned (.bool true) ∧ Below w.heap.size w w' := by
  have h1 := fun w => unary_any s x w
  have h2 := fun w => qUnary_any s x hx.1 hx.2 w
  have h3 := fun w => binary_any2 s x y hy.1 w
  have h4 := fun w => qBinary_any s x y hx.1 hx.2 hy.1 hy.2 w
  unfold wordV at h1 h2 h3 h4
  generalize unR s.toList x = U at *
  generalize biR s.toList x y = B at *
  obtain ⟨u, u2⟩ := U
  obtain ⟨b, b2⟩ := B
  simp only at h1 h2 h3 h4
  by_cases hs : 20 < s.size
  · have q1 : decide ((20 : Int) < s.size) = true := by simp; omega
    go_enter Tryd.func3, Tryd.ntmps3
    go_wp2_with fail
    refine (awake_any w hE).mono ?_
    rintro e w1 ⟨rfl, hb⟩
    go_wp2_with fail
    go_ret
    exact ⟨rfl, hb⟩
  · have q1 : decide ((20 : Int) < s.size) = false := by simp; omega
    go_enter Tryd.func3, Tryd.ntmps3
    go_wp2_with fail
    refine (awake_any w hE).mono ?_
    rintro e w1 ⟨rfl, hb⟩
    go_wp2_with (first | (go_at_call 8; (with_reducible refine (h1 _).mono ?_); rintro e w' ⟨rfl, rfl⟩) | (go_at_call 9; (with_reducible refine (h2 _).mono ?_); rintro e w' ⟨rfl, rfl⟩) | (go_at_call 10; (with_reducible refine (h3 _).mono ?_); rintro e w' ⟨rfl, rfl⟩) | (go_at_call 11; (with_reducible refine (h4 _).mono ?_); rintro e w' ⟨rfl, rfl⟩))
    go_ret
    exact ⟨by simp, hb⟩
end Go.Proofs.YtcilicgcflligaaDoor
