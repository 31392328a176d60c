/- slices.IsSorted at numbers that ascend. No condition but the length. -/
import Derived.Test.YtkmldaelgbkfbaaWel
import Derived.BigQuiet
namespace Go.Proofs.Ytkmldaelgbkfbaa
open Go.RowKit Go.Deep
namespace Wn

set_option maxHeartbeats 8000000 in
set_option maxRecDepth 100000 in
theorem sorted_any (l : List Int) (A : Option Addr) (c : Nat) (w : World) (hA : Gr.InAt w w.heap.size A l) (hl : l.length ≤ 100000) (hs : ∀ i (h : i + 1 < l.length), l[i] ≤ l[i + 1]) :
    Calls Try.prog 17 #[.slice A l.length c] w fun e w' => e = .returned (.bool true) ∧ Below w.heap.size w w' := by
  have hw0 : IntKind.i64.wrap ((l.length : Int) - 1) = (l.length : Int) - 1 := IntWalk.i64_in _ (by omega)
  have HA := Lib.hid hA
  have HS := Lib.hid hs
  clear hA hs
  go_enter Try.func17, Try.ntmps17
  go_wp2_with fail
  clear hw0
  go_loopw [3] (fun s3 wr => ∃ k : Int, s3 = .int .i64 k ∧ k < (l.length : Int) ∧ Below w.heap.size w wr) (fun s3 _ => (intOf s3).toNat)
  case atStart => exact ⟨_, rfl, by omega, Below.refl _ _⟩
  case round =>
    obtain ⟨k, rfl, hk, hb⟩ := hrel
    by_cases h0 : 0 < k
    · have b1 : decide (0 < k) = true := decide_eq_true h0
      obtain ⟨j, rfl⟩ : ∃ j : Nat, k = ((j + 1 : Nat) : Int) := ⟨k.toNat - 1, by omega⟩
      have hj : j + 1 < l.length := by omega
      have hle := HS.out j hj
      obtain ⟨g, o, rfl, hg, hc⟩ := HA.out.row (by omega)
      have e1 : wr.cell? ⟨g, o + (j + 1), none⟩ = some (.int .i64 l[j + 1]) := by
        have h := hc (j + 1) hj 0 _ rfl
        rw [Nat.mul_one] at h
        exact (hb.cell (p := ⟨g, o + (j + 1), none⟩) hg).trans h
      have e0 : wr.cell? ⟨g, o + j, none⟩ = some (.int .i64 l[j]) := by
        have h := hc j (by omega) 0 _ rfl
        rw [Nat.mul_one] at h
        exact (hb.cell (p := ⟨g, o + j, none⟩) hg).trans h
      have d1 : decide (l[j + 1] < l[j]) = false := decide_eq_false (by omega)
      have x1 : IntKind.i64.wrap (((j + 1 : Nat) : Int) - 1) = (j : Int) := by rw [show ((j + 1 : Nat) : Int) - 1 = (j : Int) by omega]; exact IntWalk.i64_in _ (by omega)
      have y1 : ((j + 1 : Nat) : Int) < (l.length : Int) := by omega
      have y2 : (j : Int) < (l.length : Int) := by omega
      have hbb := hb
      generalize l[j + 1] = z1 at *
      generalize l[j] = z0 at *
      clear hle hc hb h0
      go_upto_region 4 with (fail)
      go_quiet ((go_at_call 29; exact Calls.quiet_of_same (Try.cmp_Less_int2 _ _ _)))
      have HB := Lib.hid (hbb.trans ((below_drewN wr nq).mono hbb.size))
      generalize wr.drewN nq = w1 at *
      clear hbb e0 e1
      rw [d1]
      clear d1
      go_wp2_with fail
      go_roundw
      case rel => exact ⟨(j : Int), rfl, by omega, HB.out⟩
      case measure => simp only [intOf]; omega
    · have b1 : decide (0 < k) = false := decide_eq_false h0
      have HB := Lib.hid hb
      clear hb
      go_wp2_with fail
      go_ret
      exact ⟨rfl, HB.out⟩
end Wn
end Go.Proofs.Ytkmldaelgbkfbaa
