/- Shared of the reference. No condition but the lengths. -/
import Derived.Test.YtkmldaelgbkfbaaDoorOrd
import Derived.Test.YtkmldaelgbkfbaaDoorQsl
namespace Go.Proofs.YtkmldaelgbkfbaaDoor
open Go.RowKit Go.Deep
namespace Wn
theorem infoPr : (Tryd.prog.info? 44).map (fun i => (i.zero, i.size, i.bytes)) = some (some (.agg #[.int .i64 0, .int .i64 0]), 2, 16) := by kernel_rfl
theorem prs_bound (a b : List Fp) : (prs a b).length ≤ a.length * b.length := by
  unfold prs
  induction a with
  | nil => simp
  | cons x t ih =>
    rw [List.flatMap_cons, List.length_append, pr1_len, List.length_cons, Nat.add_one_mul]
    have := plc_len b x.hash
    omega
theorem prs_bound2 {a b : List Fp} (i : Nat) (h1 : a.length ≤ 60) (h2 : b.length ≤ 60) : (prs (a.take i) b).length ≤ 3600 := by
  have h := prs_bound (a.take i) b
  have h3 : (a.take i).length ≤ 60 := by rw [List.length_take]; omega
  have := Nat.mul_le_mul h3 h2
  omega
/-- What the inner loop has. -/
def half (a b : List Fp) (i k : Nat) (x : Fp) : List Fp := prs (a.take i) b ++ pr1 x (plc (b.take k) x.hash)
theorem half_zero (a b : List Fp) (i : Nat) (x : Fp) : half a b i 0 x = prs (a.take i) b := by unfold half; rw [List.take_zero]; simp [plc, pr1]
theorem half_full (a b : List Fp) (i : Nat) (h : i < a.length) (k : Nat) (hk : b.length ≤ k) : half a b i k a[i] = prs (a.take (i + 1)) b := by
  unfold half; rw [List.take_of_length_le hk, prs_snoc a b i h]
theorem half_step (a b : List Fp) (i k : Nat) (x : Fp) (h : k < b.length) : half a b i (k + 1) x = if x.hash = b[k].hash then half a b i k x ++ [⟨x.pos, b[k].pos⟩] else half a b i k x := by
  unfold half
  rw [plc_snoc b k h]
  by_cases e : x.hash = b[k].hash
  · rw [if_pos e, if_pos e]; unfold pr1; rw [List.map_append, ← List.append_assoc]; rfl
  · rw [if_neg e, if_neg e]
theorem half_len {a b : List Fp} (i k : Nat) (x : Fp) (h1 : a.length ≤ 60) (h2 : b.length ≤ 60) : (half a b i k x).length ≤ 3660 := by
  unfold half
  rw [List.length_append, pr1_len]
  have := prs_bound2 (a := a) (b := b) i h1 h2
  have h3 := plc_len (b.take k) x.hash
  rw [List.length_take] at h3
  omega
end Wn
end Go.Proofs.YtkmldaelgbkfbaaDoor
