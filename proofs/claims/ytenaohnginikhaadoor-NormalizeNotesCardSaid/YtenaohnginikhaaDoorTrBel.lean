/- Whether a path is below another one, on both sides. No condition but the strings' lengths. -/
import Derived.Test.YtenaohnginikhaaDoorTrPat
namespace Go.Proofs.YtenaohnginikhaaDoor.Tr
open Go.RowKit

theorem below_pre (p d : List UInt8) : Tre.below p d = (Lib.hasPrefix p d && Lib.hasPrefix (p.drop d.length) [47]) := by
  unfold Tre.below Lib.hasPrefix
  by_cases hd : d <+: p
  · obtain ⟨r, rfl⟩ := hd
    cases r with
    | nil => simp
    | cons a r =>
      have h3 : d.isPrefixOf (d ++ a :: r) = true := by rw [List.isPrefixOf_iff_prefix]; exact ⟨_, rfl⟩
      rw [h3, Bool.eq_iff_iff]
      simp [List.isPrefixOf]
      exact eq_comm
  · have h1 : d.isPrefixOf p = false := by
      rw [Bool.eq_false_iff, ne_eq, List.isPrefixOf_iff_prefix]; exact hd
    have h2 : (p.take d.length == d) = false := by
      rw [beq_eq_false_iff_ne]
      intro e
      exact hd (List.prefix_iff_eq_take.2 e.symm)
    rw [h1, h2]; simp
theorem below_drop (p d : List UInt8) (h : Tre.below p d = true) : d.length < p.length ∧ p.take d.length = d ∧ p[d.length]? = some 47 := by
  unfold Tre.below at h
  simp only [Bool.and_eq_true, decide_eq_true_iff, beq_iff_eq] at h
  exact ⟨h.1.1, h.1.2, h.2⟩
theorem trim_hit (p d : List UInt8) (h : Lib.hasPrefix p d = true) : Lib.trimPrefix p d = p.drop d.length := if_pos h
/-- What inside returns. -/
def insideV (p d : List UInt8) : Value := .tuple #[.string (if Tre.below p d = true then str (p.drop (d.length + 1)) else ⟨#[]⟩), .bool (Tre.below p d)]
theorem below_def (p d : List UInt8) : Tre.below p d = (decide (d.length < p.length) && (p.take d.length == d) && (p[d.length]? == some 47)) := rfl
end Go.Proofs.YtenaohnginikhaaDoor.Tr
