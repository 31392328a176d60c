/- The law of gaps. No condition but the lengths. -/
import Derived.Test.YtkmldaelgbkfbaaDoorAwk
namespace Go.Proofs.YtkmldaelgbkfbaaDoor
open Go.RowKit Go.Deep
namespace Wn
theorem sel_first (l : List Int) (w : Nat) : ∀ m, (sel l w (m + 1))[0]? = some (lst l 0 w)
  | 0 => by
    have : sel l w 1 = [lst l 0 w] := by unfold sel sel; simp
    rw [this]; rfl
  | m + 1 => by
    have ih := sel_first l w m
    rw [sel_step]
    split
    · exact ih
    · rw [List.getElem?_append_left (sel_pos l w (m + 1) (by omega))]; exact ih
theorem wr_nat {n : Nat} (h : n ≤ 9223372036854775807) : IntKind.i64.wrap (n : Int) = (n : Int) := by rw [IntKind.wrap_i64]; omega
theorem wr64_nat {n : Nat} (h : n ≤ 9223372036854775807) : wrap64 (n : Int) = (n : Int) := by unfold wrap64; omega
theorem selL_ok (l : List Int) (K : Nat) (h1 : 1 ≤ K) (h2 : K ≤ 1024) (hl : l.length ≤ 8192) : selL l (K : Int) = ints (sel l K (l.length + 1 - K)) ∧ selE l (K : Int) = 0 :=
  ⟨by unfold selL; rw [if_pos ⟨sz_nat h1 h2, hl⟩, Int.toNat_natCast], by unfold selE; rw [if_pos (sz_nat h1 h2), if_neg (by omega)]⟩
/-- The numbers of a list where they lie, by place. -/
theorem ints_cell {w : World} {B g o : Nat} {S : List Nat} (h : Gr.InAt w B (some ⟨g, o, none⟩) (ints S)) {j : Nat} (hj : j < S.length) : w.cell? ⟨g, o + j, none⟩ = some (.int .i64 (S[j] : Int)) := by
  have := in_zs h j (by rw [ints_len]; exact hj)
  rwa [List.getD_eq_getElem?_getD, List.getElem?_eq_getElem (by rw [ints_len]; exact hj), ints_get _ _ hj] at this
end Wn
end Go.Proofs.YtkmldaelgbkfbaaDoor
