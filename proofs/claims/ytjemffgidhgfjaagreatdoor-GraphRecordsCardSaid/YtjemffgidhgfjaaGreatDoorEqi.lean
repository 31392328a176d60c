/- slices.Index, slices.Contains, slices.Equal at numbers. No condition but the lengths. -/
import Derived.Test.YtjemffgidhgfjaaGreatDoorKah
namespace Go.Proofs.YtjemffgidhgfjaaGreatDoor
open Go.RowKit Go.Deep Tr

theorem in_zs {w : World} {B g o : Nat} {l : List Int} (h : Gr.InAt w B (some ⟨g, o, none⟩) l) : ∀ j, j < l.length → w.cell? ⟨g, o + j, none⟩ = some (.int .i64 (l.getD j 0)) := fun j hj => by
  obtain ⟨g', o', e, _, hc⟩ := in_cell h hj
  simp only [Option.some.injEq, Addr.mk.injEq, and_true] at e
  obtain ⟨rfl, rfl⟩ := e
  rw [hc, List.getD_eq_getElem?_getD, List.getElem?_eq_getElem hj]; rfl
theorem equalIn_any (a b : List Int) (A B : Option Addr) (c d : Nat) (w : World) (hA : Gr.InAt w w.heap.size A a) (hB : Gr.InAt w w.heap.size B b) (ha : a.length ≤ 100000) (hb : b.length ≤ 100000) :
    Calls Tryz.prog 19 #[.slice A a.length c, .slice B b.length d] w fun e w' => e = .returned (.bool (decide (a = b))) ∧ Below w.heap.size w w' := by
  by_cases h0 : a.length = 0
  · have := List.length_eq_zero_iff.1 h0
    subst this
    refine (Tryz.slices_Equal_int_empty A B c b.length d w (by omega)).mono fun e w' h => ⟨?_, by rw [h.2]; exact Below.refl _ _⟩
    rw [h.1]
    congr 2
    exact decide_eq_decide.2 ⟨fun h => (List.length_eq_zero_iff.1 h).symm, fun h => by rw [← h]; rfl⟩
  · by_cases h1 : b.length = 0
    · refine (Tryz.slices_Equal_int_lens A B a.length c b.length d w (by omega)).mono fun e w' h => ⟨?_, by rw [h.2]; exact Below.refl _ _⟩
      rw [h.1, decide_eq_false (fun e => by rw [e] at h0; exact h0 h1)]
    · obtain ⟨g, o, rfl, _, _⟩ := hA.row (by omega)
      obtain ⟨g', o', rfl, _, _⟩ := hB.row (by omega)
      refine (Tryz.slices_Equal_int g o a.length c g' o' b.length d a b w (by omega) (by omega) (by omega) (by omega) (in_zs hA) (in_zs hB)).mono fun e w' h => ⟨?_, ?_⟩
      · rw [h.1, List.take_length, List.take_length]
        congr 2
        rw [Bool.eq_iff_iff, beq_iff_eq, decide_eq_true_eq]
      · obtain ⟨q, h⟩ := h.2
        rw [h]
        exact ⟨rfl, rfl, rfl, Nat.le_refl _, fun _ _ => rfl⟩
theorem containsIn_any (l : List Int) (x : Int) (A : Option Addr) (c : Nat) (w : World) (hA : Gr.InAt w w.heap.size A l) (hl : l.length ≤ 100000) :
    Calls Tryz.prog 21 #[.slice A l.length c, .int .i64 x] w fun e w' => e = .returned (.bool (decide (x ∈ l))) ∧ w' = w := by
  have hd : l.contains x = decide (x ∈ l) := by rw [Bool.eq_iff_iff, List.contains_iff_mem, decide_eq_true_eq]
  rw [← hd]
  by_cases h0 : l.length = 0
  · have := List.length_eq_zero_iff.1 h0
    subst this
    exact Tryz.slices_Contains_int_empty A c x w
  · obtain ⟨g, o, rfl, _, _⟩ := hA.row (by omega)
    have := Tryz.slices_Contains_int g o l.length c l x w (by omega) (by omega) (in_zs hA)
    rwa [List.take_length] at this
theorem row_zs {w : World} {g n : Nat} {W : Nat → Int} (h : w.rowIs g 3 n (fun i => .int .i64 (W i))) : ∀ j, j < ((List.range n).map W).length → w.cell? ⟨g, 0 + j, none⟩ = some (.int .i64 (((List.range n).map W).getD j 0)) := fun j hj => by
  have hj' : j < n := by simpa using hj
  rw [Nat.zero_add, h.cell hj', List.getD_eq_getElem?_getD, List.getElem?_map, List.getElem?_range hj']; rfl
theorem getD_range {W : Nat → Int} {n j : Nat} (hj : j < n) : ((List.range n).map W).getD j 0 = W j := by
  rw [List.getD_eq_getElem?_getD, List.getElem?_map, List.getElem?_range hj]; rfl
/-- The index of the first 0. -/
theorem indexHit_any (n gw k : Nat) (W : Nat → Int) (w : World) (h : w.rowIs gw 3 n (fun i => .int .i64 (W i))) (hn : n ≤ 100000) (hk : k < n) (h0 : W k = 0) (hno : ∀ j, j < k → W j ≠ 0) :
    Calls Tryz.prog 52 #[.slice (some ⟨gw, 0, none⟩) n n, .int .i64 0] w fun e w' => e = .returned (.int .i64 (k : Int)) ∧ w' = w := by
  have := Tryz.slices_Index_int gw 0 n n ((List.range n).map W) 0 w (by simp) (by omega) (row_zs h)
  rwa [Lib.idxOf_hit _ n k 0 hk (by simp) (by rw [getD_range hk]; exact h0) (fun j hj => by rw [getD_range (by omega)]; exact hno j hj)] at this
theorem indexMiss_any (n gw : Nat) (W : Nat → Int) (w : World) (h : w.rowIs gw 3 n (fun i => .int .i64 (W i))) (hn : n ≤ 100000) (hno : ∀ j, j < n → W j ≠ 0) :
    Calls Tryz.prog 52 #[.slice (some ⟨gw, 0, none⟩) n n, .int .i64 0] w fun e w' => e = .returned (.int .i64 (-1)) ∧ w' = w := by
  have := Tryz.slices_Index_int gw 0 n n ((List.range n).map W) 0 w (by simp) (by omega) (row_zs h)
  rwa [Lib.idxOf_miss _ n 0 (fun j hj => by rw [getD_range hj]; exact hno j hj)] at this
end Go.Proofs.YtjemffgidhgfjaaGreatDoor
