/- slices.Sort of numbers that a call has built. No condition but the length. -/
import Derived.Test.YtjemffgidhgfjaaGreatDoorMz3
import Derived.Test.YtjemffgidhgfjaaGreatDoorShelf
import Derived.Sort.OwnSortedInts
namespace Go.Proofs.YtjemffgidhgfjaaGreatDoor
open Go.RowKit Go.Deep Go.Sort

theorem sortIn_any (B : Nat) (l : List Int) (v : Value) (w : World) (h : w.ownsRow B 3 1 v l.length (Gr.insV l)) (hl : l.length ≤ 1000000) :
    Calls Tryz.prog 18 #[v] w fun e w' => e = .returned (.tuple #[]) ∧ ∃ d : List Int, d.Perm l ∧ d.Pairwise (· ≤ ·) ∧ w'.ownsRow B 3 1 v d.length (Gr.insV d) ∧ w.grownBy w' v.ownBlock := by
  have hp : (l.mergeSort fun x y => decide (x ≤ y)).Perm l := List.mergeSort_perm ..
  have hs : (l.mergeSort fun x y => decide (x ≤ y)).Pairwise (· ≤ ·) := (List.pairwise_mergeSort (le := fun x y => decide (x ≤ y)) (fun a b c h1 h2 => by simp only [decide_eq_true_eq] at *; omega) (fun a b => by simp only [Bool.or_eq_true, decide_eq_true_eq]; omega) l).imp fun h => by simpa using h
  rcases h.2 with ⟨rfl, h0⟩ | ⟨g, cap, cur, rfl, hB, hb, h1, h2, h3, h4⟩
  · have e : l = [] := List.eq_nil_of_length_eq_zero h0
    subst e
    exact (Tryz.slices_Sort_int_none none 0 w).mono fun e w' hw => ⟨hw.1, [], List.Perm.refl _, List.Pairwise.nil, by rw [hw.2]; exact World.ownsRow_nil _ _ _ _, by rw [hw.2]; exact World.grownBy.refl _ _⟩
  · have hH : Holds (Value.int .i64) w g 0 l.toArray := holds_of_blockI hb (by rw [Nat.mul_one, Gr.insV_map] at h4; exact h4)
    refine (Tryz.slices_Sort_int g 0 cap l w hH (Array.getElem?_eq_some_iff.1 hb).1 (by omega)).mono ?_
    rintro e w' ⟨rfl, n, os, rfl⟩
    refine ⟨rfl, _, hp, hs, ?_, grownBy_sortedI _⟩
    rw [Gr.insV_map, hp.length_eq]
    exact ownsRow_sortedI hp.length_eq hB hb h1 h2 h3
end Go.Proofs.YtjemffgidhgfjaaGreatDoor
