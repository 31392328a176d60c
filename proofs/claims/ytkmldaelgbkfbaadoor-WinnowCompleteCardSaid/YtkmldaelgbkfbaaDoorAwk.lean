/- The chapter's example; the law of Select and Least. No condition. -/
import Derived.Test.YtkmldaelgbkfbaaDoorSel
import Derived.Test.YtkmldaelgbkfbaaDoorQsl
namespace Go.Proofs.YtkmldaelgbkfbaaDoor
open Go.RowKit Go.Deep
namespace Wn
theorem ex_sel : selL [7, 3, 5, 3, 9] 3 = [1, 3] ∧ selE [7, 3, 5, 3, 9] 3 = 0 ∧ guaI 4 3 = 6 ∧ guaE 4 3 = 0 := by decide +kernel
theorem in_new {w : World} {vs : Array Value} {l : List Int} (hl : vs.toList = Gr.insV l) : Gr.InAt (w.alloc (.cells vs 3 (0, 0))) (w.alloc (.cells vs 3 (0, 0))).heap.size (some ⟨w.heap.size, 0, none⟩) l := fun j hj => by
  have hn := heap_alloc_new w (.cells vs 3 (0, 0))
  refine ⟨_, _, rfl, blk_lt hn, fun i u hu => ?_⟩
  have hi : i < 1 := by have := (List.getElem?_eq_some_iff.1 hu).1; rw [Gr.inV_len] at this; exact this
  obtain rfl : i = 0 := by omega
  rw [Nat.mul_one, Nat.add_zero, Nat.zero_add, cell_of_row _ _ _ _ _ _ hn, ← Array.getElem?_toList, hl, Gr.insV_map, List.getElem?_map, List.getElem?_eq_getElem hj]
  exact hu
set_option maxHeartbeats 8000000 in
set_option maxRecDepth 100000 in
theorem awake_any (w : World) : Calls Tryd.prog 5 #[] w fun e w' => e = .returned (.bool true) ∧ Below w.heap.size w w' := by
  obtain ⟨x1, x2, x3, x4⟩ := ex_sel
  have c1 := select_any [7, 3, 5, 3, 9] 3 (some ⟨w.heap.size, 0, none⟩) 5 (w.alloc (.cells #[.int .i64 7, .int .i64 3, .int .i64 5, .int .i64 3, .int .i64 9] 3 (0, 0))) (in_new rfl) (by decide) (by decide)
  have c2 := fun w' => gua_any 4 3 w'
  rw [x1, x2, show ([7, 3, 5, 3, 9] : List Int).length = 5 from rfl] at c1
  simp only [x3, x4] at c2
  have HB0 := Lib.hid (show Below w.heap.size w (w.alloc (.cells #[.int .i64 7, .int .i64 3, .int .i64 5, .int .i64 3, .int .i64 9] 3 (0, 0))) from (Below.refl _ _).alloc (Nat.le_refl _) _)
  clear x1 x2 x3 x4
  go_enter Tryd.func5, Tryd.ntmps5
  go_wp2_with fail
  (with_reducible refine c1.mono ?_); rintro e w1 ⟨A1, k1, rfl, -, -, hin1, hb1⟩
  rw [show ([1, 3] : List Int).length = 2 from rfl]
  have HB1 := Lib.hid (HB0.out.trans (hb1.mono HB0.out.size))
  have HI1 := Lib.hid hin1
  have c2 := c2 w1
  clear c1 hin1 hb1
  have c3 := equalIn_any [1, 3] [1, 3] A1 (some ⟨w1.heap.size, 0, none⟩) k1 2 (w1.alloc (.cells #[.int .i64 1, .int .i64 3] 3 (0, 0))) (HI1.out.next ((Below.refl _ _).alloc (Nat.le_refl _) _)) (in_new rfl) (by decide) (by decide)
  rw [decide_eq_true (rfl : ([1, 3] : List Int) = [1, 3])] at c3
  have HB2 := Lib.hid (show Below w.heap.size w (w1.alloc (.cells #[.int .i64 1, .int .i64 3] 3 (0, 0))) from HB1.out.alloc HB1.out.size _)
  simp only [List.length_cons, List.length_nil, Nat.zero_add, Nat.reduceAdd] at c3
  go_wp2_with (go_at_call 9; (with_reducible refine c2.mono ?_); rintro e w' ⟨rfl, rfl⟩)
  (with_reducible refine c3.mono ?_); rintro e w3 ⟨rfl, hb3⟩
  have HB3 := Lib.hid (HB2.out.trans (hb3.mono HB2.out.size))
  clear hb3 c3
  go_wp2_with fail
  go_ret
  exact ⟨rfl, HB3.out⟩
end Wn
end Go.Proofs.YtkmldaelgbkfbaaDoor
