/- The chapter's example; the law of Select and Least. No condition. -/
import Derived.Test.YtkmldaelgbkfbaaSel
import Derived.Test.YtkmldaelgbkfbaaQsl
namespace Go.Proofs.Ytkmldaelgbkfbaa
open Go.RowKit Go.Deep
namespace Wn
theorem ex_sel : selL [7, 3, 5, 3, 9] 3 = [1, 3] ∧ selE [7, 3, 5, 3, 9] 3 = 0 ∧ guaI 4 3 = 6 ∧ guaE 4 3 = 0 := by decide +kernel
theorem in_new {w : World} {vs : Array Value} {l : List Int} (hl : vs.toList = Gr.insV l) : Gr.InAt (w.alloc (.cells vs 3 (0, 0))) (w.alloc (.cells vs 3 (0, 0))).heap.size (some ⟨w.heap.size, 0, none⟩) l := fun j hj => by
  have hn := heap_alloc_new w (.cells vs 3 (0, 0))
  refine ⟨_, _, rfl, blk_lt hn, fun i u hu => ?_⟩
  have hi : i < 1 := by have := (List.getElem?_eq_some_iff.1 hu).1; rw [Gr.inV_len] at this; exact this
  obtain rfl : i = 0 := by omega
  rw [Nat.mul_one, Nat.add_zero, Nat.zero_add, cell_of_row _ _ _ _ _ _ hn, ← Array.getElem?_toList, hl, Gr.insV_map, List.getElem?_map, List.getElem?_eq_getElem hj]
  exact hu
set_option maxHeartbeats 8000000 in
set_option maxRecDepth 100000 in
theorem awake_any (w : World) : Calls Try.prog 8 #[] w fun e w' => e = .returned (.bool true) ∧ Below w.heap.size w w' := by
  obtain ⟨x1, x2, x3, x4⟩ := ex_sel
  have c1 := select_any [7, 3, 5, 3, 9] 3 (some ⟨w.heap.size, 0, none⟩) 5 (w.alloc (.cells #[.int .i64 7, .int .i64 3, .int .i64 5, .int .i64 3, .int .i64 9] 3 (0, 0))) (in_new rfl) (by decide) (by decide)
  have c2 := fun w' => gua_any 4 3 w'
  rw [x1, x2, show ([7, 3, 5, 3, 9] : List Int).length = 5 from rfl] at c1
  simp only [x3, x4] at c2
  have HB0 := Lib.hid (show Below w.heap.size w (w.alloc (.cells #[.int .i64 7, .int .i64 3, .int .i64 5, .int .i64 3, .int .i64 9] 3 (0, 0))) from (Below.refl _ _).alloc (Nat.le_refl _) _)
  clear x1 x2 x3 x4
  go_enter Try.func8, Try.ntmps8
  go_wp2_with fail
  (with_reducible refine c1.mono ?_); rintro e w1 ⟨A1, k1, rfl, -, -, hin1, hb1⟩
  rw [show ([1, 3] : List Int).length = 2 from rfl]
  have HB1 := Lib.hid (HB0.out.trans (hb1.mono HB0.out.size))
  have HI1 := Lib.hid hin1
  have c2 := c2 w1
  clear c1 hin1 hb1
  have c3 := equalIn_any [1, 3] [1, 3] A1 (some ⟨w1.heap.size, 0, none⟩) k1 2 (w1.alloc (.cells #[.int .i64 1, .int .i64 3] 3 (0, 0))) (HI1.out.next ((Below.refl _ _).alloc (Nat.le_refl _) _)) (in_new rfl) (by decide) (by decide)
  rw [decide_eq_true (rfl : ([1, 3] : List Int) = [1, 3])] at c3
  have HB2 := Lib.hid (show Below w.heap.size w (w1.alloc (.cells #[.int .i64 1, .int .i64 3] 3 (0, 0))) from HB1.out.alloc HB1.out.size _)
  simp only [List.length_cons, List.length_nil, Nat.zero_add, Nat.reduceAdd] at c3
  go_wp2_with (go_at_call 22; (with_reducible refine c2.mono ?_); rintro e w' ⟨rfl, rfl⟩)
  (with_reducible refine c3.mono ?_); rintro e w3 ⟨rfl, hb3⟩
  have HB3 := Lib.hid (HB2.out.trans (hb3.mono HB2.out.size))
  clear hb3 c3
  go_wp2_with fail
  go_ret
  exact ⟨rfl, HB3.out⟩
set_option maxHeartbeats 8000000 in
set_option maxRecDepth 100000 in
theorem selects_law (l : List Int) (n a b : Int) (A : Option Addr) (c : Nat) (w : World) (hA : Gr.InAt w w.heap.size A l) (hl : l.length ≤ 140737488351232) (hc : l.length ≤ c) :
    Calls Try.prog 3 #[.slice A l.length c, .int .i64 n, .int .i64 a, .int .i64 b] w fun e w' => e = .returned (.bool true) ∧ Below w.heap.size w w' := by
  have c0 := awake_any w
  by_cases h : 100 < l.length
  · have d1 : decide ((100 : Int) < (l.length : Int)) = true := decide_eq_true (by omega)
    have d1n : decide (100 < l.length) = true := decide_eq_true h
    go_enter Try.func3, Try.ntmps3
    go_wp2_with fail
    (with_reducible refine c0.mono ?_); rintro e w1 ⟨rfl, hb⟩
    have HB := Lib.hid hb
    clear hb c0
    go_wp2_with fail
    go_ret
    exact ⟨rfl, HB.out⟩
  have d1 : decide ((100 : Int) < (l.length : Int)) = false := decide_eq_false (by omega)
  have d1n : decide (100 < l.length) = false := decide_eq_false h
  have h5 : l.length ≤ 100000 := by omega
  have hsl : (selL l n).length ≤ 100000 := by
    unfold selL
    split
    · rw [ints_len]; have := sel_len l n.toNat (l.length + 1 - n.toNat); omega
    · simp
  have HA := Lib.hid hA
  go_enter Try.func3, Try.ntmps3
  go_wp2_with fail
  (with_reducible refine c0.mono ?_); rintro e w1 ⟨rfl, hb1⟩
  have hA1 := HA.out.next hb1
  have c1 := select_any l n A c w1 hA1 h5 hc
  have HB1 := Lib.hid hb1
  generalize hL : selL l n = L at *
  generalize hE : selE l n = E at *
  clear c0
  go_wp2_with fail
  (with_reducible refine c1.mono ?_); rintro e w2 ⟨A2, k2, rfl, -, -, hin2, hb2⟩
  have hA2 := hA1.next hb2
  have c2 := qselect_any l n A c w2 hA2 h5
  rw [hL, hE] at c2
  have HI2 := Lib.hid hin2
  have HB2 := Lib.hid (HB1.out.trans (hb2.mono HB1.out.size))
  clear c1 hin2 hb1 hb2 hL hE hA1
  go_wp2_with fail
  (with_reducible refine c2.mono ?_); rintro e w3 ⟨A3, k3, rfl, -, -, hin3, hb3⟩
  have hA3 := hA2.next hb3
  have c3 := least_any l a b A c w3 hA3 h5
  have HI3 := Lib.hid hin3
  have HI23 := Lib.hid (HI2.out.next hb3)
  have HB3 := Lib.hid (HB2.out.trans (hb3.mono HB2.out.size))
  clear c2 hin3 hb3 hA2
  go_wp2_with fail
  (with_reducible refine c3.mono ?_); rintro e w4 ⟨rfl, hb4⟩
  have hA4 := hA3.next hb4
  have c4 := qLeast_any l a b A c w4 hA4 h5
  have HI34 := Lib.hid (HI3.out.next hb4)
  have HI24 := Lib.hid (HI23.out.next hb4)
  have HB4 := Lib.hid (HB3.out.trans (hb4.mono HB3.out.size))
  generalize leaI l a b = v at *
  generalize leaE l a b = x at *
  clear c3 hb4 hA3
  go_wp2_with fail
  (with_reducible refine c4.mono ?_); rintro e w5 ⟨rfl, hb5⟩
  have c5 := equalIn_any L L A2 A3 k2 k3 w5 (HI24.out.next hb5) (HI34.out.next hb5) hsl hsl
  rw [decide_eq_true (rfl : L = L)] at c5
  have HB5 := Lib.hid (HB4.out.trans (hb5.mono HB4.out.size))
  clear c4 hb5 hA4
  go_wp2_with fail
  (with_reducible refine c5.mono ?_); rintro e w6 ⟨rfl, hb6⟩
  have HB6 := Lib.hid (HB5.out.trans (hb6.mono HB5.out.size))
  clear c5 hb6
  go_wp2_with fail
  go_ret
  exact ⟨by simp, HB6.out⟩
end Wn
end Go.Proofs.Ytkmldaelgbkfbaa
