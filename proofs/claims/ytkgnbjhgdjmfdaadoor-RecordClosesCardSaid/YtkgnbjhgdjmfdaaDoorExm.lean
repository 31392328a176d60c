/- The example: touch, example. -/
import Derived.Test.YtkgnbjhgdjmfdaaDoorKey
import Derived.Test.YtkgnbjhgdjmfdaaDoorDvg
namespace Go.Proofs.YtkgnbjhgdjmfdaaDoor
open Go.RowKit Go.Deep Go.Maps Tr

/-- A letter, 32 times. -/
def rep (l : List UInt8) : List UInt8 := Lib.repeatL l 32
set_option maxHeartbeats 2000000 in
set_option maxRecDepth 100000 in
theorem touch_any (p l : List UInt8) (w : World) (hl : l.length ≤ 1000) : Calls Tryd.prog 46 #[.string (str p), .string (str l)] w fun e w' => e = .returned (tcA ⟨p, rep l⟩) ∧ Below w.heap.size w w' := by
  have hc := Tryd.strings_Repeat (str l) 32 (w.alloc (.cells #[.string ⟨#[]⟩, .string ⟨#[]⟩] 40)) (by omega) (by rw [str_size]; omega)
  rw [show ((32 : Nat) : Int) = 32 from rfl] at hc
  rw [tcA_def, show str (rep l) = ⟨(Lib.repeatL (str l).data.toList 32).toArray⟩ from rfl]
  have hb0 : Below w.heap.size w (w.alloc (.cells #[.string ⟨#[]⟩, .string ⟨#[]⟩] 40)) := (Below.refl _ _).alloc (Nat.le_refl _) _
  have hn := heap_alloc_new w (.cells #[.string ⟨#[]⟩, .string ⟨#[]⟩] 40)
  generalize (⟨(Lib.repeatL (str l).data.toList 32).toArray⟩ : ByteArray) = R at *
  go_enter Tryd.func46, Tryd.ntmps46
  go_wp2_with fail
  with_reducible refine hc.mono ?_
  clear hc
  rintro e w2 ⟨rfl, hb2⟩
  have hn2 := (hb2.block w.heap.size (blk_lt hn)).trans hn
  have hb02 := hb0.trans (hb2.mono hb0.size)
  clear hb0 hb2 hn
  have a0 : w2.cell? ⟨w.heap.size, 0, none⟩ = some (.string ⟨#[]⟩) := by rw [cell_of_row _ _ _ _ _ _ hn2]; rfl
  have a1 : w2.cell? ⟨w.heap.size, 1, none⟩ = some (.string ⟨#[]⟩) := by rw [cell_of_row _ _ _ _ _ _ hn2]; rfl
  have f0 : w2.frozen? ⟨w.heap.size, 0, none⟩ = false := by simp [World.frozen?, hn2]
  have f1 : w2.frozen? ⟨w.heap.size, 1, none⟩ = false := by simp [World.frozen?, hn2]
  clear hn2
  go_wp2_with fail
  exact bodyPost_ret (v := .agg #[.string (str p), .string R]) (by simp [results, Tryd.results46, go_sem, a0, a1]) rfl ⟨rfl, (hb02.setCell (p := ⟨w.heap.size, 0, none⟩) (Nat.le_refl _) _).setCell (p := ⟨w.heap.size, 1, none⟩) (Nat.le_refl _) _⟩
theorem el_block {α : Type} (f : α → List Value) (k : Nat) (hk : ∀ x, (f x).length = k) {w : World} {g : Nat} {cur : Array Value} {T : TypeId} (h : w.heap[g]? = some (.cells cur T (0, 0))) (l : List α) (he : cur.toList = l.flatMap f) : Rc.ElAt f k w w.heap.size (some ⟨g, 0, none⟩) l := fun j hj => ⟨g, 0, rfl, blk_lt h, fun i u hu => by
  have hi : i < k := by have := (List.getElem?_eq_some_iff.1 hu).1; rw [hk] at this; exact this
  rw [cell_of_row _ _ _ _ _ _ h, ← Array.getElem?_toList, he, Nat.zero_add, Rc.flat_at f k hk l j i hj hi]
  exact hu⟩
/-- The example of the chapter. -/
def exR (A1 A2 : Option Addr) (l : List UInt8) : List Dn :=
  [⟨0, 0, 1, A1, 1, [⟨[97, 47, 120], rep [120]⟩], ⟨[97, 47, 111], rep [111]⟩⟩, ⟨0, 1, 4, A2, 1, [⟨[97, 47, 111], rep [111]⟩], ⟨[97, 47, 98], rep l⟩⟩]
set_option maxHeartbeats 4000000 in
set_option maxRecDepth 100000 in
theorem example_any (l : List UInt8) (w : World) (hl : l.length ≤ 1000) : Calls Tryd.prog 26 #[.string (str l)] w fun e w' => (∃ A A1 A2, e = .returned (.slice A 2 2) ∧ RcAt w' A (exR A1 A2 l)) ∧ Below w.heap.size w w' := by
  have c1 := fun w => touch_any [97, 47, 120] [120] w (by simp)
  have c2 := fun w => touch_any [97, 47, 111] [111] w (by simp)
  have c3 := fun w => touch_any [97, 47, 98] l w hl
  simp only [tcA_def] at c1 c2 c3
  rw [show (str [97, 47, 120]) = ⟨#[97, 47, 120]⟩ from rfl, show str [120] = ⟨#[120]⟩ from rfl] at c1
  rw [show (str [97, 47, 111]) = ⟨#[97, 47, 111]⟩ from rfl, show str [111] = ⟨#[111]⟩ from rfl] at c2
  rw [show (str [97, 47, 98]) = ⟨#[97, 47, 98]⟩ from rfl] at c3
  generalize hx : str (rep [120]) = X at *
  generalize ho : str (rep [111]) = O at *
  generalize hz : str (rep l) = Z at *
  go_enter Tryd.func26, Tryd.ntmps26
  go_wp2_with fail
  with_reducible refine (c1 _).mono ?_
  rintro e w1 ⟨rfl, hb1⟩
  have hn1 := heap_alloc_new w1 (.cells #[.string ⟨#[97, 47, 120]⟩, .string X] 40)
  have hb1' := hb1.alloc hb1.size (.cells #[.string ⟨#[97, 47, 120]⟩, .string X] 40)
  go_wp2_with fail
  with_reducible refine (c2 _).mono ?_
  rintro e w2 ⟨rfl, hb2⟩
  have hn2 := (hb2.block _ (blk_lt hn1)).trans hn1
  have hb02 := hb1'.trans (hb2.mono hb1'.size)
  clear hn1 hb1 hb1' hb2
  go_wp2_with fail
  with_reducible refine (c2 _).mono ?_
  rintro e w3 ⟨rfl, hb3⟩
  have hn3 := (hb3.block _ (blk_lt hn2)).trans hn2
  have hb03 := hb02.trans (hb3.mono hb02.size)
  have hm3 := heap_alloc_new w3 (.cells #[.string ⟨#[97, 47, 111]⟩, .string O] 40)
  have hn3' := (blk_alloc_lt w3 (.cells #[.string ⟨#[97, 47, 111]⟩, .string O] 40) _ (blk_lt hn3)).trans hn3
  have hb03' := hb03.alloc hb03.size (.cells #[.string ⟨#[97, 47, 111]⟩, .string O] 40)
  clear hn2 hb02 hb3 hn3 hb03
  go_wp2_with fail
  with_reducible refine (c3 _).mono ?_
  rintro e w4 ⟨rfl, hb4⟩
  have hn4 := (hb4.block _ (blk_lt hn3')).trans hn3'
  have hm4 := (hb4.block _ (blk_lt hm3)).trans hm3
  have hb04 := hb03'.trans (hb4.mono hb03'.size)
  clear hn3' hm3 hb03' hb4 c1 c2 c3
  go_wp2_with fail
  go_ret
  subst hx ho hz
  have hq := heap_alloc_new w4 (.cells #[.int .i64 0, .int .i64 0, .int .i64 1, .slice (some ⟨w1.heap.size, 0, none⟩) 1 1, .string ⟨#[97, 47, 111]⟩, .string (str (rep [111])), .int .i64 0, .int .i64 1, .int .i64 4, .slice (some ⟨w3.heap.size, 0, none⟩) 1 1, .string ⟨#[97, 47, 98]⟩, .string (str (rep l))] 43)
  refine ⟨⟨some ⟨w4.heap.size, 0, none⟩, some ⟨w1.heap.size, 0, none⟩, some ⟨w3.heap.size, 0, none⟩, rfl, ?_⟩, hb04.alloc hb04.size _⟩
  refine ⟨el_block Rc.dnV 6 Rc.dnV_len hq _ rfl, fun s hs => ?_, by show 2 ≤ _; omega, fun s hs => ?_⟩
  · simp only [exR, List.mem_cons, List.not_mem_nil, or_false] at hs
    rcases hs with rfl | rfl
    · exact el_block Rc.tcV 2 Rc.tcV_len ((blk_alloc_lt w4 _ _ (blk_lt hn4)).trans hn4) _ rfl
    · exact el_block Rc.tcV 2 Rc.tcV_len ((blk_alloc_lt w4 _ _ (blk_lt hm4)).trans hm4) _ rfl
  · simp only [exR, List.mem_cons, List.not_mem_nil, or_false] at hs
    rcases hs with rfl | rfl
    · show 1 ≤ _; omega
    · show 1 ≤ _; omega
end Go.Proofs.YtkgnbjhgdjmfdaaDoor
