/- The chapter's example: awake of the law. No condition. -/
import Derived.Test.YtjemffgidhgfjaaGreatDoorExg
namespace Go.Proofs.YtjemffgidhgfjaaGreatDoor
open Go.RowKit Go.Deep Tr

namespace Gr
theorem el_of_block {α : Type} (f : α → List Value) (k : Nat) (hk : ∀ x, (f x).length = k) {w : World} {g : Nat} {cs : Array Value} {t : TypeId} {fr : Nat × Nat} {l : List α} (h : w.heap[g]? = some (.cells cs t fr)) (hcs : cs.toList = l.flatMap f) : ElAt f k w w.heap.size (some ⟨g, 0, none⟩) l := fun j hj => by
  refine ⟨g, 0, rfl, blk_lt h, fun i u hu => ?_⟩
  have hi : i < k := by have := (List.getElem?_eq_some_iff.1 hu).1; rw [hk] at this; exact this
  rw [cell_of_row _ _ _ _ _ _ h, Nat.zero_add, ← Array.getElem?_toList, hcs, flat_at f k hk l j i hj hi]
  exact hu
end Gr
set_option maxHeartbeats 8000000 in
set_option maxRecDepth 100000 in
theorem awake_any (w : World) :
    Calls Tryz.prog 5 #[] w fun e w' => e = .returned (.bool true) ∧ Below w.heap.size w w' := by
  obtain ⟨W, hW⟩ : ∃ W, W = ((w.alloc (.cells #[.string ⟨#[97]⟩, .string ⟨#[98]⟩, .string ⟨#[99]⟩, .string ⟨#[100]⟩] 9)).alloc (.cells #[.int .i64 0, .int .i64 1, .int .i64 0, .int .i64 0, .int .i64 2, .int .i64 1, .int .i64 1, .int .i64 3, .int .i64 2, .int .i64 2, .int .i64 3, .int .i64 3] 56)).alloc (.cells #[.slice (some ⟨w.heap.size, 0, none⟩) 4 4, .slice (some ⟨w.heap.size + 1, 0, none⟩) 4 4] 25) := ⟨_, rfl⟩
  have hb0 : Below w.heap.size w W := by rw [hW]; exact (((Below.refl _ _).alloc (Nat.le_refl _) _).alloc (by simp) _).alloc (by simp; omega) _
  have hG : W.heap[w.heap.size + 1 + 1]? = some (grO (some ⟨w.heap.size, 0, none⟩) (some ⟨w.heap.size + 1, 0, none⟩) 4 4 Gr.gx) := by
    have h := heap_alloc_new ((w.alloc (.cells #[.string ⟨#[97]⟩, .string ⟨#[98]⟩, .string ⟨#[99]⟩, .string ⟨#[100]⟩] 9)).alloc (.cells #[.int .i64 0, .int .i64 1, .int .i64 0, .int .i64 0, .int .i64 2, .int .i64 1, .int .i64 1, .int .i64 3, .int .i64 2, .int .i64 2, .int .i64 3, .int .i64 3] 56)) (.cells #[.slice (some ⟨w.heap.size, 0, none⟩) 4 4, .slice (some ⟨w.heap.size + 1, 0, none⟩) 4 4] 25)
    rw [show ((w.alloc (.cells #[.string ⟨#[97]⟩, .string ⟨#[98]⟩, .string ⟨#[99]⟩, .string ⟨#[100]⟩] 9)).alloc (.cells #[.int .i64 0, .int .i64 1, .int .i64 0, .int .i64 0, .int .i64 2, .int .i64 1, .int .i64 1, .int .i64 3, .int .i64 2, .int .i64 2, .int .i64 3, .int .i64 3] 56)).heap.size = w.heap.size + 1 + 1 by simp] at h
    rw [hW]
    exact h
  have hE : W.heap[w.heap.size + 1]? = some (.cells #[.int .i64 0, .int .i64 1, .int .i64 0, .int .i64 0, .int .i64 2, .int .i64 1, .int .i64 1, .int .i64 3, .int .i64 2, .int .i64 2, .int .i64 3, .int .i64 3] 56 (0, 0)) := by
    have h := heap_alloc_new (w.alloc (.cells #[.string ⟨#[97]⟩, .string ⟨#[98]⟩, .string ⟨#[99]⟩, .string ⟨#[100]⟩] 9)) (.cells #[.int .i64 0, .int .i64 1, .int .i64 0, .int .i64 0, .int .i64 2, .int .i64 1, .int .i64 1, .int .i64 3, .int .i64 2, .int .i64 2, .int .i64 3, .int .i64 3] 56)
    rw [show (w.alloc (.cells #[.string ⟨#[97]⟩, .string ⟨#[98]⟩, .string ⟨#[99]⟩, .string ⟨#[100]⟩] 9)).heap.size = w.heap.size + 1 by simp] at h
    rw [hW]
    exact (blk_alloc_lt _ _ _ (by simp)).trans h
  have hS : W.heap[w.heap.size]? = some (.cells #[.string ⟨#[97]⟩, .string ⟨#[98]⟩, .string ⟨#[99]⟩, .string ⟨#[100]⟩] 9 (0, 0)) := by
    rw [hW]
    exact (blk_alloc_lt _ _ _ (by simp; omega)).trans ((blk_alloc_lt _ _ _ (by simp)).trans (heap_alloc_new w _))
  have hA : GrAt W (some ⟨w.heap.size, 0, none⟩) (some ⟨w.heap.size + 1, 0, none⟩) Gr.gx := ⟨Gr.el_of_block Gr.stV 1 Gr.stV_len hS rfl, Gr.el_of_block Gr.edV 3 Gr.edV_len hE rfl, by decide, by decide⟩
  clear hS hE
  have HG := Lib.hid hG
  have HA := Lib.hid hA
  have HB := Lib.hid hb0
  have c1 := chain_any Gr.gx 0 3 _ _ 4 4 W hA
  rw [show grV (some ⟨w.heap.size, 0, none⟩) (some ⟨w.heap.size + 1, 0, none⟩) 4 4 Gr.gx = .agg #[.slice (some ⟨w.heap.size, 0, none⟩) 4 4, .slice (some ⟨w.heap.size + 1, 0, none⟩) 4 4] from rfl] at c1
  obtain ⟨q0, q1⟩ := gb_cells hG
  rw [show Gr.gx.ns.length = 4 from rfl] at q0
  rw [show Gr.gx.es.length = 4 from rfl] at q1
  clear hA hG hb0
  go_enter Tryz.func5, Tryz.ntmps5
  go_upto_region 2 with (fail)
  rw [← hW]
  clear hW
  go_wp2_with fail
  with_reducible refine c1.mono ?_
  clear c1 q0 q1
  rintro e w1 ⟨v1, ok, rfl, l1, hC, hown1, hb1⟩
  obtain ⟨rfl, rfl⟩ := Gr.gx_chain hC
  obtain ⟨A1, k1, rfl, _, _, hat1⟩ := Gr.own_el Gr.inV 1 Gr.inV_len hown1
  rw [show ([0, 2] : List Int).length = 2 from rfl]
  have HG1 := Lib.hid ((hb1.block _ (blk_lt HG.out)).trans HG.out)
  have HA1 := Lib.hid (HA.out.next hb1)
  have HB1 := Lib.hid (HB.out.trans (hb1.mono HB.out.size))
  have HI1 := Lib.hid hat1
  clear HG HA HB hC hown1 hb1 hat1
  have c2 := depths_any Gr.gx _ _ 4 4 w1 HA1.out
  rw [show grV (some ⟨w.heap.size, 0, none⟩) (some ⟨w.heap.size + 1, 0, none⟩) 4 4 Gr.gx = .agg #[.slice (some ⟨w.heap.size, 0, none⟩) 4 4, .slice (some ⟨w.heap.size + 1, 0, none⟩) 4 4] from rfl] at c2
  obtain ⟨q0, q1⟩ := gb_cells HG1.out
  rw [show Gr.gx.ns.length = 4 from rfl] at q0
  rw [show Gr.gx.es.length = 4 from rfl] at q1
  go_wp2_with fail
  with_reducible refine c2.mono ?_
  clear c2 q0 q1
  rintro e w2 ⟨A2, k2, l2, ec, rfl, hD, hat2, hb2⟩
  obtain ⟨rfl, rfl⟩ := Gr.gx_depths hD
  rw [show ([0, 1, 1, 2] : List Int).length = 4 from rfl]
  have HG2 := Lib.hid ((hb2.block _ (blk_lt HG1.out)).trans HG1.out)
  have HA2 := Lib.hid (HA1.out.next hb2)
  have HB2 := Lib.hid (HB1.out.trans (hb2.mono HB1.out.size))
  have HI12 := Lib.hid (HI1.out.next hb2)
  have HI2 := Lib.hid hat2
  clear HG1 HA1 HB1 hD hb2 HI1 hat2
  have c3 := reach_any Gr.gx 0 _ _ 4 4 w2 HA2.out
  rw [show grV (some ⟨w.heap.size, 0, none⟩) (some ⟨w.heap.size + 1, 0, none⟩) 4 4 Gr.gx = .agg #[.slice (some ⟨w.heap.size, 0, none⟩) 4 4, .slice (some ⟨w.heap.size + 1, 0, none⟩) 4 4] from rfl] at c3
  obtain ⟨q0, q1⟩ := gb_cells HG2.out
  rw [show Gr.gx.ns.length = 4 from rfl] at q0
  rw [show Gr.gx.es.length = 4 from rfl] at q1
  go_wp2_with fail
  with_reducible refine c3.mono ?_
  clear c3 q0 q1
  rintro e w3 ⟨v3, rfl, l3, hR, hown3, hb3⟩
  obtain rfl := Gr.gx_reach hR
  obtain ⟨A3, k3, rfl, _, _, hat3⟩ := Gr.own_el Gr.inV 1 Gr.inV_len hown3
  rw [show ([1, 2, 3] : List Int).length = 3 from rfl]
  have HG3 := Lib.hid ((hb3.block _ (blk_lt HG2.out)).trans HG2.out)
  have HA3 := Lib.hid (HA2.out.next hb3)
  have HB3 := Lib.hid (HB2.out.trans (hb3.mono HB2.out.size))
  have HI13 := Lib.hid (HI12.out.next hb3)
  have HI23 := Lib.hid (HI2.out.next hb3)
  clear HG2 HA2 HB2 hR hown3 HI12 HI2
  have hb4 : Below w3.heap.size w3 (w3.alloc (.cells #[.int .i64 1, .int .i64 2, .int .i64 3] 3)) := (Below.refl _ _).alloc (Nat.le_refl _) _
  have c4 := equalIn_any [1, 2, 3] [1, 2, 3] A3 (some ⟨w3.heap.size, 0, none⟩) k3 3 _ (hat3.next hb4) (Gr.el_of_block Gr.inV 1 Gr.inV_len (heap_alloc_new w3 (.cells #[.int .i64 1, .int .i64 2, .int .i64 3] 3)) rfl) (by decide) (by decide)
  rw [show ([1, 2, 3] : List Int).length = 3 from rfl, show decide (([1, 2, 3] : List Int) = [1, 2, 3]) = true from rfl] at c4
  have HB4 := Lib.hid (HB3.out.trans (hb4.mono HB3.out.size))
  have HG4 := Lib.hid ((hb4.block _ (blk_lt HG3.out)).trans HG3.out)
  have HA4 := Lib.hid (HA3.out.next hb4)
  have HI14 := Lib.hid (HI13.out.next hb4)
  have HI24 := Lib.hid (HI23.out.next hb4)
  clear hb3 hb4 hat3 HG3 HA3 HB3 HI13 HI23
  go_wp2_with fail
  generalize w3.alloc (.cells #[.int .i64 1, .int .i64 2, .int .i64 3] 3) = W4 at *
  with_reducible refine c4.mono ?_
  clear c4
  rintro e w5 ⟨rfl, hb5⟩
  have HB5 := Lib.hid (HB4.out.trans (hb5.mono HB4.out.size))
  have HG5 := Lib.hid ((hb5.block _ (blk_lt HG4.out)).trans HG4.out)
  have HA5 := Lib.hid (HA4.out.next hb5)
  have HI25 := Lib.hid (HI24.out.next hb5)
  have hb6 : Below w5.heap.size w5 (w5.alloc (.cells #[.int .i64 0, .int .i64 2] 3)) := (Below.refl _ _).alloc (Nat.le_refl _) _
  have c6 := equalIn_any [0, 2] [0, 2] A1 (some ⟨w5.heap.size, 0, none⟩) k1 2 _ ((HI14.out.next hb5).next hb6) (Gr.el_of_block Gr.inV 1 Gr.inV_len (heap_alloc_new w5 (.cells #[.int .i64 0, .int .i64 2] 3)) rfl) (by decide) (by decide)
  rw [show ([0, 2] : List Int).length = 2 from rfl, show decide (([0, 2] : List Int) = [0, 2]) = true from rfl] at c6
  have HB6 := Lib.hid (HB5.out.trans (hb6.mono HB5.out.size))
  have HG6 := Lib.hid ((hb6.block _ (blk_lt HG5.out)).trans HG5.out)
  have HA6 := Lib.hid (HA5.out.next hb6)
  have HI26 := Lib.hid (HI25.out.next hb6)
  clear hb5 hb6 HG4 HA4 HB4 HI14 HI24 HB5 HG5 HA5 HI25
  go_wp2_with fail
  generalize w5.alloc (.cells #[.int .i64 0, .int .i64 2] 3) = W6 at *
  with_reducible refine c6.mono ?_
  clear c6
  rintro e w7 ⟨rfl, hb7⟩
  have HB7 := Lib.hid (HB6.out.trans (hb7.mono HB6.out.size))
  have HG7 := Lib.hid ((hb7.block _ (blk_lt HG6.out)).trans HG6.out)
  have HA7 := Lib.hid (HA6.out.next hb7)
  have HI27 := Lib.hid (HI26.out.next hb7)
  clear hb7 HB6 HG6 HA6 HI26
  have c8 := gates_any Gr.gx 0 3 _ _ 4 4 w7 HA7.out
  rw [show grV (some ⟨w.heap.size, 0, none⟩) (some ⟨w.heap.size + 1, 0, none⟩) 4 4 Gr.gx = .agg #[.slice (some ⟨w.heap.size, 0, none⟩) 4 4, .slice (some ⟨w.heap.size + 1, 0, none⟩) 4 4] from rfl] at c8
  obtain ⟨q0, q1⟩ := gb_cells HG7.out
  rw [show Gr.gx.ns.length = 4 from rfl] at q0
  rw [show Gr.gx.es.length = 4 from rfl] at q1
  go_wp2_with fail
  with_reducible refine c8.mono ?_
  clear c8 q0 q1
  rintro e w8 ⟨v8, rfl, l8, hR, hown8, hb8⟩
  obtain rfl := Gr.gx_gates hR
  obtain ⟨A8, k8, rfl, _, _, hat8⟩ := Gr.own_el Gr.inV 1 Gr.inV_len hown8
  rw [show ([0, 3] : List Int).length = 2 from rfl]
  have HB8 := Lib.hid (HB7.out.trans (hb8.mono HB7.out.size))
  have HI28 := Lib.hid (HI27.out.next hb8)
  clear HG7 HA7 HB7 hR hown8 HI27 hb8
  have hb9 : Below w8.heap.size w8 (w8.alloc (.cells #[.int .i64 0, .int .i64 3] 3)) := (Below.refl _ _).alloc (Nat.le_refl _) _
  have c9 := equalIn_any [0, 3] [0, 3] A8 (some ⟨w8.heap.size, 0, none⟩) k8 2 _ (hat8.next hb9) (Gr.el_of_block Gr.inV 1 Gr.inV_len (heap_alloc_new w8 (.cells #[.int .i64 0, .int .i64 3] 3)) rfl) (by decide) (by decide)
  rw [show ([0, 3] : List Int).length = 2 from rfl, show decide (([0, 3] : List Int) = [0, 3]) = true from rfl] at c9
  have HB9 := Lib.hid (HB8.out.trans (hb9.mono HB8.out.size))
  have HI29 := Lib.hid (HI28.out.next hb9)
  clear hat8 hb9 HB8 HI28
  go_wp2_with fail
  generalize w8.alloc (.cells #[.int .i64 0, .int .i64 3] 3) = W9 at *
  with_reducible refine c9.mono ?_
  clear c9
  rintro e w10 ⟨rfl, hb10⟩
  have HB10 := Lib.hid (HB9.out.trans (hb10.mono HB9.out.size))
  have hb11 : Below w10.heap.size w10 (w10.alloc (.cells #[.int .i64 0, .int .i64 1, .int .i64 1, .int .i64 2] 3)) := (Below.refl _ _).alloc (Nat.le_refl _) _
  have c11 := equalIn_any [0, 1, 1, 2] [0, 1, 1, 2] A2 (some ⟨w10.heap.size, 0, none⟩) k2 4 _ ((HI29.out.next hb10).next hb11) (Gr.el_of_block Gr.inV 1 Gr.inV_len (heap_alloc_new w10 (.cells #[.int .i64 0, .int .i64 1, .int .i64 1, .int .i64 2] 3)) rfl) (by decide) (by decide)
  rw [show ([0, 1, 1, 2] : List Int).length = 4 from rfl, show decide (([0, 1, 1, 2] : List Int) = [0, 1, 1, 2]) = true from rfl] at c11
  have HB11 := Lib.hid (HB10.out.trans (hb11.mono HB10.out.size))
  clear hb10 hb11 HB9 HI29 HB10
  go_wp2_with fail
  generalize w10.alloc (.cells #[.int .i64 0, .int .i64 1, .int .i64 1, .int .i64 2] 3) = W11 at *
  with_reducible refine c11.mono ?_
  clear c11
  rintro e w12 ⟨rfl, hb12⟩
  have HB12 := Lib.hid (HB11.out.trans (hb12.mono HB11.out.size))
  clear hb12 HB11
  go_wp2_with fail
  go_ret
  exact ⟨rfl, HB12.out⟩
end Go.Proofs.YtjemffgidhgfjaaGreatDoor
