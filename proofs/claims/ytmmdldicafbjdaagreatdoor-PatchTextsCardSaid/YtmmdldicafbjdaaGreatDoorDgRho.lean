/- rho and pi of the permutation: the words, rotated, at their new places. No condition. -/
import Derived.Test.YtmmdldicafbjdaaGreatDoorDgTheta
import Derived.StillTailTactics
namespace Go.Proofs.YtmmdldicafbjdaaGreatDoor.Dg
open Go.RowKit

theorem region_tail {P : Program} {id : Nat} {Q : Exit → Act → World → Prop} {a : Act} {w : World} {l : List Oper} (n : Nat) (R : World → Prop) (hm : P.follows .mixedOrders = true) (hB : Region.lexTailB .any l.toArray n = true)
    (hR : R w.drew) (h : ∀ w1, R w1 → wpStill P l.toArray w1 (fun a' => wpList P l.toArray Q (l.drop n) a' w1) (l.take n) a) : (Code.region id l.toArray true).wp P Q a w := wp_region_still_tail n hm hB (h w.drew hR)

structure RhoAt (w w' : World) (b b2 : Nat) (A M : Kec.St) : Prop where
  s : IsSt w' b A
  m : IsSt w' b2 M
  g : w.grownBy w' (some b2)
theorem rotl_q (x : BitVec 64) (k : Nat) (hk : k < 64) (w : World) :
    Calls Tryz.prog 108 #[.int .u64 (U x), .int .i64 k] w fun e w' => e = .returned (.int .u64 (U (Kec.rot x k))) ∧ w' = w :=
  (rotl_any x k hk w).mono fun _ _ h => ⟨h.1, h.2.symm⟩
theorem RhoAt.drew {w w' : World} {b b2 : Nat} {A M : Kec.St} (h : RhoAt w w' b b2 A M) : RhoAt w w'.drew b b2 A M := ⟨h.s, h.m, only_drew h.g⟩
theorem RhoAt.put_ {w w' : World} {b b2 : Nat} {A M : Kec.St} (h : RhoAt w w' b b2 A M) (hne : b ≠ b2) (j : Nat) (x : BitVec 64) : RhoAt w (w'.setCell ⟨b2, j, none⟩ (.int .u64 (U x))) b b2 A (upd M j x) :=
  ⟨World.rowIs.setOther h.s (a := ⟨b2, j, none⟩) hne _, h.m.set_ j x, only_setCell h.g (.inl rfl) _⟩
theorem RhoAt.step {w w' : World} {b b2 : Nat} {A M : Kec.St} (h : RhoAt w w' b b2 A M) (hne : b ≠ b2) (j : Nat) (x : BitVec 64) : RhoAt w (w'.setCell ⟨b2, j, none⟩ (.int .u64 (U x))).drew b b2 A (upd M j x) :=
  ⟨World.rowIs.setOther h.s (a := ⟨b2, j, none⟩) hne _, h.m.set_ j x, only_drew (only_setCell h.g (.inl rfl) _)⟩

/-- The words that were moved after the first k regions. -/
def mv (A M : Kec.St) : List (Nat × Nat × Nat) → Kec.St
  | [] => upd M 0 (A 0)
  | (j, i, n) :: l => upd (mv A M l) j (Kec.rot (A i) n)

set_option maxRecDepth 100000 in
theorem mv_all (A M : Kec.St) : Kec.Same (mv A M [(4, 24, 14), (19, 23, 56), (9, 22, 61), (24, 21, 2), (14, 20, 18), (13, 19, 8), (3, 18, 21), (18, 17, 15), (8, 16, 45), (23, 15, 41), (22, 14, 39), (12, 13, 25), (2, 12, 43), (17, 11, 10), (7, 10, 3), (6, 9, 20), (21, 8, 55), (11, 7, 6), (1, 6, 44), (16, 5, 36), (15, 4, 27), (5, 3, 28), (20, 2, 62), (10, 1, 1)]) (Kec.rhopi A) := by
  have z : Kec.rot (A 0) 0 = A 0 := by unfold Kec.rot; simp [BitVec.ushiftRight_eq_zero]
  intro i hi
  have hc : i = 0 ∨ i = 1 ∨ i = 2 ∨ i = 3 ∨ i = 4 ∨ i = 5 ∨ i = 6 ∨ i = 7 ∨ i = 8 ∨ i = 9 ∨ i = 10 ∨ i = 11 ∨ i = 12 ∨ i = 13 ∨ i = 14 ∨ i = 15 ∨ i = 16 ∨ i = 17 ∨ i = 18 ∨ i = 19 ∨ i = 20 ∨ i = 21 ∨ i = 22 ∨ i = 23 ∨ i = 24 := by omega
  rcases hc with rfl | rfl | rfl | rfl | rfl | rfl | rfl | rfl | rfl | rfl | rfl | rfl | rfl | rfl | rfl | rfl | rfl | rfl | rfl | rfl | rfl | rfl | rfl | rfl | rfl <;> first | exact z.symm | rfl

set_option maxHeartbeats 4000000 in
set_option maxRecDepth 100000 in
theorem rho_any (A M : Kec.St) (b b2 : Nat) (w : World) (hne : b ≠ b2) (hS : IsSt w b A) (hM : IsSt w b2 M) :
    Calls Tryz.prog 92 #[.pointer (some ⟨b2, 0, none⟩), .pointer (some ⟨b, 0, none⟩)] w fun e w' => e = .returned (.tuple #[]) ∧ IsSt w' b2 (Kec.rhopi A) ∧ w.grownBy w' (some b2) := by
  have H : RhoAt w w b b2 A M := ⟨hS, hM, ⟨rfl, rfl, rfl, Nat.le_refl _, fun _ _ _ => rfl⟩⟩
  clear hS hM
  go_enter Tryz.func92, Tryz.ntmps92
  go_wp2_with fail
  have c := H.s.cell 0 (by decide)
  have d := H.m.cell 0 (by decide)
  have f := H.m.frozen 0
  go_region
  go_wp2_with fail
  clear c d f
  refine wp_gen (fun w' => RhoAt w w' b b2 A (mv A M [])) (H.step hne 0 (A 0)) ?_
  clear H
  intro w1 H
  refine region_tail 8 (fun w' => RhoAt w w' b b2 A (mv A M [])) (by kernel_rfl) (by kernel_rfl) H.drew ?_
  clear H
  intro w1 H
  have c := H.s.cell 1 (by decide)
  have d := H.m.cell 10 (by decide)
  have f := H.m.frozen 10
  simp only [List.take_succ_cons, List.take_zero, List.drop_succ_cons, List.drop_zero]
  still_step
  still_step
  still_step
  still_step
  still_step
  still_call (rotl_q _ 1 (by decide) _)
  still_step
  still_step
  refine wpStill_nil ?_
  go_wp2_with fail
  clear c d f
  refine wp_gen (fun w' => RhoAt w w' b b2 A (mv A M [(10, 1, 1)])) (H.put_ hne 10 (Kec.rot (A 1) 1)) ?_
  clear H
  intro w1 H
  refine region_tail 8 (fun w' => RhoAt w w' b b2 A (mv A M [(10, 1, 1)])) (by kernel_rfl) (by kernel_rfl) H.drew ?_
  clear H
  intro w1 H
  have c := H.s.cell 2 (by decide)
  have d := H.m.cell 20 (by decide)
  have f := H.m.frozen 20
  simp only [List.take_succ_cons, List.take_zero, List.drop_succ_cons, List.drop_zero]
  still_step
  still_step
  still_step
  still_step
  still_step
  still_call (rotl_q _ 62 (by decide) _)
  still_step
  still_step
  refine wpStill_nil ?_
  go_wp2_with fail
  clear c d f
  refine wp_gen (fun w' => RhoAt w w' b b2 A (mv A M [(20, 2, 62), (10, 1, 1)])) (H.put_ hne 20 (Kec.rot (A 2) 62)) ?_
  clear H
  intro w1 H
  refine region_tail 8 (fun w' => RhoAt w w' b b2 A (mv A M [(20, 2, 62), (10, 1, 1)])) (by kernel_rfl) (by kernel_rfl) H.drew ?_
  clear H
  intro w1 H
  have c := H.s.cell 3 (by decide)
  have d := H.m.cell 5 (by decide)
  have f := H.m.frozen 5
  simp only [List.take_succ_cons, List.take_zero, List.drop_succ_cons, List.drop_zero]
  still_step
  still_step
  still_step
  still_step
  still_step
  still_call (rotl_q _ 28 (by decide) _)
  still_step
  still_step
  refine wpStill_nil ?_
  go_wp2_with fail
  clear c d f
  refine wp_gen (fun w' => RhoAt w w' b b2 A (mv A M [(5, 3, 28), (20, 2, 62), (10, 1, 1)])) (H.put_ hne 5 (Kec.rot (A 3) 28)) ?_
  clear H
  intro w1 H
  refine region_tail 8 (fun w' => RhoAt w w' b b2 A (mv A M [(5, 3, 28), (20, 2, 62), (10, 1, 1)])) (by kernel_rfl) (by kernel_rfl) H.drew ?_
  clear H
  intro w1 H
  have c := H.s.cell 4 (by decide)
  have d := H.m.cell 15 (by decide)
  have f := H.m.frozen 15
  simp only [List.take_succ_cons, List.take_zero, List.drop_succ_cons, List.drop_zero]
  still_step
  still_step
  still_step
  still_step
  still_step
  still_call (rotl_q _ 27 (by decide) _)
  still_step
  still_step
  refine wpStill_nil ?_
  go_wp2_with fail
  clear c d f
  refine wp_gen (fun w' => RhoAt w w' b b2 A (mv A M [(15, 4, 27), (5, 3, 28), (20, 2, 62), (10, 1, 1)])) (H.put_ hne 15 (Kec.rot (A 4) 27)) ?_
  clear H
  intro w1 H
  refine region_tail 8 (fun w' => RhoAt w w' b b2 A (mv A M [(15, 4, 27), (5, 3, 28), (20, 2, 62), (10, 1, 1)])) (by kernel_rfl) (by kernel_rfl) H.drew ?_
  clear H
  intro w1 H
  have c := H.s.cell 5 (by decide)
  have d := H.m.cell 16 (by decide)
  have f := H.m.frozen 16
  simp only [List.take_succ_cons, List.take_zero, List.drop_succ_cons, List.drop_zero]
  still_step
  still_step
  still_step
  still_step
  still_step
  still_call (rotl_q _ 36 (by decide) _)
  still_step
  still_step
  refine wpStill_nil ?_
  go_wp2_with fail
  clear c d f
  refine wp_gen (fun w' => RhoAt w w' b b2 A (mv A M [(16, 5, 36), (15, 4, 27), (5, 3, 28), (20, 2, 62), (10, 1, 1)])) (H.put_ hne 16 (Kec.rot (A 5) 36)) ?_
  clear H
  intro w1 H
  refine region_tail 8 (fun w' => RhoAt w w' b b2 A (mv A M [(16, 5, 36), (15, 4, 27), (5, 3, 28), (20, 2, 62), (10, 1, 1)])) (by kernel_rfl) (by kernel_rfl) H.drew ?_
  clear H
  intro w1 H
  have c := H.s.cell 6 (by decide)
  have d := H.m.cell 1 (by decide)
  have f := H.m.frozen 1
  simp only [List.take_succ_cons, List.take_zero, List.drop_succ_cons, List.drop_zero]
  still_step
  still_step
  still_step
  still_step
  still_step
  still_call (rotl_q _ 44 (by decide) _)
  still_step
  still_step
  refine wpStill_nil ?_
  go_wp2_with fail
  clear c d f
  refine wp_gen (fun w' => RhoAt w w' b b2 A (mv A M [(1, 6, 44), (16, 5, 36), (15, 4, 27), (5, 3, 28), (20, 2, 62), (10, 1, 1)])) (H.put_ hne 1 (Kec.rot (A 6) 44)) ?_
  clear H
  intro w1 H
  refine region_tail 8 (fun w' => RhoAt w w' b b2 A (mv A M [(1, 6, 44), (16, 5, 36), (15, 4, 27), (5, 3, 28), (20, 2, 62), (10, 1, 1)])) (by kernel_rfl) (by kernel_rfl) H.drew ?_
  clear H
  intro w1 H
  have c := H.s.cell 7 (by decide)
  have d := H.m.cell 11 (by decide)
  have f := H.m.frozen 11
  simp only [List.take_succ_cons, List.take_zero, List.drop_succ_cons, List.drop_zero]
  still_step
  still_step
  still_step
  still_step
  still_step
  still_call (rotl_q _ 6 (by decide) _)
  still_step
  still_step
  refine wpStill_nil ?_
  go_wp2_with fail
  clear c d f
  refine wp_gen (fun w' => RhoAt w w' b b2 A (mv A M [(11, 7, 6), (1, 6, 44), (16, 5, 36), (15, 4, 27), (5, 3, 28), (20, 2, 62), (10, 1, 1)])) (H.put_ hne 11 (Kec.rot (A 7) 6)) ?_
  clear H
  intro w1 H
  refine region_tail 8 (fun w' => RhoAt w w' b b2 A (mv A M [(11, 7, 6), (1, 6, 44), (16, 5, 36), (15, 4, 27), (5, 3, 28), (20, 2, 62), (10, 1, 1)])) (by kernel_rfl) (by kernel_rfl) H.drew ?_
  clear H
  intro w1 H
  have c := H.s.cell 8 (by decide)
  have d := H.m.cell 21 (by decide)
  have f := H.m.frozen 21
  simp only [List.take_succ_cons, List.take_zero, List.drop_succ_cons, List.drop_zero]
  still_step
  still_step
  still_step
  still_step
  still_step
  still_call (rotl_q _ 55 (by decide) _)
  still_step
  still_step
  refine wpStill_nil ?_
  go_wp2_with fail
  clear c d f
  refine wp_gen (fun w' => RhoAt w w' b b2 A (mv A M [(21, 8, 55), (11, 7, 6), (1, 6, 44), (16, 5, 36), (15, 4, 27), (5, 3, 28), (20, 2, 62), (10, 1, 1)])) (H.put_ hne 21 (Kec.rot (A 8) 55)) ?_
  clear H
  intro w1 H
  refine region_tail 8 (fun w' => RhoAt w w' b b2 A (mv A M [(21, 8, 55), (11, 7, 6), (1, 6, 44), (16, 5, 36), (15, 4, 27), (5, 3, 28), (20, 2, 62), (10, 1, 1)])) (by kernel_rfl) (by kernel_rfl) H.drew ?_
  clear H
  intro w1 H
  have c := H.s.cell 9 (by decide)
  have d := H.m.cell 6 (by decide)
  have f := H.m.frozen 6
  simp only [List.take_succ_cons, List.take_zero, List.drop_succ_cons, List.drop_zero]
  still_step
  still_step
  still_step
  still_step
  still_step
  still_call (rotl_q _ 20 (by decide) _)
  still_step
  still_step
  refine wpStill_nil ?_
  go_wp2_with fail
  clear c d f
  refine wp_gen (fun w' => RhoAt w w' b b2 A (mv A M [(6, 9, 20), (21, 8, 55), (11, 7, 6), (1, 6, 44), (16, 5, 36), (15, 4, 27), (5, 3, 28), (20, 2, 62), (10, 1, 1)])) (H.put_ hne 6 (Kec.rot (A 9) 20)) ?_
  clear H
  intro w1 H
  refine region_tail 8 (fun w' => RhoAt w w' b b2 A (mv A M [(6, 9, 20), (21, 8, 55), (11, 7, 6), (1, 6, 44), (16, 5, 36), (15, 4, 27), (5, 3, 28), (20, 2, 62), (10, 1, 1)])) (by kernel_rfl) (by kernel_rfl) H.drew ?_
  clear H
  intro w1 H
  have c := H.s.cell 10 (by decide)
  have d := H.m.cell 7 (by decide)
  have f := H.m.frozen 7
  simp only [List.take_succ_cons, List.take_zero, List.drop_succ_cons, List.drop_zero]
  still_step
  still_step
  still_step
  still_step
  still_step
  still_call (rotl_q _ 3 (by decide) _)
  still_step
  still_step
  refine wpStill_nil ?_
  go_wp2_with fail
  clear c d f
  refine wp_gen (fun w' => RhoAt w w' b b2 A (mv A M [(7, 10, 3), (6, 9, 20), (21, 8, 55), (11, 7, 6), (1, 6, 44), (16, 5, 36), (15, 4, 27), (5, 3, 28), (20, 2, 62), (10, 1, 1)])) (H.put_ hne 7 (Kec.rot (A 10) 3)) ?_
  clear H
  intro w1 H
  refine region_tail 8 (fun w' => RhoAt w w' b b2 A (mv A M [(7, 10, 3), (6, 9, 20), (21, 8, 55), (11, 7, 6), (1, 6, 44), (16, 5, 36), (15, 4, 27), (5, 3, 28), (20, 2, 62), (10, 1, 1)])) (by kernel_rfl) (by kernel_rfl) H.drew ?_
  clear H
  intro w1 H
  have c := H.s.cell 11 (by decide)
  have d := H.m.cell 17 (by decide)
  have f := H.m.frozen 17
  simp only [List.take_succ_cons, List.take_zero, List.drop_succ_cons, List.drop_zero]
  still_step
  still_step
  still_step
  still_step
  still_step
  still_call (rotl_q _ 10 (by decide) _)
  still_step
  still_step
  refine wpStill_nil ?_
  go_wp2_with fail
  clear c d f
  refine wp_gen (fun w' => RhoAt w w' b b2 A (mv A M [(17, 11, 10), (7, 10, 3), (6, 9, 20), (21, 8, 55), (11, 7, 6), (1, 6, 44), (16, 5, 36), (15, 4, 27), (5, 3, 28), (20, 2, 62), (10, 1, 1)])) (H.put_ hne 17 (Kec.rot (A 11) 10)) ?_
  clear H
  intro w1 H
  refine region_tail 8 (fun w' => RhoAt w w' b b2 A (mv A M [(17, 11, 10), (7, 10, 3), (6, 9, 20), (21, 8, 55), (11, 7, 6), (1, 6, 44), (16, 5, 36), (15, 4, 27), (5, 3, 28), (20, 2, 62), (10, 1, 1)])) (by kernel_rfl) (by kernel_rfl) H.drew ?_
  clear H
  intro w1 H
  have c := H.s.cell 12 (by decide)
  have d := H.m.cell 2 (by decide)
  have f := H.m.frozen 2
  simp only [List.take_succ_cons, List.take_zero, List.drop_succ_cons, List.drop_zero]
  still_step
  still_step
  still_step
  still_step
  still_step
  still_call (rotl_q _ 43 (by decide) _)
  still_step
  still_step
  refine wpStill_nil ?_
  go_wp2_with fail
  clear c d f
  refine wp_gen (fun w' => RhoAt w w' b b2 A (mv A M [(2, 12, 43), (17, 11, 10), (7, 10, 3), (6, 9, 20), (21, 8, 55), (11, 7, 6), (1, 6, 44), (16, 5, 36), (15, 4, 27), (5, 3, 28), (20, 2, 62), (10, 1, 1)])) (H.put_ hne 2 (Kec.rot (A 12) 43)) ?_
  clear H
  intro w1 H
  refine region_tail 8 (fun w' => RhoAt w w' b b2 A (mv A M [(2, 12, 43), (17, 11, 10), (7, 10, 3), (6, 9, 20), (21, 8, 55), (11, 7, 6), (1, 6, 44), (16, 5, 36), (15, 4, 27), (5, 3, 28), (20, 2, 62), (10, 1, 1)])) (by kernel_rfl) (by kernel_rfl) H.drew ?_
  clear H
  intro w1 H
  have c := H.s.cell 13 (by decide)
  have d := H.m.cell 12 (by decide)
  have f := H.m.frozen 12
  simp only [List.take_succ_cons, List.take_zero, List.drop_succ_cons, List.drop_zero]
  still_step
  still_step
  still_step
  still_step
  still_step
  still_call (rotl_q _ 25 (by decide) _)
  still_step
  still_step
  refine wpStill_nil ?_
  go_wp2_with fail
  clear c d f
  refine wp_gen (fun w' => RhoAt w w' b b2 A (mv A M [(12, 13, 25), (2, 12, 43), (17, 11, 10), (7, 10, 3), (6, 9, 20), (21, 8, 55), (11, 7, 6), (1, 6, 44), (16, 5, 36), (15, 4, 27), (5, 3, 28), (20, 2, 62), (10, 1, 1)])) (H.put_ hne 12 (Kec.rot (A 13) 25)) ?_
  clear H
  intro w1 H
  refine region_tail 8 (fun w' => RhoAt w w' b b2 A (mv A M [(12, 13, 25), (2, 12, 43), (17, 11, 10), (7, 10, 3), (6, 9, 20), (21, 8, 55), (11, 7, 6), (1, 6, 44), (16, 5, 36), (15, 4, 27), (5, 3, 28), (20, 2, 62), (10, 1, 1)])) (by kernel_rfl) (by kernel_rfl) H.drew ?_
  clear H
  intro w1 H
  have c := H.s.cell 14 (by decide)
  have d := H.m.cell 22 (by decide)
  have f := H.m.frozen 22
  simp only [List.take_succ_cons, List.take_zero, List.drop_succ_cons, List.drop_zero]
  still_step
  still_step
  still_step
  still_step
  still_step
  still_call (rotl_q _ 39 (by decide) _)
  still_step
  still_step
  refine wpStill_nil ?_
  go_wp2_with fail
  clear c d f
  refine wp_gen (fun w' => RhoAt w w' b b2 A (mv A M [(22, 14, 39), (12, 13, 25), (2, 12, 43), (17, 11, 10), (7, 10, 3), (6, 9, 20), (21, 8, 55), (11, 7, 6), (1, 6, 44), (16, 5, 36), (15, 4, 27), (5, 3, 28), (20, 2, 62), (10, 1, 1)])) (H.put_ hne 22 (Kec.rot (A 14) 39)) ?_
  clear H
  intro w1 H
  refine region_tail 8 (fun w' => RhoAt w w' b b2 A (mv A M [(22, 14, 39), (12, 13, 25), (2, 12, 43), (17, 11, 10), (7, 10, 3), (6, 9, 20), (21, 8, 55), (11, 7, 6), (1, 6, 44), (16, 5, 36), (15, 4, 27), (5, 3, 28), (20, 2, 62), (10, 1, 1)])) (by kernel_rfl) (by kernel_rfl) H.drew ?_
  clear H
  intro w1 H
  have c := H.s.cell 15 (by decide)
  have d := H.m.cell 23 (by decide)
  have f := H.m.frozen 23
  simp only [List.take_succ_cons, List.take_zero, List.drop_succ_cons, List.drop_zero]
  still_step
  still_step
  still_step
  still_step
  still_step
  still_call (rotl_q _ 41 (by decide) _)
  still_step
  still_step
  refine wpStill_nil ?_
  go_wp2_with fail
  clear c d f
  refine wp_gen (fun w' => RhoAt w w' b b2 A (mv A M [(23, 15, 41), (22, 14, 39), (12, 13, 25), (2, 12, 43), (17, 11, 10), (7, 10, 3), (6, 9, 20), (21, 8, 55), (11, 7, 6), (1, 6, 44), (16, 5, 36), (15, 4, 27), (5, 3, 28), (20, 2, 62), (10, 1, 1)])) (H.put_ hne 23 (Kec.rot (A 15) 41)) ?_
  clear H
  intro w1 H
  refine region_tail 8 (fun w' => RhoAt w w' b b2 A (mv A M [(23, 15, 41), (22, 14, 39), (12, 13, 25), (2, 12, 43), (17, 11, 10), (7, 10, 3), (6, 9, 20), (21, 8, 55), (11, 7, 6), (1, 6, 44), (16, 5, 36), (15, 4, 27), (5, 3, 28), (20, 2, 62), (10, 1, 1)])) (by kernel_rfl) (by kernel_rfl) H.drew ?_
  clear H
  intro w1 H
  have c := H.s.cell 16 (by decide)
  have d := H.m.cell 8 (by decide)
  have f := H.m.frozen 8
  simp only [List.take_succ_cons, List.take_zero, List.drop_succ_cons, List.drop_zero]
  still_step
  still_step
  still_step
  still_step
  still_step
  still_call (rotl_q _ 45 (by decide) _)
  still_step
  still_step
  refine wpStill_nil ?_
  go_wp2_with fail
  clear c d f
  refine wp_gen (fun w' => RhoAt w w' b b2 A (mv A M [(8, 16, 45), (23, 15, 41), (22, 14, 39), (12, 13, 25), (2, 12, 43), (17, 11, 10), (7, 10, 3), (6, 9, 20), (21, 8, 55), (11, 7, 6), (1, 6, 44), (16, 5, 36), (15, 4, 27), (5, 3, 28), (20, 2, 62), (10, 1, 1)])) (H.put_ hne 8 (Kec.rot (A 16) 45)) ?_
  clear H
  intro w1 H
  refine region_tail 8 (fun w' => RhoAt w w' b b2 A (mv A M [(8, 16, 45), (23, 15, 41), (22, 14, 39), (12, 13, 25), (2, 12, 43), (17, 11, 10), (7, 10, 3), (6, 9, 20), (21, 8, 55), (11, 7, 6), (1, 6, 44), (16, 5, 36), (15, 4, 27), (5, 3, 28), (20, 2, 62), (10, 1, 1)])) (by kernel_rfl) (by kernel_rfl) H.drew ?_
  clear H
  intro w1 H
  have c := H.s.cell 17 (by decide)
  have d := H.m.cell 18 (by decide)
  have f := H.m.frozen 18
  simp only [List.take_succ_cons, List.take_zero, List.drop_succ_cons, List.drop_zero]
  still_step
  still_step
  still_step
  still_step
  still_step
  still_call (rotl_q _ 15 (by decide) _)
  still_step
  still_step
  refine wpStill_nil ?_
  go_wp2_with fail
  clear c d f
  refine wp_gen (fun w' => RhoAt w w' b b2 A (mv A M [(18, 17, 15), (8, 16, 45), (23, 15, 41), (22, 14, 39), (12, 13, 25), (2, 12, 43), (17, 11, 10), (7, 10, 3), (6, 9, 20), (21, 8, 55), (11, 7, 6), (1, 6, 44), (16, 5, 36), (15, 4, 27), (5, 3, 28), (20, 2, 62), (10, 1, 1)])) (H.put_ hne 18 (Kec.rot (A 17) 15)) ?_
  clear H
  intro w1 H
  refine region_tail 8 (fun w' => RhoAt w w' b b2 A (mv A M [(18, 17, 15), (8, 16, 45), (23, 15, 41), (22, 14, 39), (12, 13, 25), (2, 12, 43), (17, 11, 10), (7, 10, 3), (6, 9, 20), (21, 8, 55), (11, 7, 6), (1, 6, 44), (16, 5, 36), (15, 4, 27), (5, 3, 28), (20, 2, 62), (10, 1, 1)])) (by kernel_rfl) (by kernel_rfl) H.drew ?_
  clear H
  intro w1 H
  have c := H.s.cell 18 (by decide)
  have d := H.m.cell 3 (by decide)
  have f := H.m.frozen 3
  simp only [List.take_succ_cons, List.take_zero, List.drop_succ_cons, List.drop_zero]
  still_step
  still_step
  still_step
  still_step
  still_step
  still_call (rotl_q _ 21 (by decide) _)
  still_step
  still_step
  refine wpStill_nil ?_
  go_wp2_with fail
  clear c d f
  refine wp_gen (fun w' => RhoAt w w' b b2 A (mv A M [(3, 18, 21), (18, 17, 15), (8, 16, 45), (23, 15, 41), (22, 14, 39), (12, 13, 25), (2, 12, 43), (17, 11, 10), (7, 10, 3), (6, 9, 20), (21, 8, 55), (11, 7, 6), (1, 6, 44), (16, 5, 36), (15, 4, 27), (5, 3, 28), (20, 2, 62), (10, 1, 1)])) (H.put_ hne 3 (Kec.rot (A 18) 21)) ?_
  clear H
  intro w1 H
  refine region_tail 8 (fun w' => RhoAt w w' b b2 A (mv A M [(3, 18, 21), (18, 17, 15), (8, 16, 45), (23, 15, 41), (22, 14, 39), (12, 13, 25), (2, 12, 43), (17, 11, 10), (7, 10, 3), (6, 9, 20), (21, 8, 55), (11, 7, 6), (1, 6, 44), (16, 5, 36), (15, 4, 27), (5, 3, 28), (20, 2, 62), (10, 1, 1)])) (by kernel_rfl) (by kernel_rfl) H.drew ?_
  clear H
  intro w1 H
  have c := H.s.cell 19 (by decide)
  have d := H.m.cell 13 (by decide)
  have f := H.m.frozen 13
  simp only [List.take_succ_cons, List.take_zero, List.drop_succ_cons, List.drop_zero]
  still_step
  still_step
  still_step
  still_step
  still_step
  still_call (rotl_q _ 8 (by decide) _)
  still_step
  still_step
  refine wpStill_nil ?_
  go_wp2_with fail
  clear c d f
  refine wp_gen (fun w' => RhoAt w w' b b2 A (mv A M [(13, 19, 8), (3, 18, 21), (18, 17, 15), (8, 16, 45), (23, 15, 41), (22, 14, 39), (12, 13, 25), (2, 12, 43), (17, 11, 10), (7, 10, 3), (6, 9, 20), (21, 8, 55), (11, 7, 6), (1, 6, 44), (16, 5, 36), (15, 4, 27), (5, 3, 28), (20, 2, 62), (10, 1, 1)])) (H.put_ hne 13 (Kec.rot (A 19) 8)) ?_
  clear H
  intro w1 H
  refine region_tail 8 (fun w' => RhoAt w w' b b2 A (mv A M [(13, 19, 8), (3, 18, 21), (18, 17, 15), (8, 16, 45), (23, 15, 41), (22, 14, 39), (12, 13, 25), (2, 12, 43), (17, 11, 10), (7, 10, 3), (6, 9, 20), (21, 8, 55), (11, 7, 6), (1, 6, 44), (16, 5, 36), (15, 4, 27), (5, 3, 28), (20, 2, 62), (10, 1, 1)])) (by kernel_rfl) (by kernel_rfl) H.drew ?_
  clear H
  intro w1 H
  have c := H.s.cell 20 (by decide)
  have d := H.m.cell 14 (by decide)
  have f := H.m.frozen 14
  simp only [List.take_succ_cons, List.take_zero, List.drop_succ_cons, List.drop_zero]
  still_step
  still_step
  still_step
  still_step
  still_step
  still_call (rotl_q _ 18 (by decide) _)
  still_step
  still_step
  refine wpStill_nil ?_
  go_wp2_with fail
  clear c d f
  refine wp_gen (fun w' => RhoAt w w' b b2 A (mv A M [(14, 20, 18), (13, 19, 8), (3, 18, 21), (18, 17, 15), (8, 16, 45), (23, 15, 41), (22, 14, 39), (12, 13, 25), (2, 12, 43), (17, 11, 10), (7, 10, 3), (6, 9, 20), (21, 8, 55), (11, 7, 6), (1, 6, 44), (16, 5, 36), (15, 4, 27), (5, 3, 28), (20, 2, 62), (10, 1, 1)])) (H.put_ hne 14 (Kec.rot (A 20) 18)) ?_
  clear H
  intro w1 H
  refine region_tail 8 (fun w' => RhoAt w w' b b2 A (mv A M [(14, 20, 18), (13, 19, 8), (3, 18, 21), (18, 17, 15), (8, 16, 45), (23, 15, 41), (22, 14, 39), (12, 13, 25), (2, 12, 43), (17, 11, 10), (7, 10, 3), (6, 9, 20), (21, 8, 55), (11, 7, 6), (1, 6, 44), (16, 5, 36), (15, 4, 27), (5, 3, 28), (20, 2, 62), (10, 1, 1)])) (by kernel_rfl) (by kernel_rfl) H.drew ?_
  clear H
  intro w1 H
  have c := H.s.cell 21 (by decide)
  have d := H.m.cell 24 (by decide)
  have f := H.m.frozen 24
  simp only [List.take_succ_cons, List.take_zero, List.drop_succ_cons, List.drop_zero]
  still_step
  still_step
  still_step
  still_step
  still_step
  still_call (rotl_q _ 2 (by decide) _)
  still_step
  still_step
  refine wpStill_nil ?_
  go_wp2_with fail
  clear c d f
  refine wp_gen (fun w' => RhoAt w w' b b2 A (mv A M [(24, 21, 2), (14, 20, 18), (13, 19, 8), (3, 18, 21), (18, 17, 15), (8, 16, 45), (23, 15, 41), (22, 14, 39), (12, 13, 25), (2, 12, 43), (17, 11, 10), (7, 10, 3), (6, 9, 20), (21, 8, 55), (11, 7, 6), (1, 6, 44), (16, 5, 36), (15, 4, 27), (5, 3, 28), (20, 2, 62), (10, 1, 1)])) (H.put_ hne 24 (Kec.rot (A 21) 2)) ?_
  clear H
  intro w1 H
  refine region_tail 8 (fun w' => RhoAt w w' b b2 A (mv A M [(24, 21, 2), (14, 20, 18), (13, 19, 8), (3, 18, 21), (18, 17, 15), (8, 16, 45), (23, 15, 41), (22, 14, 39), (12, 13, 25), (2, 12, 43), (17, 11, 10), (7, 10, 3), (6, 9, 20), (21, 8, 55), (11, 7, 6), (1, 6, 44), (16, 5, 36), (15, 4, 27), (5, 3, 28), (20, 2, 62), (10, 1, 1)])) (by kernel_rfl) (by kernel_rfl) H.drew ?_
  clear H
  intro w1 H
  have c := H.s.cell 22 (by decide)
  have d := H.m.cell 9 (by decide)
  have f := H.m.frozen 9
  simp only [List.take_succ_cons, List.take_zero, List.drop_succ_cons, List.drop_zero]
  still_step
  still_step
  still_step
  still_step
  still_step
  still_call (rotl_q _ 61 (by decide) _)
  still_step
  still_step
  refine wpStill_nil ?_
  go_wp2_with fail
  clear c d f
  refine wp_gen (fun w' => RhoAt w w' b b2 A (mv A M [(9, 22, 61), (24, 21, 2), (14, 20, 18), (13, 19, 8), (3, 18, 21), (18, 17, 15), (8, 16, 45), (23, 15, 41), (22, 14, 39), (12, 13, 25), (2, 12, 43), (17, 11, 10), (7, 10, 3), (6, 9, 20), (21, 8, 55), (11, 7, 6), (1, 6, 44), (16, 5, 36), (15, 4, 27), (5, 3, 28), (20, 2, 62), (10, 1, 1)])) (H.put_ hne 9 (Kec.rot (A 22) 61)) ?_
  clear H
  intro w1 H
  refine region_tail 8 (fun w' => RhoAt w w' b b2 A (mv A M [(9, 22, 61), (24, 21, 2), (14, 20, 18), (13, 19, 8), (3, 18, 21), (18, 17, 15), (8, 16, 45), (23, 15, 41), (22, 14, 39), (12, 13, 25), (2, 12, 43), (17, 11, 10), (7, 10, 3), (6, 9, 20), (21, 8, 55), (11, 7, 6), (1, 6, 44), (16, 5, 36), (15, 4, 27), (5, 3, 28), (20, 2, 62), (10, 1, 1)])) (by kernel_rfl) (by kernel_rfl) H.drew ?_
  clear H
  intro w1 H
  have c := H.s.cell 23 (by decide)
  have d := H.m.cell 19 (by decide)
  have f := H.m.frozen 19
  simp only [List.take_succ_cons, List.take_zero, List.drop_succ_cons, List.drop_zero]
  still_step
  still_step
  still_step
  still_step
  still_step
  still_call (rotl_q _ 56 (by decide) _)
  still_step
  still_step
  refine wpStill_nil ?_
  go_wp2_with fail
  clear c d f
  refine wp_gen (fun w' => RhoAt w w' b b2 A (mv A M [(19, 23, 56), (9, 22, 61), (24, 21, 2), (14, 20, 18), (13, 19, 8), (3, 18, 21), (18, 17, 15), (8, 16, 45), (23, 15, 41), (22, 14, 39), (12, 13, 25), (2, 12, 43), (17, 11, 10), (7, 10, 3), (6, 9, 20), (21, 8, 55), (11, 7, 6), (1, 6, 44), (16, 5, 36), (15, 4, 27), (5, 3, 28), (20, 2, 62), (10, 1, 1)])) (H.put_ hne 19 (Kec.rot (A 23) 56)) ?_
  clear H
  intro w1 H
  refine region_tail 8 (fun w' => RhoAt w w' b b2 A (mv A M [(19, 23, 56), (9, 22, 61), (24, 21, 2), (14, 20, 18), (13, 19, 8), (3, 18, 21), (18, 17, 15), (8, 16, 45), (23, 15, 41), (22, 14, 39), (12, 13, 25), (2, 12, 43), (17, 11, 10), (7, 10, 3), (6, 9, 20), (21, 8, 55), (11, 7, 6), (1, 6, 44), (16, 5, 36), (15, 4, 27), (5, 3, 28), (20, 2, 62), (10, 1, 1)])) (by kernel_rfl) (by kernel_rfl) H.drew ?_
  clear H
  intro w1 H
  have c := H.s.cell 24 (by decide)
  have d := H.m.cell 4 (by decide)
  have f := H.m.frozen 4
  simp only [List.take_succ_cons, List.take_zero, List.drop_succ_cons, List.drop_zero]
  still_step
  still_step
  still_step
  still_step
  still_step
  still_call (rotl_q _ 14 (by decide) _)
  still_step
  still_step
  refine wpStill_nil ?_
  go_wp2_with fail
  clear c d f
  go_end0
  have H5 := H.put_ hne 4 (Kec.rot (A 24) 14)
  exact ⟨rfl, H5.m.congr (mv_all A M), H5.g⟩
end Go.Proofs.YtmmdldicafbjdaaGreatDoor.Dg
