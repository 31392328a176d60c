/- The laws DigestPermutes and DigestPermutations return true. Condition: the round constants lie in their variable. -/
import Derived.Test.YtkcpncgngblooaaDoorAwake
import Derived.Test.YtkcpncgngblooaaDoorRefPerm
namespace Go.Proofs.YtkcpncgngblooaaDoor
open Go.RowKit

theorem info26c (A : Kec.St) : (Tryd.prog.info? 26).map (·.size) = some (cells A).length := by rw [cells_len]; exact info26
/-- Two boxed states are kept. -/
structure TwoAt (w w' : World) (b0 b1 : Nat) (A B : Kec.St) : Prop where
  a : IsSt w' b0 A
  b : IsSt w' b1 B
  k : Below w.heap.size w w'
theorem TwoAt.below {w w' w'' : World} {b0 b1 : Nat} {A B : Kec.St} (h : TwoAt w w' b0 b1 A B) (hb : Below w'.heap.size w' w'') : TwoAt w w'' b0 b1 A B :=
  ⟨World.rowIs.of_block h.a (hb.block _ (World.rowIs.lt h.a)), World.rowIs.of_block h.b (hb.block _ (World.rowIs.lt h.b)), h.k.trans (hb.mono h.k.size)⟩
theorem TwoAt.drew {w w' : World} {b0 b1 : Nat} {A B : Kec.St} (h : TwoAt w w' b0 b1 A B) : TwoAt w w'.drew b0 b1 A B := ⟨h.a, h.b, h.k.drew⟩
theorem IsSt.range {w : World} {b : Nat} {A : Kec.St} (h : IsSt w b A) : w.rangeAt b 0 (cells A) := fun j v hv => by
  by_cases hj : j < 25
  · rw [cells_get A j hj] at hv
    rw [Nat.zero_add, h.cell j hj, hv]
  · rw [List.getElem?_eq_none (by rw [cells_len]; omega)] at hv; cases hv
theorem TwoAt.both {w w' : World} {b0 b1 : Nat} {A B : Kec.St} (h : TwoAt w w' b0 b1 A B) : w'.rangeAt b0 0 (cells A) ∧ w'.rangeAt b1 0 (cells B) ∧ TwoAt w w' b0 b1 A B := ⟨h.a.range, h.b.range, h⟩
/-- Whether two states are equal, as the walk asks it. -/
def sameB (A B : Kec.St) : Bool := (List.range 25).all fun i => U (A i) == U (B i)
theorem sameB_iff (A B : Kec.St) : sameB A B = true ↔ Kec.Same A B := by
  unfold sameB
  rw [List.all_eq_true]
  constructor
  · intro h i hi; exact U_inj (by simpa using h i (by simpa using hi))
  · intro h i hi; rw [h i (by simpa using hi)]; simp
theorem sameB_refl (A : Kec.St) : sameB A A = true := (sameB_iff A A).2 fun _ _ => rfl
theorem sameB_perm (A B : Kec.St) : sameB (Kec.perm A) (Kec.perm B) = sameB A B := by
  rw [Bool.eq_iff_iff, sameB_iff, sameB_iff]
  exact ⟨Kec.perm_inj A B, fun h => Kec.permN_congr A B h 24⟩
theorem eq_arr (A B : Kec.St) (w : World) : (Op.equalIn 10000 26 (.agg (arr A)) (.agg (arr B))).run Tryd.prog w = .ok (sameB A B) w := by
  obtain ⟨inf, hi⟩ := Option.isSome_iff_exists.1 (show (Tryd.prog.info? 25).isSome = true by kernel_rfl)
  exact run_equalIn_arr (P := Tryd.prog) 9998 26 25 25 .u64 (arr A) (arr B) (fun i => U (A i)) (fun i => U (B i)) w inf Tryd.underlying26 Tryd.underlying25 hi (by kernel_rfl) (fun i hi => arr_get A i hi) (fun i hi => arr_get B i hi)

set_option maxHeartbeats 4000000 in
set_option maxRecDepth 100000 in
theorem permutes_law (A : Kec.St) (w : World) (hC : Consts w) :
    Calls Tryd.prog 4 #[.agg (arr A)] w fun e w' => e = .returned (.bool true) ∧ Below w.heap.size w w' := by
  have hq := eq_arr (Kec.perm A) (Kec.perm A)
  rw [sameB_refl] at hq
  have HQ := Lib.hid hq
  clear hq
  have hu := Tryd.underlying26
  have H : TwoAt w (w.alloc (.cells (arr A) 26)) w.heap.size w.heap.size A A := ⟨.of_row (heap_alloc_new w _), .of_row (heap_alloc_new w _), (Below.refl _ _).alloc (Nat.le_refl _) _⟩
  go_enter Tryd.func4, Tryd.ntmps4
  go_upto_region 1 with (fail)
  obtain ⟨b0, hb0⟩ : ∃ b, b = w.heap.size := ⟨_, rfl⟩
  rw [← hb0] at H
  rw [← hb0]
  refine wp_gen (fun w' => TwoAt w w' b0 b0 A A) H ?_
  clear H hb0
  intro w1 H
  have hq := HQ.out
  clear HQ
  refine wp_region_held_drew (S := fun w' => TwoAt w w' b0 b0 A A) (by kernel_rfl) H.drew (fun H => ?_)
  refine wpAnyH_ready (rs := [0]) (by kernel_rfl) (by simp) ?_
  refine AllReadyH.cons rfl (fun K hK => ?_) AllReadyH.nil
  rw [if_pos (by rfl)]
  go_simp
  refine (awake_any _ (hC.below H.k)).mono ?_
  rintro e wx ⟨rfl, hbx⟩
  go_wp2_with fail
  refine hK.out _ _ (H.below hbx) (fun H => ?_)
  clear hK K hbx
  refine wpAnyH_take (i := 1) (v := .bool true) rfl (by kernel_rfl) (by kernel_rfl) (by kernel_rfl) (fun _ _ _ h => h) (Or.inl ⟨by rfl, fun w _ => by go_simp⟩) H ?_
  refine wpAnyH_take (i := 2) (v := .agg (cells A).toArray) rfl (by kernel_rfl) (by kernel_rfl) (by kernel_rfl) (fun _ _ _ h => h) (yieldsIf_load_mid (by rfl) _ _ rfl b0 0 rfl (cells A) _ (fun w h => h.a.range) hu rfl (info26c A)) H ?_
  refine wpAnyH_take (i := 4) (v := .agg (cells A).toArray) rfl (by kernel_rfl) (by kernel_rfl) (by kernel_rfl) (fun _ _ _ h => h) (yieldsIf_load_mid (by rfl) _ _ rfl b0 0 rfl (cells A) _ (fun w h => h.a.range) hu rfl (info26c A)) H ?_
  refine wpAnyH_ready (rs := [3]) (by kernel_rfl) (by simp) ?_
  refine AllReadyH.cons rfl (fun K hK => ?_) AllReadyH.nil
  rw [if_pos (by rfl)]
  go_simp
  refine (permute_any A _ (hC.below H.k)).mono ?_
  rintro e wx ⟨rfl, hbx⟩
  go_wp2_with fail
  refine hK.out _ _ (H.below hbx) (fun H => ?_)
  clear hK K hbx
  refine wpAnyH_ready (rs := [5]) (by kernel_rfl) (by simp) ?_
  refine AllReadyH.cons rfl (fun K hK => ?_) AllReadyH.nil
  rw [if_pos (by rfl)]
  go_simp
  refine (refPermute_any A _).mono ?_
  rintro e wx ⟨rfl, hbx⟩
  go_wp2_with fail
  refine hK.out _ _ (H.below hbx) (fun H => ?_)
  clear hK K hbx
  refine wpAnyH_take (i := 6) (v := .bool true) rfl (by kernel_rfl) (by kernel_rfl) (by kernel_rfl) (fun _ _ _ h => h) (Or.inl ⟨by rfl, fun w _ => by go_simp⟩) H ?_
  refine wpAnyH_take (i := 7) (v := .bool true) rfl (by kernel_rfl) (by kernel_rfl) (by kernel_rfl) (fun _ _ _ h => h) (Or.inl ⟨by rfl, fun w _ => by go_simp⟩) H ?_
  refine wpAnyH_take (i := 8) (v := .bool true) rfl (by kernel_rfl) (by kernel_rfl) (by kernel_rfl) (fun _ _ _ h => h) (Or.inl ⟨by rfl, fun w _ => by go_simp⟩) H ?_
  refine wpAnyH_done (by kernel_rfl) ?_ _
  go_wp2_with fail
  go_ret
  exact ⟨rfl, H.k⟩

set_option maxHeartbeats 4000000 in
set_option maxRecDepth 100000 in
theorem permutations_law (A B : Kec.St) (w : World) (hC : Consts w) :
    Calls Tryd.prog 5 #[.agg (arr A), .agg (arr B)] w fun e w' => e = .returned (.bool true) ∧ Below w.heap.size w w' := by
  have hq := eq_arr (Kec.perm A) (Kec.perm B)
  have hr : ∀ w, (Op.equalIn 10000 26 (.agg (cells A).toArray) (.agg (cells B).toArray)).run Tryd.prog w = .ok (sameB A B) w := eq_arr A B
  rw [sameB_perm] at hq
  generalize sameB A B = r at hq hr
  have HQ := Lib.hid hq
  have HR := Lib.hid hr
  clear hq hr
  have hu := Tryd.underlying26
  have H : TwoAt w ((w.alloc (.cells (arr A) 26)).alloc (.cells (arr B) 26)) w.heap.size (w.heap.size + 1) A B := by
    have h1 : IsSt (w.alloc (.cells (arr A) 26)) w.heap.size A := .of_row (heap_alloc_new w _)
    refine ⟨World.rowIs.alloc h1 _, .of_row ?_, ((Below.refl _ _).alloc (Nat.le_refl _) _).alloc (by simp) _⟩
    have := heap_alloc_new (w.alloc (.cells (arr A) 26)) (.cells (arr B) 26)
    simpa using this
  go_enter Tryd.func5, Tryd.ntmps5
  go_upto_region 1 with (fail)
  obtain ⟨b0, hb0⟩ : ∃ b, b = w.heap.size := ⟨_, rfl⟩
  rw [← hb0] at H
  rw [← hb0]
  generalize hb1 : b0 + 1 = b1 at *
  refine wp_gen (fun w' => TwoAt w w' b0 b1 A B) H ?_
  clear H hb0 hb1
  intro w1 H
  have hq := HQ.out
  have hr := HR.out
  clear HQ HR
  refine wp_region_held_drew (S := fun w' => TwoAt w w' b0 b1 A B) (by kernel_rfl) H.drew (fun H => ?_)
  refine wpAnyH_ready (rs := [0]) (by kernel_rfl) (by simp) ?_
  refine AllReadyH.cons rfl (fun K hK => ?_) AllReadyH.nil
  rw [if_pos (by rfl)]
  go_simp
  refine (awake_any _ (hC.below H.k)).mono ?_
  rintro e wx ⟨rfl, hbx⟩
  go_wp2_with fail
  refine hK.out _ _ (H.below hbx) (fun H => ?_)
  clear hK K hbx
  refine wpAnyH_take (i := 1) (v := .bool true) rfl (by kernel_rfl) (by kernel_rfl) (by kernel_rfl) (fun _ _ _ h => h) (Or.inl ⟨by rfl, fun w _ => by go_simp⟩) H ?_
  refine wpAnyH_take (i := 2) (v := .agg (cells A).toArray) rfl (by kernel_rfl) (by kernel_rfl) (by kernel_rfl) (fun _ _ _ h => h) (yieldsIf_load_mid (by rfl) _ _ rfl b0 0 rfl (cells A) _ (fun w h => h.a.range) hu rfl (info26c A)) H ?_
  refine wpAnyH_take (i := 4) (v := .agg (cells B).toArray) rfl (by kernel_rfl) (by kernel_rfl) (by kernel_rfl) (fun _ _ _ h => h) (yieldsIf_load_mid (by rfl) _ _ rfl b1 0 rfl (cells B) _ (fun w h => h.b.range) hu rfl (info26c B)) H ?_
  refine wpAnyH_take (i := 7) (v := .agg (cells A).toArray) rfl (by kernel_rfl) (by kernel_rfl) (by kernel_rfl) (fun _ _ _ h => h) (yieldsIf_load_mid (by rfl) _ _ rfl b0 0 rfl (cells A) _ (fun w h => h.a.range) hu rfl (info26c A)) H ?_
  refine wpAnyH_take (i := 8) (v := .agg (cells B).toArray) rfl (by kernel_rfl) (by kernel_rfl) (by kernel_rfl) (fun _ _ _ h => h) (yieldsIf_load_mid (by rfl) _ _ rfl b1 0 rfl (cells B) _ (fun w h => h.b.range) hu rfl (info26c B)) H ?_
  refine wpAnyH_take (i := 9) (v := .bool r) rfl (by kernel_rfl) (by kernel_rfl) (by kernel_rfl) (fun _ _ _ h => h) (Or.inl ⟨by rfl, fun w _ => by go_simp⟩) H ?_
  refine wpAnyH_ready (rs := [3]) (by kernel_rfl) (by simp) ?_
  refine AllReadyH.cons rfl (fun K hK => ?_) AllReadyH.nil
  rw [if_pos (by rfl)]
  go_simp
  refine (permute_any A _ (hC.below H.k)).mono ?_
  rintro e wx ⟨rfl, hbx⟩
  go_wp2_with fail
  refine hK.out _ _ (H.below hbx) (fun H => ?_)
  clear hK K hbx
  refine wpAnyH_ready (rs := [5]) (by kernel_rfl) (by simp) ?_
  refine AllReadyH.cons rfl (fun K hK => ?_) AllReadyH.nil
  rw [if_pos (by rfl)]
  go_simp
  refine (permute_any B _ (hC.below H.k)).mono ?_
  rintro e wx ⟨rfl, hbx⟩
  go_wp2_with fail
  refine hK.out _ _ (H.below hbx) (fun H => ?_)
  clear hK K hbx
  refine wpAnyH_take (i := 6) (v := .bool r) rfl (by kernel_rfl) (by kernel_rfl) (by kernel_rfl) (fun _ _ _ h => h) (Or.inl ⟨by rfl, fun w _ => by go_simp⟩) H ?_
  refine wpAnyH_take (i := 10) (v := .bool true) rfl (by kernel_rfl) (by kernel_rfl) (by kernel_rfl) (fun _ _ _ h => h) (Or.inl ⟨by rfl, fun w _ => by go_simp⟩) H ?_
  refine wpAnyH_take (i := 11) (v := .bool true) rfl (by kernel_rfl) (by kernel_rfl) (by kernel_rfl) (fun _ _ _ h => h) (Or.inl ⟨by rfl, fun w _ => by go_simp⟩) H ?_
  refine wpAnyH_take (i := 12) (v := .bool true) rfl (by kernel_rfl) (by kernel_rfl) (by kernel_rfl) (fun _ _ _ h => h) (Or.inl ⟨by rfl, fun w _ => by go_simp⟩) H ?_
  refine wpAnyH_done (by kernel_rfl) ?_ _
  go_wp2_with fail
  go_ret
  exact ⟨rfl, H.k⟩
end Go.Proofs.YtkcpncgngblooaaDoor
