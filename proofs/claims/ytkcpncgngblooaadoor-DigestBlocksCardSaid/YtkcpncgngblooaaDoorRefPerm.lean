/- The reference's Permute returns the permutation. No condition. -/
import Derived.Test.YtkcpncgngblooaaDoorRound
namespace Go.Proofs.YtkcpncgngblooaaDoor
open Go.RowKit

theorem region_open {P : Program} {id : Nat} {ops : Array Oper} {Q : Exit → Act → World → Prop} {a : Act} {w : World} (R : World → Prop) (hm : P.follows .mixedOrders = true)
    (hR : R w.drew) (h : ∀ w1, R w1 → wpAny P .any ops Q ops.size (Array.replicate ops.size false) a w1) : (Code.region id ops true).wp P Q a w := wp_region_any hm (h w.drew hR)

structure RpAt (w w' : World) (b0 b1 : Nat) (S : Kec.St) : Prop where
  s : IsSt w' b0 S
  r : IsSt w' b1 Z
  k : Below w.heap.size w w'
theorem RpAt.below {w w' w'' : World} {b0 b1 : Nat} {S : Kec.St} (h : RpAt w w' b0 b1 S) (hb : Below w'.heap.size w' w'') : RpAt w w'' b0 b1 S :=
  ⟨World.rowIs.of_block h.s (hb.block _ (World.rowIs.lt h.s)), World.rowIs.of_block h.r (hb.block _ (World.rowIs.lt h.r)), h.k.trans (hb.mono h.k.size)⟩
theorem RpAt.drew {w w' : World} {b0 b1 : Nat} {S : Kec.St} (h : RpAt w w' b0 b1 S) : RpAt w w'.drew b0 b1 S := ⟨h.s, h.r, h.k.drew⟩
theorem RpAt.setRow {w w' : World} {b0 b1 : Nat} {S S' : Kec.St} (h : RpAt w w' b0 b1 S) (h0 : w.heap.size ≤ b0) (h01 : b0 < b1) : RpAt w (w'.setRow b0 (arr S')) b0 b1 S' :=
  ⟨.of_row (setRow_heap _ b0 _ _ _ _ h.s.row), World.rowIs.of_block h.r (setRow_other _ _ _ _ (by omega)), h.k.trans ⟨rfl, rfl, rfl, by simp, fun k hk => setRow_other _ _ _ _ (by omega)⟩⟩

set_option maxHeartbeats 4000000 in
set_option maxRecDepth 100000 in
theorem refPermute_any (A : Kec.St) (w : World) :
    Calls Tryd.prog 14 #[.agg (arr A)] w fun e w' => e = .returned (.agg (arr (Kec.perm A))) ∧ Below w.heap.size w w' := by
  have H0 := PermAt.start A w
  have H : RpAt w ((w.alloc (.cells (arr A) 26)).alloc (.cells #[.int .u64 0, .int .u64 0, .int .u64 0, .int .u64 0, .int .u64 0, .int .u64 0, .int .u64 0, .int .u64 0, .int .u64 0, .int .u64 0, .int .u64 0, .int .u64 0, .int .u64 0, .int .u64 0, .int .u64 0, .int .u64 0, .int .u64 0, .int .u64 0, .int .u64 0, .int .u64 0, .int .u64 0, .int .u64 0, .int .u64 0, .int .u64 0, .int .u64 0] 26)) w.heap.size (w.heap.size + 1) A := by
    refine ⟨World.rowIs.of_block H0.s ?_, World.rowIs.of_block H0.r ?_, ((Below.refl _ _).alloc (Nat.le_refl _) _).alloc (by simp) _⟩
    · exact (Below.heap_alloc _ _ _ (by simp; omega)).symm
    · exact (Below.heap_alloc _ _ _ (by simp)).symm
  clear H0
  go_enter Tryd.func14, Tryd.ntmps14
  go_upto_region 1 with (fail)
  obtain ⟨b0, hb0⟩ : ∃ b, b = w.heap.size := ⟨_, rfl⟩
  rw [← hb0] at H
  rw [← hb0]
  generalize hb1 : b0 + 1 = b1 at *
  refine wp_gen (fun w' => RpAt w w' b0 b1 A) H ?_
  clear H
  intro w1 H
  have h0 : w.heap.size ≤ b0 := by omega
  have h01 : b0 < b1 := by omega
  clear hb0 hb1
  go_wp2_with fail
  go_loopw [3] (fun v wr => ∃ k : Nat, k ≤ 24 ∧ v = .int .i64 k ∧ RpAt w wr b0 b1 (Kec.permN A k)) (fun v _ => 24 - (intOf v).toNat)
  case atStart => exact ⟨0, by omega, rfl, H⟩
  case round =>
    clear H
    obtain ⟨k, hk, rfl, H⟩ := hrel
    by_cases hlt : k < 24
    · go_upto_region 4 with (fail)
      refine region_open (fun w' => RpAt w w' b0 b1 (Kec.permN A k)) (by kernel_rfl) H.drew ?_
      clear H
      intro w1 H
      refine wpAny_take (i := 1) (v := .int .i64 k) rfl (by kernel_rfl) (by kernel_rfl) (by kernel_rfl) (fun _ _ _ h => h) (Or.inl ⟨by rfl, by intro w; go_simp⟩) ?_
      refine wpAny_ready (rs := [0, 2]) (by kernel_rfl) (by simp) ?_
      refine AllReady.cons rfl (fun K hK => ?_) ?_
      · rw [if_pos (by rfl)]
        refine wp_load_row 26 _ rfl b0 rfl 26 _ (0, 0) _ H.s.row Tryd.underlying26 rfl (by rw [arr_size]; exact info26) (hK _ _ ?_)
        clear hK K
        refine wpAny_ready (rs := [2]) (by kernel_rfl) (by simp) ?_
        refine AllReady.cons rfl (fun K hK => ?_) AllReady.nil
        rw [if_pos (by rfl)]
        go_simp
        refine (constant_any k hlt _).mono ?_
        rintro e w2 ⟨rfl, hb⟩
        go_wp2_with fail
        replace H := H.below hb
        clear hb
        refine wpAny_ready (rs := [3]) (by kernel_rfl) (by simp) ?_
        refine AllReady.cons rfl (fun K hK => ?_) AllReady.nil
        rw [if_pos (by rfl)]
        go_simp
        refine (round_any _ _ _).mono ?_
        rintro e w3 ⟨rfl, hb⟩
        go_wp2_with fail
        replace H := H.below hb
        clear hb
        refine wpAny_ready (rs := [4]) (by kernel_rfl) (by simp) ?_
        refine AllReady.cons rfl (fun K hK => ?_) AllReady.nil
        rw [if_pos (by rfl)]
        refine wp_store_row 26 _ _ rfl b0 (arr (Kec.round (Kec.permN A k) (Kec.const k))) rfl rfl 26 _ H.s.row (by rw [arr_size]; exact info26) (by rw [arr_size, arr_size]) (arr_one _) (hK _ _ ?_)
        clear hK K
        refine wpAny_done (by kernel_rfl) ?_ _
        replace H := H.setRow (S' := Kec.round (Kec.permN A k) (Kec.const k)) h0 h01
        go_wp2_with fail
        exact ⟨⟨k + 1, by omega, by go_num, H⟩, by simp [intOf]; omega⟩
      refine AllReady.cons rfl (fun K hK => ?_) AllReady.nil
      rw [if_pos (by rfl)]
      go_simp
      refine (constant_any k hlt _).mono ?_
      rintro e w2 ⟨rfl, hb⟩
      go_wp2_with fail
      replace H := H.below hb
      clear hb
      refine wpAny_ready (rs := [0]) (by kernel_rfl) (by simp) ?_
      refine AllReady.cons rfl (fun K hK => ?_) AllReady.nil
      rw [if_pos (by rfl)]
      refine wp_load_row 26 _ rfl b0 rfl 26 _ (0, 0) _ H.s.row Tryd.underlying26 rfl (by rw [arr_size]; exact info26) (hK _ _ ?_)
      clear hK K
      refine wpAny_ready (rs := [3]) (by kernel_rfl) (by simp) ?_
      refine AllReady.cons rfl (fun K hK => ?_) AllReady.nil
      rw [if_pos (by rfl)]
      go_simp
      refine (round_any _ _ _).mono ?_
      rintro e w3 ⟨rfl, hb⟩
      go_wp2_with fail
      replace H := H.below hb
      clear hb
      refine wpAny_ready (rs := [4]) (by kernel_rfl) (by simp) ?_
      refine AllReady.cons rfl (fun K hK => ?_) AllReady.nil
      rw [if_pos (by rfl)]
      refine wp_store_row 26 _ _ rfl b0 (arr (Kec.round (Kec.permN A k) (Kec.const k))) rfl rfl 26 _ H.s.row (by rw [arr_size]; exact info26) (by rw [arr_size, arr_size]) (arr_one _) (hK _ _ ?_)
      clear hK K
      refine wpAny_done (by kernel_rfl) ?_ _
      replace H := H.setRow (S' := Kec.round (Kec.permN A k) (Kec.const k)) h0 h01
      go_wp2_with fail
      exact ⟨⟨k + 1, by omega, by go_num, H⟩, by simp [intOf]; omega⟩
    · obtain rfl : k = 24 := by omega
      go_wp2_with (first | (refine wpList_load_row rfl 26 _ rfl b0 rfl 26 _ (0, 0) _ H.s.row Tryd.underlying26 rfl (by rw [arr_size]; exact info26) ?_) | (refine wpList_store_row rfl 26 _ _ rfl b1 (arr (Kec.permN A 24)) rfl rfl 26 _ H.r.row (by rw [arr_size]; exact info26) (by rw [arr_size, arr_size]) (arr_one _) ?_))
      exact bodyPost_ret (v := .agg (arr (Kec.perm A))) (results_cell_row rfl _ _ b1 26 _ (0, 0) _ rfl (setRow_heap _ b1 _ _ _ _ H.r.row) Tryd.underlying26 rfl (by rw [arr_size]; exact info26)) rfl ⟨rfl, H.k.trans ⟨rfl, rfl, rfl, by simp, fun k hk => setRow_other _ _ _ _ (by omega)⟩⟩
end Go.Proofs.YtkcpncgngblooaaDoor
