/- Permute returns the permutation. Condition: the round constants lie in their variable. -/
import Derived.Test.YtmmdldicafbjdaaGreatDoorDgChi
import Derived.ChangeKeysEq
namespace Go.Proofs.YtmmdldicafbjdaaGreatDoor.Dg
open Go.RowKit

theorem run_eqItems_ints {P : Program} (d : Nat) (e : TypeId) (k : IntKind) (xs ys : Array Value) (a b : Nat → Int) (w : World)
    (he : P.underlying e = some (.int k)) (hc : P.cellsOf e = 1) : ∀ l : List Nat, (∀ i ∈ l, xs[i]? = some (.int k (a i)) ∧ ys[i]? = some (.int k (b i))) →
    (Op.eqItems (d + 1) e (P.cellsOf e) xs ys l).run P w = .ok (l.all fun i => a i == b i) w
  | [], _ => by simp [Op.eqItems]
  | i :: l, h => by
    have hag : (isAgg e).run P w = .ok false w := by simp [isAgg, run_underlying he]
    have hp : ∀ (zs : Array Value) (v : Value), zs[i]? = some v → (part e zs (i * P.cellsOf e)).run P w = .ok v w := by
      intro zs v hz
      simp [part, hag, hc, hz]
    have h0 := h i (by simp)
    simp only [Op.eqItems, Sem.run_bind, hp xs _ h0.1, hp ys _ h0.2, Result.andThen_ok, run_equalIn_int w d e k k (a i) (b i) he]
    cases hq : (a i == b i)
    · simp [hq]
    · simp only [Bool.not_true, Bool.false_eq_true, if_false]
      rw [run_eqItems_ints d e k xs ys a b w he hc l (fun j hj => h j (by simp [hj]))]
      simp [hq]
theorem run_equalIn_arr {P : Program} (d : Nat) (t e : TypeId) (len : Nat) (k : IntKind) (xs ys : Array Value) (a b : Nat → Int) (w : World) (inf : TypeInfo)
    (ht : P.underlying t = some (.array len e)) (he : P.underlying e = some (.int k)) (hi : P.info? e = some inf) (hc : P.cellsOf e = 1)
    (hx : ∀ i, i < len → xs[i]? = some (.int k (a i))) (hy : ∀ i, i < len → ys[i]? = some (.int k (b i))) :
    (Op.equalIn (d + 2) t (.agg xs) (.agg ys)).run P w = .ok ((List.range len).all fun i => a i == b i) w := by
  rw [run_equalIn_array w (d + 1) xs ys ht hi]
  exact run_eqItems_ints d e k xs ys a b w he hc _ fun i hi => ⟨hx i (by simpa using hi), hy i (by simpa using hi)⟩

/-- The 25 words as the cells of an array. -/
def arr (A : Kec.St) : Array Value := ((List.range 25).map fun i => Value.int .u64 (U (A i))).toArray
theorem arr_get (A : Kec.St) (i : Nat) (hi : i < 25) : (arr A)[i]? = some (.int .u64 (U (A i))) := by
  unfold arr; simp [hi]
theorem arr_size (A : Kec.St) : (arr A).size = 25 := by unfold arr; simp
theorem arr_one (A : Kec.St) : (arr A).all (·.oneCell') = true := by
  rw [Array.all_eq_true_iff_forall_mem]
  intro v hv
  unfold arr at hv
  simp only [List.mem_toArray, List.mem_map] at hv
  obtain ⟨i, _, rfl⟩ := hv
  rfl
theorem IsSt.row {w : World} {b : Nat} {A : Kec.St} (h : IsSt w b A) : w.heap[b]? = some (.cells (arr A) 94 (0, 0)) := by
  obtain ⟨c, hb, hs, hc⟩ := h
  rw [hb]
  have : c = arr A := by
    apply Array.ext_getElem?
    intro i
    by_cases hi : i < 25
    · rw [hc i hi, arr_get A i hi]
    · rw [Array.getElem?_eq_none (by omega), Array.getElem?_eq_none (by rw [arr_size]; omega)]
  rw [this]
theorem IsSt.of_row {w : World} {b : Nat} {A : Kec.St} (h : w.heap[b]? = some (.cells (arr A) 94 (0, 0))) : IsSt w b A :=
  ⟨arr A, h, arr_size A, fun i hi => arr_get A i hi⟩

/-- The round constants lie in their variable. -/
def Consts (w : World) : Prop := 1 < w.heap.size ∧ ∀ i, i < 24 → w.cell? ⟨1, i, none⟩ = some (.int .u64 (U (Kec.const i)))

theorem info26 : (Tryz.prog.info? 94).map (·.size) = some 25 := by kernel_rfl

/-- The state of no bits. -/
def Z : Kec.St := fun _ => 0#64
theorem arr_Z : arr Z = #[Value.int .u64 0, Value.int .u64 0, Value.int .u64 0, Value.int .u64 0, Value.int .u64 0, Value.int .u64 0, Value.int .u64 0, Value.int .u64 0, Value.int .u64 0, Value.int .u64 0, Value.int .u64 0, Value.int .u64 0, Value.int .u64 0, Value.int .u64 0, Value.int .u64 0, Value.int .u64 0, Value.int .u64 0, Value.int .u64 0, Value.int .u64 0, Value.int .u64 0, Value.int .u64 0, Value.int .u64 0, Value.int .u64 0, Value.int .u64 0, Value.int .u64 0] := by rfl

structure PermAt (w w' : World) (b0 b1 b2 : Nat) (S M : Kec.St) : Prop where
  s : IsSt w' b0 S
  r : IsSt w' b1 Z
  m : IsSt w' b2 M
  k : Below w.heap.size w w'
theorem Consts.below {w w' : World} (h : Consts w) (hb : Below w.heap.size w w') : Consts w' :=
  ⟨Nat.lt_of_lt_of_le h.1 hb.size, fun i hi => by rw [hb.cell h.1]; exact h.2 i hi⟩
theorem PermAt.turn0 {w w' w'' : World} {b0 b1 b2 : Nat} {S S' M : Kec.St} (h : PermAt w w' b0 b1 b2 S M) (hb0 : w.heap.size ≤ b0) (h01 : b0 < b1) (h12 : b1 < b2) (hs : IsSt w'' b0 S') (hg : w'.grownBy w'' (some b0)) : PermAt w w'' b0 b1 b2 S' M :=
  ⟨hs, World.rowIs.of_block h.r (hg.block b1 (World.rowIs.lt h.r) (by simp; omega)), World.rowIs.of_block h.m (hg.block b2 (World.rowIs.lt h.m) (by simp; omega)), h.k.grown hg h.k.size (by simp; omega)⟩
theorem PermAt.turn2 {w w' w'' : World} {b0 b1 b2 : Nat} {S M M' : Kec.St} (h : PermAt w w' b0 b1 b2 S M) (hb0 : w.heap.size ≤ b0) (h01 : b0 < b1) (h12 : b1 < b2) (hs : IsSt w'' b2 M') (hg : w'.grownBy w'' (some b2)) : PermAt w w'' b0 b1 b2 S M' :=
  ⟨World.rowIs.of_block h.s (hg.block b0 (World.rowIs.lt h.s) (by simp; omega)), World.rowIs.of_block h.r (hg.block b1 (World.rowIs.lt h.r) (by simp; omega)), hs, h.k.grown hg h.k.size (by simp; omega)⟩
theorem PermAt.put0 {w w' : World} {b0 b1 b2 : Nat} {S M : Kec.St} (h : PermAt w w' b0 b1 b2 S M) (hb0 : w.heap.size ≤ b0) (h01 : b0 < b1) (h12 : b1 < b2) (j : Nat) (x : BitVec 64) : PermAt w (w'.setCell ⟨b0, j, none⟩ (.int .u64 (U x))) b0 b1 b2 (upd S j x) M :=
  h.turn0 hb0 h01 h12 (h.s.set_ j x) (only_setCell ⟨rfl, rfl, rfl, Nat.le_refl _, fun _ _ _ => rfl⟩ (.inl rfl) _)
theorem PermAt.drew {w w' : World} {b0 b1 b2 : Nat} {S M : Kec.St} (h : PermAt w w' b0 b1 b2 S M) : PermAt w w'.drew b0 b1 b2 S M := ⟨h.s, h.r, h.m, h.k.drew⟩
theorem PermAt.congr {w w' : World} {b0 b1 b2 : Nat} {S S' M : Kec.St} (h : PermAt w w' b0 b1 b2 S M) (e : Kec.Same S S') : PermAt w w' b0 b1 b2 S' M := ⟨h.s.congr e, h.r, h.m, h.k⟩
theorem PermAt.const {w w' : World} {b0 b1 b2 : Nat} {S M : Kec.St} (h : PermAt w w' b0 b1 b2 S M) (hC : Consts w) (k : Nat) (hk : k < 24) : w'.cell? ⟨1, k, none⟩ = some (.int .u64 (U (Kec.const k))) := (hC.below h.k).2 k hk
theorem iota_upd (S : Kec.St) (c : BitVec 64) : upd S 0 (S 0 ^^^ c) = Kec.iota S c := by funext i; rfl

theorem eq_zero (A : Kec.St) (h : Kec.Same A Z) (w : World) : (Op.equalIn 10000 94 (.agg (arr A)) (.agg #[Value.int .u64 0, Value.int .u64 0, Value.int .u64 0, Value.int .u64 0, Value.int .u64 0, Value.int .u64 0, Value.int .u64 0, Value.int .u64 0, Value.int .u64 0, Value.int .u64 0, Value.int .u64 0, Value.int .u64 0, Value.int .u64 0, Value.int .u64 0, Value.int .u64 0, Value.int .u64 0, Value.int .u64 0, Value.int .u64 0, Value.int .u64 0, Value.int .u64 0, Value.int .u64 0, Value.int .u64 0, Value.int .u64 0, Value.int .u64 0, Value.int .u64 0])).run Tryz.prog w = .ok true w := by
  obtain ⟨inf, hi⟩ := Option.isSome_iff_exists.1 (show (Tryz.prog.info? 93).isSome = true by kernel_rfl)
  rw [← arr_Z, run_equalIn_arr (P := Tryz.prog) 9998 94 93 25 .u64 (arr A) (arr Z) (fun i => U (A i)) (fun i => U (Z i)) w inf Tryz.underlying94 Tryz.underlying93 hi (by kernel_rfl) (fun i hi => arr_get A i hi) (fun i hi => arr_get Z i hi)]
  rw [show ((List.range 25).all fun i => U (A i) == U (Z i)) = true from List.all_eq_true.2 fun i hi => by rw [h i (by simpa using hi)]; simp]
theorem U_inj {x y : BitVec 64} (h : U x = U y) : x = y := by unfold U at h; exact BitVec.eq_of_toNat_eq (by omega)
theorem eq_nonzero (A : Kec.St) (h : ¬ Kec.Same A Z) (w : World) : (Op.equalIn 10000 94 (.agg (arr A)) (.agg #[Value.int .u64 0, Value.int .u64 0, Value.int .u64 0, Value.int .u64 0, Value.int .u64 0, Value.int .u64 0, Value.int .u64 0, Value.int .u64 0, Value.int .u64 0, Value.int .u64 0, Value.int .u64 0, Value.int .u64 0, Value.int .u64 0, Value.int .u64 0, Value.int .u64 0, Value.int .u64 0, Value.int .u64 0, Value.int .u64 0, Value.int .u64 0, Value.int .u64 0, Value.int .u64 0, Value.int .u64 0, Value.int .u64 0, Value.int .u64 0, Value.int .u64 0])).run Tryz.prog w = .ok false w := by
  obtain ⟨inf, hi⟩ := Option.isSome_iff_exists.1 (show (Tryz.prog.info? 93).isSome = true by kernel_rfl)
  rw [← arr_Z, run_equalIn_arr (P := Tryz.prog) 9998 94 93 25 .u64 (arr A) (arr Z) (fun i => U (A i)) (fun i => U (Z i)) w inf Tryz.underlying94 Tryz.underlying93 hi (by kernel_rfl) (fun i hi => arr_get A i hi) (fun i hi => arr_get Z i hi)]
  rw [show ((List.range 25).all fun i => U (A i) == U (Z i)) = false from by
    rw [← Bool.not_eq_true, List.all_eq_true]
    exact fun g => h fun i hi => U_inj (by simpa using g i (by simpa using hi))]

theorem PermAt.start (A : Kec.St) (w : World) : PermAt w (((w.alloc (.cells (arr A) 94)).alloc (.cells #[Value.int .u64 0, Value.int .u64 0, Value.int .u64 0, Value.int .u64 0, Value.int .u64 0, Value.int .u64 0, Value.int .u64 0, Value.int .u64 0, Value.int .u64 0, Value.int .u64 0, Value.int .u64 0, Value.int .u64 0, Value.int .u64 0, Value.int .u64 0, Value.int .u64 0, Value.int .u64 0, Value.int .u64 0, Value.int .u64 0, Value.int .u64 0, Value.int .u64 0, Value.int .u64 0, Value.int .u64 0, Value.int .u64 0, Value.int .u64 0, Value.int .u64 0] 94)).alloc (.cells #[Value.int .u64 0, Value.int .u64 0, Value.int .u64 0, Value.int .u64 0, Value.int .u64 0, Value.int .u64 0, Value.int .u64 0, Value.int .u64 0, Value.int .u64 0, Value.int .u64 0, Value.int .u64 0, Value.int .u64 0, Value.int .u64 0, Value.int .u64 0, Value.int .u64 0, Value.int .u64 0, Value.int .u64 0, Value.int .u64 0, Value.int .u64 0, Value.int .u64 0, Value.int .u64 0, Value.int .u64 0, Value.int .u64 0, Value.int .u64 0, Value.int .u64 0] 94)) w.heap.size (w.heap.size + 1) (w.heap.size + 1 + 1) A Z := by
  rw [← arr_Z]
  have h1 : IsSt (w.alloc (.cells (arr A) 94)) w.heap.size A := .of_row (heap_alloc_new w _)
  have h2 : IsSt ((w.alloc (.cells (arr A) 94)).alloc (.cells (arr Z) 94)) (w.heap.size + 1) Z := .of_row (by have := heap_alloc_new (w.alloc (.cells (arr A) 94)) (.cells (arr Z) 94); simpa using this)
  have hb : Below w.heap.size w (((w.alloc (.cells (arr A) 94)).alloc (.cells (arr Z) 94)).alloc (.cells (arr Z) 94)) := (((Below.refl _ _).alloc (Nat.le_refl _) _).alloc (by simp) _).alloc (by simp; omega) _
  refine ⟨World.rowIs.alloc (World.rowIs.alloc h1 _) _, World.rowIs.alloc h2 _, .of_row ?_, hb⟩
  have := heap_alloc_new ((w.alloc (.cells (arr A) 94)).alloc (.cells (arr Z) 94)) (.cells (arr Z) 94)
  simpa using this

theorem zero_round : ∀ i, i < 25 → Kec.chi (Kec.rhopi (Kec.theta Z)) i = 0#64 := by decide +kernel
theorem first_round (A : Kec.St) (h : Kec.Same A Z) : Kec.Same (upd A 0 (Kec.const 0)) (Kec.permN A 1) := by
  intro i hi
  have h1 : Kec.permN A 1 i = Kec.round Z (Kec.const 0) i := Kec.round_congr A Z _ h i hi
  rw [h1]
  unfold Kec.round Kec.iota upd
  by_cases h0 : i = 0
  · rw [if_pos h0, if_pos h0, zero_round 0 (by decide)]; simp
  · rw [if_neg h0, if_neg h0, zero_round i hi, h i hi]; rfl

set_option maxHeartbeats 4000000 in
set_option maxRecDepth 100000 in
theorem permute_nz (A : Kec.St) (w : World) (hC : Consts w) (hz : ¬ Kec.Same A Z) :
    Calls Tryz.prog 75 #[.agg (arr A)] w fun e w' => e = .returned (.agg (arr (Kec.perm A))) ∧ Below w.heap.size w w' := by
  have H := PermAt.start A w
  have hq := eq_nonzero A hz
  have HQ := Lib.hid hq
  clear hz hq
  go_enter Tryz.func75, Tryz.ntmps75
  go_upto_region 3 with (fail)
  obtain ⟨b0, hb0⟩ : ∃ b, b = w.heap.size := ⟨_, rfl⟩
  rw [← hb0] at H
  rw [← hb0]
  generalize hb1 : b0 + 1 = b1 at *
  generalize hb2 : b1 + 1 = b2 at *
  refine wp_gen (fun w' => PermAt w w' b0 b1 b2 A Z) H ?_
  clear H
  intro w1 H
  have h0 : w.heap.size ≤ b0 := by omega
  have h01 : b0 < b1 := by omega
  have h12 : b1 < b2 := by omega
  have h02 : b0 ≠ b2 := by omega
  clear hb0 hb1 hb2
  have hq := HQ.out
  clear HQ
  go_wp2_with (refine wpList_load_row rfl 94 _ rfl b0 rfl 94 _ (0, 0) _ H.s.row Tryz.underlying94 rfl (by rw [arr_size]; exact info26) ?_)
  clear hq
  go_loopw [5] (fun v wr => ∃ (k : Nat) (M : Kec.St), k ≤ 24 ∧ v = .int .i64 k ∧ PermAt w wr b0 b1 b2 (Kec.permN A k) M) (fun v _ => 24 - (intOf v).toNat)
  case atStart => exact ⟨0, Z, by omega, rfl, H⟩
  case round =>
    clear H
    obtain ⟨k, M, hk, rfl, H⟩ := hrel
    by_cases hlt : k < 24
    · go_wp2_with fail
      refine (theta_any _ _ _ H.s).mono ?_
      rintro e w2 ⟨rfl, hs, hg⟩
      replace H := H.turn0 h0 h01 h12 hs hg
      clear hs hg
      go_wp2_with fail
      refine (rho_any _ _ _ _ _ h02 H.s H.m).mono ?_
      rintro e w3 ⟨rfl, hs, hg⟩
      replace H := H.turn2 h0 h01 h12 hs hg
      clear hs hg
      go_wp2_with fail
      refine (chi_any _ _ _ _ _ h02 H.s H.m).mono ?_
      rintro e w4 ⟨rfl, hs, hg⟩
      replace H := H.turn0 h0 h01 h12 hs hg
      clear hs hg
      have c := H.s.cell 0 (by decide)
      have f := H.s.frozen 0
      have g := H.const hC k hlt
      go_wp2_with fail
      go_region
      go_wp2_with fail
      clear c f g
      refine ⟨⟨k + 1, Kec.rhopi (Kec.theta (Kec.permN A k)), by omega, by go_num, ?_⟩, by simp [intOf]; omega⟩
      have H5 := (H.put0 h0 h01 h12 0 (Kec.chi (Kec.rhopi (Kec.theta (Kec.permN A k))) 0 ^^^ Kec.const k)).drew
      rw [iota_upd] at H5
      exact H5
    · obtain rfl : k = 24 := by omega
      go_wp2_with (first | (refine wpList_load_row rfl 94 _ rfl b0 rfl 94 _ (0, 0) _ H.s.row Tryz.underlying94 rfl (by rw [arr_size]; exact info26) ?_) | (refine wpList_store_row rfl 94 _ _ rfl b1 (arr (Kec.permN A 24)) rfl rfl 94 _ H.r.row (by rw [arr_size]; exact info26) (by rw [arr_size, arr_size]) (arr_one _) ?_))
      exact bodyPost_ret (v := .agg (arr (Kec.perm A))) (results_cell_row rfl _ _ b1 94 _ (0, 0) _ rfl (setRow_heap _ b1 _ _ _ _ H.r.row) Tryz.underlying94 rfl (by rw [arr_size]; exact info26)) rfl ⟨rfl, H.k.trans ⟨rfl, rfl, rfl, by simp, fun k hk => setRow_other _ _ _ _ (by omega)⟩⟩

set_option maxHeartbeats 4000000 in
set_option maxRecDepth 100000 in
theorem permute_z (A : Kec.St) (w : World) (hC : Consts w) (hz : Kec.Same A Z) :
    Calls Tryz.prog 75 #[.agg (arr A)] w fun e w' => e = .returned (.agg (arr (Kec.perm A))) ∧ Below w.heap.size w w' := by
  have H := PermAt.start A w
  have hq := eq_zero A hz
  have HS := Lib.hid (first_round A hz)
  have HQ := Lib.hid hq
  clear hz hq
  go_enter Tryz.func75, Tryz.ntmps75
  go_upto_region 3 with (fail)
  obtain ⟨b0, hb0⟩ : ∃ b, b = w.heap.size := ⟨_, rfl⟩
  rw [← hb0] at H
  rw [← hb0]
  generalize hb1 : b0 + 1 = b1 at *
  generalize hb2 : b1 + 1 = b2 at *
  refine wp_gen (fun w' => PermAt w w' b0 b1 b2 A Z) H ?_
  clear H
  intro w1 H
  have h0 : w.heap.size ≤ b0 := by omega
  have h01 : b0 < b1 := by omega
  have h12 : b1 < b2 := by omega
  have h02 : b0 ≠ b2 := by omega
  clear hb0 hb1 hb2
  have hq := HQ.out
  clear HQ
  have c := H.s.cell 0 (by decide)
  have f := H.s.frozen 0
  have g := H.const hC 0 (by decide)
  go_wp2_with (refine wpList_load_row rfl 94 _ rfl b0 rfl 94 _ (0, 0) _ H.s.row Tryz.underlying94 rfl (by rw [arr_size]; exact info26) ?_)
  clear hq c f g
  replace H := (H.put0 h0 h01 h12 0 (Kec.const 0)).congr HS.out
  clear HS
  go_loopw [5] (fun v wr => ∃ (k : Nat) (M : Kec.St), k ≤ 24 ∧ v = .int .i64 k ∧ PermAt w wr b0 b1 b2 (Kec.permN A k) M) (fun v _ => 24 - (intOf v).toNat)
  case atStart => exact ⟨1, Z, by omega, rfl, H⟩
  case round =>
    clear H
    obtain ⟨k, M, hk, rfl, H⟩ := hrel
    by_cases hlt : k < 24
    · go_wp2_with fail
      refine (theta_any _ _ _ H.s).mono ?_
      rintro e w2 ⟨rfl, hs, hg⟩
      replace H := H.turn0 h0 h01 h12 hs hg
      clear hs hg
      go_wp2_with fail
      refine (rho_any _ _ _ _ _ h02 H.s H.m).mono ?_
      rintro e w3 ⟨rfl, hs, hg⟩
      replace H := H.turn2 h0 h01 h12 hs hg
      clear hs hg
      go_wp2_with fail
      refine (chi_any _ _ _ _ _ h02 H.s H.m).mono ?_
      rintro e w4 ⟨rfl, hs, hg⟩
      replace H := H.turn0 h0 h01 h12 hs hg
      clear hs hg
      have c := H.s.cell 0 (by decide)
      have f := H.s.frozen 0
      have g := H.const hC k hlt
      go_wp2_with fail
      go_region
      go_wp2_with fail
      clear c f g
      refine ⟨⟨k + 1, Kec.rhopi (Kec.theta (Kec.permN A k)), by omega, by go_num, ?_⟩, by simp [intOf]; omega⟩
      have H5 := (H.put0 h0 h01 h12 0 (Kec.chi (Kec.rhopi (Kec.theta (Kec.permN A k))) 0 ^^^ Kec.const k)).drew
      rw [iota_upd] at H5
      exact H5
    · obtain rfl : k = 24 := by omega
      go_wp2_with (first | (refine wpList_load_row rfl 94 _ rfl b0 rfl 94 _ (0, 0) _ H.s.row Tryz.underlying94 rfl (by rw [arr_size]; exact info26) ?_) | (refine wpList_store_row rfl 94 _ _ rfl b1 (arr (Kec.permN A 24)) rfl rfl 94 _ H.r.row (by rw [arr_size]; exact info26) (by rw [arr_size, arr_size]) (arr_one _) ?_))
      exact bodyPost_ret (v := .agg (arr (Kec.perm A))) (results_cell_row rfl _ _ b1 94 _ (0, 0) _ rfl (setRow_heap _ b1 _ _ _ _ H.r.row) Tryz.underlying94 rfl (by rw [arr_size]; exact info26)) rfl ⟨rfl, H.k.trans ⟨rfl, rfl, rfl, by simp, fun k hk => setRow_other _ _ _ _ (by omega)⟩⟩

theorem permute_any (A : Kec.St) (w : World) (hC : Consts w) :
    Calls Tryz.prog 75 #[.agg (arr A)] w fun e w' => e = .returned (.agg (arr (Kec.perm A))) ∧ Below w.heap.size w w' := by
  by_cases h : Kec.Same A Z
  · exact permute_z A w hC h
  · exact permute_nz A w hC h
end Go.Proofs.YtmmdldicafbjdaaGreatDoor.Dg
