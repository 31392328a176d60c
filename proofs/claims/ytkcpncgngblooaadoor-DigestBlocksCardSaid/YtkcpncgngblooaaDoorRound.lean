/- A round of the reference. No condition. -/
import Derived.Test.YtkcpncgngblooaaDoorRef
import Derived.Deep.RegionHeld3
namespace Go.Proofs.YtkcpncgngblooaaDoor
open Go.RowKit

/-- Block b is an array of n words. -/
def IsRow (w : World) (b : Nat) (t : TypeId) (n : Nat) (f : Kec.St) : Prop := w.rowIs b t n (fun i => .int .u64 (U (f i)))
theorem IsRow.cell {w : World} {b n : Nat} {t : TypeId} {f : Kec.St} (h : IsRow w b t n f) (i : Nat) (hi : i < n) : w.cell? ⟨b, i, none⟩ = some (.int .u64 (U (f i))) := World.rowIs.cell h hi
theorem IsRow.frozen {w : World} {b n : Nat} {t : TypeId} {f : Kec.St} (h : IsRow w b t n f) (i : Nat) : w.frozen? ⟨b, i, none⟩ = false := World.rowIs.frozen h i
theorem IsRow.set_ {w : World} {b n : Nat} {t : TypeId} {f : Kec.St} (h : IsRow w b t n f) (i : Nat) (x : BitVec 64) : IsRow (w.setCell ⟨b, i, none⟩ (.int .u64 (U x))) b t n (upd f i x) :=
  World.rowIs.congr (World.rowIs.set h i _) fun j _ => by dsimp only [upd]; split <;> rfl
theorem IsRow.congr {w : World} {b n : Nat} {t : TypeId} {f g : Kec.St} (h : IsRow w b t n f) (e : ∀ i, i < n → f i = g i) : IsRow w b t n g := World.rowIs.congr h fun i hi => by rw [e i hi]
theorem IsRow.below {w w' : World} {b n B : Nat} {t : TypeId} {f : Kec.St} (h : IsRow w b t n f) (hb : Below B w w') (hB : b < B) : IsRow w' b t n f := World.rowIs.of_block h (hb.block b hB)
theorem IsRow.far {w : World} {b n : Nat} {t : TypeId} {f : Kec.St} (h : IsRow w b t n f) (p : Addr) (hp : b ≠ p.block) (v : Value) : IsRow (w.setCell p v) b t n f := World.rowIs.setOther h hp v

/-- What stands in the blocks of a round: the state, the result, the sums of the columns. -/
structure Rd1 (w w' : World) (b0 b1 b2 : Nat) (A : Kec.St) (f : Kec.St) : Prop where
  s : IsSt w' b0 A
  r : IsSt w' b1 Z
  q : IsRow w' b2 59 5 f
  k : Below w.heap.size w w'
theorem Rd1.drew {w w' : World} {b0 b1 b2 : Nat} {A f : Kec.St} (h : Rd1 w w' b0 b1 b2 A f) : Rd1 w w'.drew b0 b1 b2 A f := ⟨h.s, h.r, h.q, h.k.drew⟩
theorem Rd1.put_ {w w' : World} {b0 b1 b2 : Nat} {A f : Kec.St} (h : Rd1 w w' b0 b1 b2 A f) (h0 : w.heap.size ≤ b0) (h01 : b0 < b1) (h12 : b1 < b2) (j : Nat) (x : BitVec 64) : Rd1 w (w'.setCell ⟨b2, j, none⟩ (.int .u64 (U x))) b0 b1 b2 A (upd f j x) :=
  ⟨World.rowIs.setOther h.s (a := ⟨b2, j, none⟩) (by simp; omega) _, World.rowIs.setOther h.r (a := ⟨b2, j, none⟩) (by simp; omega) _, h.q.set_ j x, h.k.setCell (p := ⟨b2, j, none⟩) (by simp; omega) _⟩
theorem Rd1.start (A : Kec.St) (w : World) : Rd1 w (((w.alloc (.cells (arr A) 26)).alloc (.cells #[Value.int .u64 0, Value.int .u64 0, Value.int .u64 0, Value.int .u64 0, Value.int .u64 0, Value.int .u64 0, Value.int .u64 0, Value.int .u64 0, Value.int .u64 0, Value.int .u64 0, Value.int .u64 0, Value.int .u64 0, Value.int .u64 0, Value.int .u64 0, Value.int .u64 0, Value.int .u64 0, Value.int .u64 0, Value.int .u64 0, Value.int .u64 0, Value.int .u64 0, Value.int .u64 0, Value.int .u64 0, Value.int .u64 0, Value.int .u64 0, Value.int .u64 0] 26)).alloc (.cells #[.int .u64 0, .int .u64 0, .int .u64 0, .int .u64 0, .int .u64 0] 59)) w.heap.size (w.heap.size + 1) (w.heap.size + 1 + 1) A Z := by
  rw [← arr_Z]
  have h1 : IsSt (w.alloc (.cells (arr A) 26)) w.heap.size A := .of_row (heap_alloc_new w _)
  have h2 : IsSt ((w.alloc (.cells (arr A) 26)).alloc (.cells (arr Z) 26)) (w.heap.size + 1) Z := .of_row (by have := heap_alloc_new (w.alloc (.cells (arr A) 26)) (.cells (arr Z) 26); simpa using this)
  refine ⟨World.rowIs.alloc (World.rowIs.alloc h1 _) _, World.rowIs.alloc h2 _, ?_, (((Below.refl _ _).alloc (Nat.le_refl _) _).alloc (by simp) _).alloc (by simp; omega) _⟩
  have := World.rowIs_alloc ((w.alloc (.cells (arr A) 26)).alloc (.cells (arr Z) 26)) #[.int .u64 0, .int .u64 0, .int .u64 0, .int .u64 0, .int .u64 0] 59 (fun i => .int .u64 (U (Z i))) (fun i hi => by
    have h : i = 0 ∨ i = 1 ∨ i = 2 ∨ i = 3 ∨ i = 4 := by simp at hi; omega
    rcases h with rfl | rfl | rfl | rfl | rfl <;> rfl)
  show World.rowIs _ _ _ _ _
  simpa using this

theorem rot_q (x : BitVec 64) (k : Nat) (hk : k < 64) (w : World) :
    Calls Tryd.prog 33 #[.int .u64 (U x), .int .i64 k] w fun e w' => e = .returned (.int .u64 (U (Kec.rot x k))) ∧ w' = w :=
  (rot_any x k hk w).mono fun _ _ h => ⟨h.1, h.2.symm⟩

/-- The blocks of a round, and the moved words. -/
structure Rd2 (w w' : World) (b0 b1 b2 b3 : Nat) (A M : Kec.St) : Prop where
  s : IsSt w' b0 A
  r : IsSt w' b1 Z
  q : IsRow w' b2 59 5 (Kec.col A)
  m : IsSt w' b3 M
  k : Below w.heap.size w w'
theorem Rd2.drewN {w w' : World} {b0 b1 b2 b3 : Nat} {A M : Kec.St} (h : Rd2 w w' b0 b1 b2 b3 A M) (n : Nat) : Rd2 w (w'.drewN n) b0 b1 b2 b3 A M := ⟨h.s, h.r, h.q, h.m, below_drewN h.k n⟩
theorem Rd2.below {w w' w'' : World} {b0 b1 b2 b3 : Nat} {A M : Kec.St} (h : Rd2 w w' b0 b1 b2 b3 A M) (hb : Below w'.heap.size w' w'') : Rd2 w w'' b0 b1 b2 b3 A M :=
  ⟨World.rowIs.of_block h.s (hb.block _ (World.rowIs.lt h.s)), World.rowIs.of_block h.r (hb.block _ (World.rowIs.lt h.r)), World.rowIs.of_block h.q (hb.block _ (World.rowIs.lt h.q)), World.rowIs.of_block h.m (hb.block _ (World.rowIs.lt h.m)), h.k.trans (hb.mono h.k.size)⟩
theorem Rd2.put_ {w w' : World} {b0 b1 b2 b3 : Nat} {A M : Kec.St} (h : Rd2 w w' b0 b1 b2 b3 A M) (h0 : w.heap.size ≤ b0) (h01 : b0 < b1) (h12 : b1 < b2) (h23 : b2 < b3) (j : Nat) (x : BitVec 64) : Rd2 w (w'.setCell ⟨b3, j, none⟩ (.int .u64 (U x))) b0 b1 b2 b3 A (upd M j x) :=
  ⟨World.rowIs.setOther h.s (a := ⟨b3, j, none⟩) (by simp; omega) _, World.rowIs.setOther h.r (a := ⟨b3, j, none⟩) (by simp; omega) _, World.rowIs.setOther h.q (a := ⟨b3, j, none⟩) (by simp; omega) _, h.m.set_ j x, h.k.setCell (p := ⟨b3, j, none⟩) (by simp; omega) _⟩

/-- The words that were moved before the column x and the row y. -/
def mvd (A : Kec.St) (x y : Nat) : Kec.St := fun j => if Kec.src j % 5 < x ∨ (Kec.src j % 5 = x ∧ Kec.src j / 5 < y) then Kec.rhopi (Kec.theta A) j else 0#64
theorem src_at : ∀ x, x < 5 → ∀ y, y < 5 → Kec.src (y + 5 * ((2 * x + 3 * y) % 5)) = x + 5 * y := by decide
theorem src_only : ∀ j, j < 25 → ∀ x, x < 5 → ∀ y, y < 5 → Kec.src j = x + 5 * y → j = y + 5 * ((2 * x + 3 * y) % 5) := by decide
theorem mvd_step (A : Kec.St) (x y : Nat) (hx : x < 5) (hy : y < 5) : Kec.Same (upd (mvd A x y) (y + 5 * ((2 * x + 3 * y) % 5)) (Kec.rot (A (x + 5 * y) ^^^ Kec.dd A x) (Kec.offs.getD (x + 5 * y) 0))) (mvd A x (y + 1)) := by
  intro j hj
  have hs := src_at x hx y hy
  unfold upd
  by_cases h : j = y + 5 * ((2 * x + 3 * y) % 5)
  · rw [if_pos h, h]
    unfold mvd
    rw [hs, if_pos (by omega)]
    unfold Kec.rhopi Kec.theta
    rw [hs, show (x + 5 * y) % 5 = x from by omega]
  · rw [if_neg h]
    have hn : Kec.src j ≠ x + 5 * y := fun e => h (src_only j hj x hx y hy e)
    unfold mvd
    by_cases hc : Kec.src j % 5 < x ∨ (Kec.src j % 5 = x ∧ Kec.src j / 5 < y)
    · rw [if_pos hc, if_pos (by omega)]
    · rw [if_neg hc, if_neg (by omega)]
theorem mvd_next (A : Kec.St) (x : Nat) : Kec.Same (mvd A x 5) (mvd A (x + 1) 0) := by
  intro j hj
  have hs : Kec.src j < 25 := by unfold Kec.src; omega
  unfold mvd
  by_cases hc : Kec.src j % 5 < x + 1
  · rw [if_pos (by omega), if_pos (by omega)]
  · rw [if_neg (by omega), if_neg (by omega)]
theorem mvd_all (A : Kec.St) : Kec.Same (mvd A 5 0) (Kec.rhopi (Kec.theta A)) := by
  intro j hj
  unfold mvd
  rw [if_pos (by omega)]

/-- The blocks of a round, and the words of its end. -/
structure Rd3 (w w' : World) (b1 b3 b4 : Nat) (M O : Kec.St) : Prop where
  r : IsSt w' b1 Z
  m : IsSt w' b3 M
  o : IsSt w' b4 O
  k : Below w.heap.size w w'
theorem Rd3.drew {w w' : World} {b1 b3 b4 : Nat} {M O : Kec.St} (h : Rd3 w w' b1 b3 b4 M O) : Rd3 w w'.drew b1 b3 b4 M O := ⟨h.r, h.m, h.o, h.k.drew⟩
theorem Rd3.put_ {w w' : World} {b1 b3 b4 : Nat} {M O : Kec.St} (h : Rd3 w w' b1 b3 b4 M O) (h1 : w.heap.size ≤ b1) (h13 : b1 < b3) (h34 : b3 < b4) (j : Nat) (x : BitVec 64) : Rd3 w (w'.setCell ⟨b4, j, none⟩ (.int .u64 (U x))) b1 b3 b4 M (upd O j x) :=
  ⟨World.rowIs.setOther h.r (a := ⟨b4, j, none⟩) (by simp; omega) _, World.rowIs.setOther h.m (a := ⟨b4, j, none⟩) (by simp; omega) _, h.o.set_ j x, h.k.setCell (p := ⟨b4, j, none⟩) (by simp; omega) _⟩
def cvd (M : Kec.St) (x y : Nat) : Kec.St := fun i => if i % 5 < x ∨ (i % 5 = x ∧ i / 5 < y) then Kec.chi M i else 0#64
theorem cvd_step (M : Kec.St) (x y : Nat) (hx : x < 5) : Kec.Same (upd (cvd M x y) (x + 5 * y) (M (x + 5 * y) ^^^ ~~~M ((x + 1) % 5 + 5 * y) &&& M ((x + 2) % 5 + 5 * y))) (cvd M x (y + 1)) := by
  intro i hi
  unfold upd
  by_cases h : i = x + 5 * y
  · rw [if_pos h, h]
    unfold cvd
    rw [if_pos (by omega)]
    unfold Kec.chi
    rw [show (x + 5 * y + 1) % 5 + 5 * ((x + 5 * y) / 5) = (x + 1) % 5 + 5 * y from by omega, show (x + 5 * y + 2) % 5 + 5 * ((x + 5 * y) / 5) = (x + 2) % 5 + 5 * y from by omega]
  · rw [if_neg h]
    unfold cvd
    by_cases hc : i % 5 < x ∨ (i % 5 = x ∧ i / 5 < y)
    · rw [if_pos hc, if_pos (by omega)]
    · rw [if_neg hc, if_neg (by omega)]
theorem cvd_next (M : Kec.St) (x : Nat) : Kec.Same (cvd M x 5) (cvd M (x + 1) 0) := by
  intro i hi
  unfold cvd
  by_cases hc : i % 5 < x + 1
  · rw [if_pos (by omega), if_pos (by omega)]
  · rw [if_neg (by omega), if_neg (by omega)]
theorem cvd_all (M : Kec.St) : Kec.Same (cvd M 5 0) (Kec.chi M) := by
  intro i hi
  unfold cvd
  rw [if_pos (by omega)]

def mixS (A : Kec.St) (x : Nat) : Kec.St := fun i => if i < x then Kec.col A i else 0#64

set_option maxHeartbeats 4000000 in
set_option maxRecDepth 100000 in
theorem round_any (A : Kec.St) (c : BitVec 64) (w : World) :
    Calls Tryd.prog 27 #[.agg (arr A), .int .u64 (U c)] w fun e w' => e = .returned (.agg (arr (Kec.round A c))) ∧ Below w.heap.size w w' := by
  have H := Rd1.start A w
  go_enter Tryd.func27, Tryd.ntmps27
  go_upto_region 2 with (fail)
  obtain ⟨b0, hb0⟩ : ∃ b, b = w.heap.size := ⟨_, rfl⟩
  rw [← hb0] at H
  rw [← hb0]
  generalize hb1 : b0 + 1 = b1 at *
  generalize hb2 : b1 + 1 = b2 at *
  refine wp_gen (fun w' => Rd1 w w' b0 b1 b2 A Z) H ?_
  clear H
  intro w1 H
  have h0 : w.heap.size ≤ b0 := by omega
  have h01 : b0 < b1 := by omega
  have h12 : b1 < b2 := by omega
  clear hb0 hb1 hb2
  go_wp2_with fail
  go_loopw [6] (fun v wr => ∃ x : Nat, x ≤ 5 ∧ v = .int .i64 x ∧ Rd1 w wr b0 b1 b2 A (mixS A x)) (fun v _ => 5 - (intOf v).toNat)
  case atStart => exact ⟨0, by omega, rfl, H.s, H.r, H.q.congr fun i _ => by unfold mixS; rw [if_neg (by omega)]; rfl, H.k⟩
  case round =>
    clear H
    obtain ⟨x, hx, rfl, H⟩ := hrel
    by_cases hlt : x < 5
    · have hp := H.put_ h0 h01 h12 x (Kec.col A x)
      go_wp2_with fail
      refine region_tail 25 (fun w' => Rd1 w w' b0 b1 b2 A (mixS A x)) (by kernel_rfl) (by kernel_rfl) H.drew ?_
      clear H hp
      intro w2 H
      have c0 := H.s.cell x (by omega)
      have c1 := H.s.cell (x + 5) (by omega)
      have c2 := H.s.cell (x + 10) (by omega)
      have c3 := H.s.cell (x + 15) (by omega)
      have c4 := H.s.cell (x + 20) (by omega)
      have d := H.q.cell x hlt
      have f := H.q.frozen x
      have e : A x ^^^ A (x + 5) ^^^ A (x + 10) ^^^ A (x + 15) ^^^ A (x + 20) = Kec.col A x := rfl
      have lx : (x : Int) < 25 := by omega
      have lx5 : (x : Int) < 5 := by omega
      have lx0 : 0 ≤ (x : Int) := by omega
      have i5 : IntKind.i64.wrap ((x : Int) + 5) = (x : Int) + 5 := IntWalk.i64_in _ (by omega)
      have j5 : ((x : Int) + 5).toNat = x + 5 := by omega
      have k5 : 0 ≤ (x : Int) + 5 := by omega
      have l5 : (x : Int) + 5 < 25 := by omega
      have i10 : IntKind.i64.wrap ((x : Int) + 10) = (x : Int) + 10 := IntWalk.i64_in _ (by omega)
      have j10 : ((x : Int) + 10).toNat = x + 10 := by omega
      have k10 : 0 ≤ (x : Int) + 10 := by omega
      have l10 : (x : Int) + 10 < 25 := by omega
      have i15 : IntKind.i64.wrap ((x : Int) + 15) = (x : Int) + 15 := IntWalk.i64_in _ (by omega)
      have j15 : ((x : Int) + 15).toNat = x + 15 := by omega
      have k15 : 0 ≤ (x : Int) + 15 := by omega
      have l15 : (x : Int) + 15 < 25 := by omega
      have i20 : IntKind.i64.wrap ((x : Int) + 20) = (x : Int) + 20 := IntWalk.i64_in _ (by omega)
      have j20 : ((x : Int) + 20).toNat = x + 20 := by omega
      have k20 : 0 ≤ (x : Int) + 20 := by omega
      have l20 : (x : Int) + 20 < 25 := by omega
      simp only [List.take_succ_cons, List.take_zero, List.drop_succ_cons, List.drop_zero]
      repeat still_step
      refine wpStill_nil ?_
      clear lx lx5 lx0 i5 j5 k5 l5 i10 j10 k10 l10 i15 j15 k15 l15 i20 j20 k20 l20
      go_wp2_with fail
      refine ⟨⟨x + 1, by omega, by go_num, ?_⟩, by simp [intOf]; omega⟩
      have H5 := H.put_ h0 h01 h12 x (Kec.col A x)
      refine ⟨H5.s, H5.r, H5.q.congr fun i _ => ?_, H5.k⟩
      unfold upd mixS
      by_cases hi : i = x
      · rw [if_pos hi, if_pos (by omega), hi]
      · rw [if_neg hi]
        by_cases hj : i < x
        · rw [if_pos hj, if_pos (by omega)]
        · rw [if_neg hj, if_neg (by omega)]
    · have hx5 := Lib.hid (show x = 5 by omega)
      have hq : IsRow wr b2 59 5 (Kec.col A) := H.q.congr fun i hi => by have := hx5.out; unfold mixS; rw [if_pos (by omega)]
      obtain ⟨b3, hb3⟩ : ∃ b, b = wr.heap.size := ⟨_, rfl⟩
      have h23 : b2 < b3 := by rw [hb3]; exact World.rowIs.lt hq
      have h4 : b3 ≤ wr.heap.size := by omega
      have H2 : Rd2 w (wr.alloc (.cells #[Value.int .u64 0, Value.int .u64 0, Value.int .u64 0, Value.int .u64 0, Value.int .u64 0, Value.int .u64 0, Value.int .u64 0, Value.int .u64 0, Value.int .u64 0, Value.int .u64 0, Value.int .u64 0, Value.int .u64 0, Value.int .u64 0, Value.int .u64 0, Value.int .u64 0, Value.int .u64 0, Value.int .u64 0, Value.int .u64 0, Value.int .u64 0, Value.int .u64 0, Value.int .u64 0, Value.int .u64 0, Value.int .u64 0, Value.int .u64 0, Value.int .u64 0] 26)) b0 b1 b2 b3 A Z := by
        rw [← arr_Z, hb3]
        exact ⟨World.rowIs.alloc H.s _, World.rowIs.alloc H.r _, World.rowIs.alloc hq _, .of_row (heap_alloc_new wr _), H.k.alloc H.k.size _⟩
      go_upto_region 7 with (fail)
      rw [← hb3]
      refine wp_gen (fun w' => Rd2 w w' b0 b1 b2 b3 A Z) H2 ?_
      clear H H2 hq hb3 h4
      intro w2 H
      go_wp2_with fail
      obtain ⟨wo, rfl⟩ : ∃ wo : World, wo = wr := ⟨_, rfl⟩
      go_loopw [8] (fun v wr => ∃ x : Nat, x ≤ 5 ∧ v = .int .i64 x ∧ Rd2 w wr b0 b1 b2 b3 A (mvd A x 0)) (fun v _ => 5 - (intOf v).toNat)
      case atStart => exact ⟨0, by omega, rfl, H.s, H.r, H.q, H.m.congr fun i _ => by unfold mvd; rw [if_neg (by omega)]; rfl, H.k⟩
      case round =>
        clear H
        obtain ⟨x, hx, rfl, H⟩ := hrel
        by_cases hlt : x < 5
        · have hbx : decide ((x : Int) < 5) = true := by simp; omega
          have q4 := H.q.cell ((x + 4) % 5) (Nat.mod_lt _ (by decide))
          have q1 := H.q.cell ((x + 1) % 5) (Nat.mod_lt _ (by decide))
          have e : Kec.col A ((x + 4) % 5) ^^^ Kec.rot (Kec.col A ((x + 1) % 5)) 1 = Kec.dd A x := rfl
          have i4 : IntKind.i64.wrap ((x : Int) + 4) = (x : Int) + 4 := IntWalk.i64_in _ (by omega)
          have i1 : IntKind.i64.wrap ((x : Int) + 1) = (x : Int) + 1 := IntWalk.i64_in _ (by omega)
          have j4 : ((x : Int) + 4).tmod 5 = (((x + 4) % 5 : Nat) : Int) := by rw [Int.tmod_eq_emod_of_nonneg (by omega)]; omega
          have j1 : ((x : Int) + 1).tmod 5 = (((x + 1) % 5 : Nat) : Int) := by rw [Int.tmod_eq_emod_of_nonneg (by omega)]; omega
          have l4 : (((x + 4) % 5 : Nat) : Int) < 5 := by omega
          have l1 : (((x + 1) % 5 : Nat) : Int) < 5 := by omega
          go_wp2_with fail
          go_quiet ((go_at_call 33; exact Calls.quiet_of_same (rot_q _ 1 (by decide) _)))
          clear q4 q1 e i4 i1 j4 j1 l4 l1
          go_wp2_with fail
          obtain ⟨wo2, rfl⟩ : ∃ wo : World, wo = wr := ⟨_, rfl⟩
          go_loopw [10] (fun v wr => ∃ y : Nat, y ≤ 5 ∧ v = .int .i64 y ∧ Rd2 w wr b0 b1 b2 b3 A (mvd A x y)) (fun v _ => 5 - (intOf v).toNat)
          case atStart => exact ⟨0, by omega, rfl, H.drewN _⟩
          case round =>
            clear H
            obtain ⟨y, hy, rfl, H⟩ := hrel
            by_cases hly : y < 5
            · have hidx : y + 5 * ((2 * x + 3 * y) % 5) < 25 := by omega
              have hsq := mvd_step A x y hlt hly
              generalize hmm : (2 * x + 3 * y) % 5 = m at *
              have hm5 : m < 5 := by omega
              have HSQ := Lib.hid hsq
              clear hsq
              have c0 := H.s.cell (x + 5 * y) (by omega)
              have hxy : x + 5 * y < 25 := by omega
              have a1 : IntKind.i64.wrap (2 * (x : Int)) = 2 * (x : Int) := IntWalk.i64_in _ (by omega)
              have a2 : IntKind.i64.wrap (3 * (y : Int)) = 3 * (y : Int) := IntWalk.i64_in _ (by omega)
              have a3 : IntKind.i64.wrap (2 * (x : Int) + 3 * (y : Int)) = 2 * (x : Int) + 3 * (y : Int) := IntWalk.i64_in _ (by omega)
              have a4 : (2 * (x : Int) + 3 * (y : Int)).tmod 5 = (m : Int) := by rw [Int.tmod_eq_emod_of_nonneg (by omega)]; omega
              have a5 : IntKind.i64.wrap (5 * (m : Int)) = 5 * (m : Int) := IntWalk.i64_in _ (by omega)
              have a6 : IntKind.i64.wrap ((y : Int) + 5 * (m : Int)) = (y : Int) + 5 * (m : Int) := IntWalk.i64_in _ (by omega)
              have a7 : IntKind.i64.wrap (5 * (y : Int)) = 5 * (y : Int) := IntWalk.i64_in _ (by omega)
              have a8 : IntKind.i64.wrap ((x : Int) + 5 * (y : Int)) = (x : Int) + 5 * (y : Int) := IntWalk.i64_in _ (by omega)
              have d1 : 0 ≤ (x : Int) + 5 * (y : Int) := by omega
              have d2 : (x : Int) + 5 * (y : Int) < 25 := by omega
              have d3 : ((x : Int) + 5 * (y : Int)).toNat = x + 5 * y := by omega
              have d4 : 0 ≤ (y : Int) + 5 * (m : Int) := by omega
              have d5 : (y : Int) + 5 * (m : Int) < 25 := by omega
              have d6 : ((y : Int) + 5 * (m : Int)).toNat = y + 5 * m := by omega
              clear hmm
              go_wp2_with fail
              go_region_held3 (fun w' => w'.cell? ⟨b0, x + 5 * y, none⟩ = some (.int .u64 (U (A (x + 5 * y))))) (first | go_keep | (exact H1.s.cell _ hxy) | (exact (H1.put_ h0 h01 h12 h23 _ _).s.cell _ hxy)) (first | (go_at_call 34; refine (offset_any x y hlt hly _).mono ?_; rintro e wb ⟨rfl, hbo⟩; have H1 := Rd2.below (H.drewN 1) hbo; have cm := H1.m.cell _ hidx; have fm := H1.m.frozen (y + 5 * m)) | (go_at_call 33; refine (rot_any _ _ (offs_lt _ hxy) _).mono ?_; rintro e wb' ⟨rfl, rfl⟩))
              clear a1 a2 a3 a4 a5 a6 a7 a8 d1 d2 d3 d4 d5 d6 cm fm c0
              go_wp2_with fail
              have hs' := HSQ.out
              simp only [List.getD_eq_getElem?_getD] at hs'
              have H5 := H1.put_ h0 h01 h12 h23 (y + 5 * m) (Kec.rot (A (x + 5 * y) ^^^ Kec.dd A x) (Kec.offs[x + 5 * y]?.getD 0))
              go_roundw
              case rel => exact ⟨y + 1, by omega, by go_num, H5.s, H5.r, H5.q, H5.m.congr hs', H5.k⟩
              case measure => simp [intOf]; omega
            · have hy6 := Lib.hid (show y = 5 by omega)
              go_wp2_with fail
              go_roundw
              case rel => exact ⟨x + 1, by omega, by go_num, H.s, H.r, H.q, H.m.congr (by rw [hy6.out]; exact mvd_next A x), H.k⟩
              case measure => simp [intOf]; omega
        · have hx6 := Lib.hid (show x = 5 by omega)
          have hm : IsSt wr b3 (Kec.rhopi (Kec.theta A)) := H.m.congr (by rw [hx6.out]; exact mvd_all A)
          generalize hMM : Kec.rhopi (Kec.theta A) = M at *
          have HM := Lib.hid hMM
          clear hMM
          obtain ⟨b4, hb4⟩ : ∃ b, b = wr.heap.size := ⟨_, rfl⟩
          have h34 : b3 < b4 := by rw [hb4]; exact World.rowIs.lt hm
          have h13 : b1 < b3 := by omega
          have h1 : w.heap.size ≤ b1 := by omega
          have H3 : Rd3 w (wr.alloc (.cells #[Value.int .u64 0, Value.int .u64 0, Value.int .u64 0, Value.int .u64 0, Value.int .u64 0, Value.int .u64 0, Value.int .u64 0, Value.int .u64 0, Value.int .u64 0, Value.int .u64 0, Value.int .u64 0, Value.int .u64 0, Value.int .u64 0, Value.int .u64 0, Value.int .u64 0, Value.int .u64 0, Value.int .u64 0, Value.int .u64 0, Value.int .u64 0, Value.int .u64 0, Value.int .u64 0, Value.int .u64 0, Value.int .u64 0, Value.int .u64 0, Value.int .u64 0] 26)) b1 b3 b4 M Z := by
            rw [← arr_Z, hb4]
            exact ⟨World.rowIs.alloc H.r _, World.rowIs.alloc hm _, .of_row (heap_alloc_new wr _), H.k.alloc H.k.size _⟩
          go_upto_region 16 with (fail)
          rw [← hb4]
          refine wp_gen (fun w' => Rd3 w w' b1 b3 b4 M Z) H3 ?_
          clear H H3 hm hb4 h23 h12 h01
          intro w3 H
          go_wp2_with fail
          obtain ⟨wo4, rfl⟩ : ∃ wo : World, wo = wr := ⟨_, rfl⟩
          go_loopw [12] (fun v wr => ∃ x : Nat, x ≤ 5 ∧ v = .int .i64 x ∧ Rd3 w wr b1 b3 b4 M (cvd M x 0)) (fun v _ => 5 - (intOf v).toNat)
          case atStart => exact ⟨0, by omega, rfl, H.r, H.m, H.o.congr fun i _ => by unfold cvd; rw [if_neg (by omega)]; rfl, H.k⟩
          case round =>
            clear H
            obtain ⟨x, hx, rfl, H⟩ := hrel
            by_cases hlt : x < 5
            · have hbx : decide ((x : Int) < 5) = true := by simp; omega
              go_wp2_with fail
              obtain ⟨wo5, rfl⟩ : ∃ wo : World, wo = wr := ⟨_, rfl⟩
              go_loopw [13] (fun v wr => ∃ y : Nat, y ≤ 5 ∧ v = .int .i64 y ∧ Rd3 w wr b1 b3 b4 M (cvd M x y)) (fun v _ => 5 - (intOf v).toNat)
              case atStart => exact ⟨0, by omega, rfl, H⟩
              case round =>
                clear H
                obtain ⟨y, hy, rfl, H⟩ := hrel
                by_cases hly : y < 5
                · have hsq := cvd_step M x y hlt
                  generalize hpp : (x + 1) % 5 = p at *
                  generalize hqq : (x + 2) % 5 = q at *
                  have hp5 : p < 5 := by omega
                  have hq5 : q < 5 := by omega
                  have HSQ := Lib.hid hsq
                  clear hsq
                  go_wp2_with fail
                  refine region_tail 30 (fun w' => Rd3 w w' b1 b3 b4 M (cvd M x y)) (by kernel_rfl) (by kernel_rfl) H.drew ?_
                  clear H
                  intro w5 H
                  have c0 := H.m.cell (x + 5 * y) (by omega)
                  have c1 := H.m.cell (p + 5 * y) (by omega)
                  have c2 := H.m.cell (q + 5 * y) (by omega)
                  have d := H.o.cell (x + 5 * y) (by omega)
                  have f := H.o.frozen (x + 5 * y)
                  have a1 : IntKind.i64.wrap (5 * (y : Int)) = 5 * (y : Int) := IntWalk.i64_in _ (by omega)
                  have a2 : IntKind.i64.wrap ((x : Int) + 5 * (y : Int)) = (x : Int) + 5 * (y : Int) := IntWalk.i64_in _ (by omega)
                  have a3 : IntKind.i64.wrap ((x : Int) + 1) = (x : Int) + 1 := IntWalk.i64_in _ (by omega)
                  have a4 : IntKind.i64.wrap ((x : Int) + 2) = (x : Int) + 2 := IntWalk.i64_in _ (by omega)
                  have a5 : ((x : Int) + 1).tmod 5 = (p : Int) := by rw [Int.tmod_eq_emod_of_nonneg (by omega)]; omega
                  have a6 : ((x : Int) + 2).tmod 5 = (q : Int) := by rw [Int.tmod_eq_emod_of_nonneg (by omega)]; omega
                  have a7 : IntKind.i64.wrap ((p : Int) + 5 * (y : Int)) = (p : Int) + 5 * (y : Int) := IntWalk.i64_in _ (by omega)
                  have a8 : IntKind.i64.wrap ((q : Int) + 5 * (y : Int)) = (q : Int) + 5 * (y : Int) := IntWalk.i64_in _ (by omega)
                  have e1 : 0 ≤ (x : Int) + 5 * (y : Int) := by omega
                  have e2 : (x : Int) + 5 * (y : Int) < 25 := by omega
                  have e3 : ((x : Int) + 5 * (y : Int)).toNat = x + 5 * y := by omega
                  have e4 : 0 ≤ (p : Int) + 5 * (y : Int) := by omega
                  have e5 : (p : Int) + 5 * (y : Int) < 25 := by omega
                  have e6 : ((p : Int) + 5 * (y : Int)).toNat = p + 5 * y := by omega
                  have e7 : 0 ≤ (q : Int) + 5 * (y : Int) := by omega
                  have e8 : (q : Int) + 5 * (y : Int) < 25 := by omega
                  have e9 : ((q : Int) + 5 * (y : Int)).toNat = q + 5 * y := by omega
                  clear hpp hqq
                  simp only [List.take_succ_cons, List.take_zero, List.drop_succ_cons, List.drop_zero]
                  repeat still_step
                  refine wpStill_nil ?_
                  clear a1 a2 a3 a4 a5 a6 a7 a8 e1 e2 e3 e4 e5 e6 e7 e8 e9 c0 c1 c2
                  go_wp2_with fail
                  have H5 := H.put_ h1 h13 h34 (x + 5 * y) (M (x + 5 * y) ^^^ ~~~M (p + 5 * y) &&& M (q + 5 * y))
                  go_roundw
                  case rel => exact ⟨y + 1, by omega, by go_num, H5.r, H5.m, H5.o.congr HSQ.out, H5.k⟩
                  case measure => simp [intOf]; omega
                · have hy6 := Lib.hid (show y = 5 by omega)
                  go_wp2_with fail
                  go_roundw
                  case rel => exact ⟨x + 1, by omega, by go_num, H.r, H.m, H.o.congr (by rw [hy6.out]; exact cvd_next M x), H.k⟩
                  case measure => simp [intOf]; omega
            · have hx7 := Lib.hid (show x = 5 by omega)
              have ho : Rd3 w wr b1 b3 b4 M (Kec.chi M) := ⟨H.r, H.m, H.o.congr (by rw [hx7.out]; exact cvd_all M), H.k⟩
              clear H
              have c0 := ho.o.cell 0 (by decide)
              have f0 := ho.o.frozen 0
              go_upto_region 24 with (fail)
              clear c0 f0
              have H5 := ho.put_ h1 h13 h34 0 (Kec.chi M 0 ^^^ c)
              rw [iota_upd] at H5
              refine wp_gen (fun w' => Rd3 w w' b1 b3 b4 M (Kec.iota (Kec.chi M) c)) H5 ?_
              clear ho H5
              intro w6 H
              go_wp2_with (first | (refine wpList_load_row rfl 26 _ rfl b4 rfl 26 _ (0, 0) _ H.o.row Tryd.underlying26 rfl (by rw [arr_size]; exact info26) ?_) | (refine wpList_store_row rfl 26 _ _ rfl b1 (arr (Kec.iota (Kec.chi M) c)) rfl rfl 26 _ H.r.row (by rw [arr_size]; exact info26) (by rw [arr_size, arr_size]) (arr_one _) ?_))
              exact bodyPost_ret (v := .agg (arr (Kec.iota (Kec.chi M) c))) (results_cell_row rfl _ _ b1 26 _ (0, 0) _ rfl (setRow_heap _ b1 _ _ _ _ H.r.row) Tryd.underlying26 rfl (by rw [arr_size]; exact info26)) rfl ⟨by rw [← HM.out]; rfl, H.k.trans ⟨rfl, rfl, rfl, by simp, fun k hk => setRow_other _ _ _ _ (by omega)⟩⟩
end Go.Proofs.YtkcpncgngblooaaDoor
