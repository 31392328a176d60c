/- The reference's permutation. No condition.
A round of the reference. No condition.
The reference's Permute returns the permutation. No condition.
Absorbing the padded bytes block by block is what the digest's last step does. No condition.
A row of bytes that the call has made from a string: the run-time's mark lies behind its last cell. No condition.
The reference's Sum returns the digest of a string. No condition but its length. -/
import Derived.Test.YtlfgnecfabdkmaaGreatDoorPz1
import Derived.Deep.RegionHeld3
import Derived.Deep.OwnRows
import Derived.Deep.AppendLies
import Derived.Laws.IdiomStrings
import Derived.Test.YtlfgnecfabdkmaaGreatDoorPz2
section
namespace Go.Proofs.YtlfgnecfabdkmaaGreatDoor.Dg
open Go.RowKit

set_option maxHeartbeats 1000000 in
set_option maxRecDepth 100000 in
theorem constant_any (k : Nat) (hk : k < 24) (w : World) :
    Calls Tryz.prog 95 #[.int .i64 k] w fun e w' => e = .returned (.int .u64 (U (Kec.const k))) ∧ Below w.heap.size w w' := by
  go_enter Tryz.func95, Tryz.ntmps95
  go_wp2_with fail
  go_ret
  refine ⟨congrArg Ending.returned ?_, (Below.refl _ _).alloc (Nat.le_refl _) _⟩
  have hc : k = 0 ∨ k = 1 ∨ k = 2 ∨ k = 3 ∨ k = 4 ∨ k = 5 ∨ k = 6 ∨ k = 7 ∨ k = 8 ∨ k = 9 ∨ k = 10 ∨ k = 11 ∨ k = 12 ∨ k = 13 ∨ k = 14 ∨ k = 15 ∨ k = 16 ∨ k = 17 ∨ k = 18 ∨ k = 19 ∨ k = 20 ∨ k = 21 ∨ k = 22 ∨ k = 23 := by omega
  rcases hc with rfl | rfl | rfl | rfl | rfl | rfl | rfl | rfl | rfl | rfl | rfl | rfl | rfl | rfl | rfl | rfl | rfl | rfl | rfl | rfl | rfl | rfl | rfl | rfl <;> (show (_ : Value) = _; kernel_rfl)

theorem offs_lt : ∀ k, k < 25 → Kec.offs.getD k 0 < 64 := by decide
set_option maxHeartbeats 1000000 in
set_option maxRecDepth 100000 in
theorem offset_any (x y : Nat) (hx : x < 5) (hy : y < 5) (w : World) :
    Calls Tryz.prog 114 #[.int .i64 x, .int .i64 y] w fun e w' => e = .returned (.int .i64 ((Kec.offs.getD (x + 5 * y) 0 : Nat) : Int)) ∧ Below w.heap.size w w' := by
  have hl : [Value.int .i64 0, Value.int .i64 1, Value.int .i64 62, Value.int .i64 28, Value.int .i64 27, Value.int .i64 36, Value.int .i64 44, Value.int .i64 6, Value.int .i64 55, Value.int .i64 20, Value.int .i64 3, Value.int .i64 10, Value.int .i64 43, Value.int .i64 25, Value.int .i64 39, Value.int .i64 41, Value.int .i64 45, Value.int .i64 15, Value.int .i64 21, Value.int .i64 8, Value.int .i64 18, Value.int .i64 2, Value.int .i64 61, Value.int .i64 56, Value.int .i64 14][x + 5 * y]? = some (Value.int .i64 ((Kec.offs.getD (x + 5 * y) 0 : Nat) : Int)) := by
    have hl : x + 5 * y < 25 := by omega
    generalize x + 5 * y = k at *
    have hc : k = 0 ∨ k = 1 ∨ k = 2 ∨ k = 3 ∨ k = 4 ∨ k = 5 ∨ k = 6 ∨ k = 7 ∨ k = 8 ∨ k = 9 ∨ k = 10 ∨ k = 11 ∨ k = 12 ∨ k = 13 ∨ k = 14 ∨ k = 15 ∨ k = 16 ∨ k = 17 ∨ k = 18 ∨ k = 19 ∨ k = 20 ∨ k = 21 ∨ k = 22 ∨ k = 23 ∨ k = 24 := by omega
    rcases hc with rfl | rfl | rfl | rfl | rfl | rfl | rfl | rfl | rfl | rfl | rfl | rfl | rfl | rfl | rfl | rfl | rfl | rfl | rfl | rfl | rfl | rfl | rfl | rfl | rfl <;> rfl
  go_enter Tryz.func114, Tryz.ntmps114
  go_wp2_with fail
  go_ret
  exact ⟨rfl, (Below.refl _ _).alloc (Nat.le_refl _) _⟩
end Go.Proofs.YtlfgnecfabdkmaaGreatDoor.Dg
end
section
namespace Go.Proofs.YtlfgnecfabdkmaaGreatDoor.Dg
open Go.RowKit

/-- Block b is an array of n words. -/
def IsRow (w : World) (b : Nat) (t : TypeId) (n : Nat) (f : Kec.St) : Prop := w.rowIs b t n (fun i => .int .u64 (U (f i)))
theorem IsRow.cell {w : World} {b n : Nat} {t : TypeId} {f : Kec.St} (h : IsRow w b t n f) (i : Nat) (hi : i < n) : w.cell? ⟨b, i, none⟩ = some (.int .u64 (U (f i))) := World.rowIs.cell h hi
theorem IsRow.frozen {w : World} {b n : Nat} {t : TypeId} {f : Kec.St} (h : IsRow w b t n f) (i : Nat) : w.frozen? ⟨b, i, none⟩ = false := World.rowIs.frozen h i
theorem IsRow.set_ {w : World} {b n : Nat} {t : TypeId} {f : Kec.St} (h : IsRow w b t n f) (i : Nat) (x : BitVec 64) : IsRow (w.setCell ⟨b, i, none⟩ (.int .u64 (U x))) b t n (upd f i x) :=
  World.rowIs.congr (World.rowIs.set h i _) fun j _ => by dsimp only [upd]; split <;> rfl
theorem IsRow.congr {w : World} {b n : Nat} {t : TypeId} {f g : Kec.St} (h : IsRow w b t n f) (e : ∀ i, i < n → f i = g i) : IsRow w b t n g := World.rowIs.congr h fun i hi => by rw [e i hi]
theorem IsRow.below {w w' : World} {b n B : Nat} {t : TypeId} {f : Kec.St} (h : IsRow w b t n f) (hb : Below B w w') (hB : b < B) : IsRow w' b t n f := World.rowIs.of_block h (hb.block b hB)
theorem IsRow.far {w : World} {b n : Nat} {t : TypeId} {f : Kec.St} (h : IsRow w b t n f) (p : Addr) (hp : b ≠ p.block) (v : Value) : IsRow (w.setCell p v) b t n f := World.rowIs.setOther h hp v

/-- What stands in the blocks of a round: the state, the result, the sums of the columns. -/
structure Rd1 (w w' : World) (b0 b1 b2 : Nat) (A : Kec.St) (f : Kec.St) : Prop where
  s : IsSt w' b0 A
  r : IsSt w' b1 Z
  q : IsRow w' b2 144 5 f
  k : Below w.heap.size w w'
theorem Rd1.drew {w w' : World} {b0 b1 b2 : Nat} {A f : Kec.St} (h : Rd1 w w' b0 b1 b2 A f) : Rd1 w w'.drew b0 b1 b2 A f := ⟨h.s, h.r, h.q, h.k.drew⟩
theorem Rd1.put_ {w w' : World} {b0 b1 b2 : Nat} {A f : Kec.St} (h : Rd1 w w' b0 b1 b2 A f) (h0 : w.heap.size ≤ b0) (h01 : b0 < b1) (h12 : b1 < b2) (j : Nat) (x : BitVec 64) : Rd1 w (w'.setCell ⟨b2, j, none⟩ (.int .u64 (U x))) b0 b1 b2 A (upd f j x) :=
  ⟨World.rowIs.setOther h.s (a := ⟨b2, j, none⟩) (by simp; omega) _, World.rowIs.setOther h.r (a := ⟨b2, j, none⟩) (by simp; omega) _, h.q.set_ j x, h.k.setCell (p := ⟨b2, j, none⟩) (by simp; omega) _⟩
theorem Rd1.start (A : Kec.St) (w : World) : Rd1 w (((w.alloc (.cells (arr A) 105)).alloc (.cells #[Value.int .u64 0, Value.int .u64 0, Value.int .u64 0, Value.int .u64 0, Value.int .u64 0, Value.int .u64 0, Value.int .u64 0, Value.int .u64 0, Value.int .u64 0, Value.int .u64 0, Value.int .u64 0, Value.int .u64 0, Value.int .u64 0, Value.int .u64 0, Value.int .u64 0, Value.int .u64 0, Value.int .u64 0, Value.int .u64 0, Value.int .u64 0, Value.int .u64 0, Value.int .u64 0, Value.int .u64 0, Value.int .u64 0, Value.int .u64 0, Value.int .u64 0] 105)).alloc (.cells #[.int .u64 0, .int .u64 0, .int .u64 0, .int .u64 0, .int .u64 0] 144)) w.heap.size (w.heap.size + 1) (w.heap.size + 1 + 1) A Z := by
  rw [← arr_Z]
  have h1 : IsSt (w.alloc (.cells (arr A) 105)) w.heap.size A := .of_row (heap_alloc_new w _)
  have h2 : IsSt ((w.alloc (.cells (arr A) 105)).alloc (.cells (arr Z) 105)) (w.heap.size + 1) Z := .of_row (by have := heap_alloc_new (w.alloc (.cells (arr A) 105)) (.cells (arr Z) 105); simpa using this)
  refine ⟨World.rowIs.alloc (World.rowIs.alloc h1 _) _, World.rowIs.alloc h2 _, ?_, (((Below.refl _ _).alloc (Nat.le_refl _) _).alloc (by simp) _).alloc (by simp; omega) _⟩
  have := World.rowIs_alloc ((w.alloc (.cells (arr A) 105)).alloc (.cells (arr Z) 105)) #[.int .u64 0, .int .u64 0, .int .u64 0, .int .u64 0, .int .u64 0] 144 (fun i => .int .u64 (U (Z i))) (fun i hi => by
    have h : i = 0 ∨ i = 1 ∨ i = 2 ∨ i = 3 ∨ i = 4 := by simp at hi; omega
    rcases h with rfl | rfl | rfl | rfl | rfl <;> rfl)
  show World.rowIs _ _ _ _ _
  simpa using this

theorem rot_q (x : BitVec 64) (k : Nat) (hk : k < 64) (w : World) :
    Calls Tryz.prog 113 #[.int .u64 (U x), .int .i64 k] w fun e w' => e = .returned (.int .u64 (U (Kec.rot x k))) ∧ w' = w :=
  (rot_any x k hk w).mono fun _ _ h => ⟨h.1, h.2.symm⟩

/-- The blocks of a round, and the moved words. -/
structure Rd2 (w w' : World) (b0 b1 b2 b3 : Nat) (A M : Kec.St) : Prop where
  s : IsSt w' b0 A
  r : IsSt w' b1 Z
  q : IsRow w' b2 144 5 (Kec.col A)
  m : IsSt w' b3 M
  k : Below w.heap.size w w'
theorem Rd2.drewN {w w' : World} {b0 b1 b2 b3 : Nat} {A M : Kec.St} (h : Rd2 w w' b0 b1 b2 b3 A M) (n : Nat) : Rd2 w (w'.drewN n) b0 b1 b2 b3 A M := ⟨h.s, h.r, h.q, h.m, below_drewN h.k n⟩
theorem Rd2.below {w w' w'' : World} {b0 b1 b2 b3 : Nat} {A M : Kec.St} (h : Rd2 w w' b0 b1 b2 b3 A M) (hb : Below w'.heap.size w' w'') : Rd2 w w'' b0 b1 b2 b3 A M :=
  ⟨World.rowIs.of_block h.s (hb.block _ (World.rowIs.lt h.s)), World.rowIs.of_block h.r (hb.block _ (World.rowIs.lt h.r)), World.rowIs.of_block h.q (hb.block _ (World.rowIs.lt h.q)), World.rowIs.of_block h.m (hb.block _ (World.rowIs.lt h.m)), h.k.trans (hb.mono h.k.size)⟩
theorem Rd2.put_ {w w' : World} {b0 b1 b2 b3 : Nat} {A M : Kec.St} (h : Rd2 w w' b0 b1 b2 b3 A M) (h0 : w.heap.size ≤ b0) (h01 : b0 < b1) (h12 : b1 < b2) (h23 : b2 < b3) (j : Nat) (x : BitVec 64) : Rd2 w (w'.setCell ⟨b3, j, none⟩ (.int .u64 (U x))) b0 b1 b2 b3 A (upd M j x) :=
  ⟨World.rowIs.setOther h.s (a := ⟨b3, j, none⟩) (by simp; omega) _, World.rowIs.setOther h.r (a := ⟨b3, j, none⟩) (by simp; omega) _, World.rowIs.setOther h.q (a := ⟨b3, j, none⟩) (by simp; omega) _, h.m.set_ j x, h.k.setCell (p := ⟨b3, j, none⟩) (by simp; omega) _⟩

/-- The words that were moved before the column x and the row y. -/
def mvd (A : Kec.St) (x y : Nat) : Kec.St := fun j => if Kec.src j % 5 < x ∨ (Kec.src j % 5 = x ∧ Kec.src j / 5 < y) then Kec.rhopi (Kec.theta A) j else 0#64
theorem src_at : ∀ x, x < 5 → ∀ y, y < 5 → Kec.src (y + 5 * ((2 * x + 3 * y) % 5)) = x + 5 * y := by decide
theorem src_only : ∀ j, j < 25 → ∀ x, x < 5 → ∀ y, y < 5 → Kec.src j = x + 5 * y → j = y + 5 * ((2 * x + 3 * y) % 5) := by decide
theorem mvd_step (A : Kec.St) (x y : Nat) (hx : x < 5) (hy : y < 5) : Kec.Same (upd (mvd A x y) (y + 5 * ((2 * x + 3 * y) % 5)) (Kec.rot (A (x + 5 * y) ^^^ Kec.dd A x) (Kec.offs.getD (x + 5 * y) 0))) (mvd A x (y + 1)) := by
  intro j hj
  have hs := src_at x hx y hy
  unfold upd
  by_cases h : j = y + 5 * ((2 * x + 3 * y) % 5)
  · rw [if_pos h, h]
    unfold mvd
    rw [hs, if_pos (by omega)]
    unfold Kec.rhopi Kec.theta
    rw [hs, show (x + 5 * y) % 5 = x from by omega]
  · rw [if_neg h]
    have hn : Kec.src j ≠ x + 5 * y := fun e => h (src_only j hj x hx y hy e)
    unfold mvd
    by_cases hc : Kec.src j % 5 < x ∨ (Kec.src j % 5 = x ∧ Kec.src j / 5 < y)
    · rw [if_pos hc, if_pos (by omega)]
    · rw [if_neg hc, if_neg (by omega)]
theorem mvd_next (A : Kec.St) (x : Nat) : Kec.Same (mvd A x 5) (mvd A (x + 1) 0) := by
  intro j hj
  have hs : Kec.src j < 25 := by unfold Kec.src; omega
  unfold mvd
  by_cases hc : Kec.src j % 5 < x + 1
  · rw [if_pos (by omega), if_pos (by omega)]
  · rw [if_neg (by omega), if_neg (by omega)]
theorem mvd_all (A : Kec.St) : Kec.Same (mvd A 5 0) (Kec.rhopi (Kec.theta A)) := by
  intro j hj
  unfold mvd
  rw [if_pos (by omega)]

/-- The blocks of a round, and the words of its end. -/
structure Rd3 (w w' : World) (b1 b3 b4 : Nat) (M O : Kec.St) : Prop where
  r : IsSt w' b1 Z
  m : IsSt w' b3 M
  o : IsSt w' b4 O
  k : Below w.heap.size w w'
theorem Rd3.drew {w w' : World} {b1 b3 b4 : Nat} {M O : Kec.St} (h : Rd3 w w' b1 b3 b4 M O) : Rd3 w w'.drew b1 b3 b4 M O := ⟨h.r, h.m, h.o, h.k.drew⟩
theorem Rd3.put_ {w w' : World} {b1 b3 b4 : Nat} {M O : Kec.St} (h : Rd3 w w' b1 b3 b4 M O) (h1 : w.heap.size ≤ b1) (h13 : b1 < b3) (h34 : b3 < b4) (j : Nat) (x : BitVec 64) : Rd3 w (w'.setCell ⟨b4, j, none⟩ (.int .u64 (U x))) b1 b3 b4 M (upd O j x) :=
  ⟨World.rowIs.setOther h.r (a := ⟨b4, j, none⟩) (by simp; omega) _, World.rowIs.setOther h.m (a := ⟨b4, j, none⟩) (by simp; omega) _, h.o.set_ j x, h.k.setCell (p := ⟨b4, j, none⟩) (by simp; omega) _⟩
def cvd (M : Kec.St) (x y : Nat) : Kec.St := fun i => if i % 5 < x ∨ (i % 5 = x ∧ i / 5 < y) then Kec.chi M i else 0#64
theorem cvd_step (M : Kec.St) (x y : Nat) (hx : x < 5) : Kec.Same (upd (cvd M x y) (x + 5 * y) (M (x + 5 * y) ^^^ ~~~M ((x + 1) % 5 + 5 * y) &&& M ((x + 2) % 5 + 5 * y))) (cvd M x (y + 1)) := by
  intro i hi
  unfold upd
  by_cases h : i = x + 5 * y
  · rw [if_pos h, h]
    unfold cvd
    rw [if_pos (by omega)]
    unfold Kec.chi
    rw [show (x + 5 * y + 1) % 5 + 5 * ((x + 5 * y) / 5) = (x + 1) % 5 + 5 * y from by omega, show (x + 5 * y + 2) % 5 + 5 * ((x + 5 * y) / 5) = (x + 2) % 5 + 5 * y from by omega]
  · rw [if_neg h]
    unfold cvd
    by_cases hc : i % 5 < x ∨ (i % 5 = x ∧ i / 5 < y)
    · rw [if_pos hc, if_pos (by omega)]
    · rw [if_neg hc, if_neg (by omega)]
theorem cvd_next (M : Kec.St) (x : Nat) : Kec.Same (cvd M x 5) (cvd M (x + 1) 0) := by
  intro i hi
  unfold cvd
  by_cases hc : i % 5 < x + 1
  · rw [if_pos (by omega), if_pos (by omega)]
  · rw [if_neg (by omega), if_neg (by omega)]
theorem cvd_all (M : Kec.St) : Kec.Same (cvd M 5 0) (Kec.chi M) := by
  intro i hi
  unfold cvd
  rw [if_pos (by omega)]

def mixS (A : Kec.St) (x : Nat) : Kec.St := fun i => if i < x then Kec.col A i else 0#64

set_option maxHeartbeats 4000000 in
set_option maxRecDepth 100000 in
theorem round_any (A : Kec.St) (c : BitVec 64) (w : World) :
    Calls Tryz.prog 94 #[.agg (arr A), .int .u64 (U c)] w fun e w' => e = .returned (.agg (arr (Kec.round A c))) ∧ Below w.heap.size w w' := by
  have H := Rd1.start A w
  go_enter Tryz.func94, Tryz.ntmps94
  go_upto_region 2 with (fail)
  obtain ⟨b0, hb0⟩ : ∃ b, b = w.heap.size := ⟨_, rfl⟩
  rw [← hb0] at H
  rw [← hb0]
  generalize hb1 : b0 + 1 = b1 at *
  generalize hb2 : b1 + 1 = b2 at *
  refine wp_gen (fun w' => Rd1 w w' b0 b1 b2 A Z) H ?_
  clear H
  intro w1 H
  have h0 : w.heap.size ≤ b0 := by omega
  have h01 : b0 < b1 := by omega
  have h12 : b1 < b2 := by omega
  clear hb0 hb1 hb2
  go_wp2_with fail
  go_loopw [6] (fun v wr => ∃ x : Nat, x ≤ 5 ∧ v = .int .i64 x ∧ Rd1 w wr b0 b1 b2 A (mixS A x)) (fun v _ => 5 - (intOf v).toNat)
  case atStart => exact ⟨0, by omega, rfl, H.s, H.r, H.q.congr fun i _ => by unfold mixS; rw [if_neg (by omega)]; rfl, H.k⟩
  case round =>
    clear H
    obtain ⟨x, hx, rfl, H⟩ := hrel
    by_cases hlt : x < 5
    · have hp := H.put_ h0 h01 h12 x (Kec.col A x)
      go_wp2_with fail
      refine region_tail 25 (fun w' => Rd1 w w' b0 b1 b2 A (mixS A x)) (by kernel_rfl) (by kernel_rfl) H.drew ?_
      clear H hp
      intro w2 H
      have c0 := H.s.cell x (by omega)
      have c1 := H.s.cell (x + 5) (by omega)
      have c2 := H.s.cell (x + 10) (by omega)
      have c3 := H.s.cell (x + 15) (by omega)
      have c4 := H.s.cell (x + 20) (by omega)
      have d := H.q.cell x hlt
      have f := H.q.frozen x
      have e : A x ^^^ A (x + 5) ^^^ A (x + 10) ^^^ A (x + 15) ^^^ A (x + 20) = Kec.col A x := rfl
      have lx : (x : Int) < 25 := by omega
      have lx5 : (x : Int) < 5 := by omega
      have lx0 : 0 ≤ (x : Int) := by omega
      have i5 : IntKind.i64.wrap ((x : Int) + 5) = (x : Int) + 5 := IntWalk.i64_in _ (by omega)
      have j5 : ((x : Int) + 5).toNat = x + 5 := by omega
      have k5 : 0 ≤ (x : Int) + 5 := by omega
      have l5 : (x : Int) + 5 < 25 := by omega
      have i10 : IntKind.i64.wrap ((x : Int) + 10) = (x : Int) + 10 := IntWalk.i64_in _ (by omega)
      have j10 : ((x : Int) + 10).toNat = x + 10 := by omega
      have k10 : 0 ≤ (x : Int) + 10 := by omega
      have l10 : (x : Int) + 10 < 25 := by omega
      have i15 : IntKind.i64.wrap ((x : Int) + 15) = (x : Int) + 15 := IntWalk.i64_in _ (by omega)
      have j15 : ((x : Int) + 15).toNat = x + 15 := by omega
      have k15 : 0 ≤ (x : Int) + 15 := by omega
      have l15 : (x : Int) + 15 < 25 := by omega
      have i20 : IntKind.i64.wrap ((x : Int) + 20) = (x : Int) + 20 := IntWalk.i64_in _ (by omega)
      have j20 : ((x : Int) + 20).toNat = x + 20 := by omega
      have k20 : 0 ≤ (x : Int) + 20 := by omega
      have l20 : (x : Int) + 20 < 25 := by omega
      simp only [List.take_succ_cons, List.take_zero, List.drop_succ_cons, List.drop_zero]
      repeat still_step
      refine wpStill_nil ?_
      clear lx lx5 lx0 i5 j5 k5 l5 i10 j10 k10 l10 i15 j15 k15 l15 i20 j20 k20 l20
      go_wp2_with fail
      refine ⟨⟨x + 1, by omega, by go_num, ?_⟩, by simp [intOf]; omega⟩
      have H5 := H.put_ h0 h01 h12 x (Kec.col A x)
      refine ⟨H5.s, H5.r, H5.q.congr fun i _ => ?_, H5.k⟩
      unfold upd mixS
      by_cases hi : i = x
      · rw [if_pos hi, if_pos (by omega), hi]
      · rw [if_neg hi]
        by_cases hj : i < x
        · rw [if_pos hj, if_pos (by omega)]
        · rw [if_neg hj, if_neg (by omega)]
    · have hx5 := Lib.hid (show x = 5 by omega)
      have hq : IsRow wr b2 144 5 (Kec.col A) := H.q.congr fun i hi => by have := hx5.out; unfold mixS; rw [if_pos (by omega)]
      obtain ⟨b3, hb3⟩ : ∃ b, b = wr.heap.size := ⟨_, rfl⟩
      have h23 : b2 < b3 := by rw [hb3]; exact World.rowIs.lt hq
      have h4 : b3 ≤ wr.heap.size := by omega
      have H2 : Rd2 w (wr.alloc (.cells #[Value.int .u64 0, Value.int .u64 0, Value.int .u64 0, Value.int .u64 0, Value.int .u64 0, Value.int .u64 0, Value.int .u64 0, Value.int .u64 0, Value.int .u64 0, Value.int .u64 0, Value.int .u64 0, Value.int .u64 0, Value.int .u64 0, Value.int .u64 0, Value.int .u64 0, Value.int .u64 0, Value.int .u64 0, Value.int .u64 0, Value.int .u64 0, Value.int .u64 0, Value.int .u64 0, Value.int .u64 0, Value.int .u64 0, Value.int .u64 0, Value.int .u64 0] 105)) b0 b1 b2 b3 A Z := by
        rw [← arr_Z, hb3]
        exact ⟨World.rowIs.alloc H.s _, World.rowIs.alloc H.r _, World.rowIs.alloc hq _, .of_row (heap_alloc_new wr _), H.k.alloc H.k.size _⟩
      go_upto_region 7 with (fail)
      rw [← hb3]
      refine wp_gen (fun w' => Rd2 w w' b0 b1 b2 b3 A Z) H2 ?_
      clear H H2 hq hb3 h4
      intro w2 H
      go_wp2_with fail
      obtain ⟨wo, rfl⟩ : ∃ wo : World, wo = wr := ⟨_, rfl⟩
      go_loopw [8] (fun v wr => ∃ x : Nat, x ≤ 5 ∧ v = .int .i64 x ∧ Rd2 w wr b0 b1 b2 b3 A (mvd A x 0)) (fun v _ => 5 - (intOf v).toNat)
      case atStart => exact ⟨0, by omega, rfl, H.s, H.r, H.q, H.m.congr fun i _ => by unfold mvd; rw [if_neg (by omega)]; rfl, H.k⟩
      case round =>
        clear H
        obtain ⟨x, hx, rfl, H⟩ := hrel
        by_cases hlt : x < 5
        · have hbx : decide ((x : Int) < 5) = true := by simp; omega
          have q4 := H.q.cell ((x + 4) % 5) (Nat.mod_lt _ (by decide))
          have q1 := H.q.cell ((x + 1) % 5) (Nat.mod_lt _ (by decide))
          have e : Kec.col A ((x + 4) % 5) ^^^ Kec.rot (Kec.col A ((x + 1) % 5)) 1 = Kec.dd A x := rfl
          have i4 : IntKind.i64.wrap ((x : Int) + 4) = (x : Int) + 4 := IntWalk.i64_in _ (by omega)
          have i1 : IntKind.i64.wrap ((x : Int) + 1) = (x : Int) + 1 := IntWalk.i64_in _ (by omega)
          have j4 : ((x : Int) + 4).tmod 5 = (((x + 4) % 5 : Nat) : Int) := by rw [Int.tmod_eq_emod_of_nonneg (by omega)]; omega
          have j1 : ((x : Int) + 1).tmod 5 = (((x + 1) % 5 : Nat) : Int) := by rw [Int.tmod_eq_emod_of_nonneg (by omega)]; omega
          have l4 : (((x + 4) % 5 : Nat) : Int) < 5 := by omega
          have l1 : (((x + 1) % 5 : Nat) : Int) < 5 := by omega
          go_wp2_with fail
          go_quiet ((go_at_call 113; exact Calls.quiet_of_same (rot_q _ 1 (by decide) _)))
          clear q4 q1 e i4 i1 j4 j1 l4 l1
          go_wp2_with fail
          obtain ⟨wo2, rfl⟩ : ∃ wo : World, wo = wr := ⟨_, rfl⟩
          go_loopw [10] (fun v wr => ∃ y : Nat, y ≤ 5 ∧ v = .int .i64 y ∧ Rd2 w wr b0 b1 b2 b3 A (mvd A x y)) (fun v _ => 5 - (intOf v).toNat)
          case atStart => exact ⟨0, by omega, rfl, H.drewN _⟩
          case round =>
            clear H
            obtain ⟨y, hy, rfl, H⟩ := hrel
            by_cases hly : y < 5
            · have hidx : y + 5 * ((2 * x + 3 * y) % 5) < 25 := by omega
              have hsq := mvd_step A x y hlt hly
              generalize hmm : (2 * x + 3 * y) % 5 = m at *
              have hm5 : m < 5 := by omega
              have HSQ := Lib.hid hsq
              clear hsq
              have c0 := H.s.cell (x + 5 * y) (by omega)
              have hxy : x + 5 * y < 25 := by omega
              have a1 : IntKind.i64.wrap (2 * (x : Int)) = 2 * (x : Int) := IntWalk.i64_in _ (by omega)
              have a2 : IntKind.i64.wrap (3 * (y : Int)) = 3 * (y : Int) := IntWalk.i64_in _ (by omega)
              have a3 : IntKind.i64.wrap (2 * (x : Int) + 3 * (y : Int)) = 2 * (x : Int) + 3 * (y : Int) := IntWalk.i64_in _ (by omega)
              have a4 : (2 * (x : Int) + 3 * (y : Int)).tmod 5 = (m : Int) := by rw [Int.tmod_eq_emod_of_nonneg (by omega)]; omega
              have a5 : IntKind.i64.wrap (5 * (m : Int)) = 5 * (m : Int) := IntWalk.i64_in _ (by omega)
              have a6 : IntKind.i64.wrap ((y : Int) + 5 * (m : Int)) = (y : Int) + 5 * (m : Int) := IntWalk.i64_in _ (by omega)
              have a7 : IntKind.i64.wrap (5 * (y : Int)) = 5 * (y : Int) := IntWalk.i64_in _ (by omega)
              have a8 : IntKind.i64.wrap ((x : Int) + 5 * (y : Int)) = (x : Int) + 5 * (y : Int) := IntWalk.i64_in _ (by omega)
              have d1 : 0 ≤ (x : Int) + 5 * (y : Int) := by omega
              have d2 : (x : Int) + 5 * (y : Int) < 25 := by omega
              have d3 : ((x : Int) + 5 * (y : Int)).toNat = x + 5 * y := by omega
              have d4 : 0 ≤ (y : Int) + 5 * (m : Int) := by omega
              have d5 : (y : Int) + 5 * (m : Int) < 25 := by omega
              have d6 : ((y : Int) + 5 * (m : Int)).toNat = y + 5 * m := by omega
              clear hmm
              go_wp2_with fail
              go_region_held3 (fun w' => w'.cell? ⟨b0, x + 5 * y, none⟩ = some (.int .u64 (U (A (x + 5 * y))))) (first | go_keep | (exact H1.s.cell _ hxy) | (exact (H1.put_ h0 h01 h12 h23 _ _).s.cell _ hxy)) (first | (go_at_call 114; refine (offset_any x y hlt hly _).mono ?_; rintro e wb ⟨rfl, hbo⟩; have H1 := Rd2.below (H.drewN 1) hbo; have cm := H1.m.cell _ hidx; have fm := H1.m.frozen (y + 5 * m)) | (go_at_call 113; refine (rot_any _ _ (offs_lt _ hxy) _).mono ?_; rintro e wb' ⟨rfl, rfl⟩))
              clear a1 a2 a3 a4 a5 a6 a7 a8 d1 d2 d3 d4 d5 d6 cm fm c0
              go_wp2_with fail
              have hs' := HSQ.out
              simp only [List.getD_eq_getElem?_getD] at hs'
              have H5 := H1.put_ h0 h01 h12 h23 (y + 5 * m) (Kec.rot (A (x + 5 * y) ^^^ Kec.dd A x) (Kec.offs[x + 5 * y]?.getD 0))
              go_roundw
              case rel => exact ⟨y + 1, by omega, by go_num, H5.s, H5.r, H5.q, H5.m.congr hs', H5.k⟩
              case measure => simp [intOf]; omega
            · have hy6 := Lib.hid (show y = 5 by omega)
              go_wp2_with fail
              go_roundw
              case rel => exact ⟨x + 1, by omega, by go_num, H.s, H.r, H.q, H.m.congr (by rw [hy6.out]; exact mvd_next A x), H.k⟩
              case measure => simp [intOf]; omega
        · have hx6 := Lib.hid (show x = 5 by omega)
          have hm : IsSt wr b3 (Kec.rhopi (Kec.theta A)) := H.m.congr (by rw [hx6.out]; exact mvd_all A)
          generalize hMM : Kec.rhopi (Kec.theta A) = M at *
          have HM := Lib.hid hMM
          clear hMM
          obtain ⟨b4, hb4⟩ : ∃ b, b = wr.heap.size := ⟨_, rfl⟩
          have h34 : b3 < b4 := by rw [hb4]; exact World.rowIs.lt hm
          have h13 : b1 < b3 := by omega
          have h1 : w.heap.size ≤ b1 := by omega
          have H3 : Rd3 w (wr.alloc (.cells #[Value.int .u64 0, Value.int .u64 0, Value.int .u64 0, Value.int .u64 0, Value.int .u64 0, Value.int .u64 0, Value.int .u64 0, Value.int .u64 0, Value.int .u64 0, Value.int .u64 0, Value.int .u64 0, Value.int .u64 0, Value.int .u64 0, Value.int .u64 0, Value.int .u64 0, Value.int .u64 0, Value.int .u64 0, Value.int .u64 0, Value.int .u64 0, Value.int .u64 0, Value.int .u64 0, Value.int .u64 0, Value.int .u64 0, Value.int .u64 0, Value.int .u64 0] 105)) b1 b3 b4 M Z := by
            rw [← arr_Z, hb4]
            exact ⟨World.rowIs.alloc H.r _, World.rowIs.alloc hm _, .of_row (heap_alloc_new wr _), H.k.alloc H.k.size _⟩
          go_upto_region 16 with (fail)
          rw [← hb4]
          refine wp_gen (fun w' => Rd3 w w' b1 b3 b4 M Z) H3 ?_
          clear H H3 hm hb4 h23 h12 h01
          intro w3 H
          go_wp2_with fail
          obtain ⟨wo4, rfl⟩ : ∃ wo : World, wo = wr := ⟨_, rfl⟩
          go_loopw [12] (fun v wr => ∃ x : Nat, x ≤ 5 ∧ v = .int .i64 x ∧ Rd3 w wr b1 b3 b4 M (cvd M x 0)) (fun v _ => 5 - (intOf v).toNat)
          case atStart => exact ⟨0, by omega, rfl, H.r, H.m, H.o.congr fun i _ => by unfold cvd; rw [if_neg (by omega)]; rfl, H.k⟩
          case round =>
            clear H
            obtain ⟨x, hx, rfl, H⟩ := hrel
            by_cases hlt : x < 5
            · have hbx : decide ((x : Int) < 5) = true := by simp; omega
              go_wp2_with fail
              obtain ⟨wo5, rfl⟩ : ∃ wo : World, wo = wr := ⟨_, rfl⟩
              go_loopw [13] (fun v wr => ∃ y : Nat, y ≤ 5 ∧ v = .int .i64 y ∧ Rd3 w wr b1 b3 b4 M (cvd M x y)) (fun v _ => 5 - (intOf v).toNat)
              case atStart => exact ⟨0, by omega, rfl, H⟩
              case round =>
                clear H
                obtain ⟨y, hy, rfl, H⟩ := hrel
                by_cases hly : y < 5
                · have hsq := cvd_step M x y hlt
                  generalize hpp : (x + 1) % 5 = p at *
                  generalize hqq : (x + 2) % 5 = q at *
                  have hp5 : p < 5 := by omega
                  have hq5 : q < 5 := by omega
                  have HSQ := Lib.hid hsq
                  clear hsq
                  go_wp2_with fail
                  refine region_tail 30 (fun w' => Rd3 w w' b1 b3 b4 M (cvd M x y)) (by kernel_rfl) (by kernel_rfl) H.drew ?_
                  clear H
                  intro w5 H
                  have c0 := H.m.cell (x + 5 * y) (by omega)
                  have c1 := H.m.cell (p + 5 * y) (by omega)
                  have c2 := H.m.cell (q + 5 * y) (by omega)
                  have d := H.o.cell (x + 5 * y) (by omega)
                  have f := H.o.frozen (x + 5 * y)
                  have a1 : IntKind.i64.wrap (5 * (y : Int)) = 5 * (y : Int) := IntWalk.i64_in _ (by omega)
                  have a2 : IntKind.i64.wrap ((x : Int) + 5 * (y : Int)) = (x : Int) + 5 * (y : Int) := IntWalk.i64_in _ (by omega)
                  have a3 : IntKind.i64.wrap ((x : Int) + 1) = (x : Int) + 1 := IntWalk.i64_in _ (by omega)
                  have a4 : IntKind.i64.wrap ((x : Int) + 2) = (x : Int) + 2 := IntWalk.i64_in _ (by omega)
                  have a5 : ((x : Int) + 1).tmod 5 = (p : Int) := by rw [Int.tmod_eq_emod_of_nonneg (by omega)]; omega
                  have a6 : ((x : Int) + 2).tmod 5 = (q : Int) := by rw [Int.tmod_eq_emod_of_nonneg (by omega)]; omega
                  have a7 : IntKind.i64.wrap ((p : Int) + 5 * (y : Int)) = (p : Int) + 5 * (y : Int) := IntWalk.i64_in _ (by omega)
                  have a8 : IntKind.i64.wrap ((q : Int) + 5 * (y : Int)) = (q : Int) + 5 * (y : Int) := IntWalk.i64_in _ (by omega)
                  have e1 : 0 ≤ (x : Int) + 5 * (y : Int) := by omega
                  have e2 : (x : Int) + 5 * (y : Int) < 25 := by omega
                  have e3 : ((x : Int) + 5 * (y : Int)).toNat = x + 5 * y := by omega
                  have e4 : 0 ≤ (p : Int) + 5 * (y : Int) := by omega
                  have e5 : (p : Int) + 5 * (y : Int) < 25 := by omega
                  have e6 : ((p : Int) + 5 * (y : Int)).toNat = p + 5 * y := by omega
                  have e7 : 0 ≤ (q : Int) + 5 * (y : Int) := by omega
                  have e8 : (q : Int) + 5 * (y : Int) < 25 := by omega
                  have e9 : ((q : Int) + 5 * (y : Int)).toNat = q + 5 * y := by omega
                  clear hpp hqq
                  simp only [List.take_succ_cons, List.take_zero, List.drop_succ_cons, List.drop_zero]
                  repeat still_step
                  refine wpStill_nil ?_
                  clear a1 a2 a3 a4 a5 a6 a7 a8 e1 e2 e3 e4 e5 e6 e7 e8 e9 c0 c1 c2
                  go_wp2_with fail
                  have H5 := H.put_ h1 h13 h34 (x + 5 * y) (M (x + 5 * y) ^^^ ~~~M (p + 5 * y) &&& M (q + 5 * y))
                  go_roundw
                  case rel => exact ⟨y + 1, by omega, by go_num, H5.r, H5.m, H5.o.congr HSQ.out, H5.k⟩
                  case measure => simp [intOf]; omega
                · have hy6 := Lib.hid (show y = 5 by omega)
                  go_wp2_with fail
                  go_roundw
                  case rel => exact ⟨x + 1, by omega, by go_num, H.r, H.m, H.o.congr (by rw [hy6.out]; exact cvd_next M x), H.k⟩
                  case measure => simp [intOf]; omega
            · have hx7 := Lib.hid (show x = 5 by omega)
              have ho : Rd3 w wr b1 b3 b4 M (Kec.chi M) := ⟨H.r, H.m, H.o.congr (by rw [hx7.out]; exact cvd_all M), H.k⟩
              clear H
              have c0 := ho.o.cell 0 (by decide)
              have f0 := ho.o.frozen 0
              go_upto_region 24 with (fail)
              clear c0 f0
              have H5 := ho.put_ h1 h13 h34 0 (Kec.chi M 0 ^^^ c)
              rw [iota_upd] at H5
              refine wp_gen (fun w' => Rd3 w w' b1 b3 b4 M (Kec.iota (Kec.chi M) c)) H5 ?_
              clear ho H5
              intro w6 H
              go_wp2_with (first | (refine wpList_load_row rfl 105 _ rfl b4 rfl 105 _ (0, 0) _ H.o.row Tryz.underlying105 rfl (by rw [arr_size]; exact info26) ?_) | (refine wpList_store_row rfl 105 _ _ rfl b1 (arr (Kec.iota (Kec.chi M) c)) rfl rfl 105 _ H.r.row (by rw [arr_size]; exact info26) (by rw [arr_size, arr_size]) (arr_one _) ?_))
              exact bodyPost_ret (v := .agg (arr (Kec.iota (Kec.chi M) c))) (results_cell_row rfl _ _ b1 105 _ (0, 0) _ rfl (setRow_heap _ b1 _ _ _ _ H.r.row) Tryz.underlying105 rfl (by rw [arr_size]; exact info26)) rfl ⟨by rw [← HM.out]; rfl, H.k.trans ⟨rfl, rfl, rfl, by simp, fun k hk => setRow_other _ _ _ _ (by omega)⟩⟩
end Go.Proofs.YtlfgnecfabdkmaaGreatDoor.Dg
end
section
namespace Go.Proofs.YtlfgnecfabdkmaaGreatDoor.Dg
open Go.RowKit

theorem region_open {P : Program} {id : Nat} {ops : Array Oper} {Q : Exit → Act → World → Prop} {a : Act} {w : World} (R : World → Prop) (hm : P.follows .mixedOrders = true)
    (hR : R w.drew) (h : ∀ w1, R w1 → wpAny P .any ops Q ops.size (Array.replicate ops.size false) a w1) : (Code.region id ops true).wp P Q a w := wp_region_any hm (h w.drew hR)

structure RpAt (w w' : World) (b0 b1 : Nat) (S : Kec.St) : Prop where
  s : IsSt w' b0 S
  r : IsSt w' b1 Z
  k : Below w.heap.size w w'
theorem RpAt.below {w w' w'' : World} {b0 b1 : Nat} {S : Kec.St} (h : RpAt w w' b0 b1 S) (hb : Below w'.heap.size w' w'') : RpAt w w'' b0 b1 S :=
  ⟨World.rowIs.of_block h.s (hb.block _ (World.rowIs.lt h.s)), World.rowIs.of_block h.r (hb.block _ (World.rowIs.lt h.r)), h.k.trans (hb.mono h.k.size)⟩
theorem RpAt.drew {w w' : World} {b0 b1 : Nat} {S : Kec.St} (h : RpAt w w' b0 b1 S) : RpAt w w'.drew b0 b1 S := ⟨h.s, h.r, h.k.drew⟩
theorem RpAt.setRow {w w' : World} {b0 b1 : Nat} {S S' : Kec.St} (h : RpAt w w' b0 b1 S) (h0 : w.heap.size ≤ b0) (h01 : b0 < b1) : RpAt w (w'.setRow b0 (arr S')) b0 b1 S' :=
  ⟨.of_row (setRow_heap _ b0 _ _ _ _ h.s.row), World.rowIs.of_block h.r (setRow_other _ _ _ _ (by omega)), h.k.trans ⟨rfl, rfl, rfl, by simp, fun k hk => setRow_other _ _ _ _ (by omega)⟩⟩

set_option maxHeartbeats 4000000 in
set_option maxRecDepth 100000 in
theorem refPermute_any (A : Kec.St) (w : World) :
    Calls Tryz.prog 77 #[.agg (arr A)] w fun e w' => e = .returned (.agg (arr (Kec.perm A))) ∧ Below w.heap.size w w' := by
  have H0 := PermAt.start A w
  have H : RpAt w ((w.alloc (.cells (arr A) 105)).alloc (.cells #[.int .u64 0, .int .u64 0, .int .u64 0, .int .u64 0, .int .u64 0, .int .u64 0, .int .u64 0, .int .u64 0, .int .u64 0, .int .u64 0, .int .u64 0, .int .u64 0, .int .u64 0, .int .u64 0, .int .u64 0, .int .u64 0, .int .u64 0, .int .u64 0, .int .u64 0, .int .u64 0, .int .u64 0, .int .u64 0, .int .u64 0, .int .u64 0, .int .u64 0] 105)) w.heap.size (w.heap.size + 1) A := by
    refine ⟨World.rowIs.of_block H0.s ?_, World.rowIs.of_block H0.r ?_, ((Below.refl _ _).alloc (Nat.le_refl _) _).alloc (by simp) _⟩
    · exact (Below.heap_alloc _ _ _ (by simp; omega)).symm
    · exact (Below.heap_alloc _ _ _ (by simp)).symm
  clear H0
  go_enter Tryz.func77, Tryz.ntmps77
  go_upto_region 1 with (fail)
  obtain ⟨b0, hb0⟩ : ∃ b, b = w.heap.size := ⟨_, rfl⟩
  rw [← hb0] at H
  rw [← hb0]
  generalize hb1 : b0 + 1 = b1 at *
  refine wp_gen (fun w' => RpAt w w' b0 b1 A) H ?_
  clear H
  intro w1 H
  have h0 : w.heap.size ≤ b0 := by omega
  have h01 : b0 < b1 := by omega
  clear hb0 hb1
  go_wp2_with fail
  go_loopw [3] (fun v wr => ∃ k : Nat, k ≤ 24 ∧ v = .int .i64 k ∧ RpAt w wr b0 b1 (Kec.permN A k)) (fun v _ => 24 - (intOf v).toNat)
  case atStart => exact ⟨0, by omega, rfl, H⟩
  case round =>
    clear H
    obtain ⟨k, hk, rfl, H⟩ := hrel
    by_cases hlt : k < 24
    · go_upto_region 4 with (fail)
      refine region_open (fun w' => RpAt w w' b0 b1 (Kec.permN A k)) (by kernel_rfl) H.drew ?_
      clear H
      intro w1 H
      refine wpAny_take (i := 1) (v := .int .i64 k) rfl (by kernel_rfl) (by kernel_rfl) (by kernel_rfl) (fun _ _ _ h => h) (Or.inl ⟨by rfl, by intro w; go_simp⟩) ?_
      refine wpAny_ready (rs := [0, 2]) (by kernel_rfl) (by simp) ?_
      refine AllReady.cons rfl (fun K hK => ?_) ?_
      · rw [if_pos (by rfl)]
        refine wp_load_row 105 _ rfl b0 rfl 105 _ (0, 0) _ H.s.row Tryz.underlying105 rfl (by rw [arr_size]; exact info26) (hK _ _ ?_)
        clear hK K
        refine wpAny_ready (rs := [2]) (by kernel_rfl) (by simp) ?_
        refine AllReady.cons rfl (fun K hK => ?_) AllReady.nil
        rw [if_pos (by rfl)]
        go_simp
        refine (constant_any k hlt _).mono ?_
        rintro e w2 ⟨rfl, hb⟩
        go_wp2_with fail
        replace H := H.below hb
        clear hb
        refine wpAny_ready (rs := [3]) (by kernel_rfl) (by simp) ?_
        refine AllReady.cons rfl (fun K hK => ?_) AllReady.nil
        rw [if_pos (by rfl)]
        go_simp
        refine (round_any _ _ _).mono ?_
        rintro e w3 ⟨rfl, hb⟩
        go_wp2_with fail
        replace H := H.below hb
        clear hb
        refine wpAny_ready (rs := [4]) (by kernel_rfl) (by simp) ?_
        refine AllReady.cons rfl (fun K hK => ?_) AllReady.nil
        rw [if_pos (by rfl)]
        refine wp_store_row 105 _ _ rfl b0 (arr (Kec.round (Kec.permN A k) (Kec.const k))) rfl rfl 105 _ H.s.row (by rw [arr_size]; exact info26) (by rw [arr_size, arr_size]) (arr_one _) (hK _ _ ?_)
        clear hK K
        refine wpAny_done (by kernel_rfl) ?_ _
        replace H := H.setRow (S' := Kec.round (Kec.permN A k) (Kec.const k)) h0 h01
        go_wp2_with fail
        exact ⟨⟨k + 1, by omega, by go_num, H⟩, by simp [intOf]; omega⟩
      refine AllReady.cons rfl (fun K hK => ?_) AllReady.nil
      rw [if_pos (by rfl)]
      go_simp
      refine (constant_any k hlt _).mono ?_
      rintro e w2 ⟨rfl, hb⟩
      go_wp2_with fail
      replace H := H.below hb
      clear hb
      refine wpAny_ready (rs := [0]) (by kernel_rfl) (by simp) ?_
      refine AllReady.cons rfl (fun K hK => ?_) AllReady.nil
      rw [if_pos (by rfl)]
      refine wp_load_row 105 _ rfl b0 rfl 105 _ (0, 0) _ H.s.row Tryz.underlying105 rfl (by rw [arr_size]; exact info26) (hK _ _ ?_)
      clear hK K
      refine wpAny_ready (rs := [3]) (by kernel_rfl) (by simp) ?_
      refine AllReady.cons rfl (fun K hK => ?_) AllReady.nil
      rw [if_pos (by rfl)]
      go_simp
      refine (round_any _ _ _).mono ?_
      rintro e w3 ⟨rfl, hb⟩
      go_wp2_with fail
      replace H := H.below hb
      clear hb
      refine wpAny_ready (rs := [4]) (by kernel_rfl) (by simp) ?_
      refine AllReady.cons rfl (fun K hK => ?_) AllReady.nil
      rw [if_pos (by rfl)]
      refine wp_store_row 105 _ _ rfl b0 (arr (Kec.round (Kec.permN A k) (Kec.const k))) rfl rfl 105 _ H.s.row (by rw [arr_size]; exact info26) (by rw [arr_size, arr_size]) (arr_one _) (hK _ _ ?_)
      clear hK K
      refine wpAny_done (by kernel_rfl) ?_ _
      replace H := H.setRow (S' := Kec.round (Kec.permN A k) (Kec.const k)) h0 h01
      go_wp2_with fail
      exact ⟨⟨k + 1, by omega, by go_num, H⟩, by simp [intOf]; omega⟩
    · obtain rfl : k = 24 := by omega
      go_wp2_with (first | (refine wpList_load_row rfl 105 _ rfl b0 rfl 105 _ (0, 0) _ H.s.row Tryz.underlying105 rfl (by rw [arr_size]; exact info26) ?_) | (refine wpList_store_row rfl 105 _ _ rfl b1 (arr (Kec.permN A 24)) rfl rfl 105 _ H.r.row (by rw [arr_size]; exact info26) (by rw [arr_size, arr_size]) (arr_one _) ?_))
      exact bodyPost_ret (v := .agg (arr (Kec.perm A))) (results_cell_row rfl _ _ b1 105 _ (0, 0) _ rfl (setRow_heap _ b1 _ _ _ _ H.r.row) Tryz.underlying105 rfl (by rw [arr_size]; exact info26)) rfl ⟨rfl, H.k.trans ⟨rfl, rfl, rfl, by simp, fun k hk => setRow_other _ _ _ _ (by omega)⟩⟩
end Go.Proofs.YtlfgnecfabdkmaaGreatDoor.Dg
end
section
namespace Go.Proofs.YtlfgnecfabdkmaaGreatDoor.Dg
namespace Spo
open Kec

/-- How many zeros stand between the 6 and the last byte's end. -/
def zs (n : Nat) : Nat := 135 - n % 136
/-- The padded bytes without the last bit. -/
def pad0 (l : List UInt8) : List UInt8 := l ++ 6 :: List.replicate (zs l.length) 0
/-- The last byte's highest bit. -/
def setTop (l : List UInt8) : List UInt8 := l.set (l.length - 1) (l.getD (l.length - 1) 0 ||| 128)
/-- The padded bytes. -/
def pad (l : List UInt8) : List UInt8 := setTop (pad0 l)
theorem pad0_len (l : List UInt8) : (pad0 l).length = l.length + 1 + zs l.length := by unfold pad0; simp; omega
theorem pad_len (l : List UInt8) : (pad l).length = l.length + 1 + zs l.length := by unfold pad setTop; rw [List.length_set, pad0_len]
theorem pad_mod (l : List UInt8) : (pad l).length % 136 = 0 := by rw [pad_len]; unfold zs; omega

theorem put_zero (S : St) (k : Nat) : put S k 0 = S := by
  unfold put
  have : b64 0 <<< (8 * (k % 8)) = 0#64 := by
    have : b64 0 = 0#64 := by decide
    rw [this]; simp
  rw [this]
  funext t
  unfold upd
  split
  · next h => rw [h]; simp
  · rfl
theorem ab_zeros (n : Nat) : ∀ (S : St) (k : Nat), k + n < 136 → ab (S, k) (List.replicate n 0) = (S, k + n) := by
  induction n with
  | zero => intro S k _; rfl
  | succ n ih =>
    intro S k h
    rw [List.replicate_succ, ab_cons]
    have : ab1 (S, k) 0 = (S, k + 1) := by
      unfold ab1
      simp only [put_zero]
      rw [if_neg (by omega)]
    rw [this, ih S (k + 1) (by omega)]
    congr 1; omega
theorem put_last (S : St) : put S 135 128 = upd S 16 (S 16 ^^^ top) := by
  unfold put
  have : b64 128 <<< (8 * (135 % 8)) = top := by decide +kernel
  rw [this]
theorem put_both (S : St) : put S 135 (6 ||| 128) = upd (put S 135 6) 16 (put S 135 6 16 ^^^ top) := by
  have h : b64 (6 ||| 128) <<< (8 * (135 % 8)) = b64 6 <<< (8 * (135 % 8)) ^^^ top := by decide +kernel
  unfold put
  rw [h, show 135 / 8 = 16 from rfl, upd_at, upd_upd, BitVec.xor_assoc]
theorem set_last (l : List UInt8) (n : Nat) (c : UInt8) : setTop (l ++ List.replicate n 0 ++ [c]) = l ++ List.replicate n 0 ++ [c ||| 128] := by
  unfold setTop
  simp
theorem ab_pad (l : List UInt8) : (ab (zero, 0) (pad l)).1 = fin (ab (zero, 0) l) ∧ (ab (zero, 0) (pad l)).2 = 0 := by
  have hk : (ab (zero, 0) l).2 < 136 := ab_lt l _ (by show 0 < 136; decide)
  have he : (ab (zero, 0) l).2 = l.length % 136 := by rw [ab_at l _ (by show 0 < 136; decide)]; simp
  by_cases h : l.length % 136 = 135
  · have hz : zs l.length = 0 := by unfold zs; omega
    have hp : pad l = l ++ [6 ||| 128] := by
      unfold pad pad0
      rw [hz]
      have := set_last l 0 6
      simpa using this
    rw [hp, ab_append]
    generalize ab (zero, 0) l = p at *
    obtain ⟨S, k⟩ := p
    obtain rfl : k = 135 := by simpa [h] using he
    unfold ab
    simp only [List.foldl_cons, List.foldl_nil]
    unfold ab1
    rw [if_pos rfl]
    refine ⟨?_, rfl⟩
    unfold fin
    simp only [put_both]
  · obtain ⟨n, hn⟩ : ∃ n, zs l.length = n + 1 := ⟨zs l.length - 1, by unfold zs; omega⟩
    have hp : pad l = l ++ (6 :: (List.replicate n 0 ++ [128])) := by
      unfold pad pad0
      rw [hn, List.replicate_succ']
      have := set_last (l ++ [6]) n 0
      simpa using this
    rw [hp, ab_append]
    generalize ab (zero, 0) l = p at *
    obtain ⟨S, k⟩ := p
    have hkl : k = l.length % 136 := he
    have hkn : k + 1 + n = 135 := by unfold zs at hn; omega
    rw [ab_cons]
    have h1 : ab1 (S, k) 6 = (put S k 6, k + 1) := by
      unfold ab1
      rw [if_neg (by show ¬ k + 1 = 136; omega)]
    rw [h1, ab_append, ab_zeros n _ _ (by omega), hkn]
    unfold ab
    simp only [List.foldl_cons, List.foldl_nil]
    unfold ab1
    rw [if_pos rfl]
    refine ⟨?_, rfl⟩
    unfold fin
    simp only [put_last]
/-- The digest by its padded bytes. -/
theorem dig_pad (l : List UInt8) : dig l = sq (ab (zero, 0) (pad l)).1 := by unfold dig; rw [(ab_pad l).1]

/-- The first i bytes f of a block combined with a state. -/
def pb (S : St) (f : Nat → UInt8) : Nat → St
  | 0 => S
  | i + 1 => put (pb S f i) i (f i)
theorem ab_range (S : St) (f : Nat → UInt8) : ∀ i, i < 136 → ab (S, 0) ((List.range i).map f) = (pb S f i, i)
  | 0, _ => rfl
  | i + 1, h => by
    rw [List.range_succ, List.map_append, ab_append, ab_range S f i (by omega)]
    unfold ab
    simp only [List.map_cons, List.map_nil, List.foldl_cons, List.foldl_nil]
    unfold ab1
    rw [if_neg (by show ¬ i + 1 = 136; omega)]
    rfl
theorem ab_block (S : St) (f : Nat → UInt8) : ab (S, 0) ((List.range 136).map f) = (perm (pb S f 136), 0) := by
  rw [show (136 : Nat) = 135 + 1 from rfl, List.range_succ, List.map_append, ab_append, ab_range S f 135 (by omega)]
  unfold ab
  simp only [List.map_cons, List.map_nil, List.foldl_cons, List.foldl_nil]
  unfold ab1
  rw [if_pos rfl]
  rfl
theorem take_block (p : List UInt8) (at_ : Nat) (h : at_ + 136 ≤ p.length) : p.take (at_ + 136) = p.take at_ ++ (List.range 136).map (fun i => p.getD (at_ + i) 0) := by
  apply List.ext_getElem
  · simp; omega
  · intro i h1 h2
    simp only [List.length_take] at h1
    by_cases hi : i < at_
    · rw [List.getElem_append_left (by simp; omega)]
      simp
    · rw [List.getElem_append_right (by simp; omega)]
      simp only [List.getElem_take, List.getElem_map, List.getElem_range, List.length_take, Nat.min_eq_left (show at_ ≤ p.length by omega)]
      rw [show at_ + (i - at_) = i by omega, List.getD_eq_getElem?_getD, List.getElem?_eq_getElem (by omega)]
      rfl
/-- One block more. -/
theorem ab_next (p : List UInt8) (m : Nat) (h : 136 * m + 136 ≤ p.length) :
    (ab (zero, 0) (p.take (136 * m + 136))).1 = perm (pb (ab (zero, 0) (p.take (136 * m))).1 (fun i => p.getD (136 * m + i) 0) 136) := by
  rw [take_block p _ h, ab_append]
  have h2 : (ab (zero, 0) (p.take (136 * m))).2 = 0 := by
    rw [ab_at _ _ (by show 0 < 136; decide)]
    simp only [List.length_take]
    show (0 + min (136 * m) p.length) % 136 = 0
    omega
  generalize ab (zero, 0) (p.take (136 * m)) = q at *
  obtain ⟨S, k⟩ := q
  obtain rfl : k = 0 := h2
  rw [ab_block]
end Spo
end Go.Proofs.YtlfgnecfabdkmaaGreatDoor.Dg
end
section
namespace Go.Proofs.YtlfgnecfabdkmaaGreatDoor.Dg
open Go.RowKit

def byteCells (l : List UInt8) : List Value := l.map fun c => Value.int .u8 (c.toNat : Int)
theorem byteCells_len (l : List UInt8) : (byteCells l).length = l.length := by unfold byteCells; simp
theorem byteCells_one (l : List UInt8) : ∀ u ∈ byteCells l, u.oneCell' = true := by
  intro u hu
  unfold byteCells at hu
  obtain ⟨c, _, rfl⟩ := List.mem_map.1 hu
  rfl
/-- The slice value v owns these bytes: its row begins in a block from base on; nothing of the row is frozen. -/
def Byt (w : World) (base : Nat) (v : Value) (l : List UInt8) : Prop :=
  ∃ g cap cur fz, v = .slice (some ⟨g, 0, none⟩) l.length cap ∧ base ≤ g ∧ w.heap[g]? = some (.cells cur 5 fz) ∧ (∀ j, j < cur.size → ¬ (fz.1 ≤ j ∧ j < fz.2)) ∧ l.length ≤ cap ∧ cap ≤ maxLen ∧ cur.size = cap ∧ cur.toList.take l.length = byteCells l

/-- Block g is a row of cap cells of bytes, the first of which are these. -/
structure BytAt (w : World) (g cap : Nat) (l : List UInt8) : Prop where
  n : l.length ≤ cap
  m : cap ≤ maxLen
  h : ∃ cur fz, w.heap[g]? = some (.cells cur 5 fz) ∧ (∀ j, j < cur.size → ¬ (fz.1 ≤ j ∧ j < fz.2)) ∧ cur.size = cap ∧ cur.toList.take l.length = byteCells l
theorem BytAt.lt {w : World} {g cap : Nat} {l : List UInt8} (h : BytAt w g cap l) : g < w.heap.size := by
  obtain ⟨cur, fz, hg, _⟩ := h.h
  exact (Array.getElem?_eq_some_iff.1 hg).1
theorem BytAt.of_block {w w' : World} {g cap : Nat} {l : List UInt8} (h : BytAt w g cap l) (e : w'.heap[g]? = w.heap[g]?) : BytAt w' g cap l := by
  obtain ⟨cur, fz, hg, r⟩ := h.h
  exact ⟨h.n, h.m, cur, fz, e.trans hg, r⟩
theorem BytAt.cell {w : World} {g cap : Nat} {l : List UInt8} (h : BytAt w g cap l) (i : Nat) (hi : i < l.length) : w.cell? ⟨g, i, none⟩ = some (.int .u8 ((l.getD i 0).toNat : Int)) := by
  obtain ⟨cur, fz, hg, _, hs, ht⟩ := h.h
  rw [cell_of_row w g i cur _ fz hg]
  have h1 := congrArg (fun x => x[i]?) ht
  simp only [List.getElem?_take, if_pos hi] at h1
  rw [← Array.getElem?_toList, h1]
  unfold byteCells
  rw [List.getElem?_map, List.getElem?_eq_getElem hi, List.getD_eq_getElem?_getD, List.getElem?_eq_getElem hi]
  rfl
theorem BytAt.frozen {w : World} {g cap : Nat} {l : List UInt8} (h : BytAt w g cap l) (i : Nat) (hi : i < l.length) : w.frozen? ⟨g, i, none⟩ = false := by
  obtain ⟨cur, fz, hg, hf, hs, ht⟩ := h.h
  have := hf i (by have := h.n; omega)
  simp only [World.frozen?, hg]
  obtain ⟨lo, hi'⟩ := fz
  simp only at this ⊢
  simp only [Bool.and_eq_false_iff, decide_eq_false_iff_not]
  omega
theorem BytAt.set {w : World} {g cap : Nat} {l : List UInt8} (h : BytAt w g cap l) (i : Nat) (c : UInt8) : BytAt (w.setCell ⟨g, i, none⟩ (.int .u8 (c.toNat : Int))) g cap (l.set i c) := by
  obtain ⟨cur, fz, hg, hf, hs, ht⟩ := h.h
  refine ⟨by rw [List.length_set]; exact h.n, h.m, cur.setIfInBounds i (.int .u8 (c.toNat : Int)), fz, ?_, ?_, ?_, ?_⟩
  · simp [World.setCell, Array.getElem?_modify, hg]
  · intro j hj; exact hf j (by simpa using hj)
  · simpa using hs
  · rw [List.length_set, Array.toList_setIfInBounds, List.take_set, ht]
    unfold byteCells
    rw [List.map_set]
theorem BytAt.setOther {w : World} {g cap : Nat} {l : List UInt8} (h : BytAt w g cap l) (p : Addr) (hp : g ≠ p.block) (v : Value) : BytAt (w.setCell p v) g cap l := h.of_block (Go.Deep.blk_setCell_other _ _ _ _ hp)
theorem BytAt.alloc {w : World} {g cap : Nat} {l : List UInt8} (h : BytAt w g cap l) (o : Obj) : BytAt (w.alloc o) g cap l := h.of_block (heap_alloc_old w o h.lt)
theorem BytAt.drew {w : World} {g cap : Nat} {l : List UInt8} (h : BytAt w g cap l) : BytAt w.drew g cap l := h.of_block rfl
theorem BytAt.below {w w' : World} {g cap : Nat} {l : List UInt8} (h : BytAt w g cap l) (hb : Below w.heap.size w w') : BytAt w' g cap l := h.of_block (hb.block _ h.lt)
theorem BytAt.str {w : World} {g cap : Nat} {l : List UInt8} (h : BytAt w g cap l) (src e dst : TypeId) (hs : Tryz.prog.underlying src = some (.slice e)) (he : Tryz.prog.underlying e = some (.int .u8)) (hd : Tryz.prog.underlying dst = some .string) :
    (convert src dst (Value.slice (some ⟨g, 0, none⟩) l.length cap)).run Tryz.prog w = .ok (.string ⟨l.toArray⟩) w :=
  run_convert_bytes_back w src dst e ⟨g, 0, none⟩ cap l hs he hd (fun j hj => by
    have hadd : (⟨g, 0, none⟩ : Addr).add j = ⟨g, j, none⟩ := by unfold Addr.add; split <;> simp_all
    rw [hadd, h.cell j hj, List.getD_eq_getElem?_getD, List.getElem?_eq_getElem hj]
    rfl)
/-- What the conversion of a string lays. -/
theorem BytAt.new (w : World) (s : ByteArray) (hs : s.size ≤ maxLen) :
    BytAt (w.drew.alloc (.cells (bytesRow s (grownCap w s.size 0 5)) 5 ((bytesRow s (grownCap w s.size 0 5)).size, (bytesRow s (grownCap w s.size 0 5)).size + 1))) w.heap.size (grownCap w s.size 0 5) s.data.toList := by
  have hge := grownCap_ge w s.size 0 5
  refine ⟨hge, grownCap_le_maxLen w _ _ _ hs, _, _, heap_alloc_new w.drew _, ?_, ?_, ?_⟩
  · intro j hj; simp only; omega
  · have : s.data.size = s.size := rfl
    unfold bytesRow; simp; omega
  · unfold bytesRow byteCells
    have hl : s.data.toList.length = (s.data.toList.map fun b => Value.int .u8 (b.toNat : Int)).length := by simp
    rw [Array.toList_append, Array.toList_map, hl]
    exact List.take_left
/-- A byte behind the row. -/
theorem run_append_byt (w : World) (t ty : TypeId) (ht : Tryz.prog.underlying t = some (.slice 5)) (i : TypeInfo) (hi : Tryz.prog.info? 5 = some i) (hz : i.zero = some (.int .u8 0)) (hsize : i.size = 1) (hby : i.bytes = 1)
    (g cap : Nat) (l : List UInt8) (h : BytAt w g cap l) (b c : Nat) (x : UInt8) (hx : w.cell? ⟨b, 0, none⟩ = some (.int .u8 (x.toNat : Int))) (h63 : l.length + 1 ≤ 140737488355328) :
    ∃ g' cap' w', (Builtin.append_ #[t, t] ty #[.slice (some ⟨g, 0, none⟩) l.length cap, .slice (some ⟨b, 0, none⟩) 1 c]).run Tryz.prog w = .ok (.slice (some ⟨g', 0, none⟩) (l.length + 1) cap') w' ∧
      BytAt w' g' cap' (l ++ [x]) ∧ w.grownBy w' (some g) ∧ (g' = g ∨ g' = w.heap.size) := by
  obtain ⟨cur, fz, hg, hf, hs, htake⟩ := h.h
  have hl1 : (byteCells l).length = l.length * i.size := by rw [byteCells_len, hsize, Nat.mul_one]
  have hnews : ∀ j u, ([Value.int .u8 (x.toNat : Int)] : List Value)[j]? = some u → w.cell? ((⟨b, 0, none⟩ : Addr).add j) = some u := by
    intro j u hu
    have hadd : (⟨b, 0, none⟩ : Addr).add j = ⟨b, j, none⟩ := by unfold Addr.add; split <;> simp_all
    match j, hu with
    | 0, hu => rw [hadd, hx]; simpa using hu
    | j + 1, hu => simp at hu
  have holds : ∀ j u, (byteCells l)[j]? = some u → w.cell? ((⟨g, 0, none⟩ : Addr).add j) = some u := by
    intro j u hu
    have hadd : (⟨g, 0, none⟩ : Addr).add j = ⟨g, j, none⟩ := by unfold Addr.add; split <;> simp_all
    have hj : j < l.length := by
      have := (List.getElem?_eq_some_iff.1 hu).1
      rwa [byteCells_len] at this
    rw [hadd, cell_of_row w g j cur _ fz hg, ← Array.getElem?_toList]
    rw [← htake, List.getElem?_take, if_pos hj] at hu
    exact hu
  have hgr : ∀ o, w.grownBy (w.drew.alloc o) (some g) := fun o => ⟨rfl, rfl, rfl, by simp, fun k hk _ => heap_alloc_old w.drew _ hk⟩
  by_cases hroom : l.length + 1 ≤ cap
  · have hfr : w.frozen? ⟨g, l.length, none⟩ = false := by
      have := hf l.length (by omega)
      simp only [World.frozen?, hg]
      obtain ⟨lo, hi'⟩ := fz
      simp only at this ⊢
      simp only [Bool.and_eq_false_iff, decide_eq_false_iff_not]
      omega
    have hci : l.length < cur.size := by omega
    have hcell : w.cell? ⟨g, l.length, none⟩ = some cur[l.length] := by simp [World.cell?, hg, hci]
    have hst : (store ⟨g, l.length, none⟩ (.int .u8 (x.toNat : Int))).run Tryz.prog w = .ok () (w.setRow g (cur.setIfInBounds l.length (.int .u8 (x.toNat : Int)))) := by
      rw [run_store Tryz.prog w _ _ _ rfl, hcell]
      simp [hfr, setCell_eq_setRow w g l.length cur 5 fz _ hg]
    have hf1 := run_firstCells_some (P := Tryz.prog) w i.size 1 ⟨b, 0, none⟩ 1 c [Value.int .u8 (x.toNat : Int)] (by rw [hsize]; rfl) hnews
    refine ⟨g, cap, w.setRow g (cur.setIfInBounds l.length (.int .u8 (x.toNat : Int))), ?_, ?_, ⟨rfl, rfl, rfl, by simp, fun k _ hk => setRow_other w g k _ (fun e => hk (by rw [e]))⟩, .inl rfl⟩
    · rw [hsize] at hf1
      simp [Builtin.append_, run_underlying ht, sizeOf, typeInfo, hi, hsize, Builtin.lenOf, hroom, hf1, Addr.add_lit, storeCells, hst]
    · refine ⟨by simp; omega, h.m, _, fz, setRow_heap w g cur _ _ _ hg, ?_, by simpa using hs, ?_⟩
      · intro j hj; exact hf j (by simpa using hj)
      · rw [List.length_append, List.length_singleton, Array.toList_setIfInBounds, List.take_set, List.take_succ_eq_append_getElem (by simpa using hci), htake]
        unfold byteCells
        rw [List.map_append, List.set_append_right _ _ (by simp)]
        simp
  · have hcap : cap = l.length := by have := h.n; omega
    have hr := run_append_grow (P := Tryz.prog) w t ty 5 i (.int .u8 0) ht hi hz ⟨g, 0, none⟩ l.length cap (byteCells l) hl1 holds ⟨b, 0, none⟩ 1 c [Value.int .u8 (x.toNat : Int)] (by rw [hsize]; rfl) hnews (by omega) (by omega) (growslice_fits (by omega) (by rw [hby]; omega))
    have hge := grownCap_ge w (l.length + 1) cap 5
    have hcm2 : grownCap w (l.length + 1) cap 5 ≤ maxLen := grownCap_le_maxLen w _ cap _ (by unfold maxLen; omega)
    refine ⟨_, _, _, hr, ?_, hgr _, .inr rfl⟩
    refine ⟨by simpa using hge, hcm2, _, _, heap_alloc_new w.drew _, fun j hj => by simp, ?_, ?_⟩
    · have hz1 : (Value.int IntKind.u8 0).cells.size = 1 := rfl
      simp only [Array.size_append, List.size_toArray, size_zeroCells, hz1, byteCells_len, List.length_singleton]
      omega
    · have hlen : (byteCells l ++ [Value.int .u8 (x.toNat : Int)]).length = (l ++ [x]).length := by simp [byteCells_len]
      simp only [Array.toList_append]
      rw [← hlen, List.take_left]
      unfold byteCells
      simp

/-- At the list of a plain region's operations. -/
theorem wpList_append_byt {w : World} {ops : Array Oper} {rest : List Oper} {o : Oper} {a : Act} {Q : Exit → Act → World → Prop} (hgd : o.guard = none) (s y : Operand) (t : TypeId)
    (ho : o.op = .call { callee := .builtin .append, args := #[s, y], argTypes := #[t, t] }) (ht : Tryz.prog.underlying t = some (.slice 5)) (i : TypeInfo) (hi : Tryz.prog.info? 5 = some i) (hz : i.zero = some (.int .u8 0)) (hsize : i.size = 1) (hby : i.bytes = 1)
    (g cap n : Nat) (l : List UInt8) (hs : a.eval s = .slice (some ⟨g, 0, none⟩) n cap) (h : BytAt w g cap l) (hn : l.length = n) (b c : Nat) (hy : a.eval y = .slice (some ⟨b, 0, none⟩) 1 c) (x : UInt8) (hx : w.cell? ⟨b, 0, none⟩ = some (.int .u8 (x.toNat : Int))) (h63 : n + 1 ≤ 140737488355328)
    (hk : ∀ g' cap' w', BytAt w' g' cap' (l ++ [x]) → w.grownBy w' (some g) → (g' = g ∨ g' = w.heap.size) → wpList Tryz.prog ops Q rest (a.put o.dst (.slice (some ⟨g', 0, none⟩) (n + 1) cap')) w') : wpList Tryz.prog ops Q (o :: rest) a w := by
  subst hn
  refine wpList_plain hgd fun K hK => ?_
  obtain ⟨g', cap', w', hr, h2, h3, h4⟩ := run_append_byt w t o.type ht i hi hz hsize hby g cap l h b c x hx h63
  unfold Oper.wp execOp
  simp only [ho, resolve, invoke, builtin, Sem.run_bind, Sem.run_pure, Result.andThen_ok, List.map_toArray, List.map_cons, List.map_nil, hs, hy, hr]
  exact hK _ _ (hk g' cap' w' h2 h3 h4)
/-- A one-cell block that was made just now. -/
theorem cell_new (w : World) (v : Value) (t : TypeId) : (w.alloc (.cells #[v] t)).cell? ⟨w.heap.size, 0, none⟩ = some v := by
  rw [cell_of_row _ _ _ _ _ _ (heap_alloc_new w _)]; rfl
def lenV : Value → Nat
  | .slice _ n _ => n
  | _ => 0
theorem or_top : ∀ n : Nat, n < 256 → bits .or .u8 (n : Int) 128 = ((UInt8.ofNat n ||| 128).toNat : Int) := by decide +kernel
theorem or_top' (c : UInt8) : bits .or .u8 (c.toNat : Int) 128 = ((c ||| 128).toNat : Int) := by
  have := or_top c.toNat c.toNat_lt
  rwa [UInt8.ofNat_toNat] at this
end Go.Proofs.YtlfgnecfabdkmaaGreatDoor.Dg
end
section
namespace Go.Proofs.YtlfgnecfabdkmaaGreatDoor.Dg
open Go.RowKit

theorem info8' : (Tryz.prog.info? 5).map (fun i => (i.zero, i.size, i.bytes)) = some (some (.int .u8 0), 1, 1) := by kernel_rfl
/-- The row of bytes, and what is kept. -/
structure BkAt (w w' : World) (g cap : Nat) (l : List UInt8) : Prop where
  p : BytAt w' g cap l
  k : Below w.heap.size w w'
  b : w.heap.size ≤ g
theorem BkAt.grown {w w' w'' : World} {g g' cap cap' : Nat} {l l' : List UInt8} (h : BkAt w w' g cap l) (p : BytAt w'' g' cap' l') (hg : w'.grownBy w'' (some g)) (hor : g' = g ∨ g' = w'.heap.size) : BkAt w w'' g' cap' l' :=
  ⟨p, h.k.trans (below_of_grown hg h.b h.k.size), by have := h.k.size; have := h.b; omega⟩
theorem BkAt.alloc {w w' : World} {g cap : Nat} {l : List UInt8} (h : BkAt w w' g cap l) (o : Obj) : BkAt w (w'.alloc o) g cap l := ⟨h.p.alloc o, h.k.alloc h.k.size o, h.b⟩
/-- A state beside the row of bytes. -/
structure RsAt (w w' : World) (g cap b : Nat) (l : List UInt8) (S : Kec.St) : Prop where
  s : IsSt w' b S
  p : BytAt w' g cap l
  k : Below w.heap.size w w'
theorem RsAt.drew {w w' : World} {g cap b : Nat} {l : List UInt8} {S : Kec.St} (h : RsAt w w' g cap b l S) : RsAt w w'.drew g cap b l S := ⟨h.s, h.p.drew, h.k.drew⟩
theorem RsAt.put_ {w w' : World} {g cap b : Nat} {l : List UInt8} {S : Kec.St} (h : RsAt w w' g cap b l S) (hb : w.heap.size ≤ b) (hne : g ≠ b) (i : Nat) (x : BitVec 64) : RsAt w (w'.setCell ⟨b, i, none⟩ (.int .u64 (U x))) g cap b l (Spo.upd S i x) :=
  ⟨h.s.set_ i x, h.p.setOther ⟨b, i, none⟩ hne _, h.k.setCell (p := ⟨b, i, none⟩) (by simpa using hb) _⟩
theorem RsAt.below {w w' w'' : World} {g cap b : Nat} {l : List UInt8} {S : Kec.St} (h : RsAt w w' g cap b l S) (hb : Below w'.heap.size w' w'') : RsAt w w'' g cap b l S :=
  ⟨World.rowIs.of_block h.s (hb.block _ (World.rowIs.lt h.s)), h.p.below hb, h.k.trans (hb.mono h.k.size)⟩
theorem RsAt.setRow {w w' : World} {g cap b : Nat} {l : List UInt8} {S : Kec.St} (h : RsAt w w' g cap b l S) (hb : w.heap.size ≤ b) (hne : g ≠ b) (T : Kec.St) : RsAt w (w'.setRow b (arr T)) g cap b l T :=
  ⟨.of_row (setRow_heap _ b _ _ _ _ h.s.row), h.p.of_block (setRow_other _ _ _ _ hne), h.k.trans ⟨rfl, rfl, rfl, by simp, fun k hk => setRow_other _ _ _ _ (by omega)⟩⟩
/-- A kept state, and the bytes of the digest. -/
structure OutAt (w w' : World) (b b2 : Nat) (Q : Kec.St) (f : Nat → Int) : Prop where
  s : IsSt w' b Q
  q : IsBy w' b2 5 32 f
  k : Below w.heap.size w w'
theorem OutAt.put_ {w w' : World} {b b2 : Nat} {Q : Kec.St} {f : Nat → Int} (h : OutAt w w' b b2 Q f) (hb : w.heap.size ≤ b) (h12 : b < b2) (i : Nat) (x : Int) : OutAt w (w'.setCell ⟨b2, i, none⟩ (.int .u8 x)) b b2 Q (fun j => if j = i then x else f j) :=
  ⟨World.rowIs.setOther h.s (a := ⟨b2, i, none⟩) (by simp; omega) _, h.q.set_ i x, h.k.setCell (p := ⟨b2, i, none⟩) (by simp; omega) _⟩

set_option maxHeartbeats 8000000 in
set_option maxRecDepth 100000 in
theorem refSum_any (s : ByteArray) (w : World) (hn : s.size ≤ 1000000) :
    Calls Tryz.prog 56 #[.string s] w fun e w' => e = .returned (.string (digS s)) ∧ Below w.heap.size w w' := by
  obtain ⟨i0, hi0, hz0, hz1, hz2⟩ := info_parts info8'
  have hcv := fun w' => run_bytes_of_string (P := Tryz.prog) w' 9 89 5 s Tryz.underlying9 Tryz.underlying89 Tryz.underlying5
  have H := BytAt.new w s (by unfold maxLen; omega)
  have hb : Below w.heap.size w (w.drew.alloc (.cells (bytesRow s (grownCap w s.size 0 5)) 5 ((bytesRow s (grownCap w s.size 0 5)).size, (bytesRow s (grownCap w s.size 0 5)).size + 1))) := ((Below.refl w.heap.size w).drew).alloc (Nat.le_refl _) _
  go_enter Tryz.func56, Tryz.ntmps56
  go_upto_region 2 with (fail)
  clear hcv
  obtain ⟨g, hg⟩ : ∃ g, g = w.heap.size := ⟨_, rfl⟩
  rw [← hg] at H
  rw [← hg]
  generalize grownCap w s.size 0 5 = cap at *
  have H1 : BkAt w (w.drew.alloc (.cells (bytesRow s cap) 5 ((bytesRow s cap).size, (bytesRow s cap).size + 1))) g cap s.data.toList := ⟨H, hb, by omega⟩
  refine wp_gen (fun w' => BkAt w w' g cap s.data.toList) H1 ?_
  clear H H1 hb hg
  intro w1 H
  go_upto_region 3 with (at_builtin; refine wpList_append_byt (by rfl) _ _ 89 (by rfl) Tryz.underlying89 i0 hi0 hz0 hz1 hz2 g cap s.size _ (by rfl) (H.p.alloc _) rfl w1.heap.size 1 (by rfl) 6 (cell_new _ _ _) (by omega) ?_; intro g2 cap2 w2 hp2 hgr hor)
  have H2 := (H.alloc (.cells #[Value.int .u8 6] 5)).grown hp2 hgr hor
  clear hp2 hgr hor H
  go_wp2_with fail
  go_loopw [3] (fun v wr => ∃ k g cap n : Nat, k ≤ Spo.zs s.size ∧ n = s.size + 1 + k ∧ v = .slice (some ⟨g, 0, none⟩) n cap ∧ BkAt w wr g cap (s.data.toList ++ 6 :: List.replicate k 0)) (fun v _ => s.size + 137 - lenV v)
  case atStart => exact ⟨0, g2, cap2, s.size + 1, by omega, by omega, rfl, H2⟩
  case round =>
    clear H2
    obtain ⟨k, g, cap, n, hk, hnk, rfl, H⟩ := hrel
    have HZ : Spo.zs s.size = 135 - s.size % 136 := rfl
    by_cases hlt : k < Spo.zs s.size
    · have ht : (((n : Int) % 136) != 0) = true := by rw [bne_iff_ne]; omega
      have hll : (s.data.toList ++ 6 :: List.replicate k 0).length = n := by rw [List.length_append, List.length_cons, List.length_replicate, show s.data.toList.length = s.size from rfl]; omega
      have HN := Lib.hid hnk
      have hn2 : n ≤ 2000000 := by omega
      have hkn : n < s.size + 137 := by omega
      clear HZ hnk
      go_wp2_with (at_builtin; refine wpList_append_byt (by rfl) _ _ 89 (by rfl) Tryz.underlying89 i0 hi0 hz0 hz1 hz2 g cap n _ (by rfl) (H.p.alloc _) hll wr.heap.size 1 (by rfl) 0 (cell_new _ _ _) (by omega) ?_; intro g2 cap2 w2 hp2 hgr hor)
      have H2 := (H.alloc (.cells #[Value.int .u8 0] 5)).grown hp2 hgr hor
      have e : s.data.toList ++ 6 :: List.replicate k 0 ++ [0] = s.data.toList ++ 6 :: List.replicate (k + 1) 0 := by rw [List.replicate_succ']; simp
      rw [e] at H2
      clear e hp2 hgr hor H hll
      go_roundw
      case rel => exact ⟨k + 1, g2, cap2, n + 1, by omega, by have := HN.out; omega, rfl, H2⟩
      case measure => simp [lenV]; omega
    · have hkz : k = Spo.zs s.size := by omega
      rw [hkz] at H
      have hpad : s.data.toList ++ 6 :: List.replicate (Spo.zs s.size) 0 = Spo.pad0 s.data.toList := rfl
      rw [hpad] at H
      obtain ⟨m, hm⟩ : ∃ m, n = m + 1 := ⟨n - 1, by omega⟩
      have hpl : (Spo.pad0 s.data.toList).length = m + 1 := by rw [Spo.pad0_len, show s.data.toList.length = s.size from rfl]; omega
      have hml : ∃ B, m + 1 = 136 * B := ⟨(m + 1) / 136, by omega⟩
      obtain ⟨B, hB⟩ := hml
      have hB2 : B ≤ 10000 := by omega
      subst hm
      have ht : (((m : Int) + 1) % 136 != 0) = false := by rw [bne_eq_false_iff_eq]; omega
      have hm2 : m ≤ 2000000 := by omega
      have HB := Lib.hid hB
      have HPL := Lib.hid hpl
      clear hkz hpad HZ hnk hpl hB hlt hk
      have c := H.p.cell m (by rw [HPL.out]; omega)
      have f := H.p.frozen m (by rw [HPL.out]; omega)
      obtain ⟨x0, hx0⟩ : ∃ x0, x0 = (Spo.pad0 s.data.toList).getD m 0 := ⟨_, rfl⟩
      rw [← hx0] at c
      have HX := Lib.hid hx0
      clear hx0
      have ho := or_top' x0
      go_upto_region 6 with (fail)
      have H5 : BkAt w (wr.setCell ⟨g, m, none⟩ (.int .u8 ((x0 ||| 128).toNat : Int))) g cap (Spo.pad s.data.toList) := by
        refine ⟨?_, H.k.setCell (p := ⟨g, m, none⟩) (by simpa using H.b) _, H.b⟩
        have h := H.p.set m (x0 ||| 128)
        have e : (Spo.pad0 s.data.toList).set m (x0 ||| 128) = Spo.pad s.data.toList := by
          unfold Spo.pad Spo.setTop
          rw [HPL.out, Nat.add_sub_cancel, ← HX.out]
        rwa [e] at h
      refine wp_gen (fun w' => BkAt w w' g cap (Spo.pad s.data.toList)) H5 ?_
      clear H H5 ho c f HX
      intro w5 H
      have hpl : (Spo.pad s.data.toList).length = m + 1 := by unfold Spo.pad Spo.setTop; rw [List.length_set]; exact HPL.out
      have HPL2 := Lib.hid hpl
      clear hpl HPL
      have hD : digS s = ⟨(Spo.sq (Spo.ab (Spo.zero, 0) (Spo.pad s.data.toList)).1).toArray⟩ := by unfold digS; rw [Spo.dig_pad]
      have HD := Lib.hid hD
      clear hD
      generalize Spo.pad s.data.toList = P at *
      obtain ⟨b, hb⟩ : ∃ b, b = w5.heap.size := ⟨_, rfl⟩
      have hne : g ≠ b := by have := H.p.lt; omega
      have hwb : w.heap.size ≤ b := by have := H.k.size; omega
      have H6 : RsAt w (w5.alloc (.cells #[Value.int .u64 0, Value.int .u64 0, Value.int .u64 0, Value.int .u64 0, Value.int .u64 0, Value.int .u64 0, Value.int .u64 0, Value.int .u64 0, Value.int .u64 0, Value.int .u64 0, Value.int .u64 0, Value.int .u64 0, Value.int .u64 0, Value.int .u64 0, Value.int .u64 0, Value.int .u64 0, Value.int .u64 0, Value.int .u64 0, Value.int .u64 0, Value.int .u64 0, Value.int .u64 0, Value.int .u64 0, Value.int .u64 0, Value.int .u64 0, Value.int .u64 0] 105)) g cap b P Z := by
        rw [← arr_Z, hb]
        exact ⟨.of_row (heap_alloc_new w5 _), H.p.alloc _, H.k.alloc H.k.size _⟩
      go_upto_region 7 with (fail)
      rw [← hb]
      refine wp_gen (fun w' => RsAt w w' g cap b P Z) H6 ?_
      clear H H6 hb
      intro w6 H
      go_wp2_with fail
      obtain ⟨wo, rfl⟩ : ∃ wo : World, wo = wr := ⟨_, rfl⟩
      go_loopw [5] (fun v wr => ∃ a j : Nat, j ≤ B ∧ a = 136 * j ∧ v = .int .i64 a ∧ RsAt w wr g cap b P (Spo.ab (Spo.zero, 0) (P.take (136 * j))).1) (fun v _ => m + 1 - (intOf v).toNat)
      case atStart => exact ⟨0, 0, by omega, rfl, rfl, H⟩
      case round =>
        clear H
        obtain ⟨a, j, hj, haj, rfl, H⟩ := hrel
        have HAJ := Lib.hid haj
        clear haj
        by_cases hlt : j < B
        · have ham : a + 136 ≤ m + 1 := by have := HAJ.out; have := HB.out; omega
          have hlt2 : decide ((a : Int) < (m : Int) + 1) = true := by simp; omega
          have hnext := Spo.ab_next P j (by rw [HPL2.out]; have := HAJ.out; omega)
          have HNX := Lib.hid hnext
          clear hnext
          obtain ⟨S0, hS0⟩ : ∃ S0, S0 = (Spo.ab (Spo.zero, 0) (P.take (136 * j))).1 := ⟨_, rfl⟩
          rw [← hS0] at H
          have HS0 := Lib.hid hS0
          clear hS0
          go_wp2_with fail
          obtain ⟨wo2, rfl⟩ : ∃ wo : World, wo = wr := ⟨_, rfl⟩
          go_loopw [6] (fun v wr => ∃ i : Nat, i ≤ 136 ∧ v = .int .i64 i ∧ RsAt w wr g cap b P (Spo.pb S0 (fun i => P.getD (136 * j + i) 0) i)) (fun v _ => 136 - (intOf v).toNat)
          case atStart => exact ⟨0, by omega, rfl, H⟩
          case round =>
            clear H
            obtain ⟨i, hi, rfl, H⟩ := hrel
            by_cases hil : i < 136
            · obtain ⟨q, hq⟩ : ∃ q, q = i / 8 := ⟨_, rfl⟩
              obtain ⟨r, hr⟩ : ∃ r, r = i % 8 := ⟨_, rfl⟩
              have hq25 : q < 25 := by omega
              have hr8 : r < 8 := by omega
              obtain ⟨S, hS⟩ : ∃ S, S = Spo.pb S0 (fun i => P.getD (136 * j + i) 0) i := ⟨_, rfl⟩
              rw [← hS] at H
              have HS := Lib.hid hS
              clear hS
              obtain ⟨x, hx⟩ : ∃ x, x = P.getD (a + i) 0 := ⟨_, rfl⟩
              have HX := Lib.hid hx
              clear hx
              go_upto_region 13 with (fail)
              refine region_tail 20 (fun w' => RsAt w w' g cap b P S) (by kernel_rfl) (by kernel_rfl) H.drew ?_
              clear H
              intro w7 H
              have c := H.s.cell q hq25
              have f := H.s.frozen q
              have d := H.p.cell (a + i) (by rw [HPL2.out]; omega)
              rw [← HX.out] at d
              have i3 : ((i : Int)).tdiv 8 = (q : Int) := by rw [Int.tdiv_eq_ediv_of_nonneg (by omega)]; omega
              have i6 : ((i : Int)).tmod 8 = (r : Int) := by rw [Int.tmod_eq_emod_of_nonneg (by omega)]; omega
              have i2 : (q : Int) < 25 := by omega
              have i4 : IntKind.i64.wrap (q : Int) = (q : Int) := IntWalk.i64_in _ (by omega)
              have i5 : 0 ≤ (q : Int) := by omega
              have i7 : IntKind.i64.wrap (r : Int) = (r : Int) := IntWalk.i64_in _ (by omega)
              have i8 : IntKind.i64.wrap (8 * (r : Int)) = 8 * (r : Int) := IntWalk.i64_in _ (by omega)
              have i9 : 0 ≤ 8 * (r : Int) := by omega
              have i10 : 8 * (r : Int) ≤ 64 := by omega
              have j1 : (8 * (r : Int)).toNat = 8 * r := by omega
              have j2 : min (8 * r) 64 = 8 * r := by omega
              have j3 : IntKind.u64.wrap (x.toNat : Int) = U (Spo.b64 x) := U_b64 _
              have j4 := shl_U (Spo.b64 x) (8 * r)
              have k1 : IntKind.i64.wrap ((a : Int) + (i : Int)) = (a : Int) + (i : Int) := IntWalk.i64_in _ (by omega)
              have k2 : 0 ≤ (a : Int) + (i : Int) := by omega
              have k3 : ((a : Int) + (i : Int)).toNat = a + i := by omega
              have k4 : (a : Int) + (i : Int) < (m : Int) + 1 := by omega
              have k5 : IntKind.u64.wrap (8 * (r : Int)) = 8 * (r : Int) := by rw [IntKind.wrap_u64]; omega
              have HQ := Lib.hid hq
              have HR := Lib.hid hr
              clear hq hr
              simp only [List.take_succ_cons, List.take_zero, List.drop_succ_cons, List.drop_zero]
              repeat still_step
              refine wpStill_nil ?_
              clear i2 i3 i4 i5 i6 i7 i8 i9 i10 j1 j2 j3 j4 k1 k2 k3 k4 k5 d
              go_upto_region 12 with (fail)
              clear c f
              refine wp_gen (fun w' => RsAt w w' g cap b P (Spo.upd S q (S q ^^^ Spo.b64 x <<< (8 * r)))) (H.put_ hwb hne q (S q ^^^ Spo.b64 x <<< (8 * r))) ?_
              clear H
              intro w8 H
              have hst : Spo.upd S q (S q ^^^ Spo.b64 x <<< (8 * r)) = Spo.pb S0 (fun i => P.getD (136 * j + i) 0) (i + 1) := by
                show _ = Spo.put (Spo.pb S0 (fun i => P.getD (136 * j + i) 0) i) i (P.getD (136 * j + i) 0)
                unfold Spo.put
                rw [← HS.out, ← HQ.out, ← HR.out, ← HAJ.out, ← HX.out]
              rw [hst] at H
              clear hst
              go_wp2_with fail
              go_roundw
              case rel => exact ⟨i + 1, by omega, by go_num, H⟩
              case measure => simp [intOf]; omega
            · have hi6 := Lib.hid (show i = 136 by omega)
              rw [hi6.out] at H
              generalize hT : Spo.pb S0 (fun i => P.getD (136 * j + i) 0) 136 = T at *
              have HT := Lib.hid hT
              clear hT
              go_wp2_with (refine wpList_load_row rfl 105 _ rfl b rfl 105 _ (0, 0) _ H.s.row Tryz.underlying105 rfl (by rw [arr_size]; exact info26) ?_)
              refine (refPermute_any T _).mono ?_
              rintro e w9 ⟨rfl, hb9⟩
              replace H := H.below hb9
              clear hb9
              go_upto_region 9 with (refine wpList_store_row rfl 105 _ _ rfl b (arr (Kec.perm T)) rfl rfl 105 _ H.s.row (by rw [arr_size]; exact info26) (by rw [arr_size, arr_size]) (arr_one _) ?_)
              have H9 := H.setRow hwb hne (Kec.perm T)
              refine wp_gen (fun w' => RsAt w w' g cap b P (Kec.perm T)) H9 ?_
              clear H H9
              intro w10 H
              have hst : Kec.perm T = (Spo.ab (Spo.zero, 0) (P.take (136 * (j + 1)))).1 := by
                rw [show 136 * (j + 1) = 136 * j + 136 by omega, HNX.out, ← HS0.out, HT.out]
              rw [hst] at H
              clear hst
              go_wp2_with fail
              go_roundw
              case rel => exact ⟨a + 136, j + 1, by omega, by have := HAJ.out; omega, by go_num, H⟩
              case measure => simp [intOf]; omega
        · have hjB : j = B := by omega
          have hlt2 : decide ((a : Int) < (m : Int) + 1) = false := by have := HAJ.out; have := HB.out; simp; omega
          have htk : P.take (136 * j) = P := List.take_of_length_le (by rw [HPL2.out, hjB]; have := HB.out; omega)
          rw [htk] at H
          clear htk hjB
          generalize (Spo.ab (Spo.zero, 0) P).1 = Q at *
          have hs := H.s
          have hk := H.k
          clear H hne
          have hmk : ∀ w' : World, (Instr.makeSlice 89 (.int .i64 32) (.int .i64 32)).run Tryz.prog w' = .ok (.slice (some ⟨w'.heap.size, 0, none⟩) 32 32) (w'.alloc (.cells (madeCells #[.int .u8 0] 32) 5)) :=
            fun w' => run_make_row (P := Tryz.prog) 89 5 i0 (.int .u8 0) Tryz.underlying89 hi0 hz0 hz1 rfl .i64 .i64 32 (by rw [hz2]; decide) (by decide) w'
          obtain ⟨b2, hb2⟩ : ∃ b2, b2 = wr.heap.size := ⟨_, rfl⟩
          have h12 : b < b2 := by rw [hb2]; exact World.rowIs.lt hs
          have H7 : OutAt w (wr.alloc (.cells (madeCells #[.int .u8 0] 32) 5)) b b2 Q (mixB Q 0) := by
            refine ⟨World.rowIs.alloc hs _, ?_, hk.alloc hk.size _⟩
            rw [hb2]
            exact World.rowIs.congr (World.rowIs_made wr (.int .u8 0) 32 5) fun i _ => by unfold mixB; rw [if_neg (by omega)]
          go_upto_region 16 with (fail)
          clear hmk hs hk
          rw [← hb2]
          refine wp_gen (fun w' => OutAt w w' b b2 Q (mixB Q 0)) H7 ?_
          clear H7 hb2
          intro w11 H
          go_wp2_with fail
          obtain ⟨wo3, rfl⟩ : ∃ wo : World, wo = wr := ⟨_, rfl⟩
          go_loopw [8] (fun v wr => ∃ k : Nat, k ≤ 32 ∧ v = .int .i64 k ∧ OutAt w wr b b2 Q (mixB Q k)) (fun v _ => 32 - (intOf v).toNat)
          case atStart => exact ⟨0, by omega, rfl, H⟩
          case round =>
            clear H
            obtain ⟨k, hk, rfl, H⟩ := hrel
            by_cases hk32 : k < 32
            · obtain ⟨q, hq⟩ : ∃ q, q = k / 8 := ⟨_, rfl⟩
              obtain ⟨r, hr⟩ : ∃ r, r = k % 8 := ⟨_, rfl⟩
              have hq25 : q < 25 := by omega
              have hr8 : r < 8 := by omega
              have c := H.s.cell q hq25
              have d := H.q.cell k hk32
              have f := H.q.frozen k
              have i1 : (k : Int) / 8 = (q : Int) := by omega
              have i2 : (k : Int) % 8 = (r : Int) := by omega
              have i3 : (q : Int) < 25 := by omega
              have i9 : 0 ≤ 8 * (r : Int) := by omega
              have i10 : 8 * (r : Int) ≤ 64 := by omega
              have j1 : (8 * (r : Int)).toNat = 8 * r := by omega
              have j2 : min (8 * r) 64 = 8 * r := by omega
              have j4 := shr_U (Q q) (8 * r)
              have k5 : IntKind.u64.wrap (8 * (r : Int)) = 8 * (r : Int) := by rw [IntKind.wrap_u64]; omega
              have HQ := Lib.hid hq
              have HR := Lib.hid hr
              clear hq hr
              go_upto_region 18 with (fail)
              clear c d f i1 i2 i3 i9 i10 j1 j2 j4 k5
              have hv : W8 (Q q >>> (8 * r)) = byt Q k := by unfold byt; rw [← HQ.out, ← HR.out]
              refine wp_gen (fun w' => OutAt w w' b b2 Q (mixB Q (k + 1))) ?_ ?_
              · have h5 := H.put_ hwb h12 k (W8 (Q q >>> (8 * r)))
                refine ⟨h5.s, h5.q.congr fun i _ => ?_, h5.k⟩
                rw [hv]
                unfold mixB
                by_cases hi : i = k
                · rw [if_pos hi, if_pos (by omega), hi]
                · rw [if_neg hi]
                  by_cases hj : i < k
                  · rw [if_pos hj, if_pos (by omega)]
                  · rw [if_neg hj, if_neg (by omega)]
              · clear H hv
                intro w12 H
                go_wp2_with fail
                go_roundw
                case rel => exact ⟨k + 1, by omega, by go_num, H⟩
                case measure => simp [intOf]; omega
            · obtain rfl : k = 32 := by omega
              have hcv := H.q.str 89 5 9 Tryz.underlying89 Tryz.underlying5 Tryz.underlying9
              rw [str_sq] at hcv
              go_wp2_with fail
              go_ret
              exact ⟨by rw [HD.out]; rfl, H.k⟩
end Go.Proofs.YtlfgnecfabdkmaaGreatDoor.Dg
end
