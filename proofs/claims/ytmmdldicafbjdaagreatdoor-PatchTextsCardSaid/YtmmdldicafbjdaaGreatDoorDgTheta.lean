/- theta of the permutation: it writes just what the definition says. No condition. -/
import Derived.Test.YtmmdldicafbjdaaGreatDoorDgU
import Derived.Deep.OwnRows
import Derived.Deep.LoopGhost
import Derived.Deep.DeepCutAuto
namespace Go.Proofs.YtmmdldicafbjdaaGreatDoor.Dg
open Go.RowKit

/-- Block b holds the 25 words of a state. -/
def IsSt (w : World) (b : Nat) (A : Kec.St) : Prop := w.rowIs b 94 25 (fun i => .int .u64 (U (A i)))

theorem IsSt.cell {w : World} {b : Nat} {A : Kec.St} (h : IsSt w b A) (i : Nat) (hi : i < 25) : w.cell? ⟨b, i, none⟩ = some (.int .u64 (U (A i))) := World.rowIs.cell h hi

theorem only_drewN {a w : World} {row : Option Nat} (h : a.grownBy w row) (n : Nat) : a.grownBy (w.drewN n) row := ⟨h.os, h.tape, h.output, h.size, h.block⟩
theorem only_drew {a w : World} {row : Option Nat} (h : a.grownBy w row) : a.grownBy w.drew row := ⟨h.os, h.tape, h.output, h.size, h.block⟩
theorem wp_gen {P : Program} {c : Code} {Q : Exit → Act → World → Prop} {a : Act} {w : World} (R : World → Prop) (hR : R w) (h : ∀ w', R w' → Code.wp P c Q a w') : Code.wp P c Q a w := h w hR
theorem grown_drew5 {a w : World} {row : Option Nat} (h : a.grownBy w row) : a.grownBy w.drew.drew.drew.drew.drew row := ⟨h.os, h.tape, h.output, h.size, h.block⟩
theorem only_alloc {a w : World} {row : Option Nat} (h : a.grownBy w row) (o : Obj) : a.grownBy (w.alloc o) row :=
  ⟨h.os, h.tape, h.output, Nat.le_trans h.size (by simp), fun i hi hne => (Below.heap_alloc w o i (Nat.lt_of_lt_of_le hi h.size)).trans (h.block i hi hne)⟩
theorem only_setCell {a w : World} {g : Nat} (h : a.grownBy w (some g)) {p : Addr} (hp : p.block = g ∨ a.heap.size ≤ p.block) (u : Value) : a.grownBy (w.setCell p u) (some g) :=
  ⟨h.os, h.tape, h.output, by simpa [World.setCell] using h.size, fun i hi hne => (Below.heap_setCell w p u i (by
    rintro rfl
    rcases hp with hp | hp
    · exact hne (by rw [hp])
    · omega)).trans (h.block i hi hne)⟩

def upd (M : Kec.St) (j : Nat) (x : BitVec 64) : Kec.St := fun t => if t = j then x else M t
theorem IsSt.frozen {w : World} {b : Nat} {A : Kec.St} (h : IsSt w b A) (i : Nat) : w.frozen? ⟨b, i, none⟩ = false := World.rowIs.frozen h i

theorem IsSt.drewN {w : World} {b : Nat} {A : Kec.St} (h : IsSt w b A) (n : Nat) : IsSt (w.drewN n) b A := h
theorem IsSt.set_ {w : World} {b : Nat} {A : Kec.St} (h : IsSt w b A) (i : Nat) (x : BitVec 64) : IsSt (w.setCell ⟨b, i, none⟩ (.int .u64 (U x))) b (fun j => if j = i then x else A j) :=
  World.rowIs.congr (World.rowIs.set h i _) fun j _ => by dsimp only; split <;> rfl
theorem IsSt.congr {w : World} {b : Nat} {A B : Kec.St} (h : IsSt w b A) (e : Kec.Same A B) : IsSt w b B := World.rowIs.congr h fun i hi => by rw [e i hi]

/-- From the world w on, block b alone has turned, and holds B now. -/
structure ThAt (w w' : World) (b : Nat) (B : Kec.St) : Prop where
  s : IsSt w' b B
  g : w.grownBy w' (some b)
theorem ThAt.step {w w' : World} {b : Nat} {B : Kec.St} (h : ThAt w w' b B) (j : Nat) (x : BitVec 64) : ThAt w (w'.setCell ⟨b, j, none⟩ (.int .u64 (U x))).drew b (upd B j x) :=
  ⟨h.s.set_ j x, only_drew (only_setCell h.g (.inl rfl) _)⟩

def mixT (A : Kec.St) (y : Nat) : Kec.St := fun i => if i < y then Kec.theta A i else A i

set_option maxHeartbeats 8000000 in
set_option maxRecDepth 100000 in
theorem theta_any (A : Kec.St) (b : Nat) (w : World) (h : IsSt w b A) :
    Calls Tryz.prog 91 #[.pointer (some ⟨b, 0, none⟩)] w fun e w' => e = .returned (.tuple #[]) ∧ IsSt w' b (Kec.theta A) ∧ w.grownBy w' (some b) := by
  have c0 := h.cell 0 (by decide)
  have c1 := h.cell 1 (by decide)
  have c2 := h.cell 2 (by decide)
  have c3 := h.cell 3 (by decide)
  have c4 := h.cell 4 (by decide)
  have c5 := h.cell 5 (by decide)
  have c6 := h.cell 6 (by decide)
  have c7 := h.cell 7 (by decide)
  have c8 := h.cell 8 (by decide)
  have c9 := h.cell 9 (by decide)
  have c10 := h.cell 10 (by decide)
  have c11 := h.cell 11 (by decide)
  have c12 := h.cell 12 (by decide)
  have c13 := h.cell 13 (by decide)
  have c14 := h.cell 14 (by decide)
  have c15 := h.cell 15 (by decide)
  have c16 := h.cell 16 (by decide)
  have c17 := h.cell 17 (by decide)
  have c18 := h.cell 18 (by decide)
  have c19 := h.cell 19 (by decide)
  have c20 := h.cell 20 (by decide)
  have c21 := h.cell 21 (by decide)
  have c22 := h.cell 22 (by decide)
  have c23 := h.cell 23 (by decide)
  have c24 := h.cell 24 (by decide)
  have e0 : A 0 ^^^ A 5 ^^^ A 10 ^^^ A 15 ^^^ A 20 = Kec.col A 0 := rfl
  have e1 : A 1 ^^^ A 6 ^^^ A 11 ^^^ A 16 ^^^ A 21 = Kec.col A 1 := rfl
  have e2 : A 2 ^^^ A 7 ^^^ A 12 ^^^ A 17 ^^^ A 22 = Kec.col A 2 := rfl
  have e3 : A 3 ^^^ A 8 ^^^ A 13 ^^^ A 18 ^^^ A 23 = Kec.col A 3 := rfl
  have e4 : A 4 ^^^ A 9 ^^^ A 14 ^^^ A 19 ^^^ A 24 = Kec.col A 4 := rfl
  have g0 : Kec.col A 4 ^^^ Kec.rot (Kec.col A 1) 1 = Kec.dd A 0 := rfl
  have g1 : Kec.col A 0 ^^^ Kec.rot (Kec.col A 2) 1 = Kec.dd A 1 := rfl
  have g2 : Kec.col A 1 ^^^ Kec.rot (Kec.col A 3) 1 = Kec.dd A 2 := rfl
  have g3 : Kec.col A 2 ^^^ Kec.rot (Kec.col A 4) 1 = Kec.dd A 3 := rfl
  have g4 : Kec.col A 3 ^^^ Kec.rot (Kec.col A 0) 1 = Kec.dd A 4 := rfl
  go_enter Tryz.func91, Tryz.ntmps91
  go_wp2_with fail
  go_quiet (fail)
  go_wp2_with fail
  go_quiet (fail)
  go_wp2_with fail
  go_quiet (fail)
  go_wp2_with fail
  go_quiet (fail)
  go_wp2_with fail
  go_quiet (fail)
  go_wp2_with (go_at_call 108; refine (rotl_any _ 1 (by decide) _).mono ?_; rintro e w' ⟨rfl, rfl⟩)
  go_loopw [12] (fun v wr => ∃ y : Nat, y ≤ 25 ∧ y % 5 = 0 ∧ v = .int .i64 y ∧ IsSt wr b (mixT A y) ∧ w.grownBy wr (some b)) (fun v _ => 25 - (intOf v).toNat)
  case atStart => exact ⟨0, by omega, by omega, rfl, (h.drewN _).congr fun i _ => by unfold mixT; rw [if_neg (by omega)], only_drewN ⟨rfl, rfl, rfl, Nat.le_refl _, fun _ _ _ => rfl⟩ _⟩
  case round =>
    obtain ⟨y, hy, hm, rfl, hS, hg⟩ := hrel
    clear e0 e1 e2 e3 e4 g0 g1 g2 g3 g4
    clear c0 c1 c2 c3 c4 c5 c6 c7 c8 c9 c10 c11 c12 c13 c14 c15 c16 c17 c18 c19 c20 c21 c22 c23 c24
    by_cases hlt : y < 25
    · have H : ThAt w wr b (mixT A y) := ⟨hS, hg⟩
      clear hS hg
      have hm' := Lib.hid hm
      have hy4 : y + 4 < 25 := by omega
      clear hm
      have e : ∀ j, j < 5 → mixT A y (y + j) = A (y + j) := fun j _ => by unfold mixT; rw [if_neg (by omega)]
      have e0 := e 0 (by decide)
      have e1 := e 1 (by decide)
      have e2 := e 2 (by decide)
      have e3 := e 3 (by decide)
      have e4 := e 4 (by decide)
      rw [Nat.add_zero] at e0
      have u1 : upd (mixT A y) y (A y ^^^ Kec.dd A 0) (y + 1) = A (y + 1) := by unfold upd; rw [if_neg (by omega), e1]
      have u2 : upd (upd (mixT A y) y (A y ^^^ Kec.dd A 0)) (y + 1) (A (y + 1) ^^^ Kec.dd A 1) (y + 2) = A (y + 2) := by unfold upd; rw [if_neg (by omega), if_neg (by omega), e2]
      have u3 : upd (upd (upd (mixT A y) y (A y ^^^ Kec.dd A 0)) (y + 1) (A (y + 1) ^^^ Kec.dd A 1)) (y + 2) (A (y + 2) ^^^ Kec.dd A 2) (y + 3) = A (y + 3) := by unfold upd; rw [if_neg (by omega), if_neg (by omega), if_neg (by omega), e3]
      have u4 : upd (upd (upd (upd (mixT A y) y (A y ^^^ Kec.dd A 0)) (y + 1) (A (y + 1) ^^^ Kec.dd A 1)) (y + 2) (A (y + 2) ^^^ Kec.dd A 2)) (y + 3) (A (y + 3) ^^^ Kec.dd A 3) (y + 4) = A (y + 4) := by unfold upd; rw [if_neg (by omega), if_neg (by omega), if_neg (by omega), if_neg (by omega), e4]
      have U1 := Lib.hid u1
      have U2 := Lib.hid u2
      have U3 := Lib.hid u3
      have U4 := Lib.hid u4
      clear u1 u2 u3 u4 e e1 e2 e3 e4
      have c := H.s.cell y (by omega)
      rw [e0] at c
      clear e0
      have f := H.s.frozen y
      go_wp2
      go_region
      go_wp2_with fail
      clear c f
      refine wp_gen (fun w' => ThAt w w' b (upd (mixT A y) y (A y ^^^ Kec.dd A 0))) (H.step y (A y ^^^ Kec.dd A 0)) ?_
      clear H
      intro wa H
      have c := H.s.cell (y + 1) (by omega)
      rw [U1.out] at c
      have f := H.s.frozen (y + 1)
      have i1 : IntKind.i64.wrap ((y : Int) + 1) = (y : Int) + 1 := IntWalk.i64_in _ (by omega)
      have i2 : ((y : Int) + 1).toNat = y + 1 := by omega
      have i3 : 0 ≤ (y : Int) + 1 := by omega
      have i4 : (y : Int) + 1 < 25 := by omega
      go_region
      go_wp2_with fail
      clear c f i1 i2 i3 i4
      refine wp_gen (fun w' => ThAt w w' b (upd (upd (mixT A y) y (A y ^^^ Kec.dd A 0)) (y + 1) (A (y + 1) ^^^ Kec.dd A 1))) (H.step (y + 1) (A (y + 1) ^^^ Kec.dd A 1)) ?_
      clear H
      intro wa H
      have c := H.s.cell (y + 2) (by omega)
      rw [U2.out] at c
      have f := H.s.frozen (y + 2)
      have i1 : IntKind.i64.wrap ((y : Int) + 2) = (y : Int) + 2 := IntWalk.i64_in _ (by omega)
      have i2 : ((y : Int) + 2).toNat = y + 2 := by omega
      have i3 : 0 ≤ (y : Int) + 2 := by omega
      have i4 : (y : Int) + 2 < 25 := by omega
      go_region
      go_wp2_with fail
      clear c f i1 i2 i3 i4
      refine wp_gen (fun w' => ThAt w w' b (upd (upd (upd (mixT A y) y (A y ^^^ Kec.dd A 0)) (y + 1) (A (y + 1) ^^^ Kec.dd A 1)) (y + 2) (A (y + 2) ^^^ Kec.dd A 2))) (H.step (y + 2) (A (y + 2) ^^^ Kec.dd A 2)) ?_
      clear H
      intro wa H
      have c := H.s.cell (y + 3) (by omega)
      rw [U3.out] at c
      have f := H.s.frozen (y + 3)
      have i1 : IntKind.i64.wrap ((y : Int) + 3) = (y : Int) + 3 := IntWalk.i64_in _ (by omega)
      have i2 : ((y : Int) + 3).toNat = y + 3 := by omega
      have i3 : 0 ≤ (y : Int) + 3 := by omega
      have i4 : (y : Int) + 3 < 25 := by omega
      go_region
      go_wp2_with fail
      clear c f i1 i2 i3 i4
      refine wp_gen (fun w' => ThAt w w' b (upd (upd (upd (upd (mixT A y) y (A y ^^^ Kec.dd A 0)) (y + 1) (A (y + 1) ^^^ Kec.dd A 1)) (y + 2) (A (y + 2) ^^^ Kec.dd A 2)) (y + 3) (A (y + 3) ^^^ Kec.dd A 3))) (H.step (y + 3) (A (y + 3) ^^^ Kec.dd A 3)) ?_
      clear H
      intro wa H
      have c := H.s.cell (y + 4) (by omega)
      rw [U4.out] at c
      have f := H.s.frozen (y + 4)
      have i1 : IntKind.i64.wrap ((y : Int) + 4) = (y : Int) + 4 := IntWalk.i64_in _ (by omega)
      have i2 : ((y : Int) + 4).toNat = y + 4 := by omega
      have i3 : 0 ≤ (y : Int) + 4 := by omega
      have i4 : (y : Int) + 4 < 25 := by omega
      go_region
      go_wp2_with fail
      clear c f i1 i2 i3 i4
      have H5 := H.step (y + 4) (A (y + 4) ^^^ Kec.dd A 4)
      refine ⟨⟨y + 5, by omega, by have := hm'.out; omega, by go_num, H5.s.congr fun i _ => ?_, H5.g⟩, by simp [intOf]; omega⟩
      have hm := hm'.out
      have t : ∀ j, j < 5 → Kec.theta A (y + j) = A (y + j) ^^^ Kec.dd A j := fun j hj => by
        unfold Kec.theta; rw [show (y + j) % 5 = j from by omega]
      have t0 := t 0 (by decide)
      rw [Nat.add_zero] at t0
      unfold mixT upd
      by_cases i4 : i = y + 4
      · rw [if_pos i4, if_pos (by omega), i4, t 4 (by decide)]
      rw [if_neg i4]
      by_cases i3 : i = y + 3
      · rw [if_pos i3, if_pos (by omega), i3, t 3 (by decide)]
      rw [if_neg i3]
      by_cases i2 : i = y + 2
      · rw [if_pos i2, if_pos (by omega), i2, t 2 (by decide)]
      rw [if_neg i2]
      by_cases i1 : i = y + 1
      · rw [if_pos i1, if_pos (by omega), i1, t 1 (by decide)]
      rw [if_neg i1]
      by_cases i0 : i = y
      · rw [if_pos i0, if_pos (by omega), i0, t0]
      rw [if_neg i0]
      show (if i < y then Kec.theta A i else A i) = _
      by_cases hi : i < y
      · rw [if_pos hi, if_pos (by omega)]
      · rw [if_neg hi, if_neg (by omega)]
    · obtain rfl : y = 25 := by omega
      clear hm
      go_wp2
      go_end0
      exact ⟨rfl, hS.congr fun i hi => by unfold mixT; rw [if_pos hi], hg⟩
end Go.Proofs.YtmmdldicafbjdaaGreatDoor.Dg
