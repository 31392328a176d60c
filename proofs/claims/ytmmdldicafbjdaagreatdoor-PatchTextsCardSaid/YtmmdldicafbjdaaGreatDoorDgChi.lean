/- chi of the permutation. No condition. -/
import Derived.Test.YtmmdldicafbjdaaGreatDoorDgRho
namespace Go.Proofs.YtmmdldicafbjdaaGreatDoor.Dg
open Go.RowKit

def mixC (A M : Kec.St) (y : Nat) : Kec.St := fun i => if i < y then Kec.chi M i else A i

/-- From the world w on, block b alone has turned, and holds B now; block b2 holds M. -/
structure ChAt (w w' : World) (b b2 : Nat) (B M : Kec.St) : Prop where
  s : IsSt w' b B
  m : IsSt w' b2 M
  g : w.grownBy w' (some b)
theorem ChAt.put_ {w w' : World} {b b2 : Nat} {B M : Kec.St} (h : ChAt w w' b b2 B M) (hne : b ≠ b2) (j : Nat) (x : BitVec 64) : ChAt w (w'.setCell ⟨b, j, none⟩ (.int .u64 (U x))) b b2 (upd B j x) M :=
  ⟨h.s.set_ j x, World.rowIs.setOther h.m (a := ⟨b, j, none⟩) (fun e => hne e.symm) _, only_setCell h.g (.inl rfl) _⟩
theorem ChAt.drewN {w w' : World} {b b2 : Nat} {B M : Kec.St} (h : ChAt w w' b b2 B M) (n : Nat) : ChAt w (w'.drewN n) b b2 B M := ⟨h.s, h.m, only_drewN h.g n⟩

set_option maxHeartbeats 4000000 in
set_option maxRecDepth 100000 in
theorem chi_any (A M : Kec.St) (b b2 : Nat) (w : World) (hne : b ≠ b2) (hS : IsSt w b A) (hM : IsSt w b2 M) :
    Calls Tryz.prog 93 #[.pointer (some ⟨b, 0, none⟩), .pointer (some ⟨b2, 0, none⟩)] w fun e w' => e = .returned (.tuple #[]) ∧ IsSt w' b (Kec.chi M) ∧ w.grownBy w' (some b) := by
  go_enter Tryz.func93, Tryz.ntmps93
  go_wp2_with fail
  go_loopw [4] (fun v wr => ∃ y : Nat, y ≤ 25 ∧ y % 5 = 0 ∧ v = .int .i64 y ∧ ChAt w wr b b2 (mixC A M y) M) (fun v _ => 25 - (intOf v).toNat)
  case atStart => exact ⟨0, by omega, by omega, rfl, hS.congr fun i _ => by unfold mixC; rw [if_neg (by omega)], hM, ⟨rfl, rfl, rfl, Nat.le_refl _, fun _ _ _ => rfl⟩⟩
  case round =>
    obtain ⟨y, hy, hm, rfl, H⟩ := hrel
    clear hS hM
    by_cases hlt : y < 25
    · have hm' := Lib.hid hm
      have hy4 : y + 4 < 25 := by omega
      clear hm
      have m0 := H.m.cell y (by omega)
      have m1 := H.m.cell (y + 1) (by omega)
      have m2 := H.m.cell (y + 2) (by omega)
      have m3 := H.m.cell (y + 3) (by omega)
      have m4 := H.m.cell (y + 4) (by omega)
      have i1 : IntKind.i64.wrap ((y : Int) + 1) = (y : Int) + 1 := IntWalk.i64_in _ (by omega)
      have j1 : ((y : Int) + 1).toNat = y + 1 := by omega
      have k1 : 0 ≤ (y : Int) + 1 := by omega
      have l1 : (y : Int) + 1 < 25 := by omega
      have i2 : IntKind.i64.wrap ((y : Int) + 2) = (y : Int) + 2 := IntWalk.i64_in _ (by omega)
      have j2 : ((y : Int) + 2).toNat = y + 2 := by omega
      have k2 : 0 ≤ (y : Int) + 2 := by omega
      have l2 : (y : Int) + 2 < 25 := by omega
      have i3 : IntKind.i64.wrap ((y : Int) + 3) = (y : Int) + 3 := IntWalk.i64_in _ (by omega)
      have j3 : ((y : Int) + 3).toNat = y + 3 := by omega
      have k3 : 0 ≤ (y : Int) + 3 := by omega
      have l3 : (y : Int) + 3 < 25 := by omega
      have i4 : IntKind.i64.wrap ((y : Int) + 4) = (y : Int) + 4 := IntWalk.i64_in _ (by omega)
      have j4 : ((y : Int) + 4).toNat = y + 4 := by omega
      have k4 : 0 ≤ (y : Int) + 4 := by omega
      have l4 : (y : Int) + 4 < 25 := by omega
      go_wp2_with fail
      go_quiet (fail)
      clear i1 j1 k1 l1 i2 j2 k2 l2 i3 j3 k3 l3 i4 j4 k4 l4 m0 m1 m2 m3 m4
      go_upto_region 4 with (fail)
      refine wp_gen (fun w' => ChAt w w' b b2 (mixC A M y) M) (H.drewN _) ?_
      clear H
      intro w1 H
      have c := H.s.cell (y) (by omega)
      have f := H.s.frozen (y)
      go_upto_region 5 with (fail)
      clear c f
      refine wp_gen (fun w' => ChAt w w' b b2 (upd (mixC A M y) (y) (M y ^^^ ~~~M (y + 1) &&& M (y + 2))) M) (H.put_ hne (y) (M y ^^^ ~~~M (y + 1) &&& M (y + 2))) ?_
      clear H
      intro w1 H
      have c := H.s.cell (y + 1) (by omega)
      have f := H.s.frozen (y + 1)
      go_upto_region 6 with (fail)
      clear c f
      refine wp_gen (fun w' => ChAt w w' b b2 (upd (upd (mixC A M y) (y) (M y ^^^ ~~~M (y + 1) &&& M (y + 2))) (y + 1) (M (y + 1) ^^^ ~~~M (y + 2) &&& M (y + 3))) M) (H.put_ hne (y + 1) (M (y + 1) ^^^ ~~~M (y + 2) &&& M (y + 3))) ?_
      clear H
      intro w1 H
      have c := H.s.cell (y + 2) (by omega)
      have f := H.s.frozen (y + 2)
      go_upto_region 7 with (fail)
      clear c f
      refine wp_gen (fun w' => ChAt w w' b b2 (upd (upd (upd (mixC A M y) (y) (M y ^^^ ~~~M (y + 1) &&& M (y + 2))) (y + 1) (M (y + 1) ^^^ ~~~M (y + 2) &&& M (y + 3))) (y + 2) (M (y + 2) ^^^ ~~~M (y + 3) &&& M (y + 4))) M) (H.put_ hne (y + 2) (M (y + 2) ^^^ ~~~M (y + 3) &&& M (y + 4))) ?_
      clear H
      intro w1 H
      have c := H.s.cell (y + 3) (by omega)
      have f := H.s.frozen (y + 3)
      go_upto_region 8 with (fail)
      clear c f
      refine wp_gen (fun w' => ChAt w w' b b2 (upd (upd (upd (upd (mixC A M y) (y) (M y ^^^ ~~~M (y + 1) &&& M (y + 2))) (y + 1) (M (y + 1) ^^^ ~~~M (y + 2) &&& M (y + 3))) (y + 2) (M (y + 2) ^^^ ~~~M (y + 3) &&& M (y + 4))) (y + 3) (M (y + 3) ^^^ ~~~M (y + 4) &&& M y)) M) (H.put_ hne (y + 3) (M (y + 3) ^^^ ~~~M (y + 4) &&& M y)) ?_
      clear H
      intro w1 H
      have c := H.s.cell (y + 4) (by omega)
      have f := H.s.frozen (y + 4)
      go_wp2_with fail
      clear c f
      have H5 := H.put_ hne (y + 4) (M (y + 4) ^^^ ~~~M y &&& M (y + 1))
      refine ⟨⟨y + 5, by omega, by have := hm'.out; omega, by go_num, H5.s.congr fun i _ => ?_, H5.m, H5.g⟩, by simp [intOf]; omega⟩
      have hm := hm'.out
      have t : ∀ j, j < 5 → Kec.chi M (y + j) = M (y + j) ^^^ (~~~ M (y + (j + 1) % 5) &&& M (y + (j + 2) % 5)) := fun j hj => by
        unfold Kec.chi; rw [show (y + j + 1) % 5 + 5 * ((y + j) / 5) = y + (j + 1) % 5 from by omega, show (y + j + 2) % 5 + 5 * ((y + j) / 5) = y + (j + 2) % 5 from by omega]
      unfold mixC upd
      by_cases i4 : i = y + 4
      · rw [if_pos i4, if_pos (by omega), i4]; exact (t 4 (by decide)).symm
      rw [if_neg i4]
      by_cases i3 : i = y + 3
      · rw [if_pos i3, if_pos (by omega), i3]; exact (t 3 (by decide)).symm
      rw [if_neg i3]
      by_cases i2 : i = y + 2
      · rw [if_pos i2, if_pos (by omega), i2]; exact (t 2 (by decide)).symm
      rw [if_neg i2]
      by_cases i1 : i = y + 1
      · rw [if_pos i1, if_pos (by omega), i1]; exact (t 1 (by decide)).symm
      rw [if_neg i1]
      by_cases i0 : i = y
      · rw [if_pos i0, if_pos (by omega), i0]; exact (t 0 (by decide)).symm
      rw [if_neg i0]
      show (if i < y then Kec.chi M i else A i) = _
      by_cases hi : i < y
      · rw [if_pos hi, if_pos (by omega)]
      · rw [if_neg hi, if_neg (by omega)]
    · obtain rfl : y = 25 := by omega
      clear hm
      go_wp2
      go_end0
      exact ⟨rfl, H.s.congr fun i hi => by unfold mixC; rw [if_pos hi], H.g⟩
end Go.Proofs.YtmmdldicafbjdaaGreatDoor.Dg
