/- The reference's Unary and Binary are the program's. Condition: the numbers are words. -/
import Derived.Test.YtndehkoglgakpaaGreatDoorOpr
namespace Go.Proofs.YtndehkoglgakpaaGreatDoor
open Go.RowKit

set_option maxHeartbeats 1000000 in
set_option maxRecDepth 100000 in
theorem yes_any (b : Bool) (w : World) : Calls Tryz.prog 68 #[.bool b] w fun e w' => e = .returned (.int .u32 (tru b)) ∧ w = w' := by
  cases b <;>
  · go_enter Tryz.func68, Tryz.ntmps68
    go_wp2_with fail
    go_ret
    exact ⟨rfl, rfl⟩
theorem tdiv_bound {a b : Int} (ha : -2147483648 ≤ a) (ha2 : a < 2147483648) : -2147483648 ≤ a.tdiv b ∧ a.tdiv b ≤ 2147483648 := by
  have h := Int.natAbs_tdiv_le_natAbs a b
  omega
set_option maxHeartbeats 1000000 in
set_option maxRecDepth 100000 in
theorem divide_any (x y : Int) (hy : 0 ≤ y) (hy1 : y < 4294967296) (w : World) : Calls Tryz.prog 69 #[.int .u32 x, .int .u32 y] w fun e w' => e = .returned (.int .u32 (quo (wrap32 x) (wrap32 y) % 4294967296)) ∧ w = w' := by
  by_cases h : y = 0
  · subst h
    go_enter Tryz.func69, Tryz.ntmps69
    go_wp2_with fail
    go_ret
    exact ⟨by rw [show quo (wrap32 x) (wrap32 0) = 0 from if_pos (by unfold wrap32; decide)]; rfl, rfl⟩
  · have h1 : (y == 0) = false := by rw [beq_eq_false_iff_ne]; exact h
    have hw : wrap32 y ≠ 0 := by unfold wrap32; omega
    have ha : -2147483648 ≤ wrap32 x ∧ wrap32 x < 2147483648 := by unfold wrap32; omega
    have hb : -2147483648 ≤ wrap32 y ∧ wrap32 y < 2147483648 := by unfold wrap32; omega
    have HQ := Lib.hid (show quo (wrap32 x) (wrap32 y) % 4294967296 = ((wrap32 x).tdiv (wrap32 y)) % 4294967296 by unfold quo; rw [if_neg hw]; unfold wrap32; omega)
    have hd := tdiv_bound (b := wrap32 y) ha.1 ha.2
    have h2 : (wrap32 y == 0) = false := by rw [beq_eq_false_iff_ne]; exact hw
    generalize quo (wrap32 x) (wrap32 y) % 4294967296 = Q at *
    go_enter Tryz.func69, Tryz.ntmps69
    go_wp2_with fail
    go_ret
    exact ⟨by rw [HQ.out]; go_num, rfl⟩
set_option maxHeartbeats 2000000 in
set_option maxRecDepth 100000 in
theorem qUnary_any (s : ByteArray) (x : Int) (hx : 0 ≤ x) (hx1 : x < 4294967296) (w : World) : Calls Tryz.prog 40 #[.string s, .int .u32 x] w fun e w' => e = .returned (wordV (unR s.toList x)) ∧ w = w' := by
  have HN := Lib.hid (show (bits .xor .u32 IntKind.u32.max x + 1) % 4294967296 = -x % 4294967296 by rw [not_int hx hx1]; omega)
  go_enter Tryz.func40, Tryz.ntmps40
  go_wp2_with (go_at_call 68; (with_reducible refine (yes_any _ _).mono ?_); rintro e w' ⟨rfl, rfl⟩)
  all_goals
    go_ret2
    exact ⟨by simp only [unR, wordV, *]; first | rfl | (rw [← HN.out]; rfl), rfl⟩
set_option maxHeartbeats 8000000 in
set_option maxRecDepth 100000 in
theorem qBinary_any (s : ByteArray) (x y : Int) (hx : 0 ≤ x) (hx1 : x < 4294967296) (hy : 0 ≤ y) (hy1 : y < 4294967296) (w : World) : Calls Tryz.prog 41 #[.string s, .int .u32 x, .int .u32 y] w fun e w' => e = .returned (wordV (biR s.toList x y)) ∧ w = w' := by
  obtain ⟨k, hk⟩ : ∃ k : Nat, y % 32 = (k : Int) := ⟨(y % 32).toNat, by omega⟩
  have HK := Lib.hid (show (y % 32).toNat = k by omega)
  have hk2 : k < 32 := by omega
  have hk3 : 0 ≤ (k : Int) := by omega
  have hk4 : (k : Int).toNat = k := rfl
  have hk5 : min k 32 = k := by omega
  have HE := Lib.hid (wrap_inj hx hx1 hy hy1)
  have HNE := Lib.hid (show (wrap32 x != wrap32 y) = (x != y) by unfold bne; rw [wrap_inj hx hx1 hy hy1])
  have HR := Lib.hid (show (x - (quo (wrap32 x) (wrap32 y) % 4294967296 * y) % 4294967296) % 4294967296 = wrap32 (wrap32 x - wrap32 (quo (wrap32 x) (wrap32 y) * wrap32 y)) % 4294967296 by
    rw [wrap_mod, Int.sub_emod (wrap32 x), wrap_mod, wrap_mod, Int.sub_emod x, Int.emod_emod_of_dvd _ (Int.dvd_refl _), Int.mul_emod (quo _ _) (wrap32 y), wrap_mod, Int.mul_emod (quo _ _ % 4294967296) y, Int.emod_emod_of_dvd _ (Int.dvd_refl _)])
  have hdiv := fun w => divide_any x y hy hy1 w
  go_enter Tryz.func41, Tryz.ntmps41
  go_wp2_with (first | (go_at_call 68; (with_reducible refine (yes_any _ _).mono ?_); rintro e w' ⟨rfl, rfl⟩) | (go_at_call 69; (with_reducible refine (hdiv _).mono ?_); rintro e w' ⟨rfl, rfl⟩))
  all_goals
    clear hk hk2 hk3 hk4 hk5
    have hk := HK.out
    have hor : ¬ x = 0 → (x != 0 || y != 0) = true := fun h => by rw [bne_iff_ne.2 h]; rfl
    go_ret2
    exact ⟨by simp only [biR, wordV, *]; first | rfl | (simp [*, HE.out]; done) | (simp [*, HNE.out]; done) | (rw [← HR.out]; rfl) | (rw [← HR.out]; go_num) | (simp [*]; done), rfl⟩
end Go.Proofs.YtndehkoglgakpaaGreatDoor
