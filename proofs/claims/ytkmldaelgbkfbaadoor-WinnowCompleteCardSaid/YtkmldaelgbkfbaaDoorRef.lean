/- The reference's numbers: sums, products, powers, codes. No condition but the words' lengths. -/
import Derived.Test.YtkmldaelgbkfbaaDoorLx
import Derived.Test.YtkmldaelgbkfbaaDoorJoi
namespace Go.Proofs.YtkmldaelgbkfbaaDoor
open Go.RowKit Go.Deep
namespace Rl
set_option maxHeartbeats 4000000 in
set_option maxRecDepth 100000 in
theorem add_any (a b : Nat) (ha : a ≤ P) (hb : b ≤ P) (w : World) :
    Calls Tryd.prog 54 #[.int .i64 (a : Int), .int .i64 (b : Int)] w fun e w' => e = .returned (.int .i64 (((a + b) % P : Nat) : Int)) ∧ w = w' := by
  have HW := Lib.hid (show ((a : Int) + (b : Int)).tmod 2305843009213693951 = (((a + b) % P : Nat) : Int) by rw [← tmod_nat]; congr 1)
  generalize (a + b) % P = v at *
  simp only [P_val] at ha hb
  have t1 : IntKind.i64.wrap ((a : Int) + (b : Int)) = (a : Int) + (b : Int) := by rw [IntKind.wrap_i64]; omega
  go_enter Tryd.func54, Tryd.ntmps54
  go_wp2
  go_ret
  exact ⟨ret_int (by rw [← HW.out, Int.tmod_eq_emod_of_nonneg (by omega)]), rfl⟩
theorem add_1 (a : Nat) (ha : a ≤ P) (w : World) :
    Calls Tryd.prog 54 #[.int .i64 (a : Int), .int .i64 1] w fun e w' => e = .returned (.int .i64 (((a + 1) % P : Nat) : Int)) ∧ w = w' := add_any a 1 ha (by decide) w
set_option maxHeartbeats 4000000 in
set_option maxRecDepth 100000 in
theorem times_any (a b : Nat) (ha : a < P) (hb : b < P) (w : World) :
    Calls Tryd.prog 55 #[.int .i64 (a : Int), .int .i64 (b : Int)] w fun e w' => e = .returned (.int .i64 ((a * b % P : Nat) : Int)) ∧ w = w' := by
  have HT := Lib.hid (show (0 + a * b) % P = a * b % P by rw [Nat.zero_add])
  generalize a * b % P = v at *
  have HA := Lib.hid ha
  have HB := Lib.hid hb
  clear ha hb
  go_enter Tryd.func55, Tryd.ntmps55
  go_wp2_with fail
  go_loop [0, 1, 5] (fun x y z => ∃ a b o : Nat, x = .int .i64 a ∧ y = .int .i64 b ∧ z = .int .i64 o ∧ a < P ∧ b < P ∧ o < P ∧ (o + a * b) % P = v) (fun _ y _ => (intOf y).toNat)
  case atStart => exact ⟨a, b, 0, rfl, rfl, rfl, HA.out, HB.out, by decide, HT.out⟩
  case round =>
    obtain ⟨a, b, o, rfl, rfl, rfl, ha, hb, ho, hv⟩ := hrel
    by_cases h0 : b = 0
    · have b3 : decide ((0 : Int) < (b : Int)) = false := decide_eq_false (by omega)
      have b3n : decide (0 < b) = false := decide_eq_false (by omega)
      have HR := Lib.hid (show o = v by rw [← hv, h0, Nat.mul_zero, Nat.add_zero, Nat.mod_eq_of_lt ho])
      clear hv h0 ha hb ho
      go_wp2_with fail
      go_ret
      exact ⟨ret_int (by rw [HR.out]), rfl⟩
    · have b3 : decide ((0 : Int) < (b : Int)) = true := decide_eq_true (by omega)
      have b3n : decide (0 < b) = true := decide_eq_true (by omega)
      have cs := add_any a a (Nat.le_of_lt ha) (Nat.le_of_lt ha) w
      have hs2 : (a + a) % P < P := Nat.mod_lt _ P_pos
      have u1 : ((b : Int)).tdiv 2 = ((b / 2 : Nat) : Int) := by rw [Int.tdiv_eq_ediv_of_nonneg (by omega)]; omega
      have HN2 := Lib.hid (show b / 2 < P by omega)
      have HPOS := Lib.hid h0
      simp only [P_val] at hb
      by_cases hod : b % 2 = 1
      · have b4 : (((b : Int) % 2) == 1) = true := by rw [beq_iff_eq]; omega
        have b4t : (((b : Int).tmod 2) == 1) = true := by rw [beq_iff_eq, Int.tmod_eq_emod_of_nonneg (by omega)]; omega
        have b4n : ((b % 2) == 1) = true := by rw [beq_iff_eq]; omega
        have cp := add_any o a (Nat.le_of_lt ho) (Nat.le_of_lt ha) w
        have HP := Lib.hid (show (o + a) % P < P from Nat.mod_lt _ P_pos)
        have HR := Lib.hid (show ((o + a) % P + (a + a) % P * (b / 2)) % P = v by rw [dbl_odd o a b hod]; exact hv)
        have HS := Lib.hid hs2
        generalize (o + a) % P = p2 at *
        generalize (a + a) % P = s2 at *
        clear hv ha ho hs2 hod h0
        go_wp2_with (first
          | (go_at_call 54; (with_reducible refine cp.mono ?_); rintro e w' ⟨rfl, rfl⟩)
          | (go_at_call 54; (with_reducible refine cs.mono ?_); rintro e w' ⟨rfl, rfl⟩))
        go_round
        case rel => exact ⟨s2, b / 2, p2, rfl, by go_num, rfl, HS.out, HN2.out, HP.out, HR.out⟩
        case measure => have := HPOS.out; simp [intOf]; omega
      · have b4 : (((b : Int) % 2) == 1) = false := by rw [beq_eq_false_iff_ne]; omega
        have b4t : (((b : Int).tmod 2) == 1) = false := by rw [beq_eq_false_iff_ne, Int.tmod_eq_emod_of_nonneg (by omega)]; omega
        have b4n : ((b % 2) == 1) = false := by rw [beq_eq_false_iff_ne]; omega
        have HP := Lib.hid ho
        have HR := Lib.hid (show (o + (a + a) % P * (b / 2)) % P = v by rw [dbl_even o a b (by omega)]; exact hv)
        have HS := Lib.hid hs2
        generalize (a + a) % P = s2 at *
        clear hv ha ho hs2 hod h0
        go_wp2_with (go_at_call 54; (with_reducible refine cs.mono ?_); rintro e w' ⟨rfl, rfl⟩)
        go_round
        case rel => exact ⟨s2, b / 2, o, rfl, by go_num, rfl, HS.out, HN2.out, HP.out, HR.out⟩
        case measure => have := HPOS.out; simp [intOf]; omega
theorem times_257 (a : Nat) (ha : a < P) (w : World) :
    Calls Tryd.prog 55 #[.int .i64 (a : Int), .int .i64 257] w fun e w' => e = .returned (.int .i64 ((a * 257 % P : Nat) : Int)) ∧ w = w' := times_any a 257 ha (by decide) w
theorem times_B (a : Nat) (ha : a < P) (w : World) :
    Calls Tryd.prog 55 #[.int .i64 (a : Int), .int .i64 1000003] w fun e w' => e = .returned (.int .i64 ((a * B % P : Nat) : Int)) ∧ w = w' := times_any a 1000003 ha (by decide) w
/-- What Mul returns. -/
def mulI (a b : Int) : Nat := if isR a = true ∧ isR b = true then a.toNat * b.toNat % P else 0
set_option maxHeartbeats 4000000 in
set_option maxRecDepth 100000 in
theorem mul_all (a b : Int) (w : World) :
    Calls Tryd.prog 42 #[.int .i64 a, .int .i64 b] w fun e w' => e = .returned (.int .i64 (mulI a b : Int)) ∧ w = w' := by
  have c1 := res_any a w
  have c2 := res_any b w
  by_cases h : isR a = true ∧ isR b = true
  · obtain ⟨h1, h2⟩ := id h
    have HV := Lib.hid (show mulI a b = a.toNat * b.toNat % P from if_pos h)
    generalize mulI a b = v at *
    obtain ⟨x, rfl, hx⟩ := isR_of h1
    obtain ⟨y, rfl, hy⟩ := isR_of h2
    have c3 := mul_any x y hx hy w
    rw [show x * y % P = v from HV.out.symm] at c3
    exact c3
  · have HV := Lib.hid (show mulI a b = 0 from if_neg h)
    rw [HV.out]
    clear HV
    generalize isR a = p at *
    generalize isR b = q at *
    cases p <;> cases q
    case true.true => exact absurd ⟨rfl, rfl⟩ h
    all_goals
      clear h
      go_enter Tryd.func42, Tryd.ntmps42
      go_wp2_with (first
        | (go_at_call 43; (with_reducible refine c1.mono ?_); rintro e w' ⟨rfl, rfl⟩)
        | (go_at_call 43; (with_reducible refine c2.mono ?_); rintro e w' ⟨rfl, rfl⟩))
      go_ret
      exact ⟨rfl, rfl⟩
end Rl
end Go.Proofs.YtkmldaelgbkfbaaDoor
