/- The reference's numbers: sums, products, powers, codes. No condition but the words' lengths. -/
import Derived.Test.YthdokajpiflcoaaLx
import Derived.Test.YthdokajpiflcoaaJoi
namespace Go.Proofs.Ythdokajpiflcoaa
open Go.RowKit Go.Deep
namespace Rl
set_option maxHeartbeats 1000000 in
set_option maxRecDepth 100000 in
theorem qres_any (n : Int) (w : World) :
    Calls Try.prog 26 #[.int .i64 n] w fun e w' => e = .returned (.bool (isR n)) ∧ w = w' := by
  have HV := Lib.hid (show isR n = decide (0 ≤ n ∧ n < 2305843009213693951) from rfl)
  generalize isR n = v at *
  by_cases h1 : 0 ≤ n
  · have b1 : decide ((0 : Int) ≤ n) = true := decide_eq_true h1
    by_cases h2 : n < 2305843009213693951
    · have b2 : decide (n < 2305843009213693951) = true := decide_eq_true h2
      have HT := Lib.hid (show v = true by rw [HV.out]; exact decide_eq_true ⟨h1, h2⟩)
      clear HV h1 h2
      go_enter Try.func26, Try.ntmps26
      go_wp2
      go_ret
      exact ⟨ret_bool (by rw [HT.out]), rfl⟩
    · have b2 : decide (n < 2305843009213693951) = false := decide_eq_false h2
      have HT := Lib.hid (show v = false by rw [HV.out]; exact decide_eq_false fun h => h2 h.2)
      clear HV h1 h2
      go_enter Try.func26, Try.ntmps26
      go_wp2
      go_ret
      exact ⟨ret_bool (by rw [HT.out]), rfl⟩
  · have b1 : decide ((0 : Int) ≤ n) = false := decide_eq_false h1
    have HT := Lib.hid (show v = false by rw [HV.out]; exact decide_eq_false fun h => h1 h.1)
    clear HV h1
    go_enter Try.func26, Try.ntmps26
    go_wp2
    go_ret
    exact ⟨ret_bool (by rw [HT.out]), rfl⟩
theorem qres_t (a : Nat) (ha : a < P) (w : World) :
    Calls Try.prog 26 #[.int .i64 (a : Int)] w fun e w' => e = .returned (.bool true) ∧ w = w' := by
  have := qres_any a w
  rwa [isR_nat, decide_eq_true ha] at this
set_option maxHeartbeats 4000000 in
set_option maxRecDepth 100000 in
theorem add_any (a b : Nat) (ha : a ≤ P) (hb : b ≤ P) (w : World) :
    Calls Try.prog 28 #[.int .i64 (a : Int), .int .i64 (b : Int)] w fun e w' => e = .returned (.int .i64 (((a + b) % P : Nat) : Int)) ∧ w = w' := by
  have HW := Lib.hid (show ((a : Int) + (b : Int)).tmod 2305843009213693951 = (((a + b) % P : Nat) : Int) by rw [← tmod_nat]; congr 1)
  generalize (a + b) % P = v at *
  simp only [P_val] at ha hb
  have t1 : IntKind.i64.wrap ((a : Int) + (b : Int)) = (a : Int) + (b : Int) := by rw [IntKind.wrap_i64]; omega
  go_enter Try.func28, Try.ntmps28
  go_wp2
  go_ret
  exact ⟨ret_int (by rw [← HW.out, Int.tmod_eq_emod_of_nonneg (by omega)]), rfl⟩
theorem add_1 (a : Nat) (ha : a ≤ P) (w : World) :
    Calls Try.prog 28 #[.int .i64 (a : Int), .int .i64 1] w fun e w' => e = .returned (.int .i64 (((a + 1) % P : Nat) : Int)) ∧ w = w' := add_any a 1 ha (by decide) w
set_option maxHeartbeats 4000000 in
set_option maxRecDepth 100000 in
theorem times_any (a b : Nat) (ha : a < P) (hb : b < P) (w : World) :
    Calls Try.prog 29 #[.int .i64 (a : Int), .int .i64 (b : Int)] w fun e w' => e = .returned (.int .i64 ((a * b % P : Nat) : Int)) ∧ w = w' := by
  have HT := Lib.hid (show (0 + a * b) % P = a * b % P by rw [Nat.zero_add])
  generalize a * b % P = v at *
  have HA := Lib.hid ha
  have HB := Lib.hid hb
  clear ha hb
  go_enter Try.func29, Try.ntmps29
  go_wp2_with fail
  go_loop [0, 1, 5] (fun x y z => ∃ a b o : Nat, x = .int .i64 a ∧ y = .int .i64 b ∧ z = .int .i64 o ∧ a < P ∧ b < P ∧ o < P ∧ (o + a * b) % P = v) (fun _ y _ => (intOf y).toNat)
  case atStart => exact ⟨a, b, 0, rfl, rfl, rfl, HA.out, HB.out, by decide, HT.out⟩
  case round =>
    obtain ⟨a, b, o, rfl, rfl, rfl, ha, hb, ho, hv⟩ := hrel
    by_cases h0 : b = 0
    · have b3 : decide ((0 : Int) < (b : Int)) = false := decide_eq_false (by omega)
      have b3n : decide (0 < b) = false := decide_eq_false (by omega)
      have HR := Lib.hid (show o = v by rw [← hv, h0, Nat.mul_zero, Nat.add_zero, Nat.mod_eq_of_lt ho])
      clear hv h0 ha hb ho
      go_wp2_with fail
      go_ret
      exact ⟨ret_int (by rw [HR.out]), rfl⟩
    · have b3 : decide ((0 : Int) < (b : Int)) = true := decide_eq_true (by omega)
      have b3n : decide (0 < b) = true := decide_eq_true (by omega)
      have cs := add_any a a (Nat.le_of_lt ha) (Nat.le_of_lt ha) w
      have hs2 : (a + a) % P < P := Nat.mod_lt _ P_pos
      have u1 : ((b : Int)).tdiv 2 = ((b / 2 : Nat) : Int) := by rw [Int.tdiv_eq_ediv_of_nonneg (by omega)]; omega
      have HN2 := Lib.hid (show b / 2 < P by omega)
      have HPOS := Lib.hid h0
      simp only [P_val] at hb
      by_cases hod : b % 2 = 1
      · have b4 : (((b : Int) % 2) == 1) = true := by rw [beq_iff_eq]; omega
        have b4t : (((b : Int).tmod 2) == 1) = true := by rw [beq_iff_eq, Int.tmod_eq_emod_of_nonneg (by omega)]; omega
        have b4n : ((b % 2) == 1) = true := by rw [beq_iff_eq]; omega
        have cp := add_any o a (Nat.le_of_lt ho) (Nat.le_of_lt ha) w
        have HP := Lib.hid (show (o + a) % P < P from Nat.mod_lt _ P_pos)
        have HR := Lib.hid (show ((o + a) % P + (a + a) % P * (b / 2)) % P = v by rw [dbl_odd o a b hod]; exact hv)
        have HS := Lib.hid hs2
        generalize (o + a) % P = p2 at *
        generalize (a + a) % P = s2 at *
        clear hv ha ho hs2 hod h0
        go_wp2_with (first
          | (go_at_call 28; (with_reducible refine cp.mono ?_); rintro e w' ⟨rfl, rfl⟩)
          | (go_at_call 28; (with_reducible refine cs.mono ?_); rintro e w' ⟨rfl, rfl⟩))
        go_round
        case rel => exact ⟨s2, b / 2, p2, rfl, by go_num, rfl, HS.out, HN2.out, HP.out, HR.out⟩
        case measure => have := HPOS.out; simp [intOf]; omega
      · have b4 : (((b : Int) % 2) == 1) = false := by rw [beq_eq_false_iff_ne]; omega
        have b4t : (((b : Int).tmod 2) == 1) = false := by rw [beq_eq_false_iff_ne, Int.tmod_eq_emod_of_nonneg (by omega)]; omega
        have b4n : ((b % 2) == 1) = false := by rw [beq_eq_false_iff_ne]; omega
        have HP := Lib.hid ho
        have HR := Lib.hid (show (o + (a + a) % P * (b / 2)) % P = v by rw [dbl_even o a b (by omega)]; exact hv)
        have HS := Lib.hid hs2
        generalize (a + a) % P = s2 at *
        clear hv ha ho hs2 hod h0
        go_wp2_with (go_at_call 28; (with_reducible refine cs.mono ?_); rintro e w' ⟨rfl, rfl⟩)
        go_round
        case rel => exact ⟨s2, b / 2, o, rfl, by go_num, rfl, HS.out, HN2.out, HP.out, HR.out⟩
        case measure => have := HPOS.out; simp [intOf]; omega
theorem times_257 (a : Nat) (ha : a < P) (w : World) :
    Calls Try.prog 29 #[.int .i64 (a : Int), .int .i64 257] w fun e w' => e = .returned (.int .i64 ((a * 257 % P : Nat) : Int)) ∧ w = w' := times_any a 257 ha (by decide) w
theorem times_B (a : Nat) (ha : a < P) (w : World) :
    Calls Try.prog 29 #[.int .i64 (a : Int), .int .i64 1000003] w fun e w' => e = .returned (.int .i64 ((a * B % P : Nat) : Int)) ∧ w = w' := times_any a 1000003 ha (by decide) w
/-- What Mul returns. -/
def mulI (a b : Int) : Nat := if isR a = true ∧ isR b = true then a.toNat * b.toNat % P else 0
set_option maxHeartbeats 4000000 in
set_option maxRecDepth 100000 in
theorem mul_all (a b : Int) (w : World) :
    Calls Try.prog 12 #[.int .i64 a, .int .i64 b] w fun e w' => e = .returned (.int .i64 (mulI a b : Int)) ∧ w = w' := by
  have c1 := res_any a w
  have c2 := res_any b w
  by_cases h : isR a = true ∧ isR b = true
  · obtain ⟨h1, h2⟩ := id h
    have HV := Lib.hid (show mulI a b = a.toNat * b.toNat % P from if_pos h)
    generalize mulI a b = v at *
    obtain ⟨x, rfl, hx⟩ := isR_of h1
    obtain ⟨y, rfl, hy⟩ := isR_of h2
    have c3 := mul_any x y hx hy w
    rw [show x * y % P = v from HV.out.symm] at c3
    exact c3
  · have HV := Lib.hid (show mulI a b = 0 from if_neg h)
    rw [HV.out]
    clear HV
    generalize isR a = p at *
    generalize isR b = q at *
    cases p <;> cases q
    case true.true => exact absurd ⟨rfl, rfl⟩ h
    all_goals
      clear h
      go_enter Try.func12, Try.ntmps12
      go_wp2_with (first
        | (go_at_call 30; (with_reducible refine c1.mono ?_); rintro e w' ⟨rfl, rfl⟩)
        | (go_at_call 30; (with_reducible refine c2.mono ?_); rintro e w' ⟨rfl, rfl⟩))
      go_ret
      exact ⟨rfl, rfl⟩
set_option maxHeartbeats 4000000 in
set_option maxRecDepth 100000 in
theorem qmul_any (a b : Int) (w : World) :
    Calls Try.prog 13 #[.int .i64 a, .int .i64 b] w fun e w' => e = .returned (.int .i64 (mulI a b : Int)) ∧ w = w' := by
  have c1 := qres_any a w
  have c2 := qres_any b w
  by_cases h : isR a = true ∧ isR b = true
  · obtain ⟨h1, h2⟩ := id h
    have HV := Lib.hid (show mulI a b = a.toNat * b.toNat % P from if_pos h)
    generalize mulI a b = v at *
    rw [h1] at c1
    rw [h2] at c2
    obtain ⟨x, rfl, hx⟩ := isR_of h1
    obtain ⟨y, rfl, hy⟩ := isR_of h2
    have c3 := times_any x y hx hy w
    rw [show x * y % P = v from HV.out.symm] at c3
    clear h h1 h2 hx hy HV
    go_enter Try.func13, Try.ntmps13
    go_wp2_with (first
      | (go_at_call 26; (with_reducible refine c1.mono ?_); rintro e w' ⟨rfl, rfl⟩)
      | (go_at_call 26; (with_reducible refine c2.mono ?_); rintro e w' ⟨rfl, rfl⟩)
      | (go_at_call 29; (with_reducible refine c3.mono ?_); rintro e w' ⟨rfl, rfl⟩))
    go_ret
    exact ⟨rfl, rfl⟩
  · have HV := Lib.hid (show mulI a b = 0 from if_neg h)
    rw [HV.out]
    clear HV
    generalize isR a = p at *
    generalize isR b = q at *
    cases p <;> cases q
    case true.true => exact absurd ⟨rfl, rfl⟩ h
    all_goals
      clear h
      go_enter Try.func13, Try.ntmps13
      go_wp2_with (first
        | (go_at_call 26; (with_reducible refine c1.mono ?_); rintro e w' ⟨rfl, rfl⟩)
        | (go_at_call 26; (with_reducible refine c2.mono ?_); rintro e w' ⟨rfl, rfl⟩))
      go_ret
      exact ⟨rfl, rfl⟩
set_option maxHeartbeats 4000000 in
set_option maxRecDepth 100000 in
theorem qpower_any (n : Int) (w : World) :
    Calls Try.prog 15 #[.int .i64 n] w fun e w' => e = .returned (.int .i64 (pwI n : Int)) ∧ w = w' := by
  have HV := Lib.hid (show pwI n = if 0 ≤ n ∧ n ≤ 8192 then pw n.toNat else 0 from rfl)
  generalize pwI n = v at *
  by_cases h1 : n < 0
  · have b1 : decide (n < 0) = true := decide_eq_true h1
    have HT := Lib.hid (show v = 0 by rw [HV.out, if_neg (by omega)])
    clear HV h1
    go_enter Try.func15, Try.ntmps15
    go_wp2_with fail
    go_ret
    exact ⟨ret_int (by rw [HT.out]; rfl), rfl⟩
  have b1 : decide (n < 0) = false := decide_eq_false h1
  by_cases h2 : 8192 < n
  · have b2 : decide (8192 < n) = true := decide_eq_true h2
    have HT := Lib.hid (show v = 0 by rw [HV.out, if_neg (by omega)])
    clear HV h1 h2
    go_enter Try.func15, Try.ntmps15
    go_wp2_with fail
    go_ret
    exact ⟨ret_int (by rw [HT.out]; rfl), rfl⟩
  have b2 : decide (8192 < n) = false := decide_eq_false h2
  obtain ⟨N, rfl⟩ : ∃ N : Nat, n = N := ⟨n.toNat, by omega⟩
  have HT := Lib.hid (show v = B ^ N % P by rw [HV.out, if_pos (by omega)]; rfl)
  have HN := Lib.hid (show N ≤ 8192 by omega)
  clear HV h1 h2
  go_enter Try.func15, Try.ntmps15
  go_wp2_with fail
  go_loop [0, 3, 4] (fun a b c => ∃ n p s : Nat, a = .int .i64 n ∧ b = .int .i64 p ∧ c = .int .i64 s ∧ n ≤ 8192 ∧ p < P ∧ s < P ∧ p * s ^ n % P = v) (fun a _ _ => (intOf a).toNat)
  case atStart => exact ⟨N, 1, B, rfl, rfl, rfl, HN.out, by decide, by decide, by rw [HT.out, Nat.one_mul]⟩
  case round =>
    obtain ⟨n, p, s, rfl, rfl, rfl, hn, hp, hs, hv⟩ := hrel
    by_cases h0 : n = 0
    · have b3 : decide ((0 : Int) < (n : Int)) = false := decide_eq_false (by omega)
      have b3n : decide (0 < n) = false := decide_eq_false (by omega)
      have HR := Lib.hid (show p = v by rw [← hv, h0, Nat.pow_zero, Nat.mul_one, Nat.mod_eq_of_lt hp])
      clear hv h0 hp hs
      go_wp2_with fail
      go_ret
      exact ⟨ret_int (by rw [HR.out]), rfl⟩
    · have b3 : decide ((0 : Int) < (n : Int)) = true := decide_eq_true (by omega)
      have b3n : decide (0 < n) = true := decide_eq_true (by omega)
      have cs := times_any s s hs hs w
      have hs2 : s * s % P < P := Nat.mod_lt _ P_pos
      have u1 : ((n : Int)).tdiv 2 = ((n / 2 : Nat) : Int) := by rw [Int.tdiv_eq_ediv_of_nonneg (by omega)]; omega
      have hn2 : n / 2 ≤ 8192 := by omega
      by_cases ho : n % 2 = 1
      · have b4 : (((n : Int) % 2) == 1) = true := by rw [beq_iff_eq]; omega
        have b4t : (((n : Int).tmod 2) == 1) = true := by rw [beq_iff_eq, Int.tmod_eq_emod_of_nonneg (by omega)]; omega
        have b4n : ((n % 2) == 1) = true := by rw [beq_iff_eq]; omega
        have cp := times_any p s hp hs w
        have HP := Lib.hid (show p * s % P < P from Nat.mod_lt _ P_pos)
        have HR := Lib.hid (show p * s % P * (s * s % P) ^ (n / 2) % P = v by rw [half_odd p s n ho]; exact hv)
        have HS := Lib.hid hs2
        generalize p * s % P = p2 at *
        generalize s * s % P = s2 at *
        have HN2 := Lib.hid hn2
        have HPOS := Lib.hid h0
        clear hv hs hp hs2 ho h0
        go_wp2_with (first
          | (go_at_call 29; (with_reducible refine cp.mono ?_); rintro e w' ⟨rfl, rfl⟩)
          | (go_at_call 29; (with_reducible refine cs.mono ?_); rintro e w' ⟨rfl, rfl⟩))
        go_round
        case rel => exact ⟨n / 2, p2, s2, by go_num, rfl, rfl, HN2.out, HP.out, HS.out, HR.out⟩
        case measure => have := HPOS.out; simp [intOf]; omega
      · have b4 : (((n : Int) % 2) == 1) = false := by rw [beq_eq_false_iff_ne]; omega
        have b4t : (((n : Int).tmod 2) == 1) = false := by rw [beq_eq_false_iff_ne, Int.tmod_eq_emod_of_nonneg (by omega)]; omega
        have b4n : ((n % 2) == 1) = false := by rw [beq_eq_false_iff_ne]; omega
        have HP := Lib.hid hp
        have HR := Lib.hid (show p * (s * s % P) ^ (n / 2) % P = v by rw [half_even p s n (by omega) hp]; exact hv)
        have HS := Lib.hid hs2
        generalize s * s % P = s2 at *
        have HN2 := Lib.hid hn2
        have HPOS := Lib.hid h0
        clear hv hs hp hs2 ho h0
        go_wp2_with (go_at_call 29; (with_reducible refine cs.mono ?_); rintro e w' ⟨rfl, rfl⟩)
        go_round
        case rel => exact ⟨n / 2, p, s2, by go_num, rfl, rfl, HN2.out, HP.out, HS.out, HR.out⟩
        case measure => have := HPOS.out; simp [intOf]; omega
end Rl
end Go.Proofs.Ythdokajpiflcoaa
