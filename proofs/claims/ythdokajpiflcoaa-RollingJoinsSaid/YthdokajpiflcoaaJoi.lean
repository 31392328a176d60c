/- Join and Roll. No condition but the words' lengths. -/
import Derived.Test.YthdokajpiflcoaaPow
namespace Go.Proofs.Ythdokajpiflcoaa
open Go.RowKit
namespace Rl
/-- What Join returns. -/
def joinI (a b n : Int) : Nat := if isR a = true ∧ isR b = true ∧ 0 ≤ n ∧ n ≤ 8192 then (a.toNat * pw n.toNat % P + b.toNat) % P else 0
def joinE (a b n : Int) : Int := if isR a = true ∧ isR b = true ∧ 0 ≤ n ∧ n ≤ 8192 then 0 else 3
set_option maxHeartbeats 4000000 in
set_option maxRecDepth 100000 in
theorem join_any (a b n : Int) (w : World) :
    Calls Try.prog 22 #[.int .i64 a, .int .i64 b, .int .i64 n] w fun e w' => e = .returned (.tuple #[.int .i64 (joinI a b n : Int), .int .i64 (joinE a b n)]) ∧ w = w' := by
  have HV := Lib.hid (show joinI a b n = if isR a = true ∧ isR b = true ∧ 0 ≤ n ∧ n ≤ 8192 then (a.toNat * pw n.toNat % P + b.toNat) % P else 0 from rfl)
  have HE := Lib.hid (show joinE a b n = if isR a = true ∧ isR b = true ∧ 0 ≤ n ∧ n ≤ 8192 then 0 else 3 from rfl)
  generalize joinI a b n = v at *
  generalize joinE a b n = ev at *
  have c1 := res_any a w
  have c2 := res_any b w
  by_cases h : isR a = true ∧ isR b = true ∧ 0 ≤ n ∧ n ≤ 8192
  · obtain ⟨h1, h2, h3, h4⟩ := id h
    have HV2 := Lib.hid (HV.out.trans (if_pos h))
    have HE2 := Lib.hid (HE.out.trans (if_pos h))
    rw [h1] at c1
    rw [h2] at c2
    obtain ⟨x, rfl, hx⟩ := isR_of h1
    obtain ⟨y, rfl, hy⟩ := isR_of h2
    obtain ⟨m, rfl⟩ : ∃ m : Nat, n = m := ⟨n.toNat, by omega⟩
    have c3 := power_any (m : Int) w
    rw [pwI_nat (by omega)] at c3
    have c4 := mul_any x (pw m) hx (pw_lt m) w
    have HV3 := Lib.hid (show v = (x * pw m % P + y) % P from HV2.out)
    have hm : x * pw m % P < P := Nat.mod_lt _ P_pos
    generalize x * pw m % P = z at *
    have b1 : decide ((m : Int) < 0) = false := decide_eq_false (by omega)
    have b2 : decide ((8192 : Int) < (m : Int)) = false := decide_eq_false (by omega)
    have b2n : decide (8192 < m) = false := decide_eq_false (by omega)
    have HW := Lib.hid (show ((z : Int) + (y : Int)).tmod 2305843009213693951 = (v : Int) by rw [HV3.out, ← tmod_nat]; congr 1)
    simp only [P_val] at hm hy
    have t1 : IntKind.i64.wrap ((z : Int) + (y : Int)) = (z : Int) + (y : Int) := by rw [IntKind.wrap_i64]; omega
    clear HV HE HV2 h h1 h2 h3 h4 hx HV3
    go_enter Try.func22, Try.ntmps22
    go_wp2_with (first
      | (go_at_call 30; (with_reducible refine c1.mono ?_); rintro e w' ⟨rfl, rfl⟩)
      | (go_at_call 30; (with_reducible refine c2.mono ?_); rintro e w' ⟨rfl, rfl⟩)
      | (go_at_call 14; (with_reducible refine c3.mono ?_); rintro e w' ⟨rfl, rfl⟩)
      | (go_at_call 12; (with_reducible refine c4.mono ?_); rintro e w' ⟨rfl, rfl⟩))
    go_ret2
    rw [HE2.out, ← HW.out, Int.tmod_eq_emod_of_nonneg (by omega)]
    exact ⟨rfl, rfl⟩
  · have HV2 := Lib.hid (HV.out.trans (if_neg h))
    have HE2 := Lib.hid (HE.out.trans (if_neg h))
    clear HV HE
    generalize isR a = p at *
    generalize isR b = q at *
    rw [HV2.out, HE2.out]
    clear HV2 HE2
    by_cases h3 : n < 0
    · have b1 : decide (n < 0) = true := decide_eq_true h3
      clear h h3
      cases p <;> cases q
      all_goals
        go_enter Try.func22, Try.ntmps22
        go_wp2_with (first
          | (go_at_call 30; (with_reducible refine c1.mono ?_); rintro e w' ⟨rfl, rfl⟩)
          | (go_at_call 30; (with_reducible refine c2.mono ?_); rintro e w' ⟨rfl, rfl⟩))
        go_ret2
        exact ⟨rfl, rfl⟩
    · have b1 : decide (n < 0) = false := decide_eq_false h3
      by_cases h4 : 8192 < n
      · have b2 : decide (8192 < n) = true := decide_eq_true h4
        clear h h3 h4
        cases p <;> cases q
        all_goals
          go_enter Try.func22, Try.ntmps22
          go_wp2_with (first
            | (go_at_call 30; (with_reducible refine c1.mono ?_); rintro e w' ⟨rfl, rfl⟩)
            | (go_at_call 30; (with_reducible refine c2.mono ?_); rintro e w' ⟨rfl, rfl⟩))
          go_ret2
          exact ⟨rfl, rfl⟩
      · have b2 : decide (8192 < n) = false := decide_eq_false h4
        have hpq : ¬ (p = true ∧ q = true) := fun e => h ⟨e.1, e.2, by omega, by omega⟩
        clear h h3 h4
        cases p <;> cases q
        case true.true => exact absurd ⟨rfl, rfl⟩ hpq
        all_goals
          clear hpq
          go_enter Try.func22, Try.ntmps22
          go_wp2_with (first
            | (go_at_call 30; (with_reducible refine c1.mono ?_); rintro e w' ⟨rfl, rfl⟩)
            | (go_at_call 30; (with_reducible refine c2.mono ?_); rintro e w' ⟨rfl, rfl⟩))
          go_ret2
          exact ⟨rfl, rfl⟩
end Rl
end Go.Proofs.Ythdokajpiflcoaa
