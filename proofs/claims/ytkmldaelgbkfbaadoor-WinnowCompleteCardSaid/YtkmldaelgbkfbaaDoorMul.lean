/- Residues, products of two of them, and a further byte or word. No condition. -/
import Derived.Test.YtkmldaelgbkfbaaDoorRpl
import Derived.Test.YtkmldaelgbkfbaaDoorShelf
import Derived.Test.YtkmldaelgbkfbaaDoorRows
import Derived.WalkKit
import Derived.WalkSpells
import Derived.WalkLawsBesides
import Derived.Lib.Hide
import Derived.Deep.DeepCutAuto
import Derived.Deep.LoopGhost
import Derived.Laws.Bits64b
namespace Go.Proofs.YtkmldaelgbkfbaaDoor
open Go.RowKit
namespace Rl
/-- Whether a number is a residue. -/
def isR (n : Int) : Bool := decide (0 ≤ n ∧ n < 2305843009213693951)
theorem isR_nat (a : Nat) : isR (a : Int) = decide (a < P) := by unfold isR; simp only [P_val]; congr 1; apply propext; omega
theorem isR_of {n : Int} (h : isR n = true) : ∃ a : Nat, n = a ∧ a < P := by
  unfold isR at h
  have := of_decide_eq_true h
  exact ⟨n.toNat, by omega, by simp only [P_val]; omega⟩
theorem ret_bool {a b : Bool} (h : a = b) : Ending.returned (.bool a) = .returned (.bool b) := by rw [h]
theorem ret_int {k : IntKind} {a b : Int} (h : a = b) : Ending.returned (.int k a) = .returned (.int k b) := by rw [h]
set_option maxHeartbeats 1000000 in
set_option maxRecDepth 100000 in
theorem res_any (n : Int) (w : World) :
    Calls Tryd.prog 43 #[.int .i64 n] w fun e w' => e = .returned (.bool (isR n)) ∧ w = w' := by
  have HV := Lib.hid (show isR n = decide (0 ≤ n ∧ n < 2305843009213693951) from rfl)
  generalize isR n = v at *
  by_cases h1 : 0 ≤ n
  · have b1 : decide ((0 : Int) ≤ n) = true := decide_eq_true h1
    by_cases h2 : n < 2305843009213693951
    · have b2 : decide (n < 2305843009213693951) = true := decide_eq_true h2
      have HT := Lib.hid (show v = true by rw [HV.out]; exact decide_eq_true ⟨h1, h2⟩)
      clear HV h1 h2
      go_enter Tryd.func43, Tryd.ntmps43
      go_wp2
      go_ret
      exact ⟨ret_bool (by rw [HT.out]), rfl⟩
    · have b2 : decide (n < 2305843009213693951) = false := decide_eq_false h2
      have HT := Lib.hid (show v = false by rw [HV.out]; exact decide_eq_false fun h => h2 h.2)
      clear HV h1 h2
      go_enter Tryd.func43, Tryd.ntmps43
      go_wp2
      go_ret
      exact ⟨ret_bool (by rw [HT.out]), rfl⟩
  · have b1 : decide ((0 : Int) ≤ n) = false := decide_eq_false h1
    have HT := Lib.hid (show v = false by rw [HV.out]; exact decide_eq_false fun h => h1 h.1)
    clear HV h1
    go_enter Tryd.func43, Tryd.ntmps43
    go_wp2
    go_ret
    exact ⟨ret_bool (by rw [HT.out]), rfl⟩
theorem res_t (a : Nat) (ha : a < P) (w : World) :
    Calls Tryd.prog 43 #[.int .i64 (a : Int)] w fun e w' => e = .returned (.bool true) ∧ w = w' := by
  have := res_any a w
  rwa [isR_nat, decide_eq_true ha] at this
/-- The sum of the upper and lower bits, in the words of the walk. -/
theorem fold61 (x : Nat) (h : x < P * P) :
    (wrap64 (IntKind.u64.wrap (bits .or .u64 (IntKind.u64.wrap ((x : Int) / 18446744073709551616 * 8)) ((x : Int) % 18446744073709551616 / 2305843009213693952) + bits .and .u64 ((x : Int) % 18446744073709551616) 2305843009213693951))).tmod 2305843009213693951 = ((x % P : Nat) : Int) := by
  have k1 : (x : Int) / 18446744073709551616 = ((x / 18446744073709551616 : Nat) : Int) := by omega
  have k2 : (x : Int) % 18446744073709551616 = ((x % 18446744073709551616 : Nat) : Int) := by omega
  rw [k1, k2]
  obtain ⟨h1, h2, h3, h4⟩ := high_low h
  have e1 : IntKind.u64.wrap (((x / 18446744073709551616 : Nat) : Int) * 8) = ((x / 18446744073709551616 * 8 : Nat) : Int) := by rw [IntKind.wrap_u64]; omega
  have e2 : ((x % 18446744073709551616 : Nat) : Int) / 2305843009213693952 = ((x % 18446744073709551616 / 2305843009213693952 : Nat) : Int) := by omega
  have e3 : bits .and .u64 ((x % 18446744073709551616 : Nat) : Int) 2305843009213693951 = ((x % 2305843009213693952 : Nat) : Int) := by
    have h := bits_and_u64_nat (x % 18446744073709551616) 2305843009213693951 (Nat.mod_lt _ (by decide)) (by decide)
    have e : (x % 18446744073709551616) &&& 2305843009213693951 = x % 18446744073709551616 % 2305843009213693952 := Nat.and_two_pow_sub_one_eq_mod _ 61
    rw [e, h2] at h
    exact h
  have e4 : bits .or .u64 ((x / 18446744073709551616 * 8 : Nat) : Int) ((x % 18446744073709551616 / 2305843009213693952 : Nat) : Int) = ((x / 2305843009213693952 : Nat) : Int) := by
    have h := bits_or_u64_nat (x / 18446744073709551616 * 8) (x % 18446744073709551616 / 2305843009213693952) (by omega) (by omega)
    rw [h]
    have hlt : x % 18446744073709551616 / 2305843009213693952 < 2 ^ 3 := by omega
    have e : x / 18446744073709551616 * 8 ||| (x % 18446744073709551616 / 2305843009213693952) = x / 18446744073709551616 * 8 + x % 18446744073709551616 / 2305843009213693952 := by
      have := Nat.two_pow_add_eq_or_of_lt hlt (x / 18446744073709551616)
      rw [Nat.mul_comm] at this
      exact this.symm
    rw [e]
    congr 1
    rw [← h1]; omega
  rw [e1, e2, e3, e4]
  have e5 : wrap64 (IntKind.u64.wrap (((x / 2305843009213693952 : Nat) : Int) + ((x % 2305843009213693952 : Nat) : Int))) = ((x / 2305843009213693952 + x % 2305843009213693952 : Nat) : Int) := by
    rw [IntKind.wrap_u64]
    unfold wrap64
    omega
  rw [e5, Int.tmod_eq_emod_of_nonneg (by omega)]
  have := split61 x
  rw [← this]
  simp only [P_val]
  omega
set_option maxHeartbeats 2000000 in
set_option maxRecDepth 100000 in
theorem mul_any (a b : Nat) (ha : a < P) (hb : b < P) (w : World) :
    Calls Tryd.prog 42 #[.int .i64 (a : Int), .int .i64 (b : Int)] w fun e w' => e = .returned (.int .i64 ((a * b % P : Nat) : Int)) ∧ w = w' := by
  have c1 := res_t a ha w
  have c2 := res_t b hb w
  have hx := mul_lt ha hb
  simp only [P_val] at ha hb
  have c3 := Tryd.bits_Mul64 a b (by omega) (by omega) w
  have HF := Lib.hid (fold61 (a * b) hx)
  generalize a * b = x at *
  have u1 : IntKind.u64.wrap (a : Int) = (a : Int) := by rw [IntKind.wrap_u64]; omega
  have u2 : IntKind.u64.wrap (b : Int) = (b : Int) := by rw [IntKind.wrap_u64]; omega
  clear hx ha hb
  go_enter Tryd.func42, Tryd.ntmps42
  go_wp2_with (first
    | (go_at_call 43; (with_reducible refine c1.mono ?_); rintro e w' ⟨rfl, rfl⟩)
    | (go_at_call 43; (with_reducible refine c2.mono ?_); rintro e w' ⟨rfl, rfl⟩)
    | (go_at_call 53; (with_reducible refine c3.mono ?_); rintro e w' ⟨rfl, rfl⟩))
  go_ret
  exact ⟨ret_int (by rw [HF.out]), rfl⟩
theorem tmod_nat (n : Nat) : ((n : Int)).tmod 2305843009213693951 = ((n % P : Nat) : Int) := by
  rw [Int.tmod_eq_emod_of_nonneg (by omega)]
  simp only [P_val]
  omega
set_option maxHeartbeats 2000000 in
set_option maxRecDepth 100000 in
theorem extend_any (a f x : Nat) (ha : a < P) (hf : f < P) (hx : x < P) (w : World) :
    Calls Tryd.prog 29 #[.int .i64 (a : Int), .int .i64 (f : Int), .int .i64 (x : Int)] w fun e w' => e = .returned (.int .i64 (((a * f + x + 1) % P : Nat) : Int)) ∧ w = w' := by
  have c1 := mul_any a f ha hf w
  have hm : a * f % P < P := Nat.mod_lt _ P_pos
  have HV := Lib.hid (show (a * f + x + 1) % P = (a * f % P + x + 1) % P by rw [Nat.add_assoc, Nat.add_assoc, mp])
  generalize a * f % P = m at *
  generalize (a * f + x + 1) % P = v at *
  simp only [P_val] at hm hx
  have t1 : IntKind.i64.wrap ((m : Int) + (x : Int)) = (m : Int) + (x : Int) := by rw [IntKind.wrap_i64]; omega
  have t2 : IntKind.i64.wrap ((m : Int) + (x : Int) + 1) = (m : Int) + (x : Int) + 1 := by rw [IntKind.wrap_i64]; omega
  have HW := Lib.hid (show ((m : Int) + (x : Int) + 1).tmod 2305843009213693951 = (v : Int) by
    rw [HV.out, ← tmod_nat]; congr 1)
  clear HV ha hf
  go_enter Tryd.func29, Tryd.ntmps29
  go_wp2_with (go_at_call 42; (with_reducible refine c1.mono ?_); rintro e w' ⟨rfl, rfl⟩)
  go_ret
  exact ⟨ret_int (by rw [← HW.out, Int.tmod_eq_emod_of_nonneg (by omega)]), rfl⟩
theorem extend_257 (a x : Nat) (ha : a < P) (hx : x < P) (w : World) :
    Calls Tryd.prog 29 #[.int .i64 (a : Int), .int .i64 257, .int .i64 (x : Int)] w fun e w' => e = .returned (.int .i64 (((a * 257 + x + 1) % P : Nat) : Int)) ∧ w = w' := extend_any a 257 x ha (by decide) hx w
theorem extend_B (a x : Nat) (ha : a < P) (hx : x < P) (w : World) :
    Calls Tryd.prog 29 #[.int .i64 (a : Int), .int .i64 1000003, .int .i64 (x : Int)] w fun e w' => e = .returned (.int .i64 (((a * B + x + 1) % P : Nat) : Int)) ∧ w = w' := extend_any a 1000003 x ha (by decide) hx w
end Rl
end Go.Proofs.YtkmldaelgbkfbaaDoor
