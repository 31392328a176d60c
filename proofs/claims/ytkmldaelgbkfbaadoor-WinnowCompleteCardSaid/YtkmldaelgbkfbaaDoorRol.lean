/- Join of the reference; Roll of the program and of the reference. No condition but the words' lengths. -/
import Derived.Test.YtkmldaelgbkfbaaDoorRf2
namespace Go.Proofs.YtkmldaelgbkfbaaDoor
open Go.RowKit Go.Deep
namespace Rl
/-- What Roll returns. -/
def okR (h k : Int) : Prop := isR h = true ∧ 1 ≤ k ∧ k ≤ 8192
instance (h k : Int) : Decidable (okR h k) := by unfold okR; infer_instance
def rollI (h : Int) (o i : List UInt8) (k : Int) : Nat := if okR h k then roll h.toNat o i k.toNat else 0
def rollE (h k : Int) : Int := if okR h k then 0 else 3
theorem roll_def (h : Nat) (o i : List UInt8) (k : Nat) : roll h o i k = ((h + (P - (code o + 1) % P * pw (k - 1) % P)) % P * B + code i + 1) % P := by
  have h2 : (code o + 1) % P * pw (k - 1) % P < P := Nat.mod_lt _ P_pos
  show ((h + P - (code o + 1) % P * pw (k - 1) % P) % P * B + code i + 1) % P = _
  generalize (code o + 1) % P * pw (k - 1) % P = f at *
  rw [show h + P - f = h + (P - f) by omega]
set_option maxHeartbeats 4000000 in
set_option maxRecDepth 100000 in
theorem roll_any (hs : Int) (so si : ByteArray) (k : Int) (w : World) (ho : so.size ≤ 1000000000) (hi : si.size ≤ 1000000000) :
    Calls Tryd.prog 33 #[.int .i64 hs, .string so, .string si, .int .i64 k] w fun e w' => e = .returned (.tuple #[.int .i64 (rollI hs so.data.toList si.data.toList k : Int), .int .i64 (rollE hs k)]) ∧ w = w' := by
  have HV := Lib.hid (show rollI hs so.data.toList si.data.toList k = if okR hs k then roll hs.toNat so.data.toList si.data.toList k.toNat else 0 from rfl)
  have HE := Lib.hid (show rollE hs k = if okR hs k then 0 else 3 from rfl)
  generalize rollI hs so.data.toList si.data.toList k = v at *
  generalize rollE hs k = ev at *
  have c1 := res_any hs w
  by_cases h : okR hs k
  · obtain ⟨h1, h3, h4⟩ := id h
    have HV2 := Lib.hid (HV.out.trans (if_pos h))
    have HE2 := Lib.hid (HE.out.trans (if_pos h))
    rw [h1] at c1
    obtain ⟨x, rfl, hx⟩ := isR_of h1
    obtain ⟨m, rfl⟩ : ∃ m : Nat, k = m := ⟨k.toNat, by omega⟩
    have b1 : decide ((m : Int) < 1) = false := decide_eq_false (by omega)
    have b2 : decide ((8192 : Int) < (m : Int)) = false := decide_eq_false (by omega)
    have b2n : decide (8192 < m) = false := decide_eq_false (by omega)
    have b1n : decide (m < 1) = false := decide_eq_false (by omega)
    have e1 : (m : Int) - 1 = ((m - 1 : Nat) : Int) := by omega
    have e2 : IntKind.i64.wrap ((m : Int) - 1) = (m : Int) - 1 := by rw [IntKind.wrap_i64]; omega
    have hc := code_lt so.data.toList
    have hp := pw_lt (m - 1)
    have HV3 := Lib.hid (show v = ((x + (P - (code so.data.toList + 1) % P * pw (m - 1) % P)) % P * B + code si.data.toList + 1) % P by rw [HV2.out]; exact roll_def _ _ _ _)
    clear HV HE HV2 h h1
    have c2 := code_any so w ho
    have c3 := power_any ((m - 1 : Nat) : Int) w
    rw [pwI_nat (by omega), ← e1] at c3
    have c4 := mul_any ((code so.data.toList + 1) % P) (pw (m - 1)) (Nat.mod_lt _ P_pos) hp w
    generalize pw (m - 1) = q at *
    generalize code so.data.toList = c at *
    have HC := Lib.hid (show ((c : Int) + 1).tmod 2305843009213693951 = (((c + 1) % P : Nat) : Int) by rw [← tmod_nat]; congr 1)
    have hf : (c + 1) % P * q % P < P := Nat.mod_lt _ P_pos
    generalize (c + 1) % P * q % P = f at *
    have c5 := code_any si w hi
    have hci := code_lt si.data.toList
    have c6 := extend_B ((x + (P - f)) % P) (code si.data.toList) (Nat.mod_lt _ P_pos) hci w
    rw [← HV3.out] at c6
    generalize code si.data.toList = ci at *
    have HF := Lib.hid (show ((x : Int) - (f : Int) + 2305843009213693951).tmod 2305843009213693951 = (((x + (P - f)) % P : Nat) : Int) by
      rw [← tmod_nat]; congr 1; simp only [P_val] at hf ⊢; omega)
    simp only [P_val] at hc hf hx
    have t0 : IntKind.i64.wrap ((c : Int) + 1) = (c : Int) + 1 := by rw [IntKind.wrap_i64]; omega
    have t1 : IntKind.i64.wrap ((x : Int) - (f : Int)) = (x : Int) - (f : Int) := by rw [IntKind.wrap_i64]; omega
    have t2 : IntKind.i64.wrap ((x : Int) - (f : Int) + 2305843009213693951) = (x : Int) - (f : Int) + 2305843009213693951 := by rw [IntKind.wrap_i64]; omega
    have g1 := HC.out
    have g2 := HF.out
    rw [Int.tmod_eq_emod_of_nonneg (by omega)] at g1
    rw [← g1] at c4
    rw [← g2] at c6
    clear HC HF g1 g2 h3 h4 hc hf hx hp hci HV3 ho hi e1
    go_enter Tryd.func33, Tryd.ntmps33
    go_wp2_with (first
      | (go_at_call 43; (with_reducible refine c1.mono ?_); rintro e w' ⟨rfl, rfl⟩)
      | (go_at_call 30; (with_reducible refine c2.mono ?_); rintro e w' ⟨rfl, rfl⟩)
      | (go_at_call 30; (with_reducible refine c5.mono ?_); rintro e w' ⟨rfl, rfl⟩)
      | (go_at_call 44; (with_reducible refine c3.mono ?_); rintro e w' ⟨rfl, rfl⟩)
      | (go_at_call 42; (with_reducible refine c4.mono ?_); rintro e w' ⟨rfl, rfl⟩)
      | (go_at_call 29; (with_reducible refine c6.mono ?_); rintro e w' ⟨rfl, rfl⟩))
    go_ret2
    rw [HE2.out]
    exact ⟨rfl, rfl⟩
  · have HV2 := Lib.hid (HV.out.trans (if_neg h))
    have HE2 := Lib.hid (HE.out.trans (if_neg h))
    clear HV HE
    unfold okR at h
    generalize isR hs = p at *
    rw [HV2.out, HE2.out]
    clear HV2 HE2
    by_cases h3 : k < 1
    · have b1 : decide (k < 1) = true := decide_eq_true h3
      clear h h3
      cases p
      all_goals
        go_enter Tryd.func33, Tryd.ntmps33
        go_wp2_with (go_at_call 43; (with_reducible refine c1.mono ?_); rintro e w' ⟨rfl, rfl⟩)
        go_ret2
        exact ⟨rfl, rfl⟩
    · have b1 : decide (k < 1) = false := decide_eq_false h3
      by_cases h4 : 8192 < k
      · have b2 : decide (8192 < k) = true := decide_eq_true h4
        clear h h3 h4
        cases p
        all_goals
          go_enter Tryd.func33, Tryd.ntmps33
          go_wp2_with (go_at_call 43; (with_reducible refine c1.mono ?_); rintro e w' ⟨rfl, rfl⟩)
          go_ret2
          exact ⟨rfl, rfl⟩
      · have b2 : decide (8192 < k) = false := decide_eq_false h4
        have hp : ¬ p = true := fun e => h ⟨e, by omega, by omega⟩
        clear h h3 h4
        cases p
        case true => exact absurd rfl hp
        clear hp
        go_enter Tryd.func33, Tryd.ntmps33
        go_wp2_with (go_at_call 43; (with_reducible refine c1.mono ?_); rintro e w' ⟨rfl, rfl⟩)
        go_ret2
        exact ⟨rfl, rfl⟩
end Rl
end Go.Proofs.YtkmldaelgbkfbaaDoor
