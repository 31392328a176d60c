/- Join of the reference; Roll of the program and of the reference. No condition but the words' lengths. -/
import Derived.Test.YthdokajpiflcoaaRf2
namespace Go.Proofs.Ythdokajpiflcoaa
open Go.RowKit Go.Deep
namespace Rl
set_option maxHeartbeats 4000000 in
set_option maxRecDepth 100000 in
theorem qjoin_any (a b n : Int) (w : World) :
    Calls Try.prog 23 #[.int .i64 a, .int .i64 b, .int .i64 n] w fun e w' => e = .returned (.tuple #[.int .i64 (joinI a b n : Int), .int .i64 (joinE a b n)]) ∧ w = w' := by
  have HV := Lib.hid (show joinI a b n = if isR a = true ∧ isR b = true ∧ 0 ≤ n ∧ n ≤ 8192 then (a.toNat * pw n.toNat % P + b.toNat) % P else 0 from rfl)
  have HE := Lib.hid (show joinE a b n = if isR a = true ∧ isR b = true ∧ 0 ≤ n ∧ n ≤ 8192 then 0 else 3 from rfl)
  generalize joinI a b n = v at *
  generalize joinE a b n = ev at *
  have c1 := qres_any a w
  have c2 := qres_any b w
  by_cases h : isR a = true ∧ isR b = true ∧ 0 ≤ n ∧ n ≤ 8192
  · obtain ⟨h1, h2, h3, h4⟩ := id h
    have HV2 := Lib.hid (HV.out.trans (if_pos h))
    have HE2 := Lib.hid (HE.out.trans (if_pos h))
    rw [h1] at c1
    rw [h2] at c2
    obtain ⟨x, rfl, hx⟩ := isR_of h1
    obtain ⟨y, rfl, hy⟩ := isR_of h2
    obtain ⟨m, rfl⟩ : ∃ m : Nat, n = m := ⟨n.toNat, by omega⟩
    have c3 := qpower_any (m : Int) w
    rw [pwI_nat (by omega)] at c3
    have c4 := times_any x (pw m) hx (pw_lt m) w
    have HV3 := Lib.hid (show v = (x * pw m % P + y) % P from HV2.out)
    have hm : x * pw m % P < P := Nat.mod_lt _ P_pos
    generalize x * pw m % P = z at *
    have b1 : decide ((m : Int) < 0) = false := decide_eq_false (by omega)
    have b2 : decide ((8192 : Int) < (m : Int)) = false := decide_eq_false (by omega)
    have b2n : decide (8192 < m) = false := decide_eq_false (by omega)
    have c5 := add_any z y (Nat.le_of_lt hm) (Nat.le_of_lt hy) w
    rw [← HV3.out] at c5
    clear HV HE HV2 h h1 h2 h3 h4 hx HV3 hy hm
    go_enter Try.func23, Try.ntmps23
    go_wp2_with (first
      | (go_at_call 26; (with_reducible refine c1.mono ?_); rintro e w' ⟨rfl, rfl⟩)
      | (go_at_call 26; (with_reducible refine c2.mono ?_); rintro e w' ⟨rfl, rfl⟩)
      | (go_at_call 15; (with_reducible refine c3.mono ?_); rintro e w' ⟨rfl, rfl⟩)
      | (go_at_call 29; (with_reducible refine c4.mono ?_); rintro e w' ⟨rfl, rfl⟩)
      | (go_at_call 28; (with_reducible refine c5.mono ?_); rintro e w' ⟨rfl, rfl⟩))
    go_ret2
    rw [HE2.out]
    exact ⟨rfl, rfl⟩
  · have HV2 := Lib.hid (HV.out.trans (if_neg h))
    have HE2 := Lib.hid (HE.out.trans (if_neg h))
    clear HV HE
    generalize isR a = p at *
    generalize isR b = q at *
    rw [HV2.out, HE2.out]
    clear HV2 HE2
    by_cases h3 : n < 0
    · have b1 : decide (n < 0) = true := decide_eq_true h3
      clear h h3
      cases p <;> cases q
      all_goals
        go_enter Try.func23, Try.ntmps23
        go_wp2_with (first
          | (go_at_call 26; (with_reducible refine c1.mono ?_); rintro e w' ⟨rfl, rfl⟩)
          | (go_at_call 26; (with_reducible refine c2.mono ?_); rintro e w' ⟨rfl, rfl⟩))
        go_ret2
        exact ⟨rfl, rfl⟩
    · have b1 : decide (n < 0) = false := decide_eq_false h3
      by_cases h4 : 8192 < n
      · have b2 : decide (8192 < n) = true := decide_eq_true h4
        clear h h3 h4
        cases p <;> cases q
        all_goals
          go_enter Try.func23, Try.ntmps23
          go_wp2_with (first
            | (go_at_call 26; (with_reducible refine c1.mono ?_); rintro e w' ⟨rfl, rfl⟩)
            | (go_at_call 26; (with_reducible refine c2.mono ?_); rintro e w' ⟨rfl, rfl⟩))
          go_ret2
          exact ⟨rfl, rfl⟩
      · have b2 : decide (8192 < n) = false := decide_eq_false h4
        have hpq : ¬ (p = true ∧ q = true) := fun e => h ⟨e.1, e.2, by omega, by omega⟩
        clear h h3 h4
        cases p <;> cases q
        case true.true => exact absurd ⟨rfl, rfl⟩ hpq
        all_goals
          clear hpq
          go_enter Try.func23, Try.ntmps23
          go_wp2_with (first
            | (go_at_call 26; (with_reducible refine c1.mono ?_); rintro e w' ⟨rfl, rfl⟩)
            | (go_at_call 26; (with_reducible refine c2.mono ?_); rintro e w' ⟨rfl, rfl⟩))
          go_ret2
          exact ⟨rfl, rfl⟩
/-- What Roll returns. -/
def okR (h k : Int) : Prop := isR h = true ∧ 1 ≤ k ∧ k ≤ 8192
instance (h k : Int) : Decidable (okR h k) := by unfold okR; infer_instance
def rollI (h : Int) (o i : List UInt8) (k : Int) : Nat := if okR h k then roll h.toNat o i k.toNat else 0
def rollE (h k : Int) : Int := if okR h k then 0 else 3
theorem roll_def (h : Nat) (o i : List UInt8) (k : Nat) : roll h o i k = ((h + (P - (code o + 1) % P * pw (k - 1) % P)) % P * B + code i + 1) % P := by
  have h2 : (code o + 1) % P * pw (k - 1) % P < P := Nat.mod_lt _ P_pos
  show ((h + P - (code o + 1) % P * pw (k - 1) % P) % P * B + code i + 1) % P = _
  generalize (code o + 1) % P * pw (k - 1) % P = f at *
  rw [show h + P - f = h + (P - f) by omega]
set_option maxHeartbeats 4000000 in
set_option maxRecDepth 100000 in
theorem roll_any (hs : Int) (so si : ByteArray) (k : Int) (w : World) (ho : so.size ≤ 1000000000) (hi : si.size ≤ 1000000000) :
    Calls Try.prog 24 #[.int .i64 hs, .string so, .string si, .int .i64 k] w fun e w' => e = .returned (.tuple #[.int .i64 (rollI hs so.data.toList si.data.toList k : Int), .int .i64 (rollE hs k)]) ∧ w = w' := by
  have HV := Lib.hid (show rollI hs so.data.toList si.data.toList k = if okR hs k then roll hs.toNat so.data.toList si.data.toList k.toNat else 0 from rfl)
  have HE := Lib.hid (show rollE hs k = if okR hs k then 0 else 3 from rfl)
  generalize rollI hs so.data.toList si.data.toList k = v at *
  generalize rollE hs k = ev at *
  have c1 := res_any hs w
  by_cases h : okR hs k
  · obtain ⟨h1, h3, h4⟩ := id h
    have HV2 := Lib.hid (HV.out.trans (if_pos h))
    have HE2 := Lib.hid (HE.out.trans (if_pos h))
    rw [h1] at c1
    obtain ⟨x, rfl, hx⟩ := isR_of h1
    obtain ⟨m, rfl⟩ : ∃ m : Nat, k = m := ⟨k.toNat, by omega⟩
    have b1 : decide ((m : Int) < 1) = false := decide_eq_false (by omega)
    have b2 : decide ((8192 : Int) < (m : Int)) = false := decide_eq_false (by omega)
    have b2n : decide (8192 < m) = false := decide_eq_false (by omega)
    have b1n : decide (m < 1) = false := decide_eq_false (by omega)
    have e1 : (m : Int) - 1 = ((m - 1 : Nat) : Int) := by omega
    have e2 : IntKind.i64.wrap ((m : Int) - 1) = (m : Int) - 1 := by rw [IntKind.wrap_i64]; omega
    have hc := code_lt so.data.toList
    have hp := pw_lt (m - 1)
    have HV3 := Lib.hid (show v = ((x + (P - (code so.data.toList + 1) % P * pw (m - 1) % P)) % P * B + code si.data.toList + 1) % P by rw [HV2.out]; exact roll_def _ _ _ _)
    clear HV HE HV2 h h1
    have c2 := code_any so w ho
    have c3 := power_any ((m - 1 : Nat) : Int) w
    rw [pwI_nat (by omega), ← e1] at c3
    have c4 := mul_any ((code so.data.toList + 1) % P) (pw (m - 1)) (Nat.mod_lt _ P_pos) hp w
    generalize pw (m - 1) = q at *
    generalize code so.data.toList = c at *
    have HC := Lib.hid (show ((c : Int) + 1).tmod 2305843009213693951 = (((c + 1) % P : Nat) : Int) by rw [← tmod_nat]; congr 1)
    have hf : (c + 1) % P * q % P < P := Nat.mod_lt _ P_pos
    generalize (c + 1) % P * q % P = f at *
    have c5 := code_any si w hi
    have hci := code_lt si.data.toList
    have c6 := extend_B ((x + (P - f)) % P) (code si.data.toList) (Nat.mod_lt _ P_pos) hci w
    rw [← HV3.out] at c6
    generalize code si.data.toList = ci at *
    have HF := Lib.hid (show ((x : Int) - (f : Int) + 2305843009213693951).tmod 2305843009213693951 = (((x + (P - f)) % P : Nat) : Int) by
      rw [← tmod_nat]; congr 1; simp only [P_val] at hf ⊢; omega)
    simp only [P_val] at hc hf hx
    have t0 : IntKind.i64.wrap ((c : Int) + 1) = (c : Int) + 1 := by rw [IntKind.wrap_i64]; omega
    have t1 : IntKind.i64.wrap ((x : Int) - (f : Int)) = (x : Int) - (f : Int) := by rw [IntKind.wrap_i64]; omega
    have t2 : IntKind.i64.wrap ((x : Int) - (f : Int) + 2305843009213693951) = (x : Int) - (f : Int) + 2305843009213693951 := by rw [IntKind.wrap_i64]; omega
    have g1 := HC.out
    have g2 := HF.out
    rw [Int.tmod_eq_emod_of_nonneg (by omega)] at g1
    rw [← g1] at c4
    rw [← g2] at c6
    clear HC HF g1 g2 h3 h4 hc hf hx hp hci HV3 ho hi e1
    go_enter Try.func24, Try.ntmps24
    go_wp2_with (first
      | (go_at_call 30; (with_reducible refine c1.mono ?_); rintro e w' ⟨rfl, rfl⟩)
      | (go_at_call 10; (with_reducible refine c2.mono ?_); rintro e w' ⟨rfl, rfl⟩)
      | (go_at_call 10; (with_reducible refine c5.mono ?_); rintro e w' ⟨rfl, rfl⟩)
      | (go_at_call 14; (with_reducible refine c3.mono ?_); rintro e w' ⟨rfl, rfl⟩)
      | (go_at_call 12; (with_reducible refine c4.mono ?_); rintro e w' ⟨rfl, rfl⟩)
      | (go_at_call 27; (with_reducible refine c6.mono ?_); rintro e w' ⟨rfl, rfl⟩))
    go_ret2
    rw [HE2.out]
    exact ⟨rfl, rfl⟩
  · have HV2 := Lib.hid (HV.out.trans (if_neg h))
    have HE2 := Lib.hid (HE.out.trans (if_neg h))
    clear HV HE
    unfold okR at h
    generalize isR hs = p at *
    rw [HV2.out, HE2.out]
    clear HV2 HE2
    by_cases h3 : k < 1
    · have b1 : decide (k < 1) = true := decide_eq_true h3
      clear h h3
      cases p
      all_goals
        go_enter Try.func24, Try.ntmps24
        go_wp2_with (go_at_call 30; (with_reducible refine c1.mono ?_); rintro e w' ⟨rfl, rfl⟩)
        go_ret2
        exact ⟨rfl, rfl⟩
    · have b1 : decide (k < 1) = false := decide_eq_false h3
      by_cases h4 : 8192 < k
      · have b2 : decide (8192 < k) = true := decide_eq_true h4
        clear h h3 h4
        cases p
        all_goals
          go_enter Try.func24, Try.ntmps24
          go_wp2_with (go_at_call 30; (with_reducible refine c1.mono ?_); rintro e w' ⟨rfl, rfl⟩)
          go_ret2
          exact ⟨rfl, rfl⟩
      · have b2 : decide (8192 < k) = false := decide_eq_false h4
        have hp : ¬ p = true := fun e => h ⟨e, by omega, by omega⟩
        clear h h3 h4
        cases p
        case true => exact absurd rfl hp
        clear hp
        go_enter Try.func24, Try.ntmps24
        go_wp2_with (go_at_call 30; (with_reducible refine c1.mono ?_); rintro e w' ⟨rfl, rfl⟩)
        go_ret2
        exact ⟨rfl, rfl⟩
set_option maxHeartbeats 4000000 in
set_option maxRecDepth 100000 in
theorem qroll_any (hs : Int) (so si : ByteArray) (k : Int) (w : World) (ho : so.size ≤ 1000000000) (hi : si.size ≤ 1000000000) :
    Calls Try.prog 25 #[.int .i64 hs, .string so, .string si, .int .i64 k] w fun e w' => e = .returned (.tuple #[.int .i64 (rollI hs so.data.toList si.data.toList k : Int), .int .i64 (rollE hs k)]) ∧ Below w.heap.size w w' := by
  have HV := Lib.hid (show rollI hs so.data.toList si.data.toList k = if okR hs k then roll hs.toNat so.data.toList si.data.toList k.toNat else 0 from rfl)
  have HE := Lib.hid (show rollE hs k = if okR hs k then 0 else 3 from rfl)
  generalize rollI hs so.data.toList si.data.toList k = v at *
  generalize rollE hs k = ev at *
  have c1 := qres_any hs w
  by_cases h : okR hs k
  · obtain ⟨h1, h3, h4⟩ := id h
    have HV2 := Lib.hid (HV.out.trans (if_pos h))
    have HE2 := Lib.hid (HE.out.trans (if_pos h))
    rw [h1] at c1
    obtain ⟨x, rfl, hx⟩ := isR_of h1
    obtain ⟨m, rfl⟩ : ∃ m : Nat, k = m := ⟨k.toNat, by omega⟩
    have b1 : decide ((m : Int) < 1) = false := decide_eq_false (by omega)
    have b2 : decide ((8192 : Int) < (m : Int)) = false := decide_eq_false (by omega)
    have b2n : decide (8192 < m) = false := decide_eq_false (by omega)
    have b1n : decide (m < 1) = false := decide_eq_false (by omega)
    have e1 : (m : Int) - 1 = ((m - 1 : Nat) : Int) := by omega
    have e2 : IntKind.i64.wrap ((m : Int) - 1) = (m : Int) - 1 := by rw [IntKind.wrap_i64]; omega
    have hc := code_lt so.data.toList
    have hp := pw_lt (m - 1)
    have HV3 := Lib.hid (show v = ((x + (P - (code so.data.toList + 1) % P * pw (m - 1) % P)) % P * B + code si.data.toList + 1) % P by rw [HV2.out]; exact roll_def _ _ _ _)
    clear HV HE HV2 h h1
    have c2 := qcode_any so w ho
    have c25 := fun w => add_1 (code so.data.toList) (Nat.le_of_lt hc) w
    have c3 := fun w => qpower_any ((m - 1 : Nat) : Int) w
    rw [pwI_nat (by omega), ← e1] at c3
    have c4 := fun w => times_any ((code so.data.toList + 1) % P) (pw (m - 1)) (Nat.mod_lt _ P_pos) hp w
    generalize pw (m - 1) = q at *
    generalize code so.data.toList = c at *
    generalize (c + 1) % P = c1x at *
    have hf : c1x * q % P < P := Nat.mod_lt _ P_pos
    generalize c1x * q % P = f at *
    have c5 := fun w => add_any x (P - f) (Nat.le_of_lt hx) (Nat.sub_le _ _) w
    rw [show ((P - f : Nat) : Int) = 2305843009213693951 - (f : Int) by simp only [P_val] at hf ⊢; omega] at c5
    have hg : (x + (P - f)) % P < P := Nat.mod_lt _ P_pos
    have HV4 := Lib.hid (show v = hashF ((x + (P - f)) % P) si.data.toList from HV3.out)
    generalize (x + (P - f)) % P = g at *
    have c6 := fun w => next_any g si w hg hi
    rw [← HV4.out] at c6
    simp only [P_val] at hf
    have t2 : IntKind.i64.wrap (2305843009213693951 - (f : Int)) = 2305843009213693951 - (f : Int) := by rw [IntKind.wrap_i64]; omega
    clear h3 h4 hc hf hx hp hg HV3 HV4 ho hi e1
    go_enter Try.func25, Try.ntmps25
    go_wp2_with (go_at_call 26; (with_reducible refine c1.mono ?_); rintro e w' ⟨rfl, rfl⟩)
    (with_reducible refine c2.mono ?_); rintro e w2 ⟨rfl, hb⟩
    have c25 := c25 w2
    have c3 := c3 w2
    have c4 := c4 w2
    have c5 := c5 w2
    have c6 := c6 w2
    have HB := Lib.hid hb
    clear hb
    go_wp2_with (first
      | (go_at_call 28; (with_reducible refine c25.mono ?_); rintro e w' ⟨rfl, rfl⟩)
      | (go_at_call 15; (with_reducible refine c3.mono ?_); rintro e w' ⟨rfl, rfl⟩)
      | (go_at_call 29; (with_reducible refine c4.mono ?_); rintro e w' ⟨rfl, rfl⟩)
      | (go_at_call 28; (with_reducible refine c5.mono ?_); rintro e w' ⟨rfl, rfl⟩))
    (with_reducible refine c6.mono ?_); rintro e w3 ⟨rfl, hb⟩
    have HB3 := Lib.hid (HB.out.trans (hb.mono HB.out.size))
    clear hb
    go_wp2_with fail
    go_ret2
    rw [HE2.out]
    exact ⟨rfl, HB3.out⟩
  · have HV2 := Lib.hid (HV.out.trans (if_neg h))
    have HE2 := Lib.hid (HE.out.trans (if_neg h))
    clear HV HE
    unfold okR at h
    generalize isR hs = p at *
    rw [HV2.out, HE2.out]
    clear HV2 HE2
    by_cases h3 : k < 1
    · have b1 : decide (k < 1) = true := decide_eq_true h3
      clear h h3
      cases p
      all_goals
        go_enter Try.func25, Try.ntmps25
        go_wp2_with (go_at_call 26; (with_reducible refine c1.mono ?_); rintro e w' ⟨rfl, rfl⟩)
        go_ret2
        exact ⟨rfl, Below.refl _ _⟩
    · have b1 : decide (k < 1) = false := decide_eq_false h3
      by_cases h4 : 8192 < k
      · have b2 : decide (8192 < k) = true := decide_eq_true h4
        clear h h3 h4
        cases p
        all_goals
          go_enter Try.func25, Try.ntmps25
          go_wp2_with (go_at_call 26; (with_reducible refine c1.mono ?_); rintro e w' ⟨rfl, rfl⟩)
          go_ret2
          exact ⟨rfl, Below.refl _ _⟩
      · have b2 : decide (8192 < k) = false := decide_eq_false h4
        have hp : ¬ p = true := fun e => h ⟨e, by omega, by omega⟩
        clear h h3 h4
        cases p
        case true => exact absurd rfl hp
        clear hp
        go_enter Try.func25, Try.ntmps25
        go_wp2_with (go_at_call 26; (with_reducible refine c1.mono ?_); rintro e w' ⟨rfl, rfl⟩)
        go_ret2
        exact ⟨rfl, Below.refl _ _⟩
end Rl
end Go.Proofs.Ythdokajpiflcoaa
