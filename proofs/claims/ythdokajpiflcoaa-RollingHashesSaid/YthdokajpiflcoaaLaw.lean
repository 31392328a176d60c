/- The chapter's example; the laws of numbers, of moves, and of the field. Conditions: none but the words' lengths. -/
import Derived.Test.YthdokajpiflcoaaRol
namespace Go.Proofs.Ythdokajpiflcoaa
open Go.RowKit Go.Deep
namespace Rl
theorem ex_code : code ([] : List UInt8) = 0 ∧ code [97] = 98 ∧ code [97, 98] = 25285 ∧ hash [[97], [98]] = 99000397 ∧ pw 1 = 1000003 := by decide +kernel
theorem wr_nat {n : Nat} (h : n ≤ 9223372036854775807) : IntKind.i64.wrap (n : Int) = (n : Int) := by rw [IntKind.wrap_i64]; omega
theorem wr64_nat {n : Nat} (h : n ≤ 9223372036854775807) : wrap64 (n : Int) = (n : Int) := by unfold wrap64; omega
theorem wr_add {a b : Nat} (h : a + b ≤ 9223372036854775807) : IntKind.i64.wrap ((a : Int) + (b : Int)) = (a : Int) + (b : Int) := by rw [IntKind.wrap_i64]; omega
theorem wr_res {a b : Nat} (ha : a < P) (hb : b < P) : IntKind.i64.wrap ((a : Int) + (b : Int)) = (a : Int) + (b : Int) := by simp only [P_val] at ha hb; exact wr_add (by omega)
theorem rem_nat {a b s : Nat} (h : s = (a + b) % P) : ((a : Int) + (b : Int)) % 2305843009213693951 = (s : Int) ∧ ((a : Int) + (b : Int)).tmod 2305843009213693951 = (s : Int) := by
  have h1 : ((a : Int) + (b : Int)) % 2305843009213693951 = (s : Int) := by rw [h]; simp only [P_val]; omega
  exact ⟨h1, by rw [Int.tmod_eq_emod_of_nonneg (by omega)]; exact h1⟩
theorem zeros {a b ab : Nat} (h : ab = 0 ↔ a = 0 ∨ b = 0) : ∃ za zb z : Bool, ((a : Int) == 0) = za ∧ ((b : Int) == 0) = zb ∧ ((ab : Int) == 0) = z ∧ z = (za || zb) := by
  refine ⟨_, _, _, rfl, rfl, rfl, ?_⟩
  rw [Bool.eq_iff_iff, Bool.or_eq_true, beq_iff_eq, beq_iff_eq, beq_iff_eq]
  omega
/-- The example's words as they lie. -/
def exO : Obj := .cells #[.string ⟨#[97]⟩, .int .i64 0, .string ⟨#[98]⟩, .int .i64 7] 41 (0, 0)
theorem ex_at (w : World) : LxAt (w.alloc exO) (w.alloc exO).heap.size (some ⟨w.heap.size, 0, none⟩) [⟨[97], 0⟩, ⟨[98], 7⟩] := by
  have h := heap_alloc_new w exO
  intro j hj
  refine ⟨_, _, rfl, ?_, ?_⟩
  · exact blk_lt h
  · have hc : ∀ i, (w.alloc exO).cell? ⟨w.heap.size, i, none⟩ = (#[Value.string ⟨#[97]⟩, .int .i64 0, .string ⟨#[98]⟩, .int .i64 7] : Array Value)[i]? := fun i => cell_of_row _ _ _ _ _ _ h
    match j, hj with
    | 0, _ => exact ⟨(hc 0).trans rfl, (hc 1).trans rfl⟩
    | 1, _ => exact ⟨(hc 2).trans rfl, (hc 3).trans rfl⟩
set_option maxHeartbeats 8000000 in
set_option maxRecDepth 100000 in
theorem awake_any (w : World) : Calls Try.prog 9 #[] w fun e w' => e = .returned (.bool true) ∧ Below w.heap.size w w' := by
  obtain ⟨h1, h2, h3, h4, h5⟩ := ex_code
  have hb0 : Below w.heap.size w (w.alloc exO) := (Below.refl _ _).alloc (Nat.le_refl _) _
  have hA := ex_at w
  have HB0 := Lib.hid hb0
  have c1 := code_any ⟨#[]⟩ (w.alloc exO) (by decide)
  have c2 := code_any ⟨#[97]⟩ (w.alloc exO) (by decide)
  have c3 := code_any ⟨#[97, 98]⟩ (w.alloc exO) (by decide)
  have c4 := hash_any [⟨[97], 0⟩, ⟨[98], 7⟩] (some ⟨w.heap.size, 0, none⟩) 2 (w.alloc exO) hA (by decide) (by intro x hx; simp at hx; rcases hx with rfl | rfl <;> decide)
  have c5 := fun w => power_any 1 w
  rw [show code (⟨#[]⟩ : ByteArray).data.toList = 0 from h1] at c1
  rw [show code (⟨#[97]⟩ : ByteArray).data.toList = 98 from h2] at c2
  rw [show code (⟨#[97, 98]⟩ : ByteArray).data.toList = 25285 from h3] at c3
  rw [show hash (txs [⟨[97], 0⟩, ⟨[98], 7⟩]) = 99000397 from h4, show ([⟨[97], 0⟩, ⟨[98], 7⟩] : List Lx).length = 2 from rfl] at c4
  rw [show pwI 1 = 1000003 from h5] at c5
  clear h1 h2 h3 h4 h5 hb0 hA
  go_enter Try.func9, Try.ntmps9
  go_upto_region 2 with (fail)
  change Code.wp _ _ _ _ (w.alloc exO)
  obtain ⟨W, hW⟩ : ∃ W, W = w.alloc exO := ⟨_, rfl⟩
  rw [← hW] at c1 c2 c3 c4 HB0 ⊢
  clear hW
  go_wp2_with (first
    | (go_at_call 10; (with_reducible refine c1.mono ?_); rintro e w' ⟨rfl, rfl⟩)
    | (go_at_call 10; (with_reducible refine c2.mono ?_); rintro e w' ⟨rfl, rfl⟩)
    | (go_at_call 10; (with_reducible refine c3.mono ?_); rintro e w' ⟨rfl, rfl⟩))
  (with_reducible refine c4.mono ?_); rintro e w4 ⟨rfl, hb⟩
  have HB := Lib.hid (HB0.out.trans (hb.mono HB0.out.size))
  have c5 := c5 w4
  clear hb
  go_wp2_with (go_at_call 14; (with_reducible refine c5.mono ?_); rintro e w' ⟨rfl, rfl⟩)
  go_ret
  exact ⟨rfl, HB.out⟩
set_option maxHeartbeats 8000000 in
set_option maxRecDepth 100000 in
theorem numbers_law (s : ByteArray) (a b n : Int) (w : World) :
    Calls Try.prog 3 #[.string s, .int .i64 a, .int .i64 b, .int .i64 n] w fun e w' => e = .returned (.bool true) ∧ Below w.heap.size w w' := by
  have c0 := awake_any w
  by_cases h : 100 < s.size
  · have d1 : decide ((100 : Int) < (s.size : Int)) = true := decide_eq_true (by omega)
    have d1n : decide (100 < s.size) = true := decide_eq_true h
    go_enter Try.func3, Try.ntmps3
    go_wp2_with fail
    (with_reducible refine c0.mono ?_); rintro e w1 ⟨rfl, hb⟩
    have HB := Lib.hid hb
    clear hb c0
    go_wp2_with fail
    go_ret
    exact ⟨rfl, HB.out⟩
  have d1 : decide ((100 : Int) < (s.size : Int)) = false := decide_eq_false (by omega)
  have d1n : decide (100 < s.size) = false := decide_eq_false h
  have c1 := fun w => code_any s w (by omega)
  have c2 := fun w => qcode_any s w (by omega)
  have c3 := fun w => mul_all a b w
  have c4 := fun w => qmul_any a b w
  have c5 := fun w => power_any n w
  have c6 := fun w => qpower_any n w
  generalize code s.data.toList = v1 at *
  generalize mulI a b = v2 at *
  generalize pwI n = v3 at *
  clear h
  go_enter Try.func3, Try.ntmps3
  go_wp2_with fail
  (with_reducible refine c0.mono ?_); rintro e w1 ⟨rfl, hb⟩
  have HB := Lib.hid hb
  have c1 := c1 w1
  clear hb c0
  go_wp2_with (go_at_call 10; (with_reducible refine c1.mono ?_); rintro e w' ⟨rfl, rfl⟩)
  (with_reducible refine (c2 _).mono ?_); rintro e w2 ⟨rfl, hb⟩
  have HB2 := Lib.hid (HB.out.trans (hb.mono HB.out.size))
  have c3 := c3 w2
  have c4 := c4 w2
  have c5 := c5 w2
  have c6 := c6 w2
  clear hb c1 c2
  go_wp2_with (first
    | (go_at_call 12; (with_reducible refine c3.mono ?_); rintro e w' ⟨rfl, rfl⟩)
    | (go_at_call 13; (with_reducible refine c4.mono ?_); rintro e w' ⟨rfl, rfl⟩)
    | (go_at_call 14; (with_reducible refine c5.mono ?_); rintro e w' ⟨rfl, rfl⟩)
    | (go_at_call 15; (with_reducible refine c6.mono ?_); rintro e w' ⟨rfl, rfl⟩))
  go_ret
  exact ⟨rfl, HB2.out⟩
set_option maxHeartbeats 8000000 in
set_option maxRecDepth 100000 in
theorem moves_law (a b n : Int) (so si : ByteArray) (k : Int) (w : World) :
    Calls Try.prog 5 #[.int .i64 a, .int .i64 b, .int .i64 n, .string so, .string si, .int .i64 k] w fun e w' => e = .returned (.bool true) ∧ Below w.heap.size w w' := by
  have c0 := awake_any w
  by_cases h : 100 < so.size
  · have d1 : decide ((100 : Int) < (so.size : Int)) = true := decide_eq_true (by omega)
    have d1n : decide (100 < so.size) = true := decide_eq_true h
    go_enter Try.func5, Try.ntmps5
    go_wp2_with fail
    (with_reducible refine c0.mono ?_); rintro e w1 ⟨rfl, hb⟩
    have HB := Lib.hid hb
    clear hb c0
    go_wp2_with fail
    go_ret
    exact ⟨rfl, HB.out⟩
  have d1 : decide ((100 : Int) < (so.size : Int)) = false := decide_eq_false (by omega)
  have d1n : decide (100 < so.size) = false := decide_eq_false h
  by_cases h2 : 100 < si.size
  · have d2 : decide ((100 : Int) < (si.size : Int)) = true := decide_eq_true (by omega)
    have d2n : decide (100 < si.size) = true := decide_eq_true h2
    go_enter Try.func5, Try.ntmps5
    go_wp2_with fail
    (with_reducible refine c0.mono ?_); rintro e w1 ⟨rfl, hb⟩
    have HB := Lib.hid hb
    clear hb c0
    go_wp2_with fail
    go_ret
    exact ⟨rfl, HB.out⟩
  have d2 : decide ((100 : Int) < (si.size : Int)) = false := decide_eq_false (by omega)
  have d2n : decide (100 < si.size) = false := decide_eq_false h2
  have c1 := fun w => join_any a b n w
  have c2 := fun w => qjoin_any a b n w
  have c3 := fun w => roll_any a so si k w (by omega) (by omega)
  have c4 := fun w => qroll_any a so si k w (by omega) (by omega)
  generalize joinI a b n = v1 at *
  generalize joinE a b n = v2 at *
  generalize rollI a so.data.toList si.data.toList k = v3 at *
  generalize rollE a k = v4 at *
  clear h h2
  go_enter Try.func5, Try.ntmps5
  go_wp2_with fail
  (with_reducible refine c0.mono ?_); rintro e w1 ⟨rfl, hb⟩
  have HB := Lib.hid hb
  have c1 := c1 w1
  have c2 := c2 w1
  have c3 := c3 w1
  clear hb c0
  go_wp2_with (first
    | (go_at_call 22; (with_reducible refine c1.mono ?_); rintro e w' ⟨rfl, rfl⟩)
    | (go_at_call 23; (with_reducible refine c2.mono ?_); rintro e w' ⟨rfl, rfl⟩)
    | (go_at_call 24; (with_reducible refine c3.mono ?_); rintro e w' ⟨rfl, rfl⟩))
  (with_reducible refine (c4 _).mono ?_); rintro e w3 ⟨rfl, hb⟩
  have HB3 := Lib.hid (HB.out.trans (hb.mono HB.out.size))
  clear hb c4
  go_wp2_with fail
  go_ret
  exact ⟨rfl, HB3.out⟩
set_option maxHeartbeats 8000000 in
set_option maxRecDepth 100000 in
theorem field_law (a b c : Int) (m n : Nat) (hm : m ≤ 255) (hn : n ≤ 255) (w : World) :
    Calls Try.prog 8 #[.int .i64 a, .int .i64 b, .int .i64 c, .int .u8 (m : Int), .int .u8 (n : Int)] w fun e w' => e = .returned (.bool true) ∧ Below w.heap.size w w' := by
  have u1 := wr_nat (n := m) (by omega)
  have u2 := wr_nat (n := n) (by omega)
  have u3 := wr64_nat (n := m) (by omega)
  have u4 := wr64_nat (n := n) (by omega)
  have u5 := wr_add (a := m) (b := n) (by omega)
  have hmn1 : (m : Int) + (n : Int) = ((m + n : Nat) : Int) := by omega
  have k1 : m ≤ 8192 := by omega
  have k2 : n ≤ 8192 := by omega
  have k3 : m + n ≤ 8192 := by omega
  have c0 := awake_any w
  have ra := fun w => qres_any a w
  have rb := fun w => qres_any b w
  have rc := fun w => qres_any c w
  by_cases hab : isR a = true ∧ isR b = true
  · have hmul := fun w => mul_all a b w
    obtain ⟨ha, hb⟩ := hab
    rw [ha] at ra
    rw [hb] at rb
    by_cases hc : isR c = true
    · rw [hc] at rc
      clear hmul
      obtain ⟨a, rfl, ha1⟩ := isR_of ha
      obtain ⟨b, rfl, hb1⟩ := isR_of hb
      obtain ⟨c, rfl, hc1⟩ := isR_of hc
      clear ha hb hc
      have ha := ha1
      have hb := hb1
      have hc := hc1
      clear ha1 hb1 hc1
      have m1 := fun w => mul_any a b ha hb w
      have m2 := fun w => mul_any b a hb ha w
      rw [Nat.mul_comm b a] at m2
      have e3 : a * b % P * c % P = a * (b * c % P) % P := by rw [Nat.mod_mul_mod, Nat.mul_mod_mod, Nat.mul_assoc]
      have m3 := fun w => mul_any (a * b % P) c (Nat.mod_lt _ P_pos) hc w
      rw [e3] at m3
      have m4 := fun w => mul_any b c hb hc w
      have m5 := fun w => mul_any a (b * c % P) ha (Nat.mod_lt _ P_pos) w
      have m6 := fun w => mul_any a 1 ha (by decide) w
      rw [Nat.mul_one, Nat.mod_eq_of_lt ha] at m6
      have m6' : ∀ w, Calls Try.prog 12 #[.int .i64 (a : Int), .int .i64 1] w fun e w' => e = .returned (.int .i64 (a : Int)) ∧ w = w' := m6
      have e7 : (a * b % P + a * c % P) % P = a * ((b + c) % P) % P := by rw [← Nat.add_mod, ← Nat.mul_add, Nat.mul_mod_mod]
      have m7 := fun w => mul_any a ((b + c) % P) ha (Nat.mod_lt _ P_pos) w
      have m8 := fun w => mul_any a c ha hc w
      have p1 := fun w => power_any (m : Int) w
      have p2 := fun w => power_any (n : Int) w
      have p3 := fun w => power_any ((m : Int) + (n : Int)) w
      rw [pwI_nat k1] at p1
      rw [pwI_nat k2] at p2
      rw [hmn1, pwI_nat k3, ← hmn1] at p3
      clear hmn1 k1 k2 k3
      have m9 := fun w => mul_any (pw m) (pw n) (pw_lt m) (pw_lt n) w
      rw [pw_add] at m9
      have hz : a * b % P = 0 ↔ a = 0 ∨ b = 0 := ⟨fun h => mul_zero_of ha hb h, fun h => by rcases h with rfl | rfl <;> simp⟩
      have hab := Nat.mod_lt (a * b) P_pos
      have hac := Nat.mod_lt (a * c) P_pos
      have rd := fun w => qres_any ((a * b % P : Nat) : Int) w
      rw [isR_nat, decide_eq_true hab] at rd
      have HQ : ∃ s : Nat, s = (b + c) % P := ⟨_, rfl⟩
      obtain ⟨s, hs⟩ := HQ
      obtain ⟨r1, r1t⟩ := rem_nat hs
      rw [← hs] at e7 m7
      generalize a * b % P = ab at *
      generalize a * c % P = ac at *
      generalize a * s % P = axs at *
      obtain ⟨r2, r2t⟩ := rem_nat e7.symm
      generalize b * c % P = bc at *
      generalize a * bc % P = abc at *
      generalize pw m = pm at *
      generalize pw n = pn at *
      generalize pw (m + n) = pmn at *
      have t1 := wr_res hb hc
      have t2 := wr_res hab hac
      obtain ⟨za, zb, z, q1, q2, q3, q4⟩ := zeros hz
      clear e3 m6 e7 hz hs ha hb hc hab hac
      cases za <;> cases zb
      all_goals
        first | (change z = true at q4) | (change z = false at q4)
        subst q4
        go_enter Try.func8, Try.ntmps8
        go_wp2_with fail
        (with_reducible refine c0.mono ?_); rintro e w1 ⟨rfl, hbw⟩
        have HB := Lib.hid hbw
        have ra := ra w1
        have rb := rb w1
        have rc := rc w1
        have rd := rd w1
        have m1 := m1 w1
        have m2 := m2 w1
        have m3 := m3 w1
        have m4 := m4 w1
        have m5 := m5 w1
        have m6' := m6' w1
        have m7 := m7 w1
        have m8 := m8 w1
        have m9 := m9 w1
        have p1 := p1 w1
        have p2 := p2 w1
        have p3 := p3 w1
        clear hbw c0
        go_wp2_with (first
          | (go_at_call 26; (with_reducible refine ra.mono ?_); rintro e w' ⟨rfl, rfl⟩)
          | (go_at_call 26; (with_reducible refine rb.mono ?_); rintro e w' ⟨rfl, rfl⟩)
          | (go_at_call 26; (with_reducible refine rc.mono ?_); rintro e w' ⟨rfl, rfl⟩)
          | (go_at_call 26; (with_reducible refine rd.mono ?_); rintro e w' ⟨rfl, rfl⟩)
          | (go_at_call 12; (with_reducible refine m1.mono ?_); rintro e w' ⟨rfl, rfl⟩)
          | (go_at_call 12; (with_reducible refine m2.mono ?_); rintro e w' ⟨rfl, rfl⟩)
          | (go_at_call 12; (with_reducible refine m3.mono ?_); rintro e w' ⟨rfl, rfl⟩)
          | (go_at_call 12; (with_reducible refine m4.mono ?_); rintro e w' ⟨rfl, rfl⟩)
          | (go_at_call 12; (with_reducible refine m5.mono ?_); rintro e w' ⟨rfl, rfl⟩)
          | (go_at_call 12; (with_reducible refine m6'.mono ?_); rintro e w' ⟨rfl, rfl⟩)
          | (go_at_call 12; (with_reducible refine m7.mono ?_); rintro e w' ⟨rfl, rfl⟩)
          | (go_at_call 12; (with_reducible refine m8.mono ?_); rintro e w' ⟨rfl, rfl⟩)
          | (go_at_call 12; (with_reducible refine m9.mono ?_); rintro e w' ⟨rfl, rfl⟩)
          | (go_at_call 14; (with_reducible refine p1.mono ?_); rintro e w' ⟨rfl, rfl⟩)
          | (go_at_call 14; (with_reducible refine p2.mono ?_); rintro e w' ⟨rfl, rfl⟩)
          | (go_at_call 14; (with_reducible refine p3.mono ?_); rintro e w' ⟨rfl, rfl⟩))
        go_ret
        exact ⟨rfl, HB.out⟩
    · clear hmn1 k1 k2 k3
      have hc' : isR c = false := by cases h : isR c <;> simp_all
      rw [hc'] at rc
      generalize mulI a b = v at *
      clear hc hc' ha hb
      obtain ⟨z, hz⟩ : ∃ z : Bool, ((v : Int) == 0) = z := ⟨_, rfl⟩
      cases z
      all_goals
        go_enter Try.func8, Try.ntmps8
        go_wp2_with fail
        (with_reducible refine c0.mono ?_); rintro e w1 ⟨rfl, hbw⟩
        have HB := Lib.hid hbw
        have ra := ra w1
        have rb := rb w1
        have rc := rc w1
        have m1 := hmul w1
        clear hbw c0
        go_wp2_with (first
          | (go_at_call 26; (with_reducible refine ra.mono ?_); rintro e w' ⟨rfl, rfl⟩)
          | (go_at_call 26; (with_reducible refine rb.mono ?_); rintro e w' ⟨rfl, rfl⟩)
          | (go_at_call 26; (with_reducible refine rc.mono ?_); rintro e w' ⟨rfl, rfl⟩)
          | (go_at_call 12; (with_reducible refine m1.mono ?_); rintro e w' ⟨rfl, rfl⟩))
        go_ret
        exact ⟨rfl, HB.out⟩
  · clear hmn1 k1 k2 k3 u1 u2 u3 u4 u5
    have hmul := fun w => mul_all a b w
    rw [show mulI a b = 0 from if_neg hab] at hmul
    generalize isR a = x at *
    generalize isR b = y at *
    clear rc
    cases x <;> cases y
    case true.true => exact absurd ⟨rfl, rfl⟩ hab
    all_goals
      clear hab
      go_enter Try.func8, Try.ntmps8
      go_wp2_with fail
      (with_reducible refine c0.mono ?_); rintro e w1 ⟨rfl, hbw⟩
      have HB := Lib.hid hbw
      have ra := ra w1
      have rb := rb w1
      have m1 := hmul w1
      clear hbw c0
      go_wp2_with (first
        | (go_at_call 26; (with_reducible refine ra.mono ?_); rintro e w' ⟨rfl, rfl⟩)
        | (go_at_call 26; (with_reducible refine rb.mono ?_); rintro e w' ⟨rfl, rfl⟩)
        | (go_at_call 12; (with_reducible refine m1.mono ?_); rintro e w' ⟨rfl, rfl⟩))
      go_ret
      exact ⟨rfl, HB.out⟩
end Rl
end Go.Proofs.Ythdokajpiflcoaa
