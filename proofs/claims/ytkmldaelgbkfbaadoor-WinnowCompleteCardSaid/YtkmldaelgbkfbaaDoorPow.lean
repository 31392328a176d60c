/- The code of a word and the powers of the base. No condition but the word's length. -/
import Derived.Test.YtkmldaelgbkfbaaDoorMul
namespace Go.Proofs.YtkmldaelgbkfbaaDoor
open Go.RowKit
namespace Rl
/-- Bytes as a string. -/
def str (l : List UInt8) : ByteArray := ⟨l.toArray⟩
theorem str_of (s : ByteArray) : str s.data.toList = s := by apply ByteArray.ext; simp [str]
theorem str_size (l : List UInt8) : (str l).size = l.length := by show l.toArray.size = _; simp
theorem get_s (s : ByteArray) (k : Nat) (h : k < s.size) : s.data.toList.drop k = s[k] :: s.data.toList.drop (k + 1) := by
  have hl : k < s.data.toList.length := h
  rw [List.drop_eq_getElem_cons hl]
  rfl
theorem take_s (s : ByteArray) (k : Nat) (h : k < s.size) : s.data.toList.take (k + 1) = s.data.toList.take k ++ [s[k]] := by
  have hl : k < s.data.toList.length := h
  rw [List.take_succ_eq_append_getElem hl]
  rfl
set_option maxHeartbeats 2000000 in
set_option maxRecDepth 100000 in
theorem code_any (s : ByteArray) (w : World) (hs : s.size ≤ 1000000000) :
    Calls Tryd.prog 30 #[.string s] w fun e w' => e = .returned (.int .i64 (code s.data.toList : Int)) ∧ w = w' := by
  go_enter Tryd.func30, Tryd.ntmps30
  go_wp2_with fail
  go_loop [3, 7] (fun c i => ∃ k : Nat, k ≤ s.size ∧ i = .int .i64 k ∧ c = .int .i64 (code (s.data.toList.take k) : Int)) (fun _ i => s.size - (intOf i).toNat)
  case atStart => exact ⟨0, by omega, rfl, by rw [List.take_zero]; rfl⟩
  case round =>
    obtain ⟨k, hk, rfl, rfl⟩ := hrel
    have hcl := code_lt (s.data.toList.take k)
    by_cases hlt : k < s.size
    · have b1 : decide ((k : Int) < (s.size : Int)) = true := decide_eq_true (by omega)
      have b1n : decide (k < s.size) = true := decide_eq_true hlt
      have HT := Lib.hid (show code (s.data.toList.take (k + 1)) = (code (s.data.toList.take k) * 257 + s[k].toNat + 1) % P by rw [take_s s k hlt, code_snoc]; rfl)
      generalize code (s.data.toList.take k) = c at *
      have hc := s[k].toNat_lt
      have cc := extend_257 c s[k].toNat hcl (by simp only [P_val]; omega) w
      have u1 : IntKind.i64.wrap (s[k].toNat : Int) = (s[k].toNat : Int) := by rw [IntKind.wrap_i64]; omega
      have u2 : wrap64 (s[k].toNat : Int) = (s[k].toNat : Int) := by unfold wrap64; omega
      generalize (c * 257 + s[k].toNat + 1) % P = c2 at *
      clear hcl
      go_wp2_with (go_at_call 29; (with_reducible refine cc.mono ?_); rintro e w' ⟨rfl, rfl⟩)
      go_round
      case rel => exact ⟨k + 1, by omega, by go_num, by rw [HT.out]⟩
      case measure => simp [intOf]; omega
    · have hks : k = s.size := by omega
      have HR := Lib.hid (show code (s.data.toList.take k) = code s.data.toList by rw [List.take_of_length_le (by rw [hks]; exact Nat.le_refl _)])
      generalize code (s.data.toList.take k) = c at *
      have b1 : decide ((k : Int) < (s.size : Int)) = false := decide_eq_false (by omega)
      have b1n : decide (k < s.size) = false := decide_eq_false hlt
      clear hks hcl
      go_wp2_with fail
      go_ret
      exact ⟨ret_int (by rw [HR.out]), rfl⟩
/-- What Power returns. -/
def pwI (n : Int) : Nat := if 0 ≤ n ∧ n ≤ 8192 then pw n.toNat else 0
theorem pwI_lt (n : Int) : pwI n < P := by unfold pwI; split; exact pw_lt _; exact P_pos
theorem pwI_nat {n : Nat} (h : n ≤ 8192) : pwI n = pw n := by unfold pwI; rw [if_pos (by omega)]; rfl
theorem B_val : B = 1000003 := rfl
set_option maxHeartbeats 4000000 in
set_option maxRecDepth 100000 in
theorem power_any (n : Int) (w : World) :
    Calls Tryd.prog 44 #[.int .i64 n] w fun e w' => e = .returned (.int .i64 (pwI n : Int)) ∧ w = w' := by
  have HV := Lib.hid (show pwI n = if 0 ≤ n ∧ n ≤ 8192 then pw n.toNat else 0 from rfl)
  generalize pwI n = v at *
  by_cases h1 : n < 0
  · have b1 : decide (n < 0) = true := decide_eq_true h1
    have HT := Lib.hid (show v = 0 by rw [HV.out, if_neg (by omega)])
    clear HV h1
    go_enter Tryd.func44, Tryd.ntmps44
    go_wp2_with fail
    go_ret
    exact ⟨ret_int (by rw [HT.out]; rfl), rfl⟩
  have b1 : decide (n < 0) = false := decide_eq_false h1
  by_cases h2 : 8192 < n
  · have b2 : decide (8192 < n) = true := decide_eq_true h2
    have HT := Lib.hid (show v = 0 by rw [HV.out, if_neg (by omega)])
    clear HV h1 h2
    go_enter Tryd.func44, Tryd.ntmps44
    go_wp2_with fail
    go_ret
    exact ⟨ret_int (by rw [HT.out]; rfl), rfl⟩
  have b2 : decide (8192 < n) = false := decide_eq_false h2
  obtain ⟨N, rfl⟩ : ∃ N : Nat, n = N := ⟨n.toNat, by omega⟩
  have HT := Lib.hid (show v = B ^ N % P by rw [HV.out, if_pos (by omega)]; rfl)
  have HN := Lib.hid (show N ≤ 8192 by omega)
  clear HV h1 h2
  go_enter Tryd.func44, Tryd.ntmps44
  go_wp2_with fail
  go_loop [0, 3, 4] (fun a b c => ∃ n p s : Nat, a = .int .i64 n ∧ b = .int .i64 p ∧ c = .int .i64 s ∧ n ≤ 8192 ∧ p < P ∧ s < P ∧ p * s ^ n % P = v) (fun a _ _ => (intOf a).toNat)
  case atStart => exact ⟨N, 1, B, rfl, rfl, rfl, HN.out, by decide, by decide, by rw [HT.out, Nat.one_mul]⟩
  case round =>
    obtain ⟨n, p, s, rfl, rfl, rfl, hn, hp, hs, hv⟩ := hrel
    by_cases h0 : n = 0
    · have b3 : decide ((0 : Int) < (n : Int)) = false := decide_eq_false (by omega)
      have b3n : decide (0 < n) = false := decide_eq_false (by omega)
      have HR := Lib.hid (show p = v by rw [← hv, h0, Nat.pow_zero, Nat.mul_one, Nat.mod_eq_of_lt hp])
      clear hv h0 hp hs
      go_wp2_with fail
      go_ret
      exact ⟨ret_int (by rw [HR.out]), rfl⟩
    · have b3 : decide ((0 : Int) < (n : Int)) = true := decide_eq_true (by omega)
      have b3n : decide (0 < n) = true := decide_eq_true (by omega)
      have cs := mul_any s s hs hs w
      have hs2 : s * s % P < P := Nat.mod_lt _ P_pos
      have u1 : ((n : Int)).tdiv 2 = ((n / 2 : Nat) : Int) := by rw [Int.tdiv_eq_ediv_of_nonneg (by omega)]; omega
      have hn2 : n / 2 ≤ 8192 := by omega
      by_cases ho : n % 2 = 1
      · have b4 : (((n : Int) % 2) == 1) = true := by rw [beq_iff_eq]; omega
        have b4t : (((n : Int).tmod 2) == 1) = true := by rw [beq_iff_eq, Int.tmod_eq_emod_of_nonneg (by omega)]; omega
        have b4n : ((n % 2) == 1) = true := by rw [beq_iff_eq]; omega
        have cp := mul_any p s hp hs w
        have HP := Lib.hid (show p * s % P < P from Nat.mod_lt _ P_pos)
        have HR := Lib.hid (show p * s % P * (s * s % P) ^ (n / 2) % P = v by rw [half_odd p s n ho]; exact hv)
        have HS := Lib.hid hs2
        generalize p * s % P = p2 at *
        generalize s * s % P = s2 at *
        have HN2 := Lib.hid hn2
        have HPOS := Lib.hid h0
        clear hv hs hp hs2 ho h0
        go_wp2_with (first
          | (go_at_call 42; (with_reducible refine cp.mono ?_); rintro e w' ⟨rfl, rfl⟩)
          | (go_at_call 42; (with_reducible refine cs.mono ?_); rintro e w' ⟨rfl, rfl⟩))
        go_round
        case rel => exact ⟨n / 2, p2, s2, by go_num, rfl, rfl, HN2.out, HP.out, HS.out, HR.out⟩
        case measure => have := HPOS.out; simp [intOf]; omega
      · have b4 : (((n : Int) % 2) == 1) = false := by rw [beq_eq_false_iff_ne]; omega
        have b4t : (((n : Int).tmod 2) == 1) = false := by rw [beq_eq_false_iff_ne, Int.tmod_eq_emod_of_nonneg (by omega)]; omega
        have b4n : ((n % 2) == 1) = false := by rw [beq_eq_false_iff_ne]; omega
        have HP := Lib.hid hp
        have HR := Lib.hid (show p * (s * s % P) ^ (n / 2) % P = v by rw [half_even p s n (by omega) hp]; exact hv)
        have HS := Lib.hid hs2
        generalize s * s % P = s2 at *
        have HN2 := Lib.hid hn2
        have HPOS := Lib.hid h0
        clear hv hs hp hs2 ho h0
        go_wp2_with (go_at_call 42; (with_reducible refine cs.mono ?_); rintro e w' ⟨rfl, rfl⟩)
        go_round
        case rel => exact ⟨n / 2, p, s2, by go_num, rfl, rfl, HN2.out, HP.out, HS.out, HR.out⟩
        case measure => have := HPOS.out; simp [intOf]; omega
end Rl
end Go.Proofs.YtkmldaelgbkfbaaDoor
