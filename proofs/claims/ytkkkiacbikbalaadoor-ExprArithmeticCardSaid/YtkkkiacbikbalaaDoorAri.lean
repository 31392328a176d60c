/- The closures of the law ExprArithmetic, and words' identities. Condition: the numbers are words. -/
import Derived.Test.YtkkkiacbikbalaaDoorRfo
namespace Go.Proofs.YtkkkiacbikbalaaDoor
open Go.RowKit

set_option maxRecDepth 100000 in
theorem ari2_any (s : ByteArray) (x y : Int) (hy : 0 ≤ y) (w : World) : Calls Tryd.prog 20 #[.string s, .int .u32 x, .int .u32 y] w fun e w' => e = .returned (.int .u32 (biR s.toList x y).1) ∧ w = w' := by
  have h := fun w => binary_any2 s x y hy w
  unfold wordV at h
  generalize biR s.toList x y = B at *
  obtain ⟨b, b2⟩ := B
  go_enter Tryd.func20, Tryd.ntmps20
  go_wp2_with (go_at_call 10; (with_reducible refine (h _).mono ?_); rintro e w' ⟨rfl, rfl⟩)
  go_ret
  exact ⟨rfl, rfl⟩
set_option maxRecDepth 100000 in
theorem ari1_any (s : ByteArray) (x : Int) (w : World) : Calls Tryd.prog 21 #[.string s, .int .u32 x] w fun e w' => e = .returned (.int .u32 (unR s.toList x).1) ∧ w = w' := by
  have h := fun w => unary_any s x w
  unfold wordV at h
  generalize unR s.toList x = B at *
  obtain ⟨b, b2⟩ := B
  go_enter Tryd.func21, Tryd.ntmps21
  go_wp2_with (go_at_call 8; (with_reducible refine (h _).mono ?_); rintro e w' ⟨rfl, rfl⟩)
  go_ret
  exact ⟨rfl, rfl⟩
/-- The identities that the law asks for. -/
theorem id_div (x y : Int) (hx : 0 ≤ x ∧ x < 4294967296) : (quo (wrap32 x) (wrap32 y) % 4294967296 * y % 4294967296 + wrap32 (wrap32 x - wrap32 (quo (wrap32 x) (wrap32 y) * wrap32 y)) % 4294967296) % 4294967296 = x := by
  have hr : wrap32 (wrap32 x - wrap32 (quo (wrap32 x) (wrap32 y) * wrap32 y)) % 4294967296 = (x - quo (wrap32 x) (wrap32 y) * y) % 4294967296 := by
    rw [wrap_mod, Int.sub_emod, wrap_mod, wrap_mod, Int.mul_emod, wrap_mod, ← Int.mul_emod, ← Int.sub_emod]
  have hm : quo (wrap32 x) (wrap32 y) % 4294967296 * y % 4294967296 = quo (wrap32 x) (wrap32 y) * y % 4294967296 := by
    rw [Int.mul_emod, Int.emod_emod_of_dvd _ (Int.dvd_refl _), ← Int.mul_emod]
  rw [hr, hm, ← Int.add_emod]
  rw [show quo (wrap32 x) (wrap32 y) * y + (x - quo (wrap32 x) (wrap32 y) * y) = x by omega]
  omega
theorem id_neg (x : Int) (hx : 0 ≤ x ∧ x < 4294967296) : (bits .xor .u32 IntKind.u32.max x + 1) % 4294967296 = -x % 4294967296 := by
  rw [not_int hx.1 hx.2]; omega
theorem id_nn (x : Int) : tru (tru (x == 0) == 0) = tru (wrap32 x != wrap32 0) ∨ ¬ (0 ≤ x ∧ x < 4294967296) := by
  by_cases h : 0 ≤ x ∧ x < 4294967296
  · left
    by_cases h0 : x = 0
    · subst h0; rw [show wrap32 0 = 0 by unfold wrap32; decide]; rfl
    · have h1 : (x == 0) = false := by rw [beq_eq_false_iff_ne]; exact h0
      have h2 : (wrap32 x != wrap32 0) = true := by rw [bne_iff_ne]; unfold wrap32; omega
      rw [h1, h2]; rfl
  · exact .inr h
theorem id_dbl (x : Int) : x * 2 ^ ((1 : Int) % 32).toNat % 4294967296 = (x + x) % 4294967296 := by
  rw [show ((1 : Int) % 32).toNat = 1 from rfl]; omega
theorem id_sh (x y : Int) : x * 2 ^ ((y + 32) % 4294967296 % 32).toNat % 4294967296 = x * 2 ^ (y % 32).toNat % 4294967296 := by
  rw [show (y + 32) % 4294967296 % 32 = y % 32 by omega]
theorem id_three (x y : Int) : tru (decide (wrap32 x < wrap32 y)) + tru (wrap32 x == wrap32 y) + tru (decide (wrap32 y < wrap32 x)) = 1 := by
  have h : wrap32 x < wrap32 y ∨ wrap32 x = wrap32 y ∨ wrap32 y < wrap32 x := by omega
  rcases h with h | h | h
  · rw [decide_eq_true h, decide_eq_false (by omega), show (wrap32 x == wrap32 y) = false by rw [beq_eq_false_iff_ne]; omega]; rfl
  · rw [h, decide_eq_false (by omega), show (wrap32 y == wrap32 y) = true by simp]; rfl
  · rw [decide_eq_true h, decide_eq_false (by omega), show (wrap32 x == wrap32 y) = false by rw [beq_eq_false_iff_ne]; omega]; rfl
theorem tru_not (b : Bool) : (tru b == 0) = !b := by cases b <;> rfl
theorem tru_ne (b : Bool) : (tru b != 0) = b := by cases b <;> rfl
theorem id_le (a b : Int) : tru (decide (a ≤ b)) = tru (tru (decide (b < a)) == 0) := by
  rw [tru_not]; congr 1
  by_cases h : a ≤ b
  · rw [decide_eq_true h, decide_eq_false (by omega)]; rfl
  · rw [decide_eq_false h, decide_eq_true (by omega)]; rfl
theorem id_ne (a b : Int) : tru (a != b) = tru (tru (a == b) == 0) := by rw [tru_not]; rfl
theorem id_and (x y : Int) : tru (x != 0 && y != 0) = tru (tru (tru (x == 0) != 0 || tru (y == 0) != 0) == 0) := by
  rw [tru_not, tru_ne, tru_ne, Bool.not_or]; rfl
theorem id_31 (x : Int) : wrap32 x / 2 ^ ((31 : Int) % 32).toNat % 4294967296 = (0 - tru (decide (wrap32 x < wrap32 0))) % 4294967296 := by
  rw [show ((31 : Int) % 32).toNat = 31 from rfl, show wrap32 0 = 0 by unfold wrap32; decide]
  by_cases h : wrap32 x < 0
  · rw [decide_eq_true h]; unfold tru; unfold wrap32 at h ⊢; simp; omega
  · rw [decide_eq_false h]; unfold tru; unfold wrap32 at h ⊢; simp; omega
theorem id_back (x y : Int) (hx : 0 ≤ x ∧ x < 4294967296) : ((x + y) % 4294967296 - y) % 4294967296 = x := by omega
theorem id_comm (x y : Int) : x * y % 4294967296 = y * x % 4294967296 := by rw [Int.mul_comm]
theorem or_and_nat (x y : Nat) : (x ||| y) + (x &&& y) = x + y := by
  induction x using Nat.strongRecOn generalizing y with
  | ind x ih =>
    by_cases h0 : x = 0
    · subst h0; simp
    · have h1 := ih (x / 2) (by omega) (y / 2)
      have a1 : (x ||| y) / 2 = x / 2 ||| y / 2 := Nat.or_div_two
      have a2 : (x &&& y) / 2 = x / 2 &&& y / 2 := Nat.and_div_two
      have b1 : (x ||| y) % 2 = (x % 2) ||| (y % 2) := by rw [Nat.or_mod_two_pow (n := 1)]
      have b2 : (x &&& y) % 2 = (x % 2) &&& (y % 2) := by rw [Nat.and_mod_two_pow (n := 1)]
      have c : (x % 2 ||| y % 2) + (x % 2 &&& y % 2) = x % 2 + y % 2 := by
        rcases Nat.mod_two_eq_zero_or_one x with hx | hx <;> rcases Nat.mod_two_eq_zero_or_one y with hy | hy <;> rw [hx, hy] <;> rfl
      omega
theorem xor_and_nat (x y : Nat) : (x ^^^ y) + (x &&& y) = (x ||| y) := by
  induction x using Nat.strongRecOn generalizing y with
  | ind x ih =>
    by_cases h0 : x = 0
    · subst h0; simp
    · have h1 := ih (x / 2) (by omega) (y / 2)
      have a0 : (x ^^^ y) / 2 = x / 2 ^^^ y / 2 := Nat.xor_div_two
      have a1 : (x ||| y) / 2 = x / 2 ||| y / 2 := Nat.or_div_two
      have a2 : (x &&& y) / 2 = x / 2 &&& y / 2 := Nat.and_div_two
      have b0 : (x ^^^ y) % 2 = (x % 2) ^^^ (y % 2) := by rw [Nat.xor_mod_two_pow (n := 1)]
      have b1 : (x ||| y) % 2 = (x % 2) ||| (y % 2) := by rw [Nat.or_mod_two_pow (n := 1)]
      have b2 : (x &&& y) % 2 = (x % 2) &&& (y % 2) := by rw [Nat.and_mod_two_pow (n := 1)]
      have c : (x % 2 ^^^ y % 2) + (x % 2 &&& y % 2) = (x % 2 ||| y % 2) := by
        rcases Nat.mod_two_eq_zero_or_one x with hx | hx <;> rcases Nat.mod_two_eq_zero_or_one y with hy | hy <;> rw [hx, hy] <;> rfl
      omega
theorem oa_int {x y : Int} (hx : 0 ≤ x ∧ x < 4294967296) (hy : 0 ≤ y ∧ y < 4294967296) : bits .or .u32 x y + bits .and .u32 x y = x + y ∧ bits .xor .u32 x y + bits .and .u32 x y = bits .or .u32 x y ∧ 0 ≤ bits .and .u32 x y ∧ 0 ≤ bits .xor .u32 x y ∧ bits .xor .u32 x y < 4294967296 := by
  obtain ⟨u, rfl⟩ := of_V hx.1 hx.2
  obtain ⟨v, rfl⟩ := of_V hy.1 hy.2
  rw [or_V, and_V, xor_V]
  have h1 := or_and_nat u.toNat v.toNat
  have h2 := xor_and_nat u.toNat v.toNat
  have h3 := V_lt (u ^^^ v)
  have h4 := V_lt (u &&& v)
  refine ⟨?_, ?_, h4.1, h3⟩
  · unfold V; rw [BitVec.toNat_or, BitVec.toNat_and]; omega
  · unfold V; rw [BitVec.toNat_or, BitVec.toNat_and, BitVec.toNat_xor]; omega
/-- A result of the closures. -/
def bo (t : List UInt8) (x y : Int) : Int := (biR t x y).1
def un (t : List UInt8) (x : Int) : Int := (unR t x).1
end Go.Proofs.YtkkkiacbikbalaaDoor
