/- Unary and Binary of the program. Condition: the numbers are words. -/
import Derived.Test.YtndehkoglgakpaaGreatDoorRows
import Derived.WalkKit
import Derived.WalkSpells
import Derived.WalkLawsBesides
import Derived.Lib.Hide
namespace Go.Proofs.YtndehkoglgakpaaGreatDoor
open Go.RowKit

def tru (b : Bool) : Int := if b = true then 1 else 0
set_option maxHeartbeats 1000000 in
set_option maxRecDepth 100000 in
theorem truth_any (b : Bool) (w : World) : Calls Tryz.prog 90 #[.bool b] w fun e w' => e = .returned (.int .u32 (tru b)) ∧ w = w' := by
  cases b <;>
  · go_enter Tryz.func90, Tryz.ntmps90
    go_wp2_with fail
    go_ret
    exact ⟨rfl, rfl⟩
def quo (a b : Int) : Int := if b = 0 then 0 else wrap32 (a.tdiv b)
set_option maxHeartbeats 1000000 in
set_option maxRecDepth 100000 in
theorem quotient_any (a b : Int) (w : World) : Calls Tryz.prog 91 #[.int .i32 a, .int .i32 b] w fun e w' => e = .returned (.int .i32 (quo a b)) ∧ w = w' := by
  by_cases h : b = 0
  · subst h
    go_enter Tryz.func91, Tryz.ntmps91
    go_wp2_with fail
    go_ret
    exact ⟨rfl, rfl⟩
  · have h1 : (b == 0) = false := by rw [beq_eq_false_iff_ne]; exact h
    have HQ := Lib.hid (show quo a b = wrap32 (a.tdiv b) from if_neg h)
    go_enter Tryz.func91, Tryz.ntmps91
    go_wp2_with fail
    go_ret
    exact ⟨by rw [HQ.out]; rfl, rfl⟩
/-- What Unary returns, and Binary. -/
def unR (l : List UInt8) (x : Int) : Int × Bool :=
  if (l == [45]) = true then (-x % 4294967296, true)
  else if (l == [126]) = true then (bits .xor .u32 IntKind.u32.max x, true)
  else if (l == [33]) = true then (tru (x == 0), true) else (0, false)
def biR (l : List UInt8) (x y : Int) : Int × Bool :=
  if (l == [124, 124]) = true then (tru (x != 0 || y != 0), true)
  else if (l == [38, 38]) = true then (tru (x != 0 && y != 0), true)
  else if (l == [124]) = true then (bits .or .u32 x y, true)
  else if (l == [94]) = true then (bits .xor .u32 x y, true)
  else if (l == [38]) = true then (bits .and .u32 x y, true)
  else if (l == [61, 61]) = true then (tru (wrap32 x == wrap32 y), true)
  else if (l == [33, 61]) = true then (tru (wrap32 x != wrap32 y), true)
  else if (l == [60]) = true then (tru (decide (wrap32 x < wrap32 y)), true)
  else if (l == [60, 61]) = true then (tru (decide (wrap32 x ≤ wrap32 y)), true)
  else if (l == [62]) = true then (tru (decide (wrap32 y < wrap32 x)), true)
  else if (l == [62, 61]) = true then (tru (decide (wrap32 y ≤ wrap32 x)), true)
  else if (l == [60, 60]) = true then (x * 2 ^ (y % 32).toNat % 4294967296, true)
  else if (l == [62, 62]) = true then (wrap32 x / 2 ^ (y % 32).toNat % 4294967296, true)
  else if (l == [43]) = true then ((x + y) % 4294967296, true)
  else if (l == [45]) = true then ((x - y) % 4294967296, true)
  else if (l == [42]) = true then (x * y % 4294967296, true)
  else if (l == [47]) = true then (quo (wrap32 x) (wrap32 y) % 4294967296, true)
  else if (l == [37]) = true then (wrap32 (wrap32 x - wrap32 (quo (wrap32 x) (wrap32 y) * wrap32 y)) % 4294967296, true)
  else (0, false)
def wordV (p : Int × Bool) : Value := .tuple #[.int .u32 p.1, .bool p.2]
set_option maxHeartbeats 2000000 in
set_option maxRecDepth 100000 in
theorem unary_any (s : ByteArray) (x : Int) (w : World) : Calls Tryz.prog 65 #[.string s, .int .u32 x] w fun e w' => e = .returned (wordV (unR s.toList x)) ∧ w = w' := by
  go_enter Tryz.func65, Tryz.ntmps65
  go_wp2_with (go_at_call 90; (with_reducible refine (truth_any _ _).mono ?_); rintro e w' ⟨rfl, rfl⟩)
  all_goals
    go_ret2
    exact ⟨by simp only [unR, wordV, *]; rfl, rfl⟩
set_option maxHeartbeats 8000000 in
set_option maxRecDepth 100000 in
theorem binary_any2 (s : ByteArray) (x y : Int) (hy : 0 ≤ y) (w : World) : Calls Tryz.prog 67 #[.string s, .int .u32 x, .int .u32 y] w fun e w' => e = .returned (wordV (biR s.toList x y)) ∧ w = w' := by
  obtain ⟨k, hk⟩ : ∃ k : Nat, y % 32 = (k : Int) := ⟨(y % 32).toNat, by omega⟩
  have HK := Lib.hid (show (y % 32).toNat = k by omega)
  have hk2 : k < 32 := by omega
  have hk3 : 0 ≤ (k : Int) := by omega
  have hk4 : (k : Int).toNat = k := rfl
  have hk5 : min k 32 = k := by omega
  go_enter Tryz.func67, Tryz.ntmps67
  go_wp2_with (first | (go_at_call 90; (with_reducible refine (truth_any _ _).mono ?_); rintro e w' ⟨rfl, rfl⟩) | (go_at_call 91; (with_reducible refine (quotient_any _ _ _).mono ?_); rintro e w' ⟨rfl, rfl⟩))
  all_goals
    clear hk hk2 hk3 hk4 hk5
    have hk := HK.out
    have hor : ¬ x = 0 → (x != 0 || y != 0) = true := fun h => by rw [bne_iff_ne.2 h]; rfl
    go_ret2
    exact ⟨by simp only [biR, wordV, *]; first | rfl | (simp [*]; done), rfl⟩
theorem wrap_mod (a : Int) : wrap32 a % 4294967296 = a % 4294967296 := by unfold wrap32; omega
theorem wrap_inj {x y : Int} (hx : 0 ≤ x) (hx1 : x < 4294967296) (hy : 0 ≤ y) (hy1 : y < 4294967296) : (wrap32 x == wrap32 y) = (x == y) := by
  rw [Bool.eq_iff_iff, beq_iff_eq, beq_iff_eq]; unfold wrap32; omega
/-- The integer of a word. -/
def V (x : BitVec 32) : Int := (x.toNat : Int)
theorem ofInt_V (x : BitVec 32) : BitVec.ofInt 32 (V x) = x := by unfold V; rw [BitVec.ofInt_natCast]; exact BitVec.ofNat_toNat 32 x |>.trans (by simp)
theorem wrap_V (x : BitVec 32) : IntKind.u32.wrap ((x.toNat : Nat) : Int) = V x := by
  rw [IntKind.wrap_u32]; unfold V; have := x.isLt; omega
theorem xor_V (x y : BitVec 32) : bits .xor .u32 (V x) (V y) = V (x ^^^ y) := by
  show IntKind.u32.wrap ((BitVec.ofInt 32 (V x) ^^^ BitVec.ofInt 32 (V y)).toNat : Int) = _
  rw [ofInt_V, ofInt_V, wrap_V]
theorem and_V (x y : BitVec 32) : bits .and .u32 (V x) (V y) = V (x &&& y) := by
  show IntKind.u32.wrap ((BitVec.ofInt 32 (V x) &&& BitVec.ofInt 32 (V y)).toNat : Int) = _
  rw [ofInt_V, ofInt_V, wrap_V]
theorem or_V (x y : BitVec 32) : bits .or .u32 (V x) (V y) = V (x ||| y) := by
  show IntKind.u32.wrap ((BitVec.ofInt 32 (V x) ||| BitVec.ofInt 32 (V y)).toNat : Int) = _
  rw [ofInt_V, ofInt_V, wrap_V]
theorem not_V (x : BitVec 32) : bits .xor .u32 IntKind.u32.max (V x) = V (~~~x) := by
  show IntKind.u32.wrap ((BitVec.ofInt 32 IntKind.u32.max ^^^ BitVec.ofInt 32 (V x)).toNat : Int) = _
  rw [ofInt_V, show BitVec.ofInt 32 IntKind.u32.max = BitVec.allOnes 32 from by decide, BitVec.allOnes_xor, wrap_V]
theorem of_V {x : Int} (h : 0 ≤ x) (h1 : x < 4294967296) : ∃ v : BitVec 32, x = V v := ⟨BitVec.ofInt 32 x, by unfold V; rw [BitVec.toNat_ofInt]; omega⟩
theorem V_lt (v : BitVec 32) : 0 ≤ V v ∧ V v < 4294967296 := by unfold V; have := v.isLt; omega
theorem not_int {x : Int} (h : 0 ≤ x) (h1 : x < 4294967296) : bits .xor .u32 IntKind.u32.max x = 4294967295 - x := by
  obtain ⟨v, rfl⟩ := of_V h h1
  rw [not_V]
  unfold V
  have := v.isLt
  rw [BitVec.toNat_not]; omega
theorem un_lt {l : List UInt8} {x : Int} (h : 0 ≤ x) (h1 : x < 4294967296) : 0 ≤ (unR l x).1 ∧ (unR l x).1 < 4294967296 := by
  unfold unR
  split
  · dsimp only; omega
  · split
    · rw [not_int h h1]; dsimp only; omega
    · split
      · unfold tru; dsimp only; split <;> omega
      · dsimp only; omega
theorem tru_lt (b : Bool) : 0 ≤ tru b ∧ tru b < 4294967296 := by unfold tru; split <;> omega
theorem ite_ok {c : Prop} [Decidable c] {P : Int × Bool → Prop} {a b : Int × Bool} (ha : P a) (hb : P b) : P (if c then a else b) := by split <;> assumption
theorem bi_lt {l : List UInt8} {x y : Int} (hx : 0 ≤ x) (hx1 : x < 4294967296) (hy : 0 ≤ y) (hy1 : y < 4294967296) : 0 ≤ (biR l x y).1 ∧ (biR l x y).1 < 4294967296 := by
  obtain ⟨v, rfl⟩ := of_V hx hx1
  obtain ⟨u, rfl⟩ := of_V hy hy1
  have hm : ∀ r : Int, 0 ≤ r % 4294967296 ∧ r % 4294967296 < 4294967296 := fun r => ⟨Int.emod_nonneg _ (by decide), Int.emod_lt_of_pos _ (by decide)⟩
  unfold biR
  repeat' (refine ite_ok (P := fun p => 0 ≤ p.1 ∧ p.1 < 4294967296) ?_ ?_)
  all_goals first
    | exact tru_lt _
    | exact hm _
    | (rw [or_V]; exact V_lt _)
    | (rw [xor_V]; exact V_lt _)
    | (rw [and_V]; exact V_lt _)
    | (dsimp only; omega)
end Go.Proofs.YtndehkoglgakpaaGreatDoor
