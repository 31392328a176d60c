/- The sponge of SHA3-256 as a plain function of bytes. No condition. -/
import Derived.Test.YtmmdldicafbjdaaGreatDoorDgKec
namespace Go.Proofs.YtmmdldicafbjdaaGreatDoor.Dg
namespace Spo
open Kec

def upd (M : St) (j : Nat) (x : BitVec 64) : St := fun t => if t = j then x else M t
def b64 (c : UInt8) : BitVec 64 := BitVec.ofNat 64 c.toNat
/-- A byte combined with the state at place k. -/
def put (S : St) (k : Nat) (c : UInt8) : St := upd S (k / 8) (S (k / 8) ^^^ b64 c <<< (8 * (k % 8)))
def ab1 (p : St × Nat) (c : UInt8) : St × Nat := if p.2 + 1 = 136 then (perm (put p.1 p.2 c), 0) else (put p.1 p.2 c, p.2 + 1)
def ab (p : St × Nat) (l : List UInt8) : St × Nat := l.foldl ab1 p
def zero : St := fun _ => 0#64
def top : BitVec 64 := BitVec.ofNat 64 (2 ^ 63)
def fin (p : St × Nat) : St :=
  let S := put p.1 p.2 6
  perm (upd S 16 (S 16 ^^^ top))
def sq (S : St) : List UInt8 := (List.range 32).map fun i => UInt8.ofNat ((S (i / 8) >>> (8 * (i % 8))).toNat % 256)
def dig (l : List UInt8) : List UInt8 := sq (fin (ab (zero, 0) l))
def word (c0 c1 c2 c3 c4 c5 c6 c7 : UInt8) : BitVec 64 := b64 c0 ||| b64 c1 <<< 8 ||| b64 c2 <<< 16 ||| b64 c3 <<< 24 ||| b64 c4 <<< 32 ||| b64 c5 <<< 40 ||| b64 c6 <<< 48 ||| b64 c7 <<< 56

theorem ab_append (p : St × Nat) (l m : List UInt8) : ab p (l ++ m) = ab (ab p l) m := by unfold ab; rw [List.foldl_append]
theorem ab_cons (p : St × Nat) (c : UInt8) (l : List UInt8) : ab p (c :: l) = ab (ab1 p c) l := rfl
theorem ab1_lt (p : St × Nat) (c : UInt8) (h : p.2 < 136) : (ab1 p c).2 < 136 := by unfold ab1; split <;> simp <;> omega
theorem ab_lt (l : List UInt8) : ∀ p : St × Nat, p.2 < 136 → (ab p l).2 < 136 := by
  induction l with
  | nil => intro p h; exact h
  | cons c l ih => intro p h; rw [ab_cons]; exact ih _ (ab1_lt p c h)
theorem ab_at (l : List UInt8) : ∀ (p : St × Nat), p.2 < 136 → (ab p l).2 = (p.2 + l.length) % 136 := by
  induction l with
  | nil => intro p h; simp [ab]; omega
  | cons c l ih =>
    intro p h
    rw [ab_cons, ih _ (ab1_lt p c h)]
    unfold ab1
    simp only [List.length_cons]
    split
    · simp; omega
    · simp; omega

theorem b64_bit (c : UInt8) (i : Nat) (hi : 8 ≤ i) : (b64 c).getLsbD i = false := by
  unfold b64
  rw [BitVec.getLsbD_ofNat]
  have : c.toNat < 2 ^ i := Nat.lt_of_lt_of_le c.toNat_lt (Nat.pow_le_pow_right (by decide) hi)
  simp [Nat.testBit_lt_two_pow this]
theorem sh_bit (c : UInt8) (j i : Nat) (_hi : i < 64) (hne : i / 8 ≠ j) : (b64 c <<< (8 * j)).getLsbD i = false := by
  rw [BitVec.getLsbD_shiftLeft]
  by_cases h : i < 8 * j
  · simp [h]
  · rw [b64_bit c (i - 8 * j) (by omega)]; simp
theorem word_xor (x : BitVec 64) (c0 c1 c2 c3 c4 c5 c6 c7 : UInt8) :
    x ^^^ b64 c0 <<< (8 * 0) ^^^ b64 c1 <<< (8 * 1) ^^^ b64 c2 <<< (8 * 2) ^^^ b64 c3 <<< (8 * 3) ^^^ b64 c4 <<< (8 * 4) ^^^ b64 c5 <<< (8 * 5) ^^^ b64 c6 <<< (8 * 6) ^^^ b64 c7 <<< (8 * 7) = x ^^^ word c0 c1 c2 c3 c4 c5 c6 c7 := by
  apply BitVec.eq_of_getLsbD_eq
  intro i hi
  have h0 := sh_bit c0 0 i hi
  have h1 := sh_bit c1 1 i hi
  have h2 := sh_bit c2 2 i hi
  have h3 := sh_bit c3 3 i hi
  have h4 := sh_bit c4 4 i hi
  have h5 := sh_bit c5 5 i hi
  have h6 := sh_bit c6 6 i hi
  have h7 := sh_bit c7 7 i hi
  have e : word c0 c1 c2 c3 c4 c5 c6 c7 = b64 c0 <<< (8 * 0) ||| b64 c1 <<< (8 * 1) ||| b64 c2 <<< (8 * 2) ||| b64 c3 <<< (8 * 3) ||| b64 c4 <<< (8 * 4) ||| b64 c5 <<< (8 * 5) ||| b64 c6 <<< (8 * 6) ||| b64 c7 <<< (8 * 7) := by
    unfold word; simp
  rw [e]
  simp only [BitVec.getLsbD_xor, BitVec.getLsbD_or]
  generalize (b64 c0 <<< (8 * 0)).getLsbD i = d0 at *
  generalize (b64 c1 <<< (8 * 1)).getLsbD i = d1 at *
  generalize (b64 c2 <<< (8 * 2)).getLsbD i = d2 at *
  generalize (b64 c3 <<< (8 * 3)).getLsbD i = d3 at *
  generalize (b64 c4 <<< (8 * 4)).getLsbD i = d4 at *
  generalize (b64 c5 <<< (8 * 5)).getLsbD i = d5 at *
  generalize (b64 c6 <<< (8 * 6)).getLsbD i = d6 at *
  generalize (b64 c7 <<< (8 * 7)).getLsbD i = d7 at *
  generalize x.getLsbD i = b at *
  have hq : i / 8 < 8 := by omega
  generalize i / 8 = q at *
  have hc : q = 0 ∨ q = 1 ∨ q = 2 ∨ q = 3 ∨ q = 4 ∨ q = 5 ∨ q = 6 ∨ q = 7 := by omega
  rcases hc with rfl | rfl | rfl | rfl | rfl | rfl | rfl | rfl <;> simp_all

theorem upd_upd (S : St) (j : Nat) (x y : BitVec 64) : upd (upd S j x) j y = upd S j y := by funext t; unfold upd; split <;> rfl
theorem upd_at (S : St) (j : Nat) (x : BitVec 64) : upd S j x j = x := by unfold upd; rw [if_pos rfl]
theorem put_at (S : St) (k j : Nat) (x : BitVec 64) (c : UInt8) (hk : k % 8 = 0) (hj : j < 8) : put (upd S (k / 8) x) (k + j) c = upd S (k / 8) (x ^^^ b64 c <<< (8 * j)) := by
  unfold put
  rw [show (k + j) / 8 = k / 8 from by omega, show (k + j) % 8 = j from by omega, upd_at, upd_upd]
/-- Eight bytes at a place that is a multiple of eight are a word. -/
theorem ab_word (S : St) (k : Nat) (c0 c1 c2 c3 c4 c5 c6 c7 : UInt8) (hk : k % 8 = 0) (_hk8 : k + 8 ≤ 136) :
    ab (S, k) [c0, c1, c2, c3, c4, c5, c6, c7] = (if k + 8 = 136 then (perm (upd S (k / 8) (S (k / 8) ^^^ word c0 c1 c2 c3 c4 c5 c6 c7)), 0) else (upd S (k / 8) (S (k / 8) ^^^ word c0 c1 c2 c3 c4 c5 c6 c7), k + 8)) := by
  have h0 : S = upd S (k / 8) (S (k / 8)) := by funext t; unfold upd; split <;> simp_all
  have step : ∀ (j : Nat) (x : BitVec 64) (c : UInt8), j < 7 → ab1 (upd S (k / 8) x, k + j) c = (upd S (k / 8) (x ^^^ b64 c <<< (8 * j)), k + (j + 1)) := by
    intro j x c hj
    unfold ab1
    rw [if_neg (by simp; omega)]
    simp only [put_at S k j x c hk (by omega)]
    rfl
  have hs : ab (S, k) [c0, c1, c2, c3, c4, c5, c6, c7] = ab1 (ab1 (ab1 (ab1 (ab1 (ab1 (ab1 (ab1 (upd S (k / 8) (S (k / 8)), k + 0) c0) c1) c2) c3) c4) c5) c6) c7 := by
    rw [← h0]; unfold ab; simp only [List.foldl_cons, List.foldl_nil, Nat.add_zero]
  rw [hs, step 0 _ _ (by omega), step 1 _ _ (by omega), step 2 _ _ (by omega), step 3 _ _ (by omega), step 4 _ _ (by omega), step 5 _ _ (by omega), step 6 _ _ (by omega)]
  have h7 : put (upd S (k / 8) (S (k / 8) ^^^ b64 c0 <<< (8 * 0) ^^^ b64 c1 <<< (8 * 1) ^^^ b64 c2 <<< (8 * 2) ^^^ b64 c3 <<< (8 * 3) ^^^ b64 c4 <<< (8 * 4) ^^^ b64 c5 <<< (8 * 5) ^^^ b64 c6 <<< (8 * 6))) (k + 7) c7 = upd S (k / 8) (S (k / 8) ^^^ word c0 c1 c2 c3 c4 c5 c6 c7) := by
    rw [put_at S k 7 _ _ hk (by omega), word_xor]
  unfold ab1
  show (if k + (6 + 1) + 1 = 136 then (perm (put _ (k + (6 + 1)) c7), 0) else (put _ (k + (6 + 1)) c7, k + (6 + 1) + 1)) = _
  rw [show k + (6 + 1) = k + 7 from rfl, h7, show k + 7 + 1 = k + 8 from rfl]
end Spo
end Go.Proofs.YtmmdldicafbjdaaGreatDoor.Dg
