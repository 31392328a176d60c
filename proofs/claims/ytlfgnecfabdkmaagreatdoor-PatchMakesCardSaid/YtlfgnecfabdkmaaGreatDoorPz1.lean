/- The permutation of SHA3-256 as a plain function on words, and that it is injective. No condition.
The sponge of SHA3-256 as a plain function of bytes. No condition.
Words of 64 bits in a walk: each operation on the integers of words is that of the words. No condition.
theta of the permutation: it writes just what the definition says. No condition.
rho and pi of the permutation: the words, rotated, at their new places. No condition.
chi of the permutation. No condition.
Permute returns the permutation. Condition: the round constants lie in their variable. -/
import Derived.KernelRfl
import Derived.Test.YtlfgnecfabdkmaaGreatDoorRows
import Derived.WalkKit
import Derived.WalkSpells
import Derived.WalkLawsBesides
import Derived.BigQuiet
import Derived.Deep.QuietTactic
import Derived.Lib.Hide
import Derived.Deep.OwnRows
import Derived.Deep.LoopGhost
import Derived.Deep.DeepCutAuto
import Derived.StillTailTactics
import Derived.ChangeKeysEq
section
namespace Go.Proofs.YtlfgnecfabdkmaaGreatDoor.Dg
namespace Kec
abbrev St := Nat → BitVec 64
def rot (w : BitVec 64) (n : Nat) : BitVec 64 := w <<< n ||| w >>> (64 - n)
def col (s : St) (x : Nat) : BitVec 64 := s x ^^^ s (x + 5) ^^^ s (x + 10) ^^^ s (x + 15) ^^^ s (x + 20)
def dd (s : St) (x : Nat) : BitVec 64 := col s ((x + 4) % 5) ^^^ rot (col s ((x + 1) % 5)) 1
def theta (s : St) : St := fun i => s i ^^^ dd s (i % 5)
def offs : List Nat := [0, 1, 62, 28, 27, 36, 44, 6, 55, 20, 3, 10, 43, 25, 39, 41, 45, 15, 21, 8, 18, 2, 61, 56, 14]
def src (j : Nat) : Nat := (j % 5 + 3 * (j / 5)) % 5 + 5 * (j % 5)
def rhopi (s : St) : St := fun j => rot (s (src j)) (offs.getD (src j) 0)
def chi (s : St) : St := fun i => s i ^^^ (~~~ s ((i + 1) % 5 + 5 * (i / 5)) &&& s ((i + 2) % 5 + 5 * (i / 5)))
def iota (s : St) (c : BitVec 64) : St := fun i => if i = 0 then s 0 ^^^ c else s i
def round (s : St) (c : BitVec 64) : St := iota (chi (rhopi (theta s))) c
def consts : List Nat := [1, 32898, 9223372036854808714, 9223372039002292224, 32907, 2147483649, 9223372039002292353, 9223372036854808585, 138, 136, 2147516425, 2147483658, 2147516555, 9223372036854775947, 9223372036854808713, 9223372036854808579, 9223372036854808578, 9223372036854775936, 32778, 9223372039002259466, 9223372039002292353, 9223372036854808704, 2147483649, 9223372039002292232]
def const (i : Nat) : BitVec 64 := BitVec.ofNat 64 (consts.getD i 0)
def permN (s : St) : Nat → St
  | 0 => s
  | n + 1 => round (permN s n) (const n)
def perm (s : St) : St := permN s 24
def Same (a b : St) : Prop := ∀ i, i < 25 → a i = b i

theorem rot_bit (a : BitVec 64) (n i : Nat) (hn : n ≤ 64) (hi : i < 64) : (rot a n).getLsbD i = if i < n then a.getLsbD (64 - n + i) else a.getLsbD (i - n) := by
  unfold rot
  simp only [BitVec.getLsbD_or, BitVec.getLsbD_shiftLeft, BitVec.getLsbD_ushiftRight, hi, decide_true, Bool.true_and]
  by_cases h : i < n
  · simp [h]
  · simp only [h, decide_false, Bool.not_false, Bool.true_and, if_false]
    rw [BitVec.getLsbD_of_ge a (64 - n + i) (by omega)]; simp
theorem rot_xor (a b : BitVec 64) (n : Nat) (hn : n ≤ 64) : rot (a ^^^ b) n = rot a n ^^^ rot b n := by
  apply BitVec.eq_of_getLsbD_eq
  intro i hi
  rw [BitVec.getLsbD_xor, rot_bit _ _ _ hn hi, rot_bit _ _ _ hn hi, rot_bit _ _ _ hn hi]
  split <;> rw [BitVec.getLsbD_xor]
theorem rot_rot (a : BitVec 64) (n m : Nat) (h : n + m ≤ 64) : rot (rot a n) m = rot a (n + m) := by
  apply BitVec.eq_of_getLsbD_eq
  intro i hi
  rw [rot_bit _ _ _ (by omega) hi, rot_bit a _ _ h hi]
  by_cases h1 : i < m
  · rw [if_pos h1, if_pos (by omega), rot_bit _ _ _ (by omega) (by omega)]
    by_cases h2 : 64 - m + i < n
    · omega
    · rw [if_neg h2]; congr 1; omega
  · rw [if_neg h1, rot_bit _ _ _ (by omega) (by omega)]
    by_cases h2 : i - m < n
    · rw [if_pos h2, if_pos (by omega)]; congr 1; omega
    · rw [if_neg h2, if_neg (by omega)]; congr 1; omega
theorem rot_64 (a : BitVec 64) : rot a 64 = a := by
  apply BitVec.eq_of_getLsbD_eq
  intro i hi
  rw [rot_bit _ _ _ (by omega) hi, if_pos hi]; congr 1; omega
theorem rot_inj (a b : BitVec 64) (n : Nat) (hn : n ≤ 64) (h : rot a n = rot b n) : a = b := by
  have ha := rot_rot a n (64 - n) (by omega)
  have hb := rot_rot b n (64 - n) (by omega)
  rw [show n + (64 - n) = 64 from by omega, rot_64] at ha hb
  rw [← ha, ← hb, h]

def T (n : Nat) (C : St) : St := fun x => C (x % 5) ^^^ C ((x + 4 * n) % 5) ^^^ rot (C ((x + n) % 5)) n
theorem xor9 (a b c p q r : BitVec 64) : a ^^^ b ^^^ p ^^^ (b ^^^ c ^^^ q) ^^^ (p ^^^ q ^^^ r) = a ^^^ c ^^^ r := by
  apply BitVec.eq_of_getLsbD_eq
  intro i _
  simp only [BitVec.getLsbD_xor]
  cases a.getLsbD i <;> cases b.getLsbD i <;> cases c.getLsbD i <;> cases p.getLsbD i <;> cases q.getLsbD i <;> cases r.getLsbD i <;> rfl
theorem TT (n : Nat) (hn : n ≤ 32) (C : St) : T n (T n C) = T (2 * n) C := by
  funext x
  show (T n C) (x % 5) ^^^ (T n C) ((x + 4 * n) % 5) ^^^ rot ((T n C) ((x + n) % 5)) n = C (x % 5) ^^^ C ((x + 4 * (2 * n)) % 5) ^^^ rot (C ((x + 2 * n) % 5)) (2 * n)
  unfold T
  rw [rot_xor _ _ _ (by omega), rot_xor _ _ _ (by omega), rot_rot _ _ _ (by omega)]
  rw [show x % 5 % 5 = x % 5 from by omega, show (x % 5 + 4 * n) % 5 = (x + 4 * n) % 5 from by omega, show (x % 5 + n) % 5 = (x + n) % 5 from by omega,
    show (x + 4 * n) % 5 % 5 = (x + 4 * n) % 5 from by omega, show ((x + 4 * n) % 5 + 4 * n) % 5 = (x + 4 * (2 * n)) % 5 from by omega, show ((x + 4 * n) % 5 + n) % 5 = x % 5 from by omega,
    show (x + n) % 5 % 5 = (x + n) % 5 from by omega, show ((x + n) % 5 + 4 * n) % 5 = x % 5 from by omega, show ((x + n) % 5 + n) % 5 = (x + 2 * n) % 5 from by omega, show n + n = 2 * n from by omega]
  exact xor9 _ _ _ _ _ _
/-- 64 steps of T 1. -/
def it : Nat → St → St
  | 0, C => C
  | n + 1, C => T 1 (it n C)
theorem it_add (n m : Nat) (C : St) : it (n + m) C = it n (it m C) := by
  induction n with
  | zero => simp [it]
  | succ n ih => rw [Nat.add_right_comm]; show T 1 _ = T 1 _; rw [ih]
theorem it_pow (k : Nat) (hk : k ≤ 6) : ∀ C, it (2 ^ k) C = T (2 ^ k) C := by
  induction k with
  | zero => intro C; rfl
  | succ k ih =>
    intro C
    have hp : 2 ^ k ≤ 2 ^ 5 := Nat.pow_le_pow_right (by decide) (by omega)
    rw [show 2 ^ (k + 1) = 2 ^ k + 2 ^ k from by omega, it_add, ih (by omega), ih (by omega), TT _ hp]
    rw [show 2 * 2 ^ k = 2 ^ k + 2 ^ k from by omega]
theorem it64 (C : St) (x : Nat) : it 64 C x = C (x % 5) ^^^ C ((x + 1) % 5) ^^^ C ((x + 4) % 5) := by
  have h := it_pow 6 (by omega) C
  rw [show (2 : Nat) ^ 6 = 64 from rfl] at h
  rw [h]
  unfold T
  rw [rot_64, show (x + 4 * 64) % 5 = (x + 1) % 5 from by omega, show (x + 64) % 5 = (x + 4) % 5 from by omega]
theorem xor27 (a b c d e : BitVec 64) : (a ^^^ b ^^^ e ^^^ (b ^^^ c ^^^ a) ^^^ (e ^^^ a ^^^ d)) ^^^ (b ^^^ c ^^^ a ^^^ (c ^^^ d ^^^ b) ^^^ (a ^^^ b ^^^ e)) ^^^ (e ^^^ a ^^^ d ^^^ (a ^^^ b ^^^ e) ^^^ (d ^^^ e ^^^ c)) = a := by
  apply BitVec.eq_of_getLsbD_eq
  intro i _
  simp only [BitVec.getLsbD_xor]
  cases a.getLsbD i <;> cases b.getLsbD i <;> cases c.getLsbD i <;> cases d.getLsbD i <;> cases e.getLsbD i <;> rfl
def R (f : St) : St := fun x => f (x % 5) ^^^ f ((x + 1) % 5) ^^^ f ((x + 4) % 5)
theorem R0 (f : St) (x : Nat) : R f (x % 5) = f (x % 5) ^^^ f ((x + 1) % 5) ^^^ f ((x + 4) % 5) := by
  unfold R; rw [show x % 5 % 5 = x % 5 from by omega, show (x % 5 + 1) % 5 = (x + 1) % 5 from by omega, show (x % 5 + 4) % 5 = (x + 4) % 5 from by omega]
theorem R1 (f : St) (x : Nat) : R f ((x + 1) % 5) = f ((x + 1) % 5) ^^^ f ((x + 2) % 5) ^^^ f (x % 5) := by
  unfold R; rw [show (x + 1) % 5 % 5 = (x + 1) % 5 from by omega, show ((x + 1) % 5 + 1) % 5 = (x + 2) % 5 from by omega, show ((x + 1) % 5 + 4) % 5 = x % 5 from by omega]
theorem R2 (f : St) (x : Nat) : R f ((x + 2) % 5) = f ((x + 2) % 5) ^^^ f ((x + 3) % 5) ^^^ f ((x + 1) % 5) := by
  unfold R; rw [show (x + 2) % 5 % 5 = (x + 2) % 5 from by omega, show ((x + 2) % 5 + 1) % 5 = (x + 3) % 5 from by omega, show ((x + 2) % 5 + 4) % 5 = (x + 1) % 5 from by omega]
theorem R3 (f : St) (x : Nat) : R f ((x + 3) % 5) = f ((x + 3) % 5) ^^^ f ((x + 4) % 5) ^^^ f ((x + 2) % 5) := by
  unfold R; rw [show (x + 3) % 5 % 5 = (x + 3) % 5 from by omega, show ((x + 3) % 5 + 1) % 5 = (x + 4) % 5 from by omega, show ((x + 3) % 5 + 4) % 5 = (x + 2) % 5 from by omega]
theorem R4 (f : St) (x : Nat) : R f ((x + 4) % 5) = f ((x + 4) % 5) ^^^ f (x % 5) ^^^ f ((x + 3) % 5) := by
  unfold R; rw [show (x + 4) % 5 % 5 = (x + 4) % 5 from by omega, show ((x + 4) % 5 + 1) % 5 = x % 5 from by omega, show ((x + 4) % 5 + 4) % 5 = (x + 3) % 5 from by omega]
theorem it64R (C : St) : it 64 C = R C := funext fun x => it64 C x
theorem it192 (C : St) (x : Nat) (hx : x < 5) : it 192 C x = C x := by
  rw [show 192 = 64 + (64 + 64) from rfl, it_add, it_add, it64R, it64R, it64R]
  have h : R (R (R C)) (x % 5) = C (x % 5) := by
    rw [R0 (R (R C)) x, R0 (R C) x, R1 (R C) x, R4 (R C) x, R0 C x, R1 C x, R2 C x, R3 C x, R4 C x]
    exact xor27 _ _ _ _ _
  rwa [Nat.mod_eq_of_lt hx] at h
theorem T_congr (C C' : St) (h : ∀ x, x < 5 → C x = C' x) (n : Nat) : T n C = T n C' := by
  funext x; unfold T
  rw [h (x % 5) (by omega), h ((x + 4 * n) % 5) (by omega), h ((x + n) % 5) (by omega)]
theorem it_congr (C C' : St) (h : ∀ x, x < 5 → C x = C' x) (n : Nat) : ∀ x, x < 5 → it n C x = it n C' x := by
  induction n with
  | zero => exact h
  | succ n ih => intro x hx; show T 1 _ x = T 1 _ x; rw [T_congr _ _ ih]
theorem T_inj (C C' : St) (h : ∀ x, x < 5 → T 1 C x = T 1 C' x) : ∀ x, x < 5 → C x = C' x := by
  intro x hx
  have h1 := it192 C x hx
  have h2 := it192 C' x hx
  rw [← h1, ← h2, show 192 = 191 + 1 from rfl, it_add, it_add]
  exact it_congr _ _ h 191 x hx
theorem col_theta (s : St) (x : Nat) (hx : x < 5) : col (theta s) x = T 1 (col s) x := by
  have e : ∀ a b c d f g : BitVec 64, (a ^^^ g) ^^^ (b ^^^ g) ^^^ (c ^^^ g) ^^^ (d ^^^ g) ^^^ (f ^^^ g) = a ^^^ b ^^^ c ^^^ d ^^^ f ^^^ g := by
    intro a b c d f g
    apply BitVec.eq_of_getLsbD_eq
    intro i _
    simp only [BitVec.getLsbD_xor]
    cases a.getLsbD i <;> cases b.getLsbD i <;> cases c.getLsbD i <;> cases d.getLsbD i <;> cases f.getLsbD i <;> cases g.getLsbD i <;> rfl
  show (s x ^^^ dd s (x % 5)) ^^^ (s (x + 5) ^^^ dd s ((x + 5) % 5)) ^^^ (s (x + 10) ^^^ dd s ((x + 10) % 5)) ^^^ (s (x + 15) ^^^ dd s ((x + 15) % 5)) ^^^ (s (x + 20) ^^^ dd s ((x + 20) % 5)) = _
  rw [show (x + 5) % 5 = x % 5 from by omega, show (x + 10) % 5 = x % 5 from by omega, show (x + 15) % 5 = x % 5 from by omega, show (x + 20) % 5 = x % 5 from by omega, e, Nat.mod_eq_of_lt hx]
  show col s x ^^^ (col s ((x + 4) % 5) ^^^ rot (col s ((x + 1) % 5)) 1) = col s (x % 5) ^^^ col s ((x + 4 * 1) % 5) ^^^ rot (col s ((x + 1) % 5)) 1
  rw [Nat.mod_eq_of_lt hx, BitVec.xor_assoc]
theorem col_congr (a b : St) (h : Same a b) (x : Nat) (hx : x < 5) : col a x = col b x := by
  unfold col; rw [h x (by omega), h (x + 5) (by omega), h (x + 10) (by omega), h (x + 15) (by omega), h (x + 20) (by omega)]
theorem theta_inj (a b : St) (h : Same (theta a) (theta b)) : Same a b := by
  have hc : ∀ x, x < 5 → col a x = col b x := T_inj _ _ fun x hx => by rw [← col_theta a x hx, ← col_theta b x hx]; exact col_congr _ _ h x hx
  intro i hi
  have h1 : a i ^^^ dd a (i % 5) = b i ^^^ dd b (i % 5) := h i hi
  have h2 : dd a (i % 5) = dd b (i % 5) := by
    unfold dd; rw [hc _ (Nat.mod_lt _ (by decide)), hc _ (Nat.mod_lt _ (by decide))]
  rw [h2] at h1
  have := congrArg (· ^^^ dd b (i % 5)) h1
  simpa [BitVec.xor_assoc] using this
theorem offs_le : ∀ j, j < 25 → offs.getD (src j) 0 ≤ 64 := by decide
theorem src_onto : ∀ i, i < 25 → ∃ j, j < 25 ∧ src j = i := by decide
theorem rhopi_inj (a b : St) (h : Same (rhopi a) (rhopi b)) : Same a b := by
  intro i hi
  obtain ⟨j, hj, rfl⟩ := src_onto i hi
  exact rot_inj _ _ _ (offs_le j hj) (h j hj)
theorem bit_chi : ∀ a0 a1 a2 a3 a4 b0 b1 b2 b3 b4 : Bool, (a0 ^^ (!a1 && a2)) = (b0 ^^ (!b1 && b2)) → (a1 ^^ (!a2 && a3)) = (b1 ^^ (!b2 && b3)) → (a2 ^^ (!a3 && a4)) = (b2 ^^ (!b3 && b4)) → (a3 ^^ (!a4 && a0)) = (b3 ^^ (!b4 && b0)) → (a4 ^^ (!a0 && a1)) = (b4 ^^ (!b0 && b1)) → a0 = b0 := by decide
theorem chi_inj (a b : St) (h : Same (chi a) (chi b)) : Same a b := by
  intro i hi
  apply BitVec.eq_of_getLsbD_eq
  intro n hn
  have g : ∀ k, ((a ((i + k) % 5 + 5 * (i / 5))).getLsbD n ^^ (!(a ((i + (k + 1)) % 5 + 5 * (i / 5))).getLsbD n && (a ((i + (k + 2)) % 5 + 5 * (i / 5))).getLsbD n)) =
      ((b ((i + k) % 5 + 5 * (i / 5))).getLsbD n ^^ (!(b ((i + (k + 1)) % 5 + 5 * (i / 5))).getLsbD n && (b ((i + (k + 2)) % 5 + 5 * (i / 5))).getLsbD n)) := by
    intro k
    have h1 := congrArg (fun w => BitVec.getLsbD w n) (h ((i + k) % 5 + 5 * (i / 5)) (by omega))
    simp only [chi, BitVec.getLsbD_xor, BitVec.getLsbD_and, BitVec.getLsbD_not, hn, decide_true, Bool.true_and] at h1
    rw [show ((i + k) % 5 + 5 * (i / 5)) / 5 = i / 5 from by omega, show ((i + k) % 5 + 5 * (i / 5) + 1) % 5 = (i + (k + 1)) % 5 from by omega, show ((i + k) % 5 + 5 * (i / 5) + 2) % 5 = (i + (k + 2)) % 5 from by omega] at h1
    exact h1
  have g0 := g 0
  have g1 := g 1
  have g2 := g 2
  have g3 := g 3
  have g4 := g 4
  have e0 : (i + 0) % 5 + 5 * (i / 5) = i := by omega
  have e5 : (i + (3 + 2)) % 5 = (i + 0) % 5 := by omega
  have e5' : (i + (4 + 1)) % 5 = (i + 0) % 5 := by omega
  have e6 : (i + (4 + 2)) % 5 = (i + 1) % 5 := by omega
  rw [e5, e0] at g3
  rw [e5', e6, e0] at g4
  rw [e0] at g0
  exact bit_chi _ _ _ _ _ _ _ _ _ _ g0 g1 g2 g3 g4
theorem iota_inj (a b : St) (c : BitVec 64) (h : Same (iota a c) (iota b c)) : Same a b := by
  intro i hi
  have h1 := h i hi
  unfold iota at h1
  by_cases h0 : i = 0
  · subst h0
    simp only [if_true] at h1
    have := congrArg (· ^^^ c) h1
    simpa [BitVec.xor_assoc] using this
  · simpa [h0] using h1
theorem permN_inj (a b : St) (n : Nat) (h : Same (permN a n) (permN b n)) : Same a b := by
  induction n with
  | zero => exact h
  | succ n ih => exact ih (theta_inj _ _ (rhopi_inj _ _ (chi_inj _ _ (iota_inj _ _ _ h))))
theorem perm_inj (a b : St) (h : Same (perm a) (perm b)) : Same a b := permN_inj a b 24 h
theorem round_congr (a b : St) (c : BitVec 64) (h : Same a b) : Same (round a c) (round b c) := by
  have ht : Same (theta a) (theta b) := fun i hi => by
    unfold theta dd
    rw [h i hi, col_congr _ _ h _ (Nat.mod_lt _ (by decide)), col_congr _ _ h _ (Nat.mod_lt _ (by decide))]
  have hr : Same (rhopi (theta a)) (rhopi (theta b)) := fun j hj => by
    unfold rhopi
    rw [ht _ (by unfold src; omega)]
  have hc : Same (chi (rhopi (theta a))) (chi (rhopi (theta b))) := fun i hi => by
    unfold chi
    rw [hr i hi, hr _ (by omega), hr _ (by omega)]
  intro i hi
  unfold round iota
  rw [hc i hi, hc 0 (by omega)]
theorem permN_congr (a b : St) (h : Same a b) (n : Nat) : Same (permN a n) (permN b n) := by
  induction n with
  | zero => exact h
  | succ n ih => exact round_congr _ _ _ ih
end Kec
end Go.Proofs.YtlfgnecfabdkmaaGreatDoor.Dg
end
section
namespace Go.Proofs.YtlfgnecfabdkmaaGreatDoor.Dg
namespace Spo
open Kec

def upd (M : St) (j : Nat) (x : BitVec 64) : St := fun t => if t = j then x else M t
def b64 (c : UInt8) : BitVec 64 := BitVec.ofNat 64 c.toNat
/-- A byte combined with the state at place k. -/
def put (S : St) (k : Nat) (c : UInt8) : St := upd S (k / 8) (S (k / 8) ^^^ b64 c <<< (8 * (k % 8)))
def ab1 (p : St × Nat) (c : UInt8) : St × Nat := if p.2 + 1 = 136 then (perm (put p.1 p.2 c), 0) else (put p.1 p.2 c, p.2 + 1)
def ab (p : St × Nat) (l : List UInt8) : St × Nat := l.foldl ab1 p
def zero : St := fun _ => 0#64
def top : BitVec 64 := BitVec.ofNat 64 (2 ^ 63)
def fin (p : St × Nat) : St :=
  let S := put p.1 p.2 6
  perm (upd S 16 (S 16 ^^^ top))
def sq (S : St) : List UInt8 := (List.range 32).map fun i => UInt8.ofNat ((S (i / 8) >>> (8 * (i % 8))).toNat % 256)
def dig (l : List UInt8) : List UInt8 := sq (fin (ab (zero, 0) l))
def word (c0 c1 c2 c3 c4 c5 c6 c7 : UInt8) : BitVec 64 := b64 c0 ||| b64 c1 <<< 8 ||| b64 c2 <<< 16 ||| b64 c3 <<< 24 ||| b64 c4 <<< 32 ||| b64 c5 <<< 40 ||| b64 c6 <<< 48 ||| b64 c7 <<< 56

theorem ab_append (p : St × Nat) (l m : List UInt8) : ab p (l ++ m) = ab (ab p l) m := by unfold ab; rw [List.foldl_append]
theorem ab_cons (p : St × Nat) (c : UInt8) (l : List UInt8) : ab p (c :: l) = ab (ab1 p c) l := rfl
theorem ab1_lt (p : St × Nat) (c : UInt8) (h : p.2 < 136) : (ab1 p c).2 < 136 := by unfold ab1; split <;> simp <;> omega
theorem ab_lt (l : List UInt8) : ∀ p : St × Nat, p.2 < 136 → (ab p l).2 < 136 := by
  induction l with
  | nil => intro p h; exact h
  | cons c l ih => intro p h; rw [ab_cons]; exact ih _ (ab1_lt p c h)
theorem ab_at (l : List UInt8) : ∀ (p : St × Nat), p.2 < 136 → (ab p l).2 = (p.2 + l.length) % 136 := by
  induction l with
  | nil => intro p h; simp [ab]; omega
  | cons c l ih =>
    intro p h
    rw [ab_cons, ih _ (ab1_lt p c h)]
    unfold ab1
    simp only [List.length_cons]
    split
    · simp; omega
    · simp; omega

theorem b64_bit (c : UInt8) (i : Nat) (hi : 8 ≤ i) : (b64 c).getLsbD i = false := by
  unfold b64
  rw [BitVec.getLsbD_ofNat]
  have : c.toNat < 2 ^ i := Nat.lt_of_lt_of_le c.toNat_lt (Nat.pow_le_pow_right (by decide) hi)
  simp [Nat.testBit_lt_two_pow this]
theorem sh_bit (c : UInt8) (j i : Nat) (_hi : i < 64) (hne : i / 8 ≠ j) : (b64 c <<< (8 * j)).getLsbD i = false := by
  rw [BitVec.getLsbD_shiftLeft]
  by_cases h : i < 8 * j
  · simp [h]
  · rw [b64_bit c (i - 8 * j) (by omega)]; simp
theorem word_xor (x : BitVec 64) (c0 c1 c2 c3 c4 c5 c6 c7 : UInt8) :
    x ^^^ b64 c0 <<< (8 * 0) ^^^ b64 c1 <<< (8 * 1) ^^^ b64 c2 <<< (8 * 2) ^^^ b64 c3 <<< (8 * 3) ^^^ b64 c4 <<< (8 * 4) ^^^ b64 c5 <<< (8 * 5) ^^^ b64 c6 <<< (8 * 6) ^^^ b64 c7 <<< (8 * 7) = x ^^^ word c0 c1 c2 c3 c4 c5 c6 c7 := by
  apply BitVec.eq_of_getLsbD_eq
  intro i hi
  have h0 := sh_bit c0 0 i hi
  have h1 := sh_bit c1 1 i hi
  have h2 := sh_bit c2 2 i hi
  have h3 := sh_bit c3 3 i hi
  have h4 := sh_bit c4 4 i hi
  have h5 := sh_bit c5 5 i hi
  have h6 := sh_bit c6 6 i hi
  have h7 := sh_bit c7 7 i hi
  have e : word c0 c1 c2 c3 c4 c5 c6 c7 = b64 c0 <<< (8 * 0) ||| b64 c1 <<< (8 * 1) ||| b64 c2 <<< (8 * 2) ||| b64 c3 <<< (8 * 3) ||| b64 c4 <<< (8 * 4) ||| b64 c5 <<< (8 * 5) ||| b64 c6 <<< (8 * 6) ||| b64 c7 <<< (8 * 7) := by
    unfold word; simp
  rw [e]
  simp only [BitVec.getLsbD_xor, BitVec.getLsbD_or]
  generalize (b64 c0 <<< (8 * 0)).getLsbD i = d0 at *
  generalize (b64 c1 <<< (8 * 1)).getLsbD i = d1 at *
  generalize (b64 c2 <<< (8 * 2)).getLsbD i = d2 at *
  generalize (b64 c3 <<< (8 * 3)).getLsbD i = d3 at *
  generalize (b64 c4 <<< (8 * 4)).getLsbD i = d4 at *
  generalize (b64 c5 <<< (8 * 5)).getLsbD i = d5 at *
  generalize (b64 c6 <<< (8 * 6)).getLsbD i = d6 at *
  generalize (b64 c7 <<< (8 * 7)).getLsbD i = d7 at *
  generalize x.getLsbD i = b at *
  have hq : i / 8 < 8 := by omega
  generalize i / 8 = q at *
  have hc : q = 0 ∨ q = 1 ∨ q = 2 ∨ q = 3 ∨ q = 4 ∨ q = 5 ∨ q = 6 ∨ q = 7 := by omega
  rcases hc with rfl | rfl | rfl | rfl | rfl | rfl | rfl | rfl <;> simp_all

theorem upd_upd (S : St) (j : Nat) (x y : BitVec 64) : upd (upd S j x) j y = upd S j y := by funext t; unfold upd; split <;> rfl
theorem upd_at (S : St) (j : Nat) (x : BitVec 64) : upd S j x j = x := by unfold upd; rw [if_pos rfl]
theorem put_at (S : St) (k j : Nat) (x : BitVec 64) (c : UInt8) (hk : k % 8 = 0) (hj : j < 8) : put (upd S (k / 8) x) (k + j) c = upd S (k / 8) (x ^^^ b64 c <<< (8 * j)) := by
  unfold put
  rw [show (k + j) / 8 = k / 8 from by omega, show (k + j) % 8 = j from by omega, upd_at, upd_upd]
/-- Eight bytes at a place that is a multiple of eight are a word. -/
theorem ab_word (S : St) (k : Nat) (c0 c1 c2 c3 c4 c5 c6 c7 : UInt8) (hk : k % 8 = 0) (_hk8 : k + 8 ≤ 136) :
    ab (S, k) [c0, c1, c2, c3, c4, c5, c6, c7] = (if k + 8 = 136 then (perm (upd S (k / 8) (S (k / 8) ^^^ word c0 c1 c2 c3 c4 c5 c6 c7)), 0) else (upd S (k / 8) (S (k / 8) ^^^ word c0 c1 c2 c3 c4 c5 c6 c7), k + 8)) := by
  have h0 : S = upd S (k / 8) (S (k / 8)) := by funext t; unfold upd; split <;> simp_all
  have step : ∀ (j : Nat) (x : BitVec 64) (c : UInt8), j < 7 → ab1 (upd S (k / 8) x, k + j) c = (upd S (k / 8) (x ^^^ b64 c <<< (8 * j)), k + (j + 1)) := by
    intro j x c hj
    unfold ab1
    rw [if_neg (by simp; omega)]
    simp only [put_at S k j x c hk (by omega)]
    rfl
  have hs : ab (S, k) [c0, c1, c2, c3, c4, c5, c6, c7] = ab1 (ab1 (ab1 (ab1 (ab1 (ab1 (ab1 (ab1 (upd S (k / 8) (S (k / 8)), k + 0) c0) c1) c2) c3) c4) c5) c6) c7 := by
    rw [← h0]; unfold ab; simp only [List.foldl_cons, List.foldl_nil, Nat.add_zero]
  rw [hs, step 0 _ _ (by omega), step 1 _ _ (by omega), step 2 _ _ (by omega), step 3 _ _ (by omega), step 4 _ _ (by omega), step 5 _ _ (by omega), step 6 _ _ (by omega)]
  have h7 : put (upd S (k / 8) (S (k / 8) ^^^ b64 c0 <<< (8 * 0) ^^^ b64 c1 <<< (8 * 1) ^^^ b64 c2 <<< (8 * 2) ^^^ b64 c3 <<< (8 * 3) ^^^ b64 c4 <<< (8 * 4) ^^^ b64 c5 <<< (8 * 5) ^^^ b64 c6 <<< (8 * 6))) (k + 7) c7 = upd S (k / 8) (S (k / 8) ^^^ word c0 c1 c2 c3 c4 c5 c6 c7) := by
    rw [put_at S k 7 _ _ hk (by omega), word_xor]
  unfold ab1
  show (if k + (6 + 1) + 1 = 136 then (perm (put _ (k + (6 + 1)) c7), 0) else (put _ (k + (6 + 1)) c7, k + (6 + 1) + 1)) = _
  rw [show k + (6 + 1) = k + 7 from rfl, h7, show k + 7 + 1 = k + 8 from rfl]
end Spo
end Go.Proofs.YtlfgnecfabdkmaaGreatDoor.Dg
end
section
namespace Go.Proofs.YtlfgnecfabdkmaaGreatDoor.Dg
open Go.RowKit

/-- The integer of a word. -/
def U (x : BitVec 64) : Int := (x.toNat : Int)
theorem U_nonneg (x : BitVec 64) : 0 ≤ U x := Int.natCast_nonneg _
theorem U_lt (x : BitVec 64) : U x < 18446744073709551616 := by unfold U; have := x.isLt; omega
theorem ofInt_U (x : BitVec 64) : BitVec.ofInt 64 (U x) = x := by unfold U; rw [BitVec.ofInt_natCast]; exact BitVec.ofNat_toNat 64 x |>.trans (by simp)
theorem wrap_U (x : BitVec 64) : IntKind.u64.wrap ((x.toNat : Nat) : Int) = U x := by
  rw [IntKind.wrap_u64]; unfold U; have := x.isLt; omega
@[go_sem] theorem xor_U (x y : BitVec 64) : bits .xor .u64 (U x) (U y) = U (x ^^^ y) := by
  show IntKind.u64.wrap ((BitVec.ofInt 64 (U x) ^^^ BitVec.ofInt 64 (U y)).toNat : Int) = _
  rw [ofInt_U, ofInt_U, wrap_U]
@[go_sem] theorem and_U (x y : BitVec 64) : bits .and .u64 (U x) (U y) = U (x &&& y) := by
  show IntKind.u64.wrap ((BitVec.ofInt 64 (U x) &&& BitVec.ofInt 64 (U y)).toNat : Int) = _
  rw [ofInt_U, ofInt_U, wrap_U]
@[go_sem] theorem or_U (x y : BitVec 64) : bits .or .u64 (U x) (U y) = U (x ||| y) := by
  show IntKind.u64.wrap ((BitVec.ofInt 64 (U x) ||| BitVec.ofInt 64 (U y)).toNat : Int) = _
  rw [ofInt_U, ofInt_U, wrap_U]
@[go_sem] theorem not_U (x : BitVec 64) : bits .xor .u64 IntKind.u64.max (U x) = U (~~~x) := by
  show IntKind.u64.wrap ((BitVec.ofInt 64 IntKind.u64.max ^^^ BitVec.ofInt 64 (U x)).toNat : Int) = _
  rw [ofInt_U, show BitVec.ofInt 64 IntKind.u64.max = BitVec.allOnes 64 from by decide, BitVec.allOnes_xor, wrap_U]
@[go_sem] theorem not_U' (x : BitVec 64) : bits .xor .u64 (if IntKind.u64.signed = true then -1 else IntKind.u64.max) (U x) = U (~~~x) := by
  rw [show (if IntKind.u64.signed = true then -1 else IntKind.u64.max) = IntKind.u64.max from rfl]; exact not_U x
theorem shl_U (x : BitVec 64) (n : Nat) : IntKind.u64.wrap (U x * 2 ^ n) = U (x <<< n) := by
  rw [IntKind.wrap_u64]; unfold U
  rw [BitVec.toNat_shiftLeft, Nat.shiftLeft_eq, Int.natCast_emod, Int.natCast_mul, Int.natCast_pow]
  rfl
theorem shr_U (x : BitVec 64) (n : Nat) : U x / 2 ^ n = U (x >>> n) := by
  unfold U
  rw [BitVec.toNat_ushiftRight, Nat.shiftRight_eq_div_pow]
  push_cast
  rfl

theorem u64_and63 (k : Nat) (hk : k < 64) : bits .and .u64 (k : Int) 63 = (k : Int) := by
  have h := u64_and_nat k 63 (by omega) (by omega)
  rw [show ((63 : Nat) : Int) = 63 from rfl] at h
  rw [h, show (63 : Nat) = 2 ^ 6 - 1 from rfl, Nat.and_two_pow_sub_one_eq_mod, Nat.mod_eq_of_lt (by omega)]

set_option maxHeartbeats 400000 in
theorem rotl_any (x : BitVec 64) (k : Nat) (hk : k < 64) (w : World) :
    Calls Tryz.prog 129 #[.int .u64 (U x), .int .i64 k] w fun e w' => e = .returned (.int .u64 (U (Kec.rot x k))) ∧ w = w' := by
  have h63 := u64_and63 k hk
  go_enter Tryz.func129, Tryz.ntmps129
  go_wp2
  go_ret
  exact ⟨by rw [shl_U, shr_U, or_U]; rfl, rfl⟩

set_option maxHeartbeats 400000 in
theorem rot_any (x : BitVec 64) (k : Nat) (hk : k < 64) (w : World) :
    Calls Tryz.prog 113 #[.int .u64 (U x), .int .i64 k] w fun e w' => e = .returned (.int .u64 (U (Kec.rot x k))) ∧ w = w' := by
  go_enter Tryz.func113, Tryz.ntmps113
  go_wp2
  go_ret
  exact ⟨by rw [shl_U, shr_U, or_U]; rfl, rfl⟩
end Go.Proofs.YtlfgnecfabdkmaaGreatDoor.Dg
end
section
namespace Go.Proofs.YtlfgnecfabdkmaaGreatDoor.Dg
open Go.RowKit

/-- Block b holds the 25 words of a state. -/
def IsSt (w : World) (b : Nat) (A : Kec.St) : Prop := w.rowIs b 105 25 (fun i => .int .u64 (U (A i)))

theorem IsSt.cell {w : World} {b : Nat} {A : Kec.St} (h : IsSt w b A) (i : Nat) (hi : i < 25) : w.cell? ⟨b, i, none⟩ = some (.int .u64 (U (A i))) := World.rowIs.cell h hi

theorem only_drewN {a w : World} {row : Option Nat} (h : a.grownBy w row) (n : Nat) : a.grownBy (w.drewN n) row := ⟨h.os, h.tape, h.output, h.size, h.block⟩
theorem only_drew {a w : World} {row : Option Nat} (h : a.grownBy w row) : a.grownBy w.drew row := ⟨h.os, h.tape, h.output, h.size, h.block⟩
theorem wp_gen {P : Program} {c : Code} {Q : Exit → Act → World → Prop} {a : Act} {w : World} (R : World → Prop) (hR : R w) (h : ∀ w', R w' → Code.wp P c Q a w') : Code.wp P c Q a w := h w hR
theorem grown_drew5 {a w : World} {row : Option Nat} (h : a.grownBy w row) : a.grownBy w.drew.drew.drew.drew.drew row := ⟨h.os, h.tape, h.output, h.size, h.block⟩
theorem only_alloc {a w : World} {row : Option Nat} (h : a.grownBy w row) (o : Obj) : a.grownBy (w.alloc o) row :=
  ⟨h.os, h.tape, h.output, Nat.le_trans h.size (by simp), fun i hi hne => (Below.heap_alloc w o i (Nat.lt_of_lt_of_le hi h.size)).trans (h.block i hi hne)⟩
theorem only_setCell {a w : World} {g : Nat} (h : a.grownBy w (some g)) {p : Addr} (hp : p.block = g ∨ a.heap.size ≤ p.block) (u : Value) : a.grownBy (w.setCell p u) (some g) :=
  ⟨h.os, h.tape, h.output, by simpa [World.setCell] using h.size, fun i hi hne => (Below.heap_setCell w p u i (by
    rintro rfl
    rcases hp with hp | hp
    · exact hne (by rw [hp])
    · omega)).trans (h.block i hi hne)⟩

def upd (M : Kec.St) (j : Nat) (x : BitVec 64) : Kec.St := fun t => if t = j then x else M t
theorem IsSt.frozen {w : World} {b : Nat} {A : Kec.St} (h : IsSt w b A) (i : Nat) : w.frozen? ⟨b, i, none⟩ = false := World.rowIs.frozen h i

theorem IsSt.drewN {w : World} {b : Nat} {A : Kec.St} (h : IsSt w b A) (n : Nat) : IsSt (w.drewN n) b A := h
theorem IsSt.set_ {w : World} {b : Nat} {A : Kec.St} (h : IsSt w b A) (i : Nat) (x : BitVec 64) : IsSt (w.setCell ⟨b, i, none⟩ (.int .u64 (U x))) b (fun j => if j = i then x else A j) :=
  World.rowIs.congr (World.rowIs.set h i _) fun j _ => by dsimp only; split <;> rfl
theorem IsSt.congr {w : World} {b : Nat} {A B : Kec.St} (h : IsSt w b A) (e : Kec.Same A B) : IsSt w b B := World.rowIs.congr h fun i hi => by rw [e i hi]

/-- From the world w on, block b alone has turned, and holds B now. -/
structure ThAt (w w' : World) (b : Nat) (B : Kec.St) : Prop where
  s : IsSt w' b B
  g : w.grownBy w' (some b)
theorem ThAt.step {w w' : World} {b : Nat} {B : Kec.St} (h : ThAt w w' b B) (j : Nat) (x : BitVec 64) : ThAt w (w'.setCell ⟨b, j, none⟩ (.int .u64 (U x))).drew b (upd B j x) :=
  ⟨h.s.set_ j x, only_drew (only_setCell h.g (.inl rfl) _)⟩

def mixT (A : Kec.St) (y : Nat) : Kec.St := fun i => if i < y then Kec.theta A i else A i

set_option maxHeartbeats 8000000 in
set_option maxRecDepth 100000 in
theorem theta_any (A : Kec.St) (b : Nat) (w : World) (h : IsSt w b A) :
    Calls Tryz.prog 110 #[.pointer (some ⟨b, 0, none⟩)] w fun e w' => e = .returned (.tuple #[]) ∧ IsSt w' b (Kec.theta A) ∧ w.grownBy w' (some b) := by
  have c0 := h.cell 0 (by decide)
  have c1 := h.cell 1 (by decide)
  have c2 := h.cell 2 (by decide)
  have c3 := h.cell 3 (by decide)
  have c4 := h.cell 4 (by decide)
  have c5 := h.cell 5 (by decide)
  have c6 := h.cell 6 (by decide)
  have c7 := h.cell 7 (by decide)
  have c8 := h.cell 8 (by decide)
  have c9 := h.cell 9 (by decide)
  have c10 := h.cell 10 (by decide)
  have c11 := h.cell 11 (by decide)
  have c12 := h.cell 12 (by decide)
  have c13 := h.cell 13 (by decide)
  have c14 := h.cell 14 (by decide)
  have c15 := h.cell 15 (by decide)
  have c16 := h.cell 16 (by decide)
  have c17 := h.cell 17 (by decide)
  have c18 := h.cell 18 (by decide)
  have c19 := h.cell 19 (by decide)
  have c20 := h.cell 20 (by decide)
  have c21 := h.cell 21 (by decide)
  have c22 := h.cell 22 (by decide)
  have c23 := h.cell 23 (by decide)
  have c24 := h.cell 24 (by decide)
  have e0 : A 0 ^^^ A 5 ^^^ A 10 ^^^ A 15 ^^^ A 20 = Kec.col A 0 := rfl
  have e1 : A 1 ^^^ A 6 ^^^ A 11 ^^^ A 16 ^^^ A 21 = Kec.col A 1 := rfl
  have e2 : A 2 ^^^ A 7 ^^^ A 12 ^^^ A 17 ^^^ A 22 = Kec.col A 2 := rfl
  have e3 : A 3 ^^^ A 8 ^^^ A 13 ^^^ A 18 ^^^ A 23 = Kec.col A 3 := rfl
  have e4 : A 4 ^^^ A 9 ^^^ A 14 ^^^ A 19 ^^^ A 24 = Kec.col A 4 := rfl
  have g0 : Kec.col A 4 ^^^ Kec.rot (Kec.col A 1) 1 = Kec.dd A 0 := rfl
  have g1 : Kec.col A 0 ^^^ Kec.rot (Kec.col A 2) 1 = Kec.dd A 1 := rfl
  have g2 : Kec.col A 1 ^^^ Kec.rot (Kec.col A 3) 1 = Kec.dd A 2 := rfl
  have g3 : Kec.col A 2 ^^^ Kec.rot (Kec.col A 4) 1 = Kec.dd A 3 := rfl
  have g4 : Kec.col A 3 ^^^ Kec.rot (Kec.col A 0) 1 = Kec.dd A 4 := rfl
  go_enter Tryz.func110, Tryz.ntmps110
  go_wp2_with fail
  go_quiet (fail)
  go_wp2_with fail
  go_quiet (fail)
  go_wp2_with fail
  go_quiet (fail)
  go_wp2_with fail
  go_quiet (fail)
  go_wp2_with fail
  go_quiet (fail)
  go_wp2_with (go_at_call 129; refine (rotl_any _ 1 (by decide) _).mono ?_; rintro e w' ⟨rfl, rfl⟩)
  go_loopw [12] (fun v wr => ∃ y : Nat, y ≤ 25 ∧ y % 5 = 0 ∧ v = .int .i64 y ∧ IsSt wr b (mixT A y) ∧ w.grownBy wr (some b)) (fun v _ => 25 - (intOf v).toNat)
  case atStart => exact ⟨0, by omega, by omega, rfl, (h.drewN _).congr fun i _ => by unfold mixT; rw [if_neg (by omega)], only_drewN ⟨rfl, rfl, rfl, Nat.le_refl _, fun _ _ _ => rfl⟩ _⟩
  case round =>
    obtain ⟨y, hy, hm, rfl, hS, hg⟩ := hrel
    clear e0 e1 e2 e3 e4 g0 g1 g2 g3 g4
    clear c0 c1 c2 c3 c4 c5 c6 c7 c8 c9 c10 c11 c12 c13 c14 c15 c16 c17 c18 c19 c20 c21 c22 c23 c24
    by_cases hlt : y < 25
    · have H : ThAt w wr b (mixT A y) := ⟨hS, hg⟩
      clear hS hg
      have hm' := Lib.hid hm
      have hy4 : y + 4 < 25 := by omega
      clear hm
      have e : ∀ j, j < 5 → mixT A y (y + j) = A (y + j) := fun j _ => by unfold mixT; rw [if_neg (by omega)]
      have e0 := e 0 (by decide)
      have e1 := e 1 (by decide)
      have e2 := e 2 (by decide)
      have e3 := e 3 (by decide)
      have e4 := e 4 (by decide)
      rw [Nat.add_zero] at e0
      have u1 : upd (mixT A y) y (A y ^^^ Kec.dd A 0) (y + 1) = A (y + 1) := by unfold upd; rw [if_neg (by omega), e1]
      have u2 : upd (upd (mixT A y) y (A y ^^^ Kec.dd A 0)) (y + 1) (A (y + 1) ^^^ Kec.dd A 1) (y + 2) = A (y + 2) := by unfold upd; rw [if_neg (by omega), if_neg (by omega), e2]
      have u3 : upd (upd (upd (mixT A y) y (A y ^^^ Kec.dd A 0)) (y + 1) (A (y + 1) ^^^ Kec.dd A 1)) (y + 2) (A (y + 2) ^^^ Kec.dd A 2) (y + 3) = A (y + 3) := by unfold upd; rw [if_neg (by omega), if_neg (by omega), if_neg (by omega), e3]
      have u4 : upd (upd (upd (upd (mixT A y) y (A y ^^^ Kec.dd A 0)) (y + 1) (A (y + 1) ^^^ Kec.dd A 1)) (y + 2) (A (y + 2) ^^^ Kec.dd A 2)) (y + 3) (A (y + 3) ^^^ Kec.dd A 3) (y + 4) = A (y + 4) := by unfold upd; rw [if_neg (by omega), if_neg (by omega), if_neg (by omega), if_neg (by omega), e4]
      have U1 := Lib.hid u1
      have U2 := Lib.hid u2
      have U3 := Lib.hid u3
      have U4 := Lib.hid u4
      clear u1 u2 u3 u4 e e1 e2 e3 e4
      have c := H.s.cell y (by omega)
      rw [e0] at c
      clear e0
      have f := H.s.frozen y
      go_wp2
      go_region
      go_wp2_with fail
      clear c f
      refine wp_gen (fun w' => ThAt w w' b (upd (mixT A y) y (A y ^^^ Kec.dd A 0))) (H.step y (A y ^^^ Kec.dd A 0)) ?_
      clear H
      intro wa H
      have c := H.s.cell (y + 1) (by omega)
      rw [U1.out] at c
      have f := H.s.frozen (y + 1)
      have i1 : IntKind.i64.wrap ((y : Int) + 1) = (y : Int) + 1 := IntWalk.i64_in _ (by omega)
      have i2 : ((y : Int) + 1).toNat = y + 1 := by omega
      have i3 : 0 ≤ (y : Int) + 1 := by omega
      have i4 : (y : Int) + 1 < 25 := by omega
      go_region
      go_wp2_with fail
      clear c f i1 i2 i3 i4
      refine wp_gen (fun w' => ThAt w w' b (upd (upd (mixT A y) y (A y ^^^ Kec.dd A 0)) (y + 1) (A (y + 1) ^^^ Kec.dd A 1))) (H.step (y + 1) (A (y + 1) ^^^ Kec.dd A 1)) ?_
      clear H
      intro wa H
      have c := H.s.cell (y + 2) (by omega)
      rw [U2.out] at c
      have f := H.s.frozen (y + 2)
      have i1 : IntKind.i64.wrap ((y : Int) + 2) = (y : Int) + 2 := IntWalk.i64_in _ (by omega)
      have i2 : ((y : Int) + 2).toNat = y + 2 := by omega
      have i3 : 0 ≤ (y : Int) + 2 := by omega
      have i4 : (y : Int) + 2 < 25 := by omega
      go_region
      go_wp2_with fail
      clear c f i1 i2 i3 i4
      refine wp_gen (fun w' => ThAt w w' b (upd (upd (upd (mixT A y) y (A y ^^^ Kec.dd A 0)) (y + 1) (A (y + 1) ^^^ Kec.dd A 1)) (y + 2) (A (y + 2) ^^^ Kec.dd A 2))) (H.step (y + 2) (A (y + 2) ^^^ Kec.dd A 2)) ?_
      clear H
      intro wa H
      have c := H.s.cell (y + 3) (by omega)
      rw [U3.out] at c
      have f := H.s.frozen (y + 3)
      have i1 : IntKind.i64.wrap ((y : Int) + 3) = (y : Int) + 3 := IntWalk.i64_in _ (by omega)
      have i2 : ((y : Int) + 3).toNat = y + 3 := by omega
      have i3 : 0 ≤ (y : Int) + 3 := by omega
      have i4 : (y : Int) + 3 < 25 := by omega
      go_region
      go_wp2_with fail
      clear c f i1 i2 i3 i4
      refine wp_gen (fun w' => ThAt w w' b (upd (upd (upd (upd (mixT A y) y (A y ^^^ Kec.dd A 0)) (y + 1) (A (y + 1) ^^^ Kec.dd A 1)) (y + 2) (A (y + 2) ^^^ Kec.dd A 2)) (y + 3) (A (y + 3) ^^^ Kec.dd A 3))) (H.step (y + 3) (A (y + 3) ^^^ Kec.dd A 3)) ?_
      clear H
      intro wa H
      have c := H.s.cell (y + 4) (by omega)
      rw [U4.out] at c
      have f := H.s.frozen (y + 4)
      have i1 : IntKind.i64.wrap ((y : Int) + 4) = (y : Int) + 4 := IntWalk.i64_in _ (by omega)
      have i2 : ((y : Int) + 4).toNat = y + 4 := by omega
      have i3 : 0 ≤ (y : Int) + 4 := by omega
      have i4 : (y : Int) + 4 < 25 := by omega
      go_region
      go_wp2_with fail
      clear c f i1 i2 i3 i4
      have H5 := H.step (y + 4) (A (y + 4) ^^^ Kec.dd A 4)
      refine ⟨⟨y + 5, by omega, by have := hm'.out; omega, by go_num, H5.s.congr fun i _ => ?_, H5.g⟩, by simp [intOf]; omega⟩
      have hm := hm'.out
      have t : ∀ j, j < 5 → Kec.theta A (y + j) = A (y + j) ^^^ Kec.dd A j := fun j hj => by
        unfold Kec.theta; rw [show (y + j) % 5 = j from by omega]
      have t0 := t 0 (by decide)
      rw [Nat.add_zero] at t0
      unfold mixT upd
      by_cases i4 : i = y + 4
      · rw [if_pos i4, if_pos (by omega), i4, t 4 (by decide)]
      rw [if_neg i4]
      by_cases i3 : i = y + 3
      · rw [if_pos i3, if_pos (by omega), i3, t 3 (by decide)]
      rw [if_neg i3]
      by_cases i2 : i = y + 2
      · rw [if_pos i2, if_pos (by omega), i2, t 2 (by decide)]
      rw [if_neg i2]
      by_cases i1 : i = y + 1
      · rw [if_pos i1, if_pos (by omega), i1, t 1 (by decide)]
      rw [if_neg i1]
      by_cases i0 : i = y
      · rw [if_pos i0, if_pos (by omega), i0, t0]
      rw [if_neg i0]
      show (if i < y then Kec.theta A i else A i) = _
      by_cases hi : i < y
      · rw [if_pos hi, if_pos (by omega)]
      · rw [if_neg hi, if_neg (by omega)]
    · obtain rfl : y = 25 := by omega
      clear hm
      go_wp2
      go_end0
      exact ⟨rfl, hS.congr fun i hi => by unfold mixT; rw [if_pos hi], hg⟩
end Go.Proofs.YtlfgnecfabdkmaaGreatDoor.Dg
end
section
namespace Go.Proofs.YtlfgnecfabdkmaaGreatDoor.Dg
open Go.RowKit

theorem region_tail {P : Program} {id : Nat} {Q : Exit → Act → World → Prop} {a : Act} {w : World} {l : List Oper} (n : Nat) (R : World → Prop) (hm : P.follows .mixedOrders = true) (hB : Region.lexTailB .any l.toArray n = true)
    (hR : R w.drew) (h : ∀ w1, R w1 → wpStill P l.toArray w1 (fun a' => wpList P l.toArray Q (l.drop n) a' w1) (l.take n) a) : (Code.region id l.toArray true).wp P Q a w := wp_region_still_tail n hm hB (h w.drew hR)

structure RhoAt (w w' : World) (b b2 : Nat) (A M : Kec.St) : Prop where
  s : IsSt w' b A
  m : IsSt w' b2 M
  g : w.grownBy w' (some b2)
theorem rotl_q (x : BitVec 64) (k : Nat) (hk : k < 64) (w : World) :
    Calls Tryz.prog 129 #[.int .u64 (U x), .int .i64 k] w fun e w' => e = .returned (.int .u64 (U (Kec.rot x k))) ∧ w' = w :=
  (rotl_any x k hk w).mono fun _ _ h => ⟨h.1, h.2.symm⟩
theorem RhoAt.drew {w w' : World} {b b2 : Nat} {A M : Kec.St} (h : RhoAt w w' b b2 A M) : RhoAt w w'.drew b b2 A M := ⟨h.s, h.m, only_drew h.g⟩
theorem RhoAt.put_ {w w' : World} {b b2 : Nat} {A M : Kec.St} (h : RhoAt w w' b b2 A M) (hne : b ≠ b2) (j : Nat) (x : BitVec 64) : RhoAt w (w'.setCell ⟨b2, j, none⟩ (.int .u64 (U x))) b b2 A (upd M j x) :=
  ⟨World.rowIs.setOther h.s (a := ⟨b2, j, none⟩) hne _, h.m.set_ j x, only_setCell h.g (.inl rfl) _⟩
theorem RhoAt.step {w w' : World} {b b2 : Nat} {A M : Kec.St} (h : RhoAt w w' b b2 A M) (hne : b ≠ b2) (j : Nat) (x : BitVec 64) : RhoAt w (w'.setCell ⟨b2, j, none⟩ (.int .u64 (U x))).drew b b2 A (upd M j x) :=
  ⟨World.rowIs.setOther h.s (a := ⟨b2, j, none⟩) hne _, h.m.set_ j x, only_drew (only_setCell h.g (.inl rfl) _)⟩

/-- The words that were moved after the first k regions. -/
def mv (A M : Kec.St) : List (Nat × Nat × Nat) → Kec.St
  | [] => upd M 0 (A 0)
  | (j, i, n) :: l => upd (mv A M l) j (Kec.rot (A i) n)

set_option maxRecDepth 100000 in
theorem mv_all (A M : Kec.St) : Kec.Same (mv A M [(4, 24, 14), (19, 23, 56), (9, 22, 61), (24, 21, 2), (14, 20, 18), (13, 19, 8), (3, 18, 21), (18, 17, 15), (8, 16, 45), (23, 15, 41), (22, 14, 39), (12, 13, 25), (2, 12, 43), (17, 11, 10), (7, 10, 3), (6, 9, 20), (21, 8, 55), (11, 7, 6), (1, 6, 44), (16, 5, 36), (15, 4, 27), (5, 3, 28), (20, 2, 62), (10, 1, 1)]) (Kec.rhopi A) := by
  have z : Kec.rot (A 0) 0 = A 0 := by unfold Kec.rot; simp [BitVec.ushiftRight_eq_zero]
  intro i hi
  have hc : i = 0 ∨ i = 1 ∨ i = 2 ∨ i = 3 ∨ i = 4 ∨ i = 5 ∨ i = 6 ∨ i = 7 ∨ i = 8 ∨ i = 9 ∨ i = 10 ∨ i = 11 ∨ i = 12 ∨ i = 13 ∨ i = 14 ∨ i = 15 ∨ i = 16 ∨ i = 17 ∨ i = 18 ∨ i = 19 ∨ i = 20 ∨ i = 21 ∨ i = 22 ∨ i = 23 ∨ i = 24 := by omega
  rcases hc with rfl | rfl | rfl | rfl | rfl | rfl | rfl | rfl | rfl | rfl | rfl | rfl | rfl | rfl | rfl | rfl | rfl | rfl | rfl | rfl | rfl | rfl | rfl | rfl | rfl <;> first | exact z.symm | rfl

set_option maxHeartbeats 4000000 in
set_option maxRecDepth 100000 in
theorem rho_any (A M : Kec.St) (b b2 : Nat) (w : World) (hne : b ≠ b2) (hS : IsSt w b A) (hM : IsSt w b2 M) :
    Calls Tryz.prog 111 #[.pointer (some ⟨b2, 0, none⟩), .pointer (some ⟨b, 0, none⟩)] w fun e w' => e = .returned (.tuple #[]) ∧ IsSt w' b2 (Kec.rhopi A) ∧ w.grownBy w' (some b2) := by
  have H : RhoAt w w b b2 A M := ⟨hS, hM, ⟨rfl, rfl, rfl, Nat.le_refl _, fun _ _ _ => rfl⟩⟩
  clear hS hM
  go_enter Tryz.func111, Tryz.ntmps111
  go_wp2_with fail
  have c := H.s.cell 0 (by decide)
  have d := H.m.cell 0 (by decide)
  have f := H.m.frozen 0
  go_region
  go_wp2_with fail
  clear c d f
  refine wp_gen (fun w' => RhoAt w w' b b2 A (mv A M [])) (H.step hne 0 (A 0)) ?_
  clear H
  intro w1 H
  refine region_tail 8 (fun w' => RhoAt w w' b b2 A (mv A M [])) (by kernel_rfl) (by kernel_rfl) H.drew ?_
  clear H
  intro w1 H
  have c := H.s.cell 1 (by decide)
  have d := H.m.cell 10 (by decide)
  have f := H.m.frozen 10
  simp only [List.take_succ_cons, List.take_zero, List.drop_succ_cons, List.drop_zero]
  still_step
  still_step
  still_step
  still_step
  still_step
  still_call (rotl_q _ 1 (by decide) _)
  still_step
  still_step
  refine wpStill_nil ?_
  go_wp2_with fail
  clear c d f
  refine wp_gen (fun w' => RhoAt w w' b b2 A (mv A M [(10, 1, 1)])) (H.put_ hne 10 (Kec.rot (A 1) 1)) ?_
  clear H
  intro w1 H
  refine region_tail 8 (fun w' => RhoAt w w' b b2 A (mv A M [(10, 1, 1)])) (by kernel_rfl) (by kernel_rfl) H.drew ?_
  clear H
  intro w1 H
  have c := H.s.cell 2 (by decide)
  have d := H.m.cell 20 (by decide)
  have f := H.m.frozen 20
  simp only [List.take_succ_cons, List.take_zero, List.drop_succ_cons, List.drop_zero]
  still_step
  still_step
  still_step
  still_step
  still_step
  still_call (rotl_q _ 62 (by decide) _)
  still_step
  still_step
  refine wpStill_nil ?_
  go_wp2_with fail
  clear c d f
  refine wp_gen (fun w' => RhoAt w w' b b2 A (mv A M [(20, 2, 62), (10, 1, 1)])) (H.put_ hne 20 (Kec.rot (A 2) 62)) ?_
  clear H
  intro w1 H
  refine region_tail 8 (fun w' => RhoAt w w' b b2 A (mv A M [(20, 2, 62), (10, 1, 1)])) (by kernel_rfl) (by kernel_rfl) H.drew ?_
  clear H
  intro w1 H
  have c := H.s.cell 3 (by decide)
  have d := H.m.cell 5 (by decide)
  have f := H.m.frozen 5
  simp only [List.take_succ_cons, List.take_zero, List.drop_succ_cons, List.drop_zero]
  still_step
  still_step
  still_step
  still_step
  still_step
  still_call (rotl_q _ 28 (by decide) _)
  still_step
  still_step
  refine wpStill_nil ?_
  go_wp2_with fail
  clear c d f
  refine wp_gen (fun w' => RhoAt w w' b b2 A (mv A M [(5, 3, 28), (20, 2, 62), (10, 1, 1)])) (H.put_ hne 5 (Kec.rot (A 3) 28)) ?_
  clear H
  intro w1 H
  refine region_tail 8 (fun w' => RhoAt w w' b b2 A (mv A M [(5, 3, 28), (20, 2, 62), (10, 1, 1)])) (by kernel_rfl) (by kernel_rfl) H.drew ?_
  clear H
  intro w1 H
  have c := H.s.cell 4 (by decide)
  have d := H.m.cell 15 (by decide)
  have f := H.m.frozen 15
  simp only [List.take_succ_cons, List.take_zero, List.drop_succ_cons, List.drop_zero]
  still_step
  still_step
  still_step
  still_step
  still_step
  still_call (rotl_q _ 27 (by decide) _)
  still_step
  still_step
  refine wpStill_nil ?_
  go_wp2_with fail
  clear c d f
  refine wp_gen (fun w' => RhoAt w w' b b2 A (mv A M [(15, 4, 27), (5, 3, 28), (20, 2, 62), (10, 1, 1)])) (H.put_ hne 15 (Kec.rot (A 4) 27)) ?_
  clear H
  intro w1 H
  refine region_tail 8 (fun w' => RhoAt w w' b b2 A (mv A M [(15, 4, 27), (5, 3, 28), (20, 2, 62), (10, 1, 1)])) (by kernel_rfl) (by kernel_rfl) H.drew ?_
  clear H
  intro w1 H
  have c := H.s.cell 5 (by decide)
  have d := H.m.cell 16 (by decide)
  have f := H.m.frozen 16
  simp only [List.take_succ_cons, List.take_zero, List.drop_succ_cons, List.drop_zero]
  still_step
  still_step
  still_step
  still_step
  still_step
  still_call (rotl_q _ 36 (by decide) _)
  still_step
  still_step
  refine wpStill_nil ?_
  go_wp2_with fail
  clear c d f
  refine wp_gen (fun w' => RhoAt w w' b b2 A (mv A M [(16, 5, 36), (15, 4, 27), (5, 3, 28), (20, 2, 62), (10, 1, 1)])) (H.put_ hne 16 (Kec.rot (A 5) 36)) ?_
  clear H
  intro w1 H
  refine region_tail 8 (fun w' => RhoAt w w' b b2 A (mv A M [(16, 5, 36), (15, 4, 27), (5, 3, 28), (20, 2, 62), (10, 1, 1)])) (by kernel_rfl) (by kernel_rfl) H.drew ?_
  clear H
  intro w1 H
  have c := H.s.cell 6 (by decide)
  have d := H.m.cell 1 (by decide)
  have f := H.m.frozen 1
  simp only [List.take_succ_cons, List.take_zero, List.drop_succ_cons, List.drop_zero]
  still_step
  still_step
  still_step
  still_step
  still_step
  still_call (rotl_q _ 44 (by decide) _)
  still_step
  still_step
  refine wpStill_nil ?_
  go_wp2_with fail
  clear c d f
  refine wp_gen (fun w' => RhoAt w w' b b2 A (mv A M [(1, 6, 44), (16, 5, 36), (15, 4, 27), (5, 3, 28), (20, 2, 62), (10, 1, 1)])) (H.put_ hne 1 (Kec.rot (A 6) 44)) ?_
  clear H
  intro w1 H
  refine region_tail 8 (fun w' => RhoAt w w' b b2 A (mv A M [(1, 6, 44), (16, 5, 36), (15, 4, 27), (5, 3, 28), (20, 2, 62), (10, 1, 1)])) (by kernel_rfl) (by kernel_rfl) H.drew ?_
  clear H
  intro w1 H
  have c := H.s.cell 7 (by decide)
  have d := H.m.cell 11 (by decide)
  have f := H.m.frozen 11
  simp only [List.take_succ_cons, List.take_zero, List.drop_succ_cons, List.drop_zero]
  still_step
  still_step
  still_step
  still_step
  still_step
  still_call (rotl_q _ 6 (by decide) _)
  still_step
  still_step
  refine wpStill_nil ?_
  go_wp2_with fail
  clear c d f
  refine wp_gen (fun w' => RhoAt w w' b b2 A (mv A M [(11, 7, 6), (1, 6, 44), (16, 5, 36), (15, 4, 27), (5, 3, 28), (20, 2, 62), (10, 1, 1)])) (H.put_ hne 11 (Kec.rot (A 7) 6)) ?_
  clear H
  intro w1 H
  refine region_tail 8 (fun w' => RhoAt w w' b b2 A (mv A M [(11, 7, 6), (1, 6, 44), (16, 5, 36), (15, 4, 27), (5, 3, 28), (20, 2, 62), (10, 1, 1)])) (by kernel_rfl) (by kernel_rfl) H.drew ?_
  clear H
  intro w1 H
  have c := H.s.cell 8 (by decide)
  have d := H.m.cell 21 (by decide)
  have f := H.m.frozen 21
  simp only [List.take_succ_cons, List.take_zero, List.drop_succ_cons, List.drop_zero]
  still_step
  still_step
  still_step
  still_step
  still_step
  still_call (rotl_q _ 55 (by decide) _)
  still_step
  still_step
  refine wpStill_nil ?_
  go_wp2_with fail
  clear c d f
  refine wp_gen (fun w' => RhoAt w w' b b2 A (mv A M [(21, 8, 55), (11, 7, 6), (1, 6, 44), (16, 5, 36), (15, 4, 27), (5, 3, 28), (20, 2, 62), (10, 1, 1)])) (H.put_ hne 21 (Kec.rot (A 8) 55)) ?_
  clear H
  intro w1 H
  refine region_tail 8 (fun w' => RhoAt w w' b b2 A (mv A M [(21, 8, 55), (11, 7, 6), (1, 6, 44), (16, 5, 36), (15, 4, 27), (5, 3, 28), (20, 2, 62), (10, 1, 1)])) (by kernel_rfl) (by kernel_rfl) H.drew ?_
  clear H
  intro w1 H
  have c := H.s.cell 9 (by decide)
  have d := H.m.cell 6 (by decide)
  have f := H.m.frozen 6
  simp only [List.take_succ_cons, List.take_zero, List.drop_succ_cons, List.drop_zero]
  still_step
  still_step
  still_step
  still_step
  still_step
  still_call (rotl_q _ 20 (by decide) _)
  still_step
  still_step
  refine wpStill_nil ?_
  go_wp2_with fail
  clear c d f
  refine wp_gen (fun w' => RhoAt w w' b b2 A (mv A M [(6, 9, 20), (21, 8, 55), (11, 7, 6), (1, 6, 44), (16, 5, 36), (15, 4, 27), (5, 3, 28), (20, 2, 62), (10, 1, 1)])) (H.put_ hne 6 (Kec.rot (A 9) 20)) ?_
  clear H
  intro w1 H
  refine region_tail 8 (fun w' => RhoAt w w' b b2 A (mv A M [(6, 9, 20), (21, 8, 55), (11, 7, 6), (1, 6, 44), (16, 5, 36), (15, 4, 27), (5, 3, 28), (20, 2, 62), (10, 1, 1)])) (by kernel_rfl) (by kernel_rfl) H.drew ?_
  clear H
  intro w1 H
  have c := H.s.cell 10 (by decide)
  have d := H.m.cell 7 (by decide)
  have f := H.m.frozen 7
  simp only [List.take_succ_cons, List.take_zero, List.drop_succ_cons, List.drop_zero]
  still_step
  still_step
  still_step
  still_step
  still_step
  still_call (rotl_q _ 3 (by decide) _)
  still_step
  still_step
  refine wpStill_nil ?_
  go_wp2_with fail
  clear c d f
  refine wp_gen (fun w' => RhoAt w w' b b2 A (mv A M [(7, 10, 3), (6, 9, 20), (21, 8, 55), (11, 7, 6), (1, 6, 44), (16, 5, 36), (15, 4, 27), (5, 3, 28), (20, 2, 62), (10, 1, 1)])) (H.put_ hne 7 (Kec.rot (A 10) 3)) ?_
  clear H
  intro w1 H
  refine region_tail 8 (fun w' => RhoAt w w' b b2 A (mv A M [(7, 10, 3), (6, 9, 20), (21, 8, 55), (11, 7, 6), (1, 6, 44), (16, 5, 36), (15, 4, 27), (5, 3, 28), (20, 2, 62), (10, 1, 1)])) (by kernel_rfl) (by kernel_rfl) H.drew ?_
  clear H
  intro w1 H
  have c := H.s.cell 11 (by decide)
  have d := H.m.cell 17 (by decide)
  have f := H.m.frozen 17
  simp only [List.take_succ_cons, List.take_zero, List.drop_succ_cons, List.drop_zero]
  still_step
  still_step
  still_step
  still_step
  still_step
  still_call (rotl_q _ 10 (by decide) _)
  still_step
  still_step
  refine wpStill_nil ?_
  go_wp2_with fail
  clear c d f
  refine wp_gen (fun w' => RhoAt w w' b b2 A (mv A M [(17, 11, 10), (7, 10, 3), (6, 9, 20), (21, 8, 55), (11, 7, 6), (1, 6, 44), (16, 5, 36), (15, 4, 27), (5, 3, 28), (20, 2, 62), (10, 1, 1)])) (H.put_ hne 17 (Kec.rot (A 11) 10)) ?_
  clear H
  intro w1 H
  refine region_tail 8 (fun w' => RhoAt w w' b b2 A (mv A M [(17, 11, 10), (7, 10, 3), (6, 9, 20), (21, 8, 55), (11, 7, 6), (1, 6, 44), (16, 5, 36), (15, 4, 27), (5, 3, 28), (20, 2, 62), (10, 1, 1)])) (by kernel_rfl) (by kernel_rfl) H.drew ?_
  clear H
  intro w1 H
  have c := H.s.cell 12 (by decide)
  have d := H.m.cell 2 (by decide)
  have f := H.m.frozen 2
  simp only [List.take_succ_cons, List.take_zero, List.drop_succ_cons, List.drop_zero]
  still_step
  still_step
  still_step
  still_step
  still_step
  still_call (rotl_q _ 43 (by decide) _)
  still_step
  still_step
  refine wpStill_nil ?_
  go_wp2_with fail
  clear c d f
  refine wp_gen (fun w' => RhoAt w w' b b2 A (mv A M [(2, 12, 43), (17, 11, 10), (7, 10, 3), (6, 9, 20), (21, 8, 55), (11, 7, 6), (1, 6, 44), (16, 5, 36), (15, 4, 27), (5, 3, 28), (20, 2, 62), (10, 1, 1)])) (H.put_ hne 2 (Kec.rot (A 12) 43)) ?_
  clear H
  intro w1 H
  refine region_tail 8 (fun w' => RhoAt w w' b b2 A (mv A M [(2, 12, 43), (17, 11, 10), (7, 10, 3), (6, 9, 20), (21, 8, 55), (11, 7, 6), (1, 6, 44), (16, 5, 36), (15, 4, 27), (5, 3, 28), (20, 2, 62), (10, 1, 1)])) (by kernel_rfl) (by kernel_rfl) H.drew ?_
  clear H
  intro w1 H
  have c := H.s.cell 13 (by decide)
  have d := H.m.cell 12 (by decide)
  have f := H.m.frozen 12
  simp only [List.take_succ_cons, List.take_zero, List.drop_succ_cons, List.drop_zero]
  still_step
  still_step
  still_step
  still_step
  still_step
  still_call (rotl_q _ 25 (by decide) _)
  still_step
  still_step
  refine wpStill_nil ?_
  go_wp2_with fail
  clear c d f
  refine wp_gen (fun w' => RhoAt w w' b b2 A (mv A M [(12, 13, 25), (2, 12, 43), (17, 11, 10), (7, 10, 3), (6, 9, 20), (21, 8, 55), (11, 7, 6), (1, 6, 44), (16, 5, 36), (15, 4, 27), (5, 3, 28), (20, 2, 62), (10, 1, 1)])) (H.put_ hne 12 (Kec.rot (A 13) 25)) ?_
  clear H
  intro w1 H
  refine region_tail 8 (fun w' => RhoAt w w' b b2 A (mv A M [(12, 13, 25), (2, 12, 43), (17, 11, 10), (7, 10, 3), (6, 9, 20), (21, 8, 55), (11, 7, 6), (1, 6, 44), (16, 5, 36), (15, 4, 27), (5, 3, 28), (20, 2, 62), (10, 1, 1)])) (by kernel_rfl) (by kernel_rfl) H.drew ?_
  clear H
  intro w1 H
  have c := H.s.cell 14 (by decide)
  have d := H.m.cell 22 (by decide)
  have f := H.m.frozen 22
  simp only [List.take_succ_cons, List.take_zero, List.drop_succ_cons, List.drop_zero]
  still_step
  still_step
  still_step
  still_step
  still_step
  still_call (rotl_q _ 39 (by decide) _)
  still_step
  still_step
  refine wpStill_nil ?_
  go_wp2_with fail
  clear c d f
  refine wp_gen (fun w' => RhoAt w w' b b2 A (mv A M [(22, 14, 39), (12, 13, 25), (2, 12, 43), (17, 11, 10), (7, 10, 3), (6, 9, 20), (21, 8, 55), (11, 7, 6), (1, 6, 44), (16, 5, 36), (15, 4, 27), (5, 3, 28), (20, 2, 62), (10, 1, 1)])) (H.put_ hne 22 (Kec.rot (A 14) 39)) ?_
  clear H
  intro w1 H
  refine region_tail 8 (fun w' => RhoAt w w' b b2 A (mv A M [(22, 14, 39), (12, 13, 25), (2, 12, 43), (17, 11, 10), (7, 10, 3), (6, 9, 20), (21, 8, 55), (11, 7, 6), (1, 6, 44), (16, 5, 36), (15, 4, 27), (5, 3, 28), (20, 2, 62), (10, 1, 1)])) (by kernel_rfl) (by kernel_rfl) H.drew ?_
  clear H
  intro w1 H
  have c := H.s.cell 15 (by decide)
  have d := H.m.cell 23 (by decide)
  have f := H.m.frozen 23
  simp only [List.take_succ_cons, List.take_zero, List.drop_succ_cons, List.drop_zero]
  still_step
  still_step
  still_step
  still_step
  still_step
  still_call (rotl_q _ 41 (by decide) _)
  still_step
  still_step
  refine wpStill_nil ?_
  go_wp2_with fail
  clear c d f
  refine wp_gen (fun w' => RhoAt w w' b b2 A (mv A M [(23, 15, 41), (22, 14, 39), (12, 13, 25), (2, 12, 43), (17, 11, 10), (7, 10, 3), (6, 9, 20), (21, 8, 55), (11, 7, 6), (1, 6, 44), (16, 5, 36), (15, 4, 27), (5, 3, 28), (20, 2, 62), (10, 1, 1)])) (H.put_ hne 23 (Kec.rot (A 15) 41)) ?_
  clear H
  intro w1 H
  refine region_tail 8 (fun w' => RhoAt w w' b b2 A (mv A M [(23, 15, 41), (22, 14, 39), (12, 13, 25), (2, 12, 43), (17, 11, 10), (7, 10, 3), (6, 9, 20), (21, 8, 55), (11, 7, 6), (1, 6, 44), (16, 5, 36), (15, 4, 27), (5, 3, 28), (20, 2, 62), (10, 1, 1)])) (by kernel_rfl) (by kernel_rfl) H.drew ?_
  clear H
  intro w1 H
  have c := H.s.cell 16 (by decide)
  have d := H.m.cell 8 (by decide)
  have f := H.m.frozen 8
  simp only [List.take_succ_cons, List.take_zero, List.drop_succ_cons, List.drop_zero]
  still_step
  still_step
  still_step
  still_step
  still_step
  still_call (rotl_q _ 45 (by decide) _)
  still_step
  still_step
  refine wpStill_nil ?_
  go_wp2_with fail
  clear c d f
  refine wp_gen (fun w' => RhoAt w w' b b2 A (mv A M [(8, 16, 45), (23, 15, 41), (22, 14, 39), (12, 13, 25), (2, 12, 43), (17, 11, 10), (7, 10, 3), (6, 9, 20), (21, 8, 55), (11, 7, 6), (1, 6, 44), (16, 5, 36), (15, 4, 27), (5, 3, 28), (20, 2, 62), (10, 1, 1)])) (H.put_ hne 8 (Kec.rot (A 16) 45)) ?_
  clear H
  intro w1 H
  refine region_tail 8 (fun w' => RhoAt w w' b b2 A (mv A M [(8, 16, 45), (23, 15, 41), (22, 14, 39), (12, 13, 25), (2, 12, 43), (17, 11, 10), (7, 10, 3), (6, 9, 20), (21, 8, 55), (11, 7, 6), (1, 6, 44), (16, 5, 36), (15, 4, 27), (5, 3, 28), (20, 2, 62), (10, 1, 1)])) (by kernel_rfl) (by kernel_rfl) H.drew ?_
  clear H
  intro w1 H
  have c := H.s.cell 17 (by decide)
  have d := H.m.cell 18 (by decide)
  have f := H.m.frozen 18
  simp only [List.take_succ_cons, List.take_zero, List.drop_succ_cons, List.drop_zero]
  still_step
  still_step
  still_step
  still_step
  still_step
  still_call (rotl_q _ 15 (by decide) _)
  still_step
  still_step
  refine wpStill_nil ?_
  go_wp2_with fail
  clear c d f
  refine wp_gen (fun w' => RhoAt w w' b b2 A (mv A M [(18, 17, 15), (8, 16, 45), (23, 15, 41), (22, 14, 39), (12, 13, 25), (2, 12, 43), (17, 11, 10), (7, 10, 3), (6, 9, 20), (21, 8, 55), (11, 7, 6), (1, 6, 44), (16, 5, 36), (15, 4, 27), (5, 3, 28), (20, 2, 62), (10, 1, 1)])) (H.put_ hne 18 (Kec.rot (A 17) 15)) ?_
  clear H
  intro w1 H
  refine region_tail 8 (fun w' => RhoAt w w' b b2 A (mv A M [(18, 17, 15), (8, 16, 45), (23, 15, 41), (22, 14, 39), (12, 13, 25), (2, 12, 43), (17, 11, 10), (7, 10, 3), (6, 9, 20), (21, 8, 55), (11, 7, 6), (1, 6, 44), (16, 5, 36), (15, 4, 27), (5, 3, 28), (20, 2, 62), (10, 1, 1)])) (by kernel_rfl) (by kernel_rfl) H.drew ?_
  clear H
  intro w1 H
  have c := H.s.cell 18 (by decide)
  have d := H.m.cell 3 (by decide)
  have f := H.m.frozen 3
  simp only [List.take_succ_cons, List.take_zero, List.drop_succ_cons, List.drop_zero]
  still_step
  still_step
  still_step
  still_step
  still_step
  still_call (rotl_q _ 21 (by decide) _)
  still_step
  still_step
  refine wpStill_nil ?_
  go_wp2_with fail
  clear c d f
  refine wp_gen (fun w' => RhoAt w w' b b2 A (mv A M [(3, 18, 21), (18, 17, 15), (8, 16, 45), (23, 15, 41), (22, 14, 39), (12, 13, 25), (2, 12, 43), (17, 11, 10), (7, 10, 3), (6, 9, 20), (21, 8, 55), (11, 7, 6), (1, 6, 44), (16, 5, 36), (15, 4, 27), (5, 3, 28), (20, 2, 62), (10, 1, 1)])) (H.put_ hne 3 (Kec.rot (A 18) 21)) ?_
  clear H
  intro w1 H
  refine region_tail 8 (fun w' => RhoAt w w' b b2 A (mv A M [(3, 18, 21), (18, 17, 15), (8, 16, 45), (23, 15, 41), (22, 14, 39), (12, 13, 25), (2, 12, 43), (17, 11, 10), (7, 10, 3), (6, 9, 20), (21, 8, 55), (11, 7, 6), (1, 6, 44), (16, 5, 36), (15, 4, 27), (5, 3, 28), (20, 2, 62), (10, 1, 1)])) (by kernel_rfl) (by kernel_rfl) H.drew ?_
  clear H
  intro w1 H
  have c := H.s.cell 19 (by decide)
  have d := H.m.cell 13 (by decide)
  have f := H.m.frozen 13
  simp only [List.take_succ_cons, List.take_zero, List.drop_succ_cons, List.drop_zero]
  still_step
  still_step
  still_step
  still_step
  still_step
  still_call (rotl_q _ 8 (by decide) _)
  still_step
  still_step
  refine wpStill_nil ?_
  go_wp2_with fail
  clear c d f
  refine wp_gen (fun w' => RhoAt w w' b b2 A (mv A M [(13, 19, 8), (3, 18, 21), (18, 17, 15), (8, 16, 45), (23, 15, 41), (22, 14, 39), (12, 13, 25), (2, 12, 43), (17, 11, 10), (7, 10, 3), (6, 9, 20), (21, 8, 55), (11, 7, 6), (1, 6, 44), (16, 5, 36), (15, 4, 27), (5, 3, 28), (20, 2, 62), (10, 1, 1)])) (H.put_ hne 13 (Kec.rot (A 19) 8)) ?_
  clear H
  intro w1 H
  refine region_tail 8 (fun w' => RhoAt w w' b b2 A (mv A M [(13, 19, 8), (3, 18, 21), (18, 17, 15), (8, 16, 45), (23, 15, 41), (22, 14, 39), (12, 13, 25), (2, 12, 43), (17, 11, 10), (7, 10, 3), (6, 9, 20), (21, 8, 55), (11, 7, 6), (1, 6, 44), (16, 5, 36), (15, 4, 27), (5, 3, 28), (20, 2, 62), (10, 1, 1)])) (by kernel_rfl) (by kernel_rfl) H.drew ?_
  clear H
  intro w1 H
  have c := H.s.cell 20 (by decide)
  have d := H.m.cell 14 (by decide)
  have f := H.m.frozen 14
  simp only [List.take_succ_cons, List.take_zero, List.drop_succ_cons, List.drop_zero]
  still_step
  still_step
  still_step
  still_step
  still_step
  still_call (rotl_q _ 18 (by decide) _)
  still_step
  still_step
  refine wpStill_nil ?_
  go_wp2_with fail
  clear c d f
  refine wp_gen (fun w' => RhoAt w w' b b2 A (mv A M [(14, 20, 18), (13, 19, 8), (3, 18, 21), (18, 17, 15), (8, 16, 45), (23, 15, 41), (22, 14, 39), (12, 13, 25), (2, 12, 43), (17, 11, 10), (7, 10, 3), (6, 9, 20), (21, 8, 55), (11, 7, 6), (1, 6, 44), (16, 5, 36), (15, 4, 27), (5, 3, 28), (20, 2, 62), (10, 1, 1)])) (H.put_ hne 14 (Kec.rot (A 20) 18)) ?_
  clear H
  intro w1 H
  refine region_tail 8 (fun w' => RhoAt w w' b b2 A (mv A M [(14, 20, 18), (13, 19, 8), (3, 18, 21), (18, 17, 15), (8, 16, 45), (23, 15, 41), (22, 14, 39), (12, 13, 25), (2, 12, 43), (17, 11, 10), (7, 10, 3), (6, 9, 20), (21, 8, 55), (11, 7, 6), (1, 6, 44), (16, 5, 36), (15, 4, 27), (5, 3, 28), (20, 2, 62), (10, 1, 1)])) (by kernel_rfl) (by kernel_rfl) H.drew ?_
  clear H
  intro w1 H
  have c := H.s.cell 21 (by decide)
  have d := H.m.cell 24 (by decide)
  have f := H.m.frozen 24
  simp only [List.take_succ_cons, List.take_zero, List.drop_succ_cons, List.drop_zero]
  still_step
  still_step
  still_step
  still_step
  still_step
  still_call (rotl_q _ 2 (by decide) _)
  still_step
  still_step
  refine wpStill_nil ?_
  go_wp2_with fail
  clear c d f
  refine wp_gen (fun w' => RhoAt w w' b b2 A (mv A M [(24, 21, 2), (14, 20, 18), (13, 19, 8), (3, 18, 21), (18, 17, 15), (8, 16, 45), (23, 15, 41), (22, 14, 39), (12, 13, 25), (2, 12, 43), (17, 11, 10), (7, 10, 3), (6, 9, 20), (21, 8, 55), (11, 7, 6), (1, 6, 44), (16, 5, 36), (15, 4, 27), (5, 3, 28), (20, 2, 62), (10, 1, 1)])) (H.put_ hne 24 (Kec.rot (A 21) 2)) ?_
  clear H
  intro w1 H
  refine region_tail 8 (fun w' => RhoAt w w' b b2 A (mv A M [(24, 21, 2), (14, 20, 18), (13, 19, 8), (3, 18, 21), (18, 17, 15), (8, 16, 45), (23, 15, 41), (22, 14, 39), (12, 13, 25), (2, 12, 43), (17, 11, 10), (7, 10, 3), (6, 9, 20), (21, 8, 55), (11, 7, 6), (1, 6, 44), (16, 5, 36), (15, 4, 27), (5, 3, 28), (20, 2, 62), (10, 1, 1)])) (by kernel_rfl) (by kernel_rfl) H.drew ?_
  clear H
  intro w1 H
  have c := H.s.cell 22 (by decide)
  have d := H.m.cell 9 (by decide)
  have f := H.m.frozen 9
  simp only [List.take_succ_cons, List.take_zero, List.drop_succ_cons, List.drop_zero]
  still_step
  still_step
  still_step
  still_step
  still_step
  still_call (rotl_q _ 61 (by decide) _)
  still_step
  still_step
  refine wpStill_nil ?_
  go_wp2_with fail
  clear c d f
  refine wp_gen (fun w' => RhoAt w w' b b2 A (mv A M [(9, 22, 61), (24, 21, 2), (14, 20, 18), (13, 19, 8), (3, 18, 21), (18, 17, 15), (8, 16, 45), (23, 15, 41), (22, 14, 39), (12, 13, 25), (2, 12, 43), (17, 11, 10), (7, 10, 3), (6, 9, 20), (21, 8, 55), (11, 7, 6), (1, 6, 44), (16, 5, 36), (15, 4, 27), (5, 3, 28), (20, 2, 62), (10, 1, 1)])) (H.put_ hne 9 (Kec.rot (A 22) 61)) ?_
  clear H
  intro w1 H
  refine region_tail 8 (fun w' => RhoAt w w' b b2 A (mv A M [(9, 22, 61), (24, 21, 2), (14, 20, 18), (13, 19, 8), (3, 18, 21), (18, 17, 15), (8, 16, 45), (23, 15, 41), (22, 14, 39), (12, 13, 25), (2, 12, 43), (17, 11, 10), (7, 10, 3), (6, 9, 20), (21, 8, 55), (11, 7, 6), (1, 6, 44), (16, 5, 36), (15, 4, 27), (5, 3, 28), (20, 2, 62), (10, 1, 1)])) (by kernel_rfl) (by kernel_rfl) H.drew ?_
  clear H
  intro w1 H
  have c := H.s.cell 23 (by decide)
  have d := H.m.cell 19 (by decide)
  have f := H.m.frozen 19
  simp only [List.take_succ_cons, List.take_zero, List.drop_succ_cons, List.drop_zero]
  still_step
  still_step
  still_step
  still_step
  still_step
  still_call (rotl_q _ 56 (by decide) _)
  still_step
  still_step
  refine wpStill_nil ?_
  go_wp2_with fail
  clear c d f
  refine wp_gen (fun w' => RhoAt w w' b b2 A (mv A M [(19, 23, 56), (9, 22, 61), (24, 21, 2), (14, 20, 18), (13, 19, 8), (3, 18, 21), (18, 17, 15), (8, 16, 45), (23, 15, 41), (22, 14, 39), (12, 13, 25), (2, 12, 43), (17, 11, 10), (7, 10, 3), (6, 9, 20), (21, 8, 55), (11, 7, 6), (1, 6, 44), (16, 5, 36), (15, 4, 27), (5, 3, 28), (20, 2, 62), (10, 1, 1)])) (H.put_ hne 19 (Kec.rot (A 23) 56)) ?_
  clear H
  intro w1 H
  refine region_tail 8 (fun w' => RhoAt w w' b b2 A (mv A M [(19, 23, 56), (9, 22, 61), (24, 21, 2), (14, 20, 18), (13, 19, 8), (3, 18, 21), (18, 17, 15), (8, 16, 45), (23, 15, 41), (22, 14, 39), (12, 13, 25), (2, 12, 43), (17, 11, 10), (7, 10, 3), (6, 9, 20), (21, 8, 55), (11, 7, 6), (1, 6, 44), (16, 5, 36), (15, 4, 27), (5, 3, 28), (20, 2, 62), (10, 1, 1)])) (by kernel_rfl) (by kernel_rfl) H.drew ?_
  clear H
  intro w1 H
  have c := H.s.cell 24 (by decide)
  have d := H.m.cell 4 (by decide)
  have f := H.m.frozen 4
  simp only [List.take_succ_cons, List.take_zero, List.drop_succ_cons, List.drop_zero]
  still_step
  still_step
  still_step
  still_step
  still_step
  still_call (rotl_q _ 14 (by decide) _)
  still_step
  still_step
  refine wpStill_nil ?_
  go_wp2_with fail
  clear c d f
  go_end0
  have H5 := H.put_ hne 4 (Kec.rot (A 24) 14)
  exact ⟨rfl, H5.m.congr (mv_all A M), H5.g⟩
end Go.Proofs.YtlfgnecfabdkmaaGreatDoor.Dg
end
section
namespace Go.Proofs.YtlfgnecfabdkmaaGreatDoor.Dg
open Go.RowKit

def mixC (A M : Kec.St) (y : Nat) : Kec.St := fun i => if i < y then Kec.chi M i else A i

/-- From the world w on, block b alone has turned, and holds B now; block b2 holds M. -/
structure ChAt (w w' : World) (b b2 : Nat) (B M : Kec.St) : Prop where
  s : IsSt w' b B
  m : IsSt w' b2 M
  g : w.grownBy w' (some b)
theorem ChAt.put_ {w w' : World} {b b2 : Nat} {B M : Kec.St} (h : ChAt w w' b b2 B M) (hne : b ≠ b2) (j : Nat) (x : BitVec 64) : ChAt w (w'.setCell ⟨b, j, none⟩ (.int .u64 (U x))) b b2 (upd B j x) M :=
  ⟨h.s.set_ j x, World.rowIs.setOther h.m (a := ⟨b, j, none⟩) (fun e => hne e.symm) _, only_setCell h.g (.inl rfl) _⟩
theorem ChAt.drewN {w w' : World} {b b2 : Nat} {B M : Kec.St} (h : ChAt w w' b b2 B M) (n : Nat) : ChAt w (w'.drewN n) b b2 B M := ⟨h.s, h.m, only_drewN h.g n⟩

set_option maxHeartbeats 4000000 in
set_option maxRecDepth 100000 in
theorem chi_any (A M : Kec.St) (b b2 : Nat) (w : World) (hne : b ≠ b2) (hS : IsSt w b A) (hM : IsSt w b2 M) :
    Calls Tryz.prog 112 #[.pointer (some ⟨b, 0, none⟩), .pointer (some ⟨b2, 0, none⟩)] w fun e w' => e = .returned (.tuple #[]) ∧ IsSt w' b (Kec.chi M) ∧ w.grownBy w' (some b) := by
  go_enter Tryz.func112, Tryz.ntmps112
  go_wp2_with fail
  go_loopw [4] (fun v wr => ∃ y : Nat, y ≤ 25 ∧ y % 5 = 0 ∧ v = .int .i64 y ∧ ChAt w wr b b2 (mixC A M y) M) (fun v _ => 25 - (intOf v).toNat)
  case atStart => exact ⟨0, by omega, by omega, rfl, hS.congr fun i _ => by unfold mixC; rw [if_neg (by omega)], hM, ⟨rfl, rfl, rfl, Nat.le_refl _, fun _ _ _ => rfl⟩⟩
  case round =>
    obtain ⟨y, hy, hm, rfl, H⟩ := hrel
    clear hS hM
    by_cases hlt : y < 25
    · have hm' := Lib.hid hm
      have hy4 : y + 4 < 25 := by omega
      clear hm
      have m0 := H.m.cell y (by omega)
      have m1 := H.m.cell (y + 1) (by omega)
      have m2 := H.m.cell (y + 2) (by omega)
      have m3 := H.m.cell (y + 3) (by omega)
      have m4 := H.m.cell (y + 4) (by omega)
      have i1 : IntKind.i64.wrap ((y : Int) + 1) = (y : Int) + 1 := IntWalk.i64_in _ (by omega)
      have j1 : ((y : Int) + 1).toNat = y + 1 := by omega
      have k1 : 0 ≤ (y : Int) + 1 := by omega
      have l1 : (y : Int) + 1 < 25 := by omega
      have i2 : IntKind.i64.wrap ((y : Int) + 2) = (y : Int) + 2 := IntWalk.i64_in _ (by omega)
      have j2 : ((y : Int) + 2).toNat = y + 2 := by omega
      have k2 : 0 ≤ (y : Int) + 2 := by omega
      have l2 : (y : Int) + 2 < 25 := by omega
      have i3 : IntKind.i64.wrap ((y : Int) + 3) = (y : Int) + 3 := IntWalk.i64_in _ (by omega)
      have j3 : ((y : Int) + 3).toNat = y + 3 := by omega
      have k3 : 0 ≤ (y : Int) + 3 := by omega
      have l3 : (y : Int) + 3 < 25 := by omega
      have i4 : IntKind.i64.wrap ((y : Int) + 4) = (y : Int) + 4 := IntWalk.i64_in _ (by omega)
      have j4 : ((y : Int) + 4).toNat = y + 4 := by omega
      have k4 : 0 ≤ (y : Int) + 4 := by omega
      have l4 : (y : Int) + 4 < 25 := by omega
      go_wp2_with fail
      go_quiet (fail)
      clear i1 j1 k1 l1 i2 j2 k2 l2 i3 j3 k3 l3 i4 j4 k4 l4 m0 m1 m2 m3 m4
      go_upto_region 4 with (fail)
      refine wp_gen (fun w' => ChAt w w' b b2 (mixC A M y) M) (H.drewN _) ?_
      clear H
      intro w1 H
      have c := H.s.cell (y) (by omega)
      have f := H.s.frozen (y)
      go_upto_region 5 with (fail)
      clear c f
      refine wp_gen (fun w' => ChAt w w' b b2 (upd (mixC A M y) (y) (M y ^^^ ~~~M (y + 1) &&& M (y + 2))) M) (H.put_ hne (y) (M y ^^^ ~~~M (y + 1) &&& M (y + 2))) ?_
      clear H
      intro w1 H
      have c := H.s.cell (y + 1) (by omega)
      have f := H.s.frozen (y + 1)
      go_upto_region 6 with (fail)
      clear c f
      refine wp_gen (fun w' => ChAt w w' b b2 (upd (upd (mixC A M y) (y) (M y ^^^ ~~~M (y + 1) &&& M (y + 2))) (y + 1) (M (y + 1) ^^^ ~~~M (y + 2) &&& M (y + 3))) M) (H.put_ hne (y + 1) (M (y + 1) ^^^ ~~~M (y + 2) &&& M (y + 3))) ?_
      clear H
      intro w1 H
      have c := H.s.cell (y + 2) (by omega)
      have f := H.s.frozen (y + 2)
      go_upto_region 7 with (fail)
      clear c f
      refine wp_gen (fun w' => ChAt w w' b b2 (upd (upd (upd (mixC A M y) (y) (M y ^^^ ~~~M (y + 1) &&& M (y + 2))) (y + 1) (M (y + 1) ^^^ ~~~M (y + 2) &&& M (y + 3))) (y + 2) (M (y + 2) ^^^ ~~~M (y + 3) &&& M (y + 4))) M) (H.put_ hne (y + 2) (M (y + 2) ^^^ ~~~M (y + 3) &&& M (y + 4))) ?_
      clear H
      intro w1 H
      have c := H.s.cell (y + 3) (by omega)
      have f := H.s.frozen (y + 3)
      go_upto_region 8 with (fail)
      clear c f
      refine wp_gen (fun w' => ChAt w w' b b2 (upd (upd (upd (upd (mixC A M y) (y) (M y ^^^ ~~~M (y + 1) &&& M (y + 2))) (y + 1) (M (y + 1) ^^^ ~~~M (y + 2) &&& M (y + 3))) (y + 2) (M (y + 2) ^^^ ~~~M (y + 3) &&& M (y + 4))) (y + 3) (M (y + 3) ^^^ ~~~M (y + 4) &&& M y)) M) (H.put_ hne (y + 3) (M (y + 3) ^^^ ~~~M (y + 4) &&& M y)) ?_
      clear H
      intro w1 H
      have c := H.s.cell (y + 4) (by omega)
      have f := H.s.frozen (y + 4)
      go_wp2_with fail
      clear c f
      have H5 := H.put_ hne (y + 4) (M (y + 4) ^^^ ~~~M y &&& M (y + 1))
      refine ⟨⟨y + 5, by omega, by have := hm'.out; omega, by go_num, H5.s.congr fun i _ => ?_, H5.m, H5.g⟩, by simp [intOf]; omega⟩
      have hm := hm'.out
      have t : ∀ j, j < 5 → Kec.chi M (y + j) = M (y + j) ^^^ (~~~ M (y + (j + 1) % 5) &&& M (y + (j + 2) % 5)) := fun j hj => by
        unfold Kec.chi; rw [show (y + j + 1) % 5 + 5 * ((y + j) / 5) = y + (j + 1) % 5 from by omega, show (y + j + 2) % 5 + 5 * ((y + j) / 5) = y + (j + 2) % 5 from by omega]
      unfold mixC upd
      by_cases i4 : i = y + 4
      · rw [if_pos i4, if_pos (by omega), i4]; exact (t 4 (by decide)).symm
      rw [if_neg i4]
      by_cases i3 : i = y + 3
      · rw [if_pos i3, if_pos (by omega), i3]; exact (t 3 (by decide)).symm
      rw [if_neg i3]
      by_cases i2 : i = y + 2
      · rw [if_pos i2, if_pos (by omega), i2]; exact (t 2 (by decide)).symm
      rw [if_neg i2]
      by_cases i1 : i = y + 1
      · rw [if_pos i1, if_pos (by omega), i1]; exact (t 1 (by decide)).symm
      rw [if_neg i1]
      by_cases i0 : i = y
      · rw [if_pos i0, if_pos (by omega), i0]; exact (t 0 (by decide)).symm
      rw [if_neg i0]
      show (if i < y then Kec.chi M i else A i) = _
      by_cases hi : i < y
      · rw [if_pos hi, if_pos (by omega)]
      · rw [if_neg hi, if_neg (by omega)]
    · obtain rfl : y = 25 := by omega
      clear hm
      go_wp2
      go_end0
      exact ⟨rfl, H.s.congr fun i hi => by unfold mixC; rw [if_pos hi], H.g⟩
end Go.Proofs.YtlfgnecfabdkmaaGreatDoor.Dg
end
section
namespace Go.Proofs.YtlfgnecfabdkmaaGreatDoor.Dg
open Go.RowKit

theorem run_eqItems_ints {P : Program} (d : Nat) (e : TypeId) (k : IntKind) (xs ys : Array Value) (a b : Nat → Int) (w : World)
    (he : P.underlying e = some (.int k)) (hc : P.cellsOf e = 1) : ∀ l : List Nat, (∀ i ∈ l, xs[i]? = some (.int k (a i)) ∧ ys[i]? = some (.int k (b i))) →
    (Op.eqItems (d + 1) e (P.cellsOf e) xs ys l).run P w = .ok (l.all fun i => a i == b i) w
  | [], _ => by simp [Op.eqItems]
  | i :: l, h => by
    have hag : (isAgg e).run P w = .ok false w := by simp [isAgg, run_underlying he]
    have hp : ∀ (zs : Array Value) (v : Value), zs[i]? = some v → (part e zs (i * P.cellsOf e)).run P w = .ok v w := by
      intro zs v hz
      simp [part, hag, hc, hz]
    have h0 := h i (by simp)
    simp only [Op.eqItems, Sem.run_bind, hp xs _ h0.1, hp ys _ h0.2, Result.andThen_ok, run_equalIn_int w d e k k (a i) (b i) he]
    cases hq : (a i == b i)
    · simp [hq]
    · simp only [Bool.not_true, Bool.false_eq_true, if_false]
      rw [run_eqItems_ints d e k xs ys a b w he hc l (fun j hj => h j (by simp [hj]))]
      simp [hq]
theorem run_equalIn_arr {P : Program} (d : Nat) (t e : TypeId) (len : Nat) (k : IntKind) (xs ys : Array Value) (a b : Nat → Int) (w : World) (inf : TypeInfo)
    (ht : P.underlying t = some (.array len e)) (he : P.underlying e = some (.int k)) (hi : P.info? e = some inf) (hc : P.cellsOf e = 1)
    (hx : ∀ i, i < len → xs[i]? = some (.int k (a i))) (hy : ∀ i, i < len → ys[i]? = some (.int k (b i))) :
    (Op.equalIn (d + 2) t (.agg xs) (.agg ys)).run P w = .ok ((List.range len).all fun i => a i == b i) w := by
  rw [run_equalIn_array w (d + 1) xs ys ht hi]
  exact run_eqItems_ints d e k xs ys a b w he hc _ fun i hi => ⟨hx i (by simpa using hi), hy i (by simpa using hi)⟩

/-- The 25 words as the cells of an array. -/
def arr (A : Kec.St) : Array Value := ((List.range 25).map fun i => Value.int .u64 (U (A i))).toArray
theorem arr_get (A : Kec.St) (i : Nat) (hi : i < 25) : (arr A)[i]? = some (.int .u64 (U (A i))) := by
  unfold arr; simp [hi]
theorem arr_size (A : Kec.St) : (arr A).size = 25 := by unfold arr; simp
theorem arr_one (A : Kec.St) : (arr A).all (·.oneCell') = true := by
  rw [Array.all_eq_true_iff_forall_mem]
  intro v hv
  unfold arr at hv
  simp only [List.mem_toArray, List.mem_map] at hv
  obtain ⟨i, _, rfl⟩ := hv
  rfl
theorem IsSt.row {w : World} {b : Nat} {A : Kec.St} (h : IsSt w b A) : w.heap[b]? = some (.cells (arr A) 105 (0, 0)) := by
  obtain ⟨c, hb, hs, hc⟩ := h
  rw [hb]
  have : c = arr A := by
    apply Array.ext_getElem?
    intro i
    by_cases hi : i < 25
    · rw [hc i hi, arr_get A i hi]
    · rw [Array.getElem?_eq_none (by omega), Array.getElem?_eq_none (by rw [arr_size]; omega)]
  rw [this]
theorem IsSt.of_row {w : World} {b : Nat} {A : Kec.St} (h : w.heap[b]? = some (.cells (arr A) 105 (0, 0))) : IsSt w b A :=
  ⟨arr A, h, arr_size A, fun i hi => arr_get A i hi⟩

/-- The round constants lie in their variable. -/
def Consts (w : World) : Prop := 1 < w.heap.size ∧ ∀ i, i < 24 → w.cell? ⟨1, i, none⟩ = some (.int .u64 (U (Kec.const i)))

theorem info26 : (Tryz.prog.info? 105).map (·.size) = some 25 := by kernel_rfl

/-- The state of no bits. -/
def Z : Kec.St := fun _ => 0#64
theorem arr_Z : arr Z = #[Value.int .u64 0, Value.int .u64 0, Value.int .u64 0, Value.int .u64 0, Value.int .u64 0, Value.int .u64 0, Value.int .u64 0, Value.int .u64 0, Value.int .u64 0, Value.int .u64 0, Value.int .u64 0, Value.int .u64 0, Value.int .u64 0, Value.int .u64 0, Value.int .u64 0, Value.int .u64 0, Value.int .u64 0, Value.int .u64 0, Value.int .u64 0, Value.int .u64 0, Value.int .u64 0, Value.int .u64 0, Value.int .u64 0, Value.int .u64 0, Value.int .u64 0] := by rfl

structure PermAt (w w' : World) (b0 b1 b2 : Nat) (S M : Kec.St) : Prop where
  s : IsSt w' b0 S
  r : IsSt w' b1 Z
  m : IsSt w' b2 M
  k : Below w.heap.size w w'
theorem Consts.below {w w' : World} (h : Consts w) (hb : Below w.heap.size w w') : Consts w' :=
  ⟨Nat.lt_of_lt_of_le h.1 hb.size, fun i hi => by rw [hb.cell h.1]; exact h.2 i hi⟩
theorem PermAt.turn0 {w w' w'' : World} {b0 b1 b2 : Nat} {S S' M : Kec.St} (h : PermAt w w' b0 b1 b2 S M) (hb0 : w.heap.size ≤ b0) (h01 : b0 < b1) (h12 : b1 < b2) (hs : IsSt w'' b0 S') (hg : w'.grownBy w'' (some b0)) : PermAt w w'' b0 b1 b2 S' M :=
  ⟨hs, World.rowIs.of_block h.r (hg.block b1 (World.rowIs.lt h.r) (by simp; omega)), World.rowIs.of_block h.m (hg.block b2 (World.rowIs.lt h.m) (by simp; omega)), h.k.grown hg h.k.size (by simp; omega)⟩
theorem PermAt.turn2 {w w' w'' : World} {b0 b1 b2 : Nat} {S M M' : Kec.St} (h : PermAt w w' b0 b1 b2 S M) (hb0 : w.heap.size ≤ b0) (h01 : b0 < b1) (h12 : b1 < b2) (hs : IsSt w'' b2 M') (hg : w'.grownBy w'' (some b2)) : PermAt w w'' b0 b1 b2 S M' :=
  ⟨World.rowIs.of_block h.s (hg.block b0 (World.rowIs.lt h.s) (by simp; omega)), World.rowIs.of_block h.r (hg.block b1 (World.rowIs.lt h.r) (by simp; omega)), hs, h.k.grown hg h.k.size (by simp; omega)⟩
theorem PermAt.put0 {w w' : World} {b0 b1 b2 : Nat} {S M : Kec.St} (h : PermAt w w' b0 b1 b2 S M) (hb0 : w.heap.size ≤ b0) (h01 : b0 < b1) (h12 : b1 < b2) (j : Nat) (x : BitVec 64) : PermAt w (w'.setCell ⟨b0, j, none⟩ (.int .u64 (U x))) b0 b1 b2 (upd S j x) M :=
  h.turn0 hb0 h01 h12 (h.s.set_ j x) (only_setCell ⟨rfl, rfl, rfl, Nat.le_refl _, fun _ _ _ => rfl⟩ (.inl rfl) _)
theorem PermAt.drew {w w' : World} {b0 b1 b2 : Nat} {S M : Kec.St} (h : PermAt w w' b0 b1 b2 S M) : PermAt w w'.drew b0 b1 b2 S M := ⟨h.s, h.r, h.m, h.k.drew⟩
theorem PermAt.congr {w w' : World} {b0 b1 b2 : Nat} {S S' M : Kec.St} (h : PermAt w w' b0 b1 b2 S M) (e : Kec.Same S S') : PermAt w w' b0 b1 b2 S' M := ⟨h.s.congr e, h.r, h.m, h.k⟩
theorem PermAt.const {w w' : World} {b0 b1 b2 : Nat} {S M : Kec.St} (h : PermAt w w' b0 b1 b2 S M) (hC : Consts w) (k : Nat) (hk : k < 24) : w'.cell? ⟨1, k, none⟩ = some (.int .u64 (U (Kec.const k))) := (hC.below h.k).2 k hk
theorem iota_upd (S : Kec.St) (c : BitVec 64) : upd S 0 (S 0 ^^^ c) = Kec.iota S c := by funext i; rfl

theorem eq_zero (A : Kec.St) (h : Kec.Same A Z) (w : World) : (Op.equalIn 10000 105 (.agg (arr A)) (.agg #[Value.int .u64 0, Value.int .u64 0, Value.int .u64 0, Value.int .u64 0, Value.int .u64 0, Value.int .u64 0, Value.int .u64 0, Value.int .u64 0, Value.int .u64 0, Value.int .u64 0, Value.int .u64 0, Value.int .u64 0, Value.int .u64 0, Value.int .u64 0, Value.int .u64 0, Value.int .u64 0, Value.int .u64 0, Value.int .u64 0, Value.int .u64 0, Value.int .u64 0, Value.int .u64 0, Value.int .u64 0, Value.int .u64 0, Value.int .u64 0, Value.int .u64 0])).run Tryz.prog w = .ok true w := by
  obtain ⟨inf, hi⟩ := Option.isSome_iff_exists.1 (show (Tryz.prog.info? 104).isSome = true by kernel_rfl)
  rw [← arr_Z, run_equalIn_arr (P := Tryz.prog) 9998 105 104 25 .u64 (arr A) (arr Z) (fun i => U (A i)) (fun i => U (Z i)) w inf Tryz.underlying105 Tryz.underlying104 hi (by kernel_rfl) (fun i hi => arr_get A i hi) (fun i hi => arr_get Z i hi)]
  rw [show ((List.range 25).all fun i => U (A i) == U (Z i)) = true from List.all_eq_true.2 fun i hi => by rw [h i (by simpa using hi)]; simp]
theorem U_inj {x y : BitVec 64} (h : U x = U y) : x = y := by unfold U at h; exact BitVec.eq_of_toNat_eq (by omega)
theorem eq_nonzero (A : Kec.St) (h : ¬ Kec.Same A Z) (w : World) : (Op.equalIn 10000 105 (.agg (arr A)) (.agg #[Value.int .u64 0, Value.int .u64 0, Value.int .u64 0, Value.int .u64 0, Value.int .u64 0, Value.int .u64 0, Value.int .u64 0, Value.int .u64 0, Value.int .u64 0, Value.int .u64 0, Value.int .u64 0, Value.int .u64 0, Value.int .u64 0, Value.int .u64 0, Value.int .u64 0, Value.int .u64 0, Value.int .u64 0, Value.int .u64 0, Value.int .u64 0, Value.int .u64 0, Value.int .u64 0, Value.int .u64 0, Value.int .u64 0, Value.int .u64 0, Value.int .u64 0])).run Tryz.prog w = .ok false w := by
  obtain ⟨inf, hi⟩ := Option.isSome_iff_exists.1 (show (Tryz.prog.info? 104).isSome = true by kernel_rfl)
  rw [← arr_Z, run_equalIn_arr (P := Tryz.prog) 9998 105 104 25 .u64 (arr A) (arr Z) (fun i => U (A i)) (fun i => U (Z i)) w inf Tryz.underlying105 Tryz.underlying104 hi (by kernel_rfl) (fun i hi => arr_get A i hi) (fun i hi => arr_get Z i hi)]
  rw [show ((List.range 25).all fun i => U (A i) == U (Z i)) = false from by
    rw [← Bool.not_eq_true, List.all_eq_true]
    exact fun g => h fun i hi => U_inj (by simpa using g i (by simpa using hi))]

theorem PermAt.start (A : Kec.St) (w : World) : PermAt w (((w.alloc (.cells (arr A) 105)).alloc (.cells #[Value.int .u64 0, Value.int .u64 0, Value.int .u64 0, Value.int .u64 0, Value.int .u64 0, Value.int .u64 0, Value.int .u64 0, Value.int .u64 0, Value.int .u64 0, Value.int .u64 0, Value.int .u64 0, Value.int .u64 0, Value.int .u64 0, Value.int .u64 0, Value.int .u64 0, Value.int .u64 0, Value.int .u64 0, Value.int .u64 0, Value.int .u64 0, Value.int .u64 0, Value.int .u64 0, Value.int .u64 0, Value.int .u64 0, Value.int .u64 0, Value.int .u64 0] 105)).alloc (.cells #[Value.int .u64 0, Value.int .u64 0, Value.int .u64 0, Value.int .u64 0, Value.int .u64 0, Value.int .u64 0, Value.int .u64 0, Value.int .u64 0, Value.int .u64 0, Value.int .u64 0, Value.int .u64 0, Value.int .u64 0, Value.int .u64 0, Value.int .u64 0, Value.int .u64 0, Value.int .u64 0, Value.int .u64 0, Value.int .u64 0, Value.int .u64 0, Value.int .u64 0, Value.int .u64 0, Value.int .u64 0, Value.int .u64 0, Value.int .u64 0, Value.int .u64 0] 105)) w.heap.size (w.heap.size + 1) (w.heap.size + 1 + 1) A Z := by
  rw [← arr_Z]
  have h1 : IsSt (w.alloc (.cells (arr A) 105)) w.heap.size A := .of_row (heap_alloc_new w _)
  have h2 : IsSt ((w.alloc (.cells (arr A) 105)).alloc (.cells (arr Z) 105)) (w.heap.size + 1) Z := .of_row (by have := heap_alloc_new (w.alloc (.cells (arr A) 105)) (.cells (arr Z) 105); simpa using this)
  have hb : Below w.heap.size w (((w.alloc (.cells (arr A) 105)).alloc (.cells (arr Z) 105)).alloc (.cells (arr Z) 105)) := (((Below.refl _ _).alloc (Nat.le_refl _) _).alloc (by simp) _).alloc (by simp; omega) _
  refine ⟨World.rowIs.alloc (World.rowIs.alloc h1 _) _, World.rowIs.alloc h2 _, .of_row ?_, hb⟩
  have := heap_alloc_new ((w.alloc (.cells (arr A) 105)).alloc (.cells (arr Z) 105)) (.cells (arr Z) 105)
  simpa using this

theorem zero_round : ∀ i, i < 25 → Kec.chi (Kec.rhopi (Kec.theta Z)) i = 0#64 := by decide +kernel
theorem first_round (A : Kec.St) (h : Kec.Same A Z) : Kec.Same (upd A 0 (Kec.const 0)) (Kec.permN A 1) := by
  intro i hi
  have h1 : Kec.permN A 1 i = Kec.round Z (Kec.const 0) i := Kec.round_congr A Z _ h i hi
  rw [h1]
  unfold Kec.round Kec.iota upd
  by_cases h0 : i = 0
  · rw [if_pos h0, if_pos h0, zero_round 0 (by decide)]; simp
  · rw [if_neg h0, if_neg h0, zero_round i hi, h i hi]; rfl

set_option maxHeartbeats 4000000 in
set_option maxRecDepth 100000 in
theorem permute_nz (A : Kec.St) (w : World) (hC : Consts w) (hz : ¬ Kec.Same A Z) :
    Calls Tryz.prog 92 #[.agg (arr A)] w fun e w' => e = .returned (.agg (arr (Kec.perm A))) ∧ Below w.heap.size w w' := by
  have H := PermAt.start A w
  have hq := eq_nonzero A hz
  have HQ := Lib.hid hq
  clear hz hq
  go_enter Tryz.func92, Tryz.ntmps92
  go_upto_region 3 with (fail)
  obtain ⟨b0, hb0⟩ : ∃ b, b = w.heap.size := ⟨_, rfl⟩
  rw [← hb0] at H
  rw [← hb0]
  generalize hb1 : b0 + 1 = b1 at *
  generalize hb2 : b1 + 1 = b2 at *
  refine wp_gen (fun w' => PermAt w w' b0 b1 b2 A Z) H ?_
  clear H
  intro w1 H
  have h0 : w.heap.size ≤ b0 := by omega
  have h01 : b0 < b1 := by omega
  have h12 : b1 < b2 := by omega
  have h02 : b0 ≠ b2 := by omega
  clear hb0 hb1 hb2
  have hq := HQ.out
  clear HQ
  go_wp2_with (refine wpList_load_row rfl 105 _ rfl b0 rfl 105 _ (0, 0) _ H.s.row Tryz.underlying105 rfl (by rw [arr_size]; exact info26) ?_)
  clear hq
  go_loopw [5] (fun v wr => ∃ (k : Nat) (M : Kec.St), k ≤ 24 ∧ v = .int .i64 k ∧ PermAt w wr b0 b1 b2 (Kec.permN A k) M) (fun v _ => 24 - (intOf v).toNat)
  case atStart => exact ⟨0, Z, by omega, rfl, H⟩
  case round =>
    clear H
    obtain ⟨k, M, hk, rfl, H⟩ := hrel
    by_cases hlt : k < 24
    · go_wp2_with fail
      refine (theta_any _ _ _ H.s).mono ?_
      rintro e w2 ⟨rfl, hs, hg⟩
      replace H := H.turn0 h0 h01 h12 hs hg
      clear hs hg
      go_wp2_with fail
      refine (rho_any _ _ _ _ _ h02 H.s H.m).mono ?_
      rintro e w3 ⟨rfl, hs, hg⟩
      replace H := H.turn2 h0 h01 h12 hs hg
      clear hs hg
      go_wp2_with fail
      refine (chi_any _ _ _ _ _ h02 H.s H.m).mono ?_
      rintro e w4 ⟨rfl, hs, hg⟩
      replace H := H.turn0 h0 h01 h12 hs hg
      clear hs hg
      have c := H.s.cell 0 (by decide)
      have f := H.s.frozen 0
      have g := H.const hC k hlt
      go_wp2_with fail
      go_region
      go_wp2_with fail
      clear c f g
      refine ⟨⟨k + 1, Kec.rhopi (Kec.theta (Kec.permN A k)), by omega, by go_num, ?_⟩, by simp [intOf]; omega⟩
      have H5 := (H.put0 h0 h01 h12 0 (Kec.chi (Kec.rhopi (Kec.theta (Kec.permN A k))) 0 ^^^ Kec.const k)).drew
      rw [iota_upd] at H5
      exact H5
    · obtain rfl : k = 24 := by omega
      go_wp2_with (first | (refine wpList_load_row rfl 105 _ rfl b0 rfl 105 _ (0, 0) _ H.s.row Tryz.underlying105 rfl (by rw [arr_size]; exact info26) ?_) | (refine wpList_store_row rfl 105 _ _ rfl b1 (arr (Kec.permN A 24)) rfl rfl 105 _ H.r.row (by rw [arr_size]; exact info26) (by rw [arr_size, arr_size]) (arr_one _) ?_))
      exact bodyPost_ret (v := .agg (arr (Kec.perm A))) (results_cell_row rfl _ _ b1 105 _ (0, 0) _ rfl (setRow_heap _ b1 _ _ _ _ H.r.row) Tryz.underlying105 rfl (by rw [arr_size]; exact info26)) rfl ⟨rfl, H.k.trans ⟨rfl, rfl, rfl, by simp, fun k hk => setRow_other _ _ _ _ (by omega)⟩⟩

set_option maxHeartbeats 4000000 in
set_option maxRecDepth 100000 in
theorem permute_z (A : Kec.St) (w : World) (hC : Consts w) (hz : Kec.Same A Z) :
    Calls Tryz.prog 92 #[.agg (arr A)] w fun e w' => e = .returned (.agg (arr (Kec.perm A))) ∧ Below w.heap.size w w' := by
  have H := PermAt.start A w
  have hq := eq_zero A hz
  have HS := Lib.hid (first_round A hz)
  have HQ := Lib.hid hq
  clear hz hq
  go_enter Tryz.func92, Tryz.ntmps92
  go_upto_region 3 with (fail)
  obtain ⟨b0, hb0⟩ : ∃ b, b = w.heap.size := ⟨_, rfl⟩
  rw [← hb0] at H
  rw [← hb0]
  generalize hb1 : b0 + 1 = b1 at *
  generalize hb2 : b1 + 1 = b2 at *
  refine wp_gen (fun w' => PermAt w w' b0 b1 b2 A Z) H ?_
  clear H
  intro w1 H
  have h0 : w.heap.size ≤ b0 := by omega
  have h01 : b0 < b1 := by omega
  have h12 : b1 < b2 := by omega
  have h02 : b0 ≠ b2 := by omega
  clear hb0 hb1 hb2
  have hq := HQ.out
  clear HQ
  have c := H.s.cell 0 (by decide)
  have f := H.s.frozen 0
  have g := H.const hC 0 (by decide)
  go_wp2_with (refine wpList_load_row rfl 105 _ rfl b0 rfl 105 _ (0, 0) _ H.s.row Tryz.underlying105 rfl (by rw [arr_size]; exact info26) ?_)
  clear hq c f g
  replace H := (H.put0 h0 h01 h12 0 (Kec.const 0)).congr HS.out
  clear HS
  go_loopw [5] (fun v wr => ∃ (k : Nat) (M : Kec.St), k ≤ 24 ∧ v = .int .i64 k ∧ PermAt w wr b0 b1 b2 (Kec.permN A k) M) (fun v _ => 24 - (intOf v).toNat)
  case atStart => exact ⟨1, Z, by omega, rfl, H⟩
  case round =>
    clear H
    obtain ⟨k, M, hk, rfl, H⟩ := hrel
    by_cases hlt : k < 24
    · go_wp2_with fail
      refine (theta_any _ _ _ H.s).mono ?_
      rintro e w2 ⟨rfl, hs, hg⟩
      replace H := H.turn0 h0 h01 h12 hs hg
      clear hs hg
      go_wp2_with fail
      refine (rho_any _ _ _ _ _ h02 H.s H.m).mono ?_
      rintro e w3 ⟨rfl, hs, hg⟩
      replace H := H.turn2 h0 h01 h12 hs hg
      clear hs hg
      go_wp2_with fail
      refine (chi_any _ _ _ _ _ h02 H.s H.m).mono ?_
      rintro e w4 ⟨rfl, hs, hg⟩
      replace H := H.turn0 h0 h01 h12 hs hg
      clear hs hg
      have c := H.s.cell 0 (by decide)
      have f := H.s.frozen 0
      have g := H.const hC k hlt
      go_wp2_with fail
      go_region
      go_wp2_with fail
      clear c f g
      refine ⟨⟨k + 1, Kec.rhopi (Kec.theta (Kec.permN A k)), by omega, by go_num, ?_⟩, by simp [intOf]; omega⟩
      have H5 := (H.put0 h0 h01 h12 0 (Kec.chi (Kec.rhopi (Kec.theta (Kec.permN A k))) 0 ^^^ Kec.const k)).drew
      rw [iota_upd] at H5
      exact H5
    · obtain rfl : k = 24 := by omega
      go_wp2_with (first | (refine wpList_load_row rfl 105 _ rfl b0 rfl 105 _ (0, 0) _ H.s.row Tryz.underlying105 rfl (by rw [arr_size]; exact info26) ?_) | (refine wpList_store_row rfl 105 _ _ rfl b1 (arr (Kec.permN A 24)) rfl rfl 105 _ H.r.row (by rw [arr_size]; exact info26) (by rw [arr_size, arr_size]) (arr_one _) ?_))
      exact bodyPost_ret (v := .agg (arr (Kec.perm A))) (results_cell_row rfl _ _ b1 105 _ (0, 0) _ rfl (setRow_heap _ b1 _ _ _ _ H.r.row) Tryz.underlying105 rfl (by rw [arr_size]; exact info26)) rfl ⟨rfl, H.k.trans ⟨rfl, rfl, rfl, by simp, fun k hk => setRow_other _ _ _ _ (by omega)⟩⟩

theorem permute_any (A : Kec.St) (w : World) (hC : Consts w) :
    Calls Tryz.prog 92 #[.agg (arr A)] w fun e w' => e = .returned (.agg (arr (Kec.perm A))) ∧ Below w.heap.size w w' := by
  by_cases h : Kec.Same A Z
  · exact permute_z A w hC h
  · exact permute_nz A w hC h
end Go.Proofs.YtlfgnecfabdkmaaGreatDoor.Dg
end
