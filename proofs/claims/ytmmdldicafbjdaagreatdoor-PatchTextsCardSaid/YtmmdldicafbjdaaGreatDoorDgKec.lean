/- The permutation of SHA3-256 as a plain function on words, and that it is injective. No condition. -/
import Derived.KernelRfl
namespace Go.Proofs.YtmmdldicafbjdaaGreatDoor.Dg
namespace Kec
abbrev St := Nat → BitVec 64
def rot (w : BitVec 64) (n : Nat) : BitVec 64 := w <<< n ||| w >>> (64 - n)
def col (s : St) (x : Nat) : BitVec 64 := s x ^^^ s (x + 5) ^^^ s (x + 10) ^^^ s (x + 15) ^^^ s (x + 20)
def dd (s : St) (x : Nat) : BitVec 64 := col s ((x + 4) % 5) ^^^ rot (col s ((x + 1) % 5)) 1
def theta (s : St) : St := fun i => s i ^^^ dd s (i % 5)
def offs : List Nat := [0, 1, 62, 28, 27, 36, 44, 6, 55, 20, 3, 10, 43, 25, 39, 41, 45, 15, 21, 8, 18, 2, 61, 56, 14]
def src (j : Nat) : Nat := (j % 5 + 3 * (j / 5)) % 5 + 5 * (j % 5)
def rhopi (s : St) : St := fun j => rot (s (src j)) (offs.getD (src j) 0)
def chi (s : St) : St := fun i => s i ^^^ (~~~ s ((i + 1) % 5 + 5 * (i / 5)) &&& s ((i + 2) % 5 + 5 * (i / 5)))
def iota (s : St) (c : BitVec 64) : St := fun i => if i = 0 then s 0 ^^^ c else s i
def round (s : St) (c : BitVec 64) : St := iota (chi (rhopi (theta s))) c
def consts : List Nat := [1, 32898, 9223372036854808714, 9223372039002292224, 32907, 2147483649, 9223372039002292353, 9223372036854808585, 138, 136, 2147516425, 2147483658, 2147516555, 9223372036854775947, 9223372036854808713, 9223372036854808579, 9223372036854808578, 9223372036854775936, 32778, 9223372039002259466, 9223372039002292353, 9223372036854808704, 2147483649, 9223372039002292232]
def const (i : Nat) : BitVec 64 := BitVec.ofNat 64 (consts.getD i 0)
def permN (s : St) : Nat → St
  | 0 => s
  | n + 1 => round (permN s n) (const n)
def perm (s : St) : St := permN s 24
def Same (a b : St) : Prop := ∀ i, i < 25 → a i = b i

theorem rot_bit (a : BitVec 64) (n i : Nat) (hn : n ≤ 64) (hi : i < 64) : (rot a n).getLsbD i = if i < n then a.getLsbD (64 - n + i) else a.getLsbD (i - n) := by
  unfold rot
  simp only [BitVec.getLsbD_or, BitVec.getLsbD_shiftLeft, BitVec.getLsbD_ushiftRight, hi, decide_true, Bool.true_and]
  by_cases h : i < n
  · simp [h]
  · simp only [h, decide_false, Bool.not_false, Bool.true_and, if_false]
    rw [BitVec.getLsbD_of_ge a (64 - n + i) (by omega)]; simp
theorem rot_xor (a b : BitVec 64) (n : Nat) (hn : n ≤ 64) : rot (a ^^^ b) n = rot a n ^^^ rot b n := by
  apply BitVec.eq_of_getLsbD_eq
  intro i hi
  rw [BitVec.getLsbD_xor, rot_bit _ _ _ hn hi, rot_bit _ _ _ hn hi, rot_bit _ _ _ hn hi]
  split <;> rw [BitVec.getLsbD_xor]
theorem rot_rot (a : BitVec 64) (n m : Nat) (h : n + m ≤ 64) : rot (rot a n) m = rot a (n + m) := by
  apply BitVec.eq_of_getLsbD_eq
  intro i hi
  rw [rot_bit _ _ _ (by omega) hi, rot_bit a _ _ h hi]
  by_cases h1 : i < m
  · rw [if_pos h1, if_pos (by omega), rot_bit _ _ _ (by omega) (by omega)]
    by_cases h2 : 64 - m + i < n
    · omega
    · rw [if_neg h2]; congr 1; omega
  · rw [if_neg h1, rot_bit _ _ _ (by omega) (by omega)]
    by_cases h2 : i - m < n
    · rw [if_pos h2, if_pos (by omega)]; congr 1; omega
    · rw [if_neg h2, if_neg (by omega)]; congr 1; omega
theorem rot_64 (a : BitVec 64) : rot a 64 = a := by
  apply BitVec.eq_of_getLsbD_eq
  intro i hi
  rw [rot_bit _ _ _ (by omega) hi, if_pos hi]; congr 1; omega
theorem rot_inj (a b : BitVec 64) (n : Nat) (hn : n ≤ 64) (h : rot a n = rot b n) : a = b := by
  have ha := rot_rot a n (64 - n) (by omega)
  have hb := rot_rot b n (64 - n) (by omega)
  rw [show n + (64 - n) = 64 from by omega, rot_64] at ha hb
  rw [← ha, ← hb, h]

def T (n : Nat) (C : St) : St := fun x => C (x % 5) ^^^ C ((x + 4 * n) % 5) ^^^ rot (C ((x + n) % 5)) n
theorem xor9 (a b c p q r : BitVec 64) : a ^^^ b ^^^ p ^^^ (b ^^^ c ^^^ q) ^^^ (p ^^^ q ^^^ r) = a ^^^ c ^^^ r := by
  apply BitVec.eq_of_getLsbD_eq
  intro i _
  simp only [BitVec.getLsbD_xor]
  cases a.getLsbD i <;> cases b.getLsbD i <;> cases c.getLsbD i <;> cases p.getLsbD i <;> cases q.getLsbD i <;> cases r.getLsbD i <;> rfl
theorem TT (n : Nat) (hn : n ≤ 32) (C : St) : T n (T n C) = T (2 * n) C := by
  funext x
  show (T n C) (x % 5) ^^^ (T n C) ((x + 4 * n) % 5) ^^^ rot ((T n C) ((x + n) % 5)) n = C (x % 5) ^^^ C ((x + 4 * (2 * n)) % 5) ^^^ rot (C ((x + 2 * n) % 5)) (2 * n)
  unfold T
  rw [rot_xor _ _ _ (by omega), rot_xor _ _ _ (by omega), rot_rot _ _ _ (by omega)]
  rw [show x % 5 % 5 = x % 5 from by omega, show (x % 5 + 4 * n) % 5 = (x + 4 * n) % 5 from by omega, show (x % 5 + n) % 5 = (x + n) % 5 from by omega,
    show (x + 4 * n) % 5 % 5 = (x + 4 * n) % 5 from by omega, show ((x + 4 * n) % 5 + 4 * n) % 5 = (x + 4 * (2 * n)) % 5 from by omega, show ((x + 4 * n) % 5 + n) % 5 = x % 5 from by omega,
    show (x + n) % 5 % 5 = (x + n) % 5 from by omega, show ((x + n) % 5 + 4 * n) % 5 = x % 5 from by omega, show ((x + n) % 5 + n) % 5 = (x + 2 * n) % 5 from by omega, show n + n = 2 * n from by omega]
  exact xor9 _ _ _ _ _ _
/-- 64 steps of T 1. -/
def it : Nat → St → St
  | 0, C => C
  | n + 1, C => T 1 (it n C)
theorem it_add (n m : Nat) (C : St) : it (n + m) C = it n (it m C) := by
  induction n with
  | zero => simp [it]
  | succ n ih => rw [Nat.add_right_comm]; show T 1 _ = T 1 _; rw [ih]
theorem it_pow (k : Nat) (hk : k ≤ 6) : ∀ C, it (2 ^ k) C = T (2 ^ k) C := by
  induction k with
  | zero => intro C; rfl
  | succ k ih =>
    intro C
    have hp : 2 ^ k ≤ 2 ^ 5 := Nat.pow_le_pow_right (by decide) (by omega)
    rw [show 2 ^ (k + 1) = 2 ^ k + 2 ^ k from by omega, it_add, ih (by omega), ih (by omega), TT _ hp]
    rw [show 2 * 2 ^ k = 2 ^ k + 2 ^ k from by omega]
theorem it64 (C : St) (x : Nat) : it 64 C x = C (x % 5) ^^^ C ((x + 1) % 5) ^^^ C ((x + 4) % 5) := by
  have h := it_pow 6 (by omega) C
  rw [show (2 : Nat) ^ 6 = 64 from rfl] at h
  rw [h]
  unfold T
  rw [rot_64, show (x + 4 * 64) % 5 = (x + 1) % 5 from by omega, show (x + 64) % 5 = (x + 4) % 5 from by omega]
theorem xor27 (a b c d e : BitVec 64) : (a ^^^ b ^^^ e ^^^ (b ^^^ c ^^^ a) ^^^ (e ^^^ a ^^^ d)) ^^^ (b ^^^ c ^^^ a ^^^ (c ^^^ d ^^^ b) ^^^ (a ^^^ b ^^^ e)) ^^^ (e ^^^ a ^^^ d ^^^ (a ^^^ b ^^^ e) ^^^ (d ^^^ e ^^^ c)) = a := by
  apply BitVec.eq_of_getLsbD_eq
  intro i _
  simp only [BitVec.getLsbD_xor]
  cases a.getLsbD i <;> cases b.getLsbD i <;> cases c.getLsbD i <;> cases d.getLsbD i <;> cases e.getLsbD i <;> rfl
def R (f : St) : St := fun x => f (x % 5) ^^^ f ((x + 1) % 5) ^^^ f ((x + 4) % 5)
theorem R0 (f : St) (x : Nat) : R f (x % 5) = f (x % 5) ^^^ f ((x + 1) % 5) ^^^ f ((x + 4) % 5) := by
  unfold R; rw [show x % 5 % 5 = x % 5 from by omega, show (x % 5 + 1) % 5 = (x + 1) % 5 from by omega, show (x % 5 + 4) % 5 = (x + 4) % 5 from by omega]
theorem R1 (f : St) (x : Nat) : R f ((x + 1) % 5) = f ((x + 1) % 5) ^^^ f ((x + 2) % 5) ^^^ f (x % 5) := by
  unfold R; rw [show (x + 1) % 5 % 5 = (x + 1) % 5 from by omega, show ((x + 1) % 5 + 1) % 5 = (x + 2) % 5 from by omega, show ((x + 1) % 5 + 4) % 5 = x % 5 from by omega]
theorem R2 (f : St) (x : Nat) : R f ((x + 2) % 5) = f ((x + 2) % 5) ^^^ f ((x + 3) % 5) ^^^ f ((x + 1) % 5) := by
  unfold R; rw [show (x + 2) % 5 % 5 = (x + 2) % 5 from by omega, show ((x + 2) % 5 + 1) % 5 = (x + 3) % 5 from by omega, show ((x + 2) % 5 + 4) % 5 = (x + 1) % 5 from by omega]
theorem R3 (f : St) (x : Nat) : R f ((x + 3) % 5) = f ((x + 3) % 5) ^^^ f ((x + 4) % 5) ^^^ f ((x + 2) % 5) := by
  unfold R; rw [show (x + 3) % 5 % 5 = (x + 3) % 5 from by omega, show ((x + 3) % 5 + 1) % 5 = (x + 4) % 5 from by omega, show ((x + 3) % 5 + 4) % 5 = (x + 2) % 5 from by omega]
theorem R4 (f : St) (x : Nat) : R f ((x + 4) % 5) = f ((x + 4) % 5) ^^^ f (x % 5) ^^^ f ((x + 3) % 5) := by
  unfold R; rw [show (x + 4) % 5 % 5 = (x + 4) % 5 from by omega, show ((x + 4) % 5 + 1) % 5 = x % 5 from by omega, show ((x + 4) % 5 + 4) % 5 = (x + 3) % 5 from by omega]
theorem it64R (C : St) : it 64 C = R C := funext fun x => it64 C x
theorem it192 (C : St) (x : Nat) (hx : x < 5) : it 192 C x = C x := by
  rw [show 192 = 64 + (64 + 64) from rfl, it_add, it_add, it64R, it64R, it64R]
  have h : R (R (R C)) (x % 5) = C (x % 5) := by
    rw [R0 (R (R C)) x, R0 (R C) x, R1 (R C) x, R4 (R C) x, R0 C x, R1 C x, R2 C x, R3 C x, R4 C x]
    exact xor27 _ _ _ _ _
  rwa [Nat.mod_eq_of_lt hx] at h
theorem T_congr (C C' : St) (h : ∀ x, x < 5 → C x = C' x) (n : Nat) : T n C = T n C' := by
  funext x; unfold T
  rw [h (x % 5) (by omega), h ((x + 4 * n) % 5) (by omega), h ((x + n) % 5) (by omega)]
theorem it_congr (C C' : St) (h : ∀ x, x < 5 → C x = C' x) (n : Nat) : ∀ x, x < 5 → it n C x = it n C' x := by
  induction n with
  | zero => exact h
  | succ n ih => intro x hx; show T 1 _ x = T 1 _ x; rw [T_congr _ _ ih]
theorem T_inj (C C' : St) (h : ∀ x, x < 5 → T 1 C x = T 1 C' x) : ∀ x, x < 5 → C x = C' x := by
  intro x hx
  have h1 := it192 C x hx
  have h2 := it192 C' x hx
  rw [← h1, ← h2, show 192 = 191 + 1 from rfl, it_add, it_add]
  exact it_congr _ _ h 191 x hx
theorem col_theta (s : St) (x : Nat) (hx : x < 5) : col (theta s) x = T 1 (col s) x := by
  have e : ∀ a b c d f g : BitVec 64, (a ^^^ g) ^^^ (b ^^^ g) ^^^ (c ^^^ g) ^^^ (d ^^^ g) ^^^ (f ^^^ g) = a ^^^ b ^^^ c ^^^ d ^^^ f ^^^ g := by
    intro a b c d f g
    apply BitVec.eq_of_getLsbD_eq
    intro i _
    simp only [BitVec.getLsbD_xor]
    cases a.getLsbD i <;> cases b.getLsbD i <;> cases c.getLsbD i <;> cases d.getLsbD i <;> cases f.getLsbD i <;> cases g.getLsbD i <;> rfl
  show (s x ^^^ dd s (x % 5)) ^^^ (s (x + 5) ^^^ dd s ((x + 5) % 5)) ^^^ (s (x + 10) ^^^ dd s ((x + 10) % 5)) ^^^ (s (x + 15) ^^^ dd s ((x + 15) % 5)) ^^^ (s (x + 20) ^^^ dd s ((x + 20) % 5)) = _
  rw [show (x + 5) % 5 = x % 5 from by omega, show (x + 10) % 5 = x % 5 from by omega, show (x + 15) % 5 = x % 5 from by omega, show (x + 20) % 5 = x % 5 from by omega, e, Nat.mod_eq_of_lt hx]
  show col s x ^^^ (col s ((x + 4) % 5) ^^^ rot (col s ((x + 1) % 5)) 1) = col s (x % 5) ^^^ col s ((x + 4 * 1) % 5) ^^^ rot (col s ((x + 1) % 5)) 1
  rw [Nat.mod_eq_of_lt hx, BitVec.xor_assoc]
theorem col_congr (a b : St) (h : Same a b) (x : Nat) (hx : x < 5) : col a x = col b x := by
  unfold col; rw [h x (by omega), h (x + 5) (by omega), h (x + 10) (by omega), h (x + 15) (by omega), h (x + 20) (by omega)]
theorem theta_inj (a b : St) (h : Same (theta a) (theta b)) : Same a b := by
  have hc : ∀ x, x < 5 → col a x = col b x := T_inj _ _ fun x hx => by rw [← col_theta a x hx, ← col_theta b x hx]; exact col_congr _ _ h x hx
  intro i hi
  have h1 : a i ^^^ dd a (i % 5) = b i ^^^ dd b (i % 5) := h i hi
  have h2 : dd a (i % 5) = dd b (i % 5) := by
    unfold dd; rw [hc _ (Nat.mod_lt _ (by decide)), hc _ (Nat.mod_lt _ (by decide))]
  rw [h2] at h1
  have := congrArg (· ^^^ dd b (i % 5)) h1
  simpa [BitVec.xor_assoc] using this
theorem offs_le : ∀ j, j < 25 → offs.getD (src j) 0 ≤ 64 := by decide
theorem src_onto : ∀ i, i < 25 → ∃ j, j < 25 ∧ src j = i := by decide
theorem rhopi_inj (a b : St) (h : Same (rhopi a) (rhopi b)) : Same a b := by
  intro i hi
  obtain ⟨j, hj, rfl⟩ := src_onto i hi
  exact rot_inj _ _ _ (offs_le j hj) (h j hj)
theorem bit_chi : ∀ a0 a1 a2 a3 a4 b0 b1 b2 b3 b4 : Bool, (a0 ^^ (!a1 && a2)) = (b0 ^^ (!b1 && b2)) → (a1 ^^ (!a2 && a3)) = (b1 ^^ (!b2 && b3)) → (a2 ^^ (!a3 && a4)) = (b2 ^^ (!b3 && b4)) → (a3 ^^ (!a4 && a0)) = (b3 ^^ (!b4 && b0)) → (a4 ^^ (!a0 && a1)) = (b4 ^^ (!b0 && b1)) → a0 = b0 := by decide
theorem chi_inj (a b : St) (h : Same (chi a) (chi b)) : Same a b := by
  intro i hi
  apply BitVec.eq_of_getLsbD_eq
  intro n hn
  have g : ∀ k, ((a ((i + k) % 5 + 5 * (i / 5))).getLsbD n ^^ (!(a ((i + (k + 1)) % 5 + 5 * (i / 5))).getLsbD n && (a ((i + (k + 2)) % 5 + 5 * (i / 5))).getLsbD n)) =
      ((b ((i + k) % 5 + 5 * (i / 5))).getLsbD n ^^ (!(b ((i + (k + 1)) % 5 + 5 * (i / 5))).getLsbD n && (b ((i + (k + 2)) % 5 + 5 * (i / 5))).getLsbD n)) := by
    intro k
    have h1 := congrArg (fun w => BitVec.getLsbD w n) (h ((i + k) % 5 + 5 * (i / 5)) (by omega))
    simp only [chi, BitVec.getLsbD_xor, BitVec.getLsbD_and, BitVec.getLsbD_not, hn, decide_true, Bool.true_and] at h1
    rw [show ((i + k) % 5 + 5 * (i / 5)) / 5 = i / 5 from by omega, show ((i + k) % 5 + 5 * (i / 5) + 1) % 5 = (i + (k + 1)) % 5 from by omega, show ((i + k) % 5 + 5 * (i / 5) + 2) % 5 = (i + (k + 2)) % 5 from by omega] at h1
    exact h1
  have g0 := g 0
  have g1 := g 1
  have g2 := g 2
  have g3 := g 3
  have g4 := g 4
  have e0 : (i + 0) % 5 + 5 * (i / 5) = i := by omega
  have e5 : (i + (3 + 2)) % 5 = (i + 0) % 5 := by omega
  have e5' : (i + (4 + 1)) % 5 = (i + 0) % 5 := by omega
  have e6 : (i + (4 + 2)) % 5 = (i + 1) % 5 := by omega
  rw [e5, e0] at g3
  rw [e5', e6, e0] at g4
  rw [e0] at g0
  exact bit_chi _ _ _ _ _ _ _ _ _ _ g0 g1 g2 g3 g4
theorem iota_inj (a b : St) (c : BitVec 64) (h : Same (iota a c) (iota b c)) : Same a b := by
  intro i hi
  have h1 := h i hi
  unfold iota at h1
  by_cases h0 : i = 0
  · subst h0
    simp only [if_true] at h1
    have := congrArg (· ^^^ c) h1
    simpa [BitVec.xor_assoc] using this
  · simpa [h0] using h1
theorem permN_inj (a b : St) (n : Nat) (h : Same (permN a n) (permN b n)) : Same a b := by
  induction n with
  | zero => exact h
  | succ n ih => exact ih (theta_inj _ _ (rhopi_inj _ _ (chi_inj _ _ (iota_inj _ _ _ h))))
theorem perm_inj (a b : St) (h : Same (perm a) (perm b)) : Same a b := permN_inj a b 24 h
theorem round_congr (a b : St) (c : BitVec 64) (h : Same a b) : Same (round a c) (round b c) := by
  have ht : Same (theta a) (theta b) := fun i hi => by
    unfold theta dd
    rw [h i hi, col_congr _ _ h _ (Nat.mod_lt _ (by decide)), col_congr _ _ h _ (Nat.mod_lt _ (by decide))]
  have hr : Same (rhopi (theta a)) (rhopi (theta b)) := fun j hj => by
    unfold rhopi
    rw [ht _ (by unfold src; omega)]
  have hc : Same (chi (rhopi (theta a))) (chi (rhopi (theta b))) := fun i hi => by
    unfold chi
    rw [hr i hi, hr _ (by omega), hr _ (by omega)]
  intro i hi
  unfold round iota
  rw [hc i hi, hc 0 (by omega)]
theorem permN_congr (a b : St) (h : Same a b) (n : Nat) : Same (permN a n) (permN b n) := by
  induction n with
  | zero => exact h
  | succ n ih => exact round_congr _ _ _ ih
end Kec
end Go.Proofs.YtmmdldicafbjdaaGreatDoor.Dg
