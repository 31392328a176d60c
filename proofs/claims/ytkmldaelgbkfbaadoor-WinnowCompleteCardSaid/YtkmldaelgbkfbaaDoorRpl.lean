/- Numbers modulo a prime, codes of words and hashes of runs, as plain functions; the prime is one. No condition. -/
namespace Go.Proofs.YtkmldaelgbkfbaaDoor
namespace Rl
def P : Nat := 2305843009213693951
def B : Nat := 1000003
theorem P_val : P = 2305843009213693951 := rfl

/-- A power modulo a number, by squares. -/
def powm (n : Nat) : Nat → Nat → Nat → Nat → Nat
  | 0, _, _, p => p % n
  | f + 1, a, e, p => if e = 0 then p % n else powm n f (a * a % n) (e / 2) (if e % 2 = 1 then p * a % n else p)
theorem powm_ok (n : Nat) : ∀ f a e p, e < 2 ^ f → powm n f a e p % n = p * a ^ e % n := by
  intro f
  induction f with
  | zero =>
    intro a e p h
    have : e = 0 := by simp at h; exact h
    subst this
    simp [powm]
  | succ f ih =>
    intro a e p h
    unfold powm
    by_cases he : e = 0
    · rw [if_pos he, he]; simp
    · rw [if_neg he, ih _ _ _ (by rw [Nat.pow_succ] at h; omega)]
      have h2 : a ^ e = (a * a) ^ (e / 2) * a ^ (e % 2) := by
        rw [← Nat.pow_two, ← Nat.pow_mul, ← Nat.pow_add]
        congr 1; omega
      rw [h2]
      have hm : ∀ x y : Nat, x * (y % n) ^ (e / 2) % n = x * y ^ (e / 2) % n := by
        intro x y
        rw [Nat.mul_mod, Nat.pow_mod, Nat.mod_mod, ← Nat.pow_mod, ← Nat.mul_mod]
      rw [hm]
      rcases Nat.mod_two_eq_zero_or_one e with h0 | h0
      · rw [h0]; simp
      · rw [h0, if_pos rfl, Nat.pow_one, Nat.mul_mod, Nat.mod_mod, ← Nat.mul_mod]
        congr 1
        rw [Nat.mul_assoc, Nat.mul_comm a]


theorem least {p : Nat → Prop} : ∀ n, p n → ∃ m, p m ∧ ∀ k, k < m → ¬ p k := by
  intro n
  induction n using Nat.strongRecOn with
  | _ n ih =>
    intro h
    by_cases hx : ∃ k, k < n ∧ p k
    · obtain ⟨k, hk, hp⟩ := hx
      exact ih k hk hp
    · exact ⟨n, h, fun k hk hp => hx ⟨k, hk, hp⟩⟩
theorem inj_le : ∀ (m n : Nat) (f : Nat → Nat), (∀ i, i < n → f i < m) → (∀ i j, i < n → j < n → f i = f j → i = j) → n ≤ m := by
  intro m
  induction m with
  | zero =>
    intro n f h _
    rcases Nat.eq_zero_or_pos n with h0 | h0
    · omega
    · exact absurd (h 0 h0) (by omega)
  | succ m ih =>
    intro n f h hi
    match n with
    | 0 => omega
    | n + 1 =>
      have := ih n (fun i => if f i = m then f n else f i) (by
        intro i hin
        have h1 := h i (by omega)
        have h2 := h n (by omega)
        split
        · rename_i he
          have : f n ≠ m := fun e => by have := hi i n (by omega) (by omega) (by omega); omega
          omega
        · omega) (by
        intro i j hin hjn he
        split at he <;> split at he
        · exact hi i j (by omega) (by omega) (by omega)
        · have := hi n j (by omega) (by omega) he; omega
        · have := hi i n (by omega) (by omega) he; omega
        · exact hi i j (by omega) (by omega) he)
      omega
theorem pow_mul_mod (a r k d : Nat) (h : a ^ r % d = 1 % d) : a ^ (r * k) % d = 1 % d := by
  rw [Nat.pow_mul, Nat.pow_mod, h, ← Nat.pow_mod, Nat.one_pow]
theorem pow_left {a r s d : Nat} (h : a ^ r % d = 1 % d) : a ^ (r + s) % d = a ^ s % d := by
  rw [Nat.pow_add, Nat.mul_mod, h, ← Nat.mul_mod, Nat.one_mul]
/-- If a power of a number is one and no lesser one that matters, the modulus is greater than its exponent. -/
theorem order_lt (a M d : Nat) (hd : 1 < d) (qs : List Nat) (hM : 0 < M) (h1 : a ^ M % d = 1 % d)
    (hq : ∀ q, q ∈ qs → (∀ x, x ∣ q → x = 1 ∨ x = q) ∧ q ∣ M ∧ a ^ (M / q) % d ≠ 1 % d) (hp : M = qs.prod) : M < d := by
  obtain ⟨r, ⟨hr0, hr⟩, hmin⟩ := least (p := fun r => 0 < r ∧ a ^ r % d = 1 % d) M ⟨hM, h1⟩
  have hdvd : ∀ t, a ^ t % d = 1 % d → r ∣ t := by
    intro t ht
    have e : t = r * (t / r) + t % r := (Nat.div_add_mod t r).symm
    have h3 : a ^ (t % r) % d = 1 % d := by
      rw [e] at ht
      rw [pow_left (pow_mul_mod a r (t / r) d hr)] at ht
      exact ht
    have hlt := Nat.mod_lt t hr0
    rcases Nat.eq_zero_or_pos (t % r) with h0 | h0
    · exact Nat.dvd_of_mod_eq_zero h0
    · exact absurd ⟨h0, h3⟩ (hmin _ hlt)
  obtain ⟨k, hk⟩ := hdvd M h1
  have hcop : ∀ q, q ∈ qs → Nat.Coprime k q := by
    intro q hqm
    obtain ⟨hpr, hdv, hne⟩ := hq q hqm
    rcases hpr _ (Nat.gcd_dvd_right k q) with h | h
    · exact h
    · exfalso
      apply hne
      have hqk : q ∣ k := by rw [← h]; exact Nat.gcd_dvd_left k q
      obtain ⟨u, hu⟩ := hqk
      have hq0 : 0 < q := by
        rcases Nat.eq_zero_or_pos q with h0 | h0
        · subst h0; obtain ⟨c, hc⟩ := hdv; omega
        · exact h0
      have e : M / q = r * u := by
        rw [hk, hu, show r * (q * u) = q * (r * u) by rw [← Nat.mul_assoc, Nat.mul_comm r q, Nat.mul_assoc], Nat.mul_div_cancel_left _ hq0]
      rw [e]
      exact pow_mul_mod a r u d hr
  have hall : ∀ (l : List Nat), (∀ q, q ∈ l → Nat.Coprime k q) → Nat.Coprime k l.prod := by
    intro l
    induction l with
    | nil => intro _; simp
    | cons x l ih =>
      intro hl
      rw [List.prod_cons]
      exact Nat.Coprime.mul_right (hl x (List.mem_cons_self ..)) (ih fun q hq => hl q (List.mem_cons_of_mem _ hq))
  have hk1 : k = 1 := by
    have hc := hall qs hcop
    rw [← hp, hk] at hc
    exact Nat.Coprime.eq_one_of_dvd hc (Nat.dvd_mul_left k r)
  have hrM : r = M := by rw [hk, hk1, Nat.mul_one]
  subst hrM
  clear hk hk1 hcop hall hq hp
  have hca : Nat.Coprime a d := by
    have hg : Nat.gcd a d ∣ a ^ r := Nat.dvd_trans (Nat.gcd_dvd_left a d) (Nat.dvd_trans (by simp) (Nat.pow_dvd_pow a hr0))
    have hg2 : Nat.gcd a d ∣ d := Nat.gcd_dvd_right a d
    have h3 : Nat.gcd a d ∣ a ^ r % d := (Nat.dvd_mod_iff hg2).2 hg
    rw [h1, Nat.mod_eq_of_lt hd] at h3
    exact Nat.eq_one_of_dvd_one h3
  have hinj := inj_le (d - 1) r (fun i => a ^ i % d - 1) (by
    intro i _
    have := Nat.mod_lt (a ^ i) (show 0 < d by omega)
    show a ^ i % d - 1 < d - 1
    omega) (by
    intro i j hi hj he
    have hpos : ∀ i, 0 < a ^ i % d := by
      intro i
      rcases Nat.eq_zero_or_pos (a ^ i % d) with h0 | h0
      · have hdv := Nat.dvd_of_mod_eq_zero h0
        have hc : Nat.Coprime (a ^ i) d := Nat.Coprime.pow_left i hca
        have : d = 1 := Nat.Coprime.eq_one_of_dvd (Nat.Coprime.symm hc) hdv
        omega
      · exact h0
    have he2 : a ^ i % d = a ^ j % d := by have := hpos i; have := hpos j; omega
    have key : ∀ i j, i < j → j < r → a ^ i % d = a ^ j % d → False := by
      intro i j hij hj he
      have h0 : (a ^ j - a ^ i) % d = 0 := Nat.sub_mod_eq_zero_of_mod_eq he.symm
      have hdv := Nat.dvd_of_mod_eq_zero h0
      have e : a ^ j - a ^ i = a ^ i * (a ^ (j - i) - 1) := by
        rw [Nat.mul_sub, Nat.mul_one, ← Nat.pow_add]
        congr 2; omega
      rw [e] at hdv
      have h5 : d ∣ a ^ (j - i) - 1 := Nat.Coprime.dvd_of_dvd_mul_left (Nat.Coprime.symm (Nat.Coprime.pow_left i hca)) hdv
      have hge : 1 ≤ a ^ (j - i) := by
        rcases Nat.eq_zero_or_pos (a ^ (j - i)) with h0 | h0
        · have := hpos (j - i); rw [h0] at this; simp at this
        · exact h0
      have h6 : a ^ (j - i) % d = 1 % d := by
        obtain ⟨c, hc⟩ := h5
        have : a ^ (j - i) = 1 + d * c := by omega
        rw [this, Nat.add_mul_mod_self_left]
      exact hmin (j - i) (by omega) ⟨by omega, h6⟩
    rcases Nat.lt_trichotomy i j with h | h | h
    · exact (key i j h hj he2).elim
    · exact h
    · exact (key j i h hi he2.symm).elim)
  omega

def qs : List Nat := [2, 3, 3, 5, 5, 7, 11, 13, 31, 41, 61, 151, 331, 1321]
theorem qs_prod : P - 1 = qs.prod := by decide +kernel
def smallPrime (q : Nat) : Bool := (List.range (q + 1)).all fun x => !(decide (x ∣ q)) || x == 1 || x == q
theorem small_ok {q : Nat} (h0 : 0 < q) (h : smallPrime q = true) : ∀ x, x ∣ q → x = 1 ∨ x = q := by
  intro x hx
  have := List.all_eq_true.1 h x (List.mem_range.2 (by have := Nat.le_of_dvd h0 hx; omega))
  simp [hx] at this
  exact this
/-- No product of numbers below the prime is a multiple of it, unless one of them is zero. -/
theorem prime_ok (d : Nat) (hd : 1 < d) (hdv : d ∣ P) : d = P := by
  have h37 : ∀ e, e < 2 ^ 62 → 37 ^ e % P = powm P 62 37 e 1 % P := by
    intro e he
    rw [powm_ok P 62 37 e 1 he, Nat.one_mul]
  have hone : 37 ^ (P - 1) % P = 1 := by rw [h37 _ (by decide +kernel)]; decide +kernel
  have hlt : P - 1 < d := by
    refine order_lt 37 (P - 1) d hd qs (by decide +kernel) ?_ ?_ qs_prod
    · rw [← Nat.mod_mod_of_dvd _ hdv, hone]
    · intro q hq
      have hall : qs.all (fun q => smallPrime q && decide (0 < q) && decide ((P - 1) % q = 0) && (powm P 62 37 ((P - 1) / q) 1 % P != 0) && (Nat.gcd (powm P 62 37 ((P - 1) / q) 1 % P - 1) P == 1)) = true := by decide +kernel
      have h := List.all_eq_true.1 hall q hq
      simp only [Bool.and_eq_true, decide_eq_true_eq, bne_iff_ne, beq_iff_eq] at h
      obtain ⟨⟨⟨⟨h1, h2⟩, h3⟩, h4⟩, h5⟩ := h
      refine ⟨small_ok h2 h1, Nat.dvd_of_mod_eq_zero h3, fun he => ?_⟩
      have hle : (P - 1) / q < 2 ^ 62 := Nat.lt_of_le_of_lt (Nat.div_le_self _ _) (by decide +kernel)
      rw [← h37 _ hle] at h4 h5
      rw [← Nat.mod_mod_of_dvd _ hdv] at he
      have h6 : d ∣ 37 ^ ((P - 1) / q) % P - 1 := by
        have := Nat.sub_mod_eq_zero_of_mod_eq he
        exact Nat.dvd_of_mod_eq_zero this
      have := Nat.dvd_gcd h6 hdv
      rw [h5] at this
      have := Nat.le_of_dvd (by decide) this
      omega
  have := Nat.le_of_dvd (by decide +kernel) hdv
  omega
theorem mul_zero_of {a b : Nat} (ha : a < P) (hb : b < P) (h : a * b % P = 0) : a = 0 ∨ b = 0 := by
  by_cases h0 : a = 0
  · exact .inl h0
  · right
    have hg : Nat.gcd a P = 1 := by
      rcases Nat.lt_or_ge 1 (Nat.gcd a P) with h1 | h1
      · have h2 := prime_ok _ h1 (Nat.gcd_dvd_right a P)
        have h3 := Nat.le_of_dvd (by omega) (Nat.gcd_dvd_left a P)
        omega
      · have : 0 < Nat.gcd a P := Nat.gcd_pos_of_pos_left _ (by omega)
        omega
    have h4 : P ∣ b := Nat.Coprime.dvd_of_dvd_mul_left (Nat.Coprime.symm hg) (Nat.dvd_of_mod_eq_zero h)
    rcases Nat.eq_zero_or_pos b with h5 | h5
    · exact h5
    · have := Nat.le_of_dvd h5 h4; omega
/-- The code of a word. -/
def codeF (c : Nat) (b : UInt8) : Nat := (c * 257 + b.toNat + 1) % P
def code (l : List UInt8) : Nat := l.foldl codeF 0
/-- The hash of words. -/
def hashF (h : Nat) (w : List UInt8) : Nat := (h * B + code w + 1) % P
def hash (l : List (List UInt8)) : Nat := l.foldl hashF 0
def pw (n : Nat) : Nat := B ^ n % P
theorem P_pos : 0 < P := by decide
theorem foldl_lt {α : Type} (f : Nat → α → Nat) (hf : ∀ h x, f h x < P) : ∀ (l : List α) (h : Nat), h < P → l.foldl f h < P := by
  intro l
  induction l with
  | nil => intro h hh; exact hh
  | cons x l ih => intro h hh; exact ih _ (hf h x)
theorem code_lt (l : List UInt8) : code l < P := foldl_lt _ (fun _ _ => Nat.mod_lt _ P_pos) l 0 P_pos
theorem hashF_lt (h : Nat) (w : List UInt8) : hashF h w < P := Nat.mod_lt _ P_pos
theorem hash_lt (l : List (List UInt8)) : hash l < P := foldl_lt _ hashF_lt l 0 P_pos
theorem pw_lt (n : Nat) : pw n < P := by unfold pw; exact Nat.mod_lt _ P_pos
theorem code_snoc (l : List UInt8) (b : UInt8) : code (l ++ [b]) = codeF (code l) b := by unfold code; rw [List.foldl_append, List.foldl_cons, List.foldl_nil]
theorem hash_snoc (l : List (List UInt8)) (w : List UInt8) : hash (l ++ [w]) = hashF (hash l) w := by unfold hash; rw [List.foldl_append, List.foldl_cons, List.foldl_nil]
theorem hash_nil : hash [] = 0 := rfl
theorem hash_one (w : List UInt8) : hash [w] = (code w + 1) % P := by show (0 * B + code w + 1) % P = _; rw [Nat.zero_mul, Nat.zero_add]
theorem mm (a b c n : Nat) : (a % n * b + c) % n = (a * b + c) % n := by rw [Nat.add_mod, Nat.mod_mul_mod, ← Nat.add_mod]
theorem mp (a b n : Nat) : (a % n + b) % n = (a + b) % n := Nat.mod_add_mod a n b
/-- The hash of words behind others. -/
theorem fold_app (l : List (List UInt8)) : ∀ h, l.foldl hashF h % P = (h * B ^ l.length + hash l) % P := by
  have key : ∀ (l : List (List UInt8)) (h k : Nat), l.foldl hashF ((h + k) % P) % P = (h * B ^ l.length + l.foldl hashF (k % P)) % P := by
    intro l
    induction l with
    | nil => intro h k; show (h + k) % P % P = (h * 1 + k % P) % P; rw [Nat.mod_mod, Nat.mul_one, Nat.add_mod_mod]
    | cons x l ih =>
      intro h k
      have e : hashF ((h + k) % P) x = (h * B + (k * B + code x + 1)) % P := by
        unfold hashF
        rw [Nat.add_assoc, mm, Nat.add_mul]
        generalize h * B = u
        generalize k * B = v
        rw [Nat.add_assoc, Nat.add_assoc v]
      have e2 : hashF (k % P) x = (k * B + code x + 1) % P := by
        unfold hashF
        rw [Nat.add_assoc, mm, ← Nat.add_assoc]
      rw [List.foldl_cons, List.foldl_cons, e, ih, e2, List.length_cons, Nat.pow_succ, Nat.mul_assoc, Nat.mul_comm B]
  intro h
  have := key l h 0
  match l, this with
  | [], _ => show h % P = (h * 1 + 0) % P; rw [Nat.mul_one, Nat.add_zero]
  | x :: l, this =>
    rw [Nat.add_zero] at this
    have e : hashF (h % P) x = hashF h x := by unfold hashF; rw [Nat.add_assoc, mm, ← Nat.add_assoc]
    rw [List.foldl_cons, e] at this
    exact this
theorem hash_app (a b : List (List UInt8)) : hash (a ++ b) = (hash a * B ^ b.length + hash b) % P := by
  have := fold_app b (hash a)
  rw [← this]
  show (a ++ b).foldl hashF 0 = _
  rw [List.foldl_append]
  show b.foldl hashF (hash a) = b.foldl hashF (hash a) % P
  rw [Nat.mod_eq_of_lt]
  exact foldl_lt _ hashF_lt b _ (hash_lt a)
/-- What Join returns. -/
theorem join_ok (a b : List (List UInt8)) : (hash a * pw b.length % P + hash b) % P = hash (a ++ b) := by
  rw [hash_app, mp, pw, Nat.add_mod, Nat.mul_mod, Nat.mod_mod, ← Nat.mul_mod, ← Nat.add_mod]
/-- What Roll returns. -/
def roll (h : Nat) (o i : List UInt8) (k : Nat) : Nat :=
  let first := (code o + 1) % P * pw (k - 1) % P
  ((h + P - first) % P * B + code i + 1) % P
theorem roll_ok (x y : List UInt8) (m : List (List UInt8)) : roll (hash (x :: m)) x y (m.length + 1) = hash (m ++ [y]) := by
  have h1 : hash (x :: m) = ((code x + 1) % P * pw m.length % P + hash m) % P := by
    rw [← hash_one, join_ok]; rfl
  have h2 : (code x + 1) % P * pw m.length % P < P := Nat.mod_lt _ P_pos
  have h3 := hash_lt m
  have h4 : (hash (x :: m) + P - (code x + 1) % P * pw m.length % P) % P = hash m := by
    rw [h1]
    generalize (code x + 1) % P * pw m.length % P = f at *
    generalize hash m = g at *
    simp only [P_val] at *
    omega
  rw [hash_snoc]
  show ((hash (x :: m) + P - (code x + 1) % P * pw m.length % P) % P * B + code y + 1) % P = _
  rw [h4]; rfl
/-- A power by squares: what stays. -/
theorem pw_add (m n : Nat) : pw m * pw n % P = pw (m + n) := by unfold pw; rw [← Nat.mul_mod, Nat.pow_add]
theorem half_step (p s n : Nat) : p % P * (s * s % P) ^ (n / 2) % P = p * (s * s) ^ (n / 2) % P := by
  rw [Nat.mul_mod, Nat.mod_mod, Nat.pow_mod, Nat.mod_mod, ← Nat.pow_mod, ← Nat.mul_mod]
theorem half_even (p s n : Nat) (h : n % 2 = 0) (hp : p < P) : p * (s * s % P) ^ (n / 2) % P = p * s ^ n % P := by
  have e : s ^ n = (s * s) ^ (n / 2) := by rw [← Nat.pow_two, ← Nat.pow_mul]; congr 1; omega
  have := half_step p s n
  rw [Nat.mod_eq_of_lt hp] at this
  rw [this, e]
theorem half_odd (p s n : Nat) (h : n % 2 = 1) : (p * s % P) * (s * s % P) ^ (n / 2) % P = p * s ^ n % P := by
  have e : s ^ n = s * (s * s) ^ (n / 2) := by
    rw [← Nat.pow_two, ← Nat.pow_mul, ← Nat.pow_succ']; congr 1; omega
  rw [half_step, e, Nat.mul_assoc]
/-- A product by doubling: what stays. -/
theorem dbl_even (o a b : Nat) (h : b % 2 = 0) : (o + (a + a) % P * (b / 2)) % P = (o + a * b) % P := by
  rw [Nat.add_mod, Nat.mod_mul_mod, ← Nat.add_mod]
  congr 2
  have : b = 2 * (b / 2) := by omega
  calc (a + a) * (b / 2) = a * (2 * (b / 2)) := by rw [← Nat.mul_assoc, Nat.mul_two]
    _ = a * b := by rw [← this]
theorem dbl_odd (o a b : Nat) (h : b % 2 = 1) : ((o + a) % P + (a + a) % P * (b / 2)) % P = (o + a * b) % P := by
  rw [mp, dbl2 o a b h]
where dbl2 (o a b : Nat) (h : b % 2 = 1) : (o + a + (a + a) % P * (b / 2)) % P = (o + a * b) % P := by
        rw [Nat.add_mod, Nat.mod_mul_mod, ← Nat.add_mod, Nat.add_assoc]
        congr 2
        have : b = 2 * (b / 2) + 1 := by omega
        calc a + (a + a) * (b / 2) = a * (2 * (b / 2) + 1) := by rw [Nat.mul_add, ← Nat.mul_assoc, Nat.mul_two, Nat.mul_one, Nat.add_comm]
          _ = a * b := by rw [← this]
/-- A product out of its upper and lower bits. -/
theorem split61 (x : Nat) : (x / 2305843009213693952 + x % 2305843009213693952) % P = x % P := by
  have e : x = 2305843009213693952 * (x / 2305843009213693952) + x % 2305843009213693952 := (Nat.div_add_mod ..).symm
  generalize x / 2305843009213693952 = q at *
  generalize x % 2305843009213693952 = r at *
  rw [e]
  have : 2305843009213693952 * q + r = (q + r) + P * q := by simp only [P_val]; omega
  rw [this, Nat.add_mul_mod_self_left]
theorem high_low {x : Nat} (h : x < P * P) : x / 18446744073709551616 * 8 % 18446744073709551616 + x % 18446744073709551616 / 2305843009213693952 = x / 2305843009213693952
    ∧ x % 18446744073709551616 % 2305843009213693952 = x % 2305843009213693952 ∧ x / 18446744073709551616 < 288230376151711744 ∧ x / 2305843009213693952 < 2305843009213693952 := by
  have : P * P = 5316911983139663487003542222693990401 := by decide
  omega
theorem mul_lt {a b : Nat} (ha : a < P) (hb : b < P) : a * b < P * P := Nat.mul_lt_mul_of_lt_of_lt ha hb
end Rl
end Go.Proofs.YtkmldaelgbkfbaaDoor
