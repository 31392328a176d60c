/- Numbers, texts and lists as bytes, and reading them, as plain functions. No condition. -/
import Derived.Lib.ItoaNum
namespace Go.Proofs.YtkmldaelgbkfbaaDoor.Cd
namespace Cod
open Go.Lib (decDigits)

/-- The bytes of a number, and of a text. -/
def num (n : Nat) : List UInt8 := decDigits n ++ [59]
def txt (s : List UInt8) : List UInt8 := decDigits s.length ++ (58 :: (s ++ [44]))
/-- What scanning for a number finds. -/
inductive Found where
  | ok (n : Nat) (rest : List UInt8)
  | short
  | corrupt
/-- The digits of a number of at most 'most' and the byte e behind them: n is what was read by now, b whether something was read. -/
def scan (most : Nat) (e : UInt8) : List UInt8 → Nat → Bool → Found
  | [], _, _ => .short
  | c :: l, n, b =>
    if c = e ∧ b = true then .ok n l
    else if c.toNat < 48 ∨ 57 < c.toNat ∨ (b = true ∧ n = 0) ∨ most < 10 * n + (c.toNat - 48) then .corrupt
    else scan most e l (10 * n + (c.toNat - 48)) true

theorem dec_small {n : Nat} (h : n < 10) : decDigits n = [UInt8.ofNat (48 + n)] := by rw [decDigits, dif_pos h]
theorem dec_big {n : Nat} (h : ¬ n < 10) : decDigits n = decDigits (n / 10) ++ [UInt8.ofNat (48 + n % 10)] := by rw [decDigits, dif_neg h]
theorem digit_nat {d : Nat} (h : d < 10) : (UInt8.ofNat (48 + d)).toNat = 48 + d := by rw [UInt8.toNat_ofNat']; omega
theorem of_digit {c : UInt8} (h1 : 48 ≤ c.toNat) (h2 : c.toNat ≤ 57) : UInt8.ofNat (48 + (c.toNat - 48)) = c := by
  rw [show 48 + (c.toNat - 48) = c.toNat by omega, UInt8.ofNat_toNat]

/-- The digits of a number are taken in. -/
theorem scan_dec (most : Nat) (e : UInt8) (he : e.toNat < 48 ∨ 57 < e.toNat) : ∀ (n : Nat), n ≤ most → ∀ rest, scan most e (decDigits n ++ rest) 0 false = scan most e rest n true := by
  intro n
  induction n using Nat.strongRecOn with
  | _ n ih =>
    intro hn rest
    by_cases h : n < 10
    · rw [dec_small h, List.singleton_append, scan, if_neg (by simp), if_neg (by rw [digit_nat h]; simp; omega), digit_nat h]
      congr 1; omega
    · rw [dec_big h, List.append_assoc, ih (n / 10) (by omega) (by omega), List.singleton_append, scan]
      have hd : n % 10 < 10 := Nat.mod_lt _ (by decide)
      have hne : UInt8.ofNat (48 + n % 10) ≠ e := fun hc => by rw [← hc, digit_nat hd] at he; omega
      rw [if_neg (fun hc => hne hc.1), if_neg (by rw [digit_nat hd]; omega), digit_nat hd]
      congr 1; omega
theorem scan_num (most : Nat) (e : UInt8) (he : e.toNat < 48 ∨ 57 < e.toNat) (n : Nat) (hn : n ≤ most) (rest : List UInt8) : scan most e (decDigits n ++ e :: rest) 0 false = .ok n rest := by
  rw [scan_dec most e he n hn, scan, if_pos ⟨rfl, rfl⟩]

/-- What was found is what stood there. -/
theorem scan_ok (most : Nat) (e : UInt8) : ∀ (l : List UInt8) (n : Nat) (b : Bool) (m : Nat) (rest : List UInt8), n ≤ most → scan most e l n b = .ok m rest →
    m ≤ most ∧ ∃ ds, l = ds ++ e :: rest ∧ (b = true → decDigits m = decDigits n ++ ds) ∧ (b = false → n = 0 → decDigits m = ds)
  | [], _, _, _, _, _, h => by rw [scan] at h; cases h
  | c :: l, n, b, m, rest, hn, h => by
    rw [scan] at h
    by_cases h1 : c = e ∧ b = true
    · rw [if_pos h1] at h
      cases h
      exact ⟨hn, [], by rw [h1.1]; rfl, fun _ => by simp, fun hb => by rw [h1.2] at hb; cases hb⟩
    · rw [if_neg h1] at h
      by_cases h2 : c.toNat < 48 ∨ 57 < c.toNat ∨ (b = true ∧ n = 0) ∨ most < 10 * n + (c.toNat - 48)
      · rw [if_pos h2] at h; cases h
      · rw [if_neg h2] at h
        obtain ⟨hm, ds, hl, hd, _⟩ := scan_ok most e l _ true m rest (by omega) h
        refine ⟨hm, c :: ds, by rw [hl]; rfl, fun hb => ?_, fun hb h0 => ?_⟩
        · have hn0 : n ≠ 0 := fun h0 => h2 (.inr (.inr (.inl ⟨hb, h0⟩)))
          rw [hd rfl, dec_big (by omega), show (10 * n + (c.toNat - 48)) / 10 = n by omega, show (10 * n + (c.toNat - 48)) % 10 = c.toNat - 48 by omega, of_digit (by omega) (by omega), List.append_assoc]
          rfl
        · rw [hd rfl, dec_small (by omega), show 48 + (10 * n + (c.toNat - 48)) = 48 + (c.toNat - 48) by omega, of_digit (by omega) (by omega)]
          rfl
theorem scan_back (most : Nat) (e : UInt8) (l : List UInt8) (m : Nat) (rest : List UInt8) (h : scan most e l 0 false = .ok m rest) : m ≤ most ∧ l = decDigits m ++ e :: rest := by
  obtain ⟨hm, ds, hl, _, hd⟩ := scan_ok most e l 0 false m rest (Nat.zero_le _) h
  exact ⟨hm, by rw [hd rfl rfl]; exact hl⟩
/-- More bytes behind change nothing but a short end. -/
theorem scan_more (most : Nat) (e : UInt8) (q : List UInt8) : ∀ (p : List UInt8) (n : Nat) (b : Bool), (∀ m r, scan most e p n b = .ok m r → scan most e (p ++ q) n b = .ok m (r ++ q)) ∧ (scan most e p n b = .corrupt → scan most e (p ++ q) n b = .corrupt)
  | [], n, b => ⟨fun _ _ h => (by rw [scan] at h; cases h), fun h => (by rw [scan] at h; cases h)⟩
  | c :: p, n, b => by
    rw [List.cons_append, scan, scan]
    by_cases h1 : c = e ∧ b = true
    · rw [if_pos h1, if_pos h1]
      exact ⟨fun m r h => (by cases h; rfl), fun h => by cases h⟩
    · rw [if_neg h1, if_neg h1]
      by_cases h2 : c.toNat < 48 ∨ 57 < c.toNat ∨ (b = true ∧ n = 0) ∨ most < 10 * n + (c.toNat - 48)
      · rw [if_pos h2, if_pos h2]
        exact ⟨fun _ _ h => (by cases h), fun _ => rfl⟩
      · rw [if_neg h2, if_neg h2]
        exact scan_more most e q p _ true

/-! ### A reader -/
/-- Its rest, and its error. -/
structure Rd where
  rest : List UInt8
  err : Int
def digits (most : Nat) (e : UInt8) (r : Rd) : Nat × Rd :=
  if r.err = 0 then
    match scan most e r.rest 0 false with
    | .ok n l => (n, ⟨l, 0⟩)
    | .short => (0, ⟨[], 13⟩)
    | .corrupt => (0, ⟨[], 17⟩)
  else (0, r)
def number (low high : Int) (r : Rd) : Int × Rd :=
  let p := digits 281474976710656 59 r
  if p.2.err = 0 ∧ ((p.1 : Int) < low ∨ high < (p.1 : Int)) then (0, ⟨[], 3⟩) else ((p.1 : Int), p.2)
def text (most : Int) (r : Rd) : List UInt8 × Rd :=
  let p := digits 65536 58 r
  if p.2.err = 0 then
    if p.2.rest.length ≤ p.1 then ([], ⟨[], 13⟩)
    else if p.2.rest.getD p.1 0 = 44 then
      if most < (p.1 : Int) then ([], ⟨[], 10⟩) else (p.2.rest.take p.1, ⟨p.2.rest.drop (p.1 + 1), 0⟩)
    else ([], ⟨[], 17⟩)
  else ([], p.2)
def loop {α : Type} (next : Rd → α × Rd) : Nat → Rd → List α → List α × Rd
  | 0, r, acc => (acc, r)
  | k + 1, r, acc => if (next r).2.err = 0 then loop next k (next r).2 (acc ++ [(next r).1]) else ([], (next r).2)
def list {α : Type} (next : Rd → α × Rd) (r : Rd) : List α × Rd := loop next (number 0 1024 r).1.toNat (number 0 1024 r).2 []
end Cod
end Go.Proofs.YtkmldaelgbkfbaaDoor.Cd
