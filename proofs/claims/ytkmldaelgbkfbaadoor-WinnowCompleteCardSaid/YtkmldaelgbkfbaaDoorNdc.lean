/- Numbers of at most four digits: decimal.Parse of the program, Number of the reference. Condition: the table of powers and strconv's errors lie in their variables. -/
import Derived.Test.YtkmldaelgbkfbaaDoorCdCod
import Derived.Test.YtkmldaelgbkfbaaDoorTrPat
import Derived.Test.YtkmldaelgbkfbaaDoorTrSpl
import Derived.Test.YtkmldaelgbkfbaaDoorShelf
import Derived.WalkKit
import Derived.WalkSpells
import Derived.WalkLawsBesides
import Derived.Lib.Hide
import Derived.Lib.AtoiAllCases
import Derived.Lib.SmallJoins
import Derived.Deep.RegionWith
import Derived.Laws.IdiomStrings
import Derived.Lib.OwnKind
import Derived.Deep.RegionHeld3
import Derived.Deep.LoopGhost
namespace Go.Proofs.YtkmldaelgbkfbaaDoor
open Go.RowKit Go.Deep Tr
theorem strL (l : List UInt8) : (str l).toList = l := ByteArray.toList_eq _
namespace Ls
abbrev LN := List UInt8
end Ls
namespace Ls
/-- The number that at most four digits in normal form stand for. -/
def numC (d : LN) : Option Nat :=
  match Cd.Cod.scan 9999 59 (d ++ [59]) 0 false with
  | .ok m [] => some m
  | _ => none
theorem numC_dec {n : Nat} (h : n ≤ 9999) : numC (Lib.decDigits n) = some n := by
  unfold numC
  rw [Cd.Cod.scan_num 9999 59 (by decide) n h []]
theorem numC_back {d : LN} {n : Nat} (h : numC d = some n) : d = Lib.decDigits n ∧ n ≤ 9999 := by
  unfold numC at h
  split at h
  · rename_i m he
    obtain ⟨h1, h2⟩ := Cd.Cod.scan_back 9999 59 _ m [] he
    injection h with h
    subst h
    exact ⟨List.append_cancel_right h2, h1⟩
  · cases h
theorem numC_none {d : LN} (h : ∀ n, n ≤ 9999 → d ≠ Lib.decDigits n) : numC d = none := by
  cases hn : numC d with
  | none => rfl
  | some n => exact absurd (numC_back hn).1 (h n (numC_back hn).2)
theorem dec_digits : ∀ (n : Nat), ∀ c ∈ Lib.decDigits n, 48 ≤ c.toNat ∧ c.toNat ≤ 57 := by
  intro n
  induction n using Nat.strongRecOn with
  | _ n ih =>
    intro c hc
    by_cases h : n < 10
    · rw [Cd.Cod.dec_small h, List.mem_singleton] at hc
      rw [hc, Cd.Cod.digit_nat h]; omega
    · rw [Cd.Cod.dec_big h, List.mem_append, List.mem_singleton] at hc
      rcases hc with hc | hc
      · exact ih (n / 10) (by omega) c hc
      · rw [hc, Cd.Cod.digit_nat (show n % 10 < 10 by omega)]; omega
theorem dec_first : ∀ (n : Nat), ∃ c r, Lib.decDigits n = c :: r ∧ (c.toNat = 48 → n = 0) := by
  intro n
  induction n using Nat.strongRecOn with
  | _ n ih =>
    by_cases h : n < 10
    · exact ⟨_, [], Cd.Cod.dec_small h, fun e => by rw [Cd.Cod.digit_nat h] at e; omega⟩
    · obtain ⟨c, r, h1, h2⟩ := ih (n / 10) (by omega)
      exact ⟨c, r ++ [UInt8.ofNat (48 + n % 10)], by rw [Cd.Cod.dec_big h, h1, List.cons_append], fun e => by have := h2 e; omega⟩
theorem numC_long {d : LN} (h : 4 < d.length) : numC d = none := by
  refine numC_none fun n hn e => ?_
  have h1 : ∀ k, k ≤ 4 → ∀ n, n < 10 ^ k → (Lib.decDigits n).length ≤ max 1 k := by
    intro k
    induction k with
    | zero => intro _ n hn; obtain rfl : n = 0 := by simpa using hn
              rw [Cd.Cod.dec_small (by omega)]; simp
    | succ k ih =>
      intro hk n hn
      by_cases c : n < 10
      · rw [Cd.Cod.dec_small c]; simp
      · rw [Cd.Cod.dec_big c, List.length_append, List.length_singleton]
        have hn' : n / 10 < 10 ^ k := by rw [Nat.pow_succ] at hn; omega
        have := ih (by omega) (n / 10) hn'
        have : 1 ≤ k := by
          rcases Nat.eq_zero_or_pos k with rfl | h
          · simp at hn; omega
          · exact h
        omega
  have := h1 4 (by omega) n (by omega)
  rw [e] at h
  omega
theorem pu_dec : ∀ (n : Nat), n ≤ 9999 → ∀ rest, Lib.parseUint10 0 (Lib.decDigits n ++ rest) = Lib.parseUint10 n rest := by
  intro n
  induction n using Nat.strongRecOn with
  | _ n ih =>
    intro hn rest
    by_cases h : n < 10
    · rw [Cd.Cod.dec_small h, List.singleton_append, Lib.parseUint10, Cd.Cod.digit_nat h, if_pos (by omega), if_neg (by omega), if_neg (by omega)]
      congr 1
      omega
    · rw [Cd.Cod.dec_big h, List.append_assoc, ih (n / 10) (by omega) (by omega), List.singleton_append, Lib.parseUint10, Cd.Cod.digit_nat (show n % 10 < 10 by omega), if_pos (by omega), if_neg (by omega), if_neg (by omega)]
      congr 1
      omega
theorem atoi_dec {n : Nat} (h : n ≤ 9999) : Lib.atoiAll (Lib.decDigits n) = .ok (n : Int) := by
  obtain ⟨c, r, hd, _⟩ := dec_first n
  have hc := dec_digits n c (by rw [hd]; simp)
  have hp := pu_dec n h []
  rw [List.append_nil] at hp
  unfold Lib.atoiAll
  rw [hd]
  dsimp only
  rw [if_neg (by omega)]
  unfold Lib.parseMag
  rw [if_neg (by simp), ← hd, hp]
  simp only [Lib.parseUint10]
  rw [if_neg (by omega), if_neg (by omega), if_neg (by omega)]
theorem numC_of {d : LN} {v : Int} (hl : d.length ≤ 4) (hd : Lib.decDigits v.toNat = d) : numC d = some v.toNat := by
  have h1 : v.toNat ≤ 9999 := by
    rcases Nat.lt_or_ge v.toNat 10000 with h | h
    · omega
    · exfalso
      have h5 : ∀ k n, 10 ^ k ≤ n → k + 1 ≤ (Lib.decDigits n).length := by
        intro k
        induction k with
        | zero => intro n _; obtain ⟨c, r, hd, _⟩ := dec_first n; rw [hd]; simp
        | succ k ih =>
          intro n hn
          have hp : 0 < 10 ^ k := Nat.pos_of_ne_zero (by simp)
          have hn2 : 10 * 10 ^ k ≤ n := by rw [Nat.pow_succ] at hn; omega
          rw [Cd.Cod.dec_big (by omega), List.length_append, List.length_singleton]
          have := ih (n / 10) (by omega)
          omega
      have := h5 4 v.toNat (by omega)
      rw [hd] at this
      omega
  rw [← hd]
  exact numC_dec h1
theorem numC_ne {d : LN} {v : Int} (h : Lib.atoiAll d = .ok v) (hd : ¬ (0 ≤ v ∧ Lib.decDigits v.toNat = d)) : numC d = none :=
  numC_none fun n hn e => by
    rw [e, atoi_dec hn] at h
    injection h with h
    exact hd ⟨by omega, by rw [← h, e]; simp⟩
theorem numC_no {d : LN} (h : ∀ v, Lib.atoiAll d ≠ .ok v) : numC d = none :=
  numC_none fun n hn e => by rw [e] at h; exact h _ (atoi_dec hn)
end Ls
/-- What decimal.Parse returns. -/
def GotDc (w : World) (o : Option Nat) : Ending → World → Prop := fun e w' => ((∃ n : Nat, o = some n ∧ n ≤ 9999 ∧ e = .returned (.tuple #[.int .i64 (n : Int), .bool true])) ∨ (o = none ∧ e = .returned (.tuple #[.int .i64 0, .bool false]))) ∧ Below w.heap.size w w'
namespace Ls
/-- What the loop of Number knows. -/
def NumS (d : LN) (i n : Nat) : Prop := (i = 0 ∧ n = 0) ∨ (1 ≤ i ∧ d.take i = Lib.decDigits n ∧ n < 10 ^ i ∧ (2 ≤ d.length → 1 ≤ n))
theorem NumS.bound {d : LN} {i n : Nat} (h : NumS d i n) (hi : i ≤ 4) : n ≤ 9999 := by
  rcases h with ⟨_, h⟩ | ⟨_, _, h, _⟩
  · omega
  · have : 10 ^ i ≤ 10 ^ 4 := Nat.pow_le_pow_right (by omega) hi
    omega
theorem NumS.step {d : LN} {i n : Nat} (h : NumS d i n) (hi : i < d.length) (h1 : 48 ≤ d[i].toNat) (h2 : d[i].toNat ≤ 57) (h0 : 2 ≤ d.length → ∀ (_ : 0 < d.length), d[0].toNat ≠ 48) : NumS d (i + 1) (10 * n + (d[i].toNat - 48)) := by
  refine .inr ⟨by omega, ?_, ?_, fun hl => ?_⟩
  · rcases h with ⟨rfl, rfl⟩ | ⟨ha, hb, hc, hd⟩
    · have hs : 10 * 0 + (d[0].toNat - 48) < 10 := by omega
      rw [Cd.Cod.dec_small hs, List.take_succ_eq_append_getElem hi, List.take_zero, List.nil_append]
      congr 1
      apply UInt8.toNat_inj.1
      rw [Cd.Cod.digit_nat hs]
      omega
    · have hn1 := hd (by omega)
      have hb10 : ¬ 10 * n + (d[i].toNat - 48) < 10 := by omega
      rw [Cd.Cod.dec_big hb10, List.take_succ_eq_append_getElem hi, hb]
      congr 1
      · congr 1; omega
      · congr 1
        apply UInt8.toNat_inj.1
        rw [Cd.Cod.digit_nat (by omega)]
        omega
  · rcases h with ⟨rfl, rfl⟩ | ⟨ha, hb, hc, hd⟩
    · simp; omega
    · rw [Nat.pow_succ]; omega
  · rcases h with ⟨rfl, rfl⟩ | ⟨ha, hb, hc, hd⟩
    · have := h0 hl (by omega); omega
    · have := hd hl; omega
theorem NumS.done {d : LN} {i n : Nat} (h : NumS d i n) (hi : i = d.length) (h1 : 1 ≤ d.length) (h4 : d.length ≤ 4) : numC d = some n := by
  have hb := h.bound (by omega)
  rcases h with ⟨h, _⟩ | ⟨_, h, _, _⟩
  · omega
  · rw [List.take_of_length_le (by omega)] at h
    rw [h]
    exact numC_dec hb
theorem numC_bad {d : LN} {c : UInt8} (hc : c ∈ d) (h : c.toNat < 48 ∨ 57 < c.toNat) : numC d = none := numC_none fun n _ e => by
  rw [e] at hc
  have := dec_digits n c hc
  omega
theorem numC_nil : numC [] = none := numC_none fun n _ e => by obtain ⟨c, t, h1, _⟩ := dec_first n; rw [h1] at e; cases e
theorem numC_zero {d : LN} (hl : 2 ≤ d.length) (h : d[0].toNat = 48) : numC d = none := numC_none fun n _ e => by
  obtain ⟨c, t, h1, h2⟩ := dec_first n
  have hc : d[0] = c := by
    have : d[0]? = some c := by rw [e, h1]; rfl
    rw [List.getElem?_eq_getElem (by omega)] at this
    exact Option.some.inj this
  have hn := h2 (by rw [← hc]; exact h)
  rw [e, hn, Cd.Cod.dec_small (by omega)] at hl
  simp at hl
end Ls
end Go.Proofs.YtkmldaelgbkfbaaDoor
