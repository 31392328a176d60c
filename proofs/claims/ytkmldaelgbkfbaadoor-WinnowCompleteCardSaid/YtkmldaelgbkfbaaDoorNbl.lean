/- Letters, blanks and words; where a string has the first byte of a sort, told by its runes. No condition. -/
import Derived.Test.YtkmldaelgbkfbaaDoorTrPat
import Derived.Shelf.GgClosure.StringsIndexFunc
import Derived.Lib.DecodeN
import Derived.Lib.TrimU
namespace Go.Proofs.YtkmldaelgbkfbaaDoor
namespace Nm
/-- Where the first byte of a sort stands, from a place on. -/
def fst (q : UInt8 → Bool) : List UInt8 → Nat → Int
  | [], _ => -1
  | c :: r, n => if q c then (n : Int) else fst q r (n + 1)
theorem getb (s : ByteArray) (i : Nat) (h : i < s.size) : (s.get! i).toNat = s[i].toNat := by
  congr 1
  show s.data[i]! = s.data[i]
  rw [getElem!_pos]
theorem decN_hi (n b0 b1 b2 b3 : Nat) (h : 128 ≤ b0) : 128 ≤ (Lib.decodeN n b0 b1 b2 b3).1 ∧ (2 ≤ (Lib.decodeN n b0 b1 b2 b3).2 → 128 ≤ b1 ∧ 1 < n) ∧ (3 ≤ (Lib.decodeN n b0 b1 b2 b3).2 → 128 ≤ b2 ∧ 2 < n) ∧ (4 ≤ (Lib.decodeN n b0 b1 b2 b3).2 → 128 ≤ b3 ∧ 3 < n) ∧ (Lib.decodeN n b0 b1 b2 b3).2 ≤ 4 := by
  unfold Lib.decodeN
  repeat' split
  all_goals (simp only; omega)
theorem dec_lo (s : ByteArray) (i : Nat) (h : i < s.size) (hc : s[i].toNat < 128) : Utf8.decode s i = (s[i].toNat, 1) := by
  rw [Lib.decode_at, getb s i h]
  unfold Lib.decodeN
  rw [if_pos hc]
/-- A byte from 128 on begins a rune from 128 on, of bytes from 128 on. -/
theorem dec_hi (s : ByteArray) (i : Nat) (h : i < s.size) (hc : 128 ≤ s[i].toNat) : 128 ≤ (Utf8.decode s i).1 ∧ i + (Utf8.decode s i).2 ≤ s.size ∧ ∀ j, j < (Utf8.decode s i).2 → ∀ hj : i + j < s.size, 128 ≤ (s[i + j]'hj).toNat := by
  have hw := Lib.width_pos s i
  rw [Lib.decode_at] at hw ⊢
  obtain ⟨k1, k2, k3, k4, k5⟩ := decN_hi (s.size - i) (s.get! i).toNat (s.get! (i + 1)).toNat (s.get! (i + 2)).toNat (s.get! (i + 3)).toNat (by rw [getb s i h]; exact hc)
  generalize Lib.decodeN (s.size - i) (s.get! i).toNat (s.get! (i + 1)).toNat (s.get! (i + 2)).toNat (s.get! (i + 3)).toNat = d at *
  obtain ⟨R, K⟩ := d
  dsimp only at *
  refine ⟨k1, by omega, fun j hj hjs => ?_⟩
  match j, hj, hjs with
  | 0, _, _ => exact hc
  | 1, hj, hjs => have := (k2 (by omega)).1; rw [getb s _ hjs] at this; exact this
  | 2, hj, hjs => have := (k3 (by omega)).1; rw [getb s _ hjs] at this; exact this
  | 3, hj, hjs => have := (k4 (by omega)).1; rw [getb s _ hjs] at this; exact this
  | j + 4, hj, _ => omega
theorem fst_skip (q : UInt8 → Bool) (s : ByteArray) : ∀ K pos, pos + K ≤ s.size → (∀ j, j < K → ∀ hj : pos + j < s.size, q (s[pos + j]'hj) = false) → fst q (s.data.toList.drop pos) pos = fst q (s.data.toList.drop (pos + K)) (pos + K) := by
  intro K
  induction K with
  | zero => intro pos _ _; rfl
  | succ K ih =>
    intro pos hle hq
    have hp : pos < s.data.toList.length := by show pos < s.size; omega
    rw [List.drop_eq_getElem_cons hp, fst]
    have h0 := hq 0 (by omega) (by omega)
    rw [show q s.data.toList[pos] = false from h0, if_neg (by simp)]
    rw [ih (pos + 1) (by omega) fun j hj hj2 => by
      have := hq (j + 1) (by omega) (by omega)
      have e : pos + 1 + j = pos + (j + 1) := by omega
      simp only [e]; exact this]
    rw [show pos + 1 + K = pos + (K + 1) by omega]
theorem idx_from (p : Nat → Bool) (v : Bool) (hp : ∀ x, 128 ≤ x → p x = v) (s : ByteArray) : ∀ f pos, pos ≤ s.size → s.size ≤ pos + f → Lib.idxFuncFrom p true s f pos = fst (fun c => p c.toNat) (s.data.toList.drop pos) pos := by
  intro f
  induction f with
  | zero =>
    intro pos h1 h2
    rw [List.drop_of_length_le (show s.data.toList.length ≤ pos by show s.size ≤ pos; omega)]
    rfl
  | succ f ih =>
    intro pos h1 h2
    unfold Lib.idxFuncFrom
    by_cases hps : pos < s.size
    · rw [if_pos hps]
      have hpl : pos < s.data.toList.length := hps
      have hcons := List.drop_eq_getElem_cons hpl
      have hge : s.data.toList[pos] = s[pos] := rfl
      rcases Nat.lt_or_ge s[pos].toNat 128 with hc | hc
      · rw [dec_lo s pos hps hc, hcons, fst, hge]
        dsimp only
        by_cases hq : p s[pos].toNat = true
        · rw [if_pos hq, if_pos hq]
        · rw [if_neg hq, if_neg hq, ih (pos + 1) (by omega) (by omega)]
      · obtain ⟨k1, k2, k3⟩ := dec_hi s pos hps hc
        have hw := Lib.width_pos s pos
        rw [hp _ k1]
        cases v with
        | true =>
          rw [if_pos rfl, hcons, fst, hge, hp _ hc, if_pos rfl]
        | false =>
          rw [if_neg (by simp), ih _ k2 (by omega)]
          exact (fst_skip _ s _ pos k2 fun j hj hj2 => hp _ (k3 j hj hj2)).symm
    · rw [if_neg hps, List.drop_of_length_le (show s.data.toList.length ≤ pos by show s.size ≤ pos; omega)]
      rfl
theorem idx_eq (p : Nat → Bool) (v : Bool) (hp : ∀ x, 128 ≤ x → p x = v) (s : ByteArray) : Lib.idxFunc p true s = fst (fun c => p c.toNat) s.data.toList 0 := by
  unfold Lib.idxFunc
  rw [idx_from p v hp s s.size 0 (Nat.zero_le _) (by omega), List.drop_zero]
theorem fst_any (q : UInt8 → Bool) : ∀ l n, decide (0 ≤ fst q l n) = l.any q := by
  intro l
  induction l with
  | nil => intro n; rfl
  | cons c r ih =>
    intro n
    rw [fst, List.any_cons]
    cases q c
    · rw [if_neg (by simp), ih]; rfl
    · rw [if_pos rfl]; simp
theorem fst_run (q : UInt8 → Bool) : ∀ l n, fst q l n = if (l.takeWhile fun c => !q c).length = l.length then -1 else ((n + (l.takeWhile fun c => !q c).length : Nat) : Int) := by
  intro l
  induction l with
  | nil => intro n; rfl
  | cons c r ih =>
    intro n
    rw [fst, List.takeWhile_cons]
    cases hq : q c
    · simp only [Bool.not_false, if_true, Bool.false_eq_true, if_false, List.length_cons]
      rw [ih]
      have := (List.takeWhile_prefix (l := r) fun c => !q c).length_le
      split
      · rw [if_pos (by omega)]
      · rw [if_neg (by omega)]; congr 1; omega
    · simp only [Bool.not_true, if_true, Bool.false_eq_true, if_false, List.length_nil, List.length_cons]
      rw [if_neg (by omega)]; rfl
/-- Letters, digits and underscores; digits; blanks. -/
def isLt (c : UInt8) : Bool := decide ((97 ≤ c.toNat ∧ c.toNat ≤ 122) ∨ (65 ≤ c.toNat ∧ c.toNat ≤ 90) ∨ (48 ≤ c.toNat ∧ c.toNat ≤ 57) ∨ c.toNat = 95)
def isDg (c : UInt8) : Bool := decide (48 ≤ c.toNat ∧ c.toNat ≤ 57)
def isBl (c : UInt8) : Bool := decide (c.toNat ≤ 32 ∨ c.toNat = 127)
def blR (x : Nat) : Bool := decide (x ≤ 32 ∨ x = 127)
def ltR (x : Nat) : Bool := !decide ((97 ≤ x ∧ x ≤ 122) ∨ (65 ≤ x ∧ x ≤ 90) ∨ (48 ≤ x ∧ x ≤ 57) ∨ x = 95)
theorem blR_hi (x : Nat) (h : 128 ≤ x) : blR x = false := decide_eq_false (by omega)
theorem ltR_hi (x : Nat) (h : 128 ≤ x) : ltR x = true := by unfold ltR; rw [decide_eq_false (by omega)]; rfl
theorem blR_at (c : UInt8) : blR c.toNat = isBl c := rfl
theorem ltR_at (c : UInt8) : ltR c.toNat = !isLt c := rfl
/-- Whether bytes can be a word. -/
def isW (s : List UInt8) : Bool := !s.isEmpty && !s.any isBl
/-- How many letters, digits and underscores bytes begin with. -/
def lead (s : List UInt8) : Nat := (s.takeWhile isLt).length
theorem blank_idx (s : ByteArray) : decide (0 ≤ Lib.idxFunc blR true s) = s.data.toList.any isBl := by
  rw [idx_eq blR false blR_hi, fst_any]; rfl
theorem lead_idx (s : ByteArray) : Lib.idxFunc ltR true s = if lead s.data.toList = s.size then -1 else (lead s.data.toList : Int) := by
  rw [idx_eq ltR true ltR_hi, fst_run]
  have e : (fun c : UInt8 => !(fun c : UInt8 => ltR c.toNat) c) = isLt := by funext c; show (!ltR c.toNat) = _; rw [ltR_at, Bool.not_not]
  rw [e, Nat.zero_add]
  rfl
end Nm
end Go.Proofs.YtkmldaelgbkfbaaDoor
