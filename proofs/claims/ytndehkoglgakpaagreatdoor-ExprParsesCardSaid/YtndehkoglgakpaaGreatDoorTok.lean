/- The tokens of a row of bytes, as plain functions. No condition. -/
import Derived.Lib.ItoaNum
import Derived.Lib.ParseIntB
namespace Go.Proofs.YtndehkoglgakpaaGreatDoor
namespace Tok

def isLet (c : UInt8) : Bool := decide ((97 ≤ c.toNat ∧ c.toNat ≤ 122) ∨ c.toNat = 95)
def isDig (c : UInt8) : Bool := decide (48 ≤ c.toNat ∧ c.toNat ≤ 57)
def isIn (c : UInt8) : Bool := isLet c || isDig c
/-- How many bytes at the beginning are of a sort. -/
def run (p : UInt8 → Bool) (l : List UInt8) : Nat := (l.takeWhile p).length
/-- The value of digits. -/
def valA (a : Nat) : List UInt8 → Nat
  | [] => a
  | c :: l => valA (10 * a + (c.toNat - 48)) l
def val (l : List UInt8) : Nat := valA 0 l
/-- The value of a number, and the error. -/
def number (l : List UInt8) : Nat × Int :=
  if l = [] ∨ run isDig l < l.length ∨ (l.head? = some 48 ∧ l ≠ [48]) then (0, 4) else if 4294967295 < val l then (0, 3) else (val l, 0)
def nameOk (l : List UInt8) : Bool := decide (l ≠ [] ∧ l.length ≤ 32) && (l.head?.map isLet == some true) && decide (run isIn l = l.length)
def symsL : List (List UInt8) := [[124, 124], [38, 38], [61, 61], [33, 61], [60, 61], [62, 61], [60, 60], [62, 62], [124], [94], [38], [60], [62], [43], [45], [42], [47], [37], [126], [33], [40], [41], [44], [61]]
def isSym (l : List UInt8) : Bool := symsL.contains l
structure Tk where
  kind : Int
  text : List UInt8
deriving DecidableEq, Inhabited
/-- The symbol at the beginning. -/
def symb (l : List UInt8) : List UInt8 := if 2 ≤ l.length ∧ isSym (l.take 2) = true then l.take 2 else if 1 ≤ l.length ∧ isSym (l.take 1) = true then l.take 1 else []
/-- The name, the number at the beginning; the error. -/
def nName (l : List UInt8) : Tk × Int := if 32 < (l.takeWhile isIn).length then (⟨0, []⟩, 2) else (⟨1, l.takeWhile isIn⟩, 0)
def nNum (l : List UInt8) : Tk × Int :=
  if (number (l.takeWhile isDig)).2 ≠ 0 then (⟨0, []⟩, (number (l.takeWhile isDig)).2)
  else if (l.dropWhile isDig).head?.map isLet = some true then (⟨0, []⟩, 4)
  else (⟨2, l.takeWhile isDig⟩, 0)
def nSym (l : List UInt8) : Tk × Int := if symb l = [] then (⟨0, []⟩, 4) else (⟨3, symb l⟩, 0)
/-- The token at the beginning, and the error. -/
def next (l : List UInt8) : Tk × Int :=
  if l.head?.map isLet = some true then nName l else if l.head?.map isDig = some true then nNum l else nSym l
/-- The tokens of a row, behind k others; or the error. -/
def scan (k : Nat) : List UInt8 → List Tk × Int
  | [] => ([], 0)
  | c :: r =>
    if c = 32 then scan k r
    else if k = 256 then ([], 10)
    else if (next (c :: r)).2 = 0 then
      (if (scan (k + 1) (r.drop ((next (c :: r)).1.text.length - 1))).2 = 0 then ((next (c :: r)).1 :: (scan (k + 1) (r.drop ((next (c :: r)).1.text.length - 1))).1, 0)
       else ([], (scan (k + 1) (r.drop ((next (c :: r)).1.text.length - 1))).2))
    else ([], (next (c :: r)).2)
termination_by l => l.length
decreasing_by all_goals (simp; try omega)
def tokens (l : List UInt8) : List Tk × Int := if 65536 < l.length then ([], 10) else scan 0 l
def valid (t : Tk) : Bool := if t.kind = 1 then nameOk t.text else if t.kind = 2 then (number t.text).2 == 0 else if t.kind = 3 then isSym t.text else false
/-- The text of tokens: a blank between two. -/
def textOf : List Tk → List UInt8
  | [] => []
  | [t] => t.text
  | t :: u :: l => t.text ++ 32 :: textOf (u :: l)
def printed (l : List Tk) : List UInt8 × Int := if 256 < l.length then ([], 10) else if l.all valid = true then (textOf l, 0) else ([], 1)

/-- Tokens in front of a result. -/
def pre (ts : List Tk) (x : List Tk × Int) : List Tk × Int := if x.2 = 0 then (ts ++ x.1, 0) else ([], x.2)
theorem scan_nil (k : Nat) : scan k [] = ([], 0) := by rw [scan]
theorem scan_blank (k : Nat) (r : List UInt8) : scan k (32 :: r) = scan k r := by rw [scan]; simp
theorem scan_full (c : UInt8) (r : List UInt8) (hc : c ≠ 32) : scan 256 (c :: r) = ([], 10) := by rw [scan]; simp [hc]
theorem scan_err (k : Nat) (c : UInt8) (r : List UInt8) (hc : c ≠ 32) (hk : k ≠ 256) (h : (next (c :: r)).2 ≠ 0) : scan k (c :: r) = ([], (next (c :: r)).2) := by rw [scan]; simp [hc, hk, h]
theorem scan_bad (k : Nat) (l : List UInt8) : (scan k l).2 ≠ 0 → (scan k l).1 = [] := by
  induction k, l using scan.induct <;> (rw [scan]; try simp_all)
theorem take_while_take (p : UInt8 → Bool) (l : List UInt8) : l.takeWhile p = l.take (l.takeWhile p).length := by
  induction l with
  | nil => rfl
  | cons c r ih => by_cases h : p c = true <;> simp [h]; exact ih
theorem symb_take (l : List UInt8) : symb l = l.take (symb l).length ∧ (symb l ≠ [] → isSym (symb l) = true) ∧ (symb l).length ≤ 2 := by
  unfold symb
  split
  · rename_i h; refine ⟨?_, fun _ => h.2, by simp; omega⟩
    rw [List.length_take, Nat.min_eq_left h.1]
  · split
    · rename_i h; refine ⟨?_, fun _ => h.2, by simp; omega⟩
      rw [List.length_take, Nat.min_eq_left h.1]
    · simp
/-- What a token at the beginning is. -/
theorem next_ok (l : List UInt8) (h : (next l).2 = 0) : (next l).1.text = l.take (next l).1.text.length ∧ 1 ≤ (next l).1.text.length ∧ (next l).1.text.length ≤ l.length := by
  have key : ∀ x : List UInt8, x = l.take x.length → x ≠ [] → x = l.take x.length ∧ 1 ≤ x.length ∧ x.length ≤ l.length := fun x hx hn => by
    refine ⟨hx, List.length_pos_iff.2 hn, ?_⟩
    have := congrArg List.length hx
    rw [List.length_take] at this
    omega
  have hd : ∀ p : UInt8 → Bool, l.head?.map p = some true → l.takeWhile p ≠ [] := fun p hp => by
    cases l with
    | nil => simp at hp
    | cons c r => have : p c = true := by simpa using hp
                  simp [this]
  unfold next at h ⊢
  by_cases h1 : l.head?.map isLet = some true
  · rw [if_pos h1] at h ⊢
    unfold nName at h ⊢
    by_cases h2 : 32 < (l.takeWhile isIn).length
    · rw [if_pos h2] at h; simp at h
    · rw [if_neg h2]
      refine key _ (take_while_take _ _) (hd _ ?_)
      cases l with
      | nil => simp at h1
      | cons c r => have : isLet c = true := by simpa using h1
                    simp [isIn, this]
  · rw [if_neg h1] at h ⊢
    by_cases h3 : l.head?.map isDig = some true
    · rw [if_pos h3] at h ⊢
      unfold nNum at h ⊢
      by_cases h2 : (number (l.takeWhile isDig)).2 ≠ 0
      · rw [if_pos h2] at h; exact absurd h h2
      · rw [if_neg h2] at h ⊢
        by_cases h4 : (l.dropWhile isDig).head?.map isLet = some true
        · rw [if_pos h4] at h; simp at h
        · rw [if_neg h4]; exact key _ (take_while_take _ _) (hd _ h3)
    · rw [if_neg h3] at h ⊢
      unfold nSym at h ⊢
      by_cases h2 : symb l = []
      · rw [if_pos h2] at h; simp at h
      · rw [if_neg h2]; exact key _ (symb_take _).1 h2
theorem next_bad (l : List UInt8) (h : (next l).2 ≠ 0) : (next l).1 = ⟨0, []⟩ := by
  unfold next at h ⊢
  by_cases h1 : l.head?.map isLet = some true
  · rw [if_pos h1] at h ⊢
    unfold nName at h ⊢
    split at h
    · rename_i h2; rw [if_pos h2]
    · simp at h
  · rw [if_neg h1] at h ⊢
    by_cases h3 : l.head?.map isDig = some true
    · rw [if_pos h3] at h ⊢
      unfold nNum at h ⊢
      split at h
      · rename_i h2; rw [if_pos h2]
      · rename_i h2
        rw [if_neg h2]
        split at h
        · rename_i h4; rw [if_pos h4]
        · simp at h
    · rw [if_neg h3] at h ⊢
      unfold nSym at h ⊢
      split at h
      · rename_i h2; rw [if_pos h2]
      · simp at h
theorem scan_tok (k : Nat) (c : UInt8) (r : List UInt8) (hc : c ≠ 32) (hk : k ≠ 256) (h : (next (c :: r)).2 = 0) : scan k (c :: r) = pre [(next (c :: r)).1] (scan (k + 1) ((c :: r).drop (next (c :: r)).1.text.length)) := by
  obtain ⟨_, h1, _⟩ := next_ok _ h
  have e : (c :: r).drop (next (c :: r)).1.text.length = r.drop ((next (c :: r)).1.text.length - 1) := by
    obtain ⟨m, hm⟩ : ∃ m, (next (c :: r)).1.text.length = m + 1 := ⟨_, (Nat.sub_add_cancel h1).symm⟩
    rw [hm]; rfl
  rw [e, scan, if_neg hc, if_neg hk, if_pos h]
  rfl
theorem pre_pre (ts us : List Tk) (x : List Tk × Int) : pre ts (pre us x) = pre (ts ++ us) x := by
  unfold pre
  by_cases h : x.2 = 0
  · simp [h]
  · simp [h]
theorem pre_nil (k : Nat) (l : List UInt8) : pre [] (scan k l) = scan k l := by
  unfold pre
  split
  · rename_i h; rw [← h]; rfl
  · rename_i h; rw [← scan_bad k l h]
theorem scan_len (k : Nat) (l : List UInt8) (hk : k ≤ 256) (h : (scan k l).2 = 0) : k + (scan k l).1.length ≤ 256 := by
  induction k, l using scan.induct with
  | case1 k => simpa [scan_nil] using hk
  | case2 k l ih => rw [scan_blank] at h ⊢; exact ih hk h
  | case3 c l hc => rw [scan_full _ _ hc] at h; simp at h
  | case4 k c l hc hk2 hn h4 ih =>
    rw [scan, if_neg hc, if_neg hk2, if_pos hn, if_pos h4]
    have := ih (by omega) h4
    simp; omega
  | case5 k c l hc hk2 hn h4 ih =>
    rw [scan, if_neg hc, if_neg hk2, if_pos hn, if_neg h4] at h; exact absurd h h4
  | case6 k c l hc hk2 hn => rw [scan_err _ _ _ hc hk2 hn] at h; exact absurd h hn

/-- The value of digits, one more. -/
theorem valA_app (l m : List UInt8) : ∀ a, valA a (l ++ m) = valA (valA a l) m := by
  induction l with
  | nil => intro a; rfl
  | cons c r ih => intro a; exact ih _
theorem val_snoc (l : List UInt8) (c : UInt8) : val (l ++ [c]) = 10 * val l + (c.toNat - 48) := by unfold val; rw [valA_app]; rfl
theorem valA_le (l : List UInt8) : ∀ a, a ≤ valA a l := by
  induction l with
  | nil => intro a; exact Nat.le_refl _
  | cons c r ih => intro a; have := ih (10 * a + (c.toNat - 48)); show a ≤ valA (10 * a + (c.toNat - 48)) r; omega
theorem parse_digits (l : List UInt8) : ∀ a, a ≤ 4294967295 → l.all isDig = true → Lib.parseUintM 4294967295 a l = if 4294967295 < valA a l then .range else .ok (valA a l) := by
  induction l with
  | nil => intro a ha _; rw [Lib.parseUintM]; rw [if_neg (by show ¬ 4294967295 < a; omega)]; rfl
  | cons c r ih =>
    intro a ha h
    simp only [List.all_cons, Bool.and_eq_true] at h
    have hd : 48 ≤ c.toNat ∧ c.toNat ≤ 57 := by simpa [isDig] using h.1
    rw [Lib.parseUintM, if_pos hd, if_neg (by omega)]
    have e : valA a (c :: r) = valA (a * 10 + (c.toNat - 48)) r := by show valA (10 * a + _) r = _; rw [Nat.mul_comm]
    rw [e]
    by_cases h2 : 4294967295 < a * 10 + (c.toNat - 48)
    · rw [if_pos h2, if_pos (by have := valA_le r (a * 10 + (c.toNat - 48)); omega)]
    · rw [if_neg h2, ih _ (by omega) h.2]
theorem parse_number (l : List UInt8) (h : (number l).2 ≠ 4) : Lib.parseUintB 32 l = if 4294967295 < val l then .range else .ok (val l) := by
  unfold number at h
  by_cases hc : l = [] ∨ run isDig l < l.length ∨ (l.head? = some 48 ∧ l ≠ [48])
  · rw [if_pos hc] at h; simp at h
  · rw [Lib.parseUintB, if_neg (fun e => hc (.inl e))]
    refine parse_digits l 0 (by omega) ?_
    have hr : ¬ run isDig l < l.length := fun e => hc (.inr (.inl e))
    unfold run at hr
    have h2 := take_while_take isDig l
    have h3 : l.takeWhile isDig = l := by rw [h2]; exact List.take_of_length_le (by omega)
    rw [← h3]; simp [List.all_takeWhile]
end Tok
end Go.Proofs.YtndehkoglgakpaaGreatDoor
