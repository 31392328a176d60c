/- The text of a set, read as plain functions: numbers of at most four digits, lines, the whole; there and back. No condition. -/
import Derived.Test.YtlablbibdkcifaaGreatDoorPak
import Derived.Test.YtlablbibdkcifaaGreatDoorCdCod
import Derived.Test.YtlablbibdkcifaaGreatDoorPrn
namespace Go.Proofs.YtlablbibdkcifaaGreatDoor
open Tr
namespace Ls

/-- The number that at most four digits in normal form stand for. -/
def numC (d : LN) : Option Nat :=
  match Cd.Cod.scan 9999 59 (d ++ [59]) 0 false with
  | .ok m [] => some m
  | _ => none
theorem numC_dec {n : Nat} (h : n ≤ 9999) : numC (Lib.decDigits n) = some n := by
  unfold numC
  rw [Cd.Cod.scan_num 9999 59 (by decide) n h []]
theorem numC_back {d : LN} {n : Nat} (h : numC d = some n) : d = Lib.decDigits n ∧ n ≤ 9999 := by
  unfold numC at h
  split at h
  · rename_i m he
    obtain ⟨h1, h2⟩ := Cd.Cod.scan_back 9999 59 _ m [] he
    injection h with h
    subst h
    exact ⟨List.append_cancel_right h2, h1⟩
  · cases h
theorem numC_none {d : LN} (h : ∀ n, n ≤ 9999 → d ≠ Lib.decDigits n) : numC d = none := by
  cases hn : numC d with
  | none => rfl
  | some n => exact absurd (numC_back hn).1 (h n (numC_back hn).2)
theorem dec_digits : ∀ (n : Nat), ∀ c ∈ Lib.decDigits n, 48 ≤ c.toNat ∧ c.toNat ≤ 57 := by
  intro n
  induction n using Nat.strongRecOn with
  | _ n ih =>
    intro c hc
    by_cases h : n < 10
    · rw [Cd.Cod.dec_small h, List.mem_singleton] at hc
      rw [hc, Cd.Cod.digit_nat h]; omega
    · rw [Cd.Cod.dec_big h, List.mem_append, List.mem_singleton] at hc
      rcases hc with hc | hc
      · exact ih (n / 10) (by omega) c hc
      · rw [hc, Cd.Cod.digit_nat (show n % 10 < 10 by omega)]; omega
theorem dec_first : ∀ (n : Nat), ∃ c r, Lib.decDigits n = c :: r ∧ (c.toNat = 48 → n = 0) := by
  intro n
  induction n using Nat.strongRecOn with
  | _ n ih =>
    by_cases h : n < 10
    · exact ⟨_, [], Cd.Cod.dec_small h, fun e => by rw [Cd.Cod.digit_nat h] at e; omega⟩
    · obtain ⟨c, r, h1, h2⟩ := ih (n / 10) (by omega)
      exact ⟨c, r ++ [UInt8.ofNat (48 + n % 10)], by rw [Cd.Cod.dec_big h, h1, List.cons_append], fun e => by have := h2 e; omega⟩
theorem numC_long {d : LN} (h : 4 < d.length) : numC d = none := by
  refine numC_none fun n hn e => ?_
  have h1 : ∀ k, k ≤ 4 → ∀ n, n < 10 ^ k → (Lib.decDigits n).length ≤ max 1 k := by
    intro k
    induction k with
    | zero => intro _ n hn; obtain rfl : n = 0 := by simpa using hn
              rw [Cd.Cod.dec_small (by omega)]; simp
    | succ k ih =>
      intro hk n hn
      by_cases c : n < 10
      · rw [Cd.Cod.dec_small c]; simp
      · rw [Cd.Cod.dec_big c, List.length_append, List.length_singleton]
        have hn' : n / 10 < 10 ^ k := by rw [Nat.pow_succ] at hn; omega
        have := ih (by omega) (n / 10) hn'
        have : 1 ≤ k := by
          rcases Nat.eq_zero_or_pos k with rfl | h
          · simp at hn; omega
          · exact h
        omega
  have := h1 4 (by omega) n (by omega)
  rw [e] at h
  omega
/-- A line: what is wrong with it, and its span. -/
def one3 (p a b : LN) : Int × Sp := match numC a, numC b with
  | some x, some y => if Tre.pathOk p = true then (if isSp x y = true then (0, ⟨p, x, y⟩) else (3, ⟨[], 0, 0⟩)) else (2, ⟨[], 0, 0⟩)
  | _, _ => (4, ⟨[], 0, 0⟩)
def oneP : List LN → Int × Sp
  | [p, a, b] => one3 p a b
  | _ => (4, ⟨[], 0, 0⟩)
def one (l : LN) : Int × Sp := oneP (Tre.split 32 l)
theorem one3_ok {p a b : LN} {s : Sp} {e : Int} (h : one3 p a b = (e, s)) (he : e = 0) : spT s = p ++ [32] ++ a ++ [32] ++ b ++ [10] ∧ Tre.pathOk s.path = true ∧ isSp s.lo s.hi = true ∧ s.path = p := by
  subst he
  unfold one3 at h
  split at h
  · rename_i x y hx hy
    split at h
    · rename_i hp
      split at h
      · rename_i hs
        injection h with _ h
        subst h
        refine ⟨?_, hp, hs, rfl⟩
        rw [(numC_back hx).1, (numC_back hy).1]
        rfl
      · injection h with h _; cases h
    · injection h with h _; cases h
  · injection h with h _; cases h
theorem one3_sp {p : LN} {x y : Nat} (hp : Tre.pathOk p = true) (hs : isSp (x : Int) (y : Int) = true) : one3 p (Lib.decDigits x) (Lib.decDigits y) = (0, ⟨p, x, y⟩) := by
  have := (isSp_iff _ _).1 hs
  unfold one3
  rw [numC_dec (by omega), numC_dec (by omega)]
  dsimp only
  rw [if_pos hp, if_pos hs]
theorem one3_bad {p a b : LN} (h : numC a = none ∨ numC b = none) : one3 p a b = (4, ⟨[], 0, 0⟩) := by
  unfold one3
  rcases h with h | h
  · rw [h]
  · rw [h]; split
    · rename_i hc; cases hc
    · rfl
/-- Where a byte is, for the first time. -/
theorem cut_at (c : UInt8) : ∀ (l : LN), (∀ x ∈ l, x ≠ c) ∨ ∃ a r, l = a ++ c :: r ∧ ∀ x ∈ a, x ≠ c
  | [] => .inl (by simp)
  | y :: t => by
    by_cases h : y = c
    · exact .inr ⟨[], t, by rw [h]; rfl, by simp⟩
    · rcases cut_at c t with h1 | ⟨a, r, h1, h2⟩
      · exact .inl fun x hx => (List.mem_cons.1 hx).elim (fun e => by rw [e]; exact h) (h1 x)
      · exact .inr ⟨y :: a, r, by rw [h1]; rfl, fun x hx => (List.mem_cons.1 hx).elim (fun e => by rw [e]; exact h) (h2 x)⟩
/-- What stands ahead of the first such byte, and behind it. -/
def cutL (c : UInt8) : LN → LN
  | [] => []
  | y :: t => if y = c then [] else y :: cutL c t
def cutR (c : UInt8) : LN → LN
  | [] => []
  | y :: t => if y = c then t else cutR c t
theorem cut_no {c : UInt8} : ∀ {l : LN}, (∀ x ∈ l, x ≠ c) → cutL c l = l ∧ cutR c l = []
  | [], _ => ⟨rfl, rfl⟩
  | y :: t, h => by
    have ih := cut_no fun x hx => h x (List.mem_cons_of_mem _ hx)
    rw [cutL, cutR, if_neg (h y (by simp)), if_neg (h y (by simp)), ih.1, ih.2]
    exact ⟨rfl, rfl⟩
theorem cut_yes {c : UInt8} {r : LN} : ∀ {a : LN}, (∀ x ∈ a, x ≠ c) → cutL c (a ++ c :: r) = a ∧ cutR c (a ++ c :: r) = r
  | [], _ => by rw [List.nil_append, cutL, cutR, if_pos rfl, if_pos rfl]; exact ⟨rfl, rfl⟩
  | y :: t, h => by
    have ih := cut_yes (r := r) fun x hx => h x (List.mem_cons_of_mem _ hx)
    rw [List.cons_append, cutL, cutR, if_neg (h y (by simp)), if_neg (h y (by simp)), ih.1, ih.2]
    exact ⟨rfl, rfl⟩
theorem dec_no (n : Nat) (c : UInt8) (hc : c.toNat < 48 ∨ 57 < c.toNat) : ∀ x ∈ Lib.decDigits n, x ≠ c := fun x hx e => by
  have := dec_digits n x hx
  rw [e] at this
  omega
/-- A line as the program cuts it: at the first blank, and what follows at its first one. -/
theorem one_cut (l : LN) : one l = one3 (cutL 32 l) (cutL 32 (cutR 32 l)) (cutR 32 (cutR 32 l)) := by
  unfold one
  rcases cut_at 32 l with h | ⟨p, r, rfl, h⟩
  · rw [(cut_no h).1, (cut_no h).2, Tre.split_end 32 l h]
    exact (one3_bad (.inl (numC_none fun n _ e => by obtain ⟨c, t, h1, _⟩ := dec_first n; rw [h1] at e; cases e))).symm
  · rw [(cut_yes h).1, (cut_yes h).2, Tre.split_cut 32 p r h]
    rcases cut_at 32 r with h2 | ⟨a, b, rfl, h2⟩
    · rw [(cut_no h2).1, (cut_no h2).2, Tre.split_end 32 r h2]
      exact (one3_bad (.inr (numC_none fun n _ e => by obtain ⟨c, t, h1, _⟩ := dec_first n; rw [h1] at e; cases e))).symm
    · rw [(cut_yes h2).1, (cut_yes h2).2, Tre.split_cut 32 a b h2]
      rcases cut_at 32 b with h3 | ⟨x, y, rfl, h3⟩
      · rw [Tre.split_end 32 b h3]; rfl
      · rw [Tre.split_cut 32 x y h3]
        have e : ∀ z, oneP (p :: a :: x :: z) = if z = [] then one3 p a x else (4, ⟨[], 0, 0⟩) := by intro z; cases z <;> rfl
        rw [e, if_neg (Tre.split_ne 32 y)]
        refine (one3_bad (.inr (numC_none fun n _ e => ?_))).symm
        exact dec_no n 32 (by decide) 32 (by rw [← e]; simp) rfl
theorem one_sp {s : Sp} (hp : Tre.pathOk s.path = true) (hs : isSp s.lo s.hi = true) (h32 : ∀ x ∈ s.path, x ≠ 32) : one (s.path ++ [32] ++ Lib.decDigits s.lo.toNat ++ [32] ++ Lib.decDigits s.hi.toNat) = (0, s) := by
  have h1 := (isSp_iff _ _).1 hs
  obtain ⟨p, lo, hi⟩ := s
  dsimp only at hp hs h32 h1 ⊢
  obtain ⟨x, rfl⟩ : ∃ x : Nat, lo = (x : Int) := ⟨lo.toNat, by omega⟩
  obtain ⟨y, rfl⟩ : ∃ y : Nat, hi = (y : Int) := ⟨hi.toNat, by omega⟩
  rw [one_cut, show p ++ [32] ++ Lib.decDigits (x : Int).toNat ++ [32] ++ Lib.decDigits (y : Int).toNat = p ++ 32 :: (Lib.decDigits x ++ 32 :: Lib.decDigits y) by simp]
  rw [(cut_yes h32).1, (cut_yes h32).2, (cut_yes (dec_no x 32 (by decide))).1, (cut_yes (dec_no x 32 (by decide))).2]
  exact one3_sp hp hs
theorem one_ok {l : LN} {s : Sp} (h : one l = (0, s)) : spT s = l ++ [10] ∧ Tre.pathOk s.path = true ∧ isSp s.lo s.hi = true := by
  unfold one at h
  rcases cut_at 32 l with h0 | ⟨p, r, rfl, h0⟩
  · rw [Tre.split_end 32 l h0] at h
    injection h with h _; cases h
  · rw [Tre.split_cut 32 p r h0] at h
    rcases cut_at 32 r with h2 | ⟨a, b, rfl, h2⟩
    · rw [Tre.split_end 32 r h2] at h
      injection h with h _; cases h
    · rw [Tre.split_cut 32 a b h2] at h
      have e : ∀ x z, oneP (p :: a :: x :: z) = if z = [] then one3 p a x else (4, ⟨[], 0, 0⟩) := by intro x z; cases z <;> rfl
      rcases cut_at 32 b with h3 | ⟨x, y, rfl, h3⟩
      · rw [Tre.split_end 32 b h3] at h
        have := one3_ok (show one3 p a b = (0, s) from h) rfl
        exact ⟨by rw [this.1]; simp, this.2.1, this.2.2.1⟩
      · rw [Tre.split_cut 32 x y h3, e, if_neg (Tre.split_ne 32 y)] at h
        injection h with h _; cases h
/-- The set of the lines of a text, behind spans that were read. -/
def flO (b : Option Sp) (s : Sp) : Bool := match b with
  | none => true
  | some b => fol s b
def prsA (out : List Sp) : List LN → Int × Int × List Sp
  | [] => (0, -1, out)
  | [x] => if x = [] then (0, -1, out) else (4, (out.length : Int), [])
  | x :: y :: t => if (one x).1 ≠ 0 then ((one x).1, (out.length : Int), []) else if flO out.getLast? (one x).2 = true then prsA (out ++ [(one x).2]) (y :: t) else (5, (out.length : Int), [])
def prs (s : LN) : Int × Int × List Sp := prsA [] (Tre.split 10 s)
theorem prsA_end (out : List Sp) : prsA out (Tre.split 10 []) = (0, -1, out) := by
  rw [Tre.split_end 10 [] (by simp)]; exact if_pos rfl
theorem prsA_last (out : List Sp) (s : LN) (h : ∀ x ∈ s, x ≠ 10) (hs : s ≠ []) : prsA out (Tre.split 10 s) = (4, (out.length : Int), []) := by
  rw [Tre.split_end 10 s h]; exact if_neg hs
theorem prsA_cut (out : List Sp) (x r : LN) (h : ∀ c ∈ x, c ≠ 10) : prsA out (Tre.split 10 (x ++ 10 :: r)) = if (one x).1 ≠ 0 then ((one x).1, (out.length : Int), []) else if flO out.getLast? (one x).2 = true then prsA (out ++ [(one x).2]) (Tre.split 10 r) else (5, (out.length : Int), []) := by
  rw [Tre.split_cut 10 x r h]
  cases hr : Tre.split 10 r with
  | nil => exact absurd hr (Tre.split_ne 10 r)
  | cons y t => rfl
theorem vldB_snoc : ∀ (l : List Sp) (b : Option Sp) (s : Sp), vldB b (l ++ [s]) = (vldB b l && behind (l.getLast?.or b) s)
  | [], b, s => by simp [vldB]
  | x :: t, b, s => by
    rw [List.cons_append, vldB, vldB_snoc t (some x) s, vldB, Bool.and_assoc]
    cases t with
    | nil => rfl
    | cons y t => rw [List.getLast?_cons_cons, List.getLast?_cons]; rfl
theorem behind_of {b : Option Sp} {s : Sp} (hp : Tre.pathOk s.path = true) (hs : isSp s.lo s.hi = true) : behind b s = flO b s := by
  cases b with
  | none => simp [behind, flO, hp, hs]
  | some b => simp [behind, flO, hp, hs]
theorem prt_snoc (out : List Sp) (s : Sp) : prt (out ++ [s]) = prt out ++ spT s := by
  unfold prt
  rw [List.flatMap_append]; simp
/-- What was read is valid, and its text is what was read. -/
theorem prsA_back : ∀ (n : Nat) (s : LN), s.length ≤ n → ∀ (out m : List Sp), vld out = true → ∀ k, prsA out (Tre.split 10 s) = (0, k, m) → prt m = prt out ++ s ∧ vld m = true ∧ k = -1 := by
  intro n
  induction n with
  | zero =>
    intro s hn out m hv k h
    obtain rfl : s = [] := List.length_eq_zero_iff.1 (by omega)
    rw [prsA_end] at h
    injection h with _ h
    injection h with h1 h2
    subst h1 h2
    exact ⟨by simp, hv, rfl⟩
  | succ n ih =>
    intro s hn out m hv k h
    by_cases h0 : s = []
    · subst h0
      rw [prsA_end] at h
      injection h with _ h
      injection h with h1 h2
      subst h1 h2
      exact ⟨by simp, hv, rfl⟩
    rcases cut_at 10 s with hc | ⟨x, r, rfl, hc⟩
    · rw [prsA_last out s hc h0] at h
      injection h with h _; cases h
    · rw [prsA_cut out x r hc] at h
      by_cases h1 : (one x).1 = 0
      · rw [if_neg (by simp [h1])] at h
        by_cases h2 : flO out.getLast? (one x).2 = true
        · rw [if_pos h2] at h
          obtain ⟨k1, k2, k3⟩ := one_ok (show one x = (0, (one x).2) from Prod.ext h1 rfl)
          have hv2 : vld (out ++ [(one x).2]) = true := by
            unfold vld at hv ⊢
            rw [vldB_snoc, hv, Bool.true_and, Option.or_none, behind_of k2 k3]; exact h2
          obtain ⟨j1, j2, j3⟩ := ih r (by simp at hn; omega) (out ++ [(one x).2]) m hv2 k h
          exact ⟨by rw [j1, prt_snoc, k1]; simp, j2, j3⟩
        · rw [if_neg h2] at h
          injection h with h _; cases h
      · rw [if_pos h1] at h
        injection h with h _
        exact absurd h h1
theorem prs_back {s : LN} {m : List Sp} {k : Int} (h : prs s = (0, k, m)) : prt m = s ∧ vld m = true ∧ k = -1 := by
  have := prsA_back s.length s (Nat.le_refl _) [] m rfl k h
  simpa [prt] using this
/-- With an error there is nothing, and the number of the line. -/
theorem prsA_err : ∀ (n : Nat) (s : LN), s.length ≤ n → ∀ (out : List Sp), (prsA out (Tre.split 10 s)).1 ≠ 0 → (prsA out (Tre.split 10 s)).2.2 = [] ∧ 0 ≤ (prsA out (Tre.split 10 s)).2.1 := by
  intro n
  induction n with
  | zero =>
    intro s hn out h
    obtain rfl : s = [] := List.length_eq_zero_iff.1 (by omega)
    rw [prsA_end] at h
    exact absurd rfl h
  | succ n ih =>
    intro s hn out h
    by_cases h0 : s = []
    · subst h0
      rw [prsA_end] at h
      exact absurd rfl h
    rcases cut_at 10 s with hc | ⟨x, r, rfl, hc⟩
    · rw [prsA_last out s hc h0]
      exact ⟨rfl, by show (0 : Int) ≤ (out.length : Int); omega⟩
    · rw [prsA_cut out x r hc] at h ⊢
      by_cases h1 : (one x).1 = 0
      · rw [if_neg (by simp [h1])] at h ⊢
        by_cases h2 : flO out.getLast? (one x).2 = true
        · rw [if_pos h2] at h ⊢
          exact ih r (by simp at hn; omega) _ h
        · rw [if_neg h2]
          exact ⟨rfl, by show (0 : Int) ≤ (out.length : Int); omega⟩
      · rw [if_pos h1]
        exact ⟨rfl, by show (0 : Int) ≤ (out.length : Int); omega⟩
theorem byteOk_no {c : UInt8} (h : Tre.byteOk c = true) : c ≠ 32 ∧ c ≠ 10 := by
  constructor
  · rintro rfl; exact absurd h (by decide)
  · rintro rfl; exact absurd h (by decide)
theorem mem_split (c : UInt8) : ∀ (n : Nat) (l : LN), l.length ≤ n → ∀ x ∈ l, x = c ∨ ∃ q ∈ Tre.split c l, x ∈ q := by
  intro n
  induction n with
  | zero => intro l hl x hx; have e : l = [] := List.length_eq_zero_iff.1 (by omega); subst e; cases hx
  | succ n ih =>
    intro l hl x hx
    rcases cut_at c l with h | ⟨a, r, rfl, h⟩
    · exact .inr ⟨l, by rw [Tre.split_end c l h]; simp, hx⟩
    · rw [Tre.split_cut c a r h]
      rcases List.mem_append.1 hx with hx | hx
      · exact .inr ⟨a, by simp, hx⟩
      · rcases List.mem_cons.1 hx with rfl | hx
        · exact .inl rfl
        · rcases ih r (by simp at hl; omega) x hx with e | ⟨q, hq, e⟩
          · exact .inl e
          · exact .inr ⟨q, by simp [hq], e⟩
theorem pathOk_no {p : LN} (h : Tre.pathOk p = true) : ∀ x ∈ p, x ≠ 32 ∧ x ≠ 10 := by
  intro x hx
  unfold Tre.pathOk at h
  rw [Bool.and_eq_true] at h
  rcases mem_split 47 p.length p (Nat.le_refl _) x hx with rfl | ⟨q, hq, e⟩
  · decide
  · have h1 := List.all_eq_true.1 h.2 q hq
    unfold Tre.part at h1
    rw [Bool.and_eq_true] at h1
    exact byteOk_no (List.all_eq_true.1 h1.2 x e)
/-- The text of a valid set is read back. -/
theorem prsA_prt : ∀ (l out : List Sp), vld (out ++ l) = true → prsA out (Tre.split 10 (prt l)) = (0, -1, out ++ l)
  | [], out, _ => by
    rw [show prt [] = [] from rfl, prsA_end, List.append_nil]
  | s :: t, out, h => by
    have hv := (vld_iff _).1 h
    have he := hv.each s (by simp)
    have hn := hv.apart.ne s (by simp)
    have hno := pathOk_no he.1
    have hsp : isSp s.lo s.hi = true := (isSp_iff _ _).2 ⟨he.2.1, hn, he.2.2⟩
    have e1 := one_sp he.1 hsp fun x hx => (hno x hx).1
    have e2 : prt (s :: t) = (s.path ++ [32] ++ Lib.decDigits s.lo.toNat ++ [32] ++ Lib.decDigits s.hi.toNat) ++ 10 :: prt t := by
      show spT s ++ prt t = _
      unfold spT
      simp
    have h' : vld ((out ++ [s]) ++ t) = true := by rw [List.append_assoc]; exact h
    have hf : flO out.getLast? s = true := by
      rcases List.eq_nil_or_concat out with rfl | ⟨i, b, rfl⟩
      · rfl
      · rw [List.concat_eq_append, List.getLast?_append]
        simp only [List.getLast?_singleton, Option.some_or]
        exact (fol_gap s b).2 ((List.pairwise_append.1 hv.apart.gap).2.2 b (by simp) s (by simp))
    rw [e2, prsA_cut _ _ _ (fun x hx => by
      simp only [List.mem_append, List.mem_singleton] at hx
      rcases hx with (((hx | hx) | hx) | hx) | hx
      · exact (hno x hx).2
      · rw [hx]; decide
      · exact dec_no _ 10 (by decide) x hx
      · rw [hx]; decide
      · exact dec_no _ 10 (by decide) x hx), e1]
    rw [if_neg (by simp), if_pos hf, prsA_prt t (out ++ [s]) h', List.append_assoc]
    rfl
theorem prs_prt {l : List Sp} (h : vld l = true) : prs (prt l) = (0, -1, l) := prsA_prt l [] h
end Ls
end Go.Proofs.YtlablbibdkcifaaGreatDoor
