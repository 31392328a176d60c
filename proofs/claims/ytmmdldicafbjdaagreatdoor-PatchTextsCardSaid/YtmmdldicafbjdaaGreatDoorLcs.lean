/- The longest common subsequence of two lists, and the pairs that the program finds, plain. No condition. -/
import Derived.Test.YtmmdldicafbjdaaGreatDoorKp2
namespace Go.Proofs.YtmmdldicafbjdaaGreatDoor
open Tr
namespace Pc

def lcs : List Ln → List Ln → Nat
  | [], _ => 0
  | _ :: _, [] => 0
  | x :: a, y :: b => if x = y then lcs a b + 1 else max (lcs a (y :: b)) (lcs (x :: a) b)
termination_by a b => a.length + b.length
theorem lcs_nil (b : List Ln) : lcs [] b = 0 := by rw [lcs]
theorem lcs_nil_r (a : List Ln) : lcs a [] = 0 := by cases a <;> rw [lcs]
theorem lcs_cons (x y : Ln) (a b : List Ln) : lcs (x :: a) (y :: b) = if x = y then lcs a b + 1 else max (lcs a (y :: b)) (lcs (x :: a) b) := by rw [lcs]
theorem lcs_steps : ∀ (N : Nat) (a b : List Ln), a.length + b.length ≤ N → (∀ x, lcs a b ≤ lcs (x :: a) b ∧ lcs (x :: a) b ≤ lcs a b + 1) ∧ (∀ y, lcs a b ≤ lcs a (y :: b) ∧ lcs a (y :: b) ≤ lcs a b + 1)
  | N, a, b, h => by
    constructor
    · intro x
      cases b with
      | nil => rw [lcs_nil_r, lcs_nil_r]; omega
      | cons y b' =>
        cases N with
        | zero => simp at h
        | succ N =>
          rw [List.length_cons] at h
          obtain ⟨q1, q2⟩ := lcs_steps N a b' (by omega)
          have r1 := q1 x
          have r2 := q2 y
          rw [lcs_cons]
          split <;> omega
    · intro y
      cases a with
      | nil => rw [lcs_nil, lcs_nil]; omega
      | cons x a' =>
        cases N with
        | zero => simp at h
        | succ N =>
          rw [List.length_cons] at h
          obtain ⟨q1, q2⟩ := lcs_steps N a' b (by omega)
          have r1 := q1 x
          have r2 := q2 y
          rw [lcs_cons]
          split <;> omega
theorem lcs_a (x : Ln) (a b : List Ln) : lcs a b ≤ lcs (x :: a) b ∧ lcs (x :: a) b ≤ lcs a b + 1 := (lcs_steps _ a b (Nat.le_refl _)).1 x
theorem lcs_b (y : Ln) (a b : List Ln) : lcs a b ≤ lcs a (y :: b) ∧ lcs a (y :: b) ≤ lcs a b + 1 := (lcs_steps _ a b (Nat.le_refl _)).2 y
/-- Where a line stands first. -/
def firstEq (x : Ln) : List Ln → Option Nat
  | [] => none
  | y :: b => if x = y then some 0 else (firstEq x b).map (· + 1)
theorem first_none {x : Ln} : ∀ {b : List Ln} (a : List Ln), firstEq x b = none → lcs (x :: a) b = lcs a b
  | [], a, _ => by rw [lcs_nil_r, lcs_nil_r]
  | y :: b, a, h => by
    rw [firstEq] at h
    split at h
    · cases h
    · rename_i hne
      rw [Option.map_eq_none_iff] at h
      have ih := first_none a h
      have := lcs_b y a b
      rw [lcs_cons, if_neg hne, ih]
      omega
theorem first_some {x : Ln} : ∀ {b : List Ln} {k : Nat} (a : List Ln), firstEq x b = some k → lcs (x :: a) b = max (lcs a b) (lcs a (b.drop (k + 1)) + 1)
  | [], k, a, h => by cases h
  | y :: b, k, a, h => by
    rw [firstEq] at h
    split at h
    · rename_i he
      obtain rfl := Option.some.inj h
      have := lcs_b y a b
      rw [lcs_cons, if_pos he]
      simp only [List.drop_succ_cons, List.drop_zero]
      omega
    · rename_i hne
      obtain ⟨k', hk, rfl⟩ := Option.map_eq_some_iff.1 h
      have ih := first_some a hk
      have := lcs_b y a b
      rw [lcs_cons, if_neg hne, ih, List.drop_succ_cons]
      omega
theorem first_at {x : Ln} : ∀ {b : List Ln} {k : Nat}, firstEq x b = some k → b[k]? = some x ∧ ∀ j, j < k → b[j]? ≠ some x
  | [], k, h => by cases h
  | y :: b, k, h => by
    rw [firstEq] at h
    split at h
    · rename_i he
      obtain rfl := Option.some.inj h
      exact ⟨by simp [he], fun j hj => by omega⟩
    · rename_i hne
      obtain ⟨k', hk, rfl⟩ := Option.map_eq_some_iff.1 h
      obtain ⟨h1, h2⟩ := first_at hk
      refine ⟨by simpa using h1, fun j hj => ?_⟩
      cases j with
      | zero => simp; exact fun e => hne e.symm
      | succ j => simpa using h2 j (by omega)
theorem first_miss {x : Ln} : ∀ {b : List Ln}, (∀ j : Nat, b[j]? ≠ some x) → firstEq x b = none
  | [], _ => rfl
  | y :: b, h => by
    rw [firstEq, if_neg (fun e => h 0 (by simp [e])), first_miss (fun j => by have := h (j + 1); simpa using this)]
    rfl
theorem first_hit {x : Ln} : ∀ {b : List Ln} {k : Nat}, b[k]? = some x → (∀ j, j < k → b[j]? ≠ some x) → firstEq x b = some k
  | [], k, h, _ => by simp at h
  | y :: b, 0, h, _ => by
    simp at h
    rw [firstEq, if_pos h.symm]
  | y :: b, k + 1, h, h2 => by
    rw [firstEq, if_neg (fun e => h2 0 (by omega) (by simp [e])), first_hit (by simpa using h) (fun j hj => by have := h2 (j + 1) (by omega); simpa using this)]
    rfl
/-- The pairs that the program finds: what is left of both lists behind i and j lines. -/
def common : List Ln → List Ln → Nat → Nat → List (Nat × Nat)
  | [], _, _, _ => []
  | x :: a, b, i, j => match firstEq x b with
    | none => common a b (i + 1) j
    | some k => if lcs a (b.drop (k + 1)) + 1 = lcs (x :: a) b then (i, j + k) :: common a (b.drop (k + 1)) (i + 1) (j + k + 1) else common a b (i + 1) j
theorem common_len : ∀ (a b : List Ln) (i j : Nat), (common a b i j).length = lcs a b
  | [], b, i, j => by rw [lcs_nil]; rfl
  | x :: a, b, i, j => by
    rw [common]
    split
    · rename_i h
      rw [common_len a b, first_none a h]
    · rename_i k h
      have hs := first_some a h
      split
      · rename_i e
        rw [List.length_cons, common_len a _, e]
      · rename_i e
        rw [common_len a b]
        omega
theorem common_mat (A B : List Ln) : ∀ (a b : List Ln) (i j : Nat), a = A.drop i → b = B.drop j → Mat A B i j (common a b i j)
  | [], b, i, j, _, _ => mat_nil _ _ _ _
  | x :: a, b, i, j, ha, hb => by
    have hi : i < A.length := by
      have := congrArg List.length ha
      rw [List.length_cons, List.length_drop] at this
      omega
    have hx : A[i]? = some x := by
      have := congrArg (fun l => l[0]?) ha
      simp only [List.getElem?_drop, Nat.add_zero] at this
      rw [← this]; rfl
    have ha' : a = A.drop (i + 1) := by
      have := congrArg (List.drop 1) ha
      rw [List.drop_drop] at this
      exact this
    rw [common]
    split
    · exact mat_mono (common_mat A B a b (i + 1) j ha' hb) (by omega) (Nat.le_refl _)
    · rename_i k h
      obtain ⟨h1, _⟩ := first_at h
      rw [hb, List.getElem?_drop] at h1
      have hj := (List.getElem?_eq_some_iff.1 h1).1
      split
      · exact mat_cons (Nat.le_refl _) (by omega) hi hj (hx.trans h1.symm) (common_mat A B a _ (i + 1) (j + k + 1) ha' (by rw [hb, List.drop_drop]; congr 1))
      · exact mat_mono (common_mat A B a b (i + 1) j ha' hb) (by omega) (Nat.le_refl _)
/-- No rising pairs of equal lines are more. -/
theorem mat_le (A B : List Ln) : ∀ (N : Nat) (a b : List Ln) (i j : Nat) (K : List (Nat × Nat)), a.length + b.length ≤ N → a = A.drop i → b = B.drop j → Mat A B i j K → K.length ≤ lcs a b
  | N, [], b, i, j, K, _, ha, _, hm => by
    cases K with
    | nil => simp
    | cons p K =>
      obtain ⟨m1, _, m3, _⟩ := mat_tail hm
      have := congrArg List.length ha
      rw [List.length_drop] at this
      simp at this; omega
  | N, x :: a, [], i, j, K, _, _, hb, hm => by
    cases K with
    | nil => simp
    | cons p K =>
      obtain ⟨_, m2, _, m4, _⟩ := mat_tail hm
      have := congrArg List.length hb
      rw [List.length_drop] at this
      simp at this; omega
  | 0, x :: a, y :: b, i, j, K, h, _, _, _ => by simp at h
  | N + 1, x :: a, y :: b, i, j, K, h, ha, hb, hm => by
    simp only [List.length_cons] at h
    have hx : A[i]? = some x := by
      have := congrArg (fun l => l[0]?) ha
      simp only [List.getElem?_drop, Nat.add_zero] at this
      rw [← this]; rfl
    have hy : B[j]? = some y := by
      have := congrArg (fun l => l[0]?) hb
      simp only [List.getElem?_drop, Nat.add_zero] at this
      rw [← this]; rfl
    have ha' : a = A.drop (i + 1) := by
      have := congrArg (List.drop 1) ha
      rw [List.drop_drop] at this
      exact this
    have hb' : b = B.drop (j + 1) := by
      have := congrArg (List.drop 1) hb
      rw [List.drop_drop] at this
      exact this
    cases K with
    | nil => simp
    | cons p K =>
      obtain ⟨p1, p2⟩ := p
      obtain ⟨m1, m2, m3, m4, m5, m6⟩ := mat_tail hm
      rw [lcs_cons]
      split
      · have := mat_le A B N a b (i + 1) (j + 1) K (by omega) ha' hb' (mat_mono m6 (by omega) (by omega))
        rw [List.length_cons]; omega
      · rename_i hne
        by_cases e1 : i < p1
        · have := mat_le A B N a (y :: b) (i + 1) j ((p1, p2) :: K) (by simp only [List.length_cons]; omega) ha' hb (mat_cons (by omega) m2 m3 m4 m5 m6)
          omega
        · by_cases e2 : j < p2
          · have := mat_le A B N (x :: a) b i (j + 1) ((p1, p2) :: K) (by simp only [List.length_cons]; omega) ha hb' (mat_cons m1 (by omega) m3 m4 m5 m6)
            omega
          · exfalso
            obtain rfl : p1 = i := by omega
            obtain rfl : p2 = j := by omega
            rw [hx, hy] at m5
            exact hne (Option.some.inj m5)
end Pc
end Go.Proofs.YtmmdldicafbjdaaGreatDoor
