/- Sets of lines as plain lists of spans; two valid lists of the same lines are equal. No condition. -/
import Derived.Test.YtlablbibdkcifaaGreatDoorTrOrd
namespace Go.Proofs.YtlablbibdkcifaaGreatDoor
namespace Ls
open Tr.Tre (bl_irr bl_trans bl_total bl_asym bl_ne)

abbrev LN := List UInt8
/-- A span. -/
structure Sp where
  path : LN
  lo : Int
  hi : Int
deriving DecidableEq, Inhabited
def less (a b : LN) : Bool := Op.bytesLess a b
def inSp (p : LN) (m : Int) (s : Sp) : Bool := decide (s.path = p) && (decide (s.lo ≤ m) && decide (m < s.hi))
theorem inSp_iff {p : LN} {m : Int} {s : Sp} : inSp p m s = true ↔ s.path = p ∧ s.lo ≤ m ∧ m < s.hi := by
  unfold inSp; simp only [Bool.and_eq_true, decide_eq_true_eq]
/-- Whether a line is in one of the spans. -/
def has (l : List Sp) (p : LN) (m : Int) : Bool := l.any (inSp p m)
theorem has_iff {l : List Sp} {p : LN} {m : Int} : has l p m = true ↔ ∃ s ∈ l, s.path = p ∧ s.lo ≤ m ∧ m < s.hi := by
  unfold has
  rw [List.any_eq_true]
  exact ⟨fun ⟨s, h1, h2⟩ => ⟨s, h1, inSp_iff.1 h2⟩, fun ⟨s, h1, h2⟩ => ⟨s, h1, inSp_iff.2 h2⟩⟩
/-- A place is before another one. -/
def pl (p : LN) (m : Int) (q : LN) (n : Int) : Prop := less p q = true ∨ (p = q ∧ m < n)
theorem pl_irr (p : LN) (m : Int) : ¬ pl p m p m := by
  rintro (h | ⟨_, h⟩)
  · unfold less at h; rw [bl_irr] at h; cases h
  · omega
theorem pl_trans {p q r : LN} {m n k : Int} (h1 : pl p m q n) (h2 : pl q n r k) : pl p m r k := by
  rcases h1 with h1 | ⟨rfl, h1⟩
  · rcases h2 with h2 | ⟨rfl, h2⟩
    · exact .inl (bl_trans _ _ _ h1 h2)
    · exact .inl h1
  · rcases h2 with h2 | ⟨rfl, h2⟩
    · exact .inl h2
    · exact .inr ⟨rfl, by omega⟩
theorem pl_tri (p : LN) (m : Int) (q : LN) (n : Int) : pl p m q n ∨ (p = q ∧ m = n) ∨ pl q n p m := by
  rcases bl_total p q with h | h | h
  · exact .inl (.inl h)
  · rcases Int.lt_trichotomy m n with h2 | h2 | h2
    · exact .inl (.inr ⟨h, h2⟩)
    · exact .inr (.inl ⟨h, h2⟩)
    · exact .inr (.inr (.inr ⟨h.symm, h2⟩))
  · exact .inr (.inr (.inl h))
theorem npl_trans {p q r : LN} {m n k : Int} (h1 : ¬ pl q n p m) (h2 : ¬ pl r k q n) : ¬ pl r k p m := by
  intro h
  rcases pl_tri q n p m with a | ⟨a, b⟩ | a
  · exact h1 a
  · subst a b; exact h2 h
  · exact h2 (pl_trans h a)
theorem npl_lt {p q r : LN} {m n k : Int} (h1 : pl p m q n) (h2 : ¬ pl r k q n) : pl p m r k := by
  rcases pl_tri q n r k with a | ⟨a, b⟩ | a
  · exact pl_trans h1 a
  · subst a b; exact h1
  · exact absurd a h2
theorem lt_npl {p q r : LN} {m n k : Int} (h1 : ¬ pl q n p m) (h2 : pl q n r k) : pl p m r k := by
  rcases pl_tri p m q n with a | ⟨a, b⟩ | a
  · exact pl_trans a h2
  · subst a b; exact h2
  · exact absurd a h1
instance (p : LN) (m : Int) (q : LN) (n : Int) : Decidable (pl p m q n) := by unfold pl; infer_instance
/-- One span stands before another one, with a line between them. -/
def Gap (s t : Sp) : Prop := (s.path = t.path ∧ s.hi < t.lo) ∨ less s.path t.path = true
theorem gap_pl {s t : Sp} (h : Gap s t) : pl s.path s.hi t.path t.lo := by
  rcases h with ⟨h1, h2⟩ | h
  · exact .inr ⟨h1, h2⟩
  · exact .inl h
theorem gap_trans {r s t : Sp} (hs : s.lo < s.hi) (h1 : Gap r s) (h2 : Gap s t) : Gap r t := by
  rcases h1 with ⟨a, b⟩ | a
  · rcases h2 with ⟨c, d⟩ | c
    · exact .inl ⟨a.trans c, by omega⟩
    · exact .inr (by rw [a]; exact c)
  · rcases h2 with ⟨c, d⟩ | c
    · exact .inr (by rw [← c]; exact a)
    · exact .inr (bl_trans _ _ _ a c)
/-- Spans that are not empty, in order, apart. -/
structure Apart (l : List Sp) : Prop where
  ne : ∀ s ∈ l, s.lo < s.hi
  gap : l.Pairwise Gap
theorem Apart.nil : Apart [] := ⟨by simp, .nil⟩
theorem Apart.tail {s : Sp} {t : List Sp} (h : Apart (s :: t)) : Apart t := ⟨fun x hx => h.ne x (by simp [hx]), (List.pairwise_cons.1 h.gap).2⟩
theorem Apart.head {s : Sp} {t : List Sp} (h : Apart (s :: t)) : s.lo < s.hi ∧ ∀ x ∈ t, Gap s x := ⟨h.ne s (by simp), (List.pairwise_cons.1 h.gap).1⟩
/-- The first line of the first span is the least one. -/
theorem Apart.least {s : Sp} {t : List Sp} (h : Apart (s :: t)) {p : LN} {m : Int} (hp : has (s :: t) p m = true) : ¬ pl p m s.path s.lo := by
  obtain ⟨x, hx, rfl, h1, h2⟩ := has_iff.1 hp
  intro hl
  rcases List.mem_cons.1 hx with rfl | hx
  · rcases hl with hl | ⟨_, hl⟩
    · unfold less at hl; rw [bl_irr] at hl; cases hl
    · omega
  · have g := gap_pl (h.head.2 x hx)
    have h0 := h.head.1
    have a : pl s.path s.lo s.path s.hi := .inr ⟨rfl, h0⟩
    have b : pl s.path s.lo x.path x.lo := pl_trans a g
    have c := pl_trans b (show pl x.path x.lo s.path s.lo from by
      rcases hl with hl | ⟨hl, hm⟩
      · exact .inl hl
      · exact .inr ⟨hl, by omega⟩)
    exact pl_irr _ _ c
theorem has_head {s : Sp} {t : List Sp} (h : s.lo < s.hi) : has (s :: t) s.path s.lo = true := has_iff.2 ⟨s, by simp, rfl, by omega, h⟩
theorem has_cons (s : Sp) (t : List Sp) (p : LN) (m : Int) : has (s :: t) p m = (inSp p m s || has t p m) := by unfold has; rw [List.any_cons]
theorem Apart.not_tail {s : Sp} {t : List Sp} (h : Apart (s :: t)) {p : LN} {m : Int} (hp : inSp p m s = true) : has t p m = false := by
  obtain ⟨rfl, h1, h2⟩ := inSp_iff.1 hp
  rw [Bool.eq_false_iff]
  intro ht
  obtain ⟨x, hx, e, h3, h4⟩ := has_iff.1 ht
  rcases h.head.2 x hx with ⟨_, g⟩ | g
  · omega
  · rw [e] at g; unfold less at g; rw [bl_irr] at g; cases g
theorem Apart.no_end {s : Sp} {t : List Sp} (h : Apart (s :: t)) : has (s :: t) s.path s.hi = false := by
  rw [Bool.eq_false_iff]
  intro ht
  obtain ⟨x, hx, e, h3, h4⟩ := has_iff.1 ht
  rcases List.mem_cons.1 hx with rfl | hx
  · omega
  · rcases h.head.2 x hx with ⟨_, g⟩ | g
    · omega
    · rw [e] at g; unfold less at g; rw [bl_irr] at g; cases g
/-- Two sets of the same lines are one. -/
theorem same_of_has : ∀ {l k : List Sp}, Apart l → Apart k → (∀ p m, has l p m = has k p m) → l = k
  | [], [], _, _, _ => rfl
  | [], s :: t, _, hk, h => by
    have := has_head (t := t) hk.head.1
    rw [← h] at this
    exact absurd this (by simp [has])
  | s :: t, [], hl, _, h => by
    have := has_head (t := t) hl.head.1
    rw [h] at this
    exact absurd this (by simp [has])
  | s :: t, s' :: t', hl, hk, h => by
    have a := hk.least ((h _ _).symm.trans (has_head (t := t) hl.head.1))
    have b := hl.least ((h _ _).trans (has_head (t := t') hk.head.1))
    have c : s.path = s'.path ∧ s.lo = s'.lo := by
      rcases pl_tri s.path s.lo s'.path s'.lo with x | x | x
      · exact absurd x a
      · exact x
      · exact absurd x b
    have d1 := hl.head.1
    have d2 := hk.head.1
    have e : s.hi = s'.hi := by
      rcases Int.lt_trichotomy s.hi s'.hi with x | x | x
      · have := hl.no_end
        rw [h, Bool.eq_false_iff] at this
        exact absurd (has_iff.2 ⟨s', by simp, c.1.symm, by omega, x⟩) this
      · exact x
      · have := hk.no_end
        rw [← h, Bool.eq_false_iff] at this
        exact absurd (has_iff.2 ⟨s, by simp, c.1, by omega, x⟩) this
    have f : s = s' := by
      cases s; cases s'
      simp only [Sp.mk.injEq]
      exact ⟨c.1, c.2, e⟩
    subst f
    rw [same_of_has hl.tail hk.tail fun p m => ?_]
    have g := h p m
    rw [has_cons, has_cons] at g
    cases hi : inSp p m s with
    | true => rw [hl.not_tail hi, hk.not_tail hi]
    | false => rw [hi] at g; simpa using g
end Ls
end Go.Proofs.YtlablbibdkcifaaGreatDoor
