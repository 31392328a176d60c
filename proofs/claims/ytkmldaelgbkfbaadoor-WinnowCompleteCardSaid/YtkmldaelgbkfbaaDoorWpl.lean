/- The rightmost least number of a window, the selected positions of a list, and the candidates of a pass over it, as plain functions. No condition. -/
namespace Go.Proofs.YtkmldaelgbkfbaaDoor
namespace Wn
/-- The rightmost least place of n numbers from f on. -/
def lst (l : List Int) (f : Nat) : Nat → Nat
  | 0 => f
  | n + 1 => if l.getD (f + n) 0 ≤ l.getD (lst l f n) 0 then f + n else lst l f n
structure IsLst (l : List Int) (f w n : Nat) : Prop where
  ge : f ≤ n
  lt : n < f + w
  le : ∀ k, f ≤ k → k < f + w → l.getD n 0 ≤ l.getD k 0
  ls : ∀ k, n < k → k < f + w → l.getD n 0 < l.getD k 0
theorem lst_is (l : List Int) (f : Nat) : ∀ w, IsLst l f (w + 1) (lst l f (w + 1))
  | 0 => by
    have h : lst l f 1 = f := by unfold lst lst; split <;> rfl
    rw [h]
    exact ⟨Nat.le_refl _, by omega, fun k h1 h2 => by rw [show k = f by omega]; exact Int.le_refl _, fun k h1 h2 => by omega⟩
  | w + 1 => by
    obtain ⟨h1, h2, h3, h4⟩ := lst_is l f w
    unfold lst
    generalize lst l f (w + 1) = m at *
    split
    · rename_i h
      refine ⟨by omega, by omega, fun k h5 h6 => ?_, fun k h5 h6 => by omega⟩
      by_cases e : k = f + (w + 1)
      · rw [e]; exact Int.le_refl _
      · exact Int.le_trans h (h3 k h5 (by omega))
    · rename_i h
      refine ⟨h1, by omega, fun k h5 h6 => ?_, fun k h5 h6 => ?_⟩
      · by_cases e : k = f + (w + 1)
        · rw [e]; omega
        · exact h3 k h5 (by omega)
      · by_cases e : k = f + (w + 1)
        · rw [e]; omega
        · exact h4 k h5 (by omega)
theorem lst_of {l : List Int} {f w : Nat} (h : 0 < w) : IsLst l f w (lst l f w) := by
  obtain ⟨n, rfl⟩ : ∃ n, w = n + 1 := ⟨w - 1, by omega⟩
  exact lst_is l f n
theorem IsLst.uniq {l : List Int} {f w n m : Nat} (h : IsLst l f w n) (h' : IsLst l f w m) : n = m := by
  rcases Nat.lt_trichotomy n m with e | e | e
  · have := h.ls m e h'.lt; have := h'.le n h.ge h.lt; omega
  · exact e
  · have := h'.ls n e h.lt; have := h.le m h'.ge h'.lt; omega
theorem lst_mono (l : List Int) (i w : Nat) (hw : 0 < w) : lst l i w ≤ lst l (i + 1) w := by
  have h := lst_of (l := l) (f := i) hw
  have h' := lst_of (l := l) (f := i + 1) hw
  generalize lst l i w = a at *
  generalize lst l (i + 1) w = b at *
  rcases Nat.lt_or_ge b a with e | e
  · have h1 := h'.ls a e (by have := h.lt; omega)
    have h2 := h.le b (by have := h'.ge; omega) (by have := h.lt; omega)
    omega
  · exact e
/-- Windows with the same numbers. -/
theorem lst_shift (l l' : List Int) (f f' : Nat) : ∀ n, (∀ k, k < n → l.getD (f + k) 0 = l'.getD (f' + k) 0) → lst l f n + f' = lst l' f' n + f
  | 0, _ => by unfold lst; omega
  | n + 1, h => by
    have ih := lst_shift l l' f f' n fun k hk => h k (by omega)
    unfold lst
    rcases Nat.eq_zero_or_pos n with h0 | h0
    · subst h0
      unfold lst
      split <;> split <;> omega
    · have h1 := lst_of (l := l) (f := f) h0
      have h2 := h n (by omega)
      have h3 := h (lst l f n - f) (by have := h1.lt; have := h1.ge; omega)
      rw [show f + (lst l f n - f) = lst l f n by have := h1.ge; omega, show f' + (lst l f n - f) = lst l' f' n by have := h1.ge; omega] at h3
      rw [h2, h3]
      split <;> omega
/-- The positions that the first m windows select. -/
def sel (l : List Int) (w : Nat) : Nat → List Nat
  | 0 => []
  | m + 1 => if (sel l w m).getLast? = some (lst l m w) then sel l w m else sel l w m ++ [lst l m w]
theorem sel_last (l : List Int) (w m : Nat) : (sel l w (m + 1)).getLast? = some (lst l m w) := by
  unfold sel
  split
  · assumption
  · simp
theorem sel_le (l : List Int) (w : Nat) (hw : 0 < w) : ∀ m x, x ∈ sel l w (m + 1) → x ≤ lst l m w
  | 0, x, h => by
    have : sel l w 1 = [lst l 0 w] := by unfold sel sel; simp
    rw [this] at h; simp at h; omega
  | m + 1, x, h => by
    have ih := sel_le l w hw m x
    have hm := lst_mono l m w hw
    rw [sel] at h
    split at h
    · have := ih h; omega
    · rcases List.mem_append.1 h with h | h
      · have := ih h; omega
      · simp at h; omega
theorem sel_mem (l : List Int) (w : Nat) : ∀ m x, x ∈ sel l w m ↔ ∃ i, i < m ∧ x = lst l i w
  | 0, x => by simp [sel]
  | m + 1, x => by
    have ih := sel_mem l w m x
    have key : x ∈ sel l w (m + 1) ↔ x ∈ sel l w m ∨ x = lst l m w := by
      rw [sel]
      split
      · rename_i h
        have := List.mem_of_getLast? h
        constructor
        · exact .inl
        · rintro (h | rfl)
          · exact h
          · exact this
      · simp
    rw [key, ih]
    constructor
    · rintro (⟨i, h, e⟩ | e)
      · exact ⟨i, by omega, e⟩
      · exact ⟨m, by omega, e⟩
    · rintro ⟨i, h, e⟩
      by_cases him : i = m
      · rw [him] at e; exact .inr e
      · exact .inl ⟨i, by omega, e⟩
/-- What a window selects is new exactly if it is greater than the last one. -/
theorem sel_new (l : List Int) (w : Nat) (hw : 0 < w) (m : Nat) : (sel l w (m + 1)).getLast? = some (lst l (m + 1) w) ∨ (∀ x, x ∈ sel l w (m + 1) → x < lst l (m + 1) w) := by
  rw [sel_last]
  have := lst_mono l m w hw
  rcases Nat.lt_or_ge (lst l m w) (lst l (m + 1) w) with h | h
  · exact .inr fun x hx => by have := sel_le l w hw m x hx; omega
  · exact .inl (by congr 1; omega)
theorem sel_asc (l : List Int) (w : Nat) (hw : 0 < w) : ∀ m, (sel l w m).Pairwise (· < ·)
  | 0 => .nil
  | m + 1 => by
    have ih := sel_asc l w hw m
    rw [sel]
    split
    · exact ih
    · rename_i h
      rw [List.pairwise_append]
      refine ⟨ih, List.pairwise_singleton .., fun a ha b hb => ?_⟩
      simp only [List.mem_singleton] at hb
      subst hb
      cases m with
      | zero => simp [sel] at ha
      | succ m =>
        rcases sel_new l w hw m with h' | h'
        · exact absurd h' h
        · exact h' a ha
theorem sel_len (l : List Int) (w : Nat) : ∀ m, (sel l w m).length ≤ m
  | 0 => by simp [sel]
  | m + 1 => by
    have := sel_len l w m
    rw [sel]
    split
    · omega
    · rw [List.length_append, List.length_singleton]; omega
theorem sel_pos (l : List Int) (w m : Nat) (h : 0 < m) : 0 < (sel l w m).length := by
  obtain ⟨n, rfl⟩ : ∃ n, m = n + 1 := ⟨m - 1, by omega⟩
  have := sel_last l w n
  rw [List.getLast?_eq_getElem?] at this
  have := (List.getElem?_eq_some_iff.1 this).1
  omega
theorem sel_lt (l : List Int) (w : Nat) (hw : 0 < w) (m x : Nat) (h : x ∈ sel l w m) : x + 1 < m + w := by
  obtain ⟨i, hi, rfl⟩ := (sel_mem l w m x).1 h
  have := (lst_of (l := l) (f := i) hw).lt
  omega
/-- The step, with what is last. -/
theorem sel_step (l : List Int) (w m : Nat) : sel l w (m + 1) = if (sel l w m).getLast? = some (lst l m w) then sel l w m else sel l w m ++ [lst l m w] := rfl
theorem asc_ext : ∀ {a b : List Nat}, a.Pairwise (· < ·) → b.Pairwise (· < ·) → (∀ x, x ∈ a ↔ x ∈ b) → a = b
  | [], [], _, _, _ => rfl
  | [], y :: b, _, _, h => absurd ((h y).2 List.mem_cons_self) (by simp)
  | x :: a, [], _, _, h => absurd ((h x).1 List.mem_cons_self) (by simp)
  | x :: a, y :: b, ha, hb, h => by
    rw [List.pairwise_cons] at ha hb
    have hxy : x = y := by
      have h1 := (h x).1 List.mem_cons_self
      have h2 := (h y).2 List.mem_cons_self
      rcases List.mem_cons.1 h1 with e | e
      · exact e
      · rcases List.mem_cons.1 h2 with e' | e'
        · exact e'.symm
        · have := hb.1 x e; have := ha.1 y e'; omega
    subst hxy
    rw [asc_ext ha.2 hb.2 fun z => ?_]
    constructor
    · intro hz
      rcases List.mem_cons.1 ((h z).1 (List.mem_cons_of_mem _ hz)) with e | e
      · have := ha.1 z hz; omega
      · exact e
    · intro hz
      rcases List.mem_cons.1 ((h z).2 (List.mem_cons_of_mem _ hz)) with e | e
      · have := hb.1 z hz; omega
      · exact e
/-- The candidates behind lo among the first n positions: those whose numbers are less than all behind them. -/
def cnd (l : List Int) (lo n : Nat) : List Nat := (List.range n).filter fun j => decide (lo ≤ j) && (List.range n).all fun k => decide (k ≤ j) || decide (l.getD j 0 < l.getD k 0)
theorem mem_cnd {l : List Int} {lo n j : Nat} : j ∈ cnd l lo n ↔ j < n ∧ lo ≤ j ∧ ∀ k, k < n → j < k → l.getD j 0 < l.getD k 0 := by
  unfold cnd
  rw [List.mem_filter, List.mem_range, Bool.and_eq_true, decide_eq_true_eq, List.all_eq_true]
  refine and_congr_right fun _ => and_congr_right fun _ => ⟨fun h k hk hjk => ?_, fun h k hk => ?_⟩
  · have := h k (List.mem_range.2 hk)
    rw [Bool.or_eq_true, decide_eq_true_eq, decide_eq_true_eq] at this
    omega
  · rw [List.mem_range] at hk
    rw [Bool.or_eq_true, decide_eq_true_eq, decide_eq_true_eq]
    by_cases e : k ≤ j
    · exact .inl e
    · exact .inr (h k hk (by omega))
theorem cnd_asc (l : List Int) (lo n : Nat) : (cnd l lo n).Pairwise (· < ·) := List.Pairwise.filter _ List.pairwise_lt_range
theorem cnd_len (l : List Int) (lo n : Nat) : (cnd l lo n).length ≤ n := by
  unfold cnd
  have := List.length_filter_le (fun j => decide (lo ≤ j) && (List.range n).all fun k => decide (k ≤ j) || decide (l.getD j 0 < l.getD k 0)) (List.range n)
  rwa [List.length_range] at this
theorem cnd_zero (l : List Int) (lo : Nat) : cnd l lo 0 = [] := rfl
theorem asc_get {a : List Nat} (h : a.Pairwise (· < ·)) {i j : Nat} (hij : i < j) (hj : j < a.length) : a[i]'(by omega) < a[j] := List.pairwise_iff_getElem.1 h i j (by omega) hj hij
/-- One more position: the candidates whose numbers are not less are taken away from the end. -/
theorem cnd_enter (l : List Int) (lo n m : Nat) (hlo : lo ≤ n) (hm : m ≤ (cnd l lo n).length) (hge : ∀ i, m ≤ i → (hi : i < (cnd l lo n).length) → l.getD n 0 ≤ l.getD (cnd l lo n)[i] 0)
    (hstop : m = 0 ∨ ∃ h : m - 1 < (cnd l lo n).length, l.getD (cnd l lo n)[m - 1] 0 < l.getD n 0) : (cnd l lo n).take m ++ [n] = cnd l lo (n + 1) := by
  have hasc := cnd_asc l lo n
  have hmem : ∀ x, x ∈ cnd l lo n ↔ x < n ∧ lo ≤ x ∧ ∀ k, k < n → x < k → l.getD x 0 < l.getD k 0 := fun x => mem_cnd
  generalize cnd l lo n = c at *
  refine asc_ext ?_ (cnd_asc _ _ _) fun x => ?_
  · rw [List.pairwise_append]
    refine ⟨hasc.sublist (List.take_sublist _ _), List.pairwise_singleton .., fun a ha b hb => ?_⟩
    simp only [List.mem_singleton] at hb
    have := ((hmem a).1 (List.mem_of_mem_take ha)).1
    omega
  · rw [mem_cnd, List.mem_append, List.mem_singleton]
    constructor
    · rintro (hx | rfl)
      · have h1 := (hmem x).1 (List.mem_of_mem_take hx)
        refine ⟨by omega, h1.2.1, fun k hk hxk => ?_⟩
        by_cases e : k = n
        · subst e
          obtain ⟨i, hi, rfl⟩ := List.getElem_of_mem hx
          rw [List.length_take] at hi
          rw [List.getElem_take] at h1 hxk ⊢
          rcases hstop with h0 | ⟨h2, h3⟩
          · omega
          · by_cases e : i = m - 1
            · subst e; exact h3
            · have h4 := asc_get hasc (show i < m - 1 by omega) h2
              have h5 := ((hmem _).1 (List.getElem_mem h2)).1
              have := h1.2.2 _ h5 h4
              omega
        · exact h1.2.2 k (by omega) hxk
      · exact ⟨by omega, hlo, fun k h1 h2 => by omega⟩
    · rintro ⟨h1, h2, h3⟩
      by_cases e : x = n
      · exact .inr e
      · left
        have hx : x ∈ c := (hmem x).2 ⟨by omega, h2, fun k hk => h3 k (by omega)⟩
        obtain ⟨i, hi, rfl⟩ := List.getElem_of_mem hx
        by_cases him : i < m
        · exact List.mem_take_iff_getElem.2 ⟨i, by omega, rfl⟩
        · have := hge i (by omega) hi
          have := h3 n (by omega) (by omega)
          omega
/-- The window moves on. -/
theorem cnd_drop (l : List Int) (lo n c0 : Nat) (t : List Nat) (h : cnd l lo n = c0 :: t) (hlt : c0 < lo + 1) : cnd l (lo + 1) n = t := by
  have hasc := cnd_asc l lo n
  have hmem : ∀ x, x ∈ cnd l lo n ↔ x < n ∧ lo ≤ x ∧ ∀ k, k < n → x < k → l.getD x 0 < l.getD k 0 := fun x => mem_cnd
  rw [h] at hasc hmem
  rw [List.pairwise_cons] at hasc
  refine asc_ext (cnd_asc _ _ _) hasc.2 fun x => ?_
  rw [mem_cnd]
  have h0 := (hmem c0).1 List.mem_cons_self
  constructor
  · rintro ⟨h1, h2, h3⟩
    rcases List.mem_cons.1 ((hmem x).2 ⟨h1, by omega, h3⟩) with e | e
    · omega
    · exact e
  · intro hx
    have h1 := (hmem x).1 (List.mem_cons_of_mem _ hx)
    have := hasc.1 x hx
    exact ⟨h1.1, by omega, h1.2.2⟩
theorem cnd_keep (l : List Int) (lo n c0 : Nat) (t : List Nat) (h : cnd l lo n = c0 :: t) (hge : lo + 1 ≤ c0) : cnd l (lo + 1) n = c0 :: t := by
  have hasc := cnd_asc l lo n
  have hmem : ∀ x, x ∈ cnd l lo n ↔ x < n ∧ lo ≤ x ∧ ∀ k, k < n → x < k → l.getD x 0 < l.getD k 0 := fun x => mem_cnd
  rw [h] at hasc hmem
  refine asc_ext (cnd_asc _ _ _) hasc fun x => ?_
  rw [mem_cnd]
  constructor
  · rintro ⟨h1, h2, h3⟩
    exact (hmem x).2 ⟨h1, by omega, h3⟩
  · intro hx
    have h1 := (hmem x).1 hx
    rw [List.pairwise_cons] at hasc
    refine ⟨h1.1, ?_, h1.2.2⟩
    rcases List.mem_cons.1 hx with e | e
    · omega
    · have := hasc.1 x e; omega
/-- The first candidate is what the window selects. -/
theorem cnd_head (l : List Int) (lo w : Nat) (hw : 0 < w) : ∃ t, cnd l lo (lo + w) = lst l lo w :: t := by
  have h := lst_of (l := l) (f := lo) hw
  have hm : lst l lo w ∈ cnd l lo (lo + w) := mem_cnd.2 ⟨h.lt, h.ge, fun k h1 h2 => h.ls k h2 h1⟩
  have hmem : ∀ x, x ∈ cnd l lo (lo + w) ↔ x < lo + w ∧ lo ≤ x ∧ ∀ k, k < lo + w → x < k → l.getD x 0 < l.getD k 0 := fun x => mem_cnd
  have hasc := cnd_asc l lo (lo + w)
  generalize lst l lo w = n at *
  cases hc : cnd l lo (lo + w) with
  | nil => rw [hc] at hm; simp at hm
  | cons x t =>
    rw [hc] at hm hmem hasc
    rcases List.mem_cons.1 hm with e | e
    · exact ⟨t, by rw [e]⟩
    · rw [List.pairwise_cons] at hasc
      have h1 := hasc.1 n e
      have h2 := (hmem x).1 List.mem_cons_self
      have := h2.2.2 n h.lt h1
      have := h.le x h2.2.1 h2.1
      omega
/-- Two selected positions that follow one another are at most w apart. -/
theorem sel_gap (l : List Int) (w : Nat) (hw : 0 < w) : ∀ m i, (h : i + 1 < (sel l w m).length) → (sel l w m)[i + 1] ≤ (sel l w m)[i] + w
  | 0, i, h => by simp [sel] at h
  | m + 1, i, h => by
    have ih := sel_gap l w hw m i
    have e := sel_step l w m
    by_cases hc : (sel l w m).getLast? = some (lst l m w)
    · rw [if_pos hc] at e
      simp only [e] at h ⊢
      exact ih h
    · rw [if_neg hc] at e
      simp only [e] at h ⊢
      rw [List.length_append, List.length_singleton] at h
      by_cases hi : i + 1 < (sel l w m).length
      · rw [List.getElem_append_left hi, List.getElem_append_left (by omega)]
        exact ih hi
      · rw [List.getElem_append_right (by omega), List.getElem_append_left (by omega)]
        simp only [List.getElem_singleton]
        cases m with
        | zero => simp [sel] at h
        | succ m =>
          have hl := sel_last l w m
          rw [List.getLast?_eq_getElem?, show (sel l w (m + 1)).length - 1 = i by omega, List.getElem?_eq_getElem (by omega)] at hl
          simp only [Option.some.injEq] at hl
          rw [hl]
          have h1 := (lst_of (l := l) (f := m) hw).ge
          have h2 := (lst_of (l := l) (f := m + 1) hw).lt
          omega
end Wn
end Go.Proofs.YtkmldaelgbkfbaaDoor
