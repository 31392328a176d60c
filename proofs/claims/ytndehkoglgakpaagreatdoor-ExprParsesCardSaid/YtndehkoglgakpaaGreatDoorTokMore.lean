/- Tokens of joined rows, of printed tokens and of numbers, as plain functions. No condition. -/
import Derived.Test.YtndehkoglgakpaaGreatDoorTok
namespace Go.Proofs.YtndehkoglgakpaaGreatDoor
namespace Tok
open Go.Lib (decDigits)

theorem scan_cons (k : Nat) (c : UInt8) (r : List UInt8) : scan k (c :: r) = if c = 32 then scan k r else if k = 256 then ([], 10) else if (next (c :: r)).2 = 0 then pre [(next (c :: r)).1] (scan (k + 1) ((c :: r).drop (next (c :: r)).1.text.length)) else ([], (next (c :: r)).2) := by
  by_cases hc : c = 32
  · subst hc; rw [scan_blank, if_pos rfl]
  · rw [if_neg hc]
    by_cases hk : k = 256
    · subst hk; rw [scan_full _ _ hc, if_pos rfl]
    · rw [if_neg hk]
      by_cases hn : (next (c :: r)).2 = 0
      · rw [if_pos hn, scan_tok _ _ _ hc hk hn]
      · rw [if_neg hn, scan_err _ _ _ hc hk hn]
theorem tw_app (p : UInt8 → Bool) (hp : p 32 = false) (a b : List UInt8) : (a ++ 32 :: b).takeWhile p = a.takeWhile p := by
  induction a with
  | nil => simp [hp]
  | cons c r ih => simp only [List.cons_append, List.takeWhile_cons]; split <;> simp [ih]
theorem dw_app (p : UInt8 → Bool) (hp : p 32 = false) (a b : List UInt8) : (a ++ 32 :: b).dropWhile p = a.dropWhile p ++ 32 :: b := by
  induction a with
  | nil => simp [hp]
  | cons c r ih => simp only [List.cons_append, List.dropWhile_cons]; split <;> simp [ih]
theorem head_app (p : UInt8 → Bool) (hp : p 32 = false) (a b : List UInt8) : ((a ++ 32 :: b).head?.map p = some true) = (a.head?.map p = some true) := by
  cases a <;> simp [hp]
theorem symb_app (a b : List UInt8) : symb (a ++ 32 :: b) = symb a := by
  match a with
  | [] =>
    have h1 : isSym (32 :: b.take 1) = false := by cases b <;> simp [isSym, symsL]
    have h2 : isSym [32] = false := by decide
    simp [symb, h1, h2]
  | [c] =>
    have h1 : isSym [c, 32] = false := by simp [isSym, symsL]
    simp [symb, h1]
  | c :: d :: r => simp [symb]
theorem next_app (a b : List UInt8) : next (a ++ 32 :: b) = next a := by
  unfold next nName nNum nSym
  simp only [head_app isLet (by decide), head_app isDig (by decide), tw_app isIn (by decide), tw_app isDig (by decide), dw_app isDig (by decide), symb_app]
/-- The tokens of two rows with a blank between them. -/
theorem scan_join (b : List UInt8) : ∀ n (a : List UInt8), a.length ≤ n → ∀ k, scan k (a ++ 32 :: b) = if (scan k a).2 = 0 then pre (scan k a).1 (scan (k + (scan k a).1.length) b) else ([], (scan k a).2) := by
  intro n
  induction n with
  | zero =>
    intro a ha k
    obtain rfl := List.eq_nil_of_length_eq_zero (Nat.le_zero.1 ha)
    rw [List.nil_append, scan_blank, scan_nil, if_pos rfl, pre_nil]; rfl
  | succ n ih =>
    intro a ha k
    match a with
    | [] => rw [List.nil_append, scan_blank, scan_nil, if_pos rfl, pre_nil]; rfl
    | c :: r =>
      have hl : r.length ≤ n := by simpa using ha
      have hn := next_app (c :: r) b
      rw [List.cons_append] at hn ⊢
      rw [scan_cons k c (r ++ 32 :: b), scan_cons k c r, hn]
      by_cases hc : c = 32
      · rw [if_pos hc, if_pos hc]; exact ih r hl k
      · rw [if_neg hc, if_neg hc]
        by_cases hk : k = 256
        · rw [if_pos hk, if_pos hk]; simp
        · rw [if_neg hk, if_neg hk]
          by_cases he : (next (c :: r)).2 = 0
          · obtain ⟨_, h1, h2⟩ := next_ok _ he
            rw [if_pos he, if_pos he, ← List.cons_append, List.drop_append_of_le_length h2, ih _ (by simp at h2 ⊢; omega) (k + 1)]
            generalize scan (k + 1) ((c :: r).drop (next (c :: r)).1.text.length) = x
            by_cases hx : x.2 = 0
            · rw [if_pos hx, pre_pre, show pre [(next (c :: r)).1] x = ([(next (c :: r)).1] ++ x.1, 0) from if_pos hx, if_pos rfl, show k + ([(next (c :: r)).1] ++ x.1).length = k + 1 + x.1.length by simp; omega]
            · simp [hx, pre]
          · rw [if_neg he, if_neg he]; simp [he]
/-- The same tokens behind more others. -/
theorem scan_shift : ∀ n (l : List UInt8), l.length ≤ n → ∀ k j, k + j ≤ 256 →
    ((scan k l).2 = 0 → k + j + (scan k l).1.length ≤ 256 → scan (k + j) l = scan k l) ∧ ((scan k l).2 = 0 → 256 < k + j + (scan k l).1.length → scan (k + j) l = ([], 10)) ∧
    ((scan k l).2 ≠ 0 → scan (k + j) l = ([], (scan k l).2) ∨ scan (k + j) l = ([], 10)) := by
  intro n
  induction n with
  | zero =>
    intro a ha k j hkj
    obtain rfl := List.eq_nil_of_length_eq_zero (Nat.le_zero.1 ha)
    simp [scan_nil]; omega
  | succ n ih =>
    intro a ha k j hkj
    match a with
    | [] => simp [scan_nil]; omega
    | c :: r =>
      have hl : r.length ≤ n := by simpa using ha
      rw [scan_cons k c r, scan_cons (k + j) c r]
      by_cases hc : c = 32
      · rw [if_pos hc, if_pos hc]; exact ih r hl k j hkj
      · rw [if_neg hc, if_neg hc]
        by_cases hk : k = 256
        · obtain rfl : j = 0 := by omega
          rw [if_pos hk]; simp [hk]
        · rw [if_neg hk]
          by_cases hkj2 : k + j = 256
          · rw [if_pos hkj2]
            by_cases he : (next (c :: r)).2 = 0
            · rw [if_pos he]
              unfold pre
              split
              · simp; omega
              · rename_i hx; simp [hx]
            · rw [if_neg he]; simp [he]
          · rw [if_neg hkj2]
            by_cases he : (next (c :: r)).2 = 0
            · obtain ⟨_, h1, h2⟩ := next_ok _ he
              have h := ih ((c :: r).drop (next (c :: r)).1.text.length) (by simp at h2 ⊢; omega) (k + 1) j (by omega)
              rw [if_pos he, if_pos he, show k + j + 1 = k + 1 + j by omega]
              generalize (c :: r).drop (next (c :: r)).1.text.length = m at *
              by_cases hx : (scan (k + 1) m).2 = 0
              · by_cases hy : k + 1 + j + (scan (k + 1) m).1.length ≤ 256
                · rw [h.1 hx hy]
                  simp [pre, hx]
                  omega
                · rw [h.2.1 hx (by omega)]
                  simp [pre, hx]
                  omega
              · rcases h.2.2 hx with h | h <;> simp [pre, hx, h]
            · rw [if_neg he, if_neg he]; simp [he]
theorem all_tw (p : UInt8 → Bool) (l : List UInt8) (h : ¬ run p l < l.length) : l.takeWhile p = l := by
  have h2 := take_while_take p l
  rw [h2]; exact List.take_of_length_le (by unfold run at h; omega)
theorem tw_tw (p : UInt8 → Bool) (l : List UInt8) : (l.takeWhile p).takeWhile p = l.takeWhile p := by
  induction l with
  | nil => rfl
  | cons c r ih => by_cases h : p c = true <;> simp [h]; exact ih
theorem next_valid (l : List UInt8) (h : (next l).2 = 0) : valid (next l).1 = true := by
  unfold next at h ⊢
  by_cases h1 : l.head?.map isLet = some true
  · rw [if_pos h1] at h ⊢
    unfold nName at h ⊢
    by_cases h2 : 32 < (l.takeWhile isIn).length
    · rw [if_pos h2] at h; simp at h
    · rw [if_neg h2]
      cases l with
      | nil => simp at h1
      | cons c r =>
        have hc : isLet c = true := by simpa using h1
        have hi : isIn c = true := by simp [isIn, hc]
        have ht : (c :: r).takeWhile isIn = c :: r.takeWhile isIn := by simp [hi]
        rw [ht] at h2 ⊢
        have hr : run isIn (c :: r.takeWhile isIn) = (c :: r.takeWhile isIn).length := by rw [← ht]; unfold run; rw [tw_tw]
        have h3 : (r.takeWhile isIn).length + 1 ≤ 32 := by simpa using h2
        simp [valid, nameOk, hc, hr, h3]
  · rw [if_neg h1] at h ⊢
    by_cases h3 : l.head?.map isDig = some true
    · rw [if_pos h3] at h ⊢
      unfold nNum at h ⊢
      by_cases h2 : (number (l.takeWhile isDig)).2 ≠ 0
      · rw [if_pos h2] at h; exact absurd h h2
      · rw [if_neg h2] at h ⊢
        by_cases h4 : (l.dropWhile isDig).head?.map isLet = some true
        · rw [if_pos h4] at h; simp at h
        · rw [if_neg h4]; simp at h2; simp [valid, h2]
    · rw [if_neg h3] at h ⊢
      unfold nSym at h ⊢
      by_cases h2 : symb l = []
      · rw [if_pos h2] at h; simp at h
      · rw [if_neg h2]; simp [valid, (symb_take l).2.1 h2]
theorem pre_ok {ts : List Tk} {x : List Tk × Int} (h : (pre ts x).2 = 0) : x.2 = 0 ∧ (pre ts x).1 = ts ++ x.1 := by
  unfold pre at h ⊢
  by_cases hx : x.2 = 0
  · simp [hx]
  · simp [hx] at h
/-- What is true of the tokens of a row. -/
theorem scan_all : ∀ n (l : List UInt8), l.length ≤ n → ∀ k, (scan k l).2 = 0 → (scan k l).1.all valid = true ∧ l.filter (fun c => c != 32) = ((scan k l).1.flatMap (fun t => t.text)).filter (fun c => c != 32) := by
  intro n
  induction n with
  | zero =>
    intro a ha k _
    obtain rfl := List.eq_nil_of_length_eq_zero (Nat.le_zero.1 ha)
    simp [scan_nil]
  | succ n ih =>
    intro a ha k h
    match a with
    | [] => simp [scan_nil]
    | c :: r =>
      have hl : r.length ≤ n := by simpa using ha
      rw [scan_cons] at h ⊢
      by_cases hc : c = 32
      · rw [if_pos hc] at h ⊢
        have := ih r hl k h
        subst hc
        simpa using this
      · rw [if_neg hc] at h ⊢
        by_cases hk : k = 256
        · rw [if_pos hk] at h; simp at h
        · rw [if_neg hk] at h ⊢
          by_cases he : (next (c :: r)).2 = 0
          · rw [if_pos he] at h ⊢
            obtain ⟨h0, h1, h2⟩ := next_ok _ he
            obtain ⟨hx, hp⟩ := pre_ok h
            have hi := ih _ (by simp at h2 ⊢; omega) _ hx
            rw [hp]
            refine ⟨by simp [next_valid _ he, hi.1], ?_⟩
            rw [List.flatMap_append, List.filter_append, ← hi.2]
            conv => lhs; rw [← List.take_append_drop (next (c :: r)).1.text.length (c :: r)]
            rw [List.filter_append, ← h0]
            simp
          · rw [if_neg he] at h; exact absurd h he
theorem sym_next : ∀ x ∈ symsL, next x = (⟨3, x⟩, 0) := by decide
theorem sym_plain : ∀ x ∈ symsL, x.all (fun c => c != 32) = true := by decide
theorem all_run (p : UInt8 → Bool) (l : List UInt8) (h : l.takeWhile p = l) : ∀ c ∈ l, p c = true := by
  intro c hc
  rw [← h] at hc
  exact (List.all_eq_true.1 (List.all_takeWhile (p := p) (l := l))) c hc
theorem number_form (l : List UInt8) (h : (number l).2 ≠ 4) : l ≠ [] ∧ l.takeWhile isDig = l := by
  unfold number at h
  by_cases hc : l = [] ∨ run isDig l < l.length ∨ (l.head? = some 48 ∧ l ≠ [48])
  · rw [if_pos hc] at h; simp at h
  · exact ⟨fun e => hc (.inl e), all_tw _ _ fun e => hc (.inr (.inl e))⟩
/-- A valid token's text has this token alone. -/
theorem valid_next (t : Tk) (h : valid t = true) : next t.text = (t, 0) ∧ t.text ≠ [] ∧ t.text.all (fun c => c != 32) = true := by
  obtain ⟨k, x⟩ := t
  unfold valid at h
  by_cases h1 : k = 1
  · subst h1
    simp only [if_true, nameOk, Bool.and_eq_true, decide_eq_true_eq, beq_iff_eq] at h
    obtain ⟨⟨⟨hn, hl⟩, hh⟩, hr⟩ := h
    have ht := all_tw isIn x (by omega)
    refine ⟨?_, hn, ?_⟩
    · unfold next nName
      simp only [hh, if_true, ht]
      rw [if_neg (by omega)]
    · rw [List.all_eq_true]
      intro c hc
      have := all_run _ _ ht c hc
      rw [bne_iff_ne]
      rintro rfl
      revert this; decide
  · by_cases h2 : k = 2
    · subst h2
      simp at h
      obtain ⟨hn, ht⟩ := number_form x (by rw [h]; decide)
      refine ⟨?_, hn, ?_⟩
      · have hd : x.dropWhile isDig = [] := by
          have := List.takeWhile_append_dropWhile (p := isDig) (l := x)
          rw [ht] at this
          exact List.append_right_eq_self.1 this
        unfold next nNum
        have e1 : ¬ x.head?.map isLet = some true := by
          cases x with
          | nil => simp
          | cons c r =>
            have := all_run _ _ ht c (by simp)
            simp [isDig] at this
            simp [isLet]; omega
        have e2 : x.head?.map isDig = some true := by
          cases x with
          | nil => exact absurd rfl hn
          | cons c r => simp [all_run _ _ ht c (by simp)]
        rw [if_neg e1, if_pos e2, ht, hd, if_neg (by simp [h]), if_neg (by simp)]
      · rw [List.all_eq_true]
        intro c hc
        have := all_run _ _ ht c hc
        rw [bne_iff_ne]
        rintro rfl
        revert this; decide
    · by_cases h3 : k = 3
      · subst h3
        simp at h
        have hm : x ∈ symsL := by simpa [isSym] using h
        exact ⟨sym_next x hm, by rintro rfl; revert hm; decide, sym_plain x hm⟩
      · simp [h1, h2, h3] at h
theorem scan_text (t : Tk) (h : valid t = true) (k : Nat) (hk : k < 256) : scan k t.text = ([t], 0) := by
  obtain ⟨h1, h2, h3⟩ := valid_next t h
  match hx : t.text with
  | [] => exact absurd hx h2
  | c :: r =>
    rw [hx] at h1 h3
    have hc : c ≠ 32 := by simp at h3; exact h3.1
    rw [scan_cons, if_neg hc, if_neg (by omega), h1, if_pos rfl]
    simp only [hx]
    rw [List.drop_of_length_le (Nat.le_refl _), scan_nil]
    rfl
/-- The tokens of printed tokens. -/
theorem scan_textOf : ∀ (l : List Tk) (k : Nat), k + l.length ≤ 256 → l.all valid = true → scan k (textOf l) = (l, 0) := by
  intro l
  induction l with
  | nil => intro k _ _; exact scan_nil k
  | cons t l ih =>
    intro k hk h
    simp only [List.length_cons] at hk
    simp only [List.all_cons, Bool.and_eq_true] at h
    cases l with
    | nil => exact scan_text t h.1 k (by omega)
    | cons u l =>
      show scan k (t.text ++ 32 :: textOf (u :: l)) = _
      rw [scan_join _ _ _ (Nat.le_refl _), scan_text t h.1 k (by omega), if_pos rfl]
      show pre [t] (scan (k + 1) _) = _
      rw [ih (k + 1) (by omega) h.2]
      rfl
theorem filter_textOf : ∀ l : List Tk, (textOf l).filter (fun c => c != 32) = (l.flatMap fun t => t.text).filter (fun c => c != 32) := by
  intro l
  induction l with
  | nil => rfl
  | cons t l ih =>
    cases l with
    | nil => simp [textOf]
    | cons u l =>
      show (t.text ++ 32 :: textOf (u :: l)).filter _ = _
      rw [List.filter_append, List.flatMap_cons, List.filter_append, ← ih]
      simp
theorem flat_plain (l : List Tk) (h : l.all valid = true) : (l.flatMap fun t => t.text).filter (fun c => c != 32) = l.flatMap fun t => t.text := by
  rw [List.filter_eq_self]
  intro c hc
  rw [List.mem_flatMap] at hc
  obtain ⟨t, ht, hc⟩ := hc
  exact List.all_eq_true.1 (valid_next t (List.all_eq_true.1 h t ht)).2.2 c hc
theorem textOf_len : ∀ l : List Tk, (textOf l).length ≤ (l.flatMap fun t => t.text).length + l.length := by
  intro l
  induction l with
  | nil => simp [textOf]
  | cons t l ih =>
    cases l with
    | nil => simp [textOf]
    | cons u l =>
      show (t.text ++ 32 :: textOf (u :: l)).length ≤ _
      simp only [List.length_append, List.length_cons, List.flatMap_cons] at ih ⊢
      omega
theorem textOf_snoc (l : List Tk) (h : l ≠ []) (t : Tk) : textOf (l ++ [t]) = textOf l ++ 32 :: t.text := by
  induction l with
  | nil => exact absurd rfl h
  | cons u l ih =>
    cases l with
    | nil => rfl
    | cons v l =>
      show u.text ++ 32 :: textOf (v :: l ++ [t]) = (u.text ++ 32 :: textOf (v :: l)) ++ _
      rw [ih (by simp)]
      simp

theorem tw_all (p : UInt8 → Bool) (l : List UInt8) (h : l.all p = true) : l.takeWhile p = l := by
  induction l with
  | nil => rfl
  | cons c r ih => simp only [List.all_cons, Bool.and_eq_true] at h; simp [h.1, ih h.2]
theorem dec_small {n : Nat} (h : n < 10) : decDigits n = [UInt8.ofNat (48 + n)] := by rw [decDigits, dif_pos h]
theorem dec_big {n : Nat} (h : ¬ n < 10) : decDigits n = decDigits (n / 10) ++ [UInt8.ofNat (48 + n % 10)] := by rw [decDigits, dif_neg h]
theorem digit_nat {d : Nat} (h : d < 10) : (UInt8.ofNat (48 + d)).toNat = 48 + d := by rw [UInt8.toNat_ofNat']; omega
theorem isDig_nat {d : Nat} (h : d < 10) : isDig (UInt8.ofNat (48 + d)) = true := by unfold isDig; rw [digit_nat h]; simp; omega
theorem dec_facts : ∀ n : Nat, (decDigits n).all isDig = true ∧ val (decDigits n) = n ∧ decDigits n ≠ [] ∧ (n ≠ 0 → (decDigits n).head? ≠ some 48) := by
  intro n
  induction n using Nat.strongRecOn with
  | _ n ih =>
    by_cases h : n < 10
    · rw [dec_small h]
      refine ⟨by rw [List.all_cons, isDig_nat h]; rfl, ?_, by simp, fun h0 => ?_⟩
      · show 10 * 0 + ((UInt8.ofNat (48 + n)).toNat - 48) = n
        rw [digit_nat h]; omega
      · simp only [List.head?_cons, ne_eq, Option.some.injEq]
        intro e
        have := congrArg UInt8.toNat e
        rw [digit_nat h] at this
        have h2 : (48 : UInt8).toNat = 48 := rfl
        omega
    · obtain ⟨i1, i2, i3, i4⟩ := ih (n / 10) (by omega)
      have hd : n % 10 < 10 := Nat.mod_lt _ (by decide)
      rw [dec_big h]
      refine ⟨by rw [List.all_append, List.all_cons, isDig_nat hd, i1]; rfl, ?_, by simp, fun _ => ?_⟩
      · rw [val_snoc, i2, digit_nat hd]; omega
      · have h3 := i4 (by omega)
        cases hx : decDigits (n / 10) with
        | nil => exact absurd hx i3
        | cons c r => rw [hx] at h3; simpa using h3
theorem number_dec (n : Nat) (h : n ≤ 4294967295) : number (decDigits n) = (n, 0) := by
  obtain ⟨h1, h2, h3, h4⟩ := dec_facts n
  have hr : ¬ run isDig (decDigits n) < (decDigits n).length := by
    have : (decDigits n).takeWhile isDig = decDigits n := tw_all _ _ h1
    unfold run; rw [this]; omega
  unfold number
  rw [if_neg, if_neg (by omega), h2]
  rintro (e | e | ⟨e1, e2⟩)
  · exact h3 e
  · exact hr e
  · by_cases h0 : n = 0
    · subst h0; exact e2 (by rw [dec_small (by decide)]; rfl)
    · exact h4 h0 e1
theorem scan_blanks (b : Nat) (l : List UInt8) (k : Nat) : scan k (List.replicate b 32 ++ l) = scan k l := by
  induction b with
  | zero => rfl
  | succ b ih => rw [List.replicate_succ, List.cons_append, scan_blank, ih]
theorem scan_number (n : Nat) (h : n ≤ 4294967295) (b : Nat) : scan 0 (List.replicate b 32 ++ decDigits n ++ [32]) = ([⟨2, decDigits n⟩], 0) := by
  rw [List.append_assoc, scan_blanks, show [(32 : UInt8)] = 32 :: [] from rfl, scan_join _ _ _ (Nat.le_refl _)]
  have hv : valid ⟨2, decDigits n⟩ = true := by simp [valid, number_dec n h]
  have := scan_text ⟨2, decDigits n⟩ hv 0 (by decide)
  simp only at this
  rw [this, if_pos rfl, scan_nil]
  rfl
end Tok
end Go.Proofs.YtndehkoglgakpaaGreatDoor
