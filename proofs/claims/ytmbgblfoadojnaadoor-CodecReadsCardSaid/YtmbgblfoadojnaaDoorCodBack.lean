/- What was written is read back; what was read is what was written; a beginning is too short: as plain functions. No condition. -/
import Derived.Test.YtmbgblfoadojnaaDoorCod
namespace Go.Proofs.YtmbgblfoadojnaaDoor
namespace Cod
open Go.Lib (decDigits)

theorem digits_dec (most : Nat) (e : UInt8) (he : e.toNat < 48 ∨ 57 < e.toNat) (n : Nat) (hn : n ≤ most) (rest : List UInt8) : digits most e ⟨decDigits n ++ e :: rest, 0⟩ = (n, ⟨rest, 0⟩) := by
  unfold digits; rw [if_pos rfl, scan_num most e he n hn]
theorem number_num (n : Nat) (hn : n ≤ 281474976710656) (low high : Int) (h1 : low ≤ n) (h2 : n ≤ high) (rest : List UInt8) : number low high ⟨num n ++ rest, 0⟩ = ((n : Int), ⟨rest, 0⟩) := by
  unfold number num
  rw [List.append_assoc, List.singleton_append, digits_dec _ 59 (by decide) n hn]
  simp only
  rw [if_neg (by omega)]
theorem text_txt (s : List UInt8) (hn : s.length ≤ 65536) (most : Int) (h1 : (s.length : Int) ≤ most) (rest : List UInt8) : text most ⟨txt s ++ rest, 0⟩ = (s, ⟨rest, 0⟩) := by
  unfold text txt
  rw [List.append_assoc, List.cons_append, digits_dec _ 58 (by decide) s.length hn]
  simp only [if_pos]
  rw [if_neg (by simp), if_pos (by simp), if_neg (by omega)]
  simp
theorem loop_back {α : Type} (next : Rd → α × Rd) (enc : α → List UInt8) : ∀ (xs : List α) (_ : ∀ x ∈ xs, ∀ rest, next ⟨enc x ++ rest, 0⟩ = (x, ⟨rest, 0⟩)) (rest : List UInt8) (acc : List α), loop next xs.length ⟨xs.flatMap enc ++ rest, 0⟩ acc = (acc ++ xs, ⟨rest, 0⟩)
  | [], _, rest, acc => by simp [loop]
  | x :: xs, h, rest, acc => by
    rw [List.length_cons, loop, List.flatMap_cons, List.append_assoc, h x (by simp), if_pos rfl, loop_back next enc xs (fun y hy => h y (by simp [hy]))]
    simp
theorem list_back {α : Type} (next : Rd → α × Rd) (enc : α → List UInt8) (xs : List α) (hl : xs.length ≤ 1024) (h : ∀ x ∈ xs, ∀ rest, next ⟨enc x ++ rest, 0⟩ = (x, ⟨rest, 0⟩)) (rest : List UInt8) : list next ⟨num xs.length ++ (xs.flatMap enc ++ rest), 0⟩ = (xs, ⟨rest, 0⟩) := by
  unfold list
  rw [number_num xs.length (by omega) 0 1024 (by omega) (by omega)]
  simp only [Int.toNat_natCast]
  rw [loop_back next enc xs h]
  simp

theorem digits_ok (most : Nat) (e : UInt8) (r : Rd) (h : (digits most e r).2.err = 0) : r.err = 0 ∧ (digits most e r).1 ≤ most ∧ r.rest = decDigits (digits most e r).1 ++ e :: (digits most e r).2.rest := by
  unfold digits at h ⊢
  by_cases h0 : r.err = 0
  · rw [if_pos h0] at h ⊢
    cases hs : scan most e r.rest 0 false with
    | ok n l =>
      obtain ⟨h1, h2⟩ := scan_back most e _ _ _ hs
      exact ⟨h0, h1, h2⟩
    | short => rw [hs] at h; simp at h
    | corrupt => rw [hs] at h; simp at h
  · rw [if_neg h0] at h; exact absurd h h0
theorem number_ok (low high : Int) (r : Rd) (h : (number low high r).2.err = 0) : r.err = 0 ∧ ∃ n : Nat, (number low high r).1 = n ∧ n ≤ 281474976710656 ∧ low ≤ n ∧ (n : Int) ≤ high ∧ r.rest = num n ++ (number low high r).2.rest := by
  unfold number at h ⊢
  simp only at h ⊢
  split at h
  · simp at h
  · next hc =>
    rw [if_neg hc]
    obtain ⟨h1, h2, h3⟩ := digits_ok _ _ _ h
    have hc1 := fun x => hc ⟨h, .inl x⟩
    have hc2 := fun x => hc ⟨h, .inr x⟩
    refine ⟨h1, _, rfl, h2, Int.not_lt.1 hc1, Int.not_lt.1 hc2, ?_⟩
    unfold num
    rw [List.append_assoc]
    exact h3
theorem text_ok (most : Int) (r : Rd) (h : (text most r).2.err = 0) : r.err = 0 ∧ (text most r).1.length ≤ 65536 ∧ ((text most r).1.length : Int) ≤ most ∧ r.rest = txt (text most r).1 ++ (text most r).2.rest := by
  unfold text at h ⊢
  simp only at h ⊢
  split at h
  · next h0 =>
    rw [if_pos h0]
    obtain ⟨h1, h2, h3⟩ := digits_ok _ _ _ h0
    generalize digits 65536 58 r = p at *
    obtain ⟨n, ⟨l, e⟩⟩ := p
    simp only at h h0 h1 h2 h3 ⊢
    split at h
    · simp at h
    · next hl =>
      rw [if_neg hl]
      split at h
      · next hc =>
        rw [if_pos hc]
        split at h
        · simp at h
        · next hm =>
          rw [if_neg hm]
          simp only
          have hlen : (l.take n).length = n := by rw [List.length_take]; omega
          refine ⟨h1, by omega, by omega, ?_⟩
          unfold txt
          rw [hlen, h3, List.append_assoc]
          congr 1
          rw [List.cons_append, List.append_assoc]
          congr 1
          have hd : l.drop n = 44 :: l.drop (n + 1) := by
            rw [List.drop_eq_getElem_cons (by omega)]
            congr 1
            rw [List.getD_eq_getElem?_getD, List.getElem?_eq_getElem (by omega)] at hc
            simpa using hc
          rw [List.singleton_append, ← hd, List.take_append_drop]
      · simp at h
  · next h0 => exact absurd h h0
theorem loop_ok {α : Type} (next : Rd → α × Rd) (enc : α → List UInt8) (Q : α → Prop) (hn : ∀ r, (next r).2.err = 0 → r.err = 0 ∧ Q (next r).1 ∧ r.rest = enc (next r).1 ++ (next r).2.rest) :
    ∀ (k : Nat) (r : Rd) (acc : List α), (loop next k r acc).2.err = 0 → r.err = 0 ∧ ∃ ys, (loop next k r acc).1 = acc ++ ys ∧ ys.length = k ∧ (∀ y ∈ ys, Q y) ∧ r.rest = ys.flatMap enc ++ (loop next k r acc).2.rest
  | 0, r, acc, h => ⟨h, [], by simp [loop]⟩
  | k + 1, r, acc, h => by
    rw [loop] at h ⊢
    split at h
    · next h0 =>
      rw [if_pos h0]
      obtain ⟨h1, h2, h3⟩ := hn r h0
      obtain ⟨_, ys, e1, e2, e3, e4⟩ := loop_ok next enc Q hn k _ _ h
      refine ⟨h1, (next r).1 :: ys, by rw [e1]; simp, by simp [e2], fun y hy => ?_, ?_⟩
      · rcases List.mem_cons.1 hy with rfl | hy
        · exact h2
        · exact e3 y hy
      · rw [List.flatMap_cons, List.append_assoc, ← e4]; exact h3
    · next h0 => exact absurd h h0
theorem list_ok {α : Type} (next : Rd → α × Rd) (enc : α → List UInt8) (Q : α → Prop) (hn : ∀ r, (next r).2.err = 0 → r.err = 0 ∧ Q (next r).1 ∧ r.rest = enc (next r).1 ++ (next r).2.rest) (r : Rd) (h : (list next r).2.err = 0) :
    r.err = 0 ∧ (list next r).1.length ≤ 1024 ∧ (∀ y ∈ (list next r).1, Q y) ∧ r.rest = num (list next r).1.length ++ ((list next r).1.flatMap enc ++ (list next r).2.rest) := by
  unfold list at h ⊢
  obtain ⟨h1, ys, e1, e2, e3, e4⟩ := loop_ok next enc Q hn _ _ _ h
  obtain ⟨h2, n, f1, f2, f3, f4, f5⟩ := number_ok 0 1024 r h1
  rw [f1, Int.toNat_natCast] at e1 e2 e4
  rw [f1, Int.toNat_natCast]
  rw [e1]
  simp only [List.nil_append]
  exact ⟨h2, by omega, e3, by rw [e2, ← e4]; exact f5⟩
end Cod
end Go.Proofs.YtmbgblfoadojnaaDoor
