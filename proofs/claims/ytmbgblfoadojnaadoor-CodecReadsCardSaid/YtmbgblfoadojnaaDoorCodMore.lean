/- Reading from a beginning, and reading behind an error: as plain functions. No condition. -/
import Derived.Test.YtmbgblfoadojnaaDoorCodBack
namespace Go.Proofs.YtmbgblfoadojnaaDoor
namespace Cod
open Go.Lib (decDigits)

/-- More bytes behind change nothing but a short end. -/
def Stable {α : Type} (f : Rd → α × Rd) : Prop := ∀ (l q : List UInt8),
  ((f ⟨l, 0⟩).2.err = 0 → f ⟨l ++ q, 0⟩ = ((f ⟨l, 0⟩).1, ⟨(f ⟨l, 0⟩).2.rest ++ q, 0⟩)) ∧ ((f ⟨l, 0⟩).2.err ≠ 0 → (f ⟨l, 0⟩).2.err ≠ 13 → (f ⟨l ++ q, 0⟩).2.err ≠ 0)
/-- An error stays, and with an error there is no rest. -/
def Stops {α : Type} (z : α) (f : Rd → α × Rd) : Prop := (∀ r, r.err ≠ 0 → f r = (z, r)) ∧ ∀ l, (f ⟨l, 0⟩).2.err ≠ 0 → (f ⟨l, 0⟩).1 = z ∧ (f ⟨l, 0⟩).2.rest = []

theorem digits_stops (most : Nat) (e : UInt8) : Stops 0 (digits most e) := by
  refine ⟨fun r h => by unfold digits; rw [if_neg h], fun l h => ?_⟩
  unfold digits at h ⊢
  rw [if_pos rfl] at h ⊢
  cases hs : scan most e l 0 false with
  | ok n l => rw [hs] at h; simp at h
  | short => exact ⟨rfl, rfl⟩
  | corrupt => exact ⟨rfl, rfl⟩
theorem digits_stable (most : Nat) (e : UInt8) : Stable (digits most e) := by
  intro l q
  have hm := scan_more most e q l 0 false
  unfold digits
  simp only [if_pos]
  cases hs : scan most e l 0 false with
  | ok n r =>
    rw [hm.1 n r hs]
    exact ⟨fun _ => rfl, fun h => absurd rfl h⟩
  | short => exact ⟨fun h => by simp at h, fun _ h => absurd rfl h⟩
  | corrupt =>
    rw [hm.2 hs]
    exact ⟨fun h => by simp at h, fun _ _ => by simp⟩
theorem number_stops (low high : Int) : Stops 0 (number low high) := by
  have hd := digits_stops 281474976710656 59
  refine ⟨fun r h => ?_, fun l h => ?_⟩
  · unfold number
    rw [hd.1 r h]
    simp only
    rw [if_neg (fun hc => h hc.1)]
    rfl
  · unfold number at h ⊢
    simp only at h ⊢
    split at h
    · next hc => rw [if_pos hc]; exact ⟨rfl, rfl⟩
    · next hc =>
      rw [if_neg hc]
      obtain ⟨h1, h2⟩ := hd.2 l h
      exact ⟨by simp only [h1]; rfl, h2⟩
theorem number_stable (low high : Int) : Stable (number low high) := by
  intro l q
  have hd := digits_stable 281474976710656 59 l q
  unfold number
  simp only
  generalize digits 281474976710656 59 ⟨l, 0⟩ = p at *
  obtain ⟨n, ⟨r, e⟩⟩ := p
  simp only at hd ⊢
  by_cases he : e = 0
  · subst he
    rw [hd.1 rfl]
    simp only
    by_cases hc : (n : Int) < low ∨ high < (n : Int)
    · rw [if_pos ⟨by trivial, hc⟩, if_pos ⟨by trivial, hc⟩]
      exact ⟨fun h => by simp at h, fun _ _ => by simp⟩
    · rw [if_neg (fun h => hc h.2), if_neg (fun h => hc h.2)]
      exact ⟨fun _ => rfl, fun h => absurd rfl h⟩
  · rw [if_neg (fun h => he h.1)]
    refine ⟨fun h => absurd h he, fun h1 h2 => ?_⟩
    have h3 := hd.2 h1 h2
    rw [if_neg (fun h => h3 h.1)]
    exact h3
theorem text_stops (most : Int) : Stops [] (text most) := by
  have hd := digits_stops 65536 58
  refine ⟨fun r h => ?_, fun l h => ?_⟩
  · unfold text
    rw [hd.1 r h]
    simp only
    rw [if_neg h]
  · unfold text at h ⊢
    simp only at h ⊢
    split at h
    · next h0 =>
      rw [if_pos h0]
      split at h
      · next h1 => rw [if_pos h1]; exact ⟨rfl, rfl⟩
      · next h1 =>
        rw [if_neg h1]
        split at h
        · next h2 =>
          rw [if_pos h2]
          split at h
          · next h3 => rw [if_pos h3]; exact ⟨rfl, rfl⟩
          · next h3 => simp at h
        · next h2 => rw [if_neg h2]; exact ⟨rfl, rfl⟩
    · next h0 => rw [if_neg h0]; exact ⟨rfl, (hd.2 l h0).2⟩
theorem text_stable (most : Int) : Stable (text most) := by
  intro l q
  have hd := digits_stable 65536 58 l q
  unfold text
  simp only
  generalize digits 65536 58 ⟨l, 0⟩ = p at *
  obtain ⟨n, ⟨r, e⟩⟩ := p
  simp only at hd ⊢
  by_cases he : e = 0
  · subst he
    rw [hd.1 rfl]
    simp only [if_pos]
    by_cases hl : r.length ≤ n
    · rw [if_pos hl]
      exact ⟨fun h => by simp at h, fun _ h => absurd rfl h⟩
    · have hl' : ¬ (r ++ q).length ≤ n := by simp; omega
      rw [if_neg hl, if_neg hl']
      have hg : (r ++ q).getD n 0 = r.getD n 0 := by
        rw [List.getD_eq_getElem?_getD, List.getD_eq_getElem?_getD, List.getElem?_append_left (by omega)]
      rw [hg]
      by_cases hc : r.getD n 0 = 44
      · rw [if_pos hc, if_pos hc]
        by_cases hm : most < (n : Int)
        · rw [if_pos hm, if_pos hm]
          exact ⟨fun h => by simp at h, fun _ _ => by simp⟩
        · rw [if_neg hm, if_neg hm]
          refine ⟨fun _ => ?_, fun h => absurd rfl h⟩
          rw [List.take_append_of_le_length (by omega), List.drop_append_of_le_length (by omega)]
      · rw [if_neg hc, if_neg hc]
        exact ⟨fun h => by simp at h, fun _ _ => by simp⟩
  · rw [if_neg he]
    refine ⟨fun h => absurd h he, fun h1 h2 => ?_⟩
    have h3 := hd.2 h1 h2
    rw [if_neg h3]
    exact h3
theorem scan_short (most : Nat) (e : UInt8) : ∀ (l : List UInt8) (n : Nat) (b : Bool) (m : Nat) (r : List UInt8), scan most e l n b = .ok m r → r.length ≤ l.length
  | [], _, _, _, _, h => by rw [scan] at h; cases h
  | c :: l, n, b, m, r, h => by
    rw [scan] at h
    split at h
    · cases h; simp
    · split at h
      · cases h
      · have := scan_short most e l _ true m r h
        simp; omega
/-- The rest does not grow. -/
theorem digits_short (most : Nat) (e : UInt8) (r : Rd) : (digits most e r).2.rest.length ≤ r.rest.length := by
  unfold digits
  split
  · cases hs : scan most e r.rest 0 false with
    | ok n l => exact scan_short most e _ _ _ _ _ hs
    | short => simp
    | corrupt => simp
  · exact Nat.le_refl _
theorem number_short (low high : Int) (r : Rd) : (number low high r).2.rest.length ≤ r.rest.length := by
  unfold number
  simp only
  split
  · simp
  · exact digits_short _ _ r
theorem text_short (most : Int) (r : Rd) : (text most r).2.rest.length ≤ r.rest.length := by
  have h := digits_short 65536 58 r
  unfold text
  simp only
  split
  · split
    · simp
    · split
      · split
        · simp
        · simp only [List.length_drop]; omega
      · simp
  · exact h
end Cod
end Go.Proofs.YtmbgblfoadojnaaDoor
