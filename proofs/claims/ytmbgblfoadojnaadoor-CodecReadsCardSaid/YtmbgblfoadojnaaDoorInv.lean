/- What every read does: an error stays and has no rest; without an error something is taken. No condition. -/
import Derived.Test.YtmbgblfoadojnaaDoorAll
namespace Go.Proofs.YtmbgblfoadojnaaDoor
open Go.RowKit
namespace Cod

theorem nextT_stops (most : Int) : Stops ⟨#[]⟩ (nextT most) := by
  obtain ⟨h1, h2⟩ := text_stops most
  refine ⟨fun r h => ?_, fun l h => ?_⟩
  · unfold nextT; rw [h1 r h]; rfl
  · unfold nextT at h ⊢
    obtain ⟨h3, h4⟩ := h2 l h
    exact ⟨by rw [h3]; rfl, h4⟩
theorem loop_stops {α : Type} {z : α} {next : Rd → α × Rd} (hn : Stops z next) : ∀ (k : Nat) (r : Rd) (acc : List α), r.err = 0 → (loop next k r acc).2.err ≠ 0 → (loop next k r acc).1 = [] ∧ (loop next k r acc).2.rest = []
  | 0, r, acc, h0, h => absurd h0 h
  | k + 1, r, acc, h0, h => by
    rw [loop] at h ⊢
    by_cases h1 : (next r).2.err = 0
    · rw [if_pos h1] at h ⊢
      exact loop_stops hn k _ _ h1 h
    · rw [if_neg h1]
      obtain ⟨l, e⟩ := r
      subst h0
      exact ⟨rfl, (hn.2 l h1).2⟩
theorem list_stops {α : Type} {z : α} {next : Rd → α × Rd} (hn : Stops z next) : Stops [] (list next) := by
  have hs := number_stops 0 1024
  refine ⟨fun r h => ?_, fun l h => ?_⟩
  · unfold list; rw [hs.1 r h]; rfl
  · unfold list at h ⊢
    by_cases h0 : (number 0 1024 ⟨l, 0⟩).2.err = 0
    · exact loop_stops hn _ _ _ h0 h
    · obtain ⟨h1, h2⟩ := hs.2 l h0
      rw [h1]
      exact ⟨rfl, h2⟩
/-- Without an error something is taken. -/
def Takes {α : Type} (f : Rd → α × Rd) : Prop := ∀ r, (f r).2.err = 0 → (f r).2.rest.length < r.rest.length
theorem num_pos (n : Nat) : 0 < (num n).length := by unfold num; simp
theorem number_takes (low high : Int) : Takes (number low high) := fun r h => by
  obtain ⟨_, n, _, _, _, _, h6⟩ := number_ok low high r h
  rw [h6, List.length_append]
  have := num_pos n
  omega
theorem text_takes (most : Int) : Takes (text most) := fun r h => by
  obtain ⟨_, _, _, h4⟩ := text_ok most r h
  rw [h4, List.length_append]
  have : 0 < (txt (text most r).1).length := by unfold txt; simp; omega
  omega
theorem list_takes {α : Type} (next : Rd → α × Rd) (enc : α → List UInt8) (hn : ∀ r, (next r).2.err = 0 → r.err = 0 ∧ True ∧ r.rest = enc (next r).1 ++ (next r).2.rest) : Takes (list next) := fun r h => by
  obtain ⟨_, _, _, h4⟩ := list_ok next enc (fun _ => True) hn r h
  rw [h4, List.length_append, List.length_append]
  have := num_pos (list next r).1.length
  omega
theorem nums_takes (low high : Int) : Takes (list (number low high)) := list_takes _ encN fun r h => by
  obtain ⟨h1, n, h2, _, _, _, h6⟩ := number_ok low high r h
  refine ⟨h1, trivial, ?_⟩
  rw [h2]; unfold encN; rw [Int.toNat_natCast]; exact h6
theorem txts_takes (most : Int) : Takes (list (nextT most)) := list_takes _ encS fun r h => by
  obtain ⟨h1, _, _, h4⟩ := text_ok most r h
  exact ⟨h1, trivial, h4⟩
/-- After k reads. -/
def Inv (k : Nat) (r : Rd) : Prop := (r.err = 0 ∧ r.rest.length + k ≤ 300) ∨ (r.err ≠ 0 ∧ r.rest = [])
theorem Inv.step {α : Type} {z : α} {f : Rd → α × Rd} (hs : Stops z f) (ht : Takes f) {k : Nat} {r : Rd} (h : Inv k r) : Inv (k + 1) (f r).2 := by
  rcases h with ⟨h0, h1⟩ | ⟨h0, h1⟩
  · by_cases h2 : (f r).2.err = 0
    · have := ht r h2
      exact .inl ⟨h2, by omega⟩
    · obtain ⟨l, e⟩ := r
      subst h0
      exact .inr ⟨h2, (hs.2 l h2).2⟩
  · rw [hs.1 r h0]
    exact .inr ⟨h0, h1⟩
theorem Inv.len {k : Nat} {r : Rd} (h : Inv k r) : r.rest.length ≤ 300 := by
  rcases h with ⟨_, h1⟩ | ⟨_, h1⟩
  · omega
  · rw [h1]; simp
theorem Inv.done {r : Rd} (h : Inv 310 r) : r.err ≠ 0 ∧ r.rest = [] := by
  rcases h with ⟨_, h1⟩ | h1
  · omega
  · exact h1
end Cod
end Go.Proofs.YtmbgblfoadojnaaDoor
