/- What Then, Invert and Make return is in bounds; plain. No condition. -/
import Derived.Test.YtlfgnecfabdkmaaGreatDoorLed
import Derived.Test.YtlfgnecfabdkmaaGreatDoorInv
import Derived.Test.YtlfgnecfabdkmaaGreatDoorIn2
namespace Go.Proofs.YtlfgnecfabdkmaaGreatDoor
open Tr

def Fine (p : Pc.Pa) : Prop := p.hs.length ≤ 1000000000 ∧ ∀ h ∈ p.hs, h.ls.length ≤ 1000000000
theorem fine_nil : Fine ⟨[], []⟩ := ⟨by simp, by simp⟩
theorem fine_keeping (base : List UInt8) (a b : List (List UInt8)) (K : List (Nat × Nat)) : Fine (Pc.keeping base a b K).1 := by
  rw [keeping_def]
  by_cases h : Pc.valid ⟨base, Pc.keepHs [] a b 0 0 K⟩ = true
  · rw [if_pos h]
    obtain ⟨v1, v2, _⟩ := valid_all h
    refine ⟨by have := v1; dsimp only at *; omega, fun x hx => ?_⟩
    have := Pc.isHunk_num (v2 x hx)
    omega
  · rw [if_neg h]; exact fine_nil
theorem fine_then (p q : Pc.Pa) (d : List UInt8) : Fine (Pc.thenP p q d).1 := by
  rw [then_def]
  split
  · exact fine_nil
  · split
    · exact fine_nil
    · exact fine_keeping _ _ _ _
theorem fine_invert (p : Pc.Pa) (d : List UInt8) : Fine (Pc.invert p d).1 := by
  rw [invert_def]
  split
  · exact fine_nil
  · exact fine_keeping _ _ _ _
theorem fine_make (f t : List UInt8) : Fine (Pc.make f t).1 := by
  rw [make_def]
  split
  · exact fine_nil
  · split
    · exact fine_nil
    · exact fine_keeping _ _ _ _
end Go.Proofs.YtlfgnecfabdkmaaGreatDoor
