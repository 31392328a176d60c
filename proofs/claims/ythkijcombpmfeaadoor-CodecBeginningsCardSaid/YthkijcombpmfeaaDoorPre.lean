/- Reading a proper beginning of what was written: short. No condition. -/
import Derived.Test.YthkijcombpmfeaaDoorInv
import Derived.Test.YthkijcombpmfeaaDoorVLaw
namespace Go.Proofs.YthkijcombpmfeaaDoor
open Go.RowKit
namespace Cod

theorem nextT_stable (most : Int) : Stable (nextT most) := by
  intro l q
  obtain ⟨h1, h2⟩ := text_stable most l q
  unfold nextT
  refine ⟨fun h => ?_, fun h h' => h2 h h'⟩
  have h3 := h1 h
  rw [h3]
theorem loop_stable {α : Type} {next : Rd → α × Rd} (hn : Stable next) (q : List UInt8) : ∀ (k : Nat) (l : List UInt8) (acc : List α),
    ((loop next k ⟨l, 0⟩ acc).2.err = 0 → loop next k ⟨l ++ q, 0⟩ acc = ((loop next k ⟨l, 0⟩ acc).1, ⟨(loop next k ⟨l, 0⟩ acc).2.rest ++ q, 0⟩)) ∧
    ((loop next k ⟨l, 0⟩ acc).2.err ≠ 0 → (loop next k ⟨l, 0⟩ acc).2.err ≠ 13 → (loop next k ⟨l ++ q, 0⟩ acc).2.err ≠ 0)
  | 0, l, acc => ⟨fun _ => rfl, fun h => absurd rfl h⟩
  | k + 1, l, acc => by
    obtain ⟨h1, h2⟩ := hn l q
    simp only [loop]
    by_cases h0 : (next ⟨l, 0⟩).2.err = 0
    · have h3 := h1 h0
      rw [if_pos h0, h3]
      simp only [if_pos]
      have h4 : (next ⟨l, 0⟩).2 = ⟨(next ⟨l, 0⟩).2.rest, 0⟩ := by
        generalize (next ⟨l, 0⟩).2 = r at *
        obtain ⟨a, e⟩ := r
        simp only at h0
        rw [h0]
      rw [h4]
      exact loop_stable hn q k _ _
    · rw [if_neg h0]
      refine ⟨fun h => absurd h h0, fun h h' => ?_⟩
      have h3 := h2 h0 h'
      rw [if_neg h3]
      exact h3
theorem list_stable {α : Type} {next : Rd → α × Rd} (hn : Stable next) : Stable (list next) := by
  intro l q
  obtain ⟨h1, h2⟩ := number_stable 0 1024 l q
  have hs := number_stops 0 1024
  unfold list
  by_cases h0 : (number 0 1024 ⟨l, 0⟩).2.err = 0
  · have h3 := h1 h0
    rw [h3]
    have h4 : (number 0 1024 ⟨l, 0⟩).2 = ⟨(number 0 1024 ⟨l, 0⟩).2.rest, 0⟩ := by
      generalize (number 0 1024 ⟨l, 0⟩).2 = r at *
      obtain ⟨a, e⟩ := r
      simp only at h0
      rw [h0]
    rw [h4]
    exact loop_stable hn q _ _ _
  · obtain ⟨h3, h4⟩ := hs.2 l h0
    rw [h3]
    refine ⟨fun h => absurd h h0, fun h h' => ?_⟩
    have h5 := h2 h0 h'
    obtain ⟨h6, _⟩ := hs.2 (l ++ q) h5
    rw [h6]
    exact h5
/-- A reader of a beginning: what is behind it is E without q; or it is short. -/
def Pre (q E : List UInt8) (r : Rd) : Prop := (r.err = 0 ∧ r.rest ++ q = E) ∨ r = ⟨[], 13⟩
theorem Pre.step {α : Type} {z : α} {f : Rd → α × Rd} (ht : Stable f) (hs : Stops z f) {q E E' : List UInt8} {x : α} {r : Rd} (h : Pre q E r) (hE : f ⟨E, 0⟩ = (x, ⟨E', 0⟩)) : Pre q E' (f r).2 := by
  rcases h with ⟨h0, h1⟩ | h0
  · obtain ⟨l, e⟩ := r
    subst h0
    subst h1
    obtain ⟨h2, h3⟩ := ht l q
    by_cases h4 : (f ⟨l, 0⟩).2.err = 0
    · have h5 := h2 h4
      rw [h5] at hE
      simp only [Prod.mk.injEq, Rd.mk.injEq, and_true] at hE
      exact .inl ⟨h4, hE.2⟩
    · obtain ⟨_, h6⟩ := hs.2 l h4
      by_cases h7 : (f ⟨l, 0⟩).2.err = 13
      · right
        generalize (f ⟨l, 0⟩).2 = r at *
        obtain ⟨a, e⟩ := r
        simp only at h6 h7
        rw [h6, h7]
      · have h8 := h3 h4 h7
        rw [hE] at h8
        exact absurd rfl h8
  · subst h0
    rw [hs.1 ⟨[], 13⟩ (by decide)]
    exact .inr rfl
theorem Pre.done {q : List UInt8} {r : Rd} (h : Pre q [] r) (hq : q ≠ []) : r = ⟨[], 13⟩ := by
  rcases h with ⟨_, h1⟩ | h0
  · exact absurd (List.append_eq_nil_iff.1 h1).2 hq
  · exact h0
end Cod
theorem pre_all {n : Int} {s : ByteArray} {ns : List Int} {ss : List ByteArray} (h : allOk n s ns ss) (p q : List UInt8) (hp : p ++ q = encAll n s ns ss) (hq : q ≠ [])
    (R1 : Int × Cod.Rd) (R2 : List UInt8 × Cod.Rd) (R3 : List Int × Cod.Rd) (R4 : List ByteArray × Cod.Rd) (e1 : Cod.number 0 281474976710656 ⟨p, 0⟩ = R1) (e2 : Cod.text 65536 R1.2 = R2)
    (e3 : Cod.list (Cod.number 0 281474976710656) R2.2 = R3) (e4 : Cod.list (nextT 65536) R3.2 = R4) : R4.2 = ⟨[], 13⟩ := by
  obtain ⟨L1, L2, L3, L4, g0, g1, g2, g3, g4, _⟩ := all_forth h []
  rw [List.append_nil] at g0
  have h1 : Cod.Pre q L1 ⟨p, 0⟩ := .inl ⟨rfl, hp.trans g0⟩
  have h2 := h1.step (Cod.number_stable 0 281474976710656) (Cod.number_stops 0 281474976710656) g1
  rw [e1] at h2
  have h3 := h2.step (Cod.text_stable 65536) (Cod.text_stops 65536) g2
  rw [e2] at h3
  have h4 := h3.step (Cod.list_stable (Cod.number_stable 0 281474976710656)) (Cod.list_stops (Cod.number_stops 0 281474976710656)) g3
  rw [e3] at h4
  have h5 := h4.step (Cod.list_stable (Cod.nextT_stable 65536)) (Cod.list_stops (Cod.nextT_stops 65536)) g4
  rw [e4] at h5
  exact h5.done hq
end Go.Proofs.YthkijcombpmfeaaDoor
