/- The parser goes forward, plain. No condition. -/
import Derived.Test.YtndehkoglgakpaaGreatDoorPar
namespace Go.Proofs.YtndehkoglgakpaaGreatDoor
namespace Ex
open Tok (Tk)
/-- Nothing is parsed backwards. -/
def Fwd (f : Pr) : Prop := ∀ d i out, i ≤ (f d i out).i
theorem then_i (r : Rs) (o : Op) : (then_ r o).i = r.i := by unfold then_; split <;> rfl
theorem nest_fwd {f : Pr} (h : Fwd f) : Fwd (nest f) := fun d i out => by
  unfold nest
  split
  · exact Nat.le_refl _
  · have := h (d + 1) (i + 1) out; omega
theorem inPar_fwd {l : List Tk} {f : Pr} (h : Fwd f) : Fwd (inPar l f) := fun d i out => by
  have := nest_fwd h d i out
  unfold inPar
  dsimp only
  split
  · split
    · split
      · dsimp only; omega
      · exact this
    · exact this
  · exact Nat.le_refl _
theorem args_succ (l : List Tk) (f : Pr) (d j c i : Nat) (out : List Op) : args l f d (j + 1) c i out = if (f d i out).e = 0 then (if nxt l (f d i out).i = [44] then (if c = 8 then (0, ⟨10, (f d i out).i, (f d i out).out⟩) else args l f d j (c + 1) ((f d i out).i + 1) (f d i out).out) else (c, f d i out)) else (0, f d i out) := rfl
theorem args_fwd {l : List Tk} {f : Pr} (h : Fwd f) (d : Nat) : ∀ (j c i : Nat) (out : List Op), i ≤ (args l f d j c i out).2.i
  | 0, _, _, _ => Nat.le_refl _
  | j + 1, c, i, out => by
    have h1 := h d i out
    rw [args_succ]
    split
    · split
      · split
        · exact h1
        · have := args_fwd (l := l) h d j (c + 1) ((f d i out).i + 1) (f d i out).out; omega
      · exact h1
    · exact h1
theorem allArgs_fwd {l : List Tk} {f : Pr} (h : Fwd f) : Fwd fun d i out => (allArgs l f d i out).2 := fun d i out => by
  show i ≤ (allArgs l f d i out).2.i
  unfold allArgs
  split
  · exact Nat.le_refl _
  · exact args_fwd h d 9 1 i out
theorem named_fwd {l : List Tk} {f : Pr} (h : Fwd f) (t : List UInt8) : Fwd (named l f t) := fun d i out => by
  unfold named
  split
  · rw [then_i]; exact inPar_fwd (allArgs_fwd h) d i out
  · exact Nat.le_refl _
theorem prim_fwd {l : List Tk} {f : Pr} (h : Fwd f) : Fwd (prim l f) := fun d i out => by
  unfold prim
  dsimp only
  split
  · exact inPar_fwd h d i out
  · split
    · rw [then_i]; have := inPar_fwd (l := l) h d (i + 1) out; omega
    · split
      · rw [then_i]; have := inPar_fwd (l := l) (f := fun _ i out => ⟨0, i, out⟩) (fun _ _ _ => Nat.le_refl _) d (i + 1) out; omega
      · split
        · have := named_fwd (l := l) h (nxt l i) d (i + 1) out; omega
        · split
          · dsimp only; omega
          · exact Nat.le_refl _
theorem bins_succ (l : List Tk) (n : Nat) (g : Pr) (d j : Nat) (r : Rs) : bins l n g d (j + 1) r = if r.e = 0 ∧ levL (nxt l r.i) = n then bins l n g d j (then_ (g d (r.i + 1) r.out) ⟨7, nxt l r.i, 0⟩) else r := rfl
theorem bins_fwd {l : List Tk} {g : Pr} (h : Fwd g) (n d : Nat) : ∀ (j : Nat) (r : Rs), r.i ≤ (bins l n g d j r).i
  | 0, _ => Nat.le_refl _
  | j + 1, r => by
    rw [bins_succ]
    split
    · have h1 := bins_fwd (l := l) h n d j (then_ (g d (r.i + 1) r.out) ⟨7, nxt l r.i, 0⟩)
      have h2 := h d (r.i + 1) r.out
      rw [then_i] at h1; omega
    · exact Nat.le_refl _
theorem lev_fwd (l : List Tk) : ∀ k n, Fwd (lev l k n)
  | 0, _ => fun _ _ _ => Nat.le_refl _
  | k + 1, n => fun d i out => by
    rw [lev]
    dsimp only
    split
    · have h1 := bins_fwd (l := l) (lev_fwd l k (n + 1)) n d (l.length + 1) (lev l k (n + 1) d i out)
      have h2 := lev_fwd l k (n + 1) d i out
      omega
    · split
      · rw [then_i]; exact nest_fwd (lev_fwd l k 11) d i out
      · exact prim_fwd (lev_fwd l k 1) d i out
end Ex
end Go.Proofs.YtndehkoglgakpaaGreatDoor
