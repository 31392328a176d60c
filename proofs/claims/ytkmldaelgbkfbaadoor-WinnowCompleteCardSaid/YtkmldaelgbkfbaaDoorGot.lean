/- What Select returns, and what is handed back. No condition. -/
import Derived.Test.YtkmldaelgbkfbaaDoorEnt
import Derived.Test.YtkmldaelgbkfbaaDoorSiz
namespace Go.Proofs.YtkmldaelgbkfbaaDoor
open Go.RowKit Go.Deep
namespace Wn
/-- What Select returns. -/
def selL (l : List Int) (n : Int) : List Int := if sz n = true ∧ l.length ≤ 8192 then ints (sel l n.toNat (l.length + 1 - n.toNat)) else []
def selE (l : List Int) (n : Int) : Int := if sz n = true then if 8192 < l.length then 10 else 0 else 3
def GotI (w : World) (L : List Int) (E : Int) : Ending → World → Prop := fun e w' => ∃ A c, e = .returned (.tuple #[.slice A L.length c, .int .i64 E]) ∧ L.length ≤ c ∧ c ≤ maxLen ∧ Gr.InAt w' w'.heap.size A L ∧ Below w.heap.size w w'
theorem QAt.read {w : World} {B : Nat} {v : Value} {q : List Int} (h : QAt w B v q) : ∃ A c, v = .slice A q.length c ∧ q.length ≤ c ∧ c ≤ maxLen ∧ Gr.InAt w w.heap.size A q := by
  obtain ⟨ao, cap, rfl, h1, h2, h3, h4⟩ := h.ex
  refine ⟨ao, cap, rfl, h3, h2, fun j hj => ?_⟩
  cases ao with
  | none => rw [(h1 rfl).1] at hj; simp at hj
  | some b =>
    obtain ⟨g, o, cur, rfl, h5, h6, h7, h8⟩ := h4 b rfl
    refine ⟨g, o, rfl, blk_lt h6, fun i u hu => ?_⟩
    have hi : i < 1 := by have := (List.getElem?_eq_some_iff.1 hu).1; rw [Gr.inV_len] at this; exact this
    obtain rfl : i = 0 := by omega
    rw [Nat.mul_one, Nat.add_zero, cell_of_row _ _ _ _ _ _ h6, h8 j hj]
    exact hu
end Wn
end Go.Proofs.YtkmldaelgbkfbaaDoor
