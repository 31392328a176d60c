/- Rows of the call's own beside blocks of other types. No condition. -/
import Derived.Test.YtmmdldicafbjdaaGreatDoorPri
namespace Go.Proofs.YtmmdldicafbjdaaGreatDoor
open Go.RowKit Go.Deep Tr

/-- A row of one type is no block of another type. -/
theorem own_far {w : World} {B size n q : Nat} {e t : TypeId} {v : Value} {xs : List Value} {cs : Array Value} {fr : Nat × Nat} (h : w.ownsRow B e size v n xs) (hq : w.heap[q]? = some (.cells cs t fr)) (hne : t ≠ e) : v.ownBlock ≠ some q := by
  rcases h.2 with ⟨rfl, _⟩ | ⟨g, cap, cur, rfl, _, hg, _⟩
  · intro h; cases h
  · intro he
    have : g = q := by simpa [Value.ownBlock] using he
    subst this
    rw [hg] at hq
    simp only [Option.some.injEq, Obj.cells.injEq] at hq
    exact hne hq.2.1.symm
theorem blk_lt {w : World} {q : Nat} {o : Obj} (h : w.heap[q]? = some o) : q < w.heap.size := (Array.getElem?_eq_some_iff.1 h).1
theorem blk_grown0 {w w' : World} {v : Value} {q : Nat} {o : Obj} (h : w.heap[q]? = some o) (hg : w.grownBy w' v.ownBlock) (hne : v.ownBlock ≠ some q) : w'.heap[q]? = some o := by
  rw [hg.block q (blk_lt h) (fun e => hne e.symm)]
  exact h
theorem blk_grown {w w' : World} {v : Value} {q : Nat} {o x : Obj} (h : w.heap[q]? = some o) (hg : (w.alloc x).grownBy w' v.ownBlock) (hne : v.ownBlock ≠ some q) : w'.heap[q]? = some o :=
  blk_grown0 (by rw [blk_alloc_lt w x q (blk_lt h)]; exact h) hg hne
end Go.Proofs.YtmmdldicafbjdaaGreatDoor
