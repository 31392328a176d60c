/- The order of edges, as the library's sort asks for it; what it leaves. No condition. -/
import Derived.Test.YtlablbibdkcifaaGreatDoorSrt
import Derived.Shelf.SlSortCmp.Insertion
import Derived.Sort.Statements
import Derived.Lib.Bytealg
namespace Go.Proofs.YtlablbibdkcifaaGreatDoor
open Go.RowKit Go.Deep Tr

namespace Ls
theorem cb_self : ∀ a : LN, Lib.compareBytes a a = 0
  | [] => rfl
  | x :: t => by
    unfold Lib.compareBytes
    rw [if_neg (by simp), if_neg (by simp)]
    exact cb_self t
theorem cb_neg : ∀ a b : LN, Lib.compareBytes a b < 0 ↔ less a b = true
  | [], [] => by unfold Lib.compareBytes less Op.bytesLess; simp
  | [], _ :: _ => by unfold Lib.compareBytes less Op.bytesLess; simp
  | _ :: _, [] => by unfold Lib.compareBytes less Op.bytesLess; simp
  | x :: s, y :: t => by
    have ih := cb_neg s t
    unfold less at ih
    unfold Lib.compareBytes less Op.bytesLess
    by_cases h1 : x < y
    · simp [h1]
    · by_cases h2 : y < x
      · have h3 : ¬ x = y := fun e => by rw [e] at h2; exact absurd h2 (by simp)
        simp [h1, h2, h3]
      · have h3 : x = y := UInt8.le_antisymm (UInt8.not_lt.1 h2) (UInt8.not_lt.1 h1)
        subst h3
        simpa [h1] using ih
theorem cb_zero : ∀ a b : LN, Lib.compareBytes a b = 0 → a = b
  | [], [], _ => rfl
  | [], _ :: _, h => by unfold Lib.compareBytes at h; cases h
  | _ :: _, [], h => by unfold Lib.compareBytes at h; cases h
  | x :: s, y :: t, h => by
    unfold Lib.compareBytes at h
    split at h
    · cases h
    · rename_i h1
      split at h
      · cases h
      · rename_i h2
        have h3 : x = y := UInt8.le_antisymm (UInt8.not_lt.1 h2) (UInt8.not_lt.1 h1)
        rw [h3, cb_zero s t h]
/-- The order of the program. -/
def cf (x y : Ed) : Int := if Lib.compareBytes x.path y.path = 0 then Lib.compareInt x.n y.n else Lib.compareBytes x.path y.path
theorem ci_neg (x y : Int) : Lib.compareInt x y < 0 ↔ x < y := by
  unfold Lib.compareInt
  by_cases h1 : x < y
  · simp [h1]
  · by_cases h2 : x > y <;> simp [h1, h2]
theorem lt_pl (x y : Ed) : Go.Proofs.ltOf cf x y = true ↔ pl x.path x.n y.path y.n := by
  unfold Go.Proofs.ltOf cf pl
  rw [decide_eq_true_eq]
  by_cases h : Lib.compareBytes x.path y.path = 0
  · rw [if_pos h, ci_neg]
    have e := cb_zero _ _ h
    constructor
    · exact fun h1 => .inr ⟨e, h1⟩
    · rintro (h1 | h1)
      · rw [e] at h1; unfold less at h1; rw [Tr.Tre.bl_irr] at h1; cases h1
      · exact h1.2
  · rw [if_neg h, cb_neg]
    constructor
    · exact fun h1 => .inl h1
    · rintro (h1 | h1)
      · exact h1
      · rw [h1.1, cb_self] at h; exact absurd rfl h
theorem lt_not (x y : Ed) : Go.Proofs.ltOf cf x y = false ↔ ¬ pl x.path x.n y.path y.n := by
  rw [← lt_pl, Bool.not_eq_true]
theorem swo : Go.Sort.SWO (Go.Proofs.ltOf cf) where
  irrefl x := (lt_not x x).2 (pl_irr _ _)
  trans x y z h1 h2 := (lt_pl x z).2 (pl_trans ((lt_pl x y).1 h1) ((lt_pl y z).1 h2))
  ntrans x y z h1 h2 := (lt_not x z).2 (npl_trans ((lt_not y z).1 h2) ((lt_not x y).1 h1))
theorem perm_of {d d' : Array Ed} (h : Go.Sort.PermIn 0 d.size d d') : d'.toList.Perm d.toList ∧ d'.size = d.size := by
  obtain ⟨h1, _, h3⟩ := h
  refine ⟨?_, h1⟩
  have e1 : d'.extract 0 d.size = d' := by rw [← h1]; simp
  have e2 : d.extract 0 d.size = d := by simp
  rw [e1, e2] at h3
  exact h3
theorem rise_of {d' : Array Ed} (h : Go.Sort.SortedIn (Go.Proofs.ltOf cf) 0 d'.size d') : Rise d'.toList := by
  unfold Rise
  rw [List.pairwise_iff_getElem]
  intro i j hi hj hij
  have hi' : i < d'.size := by simpa using hi
  have hj' : j < d'.size := by simpa using hj
  have := h i j (Nat.zero_le _) hij hj'
  rw [getElem!_pos d' i hi', getElem!_pos d' j hj', lt_not] at this
  simpa using this
end Ls
end Go.Proofs.YtlablbibdkcifaaGreatDoor
