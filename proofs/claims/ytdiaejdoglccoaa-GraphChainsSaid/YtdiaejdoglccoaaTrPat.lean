/- Paths on both sides; whether a path is below another one. Condition: bytealg's MaxLen lies in its variable. -/
import Derived.Test.YtdiaejdoglccoaaTrSpl
import Derived.Shelf.Small.Wraps
namespace Go.Proofs.Ytdiaejdoglccoaa.Tr
open Go.RowKit

theorem path_def (s : List UInt8) : Tre.path s = if (decide (s.length ≤ 128) && decide ((Tre.split 47 s).length ≤ 8) && (Tre.split 47 s).all Tre.part) = true then 0 else 2 := rfl
theorem all_snoc {α : Type} (p : α → Bool) (zs : List α) (k : Nat) (h : k < zs.length) : (zs.take (k + 1)).all p = ((zs.take k).all p && p zs[k]) := by
  rw [List.take_succ_eq_append_getElem h, List.all_append]; simp
theorem all_stop {α : Type} (p : α → Bool) (zs : List α) (k : Nat) (h : k < zs.length) (hp : p zs[k] = false) : zs.all p = false := by
  rw [List.all_eq_false]
  exact ⟨zs[k], List.getElem_mem h, by simp [hp]⟩
theorem strs_get (ps : List (List UInt8)) (k : Nat) (h : k < ps.length) (h' : k < (strs ps).length) : (strs ps)[k] = .string (str ps[k]) := by simp [strs]
end Go.Proofs.Ytdiaejdoglccoaa.Tr
