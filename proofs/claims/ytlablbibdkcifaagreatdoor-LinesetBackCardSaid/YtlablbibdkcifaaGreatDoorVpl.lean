/- The spans of a set, one behind the other; plain. No condition. -/
import Derived.Test.YtlablbibdkcifaaGreatDoorVal
namespace Go.Proofs.YtlablbibdkcifaaGreatDoor
open Tr

namespace Ls
/-- The span in front of one. -/
def prv (l : List Sp) (k : Nat) : Option Sp := if k = 0 then none else l[k - 1]?
def need (b : Option Sp) (s : Sp) : Bool := match b with
  | none => true
  | some b => !decide (b.path = s.path)
def fl (b : Option Sp) (s : Sp) : Bool := match b with
  | none => true
  | some b => fol s b
theorem behind_eq (b : Option Sp) (s : Sp) : behind b s = ((!need b s || Tre.pathOk s.path) && (isSp s.lo s.hi && fl b s)) := by
  cases b <;> simp [behind, need, fl]
theorem vldB_at (l : List Sp) (k : Nat) (b : Option Sp) (h : k < l.length) : vldB b (l.drop k) = (behind b l[k] && vldB (some l[k]) (l.drop (k + 1))) := by
  rw [List.drop_eq_getElem_cons h, vldB]
theorem prv_succ (l : List Sp) (k : Nat) (h : k < l.length) : prv l (k + 1) = some l[k] := by
  unfold prv
  rw [if_neg (by omega), Nat.add_sub_cancel, List.getElem?_eq_getElem h]
end Ls
end Go.Proofs.YtlablbibdkcifaaGreatDoor
