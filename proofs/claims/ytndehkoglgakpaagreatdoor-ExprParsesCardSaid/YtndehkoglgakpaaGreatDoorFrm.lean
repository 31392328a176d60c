/- Formulas: what an operation takes, whether a formula is valid, folding; plain. No condition. -/
import Derived.Test.YtndehkoglgakpaaGreatDoorPar
import Derived.Test.YtndehkoglgakpaaGreatDoorOpr
namespace Go.Proofs.YtndehkoglgakpaaGreatDoor
namespace Ex

def opr (o : Op) : Int × Bool :=
  if o.kind = 1 then (0, o.text == [])
  else if o.kind = 2 then (0, idB o.text && (o.n == 0))
  else if o.kind = 3 then (o.n, idB o.text && decide (o.n ≤ 8))
  else if o.kind = 4 then (1, (o.text == []) && (o.n == 0))
  else if o.kind = 5 then (0, (o.text == []) && (o.n == 0))
  else if o.kind = 6 then (1, unL o.text && (o.n == 0))
  else if o.kind = 7 then (2, decide (0 < levL o.text) && (o.n == 0))
  else (0, false)
/-- The error of operations behind others that have left v values. -/
def chk : Int → List Op → Int
  | v, [] => if v = 1 then 0 else 1
  | v, o :: f => if (opr o).2 = true ∧ (opr o).1 ≤ v then chk (v + (1 - (opr o).1)) f else 1
def check (f : List Op) : Int := if 256 < f.length then 10 else chk 0 f
def isNum (o : Op) : Bool := o.kind == 1
/-- An operation behind what is folded already. -/
def fold1 (acc : List Op) (o : Op) : List Op :=
  if o.kind = 6 ∧ (acc.drop (acc.length - 1)).all isNum = true then acc.take (acc.length - 1) ++ [⟨1, [], (unR o.text (acc.getD (acc.length - 1) default).n).1⟩]
  else if o.kind = 7 ∧ (acc.drop (acc.length - 2)).all isNum = true then acc.take (acc.length - 2) ++ [⟨1, [], (biR o.text (acc.getD (acc.length - 2) default).n (acc.getD (acc.length - 1) default).n).1⟩]
  else acc ++ [o]
def fold (f : List Op) : List Op × Int := if check f ≠ 0 then ([], check f) else (f.foldl fold1 [], 0)
def value (f : List Op) : Int × Bool := if (fold f).2 ≠ 0 ∨ (fold f).1.all isNum = false then (0, false) else (((fold f).1.getD 0 default).n, true)
/-- Numbers of operations are words. -/
def Words (f : List Op) : Prop := ∀ o ∈ f, 0 ≤ o.n ∧ o.n < 4294967296
theorem chk_cons (v : Int) (o : Op) (f : List Op) : chk v (o :: f) = if (opr o).2 = true ∧ (opr o).1 ≤ v then chk (v + (1 - (opr o).1)) f else 1 := rfl
theorem opr_un {o : Op} (h : o.kind = 6) : (opr o).1 = 1 := by unfold opr; simp [h]
theorem opr_bi {o : Op} (h : o.kind = 7) : (opr o).1 = 2 := by unfold opr; simp [h]
theorem opr_lo {o : Op} (h : 0 ≤ o.n) : 0 ≤ (opr o).1 := by
  unfold opr
  repeat' (refine ite_ok (P := fun p => 0 ≤ p.1) ?_ ?_)
  all_goals first | exact h | exact Int.le_refl 0 | (show (0 : Int) ≤ 1; decide) | (show (0 : Int) ≤ 2; decide)
end Ex
end Go.Proofs.YtndehkoglgakpaaGreatDoor
