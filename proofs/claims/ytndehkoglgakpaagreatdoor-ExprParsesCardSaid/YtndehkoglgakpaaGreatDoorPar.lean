/- Formulas, and the program's parser of them, as plain functions. No condition. -/
import Derived.Test.YtndehkoglgakpaaGreatDoorSym
namespace Go.Proofs.YtndehkoglgakpaaGreatDoor
namespace Ex
open Tok (Tk)

/-- An operation. -/
structure Op where
  kind : Int
  text : List UInt8
  n : Int
deriving DecidableEq, Inhabited
def levL (t : List UInt8) : Nat :=
  if (t == [124, 124]) = true then 1
  else if (t == [38, 38]) = true then 2
  else if (t == [124]) = true then 3
  else if (t == [94]) = true then 4
  else if (t == [38]) = true then 5
  else if (t == [61, 61]) = true then 6
  else if (t == [33, 61]) = true then 6
  else if (t == [60]) = true then 7
  else if (t == [60, 61]) = true then 7
  else if (t == [62]) = true then 7
  else if (t == [62, 61]) = true then 7
  else if (t == [60, 60]) = true then 8
  else if (t == [62, 62]) = true then 8
  else if (t == [43]) = true then 9
  else if (t == [45]) = true then 9
  else if (t == [42]) = true then 10
  else if (t == [47]) = true then 10
  else if (t == [37]) = true then 10
  else 0
def unL (t : List UInt8) : Bool := (t == [45]) || (t == [126]) || (t == [33])
/-- The text of the next token; the empty row at the end. -/
def nxt (l : List Tk) (i : Nat) : List UInt8 := if h : i < l.length then l[i].text else []
/-- The error, the place, and the formula by now. -/
structure Rs where
  e : Int
  i : Nat
  out : List Op
deriving DecidableEq, Inhabited
def then_ (r : Rs) (o : Op) : Rs := if r.e = 0 then ⟨0, r.i, r.out ++ [o]⟩ else r
/-- Whatever parses a part: depth, place, formula. -/
abbrev Pr := Nat → Nat → List Op → Rs
def nest (f : Pr) (d i : Nat) (out : List Op) : Rs := if 24 < d then ⟨11, i, out⟩ else f (d + 1) (i + 1) out
def inPar (l : List Tk) (f : Pr) (d i : Nat) (out : List Op) : Rs :=
  if nxt l i = [40] then
    let r := nest f d i out
    if r.e = 0 then (if nxt l r.i = [41] then ⟨0, r.i + 1, r.out⟩ else ⟨4, r.i, r.out⟩) else r
  else ⟨4, i, out⟩
/-- The arguments from one on: so many by now. -/
def args (l : List Tk) (f : Pr) (d : Nat) : Nat → Nat → Nat → List Op → Nat × Rs
  | 0, _, i, out => (0, ⟨99, i, out⟩)
  | j + 1, c, i, out =>
    let r := f d i out
    if r.e = 0 then
      (if nxt l r.i = [44] then (if c = 8 then (0, ⟨10, r.i, r.out⟩) else args l f d j (c + 1) (r.i + 1) r.out) else (c, r))
    else (0, r)
def allArgs (l : List Tk) (f : Pr) (d i : Nat) (out : List Op) : Nat × Rs := if nxt l i = [41] then (0, ⟨0, i, out⟩) else args l f d 9 1 i out
def named (l : List Tk) (f : Pr) (t : List UInt8) (d i : Nat) (out : List Op) : Rs :=
  if nxt l i = [40] then
    then_ (inPar l (fun d i out => (allArgs l f d i out).2) d i out) ⟨3, t, (allArgs l f (d + 1) (i + 1) out).1⟩
  else ⟨0, i, out ++ [⟨2, t, 0⟩]⟩
def idB (t : List UInt8) : Bool := Tok.nameOk t && !Tok.isKw t
def prim (l : List Tk) (f : Pr) (d i : Nat) (out : List Op) : Rs :=
  let t := nxt l i
  if t = [40] then inPar l f d i out
  else if t = [108, 111, 97, 100] then then_ (inPar l f d (i + 1) out) ⟨4, [], 0⟩
  else if t = [105, 110] then then_ (inPar l (fun _ i out => ⟨0, i, out⟩) d (i + 1) out) ⟨5, [], 0⟩
  else if idB t = true then named l f t d (i + 1) out
  else if (Tok.number t).2 = 0 then ⟨0, i + 1, out ++ [⟨1, [], (Tok.number t).1⟩]⟩
  else ⟨4, i, out⟩
/-- Operations of one level from left to right, behind the first operand. -/
def bins (l : List Tk) (n : Nat) (g : Pr) (d : Nat) : Nat → Rs → Rs
  | 0, r => r
  | j + 1, r => if r.e = 0 ∧ levL (nxt l r.i) = n then bins l n g d j (then_ (g d (r.i + 1) r.out) ⟨7, nxt l r.i, 0⟩) else r
/-- An expression of a level. -/
def lev (l : List Tk) : Nat → Nat → Pr
  | 0, _ => fun _ i out => ⟨99, i, out⟩
  | k + 1, n => fun d i out =>
    if n < 11 then bins l n (lev l k (n + 1)) d (l.length + 1) (lev l k (n + 1) d i out)
    else if unL (nxt l i) = true then then_ (nest (lev l k 11) d i out) ⟨6, nxt l i, 0⟩
    else prim l (lev l k 1) d i out
def parse (l : List Tk) : List Op × Int :=
  if (Tok.printed l).2 ≠ 0 then ([], (Tok.printed l).2)
  else
    let r := lev l (l.length * 12 + 12) 1 0 0 []
    if r.e ≠ 0 then ([], r.e) else if r.i < l.length then ([], 4) else (r.out, 0)
end Ex
end Go.Proofs.YtndehkoglgakpaaGreatDoor
