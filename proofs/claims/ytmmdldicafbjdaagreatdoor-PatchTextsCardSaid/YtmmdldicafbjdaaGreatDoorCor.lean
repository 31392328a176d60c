/- Patches of texts as plain functions. No condition. -/
import Derived.Test.YtmmdldicafbjdaaGreatDoorTrTre
import Derived.Test.YtmmdldicafbjdaaGreatDoorDgHex
import Derived.Test.YtmmdldicafbjdaaGreatDoorDgPar
import Derived.Test.YtmmdldicafbjdaaGreatDoorDgSpo
import Derived.Lib.ItoaLen
namespace Go.Proofs.YtmmdldicafbjdaaGreatDoor
namespace Pc

/-- A hunk. -/
structure Hk where
  kind : Int
  n : Int
  ls : List (List UInt8)
deriving DecidableEq, Inhabited
/-- A patch. -/
structure Pa where
  base : List UInt8
  hs : List Hk
deriving DecidableEq, Inhabited
def isNum (n : Int) : Bool := decide (1 ≤ n) && decide (n ≤ 1024)
def isHunk (h : Hk) : Bool :=
  if h.kind = 1 ∨ h.kind = 2 then isNum h.n && decide (h.ls.length = 0)
  else if h.kind = 3 then isNum h.n && decide ((h.ls.length : Int) = h.n) else false
def beside (before : Int) (h : Hk) : Bool := isHunk h && !(h.kind == before) && !(h.kind == 2 && before == 3)
def inOrder : Int → List Hk → Bool
  | _, [] => true
  | before, h :: t => beside before h && inOrder h.kind t
def cnt (k : Int) : List Hk → Int
  | [] => 0
  | h :: t => (if h.kind = k then h.n else 0) + cnt k t
def shape (hs : List Hk) : Bool := inOrder 0 hs && isNum (cnt 1 hs + cnt 2 hs) && isNum (cnt 1 hs + cnt 3 hs)
/-- The word of a kind, with its blank. -/
def word (k : Int) : List UInt8 := if k = 1 then [107, 101, 101, 112, 32] else if k = 2 then [100, 114, 111, 112, 32] else [97, 100, 100, 32]
def baseW : List UInt8 := [98, 97, 115, 101, 32]
def headL (h : Hk) : List UInt8 := word h.kind ++ Lib.decDigits h.n.toNat
def bodyL : List Hk → List (List UInt8)
  | [] => []
  | h :: t => headL h :: h.ls ++ bodyL t
/-- The hexadecimal text of a digest. -/
def hex (b : List UInt8) : List UInt8 := (Dg.hexS ⟨b.toArray⟩).data.toList
def printL (p : Pa) : List (List UInt8) := (if p.base = [] then [] else [baseW ++ hex p.base]) ++ bodyL p.hs
def baseOk (b : List UInt8) : Bool := decide (b = []) || decide (b.length = 32)
def valid (p : Pa) : Bool := shape p.hs && baseOk p.base && decide ((Tr.Tre.join (printL p)).2 = 0)
def print (p : Pa) : List UInt8 × Int := if valid p = true then (Tr.Tre.joined (printL p), 0) else ([], 1)
def cost (p : Pa) : Int × Int := if valid p = true then (cnt 2 p.hs + cnt 3 p.hs, 0) else (0, 1)
/-- The lines of the result. -/
def change : List Hk → List (List UInt8) → List (List UInt8)
  | [], _ => []
  | h :: t, l => if h.kind = 1 then l.take h.n.toNat ++ change t (l.drop h.n.toNat) else if h.kind = 2 then change t (l.drop h.n.toNat) else if h.kind = 3 then h.ls ++ change t l else change t l
def dig (s : List UInt8) : List UInt8 := Dg.Spo.dig s
def apply (p : Pa) (data : List UInt8) : List UInt8 × Int :=
  if valid p = false then ([], 1)
  else if (Tr.Tre.lines data).2 ≠ 0 then ([], (Tr.Tre.lines data).2)
  else if cnt 1 p.hs + cnt 2 p.hs ≠ ((Tr.Tre.lines data).1.length : Int) ∨ (p.base ≠ [] ∧ p.base ≠ dig data) then ([], 9)
  else Tr.Tre.join (change p.hs (Tr.Tre.lines data).1)
/-- Where a line comes from. -/
structure Pl where
  old : Int
  new : Int
deriving DecidableEq, Inhabited
def keeps (old : Nat) : Nat → List Pl
  | 0 => []
  | n + 1 => ⟨old, -1⟩ :: keeps (old + 1) n
def adds (line : Nat) : Nat → List Pl
  | 0 => []
  | n + 1 => ⟨-1, line⟩ :: adds (line + 1) n
/-- The places, from a line of the text and a line of the patch on. -/
def places : List Hk → Nat → Nat → List Pl
  | [], _, _ => []
  | h :: t, old, line => if h.kind = 1 then keeps old h.n.toNat ++ places t (old + h.n.toNat) (line + 1)
    else if h.kind = 2 then places t (old + h.n.toNat) (line + 1)
    else if h.kind = 3 then adds (line + 1) h.n.toNat ++ places t old (line + 1 + h.n.toNat) else places t old (line + 1)
def placesOf (p : Pa) : List Pl := places p.hs 0 (if p.base = [] then 0 else 1)
def trace (p : Pa) (n : Int) : List Pl × Int := if valid p = false then ([], 1) else if cnt 1 p.hs + cnt 2 p.hs ≠ n then ([], 9) else (placesOf p, 0)
/-- Lines of one kind are taken into the hunks. -/
def addTo (k : Int) (ls : List (List UInt8)) (h : Hk) : Hk := ⟨h.kind, h.n + ls.length, if k = 3 then h.ls ++ ls else h.ls⟩
def take (hs : List Hk) (k : Int) (ls : List (List UInt8)) : List Hk :=
  if ls = [] then hs
  else match hs.getLast? with
    | some h => if h.kind = k then hs.dropLast ++ [addTo k ls h] else hs ++ [addTo k ls ⟨k, 0, []⟩]
    | none => [addTo k ls ⟨k, 0, []⟩]
/-- The hunks that keep the lines of some pairs: what is left of both texts behind i and j lines. -/
def keepHs (hs : List Hk) (a b : List (List UInt8)) (i j : Nat) : List (Nat × Nat) → List Hk
  | [] => take (take hs 2 (a.drop i)) 3 (b.drop j)
  | (x, y) :: t => keepHs (take (take (take hs 2 ((a.take x).drop i)) 3 ((b.take y).drop j)) 1 ((a.take (x + 1)).drop x)) a b (x + 1) (y + 1) t
def keeping (base : List UInt8) (a b : List (List UInt8)) (kept : List (Nat × Nat)) : Pa × Int :=
  if valid ⟨base, keepHs [] a b 0 0 kept⟩ = true then (⟨base, keepHs [] a b 0 0 kept⟩, 0) else (⟨[], []⟩, 10)
end Pc
end Go.Proofs.YtmmdldicafbjdaaGreatDoor
