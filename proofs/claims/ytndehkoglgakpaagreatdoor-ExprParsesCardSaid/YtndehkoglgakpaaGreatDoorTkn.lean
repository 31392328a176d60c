/- The tokens of a line. Condition: the library's error of ranges lies in its variable. -/
import Derived.Test.YtndehkoglgakpaaGreatDoorFst
import Derived.Deep.AppendLies
import Derived.Lib.Builder
import Derived.Lib.AppendStr
import Derived.Deep.LoopGhost
namespace Go.Proofs.YtndehkoglgakpaaGreatDoor
open Go.RowKit

def tkOf (t : Tok.Tk) : List Value := [.int .i64 t.kind, .string (str t.text)]
def tksOf (ts : List Tok.Tk) : List Value := ts.flatMap tkOf
theorem tksOf_snoc (ts : List Tok.Tk) (t : Tok.Tk) : tksOf ts ++ [.int .i64 t.kind, .string (str t.text)] = tksOf (ts ++ [t]) := by simp [tksOf, tkOf]
theorem infoT : (Tryz.prog.info? 45).map (fun i => (i.zero, i.size, i.bytes)) = some (some (.agg #[.int .i64 0, .string ⟨#[]⟩]), 2, 24) := by kernel_rfl
/-- What a list of tokens and an error are as a result. -/
def GotT (w : World) (R : List Tok.Tk × Int) : Ending → World → Prop := fun x w' => ∃ v, x = .returned (.tuple #[v, .int .i64 R.2]) ∧ w'.ownsRow w.heap.size 45 2 v R.1.length (tksOf R.1) ∧ Below w.heap.size w w'
theorem owns_below {w w' : World} {B size n : Nat} {e : TypeId} {v : Value} {xs : List Value} (h : w.ownsRow B e size v n xs) (hb : Below w.heap.size w w') : w'.ownsRow B e size v n xs :=
  h.kept (row := none) ⟨hb.os, hb.tape, hb.output, hb.size, fun k hk _ => hb.block k hk⟩ (by cases hv : v.ownBlock <;> simp)
theorem scan_at (k : Nat) (s : ByteArray) (i : Nat) (h : i < s.size) : Tok.scan k (s.data.toList.drop i) = if s[i] = 32 then Tok.scan k (s.data.toList.drop (i + 1)) else if k = 256 then ([], 10) else if (Tok.next (s.data.toList.drop i)).2 = 0 then Tok.pre [(Tok.next (s.data.toList.drop i)).1] (Tok.scan (k + 1) (s.data.toList.drop (i + (Tok.next (s.data.toList.drop i)).1.text.length))) else ([], (Tok.next (s.data.toList.drop i)).2) := by
  have hd : ∀ m, s.data.toList.drop (i + m) = (s[i] :: s.data.toList.drop (i + 1)).drop m := fun m => by rw [← get_s s i h, List.drop_drop]
  rw [get_s s i h, Tok.scan_cons, ← hd]
theorem next_size (s : ByteArray) (i : Nat) (h : (Tok.next (s.data.toList.drop i)).2 = 0) : 1 ≤ (Tok.next (s.data.toList.drop i)).1.text.length ∧ i + (Tok.next (s.data.toList.drop i)).1.text.length ≤ s.size := by
  obtain ⟨_, h1, h2⟩ := Tok.next_ok _ h
  rw [List.length_drop, size_data] at h2
  omega
end Go.Proofs.YtndehkoglgakpaaGreatDoor
