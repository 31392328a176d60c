/- The token at the beginning of a string. Condition: the library's error of ranges lies in its variable. -/
import Derived.Test.YtndehkoglgakpaaGreatDoorNum
namespace Go.Proofs.YtndehkoglgakpaaGreatDoor
open Go.RowKit
namespace Tok
def symbF : Nat → List UInt8 → List UInt8
  | 0, _ => []
  | m + 1, l => if isSym (l.take (m + 1)) = true then l.take (m + 1) else symbF m l
theorem symb_F (l : List UInt8) : symb l = symbF (min 2 l.length) l := by
  match l with
  | [] => rfl
  | [c] => simp [symb, symbF]
  | c :: d :: r => simp [symb, symbF]
end Tok
theorem keep2 {w w1 : World} {v0 v1 : Value} {T : TypeId} (hb : Below (w.alloc (.cells #[v0, v1] T)).heap.size (w.alloc (.cells #[v0, v1] T)) w1) :
    w1.cell? ⟨w.heap.size, 0, none⟩ = some v0 ∧ w1.cell? ⟨w.heap.size, 1, none⟩ = some v1 ∧ w1.frozen? ⟨w.heap.size, 0, none⟩ = false ∧ w1.frozen? ⟨w.heap.size, 1, none⟩ = false ∧ w.heap.size < w1.heap.size :=
  ⟨(hb.cell (p := ⟨w.heap.size, 0, none⟩) (by simp)).trans (by go_simp), (hb.cell (p := ⟨w.heap.size, 1, none⟩) (by simp)).trans (by go_simp), (hb.frozen (p := ⟨w.heap.size, 0, none⟩) (by simp)).trans (by go_simp), (hb.frozen (p := ⟨w.heap.size, 1, none⟩) (by simp)).trans (by go_simp), by have := hb.size; simp at this; omega⟩
/-- What a token and an error are as a result. -/
def tokV (x : Tok.Tk × Int) : Value := .tuple #[.agg #[.int .i64 x.1.kind, .string (str x.1.text)], .int .i64 x.2]
theorem tokV_def (x : Tok.Tk × Int) : tokV x = .tuple #[.agg #[.int .i64 x.1.kind, .string (str x.1.text)], .int .i64 x.2] := rfl
theorem dw_drop (p : UInt8 → Bool) (l : List UInt8) : l.dropWhile p = l.drop (Tok.run p l) := by
  have h := List.takeWhile_append_dropWhile (p := p) (l := l)
  have h2 : (l.takeWhile p ++ l.dropWhile p).drop (l.takeWhile p).length = l.dropWhile p := List.drop_left
  rw [h] at h2
  exact h2.symm
theorem head_drop (s : ByteArray) (k : Nat) (h : k < s.size) : (s.data.toList.drop k).head? = some s[k] := by rw [get_s s k h]; rfl
theorem next_def (l : List UInt8) : Tok.next l = if l.head?.map Tok.isLet = some true then Tok.nName l else if l.head?.map Tok.isDig = some true then Tok.nNum l else (if Tok.symb l = [] then (⟨0, []⟩, 4) else (⟨3, Tok.symb l⟩, 0)) := rfl
theorem tokV_two (x : Tok.Tk × Int) : ∃ a b c, tokV x = .tuple #[.agg #[.int .i64 a, .string b], .int .i64 c] := ⟨_, _, _, rfl⟩
end Go.Proofs.YtndehkoglgakpaaGreatDoor
