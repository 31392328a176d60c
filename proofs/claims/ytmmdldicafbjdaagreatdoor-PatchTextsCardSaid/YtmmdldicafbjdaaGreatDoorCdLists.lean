/- Lists of numbers and of texts return their bytes, or the error. Condition: the library's table of powers of ten lies in its variable. -/
import Derived.Test.YtmmdldicafbjdaaGreatDoorCdList
namespace Go.Proofs.YtmmdldicafbjdaaGreatDoor.Cd
open Go.RowKit

/-- The slice value's cells are these values; they lie below block B. -/
def CellsAt (w : World) (B : Nat) (A : Option Addr) (vs : List Value) : Prop := ∀ i (h : i < vs.length), ∃ g o, A = some ⟨g, o, none⟩ ∧ g < B ∧ w.cell? ⟨g, o + i, none⟩ = some vs[i]
theorem CellsAt.below {w w' : World} {B B' : Nat} {A : Option Addr} {vs : List Value} (h : CellsAt w B A vs) (hb : Below B' w w') (hB : B ≤ B') : CellsAt w' B A vs := fun i hi => by
  obtain ⟨g, o, e, hg, hc⟩ := h i hi
  exact ⟨g, o, e, hg, (hb.cell (p := ⟨g, o + i, none⟩) (by show g < B'; omega)).trans hc⟩
theorem Bld.below {w w' : World} {B b : Nat} {p : Value} {l : List UInt8} (h : Bld w B b p l) (hb : Below w.heap.size w w') : Bld w' B b p l := by
  obtain ⟨hB, v, hbk, hown, hne⟩ := h
  exact ⟨hB, v, (hb.block b (Array.getElem?_eq_some_iff.1 hbk).1).trans hbk, hown.kept (row := none) ⟨hb.os, hb.tape, hb.output, hb.size, fun k hk _ => hb.block k hk⟩ (by cases hv : v.ownBlock <;> simp), hne⟩
theorem all_snoc {α : Type} (p : α → Bool) (zs : List α) (k : Nat) (h : k < zs.length) : (zs.take (k + 1)).all p = ((zs.take k).all p && p zs[k]) := by
  rw [List.take_succ_eq_append_getElem h, List.all_append]; simp
def intsOf (zs : List Int) : List Value := zs.map (Value.int .i64)
def strsOf (ss : List ByteArray) : List Value := ss.map Value.string
def okN (n : Int) : Bool := decide (0 ≤ n ∧ n ≤ 281474976710656)
def okS (s : ByteArray) : Bool := decide (s.size ≤ 65536)
def encN (n : Int) : List UInt8 := Cod.num n.toNat
def encS (s : ByteArray) : List UInt8 := Cod.txt s.data.toList
theorem numV_ok (n : Int) (h : okN n = true) : numV n = .tuple #[.string (str (encN n)), .int .i64 0] := by
  have : 0 ≤ n ∧ n ≤ 281474976710656 := by simpa [okN] using h
  exact if_neg (by omega)
theorem numV_bad (n : Int) (h : okN n = false) : numV n = .tuple #[.string ⟨#[]⟩, .int .i64 3] := by
  have : ¬ (0 ≤ n ∧ n ≤ 281474976710656) := by simpa [okN] using h
  exact if_pos (by omega)
theorem txtV_ok (s : ByteArray) (h : okS s = true) : txtV s = .tuple #[.string (str (encS s)), .int .i64 0] := by
  have : s.size ≤ 65536 := by simpa [okS] using h
  exact if_neg (by omega)
theorem txtV_bad (s : ByteArray) (h : okS s = false) : txtV s = .tuple #[.string ⟨#[]⟩, .int .i64 10] := by
  have : ¬ s.size ≤ 65536 := by simpa [okS] using h
  exact if_pos (by omega)
theorem encN_len (n : Int) (h : okN n = true) : (encN n).length ≤ 70000 := by
  have : 0 ≤ n ∧ n ≤ 281474976710656 := by simpa [okN] using h
  have := num_len n.toNat (by omega)
  unfold encN; omega
theorem encS_len (s : ByteArray) (h : okS s = true) : (encS s).length ≤ 70000 := txt_len s (by simpa [okS] using h)
theorem flat_snoc {α : Type} (f : α → List UInt8) (zs : List α) (k : Nat) (h : k < zs.length) : (zs.take (k + 1)).flatMap f = (zs.take k).flatMap f ++ f zs[k] := by
  rw [List.take_succ_eq_append_getElem h, List.flatMap_append]; simp

/-- What Numbers returns. -/
def numsV (zs : List Int) : Value := if 1024 < zs.length then .tuple #[.string ⟨#[]⟩, .int .i64 10] else if zs.all okN = true then .tuple #[.string (str (Cod.num zs.length ++ zs.flatMap encN)), .int .i64 0] else .tuple #[.string ⟨#[]⟩, .int .i64 3]
/-- What Texts returns. -/
def txtsV (zs : List ByteArray) : Value := if 1024 < zs.length then .tuple #[.string ⟨#[]⟩, .int .i64 10] else if zs.all okS = true then .tuple #[.string (str (Cod.num zs.length ++ zs.flatMap encS)), .int .i64 0] else .tuple #[.string ⟨#[]⟩, .int .i64 10]
end Go.Proofs.YtmmdldicafbjdaaGreatDoor.Cd
