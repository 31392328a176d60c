/- The parts of a string: strings.Split at one byte, and the reference's. Condition: bytealg's MaxLen lies in its variable. -/
import Derived.Test.YtkmldaelgbkfbaaDoorTrPth
import Derived.Test.YtkmldaelgbkfbaaDoorShelf
import Derived.Deep.AppendLies
import Derived.Lib.Builder
import Derived.Lib.AppendStr
namespace Go.Proofs.YtkmldaelgbkfbaaDoor.Tr
open Go.RowKit

/-- The library's variable holds a number. -/
def MaxAt (w : World) : Prop := ∃ m : Int, w.cell? ⟨0, 0, none⟩ = some (.int .i64 m)
theorem MaxAt.below {w w' : World} (h : MaxAt w) (hb : Below w.heap.size w w') : MaxAt w' := by
  obtain ⟨m, hc⟩ := h
  have hlt := World.block_lt_of_cell? w _ hc
  exact ⟨m, (hb.cell hlt).trans hc⟩
/-- The slice value's cells are these values; they lie below block B. -/
def CellsAt (w : World) (B : Nat) (A : Option Addr) (vs : List Value) : Prop := ∀ i (h : i < vs.length), ∃ g o, A = some ⟨g, o, none⟩ ∧ g < B ∧ w.cell? ⟨g, o + i, none⟩ = some vs[i]
theorem CellsAt.below {w w' : World} {B B' : Nat} {A : Option Addr} {vs : List Value} (h : CellsAt w B A vs) (hb : Below B' w w') (hB : B ≤ B') : CellsAt w' B A vs := fun i hi => by
  obtain ⟨g, o, e, hg, hc⟩ := h i hi
  exact ⟨g, o, e, hg, (hb.cell (p := ⟨g, o + i, none⟩) (by show g < B'; omega)).trans hc⟩
theorem CellsAt.next {w w' : World} {A : Option Addr} {vs : List Value} (h : CellsAt w w.heap.size A vs) (hb : Below w.heap.size w w') : CellsAt w' w'.heap.size A vs := fun i hi => by
  obtain ⟨g, o, e, hg, hc⟩ := h.below hb (Nat.le_refl _) i hi
  exact ⟨g, o, e, Nat.lt_of_lt_of_le hg hb.size, hc⟩
theorem owns_cells {w : World} {B : Nat} {e : TypeId} {v : Value} {n : Nat} {xs : List Value} (h : w.ownsRow B e 1 v n xs) : ∃ A c, v = .slice A n c ∧ CellsAt w w.heap.size A xs := by
  have hl : xs.length = n := by simpa using h.1
  rcases h.2 with ⟨rfl, h0⟩ | ⟨g, cap, cur, rfl, hb, hg, hn, hc, hs, ht⟩
  · subst h0
    exact ⟨none, 0, rfl, fun i hi => by omega⟩
  · refine ⟨_, cap, rfl, fun i hi => ⟨g, 0, rfl, (Array.getElem?_eq_some_iff.1 hg).1, ?_⟩⟩
    rw [Nat.zero_add, cell_of_row w g i cur e (0, 0) hg]
    have h1 := congrArg (fun x => x[i]?) ht
    simp only [Nat.mul_one, List.getElem?_take, if_pos (show i < n by omega)] at h1
    rw [← Array.getElem?_toList, h1, List.getElem?_eq_getElem hi]
theorem owns_below {w w' : World} {B size n : Nat} {e : TypeId} {v : Value} {xs : List Value} (h : w.ownsRow B e size v n xs) (hb : Below w.heap.size w w') : w'.ownsRow B e size v n xs :=
  h.kept (row := none) ⟨hb.os, hb.tape, hb.output, hb.size, fun k hk _ => hb.block k hk⟩ (by cases hv : v.ownBlock <;> simp)
theorem grown_own0 {w W w2 : World} {row : Option Nat} (hb : Below w.heap.size w W) (hg : W.grownBy w2 row) (hr : ∀ k, row = some k → w.heap.size ≤ k) : Below w.heap.size w w2 :=
  ⟨hg.os.trans hb.os, hg.tape.trans hb.tape, hg.output.trans hb.output, Nat.le_trans hb.size hg.size, fun i hi => (hg.block i (Nat.lt_of_lt_of_le hi hb.size) (fun e => by have := hr i e.symm; omega)).trans (hb.block i hi)⟩
theorem infoS : (Tryd.prog.info? 9).map (fun i => (i.zero, i.size, i.bytes)) = some (some (.string ⟨#[]⟩), 1, 16) := by kernel_rfl
def strs (ps : List (List UInt8)) : List Value := ps.map fun p => .string (str p)
theorem strs_len (ps : List (List UInt8)) : (strs ps).length = ps.length := by simp [strs]
theorem strs_snoc (ps : List (List UInt8)) (p : List UInt8) : strs ps ++ [Value.string (str p)] = strs (ps ++ [p]) := by simp [strs]
/-- What parts of a string are as a result. -/
def GotP (w : World) (ps : List (List UInt8)) : Ending → World → Prop := fun x w' => ∃ v, x = .returned v ∧ w'.ownsRow w.heap.size 9 1 v ps.length (strs ps) ∧ Below w.heap.size w w'
theorem cut_any (s : ByteArray) (c : UInt8) (w : World) (hs : s.size ≤ 1000000000) (hM : MaxAt w) :
    Calls Tryd.prog 39 #[.string s, .string ⟨#[c]⟩] w (GotP w (Tre.split c s.data.toList)) := by
  obtain ⟨m, hm⟩ := hM
  have h1 : 1 ≤ (⟨#[c]⟩ : ByteArray).size := Nat.le_refl 1
  have hn := Lib.countB_le ⟨#[c]⟩ h1 s.size s (Nat.le_refl _)
  have hlen := Lib.splitB_all ⟨#[c]⟩ h1 0 _ s rfl
  have hp := Tre.pieces c s
  have e1 : (Tre.split c s.data.toList).length = Lib.countB s ⟨#[c]⟩ + 1 := by rw [← hp, List.length_map, hlen]
  have e2 : strs (Tre.split c s.data.toList) = (Lib.splitB ⟨#[c]⟩ 0 (Lib.countB s ⟨#[c]⟩) s).map Value.string := by
    rw [← hp, strs, List.map_map]
    exact List.map_congr_left fun x _ => by rw [Function.comp, str_of]
  refine (Tryd.strings_Split s ⟨#[c]⟩ m w (by omega) hm h1).mono ?_
  rintro e w' ⟨rfl, rfl⟩
  refine ⟨_, rfl, ?_, (Below.refl _ _).alloc (Nat.le_refl _) _⟩
  rw [e1, e2]
  exact World.ownsRow_lit w _ _ (Nat.le_refl _) (by unfold maxLen; omega) (by simp [hlen])

theorem mid_cut (s : ByteArray) (f k : Nat) (hf : f ≤ k) (hk : k < s.size) : s.data.toList.drop f = (s.data.toList.drop f).take (k - f) ++ s[k] :: s.data.toList.drop (k + 1) := by
  rw [← get_s s k hk]
  conv => lhs; rw [← List.take_append_drop (k - f) (s.data.toList.drop f)]
  rw [List.drop_drop, show f + (k - f) = k by omega]
theorem mid_snoc (s : ByteArray) (f k : Nat) (hf : f ≤ k) (hk : k < s.size) : (s.data.toList.drop f).take (k + 1 - f) = (s.data.toList.drop f).take (k - f) ++ [s[k]] := by
  rw [show k + 1 - f = (k - f) + 1 by omega, List.take_add_one, List.getElem?_drop, show f + (k - f) = k by omega, get_d s k hk]
  rfl
end Go.Proofs.YtkmldaelgbkfbaaDoor.Tr
