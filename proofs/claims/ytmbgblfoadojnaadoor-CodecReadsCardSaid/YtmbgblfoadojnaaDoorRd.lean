/- A reader: its two fields; a failure; the digits of a number. No condition. -/
import Derived.Test.YtmbgblfoadojnaaDoorLists
import Derived.Test.YtmbgblfoadojnaaDoorCodMore
import Derived.Deep.Heap
import Derived.Lib.Strings
namespace Go.Proofs.YtmbgblfoadojnaaDoor
open Go.RowKit

/-- Block b is a reader with this rest and this error. -/
def RdAt (w : World) (b : Nat) (s : ByteArray) (e : Int) : Prop := w.heap[b]? = some (.cells #[.string s, .int .i64 e] 63 (0, 0))
theorem RdAt.c0 {w : World} {b : Nat} {s : ByteArray} {e : Int} (h : RdAt w b s e) : w.cell? ⟨b, 0, none⟩ = some (.string s) := by rw [Lib.cell_of_heap h]; rfl
theorem RdAt.c1 {w : World} {b : Nat} {s : ByteArray} {e : Int} (h : RdAt w b s e) : w.cell? ⟨b, 1, none⟩ = some (.int .i64 e) := by rw [Lib.cell_of_heap h]; rfl
theorem RdAt.fr {w : World} {b : Nat} {s : ByteArray} {e : Int} (h : RdAt w b s e) (j : Nat) : w.frozen? ⟨b, j, none⟩ = false := Lib.frozen_of_heap h j
theorem RdAt.lt {w : World} {b : Nat} {s : ByteArray} {e : Int} (h : RdAt w b s e) : b < w.heap.size := (Array.getElem?_eq_some_iff.1 h).1
theorem RdAt.set0 {w : World} {b : Nat} {s : ByteArray} {e : Int} (h : RdAt w b s e) (t : ByteArray) : RdAt (w.setCell ⟨b, 0, none⟩ (.string t)) b t e := by
  unfold RdAt at *; simp [World.setCell, Array.getElem?_modify, h]
theorem RdAt.set1 {w : World} {b : Nat} {s : ByteArray} {e : Int} (h : RdAt w b s e) (k : Int) : RdAt (w.setCell ⟨b, 1, none⟩ (.int .i64 k)) b s k := by
  unfold RdAt at *; simp [World.setCell, Array.getElem?_modify, h]
theorem grown_set (w : World) (b j : Nat) (v : Value) : w.grownBy (w.setCell ⟨b, j, none⟩ v) (some b) := ⟨rfl, rfl, rfl, by simp, fun k _ hk => Go.Deep.blk_setCell_other w ⟨b, j, none⟩ v k (fun e => hk (by rw [e]))⟩
theorem grown_trans {w w1 w2 : World} {r : Option Nat} (h : w.grownBy w1 r) (k : w1.grownBy w2 r) : w.grownBy w2 r :=
  ⟨k.os.trans h.os, k.tape.trans h.tape, k.output.trans h.output, Nat.le_trans h.size k.size, fun i hi hne => (k.block i (Nat.lt_of_lt_of_le hi h.size) hne).trans (h.block i hi hne)⟩
theorem grown_refl (w : World) (r : Option Nat) : w.grownBy w r := ⟨rfl, rfl, rfl, Nat.le_refl _, fun _ _ _ => rfl⟩
theorem grown_below {w w' : World} (hb : Below w.heap.size w w') (r : Option Nat) : w.grownBy w' r := ⟨hb.os, hb.tape, hb.output, hb.size, fun k hk _ => hb.block k hk⟩
theorem below_grown {w w' : World} {b B : Nat} (hg : w.grownBy w' (some b)) (hB : B ≤ b) (hs : B ≤ w.heap.size) : Below B w w' := ⟨hg.os, hg.tape, hg.output, hg.size, fun k hk => hg.block k (by omega) (by simp; omega)⟩

set_option maxHeartbeats 1000000 in
set_option maxRecDepth 100000 in
theorem fail_any (b : Nat) (s : ByteArray) (e k : Int) (w : World) (h : RdAt w b s e) :
    Calls Tryd.prog 41 #[.pointer (some ⟨b, 0, none⟩), .int .i64 k] w fun x w' => x = .returned (.tuple #[]) ∧ RdAt w' b ⟨#[]⟩ k ∧ w.grownBy w' (some b) := by
  have c0 := h.c0
  have c1 := h.c1
  have f0 := h.fr 0
  have f1 := h.fr 1
  go_enter Tryd.func41, Tryd.ntmps41
  go_wp2_with fail
  go_end0
  exact ⟨rfl, (h.set0 _).set1 _, grown_trans (grown_set _ _ _ _) (grown_set _ _ _ _)⟩
set_option maxHeartbeats 1000000 in
set_option maxRecDepth 100000 in
theorem newReader_any (s : ByteArray) (w : World) :
    Calls Tryd.prog 19 #[.string s] w fun x w' => x = .returned (.pointer (some ⟨w.heap.size, 0, none⟩)) ∧ RdAt w' w.heap.size s 0 ∧ Below w.heap.size w w' := by
  have h : RdAt (w.alloc (.cells #[.string s, .int .i64 0] 63)) w.heap.size s 0 := heap_alloc_new w _
  go_enter Tryd.func19, Tryd.ntmps19
  go_wp2_with fail
  go_ret
  exact ⟨rfl, h, (Below.refl _ _).alloc (Nat.le_refl _) _⟩
set_option maxHeartbeats 1000000 in
theorem left_any (b : Nat) (s : ByteArray) (e : Int) (w : World) (h : RdAt w b s e) :
    Calls Tryd.prog 31 #[.pointer (some ⟨b, 0, none⟩)] w fun x w' => x = .returned (.int .i64 s.size) ∧ w = w' := by
  have c0 := h.c0
  go_enter Tryd.func31, Tryd.ntmps31
  go_wp2_with fail
  go_ret
  exact ⟨rfl, rfl⟩
set_option maxHeartbeats 1000000 in
theorem err_any (b : Nat) (s : ByteArray) (e : Int) (w : World) (h : RdAt w b s e) :
    Calls Tryd.prog 30 #[.pointer (some ⟨b, 0, none⟩)] w fun x w' => x = .returned (.int .i64 e) ∧ w = w' := by
  have c1 := h.c1
  go_enter Tryd.func30, Tryd.ntmps30
  go_wp2_with fail
  go_ret
  exact ⟨rfl, rfl⟩
theorem nonempty_of {s : ByteArray} (h : ¬ s.size = 0) : (!s.toList.isEmpty) = true := by
  rw [Lib.toList_data]
  cases hl : s.data.toList with
  | nil => exact absurd (show s.size = 0 from by show s.data.toList.length = 0; rw [hl]; rfl) h
  | cons => rfl
/-- What Close returns. -/
def closeI (s : ByteArray) (e : Int) : Int := if s.size = 0 then e else 17
set_option maxHeartbeats 1000000 in
theorem close_any (b : Nat) (s : ByteArray) (e : Int) (w : World) (h : RdAt w b s e) :
    Calls Tryd.prog 32 #[.pointer (some ⟨b, 0, none⟩)] w fun x w' => x = .returned (.int .i64 (closeI s e)) ∧ w = w' := by
  have c0 := h.c0
  have c1 := h.c1
  by_cases h0 : s.size = 0
  · have hv := Lib.hid (show closeI s e = e from if_pos h0)
    obtain rfl : s = ⟨#[]⟩ := by
      apply ByteArray.ext
      exact Array.eq_empty_of_size_eq_zero h0
    clear h0
    go_enter Tryd.func32, Tryd.ntmps32
    go_wp2_with fail
    go_ret
    exact ⟨by rw [hv.out]; rfl, rfl⟩
  · have hv := Lib.hid (show closeI s e = 17 from if_neg h0)
    have hne : (!s.toList.isEmpty) = true := nonempty_of h0
    clear h0
    go_enter Tryd.func32, Tryd.ntmps32
    go_wp2_with fail
    go_ret
    exact ⟨by rw [hv.out]; rfl, rfl⟩
end Go.Proofs.YtmbgblfoadojnaaDoor
