/- The reference's reader: a failure, a number, the end. No condition but the string's length. -/
import Derived.Test.YtmbgblfoadojnaaDoorCnt
import Derived.Test.YtmbgblfoadojnaaDoorRead
namespace Go.Proofs.YtmbgblfoadojnaaDoor
open Go.RowKit

/-- Block b is a reader of the reference with this rest and this error. -/
def QdAt (w : World) (b : Nat) (s : ByteArray) (e : Int) : Prop := w.heap[b]? = some (.cells #[.string s, .int .i64 e] 38 (0, 0))
theorem QdAt.c0 {w : World} {b : Nat} {s : ByteArray} {e : Int} (h : QdAt w b s e) : w.cell? ⟨b, 0, none⟩ = some (.string s) := by rw [Lib.cell_of_heap h]; rfl
theorem QdAt.c1 {w : World} {b : Nat} {s : ByteArray} {e : Int} (h : QdAt w b s e) : w.cell? ⟨b, 1, none⟩ = some (.int .i64 e) := by rw [Lib.cell_of_heap h]; rfl
theorem QdAt.fr {w : World} {b : Nat} {s : ByteArray} {e : Int} (h : QdAt w b s e) (j : Nat) : w.frozen? ⟨b, j, none⟩ = false := Lib.frozen_of_heap h j
theorem QdAt.lt {w : World} {b : Nat} {s : ByteArray} {e : Int} (h : QdAt w b s e) : b < w.heap.size := (Array.getElem?_eq_some_iff.1 h).1
theorem QdAt.set0 {w : World} {b : Nat} {s : ByteArray} {e : Int} (h : QdAt w b s e) (t : ByteArray) : QdAt (w.setCell ⟨b, 0, none⟩ (.string t)) b t e := by
  unfold QdAt at *; simp [World.setCell, Array.getElem?_modify, h]
theorem QdAt.set1 {w : World} {b : Nat} {s : ByteArray} {e : Int} (h : QdAt w b s e) (k : Int) : QdAt (w.setCell ⟨b, 1, none⟩ (.int .i64 k)) b s k := by
  unfold QdAt at *; simp [World.setCell, Array.getElem?_modify, h]
theorem QdAt.cast {w : World} {b : Nat} {s t : ByteArray} {e : Int} (h : QdAt w b s e) (k : s = t) : QdAt w b t e := k ▸ h

set_option maxHeartbeats 1000000 in
set_option maxRecDepth 100000 in
theorem qfail_any (b : Nat) (s : ByteArray) (e k : Int) (w : World) (h : QdAt w b s e) :
    Calls Tryd.prog 43 #[.pointer (some ⟨b, 0, none⟩), .int .i64 k] w fun x w' => x = .returned (.tuple #[]) ∧ QdAt w' b ⟨#[]⟩ k ∧ w.grownBy w' (some b) := by
  have c0 := h.c0
  have c1 := h.c1
  have f0 := h.fr 0
  have f1 := h.fr 1
  go_enter Tryd.func43, Tryd.ntmps43
  go_wp2_with fail
  go_end0
  exact ⟨rfl, (h.set0 _).set1 _, grown_trans (grown_set _ _ _ _) (grown_set _ _ _ _)⟩
/-- What Close of the reference returns. -/
def qcloseI (s : ByteArray) (e : Int) : Int := if e = 0 then if s.size = 0 then 0 else 17 else e
set_option maxHeartbeats 1000000 in
theorem qclose_any (b : Nat) (s : ByteArray) (e : Int) (w : World) (h : QdAt w b s e) :
    Calls Tryd.prog 33 #[.pointer (some ⟨b, 0, none⟩)] w fun x w' => x = .returned (.int .i64 (qcloseI s e)) ∧ w = w' := by
  have c0 := h.c0
  have c1 := h.c1
  by_cases he : e = 0
  · subst he
    by_cases h0 : s.size = 0
    · have hv := Lib.hid (show qcloseI s 0 = 0 by unfold qcloseI; rw [if_pos rfl, if_pos h0])
      obtain rfl : s = ⟨#[]⟩ := by
        apply ByteArray.ext
        exact Array.eq_empty_of_size_eq_zero h0
      clear h0
      go_enter Tryd.func33, Tryd.ntmps33
      go_wp2_with fail
      go_ret
      exact ⟨by rw [hv.out]; rfl, rfl⟩
    · have hv := Lib.hid (show qcloseI s 0 = 17 by unfold qcloseI; rw [if_pos rfl, if_neg h0])
      have hne : (!s.toList.isEmpty) = true := nonempty_of h0
      clear h0
      go_enter Tryd.func33, Tryd.ntmps33
      go_wp2_with fail
      go_ret
      exact ⟨by rw [hv.out]; rfl, rfl⟩
  · have hv := Lib.hid (show qcloseI s e = e by unfold qcloseI; rw [if_neg he])
    have q0 : (e == 0) = false := by simpa using he
    clear he
    go_enter Tryd.func33, Tryd.ntmps33
    go_wp2_with fail
    go_ret
    exact ⟨by rw [hv.out]; rfl, rfl⟩

/-- What Count finds, and what 'digits' makes of it. -/
theorem cnt_cases (most : Nat) (ec : UInt8) (s : ByteArray) :
    (∃ n i : Nat, cntV most ec s.data.toList = .tuple #[.int .i64 n, .int .i64 i, .bool false] ∧ n ≤ most ∧ i < s.size ∧ Cod.digits most ec ⟨s.data.toList, 0⟩ = (n, ⟨s.data.toList.drop (i + 1), 0⟩)) ∨
    (cntV most ec s.data.toList = .tuple #[.int .i64 0, .int .i64 (-1), .bool true] ∧ Cod.digits most ec ⟨s.data.toList, 0⟩ = (0, ⟨[], 13⟩)) ∨
    (cntV most ec s.data.toList = .tuple #[.int .i64 0, .int .i64 (-1), .bool false] ∧ Cod.digits most ec ⟨s.data.toList, 0⟩ = (0, ⟨[], 17⟩)) := by
  unfold cntV Cod.digits
  rw [if_pos rfl]
  simp only
  cases hsc : Cod.scan most ec s.data.toList 0 false with
  | ok n rest =>
    left
    obtain ⟨h1, h2⟩ := Cod.scan_back most ec _ n rest hsc
    have hlen := congrArg List.length h2
    simp only [List.length_append, List.length_cons] at hlen
    have hsz : s.data.toList.length = s.size := rfl
    refine ⟨n, s.data.toList.length - rest.length - 1, rfl, h1, by omega, ?_⟩
    have hd : s.data.toList.drop (s.data.toList.length - rest.length - 1 + 1) = rest := by
      rw [show s.data.toList.length - rest.length - 1 + 1 = (Lib.decDigits n ++ [ec]).length by simp; omega]
      rw [h2, show Lib.decDigits n ++ ec :: rest = (Lib.decDigits n ++ [ec]) ++ rest by simp]
      exact List.drop_left
    simp only [hd]
  | short => exact .inr (.inl ⟨rfl, rfl⟩)
  | corrupt => exact .inr (.inr ⟨rfl, rfl⟩)
end Go.Proofs.YtmbgblfoadojnaaDoor
