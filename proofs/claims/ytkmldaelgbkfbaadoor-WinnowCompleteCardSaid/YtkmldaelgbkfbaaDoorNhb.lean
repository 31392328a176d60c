/- Blanks in a string; whether a string can be a word. No condition. -/
import Derived.Test.YtkmldaelgbkfbaaDoorNbl
import Derived.Test.YtkmldaelgbkfbaaDoorShelf
import Derived.WalkKit
import Derived.WalkSpells
import Derived.WalkLawsBesides
import Derived.Lib.Hide
namespace Go.Proofs.YtkmldaelgbkfbaaDoor
open Go.RowKit Go.Deep Tr
namespace Nm
set_option maxHeartbeats 1000000 in
set_option maxRecDepth 100000 in
theorem blank1_any (x : Nat) (w : World) :
    Calls Tryd.prog 52 #[.int .i32 (x : Int)] w fun e w' => e = .returned (.bool (blR x)) ∧ w = w' := by
  have HV := Lib.hid (show blR x = decide (x ≤ 32 ∨ x = 127) from rfl)
  generalize blR x = v at *
  by_cases h1 : x ≤ 32
  · have b1 : decide ((x : Int) ≤ 32) = true := decide_eq_true (by omega)
    have b1n : decide (x ≤ 32) = true := decide_eq_true h1
    have HT := Lib.hid (show v = true by rw [HV.out]; exact decide_eq_true (.inl h1))
    clear HV h1
    go_enter Tryd.func52, Tryd.ntmps52
    go_wp2
    go_ret
    exact ⟨ret_bool (by rw [HT.out]), rfl⟩
  · have b1 : decide ((x : Int) ≤ 32) = false := decide_eq_false (by omega)
    have b1n : decide (x ≤ 32) = false := decide_eq_false h1
    by_cases h2 : x = 127
    · have b2 : ((x : Int) == 127) = true := by rw [beq_iff_eq]; omega
      have HT := Lib.hid (show v = true by rw [HV.out]; exact decide_eq_true (.inr h2))
      clear HV h1 h2
      go_enter Tryd.func52, Tryd.ntmps52
      go_wp2
      go_ret
      exact ⟨ret_bool (by rw [HT.out]), rfl⟩
    · have b2 : ((x : Int) == 127) = false := by rw [beq_eq_false_iff_ne]; omega
      have HT := Lib.hid (show v = false by rw [HV.out]; exact decide_eq_false (fun h => h.elim h1 h2))
      clear HV h1 h2
      go_enter Tryd.func52, Tryd.ntmps52
      go_wp2
      go_ret
      exact ⟨ret_bool (by rw [HT.out]), rfl⟩
theorem blank_pred (w : World) : PredAtRunes Tryd.prog 52 #[] blR w := fun W x _ _ =>
  (blank1_any x W).mono fun e w' h => ⟨h.1, 0, by rw [← h.2]; rfl⟩
theorem hasBlank_any (s : ByteArray) (w : World) :
    Calls Tryd.prog 41 #[.string s] w fun e w' => e = .returned (.bool (s.data.toList.any isBl)) ∧ Below w.heap.size w w' := by
  have cc := Tryd.strings_ContainsFunc_runes 52 #[] (enters_of Tryd.func52 (by kernel_rfl) rfl) blR s w (blank_pred w)
  rw [blank_idx] at cc
  generalize s.data.toList.any isBl = v at *
  go_enter Tryd.func41, Tryd.ntmps41
  go_wp2_with fail
  (with_reducible refine cc.mono ?_); rintro e w1 ⟨rfl, hb⟩
  have HB := Lib.hid hb
  clear hb cc
  go_wp2_with fail
  go_ret
  exact ⟨rfl, HB.out⟩
theorem isW_def (s : List UInt8) : isW s = (!s.isEmpty && !s.any isBl) := rfl
theorem isWord_any (s : ByteArray) (w : World) :
    Calls Tryd.prog 27 #[.string s] w fun e w' => e = .returned (.bool (isW s.data.toList)) ∧ Below w.heap.size w w' := by
  have HV := Lib.hid (isW_def s.data.toList)
  generalize isW s.data.toList = v at *
  by_cases h0 : s.size = 0
  · have hz : s = ⟨#[]⟩ := by apply ByteArray.ext; exact Array.eq_empty_of_size_eq_zero h0
    have HT := Lib.hid (show v = false by rw [HV.out, hz]; rfl)
    clear HV h0
    subst hz
    go_enter Tryd.func27, Tryd.ntmps27
    go_wp2_with fail
    go_ret
    exact ⟨ret_bool (by rw [HT.out]), Below.refl _ _⟩
  · have hq1 := ne_list s h0
    have hq2 : s.toList.isEmpty = false := by rw [List.isEmpty_eq_false_iff]; exact hq1
    have cc := hasBlank_any s w
    have HT := Lib.hid (show v = !s.data.toList.any isBl by
      rw [HV.out, ← ByteArray.toList_eq, hq2]; rfl)
    generalize s.data.toList.any isBl = u at *
    clear HV h0
    go_enter Tryd.func27, Tryd.ntmps27
    go_wp2_with fail
    (with_reducible refine cc.mono ?_); rintro e w1 ⟨rfl, hb⟩
    have HB := Lib.hid hb
    clear hb cc
    go_wp2_with fail
    go_ret
    exact ⟨ret_bool (by rw [HT.out]), HB.out⟩
end Nm
end Go.Proofs.YtkmldaelgbkfbaaDoor
