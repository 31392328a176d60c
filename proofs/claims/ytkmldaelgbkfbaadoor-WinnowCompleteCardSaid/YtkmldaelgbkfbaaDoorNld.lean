/- leading and class of the program; blank, digit, letter and class of the reference. No condition. -/
import Derived.Test.YtkmldaelgbkfbaaDoorNvl
import Derived.Shelf.GgClosure.StringsIndexFuncTop
namespace Go.Proofs.YtkmldaelgbkfbaaDoor
open Go.RowKit Go.Deep Tr
namespace Nm
set_option maxHeartbeats 2000000 in
set_option maxRecDepth 100000 in
theorem blank_any (c : UInt8) (w : World) :
    Calls Tryd.prog 35 #[.int .u8 (c.toNat : Int)] w fun e w' => e = .returned (.bool (isBl c)) ∧ w = w' := by
  have HV := Lib.hid (show isBl c = decide (c.toNat ≤ 32 ∨ c.toNat = 127) from rfl)
  generalize isBl c = v at *
  have hlt : c.toNat < 256 := c.toNat_lt
  generalize c.toNat = x at *
  have hc : x ≤ 32 ∨ (33 ≤ x ∧ x ≤ 126) ∨ (127 ≤ x ∧ x ≤ 127) ∨ 128 ≤ x := by omega
  rcases hc with hc | hc | hc | hc
  · have b0 : decide ((x : Int) ≤ (32 : Int)) = true := decide_eq_true (by omega)
    have b0n : decide (x ≤ 32) = true := decide_eq_true (by omega)
    have b1 : ((x : Int) == (127 : Int)) = false := by rw [beq_eq_false_iff_ne]; omega
    have b1n : (x == 127) = false := by rw [beq_eq_false_iff_ne]; omega
    have HT := Lib.hid (show v = true by rw [HV.out]; exact decide_eq_true (by omega))
    clear HV hc
    go_enter Tryd.func35, Tryd.ntmps35
    go_wp2_with fail
    go_ret
    exact ⟨ret_bool (by rw [HT.out]), rfl⟩
  · have b0 : decide ((x : Int) ≤ (32 : Int)) = false := decide_eq_false (by omega)
    have b0n : decide (x ≤ 32) = false := decide_eq_false (by omega)
    have b1 : ((x : Int) == (127 : Int)) = false := by rw [beq_eq_false_iff_ne]; omega
    have b1n : (x == 127) = false := by rw [beq_eq_false_iff_ne]; omega
    have HT := Lib.hid (show v = false by rw [HV.out]; exact decide_eq_false (by omega))
    clear HV hc
    go_enter Tryd.func35, Tryd.ntmps35
    go_wp2_with fail
    go_ret
    exact ⟨ret_bool (by rw [HT.out]), rfl⟩
  · have b0 : decide ((x : Int) ≤ (32 : Int)) = false := decide_eq_false (by omega)
    have b0n : decide (x ≤ 32) = false := decide_eq_false (by omega)
    have b1 : ((x : Int) == (127 : Int)) = true := by rw [beq_iff_eq]; omega
    have b1n : (x == 127) = true := by rw [beq_iff_eq]; omega
    have HT := Lib.hid (show v = true by rw [HV.out]; exact decide_eq_true (by omega))
    clear HV hc
    go_enter Tryd.func35, Tryd.ntmps35
    go_wp2_with fail
    go_ret
    exact ⟨ret_bool (by rw [HT.out]), rfl⟩
  · have b0 : decide ((x : Int) ≤ (32 : Int)) = false := decide_eq_false (by omega)
    have b0n : decide (x ≤ 32) = false := decide_eq_false (by omega)
    have b1 : ((x : Int) == (127 : Int)) = false := by rw [beq_eq_false_iff_ne]; omega
    have b1n : (x == 127) = false := by rw [beq_eq_false_iff_ne]; omega
    have HT := Lib.hid (show v = false by rw [HV.out]; exact decide_eq_false (by omega))
    clear HV hc
    go_enter Tryd.func35, Tryd.ntmps35
    go_wp2_with fail
    go_ret
    exact ⟨ret_bool (by rw [HT.out]), rfl⟩
/-- The first byte. -/
def hd1 (s : List UInt8) : UInt8 := s.headD 0
/-- A word, or what stands for it. -/
def cls (a b : Bool) (s : List UInt8) : List UInt8 := if (isDg (hd1 s) && b) = true then [36, 48] else if (isLt (hd1 s) && !isDg (hd1 s) && a) = true then [36, 110] else s
theorem cls_num (a : Bool) {s : List UInt8} (h : isDg (hd1 s) = true) : cls a true s = [36, 48] := if_pos (by rw [h]; rfl)
theorem cls_name (b : Bool) {s : List UInt8} (h : isDg (hd1 s) = false) (hl : isLt (hd1 s) = true) : cls true b s = [36, 110] := by
  unfold cls; rw [h, hl]; rfl
theorem cls_num0 (a : Bool) {s : List UInt8} (h : isDg (hd1 s) = true) : cls a false s = s := by unfold cls; rw [h]; simp
theorem cls_no (a b : Bool) {s : List UInt8} (h : isDg (hd1 s) = false) (hl : isLt (hd1 s) = false) : cls a b s = s := by unfold cls; rw [h, hl]; simp
theorem cls_name0 (b : Bool) {s : List UInt8} (h : isDg (hd1 s) = false) : cls false b s = s := by unfold cls; rw [h]; simp
theorem dg_lt {c : UInt8} (h : isDg c = true) : isLt c = true := by
  unfold isDg at h; unfold isLt
  rw [decide_eq_true_eq] at h ⊢; omega
theorem lead_pos (s : List UInt8) (h : s ≠ []) : decide ((0 : Int) < (lead s : Int)) = isLt (hd1 s) := by
  cases s with
  | nil => exact absurd rfl h
  | cons c r =>
    unfold lead hd1
    rw [List.takeWhile_cons, List.headD_cons]
    cases isLt c
    · rfl
    · exact decide_eq_true (by rw [if_pos rfl, List.length_cons]; omega)
theorem head_at (s : ByteArray) (h : 0 < s.size) : hd1 s.data.toList = s[0] := by
  have e := List.drop_eq_getElem_cons (show 0 < s.data.toList.length from h)
  rw [List.drop_zero] at e
  unfold hd1
  rw [e]; rfl
end Nm
end Go.Proofs.YtkmldaelgbkfbaaDoor
