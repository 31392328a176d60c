/- leading and class of the program; blank, digit, letter and class of the reference. No condition. -/
import Derived.Test.YtenaohnginikhaaDoorNvl
import Derived.Shelf.GgClosure.StringsIndexFuncTop
namespace Go.Proofs.YtenaohnginikhaaDoor
open Go.RowKit Go.Deep Tr
namespace Nm
set_option maxHeartbeats 2000000 in
set_option maxRecDepth 100000 in
theorem lead1_any (x : Nat) (w : World) :
    Calls Tryd.prog 69 #[.int .i32 (x : Int)] w fun e w' => e = .returned (.bool (ltR x)) ∧ w = w' := by
  have HV := Lib.hid (show ltR x = !decide ((97 ≤ x ∧ x ≤ 122) ∨ (65 ≤ x ∧ x ≤ 90) ∨ (48 ≤ x ∧ x ≤ 57) ∨ x = 95) from rfl)
  generalize ltR x = v at *
  have hc : x ≤ 47 ∨ (48 ≤ x ∧ x ≤ 57) ∨ (58 ≤ x ∧ x ≤ 64) ∨ (65 ≤ x ∧ x ≤ 90) ∨ (91 ≤ x ∧ x ≤ 94) ∨ (95 ≤ x ∧ x ≤ 95) ∨ (96 ≤ x ∧ x ≤ 96) ∨ (97 ≤ x ∧ x ≤ 122) ∨ 123 ≤ x := by omega
  rcases hc with hc | hc | hc | hc | hc | hc | hc | hc | hc
  · have b0 : ((x : Int) != (95 : Int)) = true := by rw [bne_iff_ne]; omega
    have b0n : (x != 95) = true := by rw [bne_iff_ne]; omega
    have b1 : decide ((x : Int) < (48 : Int)) = true := decide_eq_true (by omega)
    have b1n : decide (x < 48) = true := decide_eq_true (by omega)
    have b2 : decide ((57 : Int) < (x : Int)) = false := decide_eq_false (by omega)
    have b2n : decide (57 < x) = false := decide_eq_false (by omega)
    have b3 : decide ((x : Int) < (97 : Int)) = true := decide_eq_true (by omega)
    have b3n : decide (x < 97) = true := decide_eq_true (by omega)
    have b4 : decide ((122 : Int) < (x : Int)) = false := decide_eq_false (by omega)
    have b4n : decide (122 < x) = false := decide_eq_false (by omega)
    have b5 : decide ((x : Int) < (65 : Int)) = true := decide_eq_true (by omega)
    have b5n : decide (x < 65) = true := decide_eq_true (by omega)
    have b6 : decide ((90 : Int) < (x : Int)) = false := decide_eq_false (by omega)
    have b6n : decide (90 < x) = false := decide_eq_false (by omega)
    have HT := Lib.hid (show v = true by rw [HV.out]; exact by rw [decide_eq_false (by omega)]; rfl)
    clear HV hc
    go_enter Tryd.func69, Tryd.ntmps69
    go_wp2_with fail
    go_ret
    exact ⟨ret_bool (by rw [HT.out]), rfl⟩
  · have b0 : ((x : Int) != (95 : Int)) = true := by rw [bne_iff_ne]; omega
    have b0n : (x != 95) = true := by rw [bne_iff_ne]; omega
    have b1 : decide ((x : Int) < (48 : Int)) = false := decide_eq_false (by omega)
    have b1n : decide (x < 48) = false := decide_eq_false (by omega)
    have b2 : decide ((57 : Int) < (x : Int)) = false := decide_eq_false (by omega)
    have b2n : decide (57 < x) = false := decide_eq_false (by omega)
    have b3 : decide ((x : Int) < (97 : Int)) = true := decide_eq_true (by omega)
    have b3n : decide (x < 97) = true := decide_eq_true (by omega)
    have b4 : decide ((122 : Int) < (x : Int)) = false := decide_eq_false (by omega)
    have b4n : decide (122 < x) = false := decide_eq_false (by omega)
    have b5 : decide ((x : Int) < (65 : Int)) = true := decide_eq_true (by omega)
    have b5n : decide (x < 65) = true := decide_eq_true (by omega)
    have b6 : decide ((90 : Int) < (x : Int)) = false := decide_eq_false (by omega)
    have b6n : decide (90 < x) = false := decide_eq_false (by omega)
    have HT := Lib.hid (show v = false by rw [HV.out]; exact by rw [decide_eq_true (by omega)]; rfl)
    clear HV hc
    go_enter Tryd.func69, Tryd.ntmps69
    go_wp2_with fail
    go_ret
    exact ⟨ret_bool (by rw [HT.out]), rfl⟩
  · have b0 : ((x : Int) != (95 : Int)) = true := by rw [bne_iff_ne]; omega
    have b0n : (x != 95) = true := by rw [bne_iff_ne]; omega
    have b1 : decide ((x : Int) < (48 : Int)) = false := decide_eq_false (by omega)
    have b1n : decide (x < 48) = false := decide_eq_false (by omega)
    have b2 : decide ((57 : Int) < (x : Int)) = true := decide_eq_true (by omega)
    have b2n : decide (57 < x) = true := decide_eq_true (by omega)
    have b3 : decide ((x : Int) < (97 : Int)) = true := decide_eq_true (by omega)
    have b3n : decide (x < 97) = true := decide_eq_true (by omega)
    have b4 : decide ((122 : Int) < (x : Int)) = false := decide_eq_false (by omega)
    have b4n : decide (122 < x) = false := decide_eq_false (by omega)
    have b5 : decide ((x : Int) < (65 : Int)) = true := decide_eq_true (by omega)
    have b5n : decide (x < 65) = true := decide_eq_true (by omega)
    have b6 : decide ((90 : Int) < (x : Int)) = false := decide_eq_false (by omega)
    have b6n : decide (90 < x) = false := decide_eq_false (by omega)
    have HT := Lib.hid (show v = true by rw [HV.out]; exact by rw [decide_eq_false (by omega)]; rfl)
    clear HV hc
    go_enter Tryd.func69, Tryd.ntmps69
    go_wp2_with fail
    go_ret
    exact ⟨ret_bool (by rw [HT.out]), rfl⟩
  · have b0 : ((x : Int) != (95 : Int)) = true := by rw [bne_iff_ne]; omega
    have b0n : (x != 95) = true := by rw [bne_iff_ne]; omega
    have b1 : decide ((x : Int) < (48 : Int)) = false := decide_eq_false (by omega)
    have b1n : decide (x < 48) = false := decide_eq_false (by omega)
    have b2 : decide ((57 : Int) < (x : Int)) = true := decide_eq_true (by omega)
    have b2n : decide (57 < x) = true := decide_eq_true (by omega)
    have b3 : decide ((x : Int) < (97 : Int)) = true := decide_eq_true (by omega)
    have b3n : decide (x < 97) = true := decide_eq_true (by omega)
    have b4 : decide ((122 : Int) < (x : Int)) = false := decide_eq_false (by omega)
    have b4n : decide (122 < x) = false := decide_eq_false (by omega)
    have b5 : decide ((x : Int) < (65 : Int)) = false := decide_eq_false (by omega)
    have b5n : decide (x < 65) = false := decide_eq_false (by omega)
    have b6 : decide ((90 : Int) < (x : Int)) = false := decide_eq_false (by omega)
    have b6n : decide (90 < x) = false := decide_eq_false (by omega)
    have HT := Lib.hid (show v = false by rw [HV.out]; exact by rw [decide_eq_true (by omega)]; rfl)
    clear HV hc
    go_enter Tryd.func69, Tryd.ntmps69
    go_wp2_with fail
    go_ret
    exact ⟨ret_bool (by rw [HT.out]), rfl⟩
  · have b0 : ((x : Int) != (95 : Int)) = true := by rw [bne_iff_ne]; omega
    have b0n : (x != 95) = true := by rw [bne_iff_ne]; omega
    have b1 : decide ((x : Int) < (48 : Int)) = false := decide_eq_false (by omega)
    have b1n : decide (x < 48) = false := decide_eq_false (by omega)
    have b2 : decide ((57 : Int) < (x : Int)) = true := decide_eq_true (by omega)
    have b2n : decide (57 < x) = true := decide_eq_true (by omega)
    have b3 : decide ((x : Int) < (97 : Int)) = true := decide_eq_true (by omega)
    have b3n : decide (x < 97) = true := decide_eq_true (by omega)
    have b4 : decide ((122 : Int) < (x : Int)) = false := decide_eq_false (by omega)
    have b4n : decide (122 < x) = false := decide_eq_false (by omega)
    have b5 : decide ((x : Int) < (65 : Int)) = false := decide_eq_false (by omega)
    have b5n : decide (x < 65) = false := decide_eq_false (by omega)
    have b6 : decide ((90 : Int) < (x : Int)) = true := decide_eq_true (by omega)
    have b6n : decide (90 < x) = true := decide_eq_true (by omega)
    have HT := Lib.hid (show v = true by rw [HV.out]; exact by rw [decide_eq_false (by omega)]; rfl)
    clear HV hc
    go_enter Tryd.func69, Tryd.ntmps69
    go_wp2_with fail
    go_ret
    exact ⟨ret_bool (by rw [HT.out]), rfl⟩
  · have b0 : ((x : Int) != (95 : Int)) = false := by rw [bne_eq_false_iff_eq]; omega
    have b0n : (x != 95) = false := by rw [bne_eq_false_iff_eq]; omega
    have b1 : decide ((x : Int) < (48 : Int)) = false := decide_eq_false (by omega)
    have b1n : decide (x < 48) = false := decide_eq_false (by omega)
    have b2 : decide ((57 : Int) < (x : Int)) = true := decide_eq_true (by omega)
    have b2n : decide (57 < x) = true := decide_eq_true (by omega)
    have b3 : decide ((x : Int) < (97 : Int)) = true := decide_eq_true (by omega)
    have b3n : decide (x < 97) = true := decide_eq_true (by omega)
    have b4 : decide ((122 : Int) < (x : Int)) = false := decide_eq_false (by omega)
    have b4n : decide (122 < x) = false := decide_eq_false (by omega)
    have b5 : decide ((x : Int) < (65 : Int)) = false := decide_eq_false (by omega)
    have b5n : decide (x < 65) = false := decide_eq_false (by omega)
    have b6 : decide ((90 : Int) < (x : Int)) = true := decide_eq_true (by omega)
    have b6n : decide (90 < x) = true := decide_eq_true (by omega)
    have HT := Lib.hid (show v = false by rw [HV.out]; exact by rw [decide_eq_true (by omega)]; rfl)
    clear HV hc
    go_enter Tryd.func69, Tryd.ntmps69
    go_wp2_with fail
    go_ret
    exact ⟨ret_bool (by rw [HT.out]), rfl⟩
  · have b0 : ((x : Int) != (95 : Int)) = true := by rw [bne_iff_ne]; omega
    have b0n : (x != 95) = true := by rw [bne_iff_ne]; omega
    have b1 : decide ((x : Int) < (48 : Int)) = false := decide_eq_false (by omega)
    have b1n : decide (x < 48) = false := decide_eq_false (by omega)
    have b2 : decide ((57 : Int) < (x : Int)) = true := decide_eq_true (by omega)
    have b2n : decide (57 < x) = true := decide_eq_true (by omega)
    have b3 : decide ((x : Int) < (97 : Int)) = true := decide_eq_true (by omega)
    have b3n : decide (x < 97) = true := decide_eq_true (by omega)
    have b4 : decide ((122 : Int) < (x : Int)) = false := decide_eq_false (by omega)
    have b4n : decide (122 < x) = false := decide_eq_false (by omega)
    have b5 : decide ((x : Int) < (65 : Int)) = false := decide_eq_false (by omega)
    have b5n : decide (x < 65) = false := decide_eq_false (by omega)
    have b6 : decide ((90 : Int) < (x : Int)) = true := decide_eq_true (by omega)
    have b6n : decide (90 < x) = true := decide_eq_true (by omega)
    have HT := Lib.hid (show v = true by rw [HV.out]; exact by rw [decide_eq_false (by omega)]; rfl)
    clear HV hc
    go_enter Tryd.func69, Tryd.ntmps69
    go_wp2_with fail
    go_ret
    exact ⟨ret_bool (by rw [HT.out]), rfl⟩
  · have b0 : ((x : Int) != (95 : Int)) = true := by rw [bne_iff_ne]; omega
    have b0n : (x != 95) = true := by rw [bne_iff_ne]; omega
    have b1 : decide ((x : Int) < (48 : Int)) = false := decide_eq_false (by omega)
    have b1n : decide (x < 48) = false := decide_eq_false (by omega)
    have b2 : decide ((57 : Int) < (x : Int)) = true := decide_eq_true (by omega)
    have b2n : decide (57 < x) = true := decide_eq_true (by omega)
    have b3 : decide ((x : Int) < (97 : Int)) = false := decide_eq_false (by omega)
    have b3n : decide (x < 97) = false := decide_eq_false (by omega)
    have b4 : decide ((122 : Int) < (x : Int)) = false := decide_eq_false (by omega)
    have b4n : decide (122 < x) = false := decide_eq_false (by omega)
    have b5 : decide ((x : Int) < (65 : Int)) = false := decide_eq_false (by omega)
    have b5n : decide (x < 65) = false := decide_eq_false (by omega)
    have b6 : decide ((90 : Int) < (x : Int)) = true := decide_eq_true (by omega)
    have b6n : decide (90 < x) = true := decide_eq_true (by omega)
    have HT := Lib.hid (show v = false by rw [HV.out]; exact by rw [decide_eq_true (by omega)]; rfl)
    clear HV hc
    go_enter Tryd.func69, Tryd.ntmps69
    go_wp2_with fail
    go_ret
    exact ⟨ret_bool (by rw [HT.out]), rfl⟩
  · have b0 : ((x : Int) != (95 : Int)) = true := by rw [bne_iff_ne]; omega
    have b0n : (x != 95) = true := by rw [bne_iff_ne]; omega
    have b1 : decide ((x : Int) < (48 : Int)) = false := decide_eq_false (by omega)
    have b1n : decide (x < 48) = false := decide_eq_false (by omega)
    have b2 : decide ((57 : Int) < (x : Int)) = true := decide_eq_true (by omega)
    have b2n : decide (57 < x) = true := decide_eq_true (by omega)
    have b3 : decide ((x : Int) < (97 : Int)) = false := decide_eq_false (by omega)
    have b3n : decide (x < 97) = false := decide_eq_false (by omega)
    have b4 : decide ((122 : Int) < (x : Int)) = true := decide_eq_true (by omega)
    have b4n : decide (122 < x) = true := decide_eq_true (by omega)
    have b5 : decide ((x : Int) < (65 : Int)) = false := decide_eq_false (by omega)
    have b5n : decide (x < 65) = false := decide_eq_false (by omega)
    have b6 : decide ((90 : Int) < (x : Int)) = true := decide_eq_true (by omega)
    have b6n : decide (90 < x) = true := decide_eq_true (by omega)
    have HT := Lib.hid (show v = true by rw [HV.out]; exact by rw [decide_eq_false (by omega)]; rfl)
    clear HV hc
    go_enter Tryd.func69, Tryd.ntmps69
    go_wp2_with fail
    go_ret
    exact ⟨ret_bool (by rw [HT.out]), rfl⟩
set_option maxHeartbeats 2000000 in
set_option maxRecDepth 100000 in
theorem blank_any (c : UInt8) (w : World) :
    Calls Tryd.prog 55 #[.int .u8 (c.toNat : Int)] w fun e w' => e = .returned (.bool (isBl c)) ∧ w = w' := by
  have HV := Lib.hid (show isBl c = decide (c.toNat ≤ 32 ∨ c.toNat = 127) from rfl)
  generalize isBl c = v at *
  have hlt : c.toNat < 256 := c.toNat_lt
  generalize c.toNat = x at *
  have hc : x ≤ 32 ∨ (33 ≤ x ∧ x ≤ 126) ∨ (127 ≤ x ∧ x ≤ 127) ∨ 128 ≤ x := by omega
  rcases hc with hc | hc | hc | hc
  · have b0 : decide ((x : Int) ≤ (32 : Int)) = true := decide_eq_true (by omega)
    have b0n : decide (x ≤ 32) = true := decide_eq_true (by omega)
    have b1 : ((x : Int) == (127 : Int)) = false := by rw [beq_eq_false_iff_ne]; omega
    have b1n : (x == 127) = false := by rw [beq_eq_false_iff_ne]; omega
    have HT := Lib.hid (show v = true by rw [HV.out]; exact decide_eq_true (by omega))
    clear HV hc
    go_enter Tryd.func55, Tryd.ntmps55
    go_wp2_with fail
    go_ret
    exact ⟨ret_bool (by rw [HT.out]), rfl⟩
  · have b0 : decide ((x : Int) ≤ (32 : Int)) = false := decide_eq_false (by omega)
    have b0n : decide (x ≤ 32) = false := decide_eq_false (by omega)
    have b1 : ((x : Int) == (127 : Int)) = false := by rw [beq_eq_false_iff_ne]; omega
    have b1n : (x == 127) = false := by rw [beq_eq_false_iff_ne]; omega
    have HT := Lib.hid (show v = false by rw [HV.out]; exact decide_eq_false (by omega))
    clear HV hc
    go_enter Tryd.func55, Tryd.ntmps55
    go_wp2_with fail
    go_ret
    exact ⟨ret_bool (by rw [HT.out]), rfl⟩
  · have b0 : decide ((x : Int) ≤ (32 : Int)) = false := decide_eq_false (by omega)
    have b0n : decide (x ≤ 32) = false := decide_eq_false (by omega)
    have b1 : ((x : Int) == (127 : Int)) = true := by rw [beq_iff_eq]; omega
    have b1n : (x == 127) = true := by rw [beq_iff_eq]; omega
    have HT := Lib.hid (show v = true by rw [HV.out]; exact decide_eq_true (by omega))
    clear HV hc
    go_enter Tryd.func55, Tryd.ntmps55
    go_wp2_with fail
    go_ret
    exact ⟨ret_bool (by rw [HT.out]), rfl⟩
  · have b0 : decide ((x : Int) ≤ (32 : Int)) = false := decide_eq_false (by omega)
    have b0n : decide (x ≤ 32) = false := decide_eq_false (by omega)
    have b1 : ((x : Int) == (127 : Int)) = false := by rw [beq_eq_false_iff_ne]; omega
    have b1n : (x == 127) = false := by rw [beq_eq_false_iff_ne]; omega
    have HT := Lib.hid (show v = false by rw [HV.out]; exact decide_eq_false (by omega))
    clear HV hc
    go_enter Tryd.func55, Tryd.ntmps55
    go_wp2_with fail
    go_ret
    exact ⟨ret_bool (by rw [HT.out]), rfl⟩
set_option maxHeartbeats 2000000 in
set_option maxRecDepth 100000 in
theorem digit_any (c : UInt8) (w : World) :
    Calls Tryd.prog 58 #[.int .u8 (c.toNat : Int)] w fun e w' => e = .returned (.bool (isDg c)) ∧ w = w' := by
  have HV := Lib.hid (show isDg c = decide (48 ≤ c.toNat ∧ c.toNat ≤ 57) from rfl)
  generalize isDg c = v at *
  have hlt : c.toNat < 256 := c.toNat_lt
  generalize c.toNat = x at *
  have hc : x ≤ 47 ∨ (48 ≤ x ∧ x ≤ 57) ∨ 58 ≤ x := by omega
  rcases hc with hc | hc | hc
  · have b0 : decide ((48 : Int) ≤ (x : Int)) = false := decide_eq_false (by omega)
    have b0n : decide (48 ≤ x) = false := decide_eq_false (by omega)
    have b1 : decide ((x : Int) ≤ (57 : Int)) = true := decide_eq_true (by omega)
    have b1n : decide (x ≤ 57) = true := decide_eq_true (by omega)
    have HT := Lib.hid (show v = false by rw [HV.out]; exact decide_eq_false (by omega))
    clear HV hc
    go_enter Tryd.func58, Tryd.ntmps58
    go_wp2_with fail
    go_ret
    exact ⟨ret_bool (by rw [HT.out]), rfl⟩
  · have b0 : decide ((48 : Int) ≤ (x : Int)) = true := decide_eq_true (by omega)
    have b0n : decide (48 ≤ x) = true := decide_eq_true (by omega)
    have b1 : decide ((x : Int) ≤ (57 : Int)) = true := decide_eq_true (by omega)
    have b1n : decide (x ≤ 57) = true := decide_eq_true (by omega)
    have HT := Lib.hid (show v = true by rw [HV.out]; exact decide_eq_true (by omega))
    clear HV hc
    go_enter Tryd.func58, Tryd.ntmps58
    go_wp2_with fail
    go_ret
    exact ⟨ret_bool (by rw [HT.out]), rfl⟩
  · have b0 : decide ((48 : Int) ≤ (x : Int)) = true := decide_eq_true (by omega)
    have b0n : decide (48 ≤ x) = true := decide_eq_true (by omega)
    have b1 : decide ((x : Int) ≤ (57 : Int)) = false := decide_eq_false (by omega)
    have b1n : decide (x ≤ 57) = false := decide_eq_false (by omega)
    have HT := Lib.hid (show v = false by rw [HV.out]; exact decide_eq_false (by omega))
    clear HV hc
    go_enter Tryd.func58, Tryd.ntmps58
    go_wp2_with fail
    go_ret
    exact ⟨ret_bool (by rw [HT.out]), rfl⟩
set_option maxHeartbeats 2000000 in
set_option maxRecDepth 100000 in
theorem letter_any (c : UInt8) (w : World) :
    Calls Tryd.prog 56 #[.int .u8 (c.toNat : Int)] w fun e w' => e = .returned (.bool (isLt c)) ∧ w = w' := by
  have HV := Lib.hid (show isLt c = decide ((97 ≤ c.toNat ∧ c.toNat ≤ 122) ∨ (65 ≤ c.toNat ∧ c.toNat ≤ 90) ∨ (48 ≤ c.toNat ∧ c.toNat ≤ 57) ∨ c.toNat = 95) from rfl)
  generalize isLt c = v at *
  have cd := digit_any c w
  unfold isDg at cd
  have hlt : c.toNat < 256 := c.toNat_lt
  generalize c.toNat = x at *
  have hc : x ≤ 47 ∨ (48 ≤ x ∧ x ≤ 57) ∨ (58 ≤ x ∧ x ≤ 64) ∨ (65 ≤ x ∧ x ≤ 90) ∨ (91 ≤ x ∧ x ≤ 94) ∨ (95 ≤ x ∧ x ≤ 95) ∨ (96 ≤ x ∧ x ≤ 96) ∨ (97 ≤ x ∧ x ≤ 122) ∨ 123 ≤ x := by omega
  rcases hc with hc | hc | hc | hc | hc | hc | hc | hc | hc
  · rw [show decide (48 ≤ x ∧ x ≤ 57) = false from decide_eq_false (by omega)] at cd
    have b0 : decide ((97 : Int) ≤ (x : Int)) = false := decide_eq_false (by omega)
    have b0n : decide (97 ≤ x) = false := decide_eq_false (by omega)
    have b1 : decide ((x : Int) ≤ (122 : Int)) = true := decide_eq_true (by omega)
    have b1n : decide (x ≤ 122) = true := decide_eq_true (by omega)
    have b2 : decide ((65 : Int) ≤ (x : Int)) = false := decide_eq_false (by omega)
    have b2n : decide (65 ≤ x) = false := decide_eq_false (by omega)
    have b3 : decide ((x : Int) ≤ (90 : Int)) = true := decide_eq_true (by omega)
    have b3n : decide (x ≤ 90) = true := decide_eq_true (by omega)
    have b4 : ((x : Int) == (95 : Int)) = false := by rw [beq_eq_false_iff_ne]; omega
    have b4n : (x == 95) = false := by rw [beq_eq_false_iff_ne]; omega
    have HT := Lib.hid (show v = false by rw [HV.out]; exact decide_eq_false (by omega))
    clear HV hc
    go_enter Tryd.func56, Tryd.ntmps56
    go_wp2_with (go_at_call 58; (with_reducible refine cd.mono ?_); rintro e w1 ⟨rfl, rfl⟩)
    go_ret
    exact ⟨ret_bool (by rw [HT.out]), rfl⟩
  · rw [show decide (48 ≤ x ∧ x ≤ 57) = true from decide_eq_true (by omega)] at cd
    have b0 : decide ((97 : Int) ≤ (x : Int)) = false := decide_eq_false (by omega)
    have b0n : decide (97 ≤ x) = false := decide_eq_false (by omega)
    have b1 : decide ((x : Int) ≤ (122 : Int)) = true := decide_eq_true (by omega)
    have b1n : decide (x ≤ 122) = true := decide_eq_true (by omega)
    have b2 : decide ((65 : Int) ≤ (x : Int)) = false := decide_eq_false (by omega)
    have b2n : decide (65 ≤ x) = false := decide_eq_false (by omega)
    have b3 : decide ((x : Int) ≤ (90 : Int)) = true := decide_eq_true (by omega)
    have b3n : decide (x ≤ 90) = true := decide_eq_true (by omega)
    have b4 : ((x : Int) == (95 : Int)) = false := by rw [beq_eq_false_iff_ne]; omega
    have b4n : (x == 95) = false := by rw [beq_eq_false_iff_ne]; omega
    have HT := Lib.hid (show v = true by rw [HV.out]; exact decide_eq_true (by omega))
    clear HV hc
    go_enter Tryd.func56, Tryd.ntmps56
    go_wp2_with (go_at_call 58; (with_reducible refine cd.mono ?_); rintro e w1 ⟨rfl, rfl⟩)
    go_ret
    exact ⟨ret_bool (by rw [HT.out]), rfl⟩
  · rw [show decide (48 ≤ x ∧ x ≤ 57) = false from decide_eq_false (by omega)] at cd
    have b0 : decide ((97 : Int) ≤ (x : Int)) = false := decide_eq_false (by omega)
    have b0n : decide (97 ≤ x) = false := decide_eq_false (by omega)
    have b1 : decide ((x : Int) ≤ (122 : Int)) = true := decide_eq_true (by omega)
    have b1n : decide (x ≤ 122) = true := decide_eq_true (by omega)
    have b2 : decide ((65 : Int) ≤ (x : Int)) = false := decide_eq_false (by omega)
    have b2n : decide (65 ≤ x) = false := decide_eq_false (by omega)
    have b3 : decide ((x : Int) ≤ (90 : Int)) = true := decide_eq_true (by omega)
    have b3n : decide (x ≤ 90) = true := decide_eq_true (by omega)
    have b4 : ((x : Int) == (95 : Int)) = false := by rw [beq_eq_false_iff_ne]; omega
    have b4n : (x == 95) = false := by rw [beq_eq_false_iff_ne]; omega
    have HT := Lib.hid (show v = false by rw [HV.out]; exact decide_eq_false (by omega))
    clear HV hc
    go_enter Tryd.func56, Tryd.ntmps56
    go_wp2_with (go_at_call 58; (with_reducible refine cd.mono ?_); rintro e w1 ⟨rfl, rfl⟩)
    go_ret
    exact ⟨ret_bool (by rw [HT.out]), rfl⟩
  · rw [show decide (48 ≤ x ∧ x ≤ 57) = false from decide_eq_false (by omega)] at cd
    have b0 : decide ((97 : Int) ≤ (x : Int)) = false := decide_eq_false (by omega)
    have b0n : decide (97 ≤ x) = false := decide_eq_false (by omega)
    have b1 : decide ((x : Int) ≤ (122 : Int)) = true := decide_eq_true (by omega)
    have b1n : decide (x ≤ 122) = true := decide_eq_true (by omega)
    have b2 : decide ((65 : Int) ≤ (x : Int)) = true := decide_eq_true (by omega)
    have b2n : decide (65 ≤ x) = true := decide_eq_true (by omega)
    have b3 : decide ((x : Int) ≤ (90 : Int)) = true := decide_eq_true (by omega)
    have b3n : decide (x ≤ 90) = true := decide_eq_true (by omega)
    have b4 : ((x : Int) == (95 : Int)) = false := by rw [beq_eq_false_iff_ne]; omega
    have b4n : (x == 95) = false := by rw [beq_eq_false_iff_ne]; omega
    have HT := Lib.hid (show v = true by rw [HV.out]; exact decide_eq_true (by omega))
    clear HV hc
    go_enter Tryd.func56, Tryd.ntmps56
    go_wp2_with (go_at_call 58; (with_reducible refine cd.mono ?_); rintro e w1 ⟨rfl, rfl⟩)
    go_ret
    exact ⟨ret_bool (by rw [HT.out]), rfl⟩
  · rw [show decide (48 ≤ x ∧ x ≤ 57) = false from decide_eq_false (by omega)] at cd
    have b0 : decide ((97 : Int) ≤ (x : Int)) = false := decide_eq_false (by omega)
    have b0n : decide (97 ≤ x) = false := decide_eq_false (by omega)
    have b1 : decide ((x : Int) ≤ (122 : Int)) = true := decide_eq_true (by omega)
    have b1n : decide (x ≤ 122) = true := decide_eq_true (by omega)
    have b2 : decide ((65 : Int) ≤ (x : Int)) = true := decide_eq_true (by omega)
    have b2n : decide (65 ≤ x) = true := decide_eq_true (by omega)
    have b3 : decide ((x : Int) ≤ (90 : Int)) = false := decide_eq_false (by omega)
    have b3n : decide (x ≤ 90) = false := decide_eq_false (by omega)
    have b4 : ((x : Int) == (95 : Int)) = false := by rw [beq_eq_false_iff_ne]; omega
    have b4n : (x == 95) = false := by rw [beq_eq_false_iff_ne]; omega
    have HT := Lib.hid (show v = false by rw [HV.out]; exact decide_eq_false (by omega))
    clear HV hc
    go_enter Tryd.func56, Tryd.ntmps56
    go_wp2_with (go_at_call 58; (with_reducible refine cd.mono ?_); rintro e w1 ⟨rfl, rfl⟩)
    go_ret
    exact ⟨ret_bool (by rw [HT.out]), rfl⟩
  · rw [show decide (48 ≤ x ∧ x ≤ 57) = false from decide_eq_false (by omega)] at cd
    have b0 : decide ((97 : Int) ≤ (x : Int)) = false := decide_eq_false (by omega)
    have b0n : decide (97 ≤ x) = false := decide_eq_false (by omega)
    have b1 : decide ((x : Int) ≤ (122 : Int)) = true := decide_eq_true (by omega)
    have b1n : decide (x ≤ 122) = true := decide_eq_true (by omega)
    have b2 : decide ((65 : Int) ≤ (x : Int)) = true := decide_eq_true (by omega)
    have b2n : decide (65 ≤ x) = true := decide_eq_true (by omega)
    have b3 : decide ((x : Int) ≤ (90 : Int)) = false := decide_eq_false (by omega)
    have b3n : decide (x ≤ 90) = false := decide_eq_false (by omega)
    have b4 : ((x : Int) == (95 : Int)) = true := by rw [beq_iff_eq]; omega
    have b4n : (x == 95) = true := by rw [beq_iff_eq]; omega
    have HT := Lib.hid (show v = true by rw [HV.out]; exact decide_eq_true (by omega))
    clear HV hc
    go_enter Tryd.func56, Tryd.ntmps56
    go_wp2_with (go_at_call 58; (with_reducible refine cd.mono ?_); rintro e w1 ⟨rfl, rfl⟩)
    go_ret
    exact ⟨ret_bool (by rw [HT.out]), rfl⟩
  · rw [show decide (48 ≤ x ∧ x ≤ 57) = false from decide_eq_false (by omega)] at cd
    have b0 : decide ((97 : Int) ≤ (x : Int)) = false := decide_eq_false (by omega)
    have b0n : decide (97 ≤ x) = false := decide_eq_false (by omega)
    have b1 : decide ((x : Int) ≤ (122 : Int)) = true := decide_eq_true (by omega)
    have b1n : decide (x ≤ 122) = true := decide_eq_true (by omega)
    have b2 : decide ((65 : Int) ≤ (x : Int)) = true := decide_eq_true (by omega)
    have b2n : decide (65 ≤ x) = true := decide_eq_true (by omega)
    have b3 : decide ((x : Int) ≤ (90 : Int)) = false := decide_eq_false (by omega)
    have b3n : decide (x ≤ 90) = false := decide_eq_false (by omega)
    have b4 : ((x : Int) == (95 : Int)) = false := by rw [beq_eq_false_iff_ne]; omega
    have b4n : (x == 95) = false := by rw [beq_eq_false_iff_ne]; omega
    have HT := Lib.hid (show v = false by rw [HV.out]; exact decide_eq_false (by omega))
    clear HV hc
    go_enter Tryd.func56, Tryd.ntmps56
    go_wp2_with (go_at_call 58; (with_reducible refine cd.mono ?_); rintro e w1 ⟨rfl, rfl⟩)
    go_ret
    exact ⟨ret_bool (by rw [HT.out]), rfl⟩
  · rw [show decide (48 ≤ x ∧ x ≤ 57) = false from decide_eq_false (by omega)] at cd
    have b0 : decide ((97 : Int) ≤ (x : Int)) = true := decide_eq_true (by omega)
    have b0n : decide (97 ≤ x) = true := decide_eq_true (by omega)
    have b1 : decide ((x : Int) ≤ (122 : Int)) = true := decide_eq_true (by omega)
    have b1n : decide (x ≤ 122) = true := decide_eq_true (by omega)
    have b2 : decide ((65 : Int) ≤ (x : Int)) = true := decide_eq_true (by omega)
    have b2n : decide (65 ≤ x) = true := decide_eq_true (by omega)
    have b3 : decide ((x : Int) ≤ (90 : Int)) = false := decide_eq_false (by omega)
    have b3n : decide (x ≤ 90) = false := decide_eq_false (by omega)
    have b4 : ((x : Int) == (95 : Int)) = false := by rw [beq_eq_false_iff_ne]; omega
    have b4n : (x == 95) = false := by rw [beq_eq_false_iff_ne]; omega
    have HT := Lib.hid (show v = true by rw [HV.out]; exact decide_eq_true (by omega))
    clear HV hc
    go_enter Tryd.func56, Tryd.ntmps56
    go_wp2_with (go_at_call 58; (with_reducible refine cd.mono ?_); rintro e w1 ⟨rfl, rfl⟩)
    go_ret
    exact ⟨ret_bool (by rw [HT.out]), rfl⟩
  · rw [show decide (48 ≤ x ∧ x ≤ 57) = false from decide_eq_false (by omega)] at cd
    have b0 : decide ((97 : Int) ≤ (x : Int)) = true := decide_eq_true (by omega)
    have b0n : decide (97 ≤ x) = true := decide_eq_true (by omega)
    have b1 : decide ((x : Int) ≤ (122 : Int)) = false := decide_eq_false (by omega)
    have b1n : decide (x ≤ 122) = false := decide_eq_false (by omega)
    have b2 : decide ((65 : Int) ≤ (x : Int)) = true := decide_eq_true (by omega)
    have b2n : decide (65 ≤ x) = true := decide_eq_true (by omega)
    have b3 : decide ((x : Int) ≤ (90 : Int)) = false := decide_eq_false (by omega)
    have b3n : decide (x ≤ 90) = false := decide_eq_false (by omega)
    have b4 : ((x : Int) == (95 : Int)) = false := by rw [beq_eq_false_iff_ne]; omega
    have b4n : (x == 95) = false := by rw [beq_eq_false_iff_ne]; omega
    have HT := Lib.hid (show v = false by rw [HV.out]; exact decide_eq_false (by omega))
    clear HV hc
    go_enter Tryd.func56, Tryd.ntmps56
    go_wp2_with (go_at_call 58; (with_reducible refine cd.mono ?_); rintro e w1 ⟨rfl, rfl⟩)
    go_ret
    exact ⟨ret_bool (by rw [HT.out]), rfl⟩
theorem lead1_pred (w : World) : PredAtRunes Tryd.prog 69 #[] ltR w := fun W x _ _ =>
  (lead1_any x W).mono fun e w' h => ⟨h.1, 0, by rw [← h.2]; rfl⟩
theorem leading_any (s : ByteArray) (w : World) :
    Calls Tryd.prog 51 #[.string s] w fun e w' => e = .returned (.int .i64 (lead s.data.toList : Int)) ∧ Below w.heap.size w w' := by
  have cc := Tryd.strings_IndexFunc_runes 69 #[] (enters_of Tryd.func69 (by kernel_rfl) rfl) ltR s w (lead1_pred w)
  rw [lead_idx] at cc
  have hle : lead s.data.toList ≤ s.size := (List.takeWhile_prefix (l := s.data.toList) isLt).length_le
  generalize lead s.data.toList = k at *
  by_cases hk : k = s.size
  · rw [if_pos hk] at cc
    have HT := Lib.hid hk
    clear hk hle
    go_enter Tryd.func51, Tryd.ntmps51
    go_wp2_with fail
    (with_reducible refine cc.mono ?_); rintro e w1 ⟨rfl, hb⟩
    have HB := Lib.hid hb
    clear hb cc
    go_wp2_with fail
    go_ret
    exact ⟨by rw [HT.out]; rfl, HB.out⟩
  · rw [if_neg hk] at cc
    have b1 : decide ((k : Int) < 0) = false := decide_eq_false (by omega)
    clear hk hle
    go_enter Tryd.func51, Tryd.ntmps51
    go_wp2_with fail
    (with_reducible refine cc.mono ?_); rintro e w1 ⟨rfl, hb⟩
    have HB := Lib.hid hb
    clear hb cc
    go_wp2_with fail
    go_ret
    exact ⟨rfl, HB.out⟩
/-- The first byte. -/
def hd1 (s : List UInt8) : UInt8 := s.headD 0
/-- A word, or what stands for it. -/
def cls (a b : Bool) (s : List UInt8) : List UInt8 := if (isDg (hd1 s) && b) = true then [36, 48] else if (isLt (hd1 s) && !isDg (hd1 s) && a) = true then [36, 110] else s
theorem cls_num (a : Bool) {s : List UInt8} (h : isDg (hd1 s) = true) : cls a true s = [36, 48] := if_pos (by rw [h]; rfl)
theorem cls_name (b : Bool) {s : List UInt8} (h : isDg (hd1 s) = false) (hl : isLt (hd1 s) = true) : cls true b s = [36, 110] := by
  unfold cls; rw [h, hl]; rfl
theorem cls_num0 (a : Bool) {s : List UInt8} (h : isDg (hd1 s) = true) : cls a false s = s := by unfold cls; rw [h]; simp
theorem cls_no (a b : Bool) {s : List UInt8} (h : isDg (hd1 s) = false) (hl : isLt (hd1 s) = false) : cls a b s = s := by unfold cls; rw [h, hl]; simp
theorem cls_name0 (b : Bool) {s : List UInt8} (h : isDg (hd1 s) = false) : cls false b s = s := by unfold cls; rw [h]; simp
theorem dg_lt {c : UInt8} (h : isDg c = true) : isLt c = true := by
  unfold isDg at h; unfold isLt
  rw [decide_eq_true_eq] at h ⊢; omega
theorem lead_pos (s : List UInt8) (h : s ≠ []) : decide ((0 : Int) < (lead s : Int)) = isLt (hd1 s) := by
  cases s with
  | nil => exact absurd rfl h
  | cons c r =>
    unfold lead hd1
    rw [List.takeWhile_cons, List.headD_cons]
    cases isLt c
    · rfl
    · exact decide_eq_true (by rw [if_pos rfl, List.length_cons]; omega)
theorem head_at (s : ByteArray) (h : 0 < s.size) : hd1 s.data.toList = s[0] := by
  have e := List.drop_eq_getElem_cons (show 0 < s.data.toList.length from h)
  rw [List.drop_zero] at e
  unfold hd1
  rw [e]; rfl
set_option maxHeartbeats 4000000 in
set_option maxRecDepth 100000 in
theorem class_any (s : ByteArray) (a b : Bool) (w : World) (h0 : 0 < s.size) :
    Calls Tryd.prog 30 #[.string s, .bool a, .bool b] w fun e w' => e = .returned (.string (str (cls a b s.data.toList))) ∧ Below w.heap.size w w' := by
  have hn : s.data.toList ≠ [] := fun e => by have := congrArg List.length e; rw [size_data] at this; have h2 : s.size = 0 := this; omega
  have hh := head_at s h0
  have i1 : (0 : Int) < (s.size : Int) := by omega
  have cc := leading_any s w
  have HD := Lib.hid (show isDg (hd1 s.data.toList) = decide (48 ≤ s[0].toNat ∧ s[0].toNat ≤ 57) by rw [hh]; rfl)
  have HP := Lib.hid (lead_pos s.data.toList hn)
  have HN := Lib.hid hn
  have HS := Lib.hid (str_of s)
  clear hn
  have HC1 := Lib.hid (@cls_num a s.data.toList)
  have HC2 := Lib.hid (@cls_name b s.data.toList)
  have HC3 := Lib.hid (@cls_num0 a s.data.toList)
  have HC4 := Lib.hid (@cls_no a b s.data.toList)
  have HC5 := Lib.hid (@cls_name0 b s.data.toList)
  have HDL := Lib.hid (@dg_lt (hd1 s.data.toList))
  generalize lead s.data.toList = k at *
  generalize isDg (hd1 s.data.toList) = dg at *
  generalize isLt (hd1 s.data.toList) = lt at *
  clear hh
  have q1 : 48 ≤ s[0].toNat ∨ s[0].toNat < 48 := by omega
  have q2 : s[0].toNat ≤ 57 ∨ 57 < s[0].toNat := by omega
  rcases q1 with q1 | q1
  · rcases q2 with q2 | q2
    · have b1 : decide ((48 : Int) ≤ ((s[0].toNat : Nat) : Int)) = true := decide_eq_true (by omega)
      have b1n : decide (48 ≤ s[0].toNat) = true := decide_eq_true (by omega)
      have b2 : decide (((s[0].toNat : Nat) : Int) ≤ (57 : Int)) = true := decide_eq_true (by omega)
      have b2n : decide (s[0].toNat ≤ 57) = true := decide_eq_true (by omega)
      obtain rfl : dg = true := by rw [HD.out]; exact decide_eq_true ⟨q1, q2⟩
      clear HD q1 q2 HP
      cases b with
      | true =>
        have HR := Lib.hid (show cls a true s.data.toList = [36, 48] from HC1.out rfl)
        clear HC1 HC2 HC3 HC4 HC5
        go_enter Tryd.func30, Tryd.ntmps30
        go_wp2_with fail
        go_ret
        exact ⟨by rw [HR.out]; rfl, Below.refl _ _⟩
      | false =>
        have HR := Lib.hid (show cls a false s.data.toList = s.data.toList from HC3.out rfl)
        clear HC1 HC2 HC3 HC4 HC5
        obtain rfl : lt = true := HDL.out rfl
        go_enter Tryd.func30, Tryd.ntmps30
        go_wp2_with fail
        go_ret
        exact ⟨by rw [HR.out]; rw [HS.out]; rfl, Below.refl _ _⟩
    · have b1 : decide ((48 : Int) ≤ ((s[0].toNat : Nat) : Int)) = true := decide_eq_true (by omega)
      have b1n : decide (48 ≤ s[0].toNat) = true := decide_eq_true (by omega)
      have b2 : decide (((s[0].toNat : Nat) : Int) ≤ (57 : Int)) = false := decide_eq_false (by omega)
      have b2n : decide (s[0].toNat ≤ 57) = false := decide_eq_false (by omega)
      obtain rfl : dg = false := by rw [HD.out]; exact decide_eq_false (by omega)
      clear HD q1 q2
      cases a with
      | false =>
        have HR := Lib.hid (show cls false b s.data.toList = s.data.toList from HC5.out rfl)
        clear HC1 HC2 HC3 HC4 HC5
        go_enter Tryd.func30, Tryd.ntmps30
        go_wp2_with fail
        go_ret
        exact ⟨by rw [HR.out]; rw [HS.out]; rfl, Below.refl _ _⟩
      | true =>
        cases lt with
        | true =>
          have HR := Lib.hid (show cls true b s.data.toList = [36, 110] from HC2.out rfl rfl)
          have p1 : decide ((0 : Int) < (k : Int)) = true := HP.out
          have p1n : decide (0 < k) = true := by have := of_decide_eq_true p1; exact decide_eq_true (by omega)
          clear HC1 HC2 HC3 HC4 HC5
          go_enter Tryd.func30, Tryd.ntmps30
          go_wp2_with fail
          (with_reducible refine cc.mono ?_); rintro e w1 ⟨rfl, hb⟩
          have HB := Lib.hid hb
          clear hb cc
          go_wp2_with fail
          go_ret
          exact ⟨by rw [HR.out]; rfl, HB.out⟩
        | false =>
          have HR := Lib.hid (show cls true b s.data.toList = s.data.toList from HC4.out rfl rfl)
          have p1 : decide ((0 : Int) < (k : Int)) = false := HP.out
          have p1n : decide (0 < k) = false := by have := of_decide_eq_false p1; exact decide_eq_false (by omega)
          clear HC1 HC2 HC3 HC4 HC5
          go_enter Tryd.func30, Tryd.ntmps30
          go_wp2_with fail
          (with_reducible refine cc.mono ?_); rintro e w1 ⟨rfl, hb⟩
          have HB := Lib.hid hb
          clear hb cc
          go_wp2_with fail
          go_ret
          exact ⟨by rw [HR.out]; rw [HS.out]; rfl, HB.out⟩
  · have b1 : decide ((48 : Int) ≤ ((s[0].toNat : Nat) : Int)) = false := decide_eq_false (by omega)
    have b1n : decide (48 ≤ s[0].toNat) = false := decide_eq_false (by omega)
    obtain rfl : dg = false := by rw [HD.out]; exact decide_eq_false (by omega)
    clear HD q1 q2
    cases a with
    | false =>
      have HR := Lib.hid (show cls false b s.data.toList = s.data.toList from HC5.out rfl)
      clear HC1 HC2 HC3 HC4 HC5
      go_enter Tryd.func30, Tryd.ntmps30
      go_wp2_with fail
      go_ret
      exact ⟨by rw [HR.out]; rw [HS.out]; rfl, Below.refl _ _⟩
    | true =>
      cases lt with
      | true =>
        have HR := Lib.hid (show cls true b s.data.toList = [36, 110] from HC2.out rfl rfl)
        have p1 : decide ((0 : Int) < (k : Int)) = true := HP.out
        have p1n : decide (0 < k) = true := by have := of_decide_eq_true p1; exact decide_eq_true (by omega)
        clear HC1 HC2 HC3 HC4 HC5
        go_enter Tryd.func30, Tryd.ntmps30
        go_wp2_with fail
        (with_reducible refine cc.mono ?_); rintro e w1 ⟨rfl, hb⟩
        have HB := Lib.hid hb
        clear hb cc
        go_wp2_with fail
        go_ret
        exact ⟨by rw [HR.out]; rfl, HB.out⟩
      | false =>
        have HR := Lib.hid (show cls true b s.data.toList = s.data.toList from HC4.out rfl rfl)
        have p1 : decide ((0 : Int) < (k : Int)) = false := HP.out
        have p1n : decide (0 < k) = false := by have := of_decide_eq_false p1; exact decide_eq_false (by omega)
        clear HC1 HC2 HC3 HC4 HC5
        go_enter Tryd.func30, Tryd.ntmps30
        go_wp2_with fail
        (with_reducible refine cc.mono ?_); rintro e w1 ⟨rfl, hb⟩
        have HB := Lib.hid hb
        clear hb cc
        go_wp2_with fail
        go_ret
        exact ⟨by rw [HR.out]; rw [HS.out]; rfl, HB.out⟩
set_option maxHeartbeats 4000000 in
set_option maxRecDepth 100000 in
theorem qclass_any (s : ByteArray) (a b : Bool) (w : World) (h0 : 0 < s.size) :
    Calls Tryd.prog 35 #[.string s, .bool a, .bool b] w fun e w' => e = .returned (.string (str (cls a b s.data.toList))) ∧ Below w.heap.size w w' := by
  have hn : s.data.toList ≠ [] := fun e => by have := congrArg List.length e; rw [size_data] at this; have h2 : s.size = 0 := this; omega
  have hh := head_at s h0
  have i1 : (0 : Int) < (s.size : Int) := by omega
  have cd : Calls Tryd.prog 58 #[.int .u8 ((s[0].toNat : Nat) : Int)] w fun e w' => e = .returned (.bool (isDg (hd1 s.data.toList))) ∧ w = w' := by rw [hh]; exact digit_any s[0] w
  have cl : Calls Tryd.prog 56 #[.int .u8 ((s[0].toNat : Nat) : Int)] w fun e w' => e = .returned (.bool (isLt (hd1 s.data.toList))) ∧ w = w' := by rw [hh]; exact letter_any s[0] w
  have HN := Lib.hid hn
  have HS := Lib.hid (str_of s)
  clear hn
  have HC1 := Lib.hid (@cls_num a s.data.toList)
  have HC2 := Lib.hid (@cls_name b s.data.toList)
  have HC3 := Lib.hid (@cls_num0 a s.data.toList)
  have HC4 := Lib.hid (@cls_no a b s.data.toList)
  have HC5 := Lib.hid (@cls_name0 b s.data.toList)
  have HDL := Lib.hid (@dg_lt (hd1 s.data.toList))
  generalize isDg (hd1 s.data.toList) = dg at *
  generalize isLt (hd1 s.data.toList) = lt at *
  clear hh
  cases dg with
  | true =>
    cases b with
    | true =>
      have HR := Lib.hid (show cls a true s.data.toList = [36, 48] from HC1.out rfl)
      clear HC1 HC2 HC3 HC4 HC5
      go_enter Tryd.func35, Tryd.ntmps35
      go_wp2_with (first | (go_at_call 58; (with_reducible refine cd.mono ?_); rintro e w1 ⟨rfl, rfl⟩) | (go_at_call 56; (with_reducible refine cl.mono ?_); rintro e w1 ⟨rfl, rfl⟩))
      go_ret
      exact ⟨by rw [HR.out]; rfl, Below.refl _ _⟩
    | false =>
      have HR := Lib.hid (show cls a false s.data.toList = s.data.toList from HC3.out rfl)
      clear HC1 HC2 HC3 HC4 HC5
      obtain rfl : lt = true := HDL.out rfl
      go_enter Tryd.func35, Tryd.ntmps35
      go_wp2_with (first | (go_at_call 58; (with_reducible refine cd.mono ?_); rintro e w1 ⟨rfl, rfl⟩) | (go_at_call 56; (with_reducible refine cl.mono ?_); rintro e w1 ⟨rfl, rfl⟩))
      go_ret
      exact ⟨by rw [HR.out]; rw [HS.out]; rfl, Below.refl _ _⟩
  | false =>
    cases a with
    | false =>
      have HR := Lib.hid (show cls false b s.data.toList = s.data.toList from HC5.out rfl)
      clear HC1 HC2 HC3 HC4 HC5
      cases lt <;>
      (go_enter Tryd.func35, Tryd.ntmps35; go_wp2_with (first | (go_at_call 58; (with_reducible refine cd.mono ?_); rintro e w1 ⟨rfl, rfl⟩) | (go_at_call 56; (with_reducible refine cl.mono ?_); rintro e w1 ⟨rfl, rfl⟩)); go_ret; exact ⟨by rw [HR.out]; rw [HS.out]; rfl, Below.refl _ _⟩)
    | true =>
      cases lt with
      | true =>
        have HR := Lib.hid (show cls true b s.data.toList = [36, 110] from HC2.out rfl rfl)
        clear HC1 HC2 HC3 HC4 HC5
        go_enter Tryd.func35, Tryd.ntmps35
        go_wp2_with (first | (go_at_call 58; (with_reducible refine cd.mono ?_); rintro e w1 ⟨rfl, rfl⟩) | (go_at_call 56; (with_reducible refine cl.mono ?_); rintro e w1 ⟨rfl, rfl⟩))
        go_ret
        exact ⟨by rw [HR.out]; rfl, Below.refl _ _⟩
      | false =>
        have HR := Lib.hid (show cls true b s.data.toList = s.data.toList from HC4.out rfl rfl)
        clear HC1 HC2 HC3 HC4 HC5
        go_enter Tryd.func35, Tryd.ntmps35
        go_wp2_with (first | (go_at_call 58; (with_reducible refine cd.mono ?_); rintro e w1 ⟨rfl, rfl⟩) | (go_at_call 56; (with_reducible refine cl.mono ?_); rintro e w1 ⟨rfl, rfl⟩))
        go_ret
        exact ⟨by rw [HR.out]; rw [HS.out]; rfl, Below.refl _ _⟩
end Nm
end Go.Proofs.YtenaohnginikhaaDoor
