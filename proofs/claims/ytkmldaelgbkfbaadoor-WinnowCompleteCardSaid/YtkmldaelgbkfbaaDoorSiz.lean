/- The sizes of runs and windows; Guarantee. No condition. -/
import Derived.Test.YtkmldaelgbkfbaaDoorWel
namespace Go.Proofs.YtkmldaelgbkfbaaDoor
open Go.RowKit Go.Deep
namespace Wn
/-- Whether a number is a size. -/
def sz (n : Int) : Bool := decide (1 ≤ n ∧ n ≤ 1024)
theorem sz_of {n : Int} (h : sz n = true) : ∃ a : Nat, n = a ∧ 1 ≤ a ∧ a ≤ 1024 := by
  have := of_decide_eq_true h
  exact ⟨n.toNat, by omega, by omega, by omega⟩
theorem sz_nat {a : Nat} (h1 : 1 ≤ a) (h2 : a ≤ 1024) : sz (a : Int) = true := decide_eq_true (by omega)
theorem ret_bool {a b : Bool} (h : a = b) : Ending.returned (.bool a) = .returned (.bool b) := by rw [h]
set_option maxHeartbeats 1000000 in
set_option maxRecDepth 100000 in
theorem size_any (n : Int) (w : World) :
    Calls Tryd.prog 20 #[.int .i64 n] w fun e w' => e = .returned (.bool (sz n)) ∧ w = w' := by
  have HV := Lib.hid (show sz n = decide (1 ≤ n ∧ n ≤ 1024) from rfl)
  generalize sz n = v at *
  by_cases h1 : 1 ≤ n
  · have b1 : decide ((1 : Int) ≤ n) = true := decide_eq_true h1
    by_cases h2 : n ≤ 1024
    · have b2 : decide (n ≤ 1024) = true := decide_eq_true h2
      have HT := Lib.hid (show v = true by rw [HV.out]; exact decide_eq_true ⟨h1, h2⟩)
      clear HV h1 h2
      go_enter Tryd.func20, Tryd.ntmps20
      go_wp2
      go_ret
      exact ⟨ret_bool (by rw [HT.out]), rfl⟩
    · have b2 : decide (n ≤ 1024) = false := decide_eq_false h2
      have HT := Lib.hid (show v = false by rw [HV.out]; exact decide_eq_false fun h => h2 h.2)
      clear HV h1 h2
      go_enter Tryd.func20, Tryd.ntmps20
      go_wp2
      go_ret
      exact ⟨ret_bool (by rw [HT.out]), rfl⟩
  · have b1 : decide ((1 : Int) ≤ n) = false := decide_eq_false h1
    have HT := Lib.hid (show v = false by rw [HV.out]; exact decide_eq_false fun h => h1 h.1)
    clear HV h1
    go_enter Tryd.func20, Tryd.ntmps20
    go_wp2
    go_ret
    exact ⟨ret_bool (by rw [HT.out]), rfl⟩
set_option maxHeartbeats 1000000 in
set_option maxRecDepth 100000 in
theorem qsize_any (n : Int) (w : World) :
    Calls Tryd.prog 23 #[.int .i64 n] w fun e w' => e = .returned (.bool (sz n)) ∧ w = w' := by
  have HV := Lib.hid (show sz n = decide (1 ≤ n ∧ n ≤ 1024) from rfl)
  generalize sz n = v at *
  by_cases h1 : 1 ≤ n
  · have b1 : decide ((1 : Int) ≤ n) = true := decide_eq_true h1
    by_cases h2 : n ≤ 1024
    · have b2 : decide (n ≤ 1024) = true := decide_eq_true h2
      have HT := Lib.hid (show v = true by rw [HV.out]; exact decide_eq_true ⟨h1, h2⟩)
      clear HV h1 h2
      go_enter Tryd.func23, Tryd.ntmps23
      go_wp2
      go_ret
      exact ⟨ret_bool (by rw [HT.out]), rfl⟩
    · have b2 : decide (n ≤ 1024) = false := decide_eq_false h2
      have HT := Lib.hid (show v = false by rw [HV.out]; exact decide_eq_false fun h => h2 h.2)
      clear HV h1 h2
      go_enter Tryd.func23, Tryd.ntmps23
      go_wp2
      go_ret
      exact ⟨ret_bool (by rw [HT.out]), rfl⟩
  · have b1 : decide ((1 : Int) ≤ n) = false := decide_eq_false h1
    have HT := Lib.hid (show v = false by rw [HV.out]; exact decide_eq_false fun h => h1 h.1)
    clear HV h1
    go_enter Tryd.func23, Tryd.ntmps23
    go_wp2
    go_ret
    exact ⟨ret_bool (by rw [HT.out]), rfl⟩
/-- What Guarantee returns. -/
def guaI (k n : Int) : Int := if sz k = true ∧ sz n = true then k + n - 1 else 0
def guaE (k n : Int) : Int := if sz k = true ∧ sz n = true then 0 else 3
set_option maxHeartbeats 1000000 in
set_option maxRecDepth 100000 in
theorem gua_any (k n : Int) (w : World) :
    Calls Tryd.prog 9 #[.int .i64 k, .int .i64 n] w fun e w' => e = .returned (.tuple #[.int .i64 (guaI k n), .int .i64 (guaE k n)]) ∧ w = w' := by
  have c1 := size_any k w
  have c2 := size_any n w
  have HI := Lib.hid (show guaI k n = if sz k = true ∧ sz n = true then k + n - 1 else 0 from rfl)
  have HE := Lib.hid (show guaE k n = if sz k = true ∧ sz n = true then 0 else 3 from rfl)
  generalize guaI k n = v at *
  generalize guaE k n = e at *
  have HK := Lib.hid (show sz k = true → 1 ≤ k ∧ k ≤ 1024 from fun h => of_decide_eq_true h)
  have HN := Lib.hid (show sz n = true → 1 ≤ n ∧ n ≤ 1024 from fun h => of_decide_eq_true h)
  generalize sz k = a at *
  generalize sz n = b at *
  cases a with
  | false =>
    have HT := Lib.hid (show v = 0 ∧ e = 3 from ⟨by rw [HI.out, if_neg (by simp)], by rw [HE.out, if_neg (by simp)]⟩)
    clear HI HE HK HN
    go_enter Tryd.func9, Tryd.ntmps9
    go_wp2_with (first
      | (go_at_call 20; (with_reducible refine c1.mono ?_); rintro e w' ⟨rfl, rfl⟩))
    go_ret2
    exact ⟨by rw [HT.out.1, HT.out.2]; rfl, rfl⟩
  | true =>
  cases b with
  | false =>
    have HT := Lib.hid (show v = 0 ∧ e = 3 from ⟨by rw [HI.out, if_neg (by simp)], by rw [HE.out, if_neg (by simp)]⟩)
    clear HI HE HK HN
    go_enter Tryd.func9, Tryd.ntmps9
    go_wp2_with (first
      | (go_at_call 20; (with_reducible refine c1.mono ?_); rintro e w' ⟨rfl, rfl⟩)
      | (go_at_call 20; (with_reducible refine c2.mono ?_); rintro e w' ⟨rfl, rfl⟩))
    go_ret2
    exact ⟨by rw [HT.out.1, HT.out.2]; rfl, rfl⟩
  | true =>
    have HT := Lib.hid (show v = k + n - 1 ∧ e = 0 from ⟨by rw [HI.out, if_pos (by simp)], by rw [HE.out, if_pos (by simp)]⟩)
    have u1 : IntKind.i64.wrap (k + n) = k + n := by have := HK.out rfl; have := HN.out rfl; rw [IntKind.wrap_i64]; omega
    have u2 : IntKind.i64.wrap (k + n - 1) = k + n - 1 := by have := HK.out rfl; have := HN.out rfl; rw [IntKind.wrap_i64]; omega
    clear HI HE HK HN
    go_enter Tryd.func9, Tryd.ntmps9
    go_wp2_with (first
      | (go_at_call 20; (with_reducible refine c1.mono ?_); rintro e w' ⟨rfl, rfl⟩)
      | (go_at_call 20; (with_reducible refine c2.mono ?_); rintro e w' ⟨rfl, rfl⟩))
    go_ret2
    exact ⟨by rw [HT.out.1, HT.out.2]; rfl, rfl⟩
end Wn
end Go.Proofs.YtkmldaelgbkfbaaDoor
