/- What an operation takes, and Check. No condition but the lengths. -/
import Derived.Test.YtndehkoglgakpaaGreatDoorLvl
import Derived.Test.YtndehkoglgakpaaGreatDoorFrm
import Derived.Test.YtndehkoglgakpaaGreatDoorLev
import Derived.Deep.QuietTactic
import Derived.BigQuiet
import Derived.WalkSmall
namespace Go.Proofs.YtndehkoglgakpaaGreatDoor
open Go.RowKit Go.Deep

def oprV (p : Int × Bool) : Value := .tuple #[.int .i64 p.1, .bool p.2]
theorem oprV_def (p : Int × Bool) : oprV p = .tuple #[.int .i64 p.1, .bool p.2] := rfl
/-- An operation as an argument. -/
def opV (o : Ex.Op) : Value := .agg #[.int .i64 o.kind, .string (str o.text), .int .u32 o.n]
theorem nameQ (t : List UInt8) (ht : t.length ≤ 1000000000) (w : World) : Calls Tryz.prog 56 #[.string (str t)] w fun e w' => e = .returned (.bool (Ex.idB t)) ∧ w' = w := (name_any (str t) w (by rw [str_size]; exact ht)).mono fun _ _ h => ⟨h.1, h.2.symm⟩
theorem unQ (t : List UInt8) (w : World) : Calls Tryz.prog 51 #[.string (str t)] w fun e w' => e = .returned (.bool (Ex.unL t)) ∧ w' = w := (isUnary_any (str t) w).mono fun _ _ h => ⟨by rw [h.1, str_list], h.2.symm⟩
theorem levQ2 (t : List UInt8) (w : World) : Calls Tryz.prog 48 #[.string (str t)] w fun e w' => e = .returned (.int .i64 (Ex.levL t : Nat)) ∧ w' = w := (levelOf_any (str t) w).mono fun _ _ h => ⟨by rw [h.1, str_list], h.2.symm⟩
set_option maxHeartbeats 2000000 in
set_option maxRecDepth 100000 in
theorem opr_1 (t : List UInt8) (n : Int) (ht : t.length ≤ 1000000000) (_hn : 0 ≤ n) (_hn2 : n < 4294967296) (w : World) :
    Calls Tryz.prog 30 #[.agg #[.int .i64 1, .string (str t), .int .u32 n]] w fun x w' => x = .returned (oprV (Ex.opr ⟨1, t, n⟩)) ∧ Below w.heap.size w w' := by
  have HV := Lib.hid (show Ex.opr ⟨1, t, n⟩ = (0, t == []) from rfl)
  generalize Ex.opr ⟨1, t, n⟩ = R at *
  have hb0 : Below w.heap.size w (w.alloc (.cells #[.int .i64 1, .string (str t), .int .u32 n] 42)) := (Below.refl _ _).alloc (Nat.le_refl _) _
  have hnm := nameQ t ht
  have hun := unQ t
  have hlv := levQ2 t
  have ht0 : t = [] ∨ t ≠ [] := Classical.em _
  have hn0 : n = 0 ∨ n ≠ 0 := Classical.em _
  rcases ht0 with h1 | h1 <;> rcases hn0 with h2 | h2
  · have p1 : (str t).toList = [] := by rw [str_list]; exact h1
    have p2 : (t == []) = true := by rw [h1]; rfl
    have r1 : (n == 0) = true := by rw [h2]; rfl
    have HV2 := HV.out
    rw [p2] at HV2
    have HT := Lib.hid (show R = (0, true) from HV2)
    clear HV HV2 h1 h2
    go_enter Tryz.func30, Tryz.ntmps30
    go_wp2_with fail
    go_quiet (fail)
    have hb9 := below_drewN hb0 nq
    go_wp2_with fail
    go_ret2
    exact ⟨by rw [HT.out]; rfl, hb9⟩
  · have p1 : (str t).toList = [] := by rw [str_list]; exact h1
    have p2 : (t == []) = true := by rw [h1]; rfl
    have r1 : (n == 0) = false := by rw [beq_eq_false_iff_ne]; exact h2
    have HV2 := HV.out
    rw [p2] at HV2
    have HT := Lib.hid (show R = (0, true) from HV2)
    clear HV HV2 h1 h2
    go_enter Tryz.func30, Tryz.ntmps30
    go_wp2_with fail
    go_quiet (fail)
    have hb9 := below_drewN hb0 nq
    go_wp2_with fail
    go_ret2
    exact ⟨by rw [HT.out]; rfl, hb9⟩
  · have p1 : ¬ (str t).toList = [] := by rw [str_list]; exact h1
    have p2 : (t == []) = false := by rw [beq_eq_false_iff_ne]; exact h1
    have p3 : (str t).toList.isEmpty = false := by rw [str_list]; cases t with | nil => exact absurd rfl h1 | cons _ _ => rfl
    have p4 : ((str t).toList == []) = false := by rw [beq_eq_false_iff_ne]; exact p1
    have r1 : (n == 0) = true := by rw [h2]; rfl
    have HV2 := HV.out
    rw [p2] at HV2
    have HT := Lib.hid (show R = (0, false) from HV2)
    clear HV HV2 h1 h2
    go_enter Tryz.func30, Tryz.ntmps30
    go_wp2_with fail
    go_quiet (fail)
    have hb9 := below_drewN hb0 nq
    go_wp2_with fail
    go_ret2
    exact ⟨by rw [HT.out]; rfl, hb9⟩
  · have p1 : ¬ (str t).toList = [] := by rw [str_list]; exact h1
    have p2 : (t == []) = false := by rw [beq_eq_false_iff_ne]; exact h1
    have p3 : (str t).toList.isEmpty = false := by rw [str_list]; cases t with | nil => exact absurd rfl h1 | cons _ _ => rfl
    have p4 : ((str t).toList == []) = false := by rw [beq_eq_false_iff_ne]; exact p1
    have r1 : (n == 0) = false := by rw [beq_eq_false_iff_ne]; exact h2
    have HV2 := HV.out
    rw [p2] at HV2
    have HT := Lib.hid (show R = (0, false) from HV2)
    clear HV HV2 h1 h2
    go_enter Tryz.func30, Tryz.ntmps30
    go_wp2_with fail
    go_quiet (fail)
    have hb9 := below_drewN hb0 nq
    go_wp2_with fail
    go_ret2
    exact ⟨by rw [HT.out]; rfl, hb9⟩
set_option maxHeartbeats 2000000 in
set_option maxRecDepth 100000 in
theorem opr_2 (t : List UInt8) (n : Int) (ht : t.length ≤ 1000000000) (_hn : 0 ≤ n) (_hn2 : n < 4294967296) (w : World) :
    Calls Tryz.prog 30 #[.agg #[.int .i64 2, .string (str t), .int .u32 n]] w fun x w' => x = .returned (oprV (Ex.opr ⟨2, t, n⟩)) ∧ Below w.heap.size w w' := by
  have HV := Lib.hid (show Ex.opr ⟨2, t, n⟩ = (0, Ex.idB t && (n == 0)) from rfl)
  generalize Ex.opr ⟨2, t, n⟩ = R at *
  have hb0 : Below w.heap.size w (w.alloc (.cells #[.int .i64 2, .string (str t), .int .u32 n] 42)) := (Below.refl _ _).alloc (Nat.le_refl _) _
  have hnm := nameQ t ht
  have hun := unQ t
  have hlv := levQ2 t
  have ht0 : t = [] ∨ t ≠ [] := Classical.em _
  have hn0 : n = 0 ∨ n ≠ 0 := Classical.em _
  rcases ht0 with h1 | h1 <;> rcases hn0 with h2 | h2
  · have p1 : (str t).toList = [] := by rw [str_list]; exact h1
    have p2 : (t == []) = true := by rw [h1]; rfl
    have r1 : (n == 0) = true := by rw [h2]; rfl
    have HV2 := HV.out
    rw [r1] at HV2
    generalize Ex.idB t = A at *
    cases A
    · have HT := Lib.hid (show R = (0, false) from HV2)
      clear HV HV2 h1 h2
      go_enter Tryz.func30, Tryz.ntmps30
      go_wp2_with fail
      go_quiet (first | (go_at_call 56; exact Calls.quiet_of_same (hnm _)) | (go_at_call 51; exact Calls.quiet_of_same (hun _)) | (go_at_call 48; exact Calls.quiet_of_same (hlv _)))
      have hb9 := below_drewN hb0 nq
      go_wp2_with fail
      go_ret2
      exact ⟨by rw [HT.out]; rfl, hb9⟩
    · have HT := Lib.hid (show R = (0, true) from HV2)
      clear HV HV2 h1 h2
      go_enter Tryz.func30, Tryz.ntmps30
      go_wp2_with fail
      go_quiet (first | (go_at_call 56; exact Calls.quiet_of_same (hnm _)) | (go_at_call 51; exact Calls.quiet_of_same (hun _)) | (go_at_call 48; exact Calls.quiet_of_same (hlv _)))
      have hb9 := below_drewN hb0 nq
      go_wp2_with fail
      go_ret2
      exact ⟨by rw [HT.out]; rfl, hb9⟩
  · have p1 : (str t).toList = [] := by rw [str_list]; exact h1
    have p2 : (t == []) = true := by rw [h1]; rfl
    have r1 : (n == 0) = false := by rw [beq_eq_false_iff_ne]; exact h2
    have HV2 := HV.out
    rw [r1] at HV2
    generalize Ex.idB t = A at *
    cases A
    · have HT := Lib.hid (show R = (0, false) from HV2)
      clear HV HV2 h1 h2
      go_enter Tryz.func30, Tryz.ntmps30
      go_wp2_with fail
      go_quiet (first | (go_at_call 56; exact Calls.quiet_of_same (hnm _)) | (go_at_call 51; exact Calls.quiet_of_same (hun _)) | (go_at_call 48; exact Calls.quiet_of_same (hlv _)))
      have hb9 := below_drewN hb0 nq
      go_wp2_with fail
      go_ret2
      exact ⟨by rw [HT.out]; rfl, hb9⟩
    · have HT := Lib.hid (show R = (0, false) from HV2)
      clear HV HV2 h1 h2
      go_enter Tryz.func30, Tryz.ntmps30
      go_wp2_with fail
      go_quiet (first | (go_at_call 56; exact Calls.quiet_of_same (hnm _)) | (go_at_call 51; exact Calls.quiet_of_same (hun _)) | (go_at_call 48; exact Calls.quiet_of_same (hlv _)))
      have hb9 := below_drewN hb0 nq
      go_wp2_with fail
      go_ret2
      exact ⟨by rw [HT.out]; rfl, hb9⟩
  · have p1 : ¬ (str t).toList = [] := by rw [str_list]; exact h1
    have p2 : (t == []) = false := by rw [beq_eq_false_iff_ne]; exact h1
    have p3 : (str t).toList.isEmpty = false := by rw [str_list]; cases t with | nil => exact absurd rfl h1 | cons _ _ => rfl
    have p4 : ((str t).toList == []) = false := by rw [beq_eq_false_iff_ne]; exact p1
    have r1 : (n == 0) = true := by rw [h2]; rfl
    have HV2 := HV.out
    rw [r1] at HV2
    generalize Ex.idB t = A at *
    cases A
    · have HT := Lib.hid (show R = (0, false) from HV2)
      clear HV HV2 h1 h2
      go_enter Tryz.func30, Tryz.ntmps30
      go_wp2_with fail
      go_quiet (first | (go_at_call 56; exact Calls.quiet_of_same (hnm _)) | (go_at_call 51; exact Calls.quiet_of_same (hun _)) | (go_at_call 48; exact Calls.quiet_of_same (hlv _)))
      have hb9 := below_drewN hb0 nq
      go_wp2_with fail
      go_ret2
      exact ⟨by rw [HT.out]; rfl, hb9⟩
    · have HT := Lib.hid (show R = (0, true) from HV2)
      clear HV HV2 h1 h2
      go_enter Tryz.func30, Tryz.ntmps30
      go_wp2_with fail
      go_quiet (first | (go_at_call 56; exact Calls.quiet_of_same (hnm _)) | (go_at_call 51; exact Calls.quiet_of_same (hun _)) | (go_at_call 48; exact Calls.quiet_of_same (hlv _)))
      have hb9 := below_drewN hb0 nq
      go_wp2_with fail
      go_ret2
      exact ⟨by rw [HT.out]; rfl, hb9⟩
  · have p1 : ¬ (str t).toList = [] := by rw [str_list]; exact h1
    have p2 : (t == []) = false := by rw [beq_eq_false_iff_ne]; exact h1
    have p3 : (str t).toList.isEmpty = false := by rw [str_list]; cases t with | nil => exact absurd rfl h1 | cons _ _ => rfl
    have p4 : ((str t).toList == []) = false := by rw [beq_eq_false_iff_ne]; exact p1
    have r1 : (n == 0) = false := by rw [beq_eq_false_iff_ne]; exact h2
    have HV2 := HV.out
    rw [r1] at HV2
    generalize Ex.idB t = A at *
    cases A
    · have HT := Lib.hid (show R = (0, false) from HV2)
      clear HV HV2 h1 h2
      go_enter Tryz.func30, Tryz.ntmps30
      go_wp2_with fail
      go_quiet (first | (go_at_call 56; exact Calls.quiet_of_same (hnm _)) | (go_at_call 51; exact Calls.quiet_of_same (hun _)) | (go_at_call 48; exact Calls.quiet_of_same (hlv _)))
      have hb9 := below_drewN hb0 nq
      go_wp2_with fail
      go_ret2
      exact ⟨by rw [HT.out]; rfl, hb9⟩
    · have HT := Lib.hid (show R = (0, false) from HV2)
      clear HV HV2 h1 h2
      go_enter Tryz.func30, Tryz.ntmps30
      go_wp2_with fail
      go_quiet (first | (go_at_call 56; exact Calls.quiet_of_same (hnm _)) | (go_at_call 51; exact Calls.quiet_of_same (hun _)) | (go_at_call 48; exact Calls.quiet_of_same (hlv _)))
      have hb9 := below_drewN hb0 nq
      go_wp2_with fail
      go_ret2
      exact ⟨by rw [HT.out]; rfl, hb9⟩
set_option maxHeartbeats 2000000 in
set_option maxRecDepth 100000 in
theorem opr_3 (t : List UInt8) (n : Int) (ht : t.length ≤ 1000000000) (hn : 0 ≤ n) (hn2 : n < 4294967296) (w : World) :
    Calls Tryz.prog 30 #[.agg #[.int .i64 3, .string (str t), .int .u32 n]] w fun x w' => x = .returned (oprV (Ex.opr ⟨3, t, n⟩)) ∧ Below w.heap.size w w' := by
  have HV := Lib.hid (show Ex.opr ⟨3, t, n⟩ = (n, Ex.idB t && decide (n ≤ 8)) from rfl)
  generalize Ex.opr ⟨3, t, n⟩ = R at *
  have hb0 : Below w.heap.size w (w.alloc (.cells #[.int .i64 3, .string (str t), .int .u32 n] 42)) := (Below.refl _ _).alloc (Nat.le_refl _) _
  have hnm := nameQ t ht
  have hun := unQ t
  have hlv := levQ2 t
  have ht0 : t = [] ∨ t ≠ [] := Classical.em _
  have hn0 : n = 0 ∨ n ≠ 0 := Classical.em _
  rcases ht0 with h1 | h1 <;> rcases hn0 with h2 | h2
  · have p1 : (str t).toList = [] := by rw [str_list]; exact h1
    have p2 : (t == []) = true := by rw [h1]; rfl
    have r1 : (n == 0) = true := by rw [h2]; rfl
    have HV2 := HV.out
    skip
    generalize Ex.idB t = A at *
    have hn8 : n ≤ 8 ∨ ¬ n ≤ 8 := Classical.em _
    rcases hn8 with h8 | h8 <;> cases A
    · have s8 : decide (n ≤ 8) = true := by simpa using h8
      rw [s8] at HV2
      have HT := Lib.hid (show R = (n, false) from HV2)
      clear HV HV2 h1 h2 h8
      go_enter Tryz.func30, Tryz.ntmps30
      go_wp2_with fail
      go_quiet (first | (go_at_call 56; exact Calls.quiet_of_same (hnm _)) | (go_at_call 51; exact Calls.quiet_of_same (hun _)) | (go_at_call 48; exact Calls.quiet_of_same (hlv _)))
      have hb9 := below_drewN hb0 nq
      go_wp2_with fail
      go_ret2
      exact ⟨by rw [HT.out]; rfl, hb9⟩
    · have s8 : decide (n ≤ 8) = true := by simpa using h8
      rw [s8] at HV2
      have HT := Lib.hid (show R = (n, true) from HV2)
      clear HV HV2 h1 h2 h8
      go_enter Tryz.func30, Tryz.ntmps30
      go_wp2_with fail
      go_quiet (first | (go_at_call 56; exact Calls.quiet_of_same (hnm _)) | (go_at_call 51; exact Calls.quiet_of_same (hun _)) | (go_at_call 48; exact Calls.quiet_of_same (hlv _)))
      have hb9 := below_drewN hb0 nq
      go_wp2_with fail
      go_ret2
      exact ⟨by rw [HT.out]; rfl, hb9⟩
    · have s8 : decide (n ≤ 8) = false := by simpa using h8
      rw [s8] at HV2
      have HT := Lib.hid (show R = (n, false) from HV2)
      clear HV HV2 h1 h2 h8
      go_enter Tryz.func30, Tryz.ntmps30
      go_wp2_with fail
      go_quiet (first | (go_at_call 56; exact Calls.quiet_of_same (hnm _)) | (go_at_call 51; exact Calls.quiet_of_same (hun _)) | (go_at_call 48; exact Calls.quiet_of_same (hlv _)))
      have hb9 := below_drewN hb0 nq
      go_wp2_with fail
      go_ret2
      exact ⟨by rw [HT.out]; rfl, hb9⟩
    · have s8 : decide (n ≤ 8) = false := by simpa using h8
      rw [s8] at HV2
      have HT := Lib.hid (show R = (n, false) from HV2)
      clear HV HV2 h1 h2 h8
      go_enter Tryz.func30, Tryz.ntmps30
      go_wp2_with fail
      go_quiet (first | (go_at_call 56; exact Calls.quiet_of_same (hnm _)) | (go_at_call 51; exact Calls.quiet_of_same (hun _)) | (go_at_call 48; exact Calls.quiet_of_same (hlv _)))
      have hb9 := below_drewN hb0 nq
      go_wp2_with fail
      go_ret2
      exact ⟨by rw [HT.out]; rfl, hb9⟩
  · have p1 : (str t).toList = [] := by rw [str_list]; exact h1
    have p2 : (t == []) = true := by rw [h1]; rfl
    have r1 : (n == 0) = false := by rw [beq_eq_false_iff_ne]; exact h2
    have HV2 := HV.out
    skip
    generalize Ex.idB t = A at *
    have hn8 : n ≤ 8 ∨ ¬ n ≤ 8 := Classical.em _
    rcases hn8 with h8 | h8 <;> cases A
    · have s8 : decide (n ≤ 8) = true := by simpa using h8
      rw [s8] at HV2
      have HT := Lib.hid (show R = (n, false) from HV2)
      clear HV HV2 h1 h2 h8
      go_enter Tryz.func30, Tryz.ntmps30
      go_wp2_with fail
      go_quiet (first | (go_at_call 56; exact Calls.quiet_of_same (hnm _)) | (go_at_call 51; exact Calls.quiet_of_same (hun _)) | (go_at_call 48; exact Calls.quiet_of_same (hlv _)))
      have hb9 := below_drewN hb0 nq
      go_wp2_with fail
      go_ret2
      exact ⟨by rw [HT.out]; rfl, hb9⟩
    · have s8 : decide (n ≤ 8) = true := by simpa using h8
      rw [s8] at HV2
      have HT := Lib.hid (show R = (n, true) from HV2)
      clear HV HV2 h1 h2 h8
      go_enter Tryz.func30, Tryz.ntmps30
      go_wp2_with fail
      go_quiet (first | (go_at_call 56; exact Calls.quiet_of_same (hnm _)) | (go_at_call 51; exact Calls.quiet_of_same (hun _)) | (go_at_call 48; exact Calls.quiet_of_same (hlv _)))
      have hb9 := below_drewN hb0 nq
      go_wp2_with fail
      go_ret2
      exact ⟨by rw [HT.out]; rfl, hb9⟩
    · have s8 : decide (n ≤ 8) = false := by simpa using h8
      rw [s8] at HV2
      have HT := Lib.hid (show R = (n, false) from HV2)
      clear HV HV2 h1 h2 h8
      go_enter Tryz.func30, Tryz.ntmps30
      go_wp2_with fail
      go_quiet (first | (go_at_call 56; exact Calls.quiet_of_same (hnm _)) | (go_at_call 51; exact Calls.quiet_of_same (hun _)) | (go_at_call 48; exact Calls.quiet_of_same (hlv _)))
      have hb9 := below_drewN hb0 nq
      go_wp2_with fail
      go_ret2
      exact ⟨by rw [HT.out]; rfl, hb9⟩
    · have s8 : decide (n ≤ 8) = false := by simpa using h8
      rw [s8] at HV2
      have HT := Lib.hid (show R = (n, false) from HV2)
      clear HV HV2 h1 h2 h8
      go_enter Tryz.func30, Tryz.ntmps30
      go_wp2_with fail
      go_quiet (first | (go_at_call 56; exact Calls.quiet_of_same (hnm _)) | (go_at_call 51; exact Calls.quiet_of_same (hun _)) | (go_at_call 48; exact Calls.quiet_of_same (hlv _)))
      have hb9 := below_drewN hb0 nq
      go_wp2_with fail
      go_ret2
      exact ⟨by rw [HT.out]; rfl, hb9⟩
  · have p1 : ¬ (str t).toList = [] := by rw [str_list]; exact h1
    have p2 : (t == []) = false := by rw [beq_eq_false_iff_ne]; exact h1
    have p3 : (str t).toList.isEmpty = false := by rw [str_list]; cases t with | nil => exact absurd rfl h1 | cons _ _ => rfl
    have p4 : ((str t).toList == []) = false := by rw [beq_eq_false_iff_ne]; exact p1
    have r1 : (n == 0) = true := by rw [h2]; rfl
    have HV2 := HV.out
    skip
    generalize Ex.idB t = A at *
    have hn8 : n ≤ 8 ∨ ¬ n ≤ 8 := Classical.em _
    rcases hn8 with h8 | h8 <;> cases A
    · have s8 : decide (n ≤ 8) = true := by simpa using h8
      rw [s8] at HV2
      have HT := Lib.hid (show R = (n, false) from HV2)
      clear HV HV2 h1 h2 h8
      go_enter Tryz.func30, Tryz.ntmps30
      go_wp2_with fail
      go_quiet (first | (go_at_call 56; exact Calls.quiet_of_same (hnm _)) | (go_at_call 51; exact Calls.quiet_of_same (hun _)) | (go_at_call 48; exact Calls.quiet_of_same (hlv _)))
      have hb9 := below_drewN hb0 nq
      go_wp2_with fail
      go_ret2
      exact ⟨by rw [HT.out]; rfl, hb9⟩
    · have s8 : decide (n ≤ 8) = true := by simpa using h8
      rw [s8] at HV2
      have HT := Lib.hid (show R = (n, true) from HV2)
      clear HV HV2 h1 h2 h8
      go_enter Tryz.func30, Tryz.ntmps30
      go_wp2_with fail
      go_quiet (first | (go_at_call 56; exact Calls.quiet_of_same (hnm _)) | (go_at_call 51; exact Calls.quiet_of_same (hun _)) | (go_at_call 48; exact Calls.quiet_of_same (hlv _)))
      have hb9 := below_drewN hb0 nq
      go_wp2_with fail
      go_ret2
      exact ⟨by rw [HT.out]; rfl, hb9⟩
    · have s8 : decide (n ≤ 8) = false := by simpa using h8
      rw [s8] at HV2
      have HT := Lib.hid (show R = (n, false) from HV2)
      clear HV HV2 h1 h2 h8
      go_enter Tryz.func30, Tryz.ntmps30
      go_wp2_with fail
      go_quiet (first | (go_at_call 56; exact Calls.quiet_of_same (hnm _)) | (go_at_call 51; exact Calls.quiet_of_same (hun _)) | (go_at_call 48; exact Calls.quiet_of_same (hlv _)))
      have hb9 := below_drewN hb0 nq
      go_wp2_with fail
      go_ret2
      exact ⟨by rw [HT.out]; rfl, hb9⟩
    · have s8 : decide (n ≤ 8) = false := by simpa using h8
      rw [s8] at HV2
      have HT := Lib.hid (show R = (n, false) from HV2)
      clear HV HV2 h1 h2 h8
      go_enter Tryz.func30, Tryz.ntmps30
      go_wp2_with fail
      go_quiet (first | (go_at_call 56; exact Calls.quiet_of_same (hnm _)) | (go_at_call 51; exact Calls.quiet_of_same (hun _)) | (go_at_call 48; exact Calls.quiet_of_same (hlv _)))
      have hb9 := below_drewN hb0 nq
      go_wp2_with fail
      go_ret2
      exact ⟨by rw [HT.out]; rfl, hb9⟩
  · have p1 : ¬ (str t).toList = [] := by rw [str_list]; exact h1
    have p2 : (t == []) = false := by rw [beq_eq_false_iff_ne]; exact h1
    have p3 : (str t).toList.isEmpty = false := by rw [str_list]; cases t with | nil => exact absurd rfl h1 | cons _ _ => rfl
    have p4 : ((str t).toList == []) = false := by rw [beq_eq_false_iff_ne]; exact p1
    have r1 : (n == 0) = false := by rw [beq_eq_false_iff_ne]; exact h2
    have HV2 := HV.out
    skip
    generalize Ex.idB t = A at *
    have hn8 : n ≤ 8 ∨ ¬ n ≤ 8 := Classical.em _
    rcases hn8 with h8 | h8 <;> cases A
    · have s8 : decide (n ≤ 8) = true := by simpa using h8
      rw [s8] at HV2
      have HT := Lib.hid (show R = (n, false) from HV2)
      clear HV HV2 h1 h2 h8
      go_enter Tryz.func30, Tryz.ntmps30
      go_wp2_with fail
      go_quiet (first | (go_at_call 56; exact Calls.quiet_of_same (hnm _)) | (go_at_call 51; exact Calls.quiet_of_same (hun _)) | (go_at_call 48; exact Calls.quiet_of_same (hlv _)))
      have hb9 := below_drewN hb0 nq
      go_wp2_with fail
      go_ret2
      exact ⟨by rw [HT.out]; rfl, hb9⟩
    · have s8 : decide (n ≤ 8) = true := by simpa using h8
      rw [s8] at HV2
      have HT := Lib.hid (show R = (n, true) from HV2)
      clear HV HV2 h1 h2 h8
      go_enter Tryz.func30, Tryz.ntmps30
      go_wp2_with fail
      go_quiet (first | (go_at_call 56; exact Calls.quiet_of_same (hnm _)) | (go_at_call 51; exact Calls.quiet_of_same (hun _)) | (go_at_call 48; exact Calls.quiet_of_same (hlv _)))
      have hb9 := below_drewN hb0 nq
      go_wp2_with fail
      go_ret2
      exact ⟨by rw [HT.out]; rfl, hb9⟩
    · have s8 : decide (n ≤ 8) = false := by simpa using h8
      rw [s8] at HV2
      have HT := Lib.hid (show R = (n, false) from HV2)
      clear HV HV2 h1 h2 h8
      go_enter Tryz.func30, Tryz.ntmps30
      go_wp2_with fail
      go_quiet (first | (go_at_call 56; exact Calls.quiet_of_same (hnm _)) | (go_at_call 51; exact Calls.quiet_of_same (hun _)) | (go_at_call 48; exact Calls.quiet_of_same (hlv _)))
      have hb9 := below_drewN hb0 nq
      go_wp2_with fail
      go_ret2
      exact ⟨by rw [HT.out]; rfl, hb9⟩
    · have s8 : decide (n ≤ 8) = false := by simpa using h8
      rw [s8] at HV2
      have HT := Lib.hid (show R = (n, false) from HV2)
      clear HV HV2 h1 h2 h8
      go_enter Tryz.func30, Tryz.ntmps30
      go_wp2_with fail
      go_quiet (first | (go_at_call 56; exact Calls.quiet_of_same (hnm _)) | (go_at_call 51; exact Calls.quiet_of_same (hun _)) | (go_at_call 48; exact Calls.quiet_of_same (hlv _)))
      have hb9 := below_drewN hb0 nq
      go_wp2_with fail
      go_ret2
      exact ⟨by rw [HT.out]; rfl, hb9⟩
set_option maxHeartbeats 2000000 in
set_option maxRecDepth 100000 in
theorem opr_4 (t : List UInt8) (n : Int) (ht : t.length ≤ 1000000000) (_hn : 0 ≤ n) (_hn2 : n < 4294967296) (w : World) :
    Calls Tryz.prog 30 #[.agg #[.int .i64 4, .string (str t), .int .u32 n]] w fun x w' => x = .returned (oprV (Ex.opr ⟨4, t, n⟩)) ∧ Below w.heap.size w w' := by
  have HV := Lib.hid (show Ex.opr ⟨4, t, n⟩ = (1, (t == []) && (n == 0)) from rfl)
  generalize Ex.opr ⟨4, t, n⟩ = R at *
  have hb0 : Below w.heap.size w (w.alloc (.cells #[.int .i64 4, .string (str t), .int .u32 n] 42)) := (Below.refl _ _).alloc (Nat.le_refl _) _
  have hnm := nameQ t ht
  have hun := unQ t
  have hlv := levQ2 t
  have ht0 : t = [] ∨ t ≠ [] := Classical.em _
  have hn0 : n = 0 ∨ n ≠ 0 := Classical.em _
  rcases ht0 with h1 | h1 <;> rcases hn0 with h2 | h2
  · have p1 : (str t).toList = [] := by rw [str_list]; exact h1
    have p2 : (t == []) = true := by rw [h1]; rfl
    have r1 : (n == 0) = true := by rw [h2]; rfl
    have HV2 := HV.out
    rw [p2, r1] at HV2
    have HT := Lib.hid (show R = (1, true) from HV2)
    clear HV HV2 h1 h2
    go_enter Tryz.func30, Tryz.ntmps30
    go_wp2_with fail
    have hb9 := hb0
    go_ret2
    exact ⟨by rw [HT.out]; rfl, hb9⟩
  · have p1 : (str t).toList = [] := by rw [str_list]; exact h1
    have p2 : (t == []) = true := by rw [h1]; rfl
    have r1 : (n == 0) = false := by rw [beq_eq_false_iff_ne]; exact h2
    have HV2 := HV.out
    rw [p2, r1] at HV2
    have HT := Lib.hid (show R = (1, false) from HV2)
    clear HV HV2 h1 h2
    go_enter Tryz.func30, Tryz.ntmps30
    go_wp2_with fail
    have hb9 := hb0
    go_ret2
    exact ⟨by rw [HT.out]; rfl, hb9⟩
  · have p1 : ¬ (str t).toList = [] := by rw [str_list]; exact h1
    have p2 : (t == []) = false := by rw [beq_eq_false_iff_ne]; exact h1
    have p3 : (str t).toList.isEmpty = false := by rw [str_list]; cases t with | nil => exact absurd rfl h1 | cons _ _ => rfl
    have p4 : ((str t).toList == []) = false := by rw [beq_eq_false_iff_ne]; exact p1
    have r1 : (n == 0) = true := by rw [h2]; rfl
    have HV2 := HV.out
    rw [p2, r1] at HV2
    have HT := Lib.hid (show R = (1, false) from HV2)
    clear HV HV2 h1 h2
    go_enter Tryz.func30, Tryz.ntmps30
    go_wp2_with fail
    have hb9 := hb0
    go_ret2
    exact ⟨by rw [HT.out]; rfl, hb9⟩
  · have p1 : ¬ (str t).toList = [] := by rw [str_list]; exact h1
    have p2 : (t == []) = false := by rw [beq_eq_false_iff_ne]; exact h1
    have p3 : (str t).toList.isEmpty = false := by rw [str_list]; cases t with | nil => exact absurd rfl h1 | cons _ _ => rfl
    have p4 : ((str t).toList == []) = false := by rw [beq_eq_false_iff_ne]; exact p1
    have r1 : (n == 0) = false := by rw [beq_eq_false_iff_ne]; exact h2
    have HV2 := HV.out
    rw [p2, r1] at HV2
    have HT := Lib.hid (show R = (1, false) from HV2)
    clear HV HV2 h1 h2
    go_enter Tryz.func30, Tryz.ntmps30
    go_wp2_with fail
    have hb9 := hb0
    go_ret2
    exact ⟨by rw [HT.out]; rfl, hb9⟩
set_option maxHeartbeats 2000000 in
set_option maxRecDepth 100000 in
theorem opr_5 (t : List UInt8) (n : Int) (ht : t.length ≤ 1000000000) (_hn : 0 ≤ n) (_hn2 : n < 4294967296) (w : World) :
    Calls Tryz.prog 30 #[.agg #[.int .i64 5, .string (str t), .int .u32 n]] w fun x w' => x = .returned (oprV (Ex.opr ⟨5, t, n⟩)) ∧ Below w.heap.size w w' := by
  have HV := Lib.hid (show Ex.opr ⟨5, t, n⟩ = (0, (t == []) && (n == 0)) from rfl)
  generalize Ex.opr ⟨5, t, n⟩ = R at *
  have hb0 : Below w.heap.size w (w.alloc (.cells #[.int .i64 5, .string (str t), .int .u32 n] 42)) := (Below.refl _ _).alloc (Nat.le_refl _) _
  have hnm := nameQ t ht
  have hun := unQ t
  have hlv := levQ2 t
  have ht0 : t = [] ∨ t ≠ [] := Classical.em _
  have hn0 : n = 0 ∨ n ≠ 0 := Classical.em _
  rcases ht0 with h1 | h1 <;> rcases hn0 with h2 | h2
  · have p1 : (str t).toList = [] := by rw [str_list]; exact h1
    have p2 : (t == []) = true := by rw [h1]; rfl
    have r1 : (n == 0) = true := by rw [h2]; rfl
    have HV2 := HV.out
    rw [p2, r1] at HV2
    have HT := Lib.hid (show R = (0, true) from HV2)
    clear HV HV2 h1 h2
    go_enter Tryz.func30, Tryz.ntmps30
    go_wp2_with fail
    have hb9 := hb0
    go_ret2
    exact ⟨by rw [HT.out]; rfl, hb9⟩
  · have p1 : (str t).toList = [] := by rw [str_list]; exact h1
    have p2 : (t == []) = true := by rw [h1]; rfl
    have r1 : (n == 0) = false := by rw [beq_eq_false_iff_ne]; exact h2
    have HV2 := HV.out
    rw [p2, r1] at HV2
    have HT := Lib.hid (show R = (0, false) from HV2)
    clear HV HV2 h1 h2
    go_enter Tryz.func30, Tryz.ntmps30
    go_wp2_with fail
    have hb9 := hb0
    go_ret2
    exact ⟨by rw [HT.out]; rfl, hb9⟩
  · have p1 : ¬ (str t).toList = [] := by rw [str_list]; exact h1
    have p2 : (t == []) = false := by rw [beq_eq_false_iff_ne]; exact h1
    have p3 : (str t).toList.isEmpty = false := by rw [str_list]; cases t with | nil => exact absurd rfl h1 | cons _ _ => rfl
    have p4 : ((str t).toList == []) = false := by rw [beq_eq_false_iff_ne]; exact p1
    have r1 : (n == 0) = true := by rw [h2]; rfl
    have HV2 := HV.out
    rw [p2, r1] at HV2
    have HT := Lib.hid (show R = (0, false) from HV2)
    clear HV HV2 h1 h2
    go_enter Tryz.func30, Tryz.ntmps30
    go_wp2_with fail
    have hb9 := hb0
    go_ret2
    exact ⟨by rw [HT.out]; rfl, hb9⟩
  · have p1 : ¬ (str t).toList = [] := by rw [str_list]; exact h1
    have p2 : (t == []) = false := by rw [beq_eq_false_iff_ne]; exact h1
    have p3 : (str t).toList.isEmpty = false := by rw [str_list]; cases t with | nil => exact absurd rfl h1 | cons _ _ => rfl
    have p4 : ((str t).toList == []) = false := by rw [beq_eq_false_iff_ne]; exact p1
    have r1 : (n == 0) = false := by rw [beq_eq_false_iff_ne]; exact h2
    have HV2 := HV.out
    rw [p2, r1] at HV2
    have HT := Lib.hid (show R = (0, false) from HV2)
    clear HV HV2 h1 h2
    go_enter Tryz.func30, Tryz.ntmps30
    go_wp2_with fail
    have hb9 := hb0
    go_ret2
    exact ⟨by rw [HT.out]; rfl, hb9⟩
set_option maxHeartbeats 2000000 in
set_option maxRecDepth 100000 in
theorem opr_6 (t : List UInt8) (n : Int) (ht : t.length ≤ 1000000000) (_hn : 0 ≤ n) (_hn2 : n < 4294967296) (w : World) :
    Calls Tryz.prog 30 #[.agg #[.int .i64 6, .string (str t), .int .u32 n]] w fun x w' => x = .returned (oprV (Ex.opr ⟨6, t, n⟩)) ∧ Below w.heap.size w w' := by
  have HV := Lib.hid (show Ex.opr ⟨6, t, n⟩ = (1, Ex.unL t && (n == 0)) from rfl)
  generalize Ex.opr ⟨6, t, n⟩ = R at *
  have hb0 : Below w.heap.size w (w.alloc (.cells #[.int .i64 6, .string (str t), .int .u32 n] 42)) := (Below.refl _ _).alloc (Nat.le_refl _) _
  have hnm := nameQ t ht
  have hun := unQ t
  have hlv := levQ2 t
  have ht0 : t = [] ∨ t ≠ [] := Classical.em _
  have hn0 : n = 0 ∨ n ≠ 0 := Classical.em _
  rcases ht0 with h1 | h1 <;> rcases hn0 with h2 | h2
  · have p1 : (str t).toList = [] := by rw [str_list]; exact h1
    have p2 : (t == []) = true := by rw [h1]; rfl
    have r1 : (n == 0) = true := by rw [h2]; rfl
    have HV2 := HV.out
    rw [r1] at HV2
    generalize Ex.unL t = A at *
    cases A
    · have HT := Lib.hid (show R = (1, false) from HV2)
      clear HV HV2 h1 h2
      go_enter Tryz.func30, Tryz.ntmps30
      go_wp2_with fail
      go_quiet (first | (go_at_call 56; exact Calls.quiet_of_same (hnm _)) | (go_at_call 51; exact Calls.quiet_of_same (hun _)) | (go_at_call 48; exact Calls.quiet_of_same (hlv _)))
      have hb9 := below_drewN hb0 nq
      go_wp2_with fail
      go_ret2
      exact ⟨by rw [HT.out]; rfl, hb9⟩
    · have HT := Lib.hid (show R = (1, true) from HV2)
      clear HV HV2 h1 h2
      go_enter Tryz.func30, Tryz.ntmps30
      go_wp2_with fail
      go_quiet (first | (go_at_call 56; exact Calls.quiet_of_same (hnm _)) | (go_at_call 51; exact Calls.quiet_of_same (hun _)) | (go_at_call 48; exact Calls.quiet_of_same (hlv _)))
      have hb9 := below_drewN hb0 nq
      go_wp2_with fail
      go_ret2
      exact ⟨by rw [HT.out]; rfl, hb9⟩
  · have p1 : (str t).toList = [] := by rw [str_list]; exact h1
    have p2 : (t == []) = true := by rw [h1]; rfl
    have r1 : (n == 0) = false := by rw [beq_eq_false_iff_ne]; exact h2
    have HV2 := HV.out
    rw [r1] at HV2
    generalize Ex.unL t = A at *
    cases A
    · have HT := Lib.hid (show R = (1, false) from HV2)
      clear HV HV2 h1 h2
      go_enter Tryz.func30, Tryz.ntmps30
      go_wp2_with fail
      go_quiet (first | (go_at_call 56; exact Calls.quiet_of_same (hnm _)) | (go_at_call 51; exact Calls.quiet_of_same (hun _)) | (go_at_call 48; exact Calls.quiet_of_same (hlv _)))
      have hb9 := below_drewN hb0 nq
      go_wp2_with fail
      go_ret2
      exact ⟨by rw [HT.out]; rfl, hb9⟩
    · have HT := Lib.hid (show R = (1, false) from HV2)
      clear HV HV2 h1 h2
      go_enter Tryz.func30, Tryz.ntmps30
      go_wp2_with fail
      go_quiet (first | (go_at_call 56; exact Calls.quiet_of_same (hnm _)) | (go_at_call 51; exact Calls.quiet_of_same (hun _)) | (go_at_call 48; exact Calls.quiet_of_same (hlv _)))
      have hb9 := below_drewN hb0 nq
      go_wp2_with fail
      go_ret2
      exact ⟨by rw [HT.out]; rfl, hb9⟩
  · have p1 : ¬ (str t).toList = [] := by rw [str_list]; exact h1
    have p2 : (t == []) = false := by rw [beq_eq_false_iff_ne]; exact h1
    have p3 : (str t).toList.isEmpty = false := by rw [str_list]; cases t with | nil => exact absurd rfl h1 | cons _ _ => rfl
    have p4 : ((str t).toList == []) = false := by rw [beq_eq_false_iff_ne]; exact p1
    have r1 : (n == 0) = true := by rw [h2]; rfl
    have HV2 := HV.out
    rw [r1] at HV2
    generalize Ex.unL t = A at *
    cases A
    · have HT := Lib.hid (show R = (1, false) from HV2)
      clear HV HV2 h1 h2
      go_enter Tryz.func30, Tryz.ntmps30
      go_wp2_with fail
      go_quiet (first | (go_at_call 56; exact Calls.quiet_of_same (hnm _)) | (go_at_call 51; exact Calls.quiet_of_same (hun _)) | (go_at_call 48; exact Calls.quiet_of_same (hlv _)))
      have hb9 := below_drewN hb0 nq
      go_wp2_with fail
      go_ret2
      exact ⟨by rw [HT.out]; rfl, hb9⟩
    · have HT := Lib.hid (show R = (1, true) from HV2)
      clear HV HV2 h1 h2
      go_enter Tryz.func30, Tryz.ntmps30
      go_wp2_with fail
      go_quiet (first | (go_at_call 56; exact Calls.quiet_of_same (hnm _)) | (go_at_call 51; exact Calls.quiet_of_same (hun _)) | (go_at_call 48; exact Calls.quiet_of_same (hlv _)))
      have hb9 := below_drewN hb0 nq
      go_wp2_with fail
      go_ret2
      exact ⟨by rw [HT.out]; rfl, hb9⟩
  · have p1 : ¬ (str t).toList = [] := by rw [str_list]; exact h1
    have p2 : (t == []) = false := by rw [beq_eq_false_iff_ne]; exact h1
    have p3 : (str t).toList.isEmpty = false := by rw [str_list]; cases t with | nil => exact absurd rfl h1 | cons _ _ => rfl
    have p4 : ((str t).toList == []) = false := by rw [beq_eq_false_iff_ne]; exact p1
    have r1 : (n == 0) = false := by rw [beq_eq_false_iff_ne]; exact h2
    have HV2 := HV.out
    rw [r1] at HV2
    generalize Ex.unL t = A at *
    cases A
    · have HT := Lib.hid (show R = (1, false) from HV2)
      clear HV HV2 h1 h2
      go_enter Tryz.func30, Tryz.ntmps30
      go_wp2_with fail
      go_quiet (first | (go_at_call 56; exact Calls.quiet_of_same (hnm _)) | (go_at_call 51; exact Calls.quiet_of_same (hun _)) | (go_at_call 48; exact Calls.quiet_of_same (hlv _)))
      have hb9 := below_drewN hb0 nq
      go_wp2_with fail
      go_ret2
      exact ⟨by rw [HT.out]; rfl, hb9⟩
    · have HT := Lib.hid (show R = (1, false) from HV2)
      clear HV HV2 h1 h2
      go_enter Tryz.func30, Tryz.ntmps30
      go_wp2_with fail
      go_quiet (first | (go_at_call 56; exact Calls.quiet_of_same (hnm _)) | (go_at_call 51; exact Calls.quiet_of_same (hun _)) | (go_at_call 48; exact Calls.quiet_of_same (hlv _)))
      have hb9 := below_drewN hb0 nq
      go_wp2_with fail
      go_ret2
      exact ⟨by rw [HT.out]; rfl, hb9⟩
set_option maxHeartbeats 2000000 in
set_option maxRecDepth 100000 in
theorem opr_7 (t : List UInt8) (n : Int) (ht : t.length ≤ 1000000000) (_hn : 0 ≤ n) (_hn2 : n < 4294967296) (w : World) :
    Calls Tryz.prog 30 #[.agg #[.int .i64 7, .string (str t), .int .u32 n]] w fun x w' => x = .returned (oprV (Ex.opr ⟨7, t, n⟩)) ∧ Below w.heap.size w w' := by
  have HV := Lib.hid (show Ex.opr ⟨7, t, n⟩ = (2, decide (0 < Ex.levL t) && (n == 0)) from rfl)
  generalize Ex.opr ⟨7, t, n⟩ = R at *
  have hb0 : Below w.heap.size w (w.alloc (.cells #[.int .i64 7, .string (str t), .int .u32 n] 42)) := (Below.refl _ _).alloc (Nat.le_refl _) _
  have hnm := nameQ t ht
  have hun := unQ t
  have hlv := levQ2 t
  have ht0 : t = [] ∨ t ≠ [] := Classical.em _
  have hn0 : n = 0 ∨ n ≠ 0 := Classical.em _
  rcases ht0 with h1 | h1 <;> rcases hn0 with h2 | h2
  · have p1 : (str t).toList = [] := by rw [str_list]; exact h1
    have p2 : (t == []) = true := by rw [h1]; rfl
    have r1 : (n == 0) = true := by rw [h2]; rfl
    have HV2 := HV.out
    rw [r1] at HV2
    generalize Ex.levL t = A at *
    have hA0 : 0 < A ∨ ¬ 0 < A := Classical.em _
    rcases hA0 with hA | hA
    · have s7 : decide (0 < A) = true := by simpa using hA
      have s8 : decide ((0 : Int) < (A : Int)) = true := by simp; omega
      rw [s7] at HV2
      have HT := Lib.hid (show R = (2, true) from HV2)
      clear HV HV2 h1 h2 hA
      go_enter Tryz.func30, Tryz.ntmps30
      go_wp2_with fail
      go_quiet (first | (go_at_call 56; exact Calls.quiet_of_same (hnm _)) | (go_at_call 51; exact Calls.quiet_of_same (hun _)) | (go_at_call 48; exact Calls.quiet_of_same (hlv _)))
      have hb9 := below_drewN hb0 nq
      go_wp2_with fail
      go_ret2
      exact ⟨by rw [HT.out]; rfl, hb9⟩
    · have s7 : decide (0 < A) = false := by simpa using hA
      have s8 : decide ((0 : Int) < (A : Int)) = false := by simp; omega
      rw [s7] at HV2
      have HT := Lib.hid (show R = (2, false) from HV2)
      clear HV HV2 h1 h2 hA
      go_enter Tryz.func30, Tryz.ntmps30
      go_wp2_with fail
      go_quiet (first | (go_at_call 56; exact Calls.quiet_of_same (hnm _)) | (go_at_call 51; exact Calls.quiet_of_same (hun _)) | (go_at_call 48; exact Calls.quiet_of_same (hlv _)))
      have hb9 := below_drewN hb0 nq
      go_wp2_with fail
      go_ret2
      exact ⟨by rw [HT.out]; rfl, hb9⟩
  · have p1 : (str t).toList = [] := by rw [str_list]; exact h1
    have p2 : (t == []) = true := by rw [h1]; rfl
    have r1 : (n == 0) = false := by rw [beq_eq_false_iff_ne]; exact h2
    have HV2 := HV.out
    rw [r1] at HV2
    generalize Ex.levL t = A at *
    have hA0 : 0 < A ∨ ¬ 0 < A := Classical.em _
    rcases hA0 with hA | hA
    · have s7 : decide (0 < A) = true := by simpa using hA
      have s8 : decide ((0 : Int) < (A : Int)) = true := by simp; omega
      rw [s7] at HV2
      have HT := Lib.hid (show R = (2, false) from HV2)
      clear HV HV2 h1 h2 hA
      go_enter Tryz.func30, Tryz.ntmps30
      go_wp2_with fail
      go_quiet (first | (go_at_call 56; exact Calls.quiet_of_same (hnm _)) | (go_at_call 51; exact Calls.quiet_of_same (hun _)) | (go_at_call 48; exact Calls.quiet_of_same (hlv _)))
      have hb9 := below_drewN hb0 nq
      go_wp2_with fail
      go_ret2
      exact ⟨by rw [HT.out]; rfl, hb9⟩
    · have s7 : decide (0 < A) = false := by simpa using hA
      have s8 : decide ((0 : Int) < (A : Int)) = false := by simp; omega
      rw [s7] at HV2
      have HT := Lib.hid (show R = (2, false) from HV2)
      clear HV HV2 h1 h2 hA
      go_enter Tryz.func30, Tryz.ntmps30
      go_wp2_with fail
      go_quiet (first | (go_at_call 56; exact Calls.quiet_of_same (hnm _)) | (go_at_call 51; exact Calls.quiet_of_same (hun _)) | (go_at_call 48; exact Calls.quiet_of_same (hlv _)))
      have hb9 := below_drewN hb0 nq
      go_wp2_with fail
      go_ret2
      exact ⟨by rw [HT.out]; rfl, hb9⟩
  · have p1 : ¬ (str t).toList = [] := by rw [str_list]; exact h1
    have p2 : (t == []) = false := by rw [beq_eq_false_iff_ne]; exact h1
    have p3 : (str t).toList.isEmpty = false := by rw [str_list]; cases t with | nil => exact absurd rfl h1 | cons _ _ => rfl
    have p4 : ((str t).toList == []) = false := by rw [beq_eq_false_iff_ne]; exact p1
    have r1 : (n == 0) = true := by rw [h2]; rfl
    have HV2 := HV.out
    rw [r1] at HV2
    generalize Ex.levL t = A at *
    have hA0 : 0 < A ∨ ¬ 0 < A := Classical.em _
    rcases hA0 with hA | hA
    · have s7 : decide (0 < A) = true := by simpa using hA
      have s8 : decide ((0 : Int) < (A : Int)) = true := by simp; omega
      rw [s7] at HV2
      have HT := Lib.hid (show R = (2, true) from HV2)
      clear HV HV2 h1 h2 hA
      go_enter Tryz.func30, Tryz.ntmps30
      go_wp2_with fail
      go_quiet (first | (go_at_call 56; exact Calls.quiet_of_same (hnm _)) | (go_at_call 51; exact Calls.quiet_of_same (hun _)) | (go_at_call 48; exact Calls.quiet_of_same (hlv _)))
      have hb9 := below_drewN hb0 nq
      go_wp2_with fail
      go_ret2
      exact ⟨by rw [HT.out]; rfl, hb9⟩
    · have s7 : decide (0 < A) = false := by simpa using hA
      have s8 : decide ((0 : Int) < (A : Int)) = false := by simp; omega
      rw [s7] at HV2
      have HT := Lib.hid (show R = (2, false) from HV2)
      clear HV HV2 h1 h2 hA
      go_enter Tryz.func30, Tryz.ntmps30
      go_wp2_with fail
      go_quiet (first | (go_at_call 56; exact Calls.quiet_of_same (hnm _)) | (go_at_call 51; exact Calls.quiet_of_same (hun _)) | (go_at_call 48; exact Calls.quiet_of_same (hlv _)))
      have hb9 := below_drewN hb0 nq
      go_wp2_with fail
      go_ret2
      exact ⟨by rw [HT.out]; rfl, hb9⟩
  · have p1 : ¬ (str t).toList = [] := by rw [str_list]; exact h1
    have p2 : (t == []) = false := by rw [beq_eq_false_iff_ne]; exact h1
    have p3 : (str t).toList.isEmpty = false := by rw [str_list]; cases t with | nil => exact absurd rfl h1 | cons _ _ => rfl
    have p4 : ((str t).toList == []) = false := by rw [beq_eq_false_iff_ne]; exact p1
    have r1 : (n == 0) = false := by rw [beq_eq_false_iff_ne]; exact h2
    have HV2 := HV.out
    rw [r1] at HV2
    generalize Ex.levL t = A at *
    have hA0 : 0 < A ∨ ¬ 0 < A := Classical.em _
    rcases hA0 with hA | hA
    · have s7 : decide (0 < A) = true := by simpa using hA
      have s8 : decide ((0 : Int) < (A : Int)) = true := by simp; omega
      rw [s7] at HV2
      have HT := Lib.hid (show R = (2, false) from HV2)
      clear HV HV2 h1 h2 hA
      go_enter Tryz.func30, Tryz.ntmps30
      go_wp2_with fail
      go_quiet (first | (go_at_call 56; exact Calls.quiet_of_same (hnm _)) | (go_at_call 51; exact Calls.quiet_of_same (hun _)) | (go_at_call 48; exact Calls.quiet_of_same (hlv _)))
      have hb9 := below_drewN hb0 nq
      go_wp2_with fail
      go_ret2
      exact ⟨by rw [HT.out]; rfl, hb9⟩
    · have s7 : decide (0 < A) = false := by simpa using hA
      have s8 : decide ((0 : Int) < (A : Int)) = false := by simp; omega
      rw [s7] at HV2
      have HT := Lib.hid (show R = (2, false) from HV2)
      clear HV HV2 h1 h2 hA
      go_enter Tryz.func30, Tryz.ntmps30
      go_wp2_with fail
      go_quiet (first | (go_at_call 56; exact Calls.quiet_of_same (hnm _)) | (go_at_call 51; exact Calls.quiet_of_same (hun _)) | (go_at_call 48; exact Calls.quiet_of_same (hlv _)))
      have hb9 := below_drewN hb0 nq
      go_wp2_with fail
      go_ret2
      exact ⟨by rw [HT.out]; rfl, hb9⟩
set_option maxHeartbeats 2000000 in
set_option maxRecDepth 100000 in
theorem opr_no (k : Int) (hk : ¬ k = 1 ∧ ¬ k = 2 ∧ ¬ k = 3 ∧ ¬ k = 4 ∧ ¬ k = 5 ∧ ¬ k = 6 ∧ ¬ k = 7) (t : List UInt8) (n : Int) (w : World) :
    Calls Tryz.prog 30 #[.agg #[.int .i64 k, .string (str t), .int .u32 n]] w fun x w' => x = .returned (oprV (0, false)) ∧ Below w.heap.size w w' := by
  obtain ⟨h1, h2, h3, h4, h5, h6, h7⟩ := hk
  have q1 : (k == 1) = false := beq_eq_false_iff_ne.2 h1
  have q2 : (k == 2) = false := beq_eq_false_iff_ne.2 h2
  have q3 : (k == 3) = false := beq_eq_false_iff_ne.2 h3
  have q4 : (k == 4) = false := beq_eq_false_iff_ne.2 h4
  have q5 : (k == 5) = false := beq_eq_false_iff_ne.2 h5
  have q6 : (k == 6) = false := beq_eq_false_iff_ne.2 h6
  have q7 : (k == 7) = false := beq_eq_false_iff_ne.2 h7
  have hb0 : Below w.heap.size w (w.alloc (.cells #[.int .i64 k, .string (str t), .int .u32 n] 42)) := (Below.refl _ _).alloc (Nat.le_refl _) _
  clear h1 h2 h3 h4 h5 h6 h7
  go_enter Tryz.func30, Tryz.ntmps30
  go_wp2_with fail
  all_goals
    go_ret2
    exact ⟨rfl, hb0⟩
theorem opr_any (o : Ex.Op) (ht : o.text.length ≤ 1000000000) (hn : 0 ≤ o.n) (hn2 : o.n < 4294967296) (w : World) :
    Calls Tryz.prog 30 #[.agg #[.int .i64 o.kind, .string (str o.text), .int .u32 o.n]] w fun x w' => x = .returned (oprV (Ex.opr o)) ∧ Below w.heap.size w w' := by
  obtain ⟨k, t, n⟩ := o
  dsimp only at ht hn hn2 ⊢
  by_cases h1 : k = 1
  · subst h1; exact opr_1 t n ht hn hn2 w
  by_cases h2 : k = 2
  · subst h2; exact opr_2 t n ht hn hn2 w
  by_cases h3 : k = 3
  · subst h3; exact opr_3 t n ht hn hn2 w
  by_cases h4 : k = 4
  · subst h4; exact opr_4 t n ht hn hn2 w
  by_cases h5 : k = 5
  · subst h5; exact opr_5 t n ht hn hn2 w
  by_cases h6 : k = 6
  · subst h6; exact opr_6 t n ht hn hn2 w
  by_cases h7 : k = 7
  · subst h7; exact opr_7 t n ht hn hn2 w
  · have e : Ex.opr ⟨k, t, n⟩ = (0, false) := by unfold Ex.opr; simp only [h1, h2, h3, h4, h5, h6, h7, if_false]
    rw [e]
    exact opr_no k ⟨h1, h2, h3, h4, h5, h6, h7⟩ t n w
end Go.Proofs.YtndehkoglgakpaaGreatDoor
