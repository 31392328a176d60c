/- The reference's levels, and what an operation takes. No condition but the lengths. -/
import Derived.Test.YtndehkoglgakpaaGreatDoorRfo
import Derived.Test.YtndehkoglgakpaaGreatDoorOps
import Derived.Test.YtndehkoglgakpaaGreatDoorRefN
namespace Go.Proofs.YtndehkoglgakpaaGreatDoor
open Go.RowKit Go.Deep

set_option maxHeartbeats 4000000 in
set_option maxRecDepth 100000 in
theorem qLevel_any (s : ByteArray) (w : World) : Calls Tryz.prog 37 #[.string s] w fun e w' => e = .returned (.int .i64 (Ex.levL s.toList : Nat)) ∧ w = w' := by
  go_enter Tryz.func37, Tryz.ntmps37
  go_wp2_with fail
  all_goals
    go_ret
    exact ⟨by first | (simp only [Ex.levL, *]; rfl) | (simp only [Ex.levL, *]; simp [*]; done) | (exfalso; simp_all; done), rfl⟩
theorem levQ3 (t : List UInt8) (w : World) : Calls Tryz.prog 37 #[.string (str t)] w fun e w' => e = .returned (.int .i64 (Ex.levL t : Nat)) ∧ w = w' := (qLevel_any (str t) w).mono fun _ _ h => ⟨by rw [h.1, str_list], h.2⟩
theorem un_snd (t : List UInt8) (x : Int) : (unR t x).2 = Ex.unL t := by
  unfold unR Ex.unL
  cases h1 : t == [45]
  · cases h2 : t == [126]
    · cases h3 : t == [33] <;> rfl
    · rfl
  · rfl
theorem unQ3 (t : List UInt8) (w : World) : Calls Tryz.prog 40 #[.string (str t), .int .u32 0] w fun e w' => e = .returned (.tuple #[.int .u32 (unR t 0).1, .bool (Ex.unL t)]) ∧ w = w' := (qUnary_any (str t) 0 (by decide) (by decide) w).mono fun _ _ h => ⟨by rw [h.1, str_list, ← un_snd t 0]; rfl, h.2⟩
theorem nameQ3 (t : List UInt8) (ht : t.length ≤ 1000000000) (w : World) : Calls Tryz.prog 63 #[.string (str t)] w fun e w' => e = .returned (.bool (Ex.idB t)) ∧ Below w.heap.size w w' := qName_any (str t) w (by rw [str_size]; exact ht)
/-- What the reference says an operation takes. -/
def Ex.nd (o : Ex.Op) : Int := if (Ex.opr o).2 = true then (Ex.opr o).1 else -1
set_option maxHeartbeats 2000000 in
set_option maxRecDepth 100000 in
theorem qnd_1 (t : List UInt8) (n : Int) (_ht : t.length ≤ 1000000000) (_hn : 0 ≤ n) (_hn2 : n < 4294967296) (w : World) :
    Calls Tryz.prog 32 #[.agg #[.int .i64 1, .string (str t), .int .u32 n]] w fun x w' => x = .returned (.int .i64 (Ex.nd ⟨1, t, n⟩)) ∧ Below w.heap.size w w' := by
  have HV := Lib.hid (show Ex.nd ⟨1, t, n⟩ = if (t == []) = true then 0 else -1 from rfl)
  generalize Ex.nd ⟨1, t, n⟩ = R at *
  have hb0 : Below w.heap.size w (w.alloc (.cells #[.int .i64 1, .string (str t), .int .u32 n] 42)) := (Below.refl _ _).alloc (Nat.le_refl _) _
  have ha : t = [] ∨ t ≠ [] := Classical.em _
  rcases ha with h1 | h1
  · have p1 : (str t).toList = [] := by rw [str_list]; exact h1
    have p2 : (t == []) = true := by rw [h1]; rfl
    have HV2 := HV.out
    rw [p2] at HV2
    have HT := Lib.hid (show R = 0 from HV2)
    clear HV HV2 h1
    go_enter Tryz.func32, Tryz.ntmps32
    go_wp2_with fail
    go_ret
    exact ⟨by rw [HT.out]; rfl, hb0⟩
  · have p1 : ¬ (str t).toList = [] := by rw [str_list]; exact h1
    have p2 : (t == []) = false := by rw [beq_eq_false_iff_ne]; exact h1
    have p3 : (str t).toList.isEmpty = false := by rw [str_list]; cases t with | nil => exact absurd rfl h1 | cons _ _ => rfl
    have p4 : ((str t).toList == []) = false := by rw [beq_eq_false_iff_ne]; exact p1
    have HV2 := HV.out
    rw [p2] at HV2
    have HT := Lib.hid (show R = -1 from HV2)
    clear HV HV2 h1
    go_enter Tryz.func32, Tryz.ntmps32
    go_wp2_with fail
    go_ret
    exact ⟨by rw [HT.out]; rfl, hb0⟩
set_option maxHeartbeats 2000000 in
set_option maxRecDepth 100000 in
theorem qnd_2 (t : List UInt8) (n : Int) (ht : t.length ≤ 1000000000) (_hn : 0 ≤ n) (_hn2 : n < 4294967296) (w : World) :
    Calls Tryz.prog 32 #[.agg #[.int .i64 2, .string (str t), .int .u32 n]] w fun x w' => x = .returned (.int .i64 (Ex.nd ⟨2, t, n⟩)) ∧ Below w.heap.size w w' := by
  have HV := Lib.hid (show Ex.nd ⟨2, t, n⟩ = if (Ex.idB t && (n == 0)) = true then 0 else -1 from rfl)
  generalize Ex.nd ⟨2, t, n⟩ = R at *
  have hb0 : Below w.heap.size w (w.alloc (.cells #[.int .i64 2, .string (str t), .int .u32 n] 42)) := (Below.refl _ _).alloc (Nat.le_refl _) _
  have hcall := nameQ3 t ht (w.alloc (.cells #[.int .i64 2, .string (str t), .int .u32 n] 42))
  have hx0 := heap_alloc_new w (.cells #[.int .i64 2, .string (str t), .int .u32 n] 42)
  have ha : Ex.idB t = true ∨ Ex.idB t = false := by cases Ex.idB t; exact .inr rfl; exact .inl rfl
  have hz : n = 0 ∨ n ≠ 0 := Classical.em _
  rcases ha with h1 | h1 <;> rcases hz with h2 | h2
  · rw [h1] at hcall
    have r1 : (n == 0) = true := by rw [h2]; rfl
    have HV2 := HV.out
    rw [h1, r1] at HV2
    have HT := Lib.hid (show R = 0 from HV2)
    clear HV HV2 h1 h2
    go_enter Tryz.func32, Tryz.ntmps32
    go_wp2_with fail
    with_reducible refine hcall.mono ?_
    clear hcall
    rintro e w2 ⟨rfl, hb2⟩
    have HBX := (hb2.block w.heap.size (by simp)).trans hx0
    have k2 : w2.cell? ⟨w.heap.size, 2, none⟩ = some (.int .u32 n) := by rw [cell_of_row _ _ _ _ _ _ HBX]; rfl
    have hb3 := hb0.trans (hb2.mono (by simp))
    clear hb2 hx0 HBX hb0
    go_wp2_with fail
    go_ret
    exact ⟨by rw [HT.out]; rfl, hb3⟩
  · rw [h1] at hcall
    have r1 : (n == 0) = false := by rw [beq_eq_false_iff_ne]; exact h2
    have HV2 := HV.out
    rw [h1, r1] at HV2
    have HT := Lib.hid (show R = -1 from HV2)
    clear HV HV2 h1 h2
    go_enter Tryz.func32, Tryz.ntmps32
    go_wp2_with fail
    with_reducible refine hcall.mono ?_
    clear hcall
    rintro e w2 ⟨rfl, hb2⟩
    have HBX := (hb2.block w.heap.size (by simp)).trans hx0
    have k2 : w2.cell? ⟨w.heap.size, 2, none⟩ = some (.int .u32 n) := by rw [cell_of_row _ _ _ _ _ _ HBX]; rfl
    have hb3 := hb0.trans (hb2.mono (by simp))
    clear hb2 hx0 HBX hb0
    go_wp2_with fail
    go_ret
    exact ⟨by rw [HT.out]; rfl, hb3⟩
  · rw [h1] at hcall
    have r1 : (n == 0) = true := by rw [h2]; rfl
    have HV2 := HV.out
    rw [h1, r1] at HV2
    have HT := Lib.hid (show R = -1 from HV2)
    clear HV HV2 h1 h2
    go_enter Tryz.func32, Tryz.ntmps32
    go_wp2_with fail
    with_reducible refine hcall.mono ?_
    clear hcall
    rintro e w2 ⟨rfl, hb2⟩
    have HBX := (hb2.block w.heap.size (by simp)).trans hx0
    have k2 : w2.cell? ⟨w.heap.size, 2, none⟩ = some (.int .u32 n) := by rw [cell_of_row _ _ _ _ _ _ HBX]; rfl
    have hb3 := hb0.trans (hb2.mono (by simp))
    clear hb2 hx0 HBX hb0
    go_wp2_with fail
    go_ret
    exact ⟨by rw [HT.out]; rfl, hb3⟩
  · rw [h1] at hcall
    have r1 : (n == 0) = false := by rw [beq_eq_false_iff_ne]; exact h2
    have HV2 := HV.out
    rw [h1, r1] at HV2
    have HT := Lib.hid (show R = -1 from HV2)
    clear HV HV2 h1 h2
    go_enter Tryz.func32, Tryz.ntmps32
    go_wp2_with fail
    with_reducible refine hcall.mono ?_
    clear hcall
    rintro e w2 ⟨rfl, hb2⟩
    have HBX := (hb2.block w.heap.size (by simp)).trans hx0
    have k2 : w2.cell? ⟨w.heap.size, 2, none⟩ = some (.int .u32 n) := by rw [cell_of_row _ _ _ _ _ _ HBX]; rfl
    have hb3 := hb0.trans (hb2.mono (by simp))
    clear hb2 hx0 HBX hb0
    go_wp2_with fail
    go_ret
    exact ⟨by rw [HT.out]; rfl, hb3⟩
set_option maxHeartbeats 2000000 in
set_option maxRecDepth 100000 in
theorem qnd_3 (t : List UInt8) (n : Int) (ht : t.length ≤ 1000000000) (hn : 0 ≤ n) (hn2 : n < 4294967296) (w : World) :
    Calls Tryz.prog 32 #[.agg #[.int .i64 3, .string (str t), .int .u32 n]] w fun x w' => x = .returned (.int .i64 (Ex.nd ⟨3, t, n⟩)) ∧ Below w.heap.size w w' := by
  have HV := Lib.hid (show Ex.nd ⟨3, t, n⟩ = if (Ex.idB t && decide (n ≤ 8)) = true then n else -1 from rfl)
  generalize Ex.nd ⟨3, t, n⟩ = R at *
  have hb0 : Below w.heap.size w (w.alloc (.cells #[.int .i64 3, .string (str t), .int .u32 n] 42)) := (Below.refl _ _).alloc (Nat.le_refl _) _
  have hcall := nameQ3 t ht (w.alloc (.cells #[.int .i64 3, .string (str t), .int .u32 n] 42))
  have hx0 := heap_alloc_new w (.cells #[.int .i64 3, .string (str t), .int .u32 n] 42)
  have ha : Ex.idB t = true ∨ Ex.idB t = false := by cases Ex.idB t; exact .inr rfl; exact .inl rfl
  have hz : n ≤ 8 ∨ ¬ n ≤ 8 := Classical.em _
  rcases ha with h1 | h1 <;> rcases hz with h2 | h2
  · rw [h1] at hcall
    have r1 : decide (n ≤ 8) = true := by simp; omega
    have HV2 := HV.out
    rw [h1, r1] at HV2
    have HT := Lib.hid (show R = n from HV2)
    clear HV HV2 h1 h2
    go_enter Tryz.func32, Tryz.ntmps32
    go_wp2_with fail
    with_reducible refine hcall.mono ?_
    clear hcall
    rintro e w2 ⟨rfl, hb2⟩
    have HBX := (hb2.block w.heap.size (by simp)).trans hx0
    have k2 : w2.cell? ⟨w.heap.size, 2, none⟩ = some (.int .u32 n) := by rw [cell_of_row _ _ _ _ _ _ HBX]; rfl
    have hb3 := hb0.trans (hb2.mono (by simp))
    clear hb2 hx0 HBX hb0
    go_wp2_with fail
    go_ret
    exact ⟨by rw [HT.out]; rfl, hb3⟩
  · rw [h1] at hcall
    have r1 : decide (n ≤ 8) = false := by simp; omega
    have HV2 := HV.out
    rw [h1, r1] at HV2
    have HT := Lib.hid (show R = -1 from HV2)
    clear HV HV2 h1 h2
    go_enter Tryz.func32, Tryz.ntmps32
    go_wp2_with fail
    with_reducible refine hcall.mono ?_
    clear hcall
    rintro e w2 ⟨rfl, hb2⟩
    have HBX := (hb2.block w.heap.size (by simp)).trans hx0
    have k2 : w2.cell? ⟨w.heap.size, 2, none⟩ = some (.int .u32 n) := by rw [cell_of_row _ _ _ _ _ _ HBX]; rfl
    have hb3 := hb0.trans (hb2.mono (by simp))
    clear hb2 hx0 HBX hb0
    go_wp2_with fail
    go_ret
    exact ⟨by rw [HT.out]; rfl, hb3⟩
  · rw [h1] at hcall
    have r1 : decide (n ≤ 8) = true := by simp; omega
    have HV2 := HV.out
    rw [h1, r1] at HV2
    have HT := Lib.hid (show R = -1 from HV2)
    clear HV HV2 h1 h2
    go_enter Tryz.func32, Tryz.ntmps32
    go_wp2_with fail
    with_reducible refine hcall.mono ?_
    clear hcall
    rintro e w2 ⟨rfl, hb2⟩
    have HBX := (hb2.block w.heap.size (by simp)).trans hx0
    have k2 : w2.cell? ⟨w.heap.size, 2, none⟩ = some (.int .u32 n) := by rw [cell_of_row _ _ _ _ _ _ HBX]; rfl
    have hb3 := hb0.trans (hb2.mono (by simp))
    clear hb2 hx0 HBX hb0
    go_wp2_with fail
    go_ret
    exact ⟨by rw [HT.out]; rfl, hb3⟩
  · rw [h1] at hcall
    have r1 : decide (n ≤ 8) = false := by simp; omega
    have HV2 := HV.out
    rw [h1, r1] at HV2
    have HT := Lib.hid (show R = -1 from HV2)
    clear HV HV2 h1 h2
    go_enter Tryz.func32, Tryz.ntmps32
    go_wp2_with fail
    with_reducible refine hcall.mono ?_
    clear hcall
    rintro e w2 ⟨rfl, hb2⟩
    have HBX := (hb2.block w.heap.size (by simp)).trans hx0
    have k2 : w2.cell? ⟨w.heap.size, 2, none⟩ = some (.int .u32 n) := by rw [cell_of_row _ _ _ _ _ _ HBX]; rfl
    have hb3 := hb0.trans (hb2.mono (by simp))
    clear hb2 hx0 HBX hb0
    go_wp2_with fail
    go_ret
    exact ⟨by rw [HT.out]; rfl, hb3⟩
set_option maxHeartbeats 2000000 in
set_option maxRecDepth 100000 in
theorem qnd_4 (t : List UInt8) (n : Int) (_ht : t.length ≤ 1000000000) (_hn : 0 ≤ n) (_hn2 : n < 4294967296) (w : World) :
    Calls Tryz.prog 32 #[.agg #[.int .i64 4, .string (str t), .int .u32 n]] w fun x w' => x = .returned (.int .i64 (Ex.nd ⟨4, t, n⟩)) ∧ Below w.heap.size w w' := by
  have HV := Lib.hid (show Ex.nd ⟨4, t, n⟩ = if ((t == []) && (n == 0)) = true then 1 else -1 from rfl)
  generalize Ex.nd ⟨4, t, n⟩ = R at *
  have hb0 : Below w.heap.size w (w.alloc (.cells #[.int .i64 4, .string (str t), .int .u32 n] 42)) := (Below.refl _ _).alloc (Nat.le_refl _) _
  have ha : t = [] ∨ t ≠ [] := Classical.em _
  have hz : n = 0 ∨ n ≠ 0 := Classical.em _
  rcases ha with h1 | h1 <;> rcases hz with h2 | h2
  · have p1 : (str t).toList = [] := by rw [str_list]; exact h1
    have p2 : (t == []) = true := by rw [h1]; rfl
    have r1 : (n == 0) = true := by rw [h2]; rfl
    have HV2 := HV.out
    rw [p2, r1] at HV2
    have HT := Lib.hid (show R = 1 from HV2)
    clear HV HV2 h1 h2
    go_enter Tryz.func32, Tryz.ntmps32
    go_wp2_with fail
    go_ret
    exact ⟨by rw [HT.out]; rfl, hb0⟩
  · have p1 : (str t).toList = [] := by rw [str_list]; exact h1
    have p2 : (t == []) = true := by rw [h1]; rfl
    have r1 : (n == 0) = false := by rw [beq_eq_false_iff_ne]; exact h2
    have HV2 := HV.out
    rw [p2, r1] at HV2
    have HT := Lib.hid (show R = -1 from HV2)
    clear HV HV2 h1 h2
    go_enter Tryz.func32, Tryz.ntmps32
    go_wp2_with fail
    go_ret
    exact ⟨by rw [HT.out]; rfl, hb0⟩
  · have p1 : ¬ (str t).toList = [] := by rw [str_list]; exact h1
    have p2 : (t == []) = false := by rw [beq_eq_false_iff_ne]; exact h1
    have p3 : (str t).toList.isEmpty = false := by rw [str_list]; cases t with | nil => exact absurd rfl h1 | cons _ _ => rfl
    have p4 : ((str t).toList == []) = false := by rw [beq_eq_false_iff_ne]; exact p1
    have r1 : (n == 0) = true := by rw [h2]; rfl
    have HV2 := HV.out
    rw [p2, r1] at HV2
    have HT := Lib.hid (show R = -1 from HV2)
    clear HV HV2 h1 h2
    go_enter Tryz.func32, Tryz.ntmps32
    go_wp2_with fail
    go_ret
    exact ⟨by rw [HT.out]; rfl, hb0⟩
  · have p1 : ¬ (str t).toList = [] := by rw [str_list]; exact h1
    have p2 : (t == []) = false := by rw [beq_eq_false_iff_ne]; exact h1
    have p3 : (str t).toList.isEmpty = false := by rw [str_list]; cases t with | nil => exact absurd rfl h1 | cons _ _ => rfl
    have p4 : ((str t).toList == []) = false := by rw [beq_eq_false_iff_ne]; exact p1
    have r1 : (n == 0) = false := by rw [beq_eq_false_iff_ne]; exact h2
    have HV2 := HV.out
    rw [p2, r1] at HV2
    have HT := Lib.hid (show R = -1 from HV2)
    clear HV HV2 h1 h2
    go_enter Tryz.func32, Tryz.ntmps32
    go_wp2_with fail
    go_ret
    exact ⟨by rw [HT.out]; rfl, hb0⟩
set_option maxHeartbeats 2000000 in
set_option maxRecDepth 100000 in
theorem qnd_5 (t : List UInt8) (n : Int) (_ht : t.length ≤ 1000000000) (_hn : 0 ≤ n) (_hn2 : n < 4294967296) (w : World) :
    Calls Tryz.prog 32 #[.agg #[.int .i64 5, .string (str t), .int .u32 n]] w fun x w' => x = .returned (.int .i64 (Ex.nd ⟨5, t, n⟩)) ∧ Below w.heap.size w w' := by
  have HV := Lib.hid (show Ex.nd ⟨5, t, n⟩ = if ((t == []) && (n == 0)) = true then 0 else -1 from rfl)
  generalize Ex.nd ⟨5, t, n⟩ = R at *
  have hb0 : Below w.heap.size w (w.alloc (.cells #[.int .i64 5, .string (str t), .int .u32 n] 42)) := (Below.refl _ _).alloc (Nat.le_refl _) _
  have ha : t = [] ∨ t ≠ [] := Classical.em _
  have hz : n = 0 ∨ n ≠ 0 := Classical.em _
  rcases ha with h1 | h1 <;> rcases hz with h2 | h2
  · have p1 : (str t).toList = [] := by rw [str_list]; exact h1
    have p2 : (t == []) = true := by rw [h1]; rfl
    have r1 : (n == 0) = true := by rw [h2]; rfl
    have HV2 := HV.out
    rw [p2, r1] at HV2
    have HT := Lib.hid (show R = 0 from HV2)
    clear HV HV2 h1 h2
    go_enter Tryz.func32, Tryz.ntmps32
    go_wp2_with fail
    go_ret
    exact ⟨by rw [HT.out]; rfl, hb0⟩
  · have p1 : (str t).toList = [] := by rw [str_list]; exact h1
    have p2 : (t == []) = true := by rw [h1]; rfl
    have r1 : (n == 0) = false := by rw [beq_eq_false_iff_ne]; exact h2
    have HV2 := HV.out
    rw [p2, r1] at HV2
    have HT := Lib.hid (show R = -1 from HV2)
    clear HV HV2 h1 h2
    go_enter Tryz.func32, Tryz.ntmps32
    go_wp2_with fail
    go_ret
    exact ⟨by rw [HT.out]; rfl, hb0⟩
  · have p1 : ¬ (str t).toList = [] := by rw [str_list]; exact h1
    have p2 : (t == []) = false := by rw [beq_eq_false_iff_ne]; exact h1
    have p3 : (str t).toList.isEmpty = false := by rw [str_list]; cases t with | nil => exact absurd rfl h1 | cons _ _ => rfl
    have p4 : ((str t).toList == []) = false := by rw [beq_eq_false_iff_ne]; exact p1
    have r1 : (n == 0) = true := by rw [h2]; rfl
    have HV2 := HV.out
    rw [p2, r1] at HV2
    have HT := Lib.hid (show R = -1 from HV2)
    clear HV HV2 h1 h2
    go_enter Tryz.func32, Tryz.ntmps32
    go_wp2_with fail
    go_ret
    exact ⟨by rw [HT.out]; rfl, hb0⟩
  · have p1 : ¬ (str t).toList = [] := by rw [str_list]; exact h1
    have p2 : (t == []) = false := by rw [beq_eq_false_iff_ne]; exact h1
    have p3 : (str t).toList.isEmpty = false := by rw [str_list]; cases t with | nil => exact absurd rfl h1 | cons _ _ => rfl
    have p4 : ((str t).toList == []) = false := by rw [beq_eq_false_iff_ne]; exact p1
    have r1 : (n == 0) = false := by rw [beq_eq_false_iff_ne]; exact h2
    have HV2 := HV.out
    rw [p2, r1] at HV2
    have HT := Lib.hid (show R = -1 from HV2)
    clear HV HV2 h1 h2
    go_enter Tryz.func32, Tryz.ntmps32
    go_wp2_with fail
    go_ret
    exact ⟨by rw [HT.out]; rfl, hb0⟩
set_option maxHeartbeats 2000000 in
set_option maxRecDepth 100000 in
theorem qnd_6 (t : List UInt8) (n : Int) (_ht : t.length ≤ 1000000000) (_hn : 0 ≤ n) (_hn2 : n < 4294967296) (w : World) :
    Calls Tryz.prog 32 #[.agg #[.int .i64 6, .string (str t), .int .u32 n]] w fun x w' => x = .returned (.int .i64 (Ex.nd ⟨6, t, n⟩)) ∧ Below w.heap.size w w' := by
  have HV := Lib.hid (show Ex.nd ⟨6, t, n⟩ = if (Ex.unL t && (n == 0)) = true then 1 else -1 from rfl)
  generalize Ex.nd ⟨6, t, n⟩ = R at *
  have hb0 : Below w.heap.size w (w.alloc (.cells #[.int .i64 6, .string (str t), .int .u32 n] 42)) := (Below.refl _ _).alloc (Nat.le_refl _) _
  have hcall := unQ3 t (w.alloc (.cells #[.int .i64 6, .string (str t), .int .u32 n] 42))
  generalize (unR t 0).1 = rr at *
  have ha : Ex.unL t = true ∨ Ex.unL t = false := by cases Ex.unL t; exact .inr rfl; exact .inl rfl
  have hz : n = 0 ∨ n ≠ 0 := Classical.em _
  rcases ha with h1 | h1 <;> rcases hz with h2 | h2
  · rw [h1] at hcall
    have r1 : (n == 0) = true := by rw [h2]; rfl
    have HV2 := HV.out
    rw [h1, r1] at HV2
    have HT := Lib.hid (show R = 1 from HV2)
    clear HV HV2 h1 h2
    go_enter Tryz.func32, Tryz.ntmps32
    go_wp2_with fail
    with_reducible refine hcall.mono ?_
    clear hcall
    rintro e w2 ⟨rfl, rfl⟩
    go_wp2_with fail
    go_ret
    exact ⟨by rw [HT.out]; rfl, hb0⟩
  · rw [h1] at hcall
    have r1 : (n == 0) = false := by rw [beq_eq_false_iff_ne]; exact h2
    have HV2 := HV.out
    rw [h1, r1] at HV2
    have HT := Lib.hid (show R = -1 from HV2)
    clear HV HV2 h1 h2
    go_enter Tryz.func32, Tryz.ntmps32
    go_wp2_with fail
    with_reducible refine hcall.mono ?_
    clear hcall
    rintro e w2 ⟨rfl, rfl⟩
    go_wp2_with fail
    go_ret
    exact ⟨by rw [HT.out]; rfl, hb0⟩
  · rw [h1] at hcall
    have r1 : (n == 0) = true := by rw [h2]; rfl
    have HV2 := HV.out
    rw [h1, r1] at HV2
    have HT := Lib.hid (show R = -1 from HV2)
    clear HV HV2 h1 h2
    go_enter Tryz.func32, Tryz.ntmps32
    go_wp2_with fail
    with_reducible refine hcall.mono ?_
    clear hcall
    rintro e w2 ⟨rfl, rfl⟩
    go_wp2_with fail
    go_ret
    exact ⟨by rw [HT.out]; rfl, hb0⟩
  · rw [h1] at hcall
    have r1 : (n == 0) = false := by rw [beq_eq_false_iff_ne]; exact h2
    have HV2 := HV.out
    rw [h1, r1] at HV2
    have HT := Lib.hid (show R = -1 from HV2)
    clear HV HV2 h1 h2
    go_enter Tryz.func32, Tryz.ntmps32
    go_wp2_with fail
    with_reducible refine hcall.mono ?_
    clear hcall
    rintro e w2 ⟨rfl, rfl⟩
    go_wp2_with fail
    go_ret
    exact ⟨by rw [HT.out]; rfl, hb0⟩
set_option maxHeartbeats 2000000 in
set_option maxRecDepth 100000 in
theorem qnd_7 (t : List UInt8) (n : Int) (_ht : t.length ≤ 1000000000) (_hn : 0 ≤ n) (_hn2 : n < 4294967296) (w : World) :
    Calls Tryz.prog 32 #[.agg #[.int .i64 7, .string (str t), .int .u32 n]] w fun x w' => x = .returned (.int .i64 (Ex.nd ⟨7, t, n⟩)) ∧ Below w.heap.size w w' := by
  have HV := Lib.hid (show Ex.nd ⟨7, t, n⟩ = if (decide (0 < Ex.levL t) && (n == 0)) = true then 2 else -1 from rfl)
  generalize Ex.nd ⟨7, t, n⟩ = R at *
  have hb0 : Below w.heap.size w (w.alloc (.cells #[.int .i64 7, .string (str t), .int .u32 n] 42)) := (Below.refl _ _).alloc (Nat.le_refl _) _
  have hcall := levQ3 t (w.alloc (.cells #[.int .i64 7, .string (str t), .int .u32 n] 42))
  generalize Ex.levL t = lv at *
  have ha : 0 < lv ∨ ¬ 0 < lv := Classical.em _
  have hz : n = 0 ∨ n ≠ 0 := Classical.em _
  rcases ha with h1 | h1 <;> rcases hz with h2 | h2
  · have p1 : decide (0 < lv) = true := by simp; omega
    have p2 : decide ((0 : Int) < (lv : Int)) = true := by simp; omega
    have r1 : (n == 0) = true := by rw [h2]; rfl
    have HV2 := HV.out
    rw [p1, r1] at HV2
    have HT := Lib.hid (show R = 2 from HV2)
    clear HV HV2 h1 h2
    go_enter Tryz.func32, Tryz.ntmps32
    go_wp2_with fail
    with_reducible refine hcall.mono ?_
    clear hcall
    rintro e w2 ⟨rfl, rfl⟩
    go_wp2_with fail
    go_ret
    exact ⟨by rw [HT.out]; rfl, hb0⟩
  · have p1 : decide (0 < lv) = true := by simp; omega
    have p2 : decide ((0 : Int) < (lv : Int)) = true := by simp; omega
    have r1 : (n == 0) = false := by rw [beq_eq_false_iff_ne]; exact h2
    have HV2 := HV.out
    rw [p1, r1] at HV2
    have HT := Lib.hid (show R = -1 from HV2)
    clear HV HV2 h1 h2
    go_enter Tryz.func32, Tryz.ntmps32
    go_wp2_with fail
    with_reducible refine hcall.mono ?_
    clear hcall
    rintro e w2 ⟨rfl, rfl⟩
    go_wp2_with fail
    go_ret
    exact ⟨by rw [HT.out]; rfl, hb0⟩
  · have p1 : decide (0 < lv) = false := by simp; omega
    have p2 : decide ((0 : Int) < (lv : Int)) = false := by simp; omega
    have r1 : (n == 0) = true := by rw [h2]; rfl
    have HV2 := HV.out
    rw [p1, r1] at HV2
    have HT := Lib.hid (show R = -1 from HV2)
    clear HV HV2 h1 h2
    go_enter Tryz.func32, Tryz.ntmps32
    go_wp2_with fail
    with_reducible refine hcall.mono ?_
    clear hcall
    rintro e w2 ⟨rfl, rfl⟩
    go_wp2_with fail
    go_ret
    exact ⟨by rw [HT.out]; rfl, hb0⟩
  · have p1 : decide (0 < lv) = false := by simp; omega
    have p2 : decide ((0 : Int) < (lv : Int)) = false := by simp; omega
    have r1 : (n == 0) = false := by rw [beq_eq_false_iff_ne]; exact h2
    have HV2 := HV.out
    rw [p1, r1] at HV2
    have HT := Lib.hid (show R = -1 from HV2)
    clear HV HV2 h1 h2
    go_enter Tryz.func32, Tryz.ntmps32
    go_wp2_with fail
    with_reducible refine hcall.mono ?_
    clear hcall
    rintro e w2 ⟨rfl, rfl⟩
    go_wp2_with fail
    go_ret
    exact ⟨by rw [HT.out]; rfl, hb0⟩
set_option maxRecDepth 100000 in
theorem qnd_no (k : Int) (hk : ¬ k = 1 ∧ ¬ k = 2 ∧ ¬ k = 3 ∧ ¬ k = 4 ∧ ¬ k = 5 ∧ ¬ k = 6 ∧ ¬ k = 7) (t : List UInt8) (n : Int) (w : World) :
    Calls Tryz.prog 32 #[.agg #[.int .i64 k, .string (str t), .int .u32 n]] w fun x w' => x = .returned (.int .i64 (-1)) ∧ Below w.heap.size w w' := by
  obtain ⟨h1, h2, h3, h4, h5, h6, h7⟩ := hk
  have q1 : (k == 1) = false := beq_eq_false_iff_ne.2 h1
  have q2 : (k == 2) = false := beq_eq_false_iff_ne.2 h2
  have q3 : (k == 3) = false := beq_eq_false_iff_ne.2 h3
  have q4 : (k == 4) = false := beq_eq_false_iff_ne.2 h4
  have q5 : (k == 5) = false := beq_eq_false_iff_ne.2 h5
  have q6 : (k == 6) = false := beq_eq_false_iff_ne.2 h6
  have q7 : (k == 7) = false := beq_eq_false_iff_ne.2 h7
  have hb0 : Below w.heap.size w (w.alloc (.cells #[.int .i64 k, .string (str t), .int .u32 n] 42)) := (Below.refl _ _).alloc (Nat.le_refl _) _
  clear h1 h2 h3 h4 h5 h6 h7
  go_enter Tryz.func32, Tryz.ntmps32
  go_wp2_with fail
  go_ret
  exact ⟨rfl, hb0⟩
theorem qnd_any (o : Ex.Op) (ht : o.text.length ≤ 1000000000) (hn : 0 ≤ o.n) (hn2 : o.n < 4294967296) (w : World) :
    Calls Tryz.prog 32 #[.agg #[.int .i64 o.kind, .string (str o.text), .int .u32 o.n]] w fun x w' => x = .returned (.int .i64 (Ex.nd o)) ∧ Below w.heap.size w w' := by
  obtain ⟨k, t, n⟩ := o
  dsimp only at ht hn hn2 ⊢
  by_cases h1 : k = 1
  · subst h1; exact qnd_1 t n ht hn hn2 w
  by_cases h2 : k = 2
  · subst h2; exact qnd_2 t n ht hn hn2 w
  by_cases h3 : k = 3
  · subst h3; exact qnd_3 t n ht hn hn2 w
  by_cases h4 : k = 4
  · subst h4; exact qnd_4 t n ht hn hn2 w
  by_cases h5 : k = 5
  · subst h5; exact qnd_5 t n ht hn hn2 w
  by_cases h6 : k = 6
  · subst h6; exact qnd_6 t n ht hn hn2 w
  by_cases h7 : k = 7
  · subst h7; exact qnd_7 t n ht hn hn2 w
  · have e : Ex.nd ⟨k, t, n⟩ = -1 := by unfold Ex.nd Ex.opr; simp [h1, h2, h3, h4, h5, h6, h7]
    rw [e]
    exact qnd_no k ⟨h1, h2, h3, h4, h5, h6, h7⟩ t n w
end Go.Proofs.YtndehkoglgakpaaGreatDoor
