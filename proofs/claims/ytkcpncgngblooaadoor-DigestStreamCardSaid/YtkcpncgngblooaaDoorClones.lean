/- The law DigestClones returns true. Condition: the round constants lie in their variable. -/
import Derived.Test.YtkcpncgngblooaaDoorClone
namespace Go.Proofs.YtkcpncgngblooaaDoor
open Go.RowKit
theorem Holds.alloc {w : World} {b : Nat} {l : List UInt8} (h : Holds w b l) (x : Obj) : Holds (w.alloc x) b l := World.rowIs.alloc h x
theorem cat_one (a : ByteArray) : cat [a] = a.data.toList := by simp [cat]
theorem cat_two (a b : ByteArray) : cat [a, b] = a.data.toList ++ b.data.toList := by simp [cat]
set_option maxHeartbeats 4000000 in
set_option maxRecDepth 100000 in
theorem clones_short (a b c : ByteArray) (w : World) (hC : Consts w) (ha : a.size ≤ 300) (hb : b.size ≤ 300) (hc : c.size ≤ 300) :
    Calls Tryd.prog 7 #[.string a, .string b, .string c] w fun e w' => e = .returned (.bool true) ∧ Below w.heap.size w w' := by
  have da : decide ((300 : Int) < a.size) = false := by simp; omega
  have db : decide ((300 : Int) < b.size) = false := by simp; omega
  have dc : decide ((300 : Int) < c.size) = false := by simp; omega
  go_enter Tryd.func7, Tryd.ntmps7
  go_wp2_with fail
  refine (awake_any _ hC).mono ?_
  rintro e w1 ⟨rfl, hb1⟩
  go_wp2_with fail
  refine (holds_new _).mono ?_
  rintro e w2 ⟨rfl, hS, hb2⟩
  have hsz := hb1.size
  have hpos := hC.1
  obtain ⟨s, hs⟩ : ∃ s, s = w1.heap.size := ⟨_, rfl⟩
  rw [← hs] at hS
  rw [← hs]
  have hws : w.heap.size ≤ s := by omega
  replace hb1 := hb1.trans (hb2.mono hb1.size)
  clear hb2 hs hsz
  go_wp2_with fail
  have hA : StrsAt (w2.alloc (.cells #[Value.string a] 9)) s (some ⟨w2.heap.size, 0, none⟩) [a] := strs_new w2 s [a] (World.rowIs.lt hS)
  have hb2 := hb1.alloc hb1.size (.cells #[Value.string a] 9)
  refine (holds_write [] s _ 1 [a] _ (hC.below hb2) (by omega) (hS.alloc _) hA (by simp) (by rw [cat_one]; simp [size_list]; omega)).mono ?_
  rintro e w3 ⟨rfl, hS3, hg⟩
  replace hb1 := hb2.trans (below_of_grown hg (by omega) hb2.size)
  clear hb2 hA hg hS
  rw [cat_one, List.nil_append] at hS3
  go_wp2_with fail
  refine (holds_clone _ s _ hS3).mono ?_
  rintro e w4 ⟨rfl, hT, hb2⟩
  obtain ⟨t, ht⟩ : ∃ t, t = w3.heap.size := ⟨_, rfl⟩
  have hst : s ≠ t := by have := World.rowIs.lt hS3; omega
  rw [← ht] at hT
  rw [← ht]
  have hsz := hb1.size
  have hwt : w.heap.size ≤ t := by omega
  have hS := hS3.below hb2
  replace hb1 := hb1.trans (hb2.mono hb1.size)
  clear hb2 ht hsz hS3
  go_wp2_with fail
  refine (holds_sum _ t _ (hC.below hb1) hT (by simp [size_list]; omega)).mono ?_
  rintro e w5 ⟨rfl, hb2⟩
  replace hT := hT.below hb2
  replace hS := hS.below hb2
  replace hb1 := hb1.trans (hb2.mono hb1.size)
  clear hb2
  go_wp2_with fail
  refine (holds_sum _ s _ (hC.below hb1) hS (by simp [size_list]; omega)).mono ?_
  rintro e w6 ⟨rfl, hb2⟩
  replace hT := hT.below hb2
  replace hS := hS.below hb2
  replace hb1 := hb1.trans (hb2.mono hb1.size)
  clear hb2
  go_wp2_with fail
  have hA : StrsAt (w6.alloc (.cells #[Value.string b] 9)) s (some ⟨w6.heap.size, 0, none⟩) [b] := strs_new w6 s [b] (World.rowIs.lt hS)
  have hb2 := hb1.alloc hb1.size (.cells #[Value.string b] 9)
  refine (holds_write _ s _ 1 [b] _ (hC.below hb2) (by omega) (hS.alloc _) hA (by simp) (by rw [cat_one]; simp [size_list]; omega)).mono ?_
  rintro e w7 ⟨rfl, hS7, hg⟩
  have e1 : (((a.data.toList.length + (cat [b]).length : Nat)) : Int) = (a.size : Int) + b.size := by rw [cat_one, size_list, size_list]; rfl
  rw [e1]
  clear e1
  replace hT := (hT.alloc _).far hg (Ne.symm hst)
  replace hb1 := hb2.trans (below_of_grown hg (by omega) hb2.size)
  clear hb2 hA hg hS
  rw [cat_one] at hS7
  go_wp2_with fail
  have hA : StrsAt (w7.alloc (.cells #[Value.string c, Value.string b] 9)) t (some ⟨w7.heap.size, 0, none⟩) [c, b] := strs_new w7 t [c, b] (World.rowIs.lt hT)
  have hb2 := hb1.alloc hb1.size (.cells #[Value.string c, Value.string b] 9)
  refine (holds_write _ t _ 2 [c, b] _ (hC.below hb2) (by omega) (hT.alloc _) hA (by simp) (by rw [cat_two]; simp [size_list]; omega)).mono ?_
  rintro e w8 ⟨rfl, hT8, hg⟩
  have hS := (hS7.alloc _).far hg hst
  replace hb1 := hb2.trans (below_of_grown hg (by omega) hb2.size)
  clear hb2 hA hg hS7 hT
  rw [cat_two] at hT8
  have e2 : (((a.data.toList.length + (cat [c, b]).length : Nat)) : Int) = (a.size : Int) + b.size + c.size := by rw [cat_two, List.length_append, size_list, size_list, size_list]; omega
  rw [e2]
  clear e2
  go_wp2_with fail
  refine (holds_sum _ s _ (hC.below hb1) hS (by simp [size_list]; omega)).mono ?_
  rintro e w9 ⟨rfl, hb2⟩
  replace hT := hT8.below hb2
  replace hS := hS.below hb2
  replace hb1 := hb1.trans (hb2.mono hb1.size)
  clear hb2 hT8
  go_wp2_with fail
  refine (sum_any _ _ (hC.below hb1) (by simp; omega)).mono ?_
  rintro e w10 ⟨rfl, hb2⟩
  replace hT := hT.below hb2
  replace hb1 := hb1.trans (hb2.mono hb1.size)
  clear hb2
  rw [digS_L _ _ (app_list a b)]
  go_wp2_with fail
  refine (holds_sum _ t _ (hC.below hb1) hT (by simp [size_list]; omega)).mono ?_
  rintro e w11 ⟨rfl, hb2⟩
  replace hb1 := hb1.trans (hb2.mono hb1.size)
  clear hb2
  go_wp2_with fail
  refine (sum_any _ _ (hC.below hb1) (by simp; omega)).mono ?_
  rintro e w12 ⟨rfl, hb2⟩
  replace hb1 := hb1.trans (hb2.mono hb1.size)
  clear hb2
  rw [digS_L (a ++ c ++ b) (a.data.toList ++ (c.data.toList ++ b.data.toList)) (by rw [app_list, app_list, List.append_assoc])]
  go_wp2_with fail
  go_ret
  exact ⟨rfl, hb1⟩

set_option maxHeartbeats 4000000 in
set_option maxRecDepth 100000 in
theorem clones_long (a b c : ByteArray) (w : World) (hC : Consts w) (h : 300 < a.size ∨ 300 < b.size ∨ 300 < c.size) :
    Calls Tryd.prog 7 #[.string a, .string b, .string c] w fun e w' => e = .returned (.bool true) ∧ Below w.heap.size w w' := by
  by_cases ha : 300 < a.size
  all_goals (by_cases hb : 300 < b.size)
  all_goals
    have da : decide ((300 : Int) < a.size) = decide (300 < a.size) := decide_eq_decide.2 (by omega)
    have db : decide ((300 : Int) < b.size) = decide (300 < b.size) := decide_eq_decide.2 (by omega)
    have dc : decide ((300 : Int) < c.size) = decide (300 < c.size) := decide_eq_decide.2 (by omega)
    simp only [ha, hb, decide_true, decide_false] at da db
    simp only [ha, hb, false_or] at h
  all_goals (first | (have dc' := dc; rw [decide_eq_true h] at dc; clear dc') | skip)
  all_goals
    clear h
    go_enter Tryd.func7, Tryd.ntmps7
    go_wp2_with fail
    refine (awake_any _ hC).mono ?_
    rintro e w1 ⟨rfl, hb1⟩
    go_wp2_with fail
    go_ret
    exact ⟨rfl, hb1⟩
theorem clones_law (a b c : ByteArray) (w : World) (hC : Consts w) :
    Calls Tryd.prog 7 #[.string a, .string b, .string c] w fun e w' => e = .returned (.bool true) ∧ Below w.heap.size w w' := by
  by_cases h : 300 < a.size ∨ 300 < b.size ∨ 300 < c.size
  · exact clones_long a b c w hC h
  · exact clones_short a b c w hC (by omega) (by omega) (by omega)
end Go.Proofs.YtkcpncgngblooaaDoor
