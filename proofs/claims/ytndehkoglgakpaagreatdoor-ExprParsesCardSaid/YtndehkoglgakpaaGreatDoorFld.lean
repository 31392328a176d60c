/- Fold of the program. No condition but the lengths. -/
import Derived.Test.YtndehkoglgakpaaGreatDoorChe
import Derived.Deep.Onto
namespace Go.Proofs.YtndehkoglgakpaaGreatDoor
open Go.RowKit Go.Deep

theorem Ex.fold1_un (pre : List Ex.Op) (a o : Ex.Op) (h : o.kind = 6) : Ex.fold1 (pre ++ [a]) o = if Ex.isNum a = true then pre ++ [⟨1, [], (unR o.text a.n).1⟩] else (pre ++ [a]) ++ [o] := by
  unfold Ex.fold1
  have e : (pre ++ [a]).length - 1 = pre.length := by simp
  have g1 : (pre ++ [a]).getD pre.length default = a := by simp [List.getD]
  rw [e, List.drop_left, List.take_left, g1]
  have h7 : ¬ o.kind = 7 := by omega
  cases hn : Ex.isNum a <;> simp [h, hn]
theorem Ex.fold1_bi (pre : List Ex.Op) (a b o : Ex.Op) (h : o.kind = 7) : Ex.fold1 (pre ++ [a, b]) o = if (Ex.isNum a && Ex.isNum b) = true then pre ++ [⟨1, [], (biR o.text a.n b.n).1⟩] else (pre ++ [a, b]) ++ [o] := by
  unfold Ex.fold1
  have e : (pre ++ [a, b]).length - 2 = pre.length := by simp
  have e2 : (pre ++ [a, b]).length - 1 = pre.length + 1 := by simp
  have g1 : (pre ++ [a, b]).getD pre.length default = a := by simp [List.getD]
  have g2 : (pre ++ [a, b]).getD (pre.length + 1) default = b := by simp [List.getD]
  rw [if_neg (by rw [h]; simp), e, List.drop_left, List.take_left, e2, g1, g2]
  cases hn : Ex.isNum a <;> cases hm : Ex.isNum b <;> simp [h, hn, hm]
theorem Ex.fold1_no (acc : List Ex.Op) (o : Ex.Op) (h6 : o.kind ≠ 6) (h7 : o.kind ≠ 7) : Ex.fold1 acc o = acc ++ [o] := by
  unfold Ex.fold1
  rw [if_neg (fun h => h6 h.1), if_neg (fun h => h7 h.1)]
/-- A beginning of what is owned. -/
theorem own_take {w : World} {B : Nat} {e : TypeId} {size n m cap g : Nat} {xs : List Value} (h : w.ownsRow B e size (.slice (some ⟨g, 0, none⟩) n cap) n xs) (hm : m ≤ n) : w.ownsRow B e size (.slice (some ⟨g, 0, none⟩) m cap) m (xs.take (m * size)) := by
  have hl := h.1
  rcases h.2 with ⟨h0, _⟩ | ⟨g', cap', cur, hv, hb, hg, hn, hc, hs, ht⟩
  · cases h0
  · cases hv
    refine ⟨by rw [List.length_take, hl]; exact Nat.min_eq_left (Nat.mul_le_mul_right _ hm), .inr ⟨g, cap, cur, rfl, hb, hg, by omega, hc, hs, ?_⟩⟩
    rw [← ht, List.take_take, Nat.min_eq_left (Nat.mul_le_mul_right _ hm)]
theorem opsOf_app (a b : List Ex.Op) : opsOf (a ++ b) = opsOf a ++ opsOf b := by unfold opsOf; rw [List.flatMap_append]
theorem opsOf_take (a b : List Ex.Op) : (opsOf (a ++ b)).take (a.length * 3) = opsOf a := by rw [opsOf_app, List.take_left' (opsOf_len a)]
set_option maxHeartbeats 2000000 in
set_option maxRecDepth 100000 in
theorem comp_any (o : Ex.Op) (w : World) :
    Calls Tryz.prog 38 #[.agg #[.int .i64 o.kind, .string (str o.text), .int .u32 o.n]] w fun x w' => w' = w.alloc (.cells #[.int .i64 o.kind, .string (str o.text), .int .u32 o.n] 42) ∧
      x = .returned (.tuple (if o.kind = 6 then #[.int .i64 1, .func (Fn.func 64) #[] #[.pointer (some ⟨w.heap.size, 0, none⟩)]] else if o.kind = 7 then #[.int .i64 2, .func (Fn.func 66) #[] #[.pointer (some ⟨w.heap.size, 0, none⟩)]] else #[.int .i64 0, .nilFunc])) := by
  by_cases h6 : o.kind = 6
  · have q6 : (o.kind == 6) = true := by rw [h6]; rfl
    rw [if_pos h6]
    clear h6
    go_enter Tryz.func38, Tryz.ntmps38
    go_wp2_with fail
    go_ret2
    exact ⟨rfl, rfl⟩
  · have q6 : (o.kind == 6) = false := beq_eq_false_iff_ne.2 h6
    rw [if_neg h6]
    by_cases h7 : o.kind = 7
    · have q7 : (o.kind == 7) = true := by rw [h7]; rfl
      rw [if_pos h7]
      clear h6 h7
      go_enter Tryz.func38, Tryz.ntmps38
      go_wp2_with fail
      go_ret2
      exact ⟨rfl, rfl⟩
    · have q7 : (o.kind == 7) = false := beq_eq_false_iff_ne.2 h7
      rw [if_neg h7]
      clear h6 h7
      go_enter Tryz.func38, Tryz.ntmps38
      go_wp2_with fail
      go_ret2
      exact ⟨rfl, rfl⟩
theorem unaryQ (t : List UInt8) (x : Int) (w : World) : Calls Tryz.prog 65 #[.string (str t), .int .u32 x] w fun e w' => e = .returned (.tuple #[.int .u32 (unR t x).1, .bool (unR t x).2]) ∧ w' = w := (unary_any (str t) x w).mono fun _ _ h => ⟨by rw [h.1, str_list]; rfl, h.2.symm⟩
theorem binaryQ (t : List UInt8) (x y : Int) (hy : 0 ≤ y) (w : World) : Calls Tryz.prog 67 #[.string (str t), .int .u32 x, .int .u32 y] w fun e w' => e = .returned (.tuple #[.int .u32 (biR t x y).1, .bool (biR t x y).2]) ∧ w' = w := (binary_any2 (str t) x y hy w).mono fun _ _ h => ⟨by rw [h.1, str_list]; rfl, h.2.symm⟩
set_option maxHeartbeats 2000000 in
set_option maxRecDepth 100000 in
theorem comp1_any (g h o n c : Nat) (t : List UInt8) (x : Int) (w : World) (hn : 1 ≤ n) (ct : w.cell? ⟨h, 1, none⟩ = some (.string (str t))) (cx : w.cell? ⟨g, o + 2, none⟩ = some (.int .u32 x)) :
    Calls Tryz.prog 64 #[.slice (some ⟨g, o, none⟩) n c, .pointer (some ⟨h, 0, none⟩)] w fun e w' => e = .returned (.int .u32 (unR t x).1) ∧ Below w.heap.size w w' := by
  have i1 : (0 : Int) < (n : Int) := by omega
  have i2 : 0 < n := by omega
  have hq := unaryQ t x
  generalize unR t x = r at *
  go_enter Tryz.func64, Tryz.ntmps64
  go_wp2_with fail
  go_quiet ((go_at_call 65; exact Calls.quiet_of_same (hq _)))
  have hb9 := below_drewN (Below.refl w.heap.size w) nq
  go_wp2_with fail
  go_ret
  exact ⟨rfl, hb9⟩
set_option maxHeartbeats 2000000 in
set_option maxRecDepth 100000 in
theorem comp2_any (g h o n c : Nat) (t : List UInt8) (x y : Int) (hy : 0 ≤ y) (w : World) (hn : 2 ≤ n) (ct : w.cell? ⟨h, 1, none⟩ = some (.string (str t))) (cx : w.cell? ⟨g, o + 2, none⟩ = some (.int .u32 x)) (cy : w.cell? ⟨g, o + 3 + 2, none⟩ = some (.int .u32 y)) :
    Calls Tryz.prog 66 #[.slice (some ⟨g, o, none⟩) n c, .pointer (some ⟨h, 0, none⟩)] w fun e w' => e = .returned (.int .u32 (biR t x y).1) ∧ Below w.heap.size w w' := by
  have i1 : (0 : Int) < (n : Int) := by omega
  have i2 : 0 < n := by omega
  have i3 : (1 : Int) < (n : Int) := by omega
  have i4 : 1 < n := by omega
  have hq := binaryQ t x y hy
  generalize biR t x y = r at *
  go_enter Tryz.func66, Tryz.ntmps66
  go_wp2_with fail
  go_quiet ((go_at_call 67; exact Calls.quiet_of_same (hq _)))
  have hb9 := below_drewN (Below.refl w.heap.size w) nq
  go_wp2_with fail
  go_ret
  exact ⟨rfl, hb9⟩
set_option maxRecDepth 100000 in
theorem cmp_nil (W : World) : (binOp BinOp.neq 74 .nilFunc .nilFunc).run Tryz.prog W = .ok (.bool false) W := by kernel_rfl
set_option maxRecDepth 100000 in
theorem cmp_func1 (p : Value) (W : World) : (binOp BinOp.neq 74 (.func (Fn.func 64) #[] #[p]) .nilFunc).run Tryz.prog W = .ok (.bool true) W := by kernel_rfl
set_option maxRecDepth 100000 in
theorem cmp_func2 (p : Value) (W : World) : (binOp BinOp.neq 74 (.func (Fn.func 66) #[] #[p]) .nilFunc).run Tryz.prog W = .ok (.bool true) W := by kernel_rfl
end Go.Proofs.YtndehkoglgakpaaGreatDoor
