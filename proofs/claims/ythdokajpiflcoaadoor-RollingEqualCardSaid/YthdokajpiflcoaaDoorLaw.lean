/- The chapter's example; the laws of numbers, of moves, and of the field. Conditions: none but the words' lengths. -/
import Derived.Test.YthdokajpiflcoaaDoorRf2
namespace Go.Proofs.YthdokajpiflcoaaDoor
open Go.RowKit Go.Deep
namespace Rl
theorem ex_code : code ([] : List UInt8) = 0 ∧ code [97] = 98 ∧ code [97, 98] = 25285 ∧ hash [[97], [98]] = 99000397 ∧ pw 1 = 1000003 := by decide +kernel
theorem wr_nat {n : Nat} (h : n ≤ 9223372036854775807) : IntKind.i64.wrap (n : Int) = (n : Int) := by rw [IntKind.wrap_i64]; omega
theorem wr64_nat {n : Nat} (h : n ≤ 9223372036854775807) : wrap64 (n : Int) = (n : Int) := by unfold wrap64; omega
theorem wr_add {a b : Nat} (h : a + b ≤ 9223372036854775807) : IntKind.i64.wrap ((a : Int) + (b : Int)) = (a : Int) + (b : Int) := by rw [IntKind.wrap_i64]; omega
theorem wr_res {a b : Nat} (ha : a < P) (hb : b < P) : IntKind.i64.wrap ((a : Int) + (b : Int)) = (a : Int) + (b : Int) := by simp only [P_val] at ha hb; exact wr_add (by omega)
theorem rem_nat {a b s : Nat} (h : s = (a + b) % P) : ((a : Int) + (b : Int)) % 2305843009213693951 = (s : Int) ∧ ((a : Int) + (b : Int)).tmod 2305843009213693951 = (s : Int) := by
  have h1 : ((a : Int) + (b : Int)) % 2305843009213693951 = (s : Int) := by rw [h]; simp only [P_val]; omega
  exact ⟨h1, by rw [Int.tmod_eq_emod_of_nonneg (by omega)]; exact h1⟩
theorem zeros {a b ab : Nat} (h : ab = 0 ↔ a = 0 ∨ b = 0) : ∃ za zb z : Bool, ((a : Int) == 0) = za ∧ ((b : Int) == 0) = zb ∧ ((ab : Int) == 0) = z ∧ z = (za || zb) := by
  refine ⟨_, _, _, rfl, rfl, rfl, ?_⟩
  rw [Bool.eq_iff_iff, Bool.or_eq_true, beq_iff_eq, beq_iff_eq, beq_iff_eq]
  omega
/-- The example's words as they lie. -/
def exO : Obj := .cells #[.string ⟨#[97]⟩, .int .i64 0, .string ⟨#[98]⟩, .int .i64 7] 31 (0, 0)
theorem ex_at (w : World) : LxAt (w.alloc exO) (w.alloc exO).heap.size (some ⟨w.heap.size, 0, none⟩) [⟨[97], 0⟩, ⟨[98], 7⟩] := by
  have h := heap_alloc_new w exO
  intro j hj
  refine ⟨_, _, rfl, ?_, ?_⟩
  · exact blk_lt h
  · have hc : ∀ i, (w.alloc exO).cell? ⟨w.heap.size, i, none⟩ = (#[Value.string ⟨#[97]⟩, .int .i64 0, .string ⟨#[98]⟩, .int .i64 7] : Array Value)[i]? := fun i => cell_of_row _ _ _ _ _ _ h
    match j, hj with
    | 0, _ => exact ⟨(hc 0).trans rfl, (hc 1).trans rfl⟩
    | 1, _ => exact ⟨(hc 2).trans rfl, (hc 3).trans rfl⟩
set_option maxHeartbeats 8000000 in
set_option maxRecDepth 100000 in
theorem awake_any (w : World) : Calls Tryd.prog 4 #[] w fun e w' => e = .returned (.bool true) ∧ Below w.heap.size w w' := by
  obtain ⟨h1, h2, h3, h4, h5⟩ := ex_code
  have hb0 : Below w.heap.size w (w.alloc exO) := (Below.refl _ _).alloc (Nat.le_refl _) _
  have hA := ex_at w
  have HB0 := Lib.hid hb0
  have c1 := code_any ⟨#[]⟩ (w.alloc exO) (by decide)
  have c2 := code_any ⟨#[97]⟩ (w.alloc exO) (by decide)
  have c3 := code_any ⟨#[97, 98]⟩ (w.alloc exO) (by decide)
  have c4 := hash_any [⟨[97], 0⟩, ⟨[98], 7⟩] (some ⟨w.heap.size, 0, none⟩) 2 (w.alloc exO) hA (by decide) (by intro x hx; simp at hx; rcases hx with rfl | rfl <;> decide)
  have c5 := fun w => power_any 1 w
  rw [show code (⟨#[]⟩ : ByteArray).data.toList = 0 from h1] at c1
  rw [show code (⟨#[97]⟩ : ByteArray).data.toList = 98 from h2] at c2
  rw [show code (⟨#[97, 98]⟩ : ByteArray).data.toList = 25285 from h3] at c3
  rw [show hash (txs [⟨[97], 0⟩, ⟨[98], 7⟩]) = 99000397 from h4, show ([⟨[97], 0⟩, ⟨[98], 7⟩] : List Lx).length = 2 from rfl] at c4
  rw [show pwI 1 = 1000003 from h5] at c5
  clear h1 h2 h3 h4 h5 hb0 hA
  go_enter Tryd.func4, Tryd.ntmps4
  go_upto_region 2 with (fail)
  change Code.wp _ _ _ _ (w.alloc exO)
  obtain ⟨W, hW⟩ : ∃ W, W = w.alloc exO := ⟨_, rfl⟩
  rw [← hW] at c1 c2 c3 c4 HB0 ⊢
  clear hW
  go_wp2_with (first
    | (go_at_call 8; (with_reducible refine c1.mono ?_); rintro e w' ⟨rfl, rfl⟩)
    | (go_at_call 8; (with_reducible refine c2.mono ?_); rintro e w' ⟨rfl, rfl⟩)
    | (go_at_call 8; (with_reducible refine c3.mono ?_); rintro e w' ⟨rfl, rfl⟩))
  (with_reducible refine c4.mono ?_); rintro e w4 ⟨rfl, hb⟩
  have HB := Lib.hid (HB0.out.trans (hb.mono HB0.out.size))
  have c5 := c5 w4
  clear hb
  go_wp2_with (go_at_call 9; (with_reducible refine c5.mono ?_); rintro e w' ⟨rfl, rfl⟩)
  go_ret
  exact ⟨rfl, HB.out⟩
end Rl
end Go.Proofs.YthdokajpiflcoaaDoor
