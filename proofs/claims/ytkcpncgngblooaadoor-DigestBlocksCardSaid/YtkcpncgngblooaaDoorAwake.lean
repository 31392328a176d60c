/- The examples of the chapter hold. Condition: the round constants lie in their variable. -/
import Derived.Test.YtkcpncgngblooaaDoorAwk
namespace Go.Proofs.YtkcpncgngblooaaDoor
open Go.RowKit

set_option maxHeartbeats 4000000 in
set_option maxRecDepth 100000 in
theorem awake_any (w : World) (hC : Consts w) :
    Calls Tryd.prog 10 #[] w fun e w' => e = .returned (.bool true) ∧ Below w.heap.size w w' := by
  go_enter Tryd.func10, Tryd.ntmps10
  go_wp2_with fail
  refine (sum_any _ _ hC (by decide)).mono ?_
  rintro e w1 ⟨rfl, hb1⟩
  rw [digS_empty]
  go_wp2_with fail
  refine (hex_good _ rfl _).mono ?_
  rintro e w2 ⟨rfl, hb2⟩
  rw [hex_A]
  replace hb1 := hb1.trans (hb2.mono hb1.size)
  clear hb2
  have hC2 := hC.below hb1
  go_wp2_with fail
  refine (sum_any _ _ hC2 (by decide)).mono ?_
  rintro e w3 ⟨rfl, hb2⟩
  replace hb1 := hb1.trans (hb2.mono hb1.size)
  clear hb2 hC2
  rw [digS_abc]
  go_wp2_with fail
  refine (hex_good _ rfl _).mono ?_
  rintro e w4 ⟨rfl, hb2⟩
  rw [hex_B]
  replace hb1 := hb1.trans (hb2.mono hb1.size)
  clear hb2
  go_wp2_with fail
  refine (parse_any _ _).mono ?_
  rintro e w5 ⟨rfl, hb2⟩
  rw [par_B]
  replace hb1 := hb1.trans (hb2.mono hb1.size)
  clear hb2
  go_wp2_with fail
  refine (new_any _).mono ?_
  rintro e w6 ⟨rfl, hS, hb2⟩
  have hsz := hb1.size
  have hpos := hC.1
  obtain ⟨b, hb⟩ : ∃ b, b = w5.heap.size := ⟨_, rfl⟩
  rw [← hb] at hS
  rw [← hb]
  have hwb : w.heap.size ≤ b := by omega
  have hlt := World.rowIs.lt hS
  replace hb1 := hb1.trans (hb2.mono hb1.size)
  clear hb2 hb hsz
  go_wp2_with fail
  have hS7 : IsSp (w6.alloc (.cells #[Value.string ⟨#[97]⟩, Value.string ⟨#[]⟩, Value.string ⟨#[98, 99]⟩] 9)) b Z 0 := World.rowIs.alloc hS _
  have hb7 : Below w.heap.size w (w6.alloc (.cells #[Value.string ⟨#[97]⟩, Value.string ⟨#[]⟩, Value.string ⟨#[98, 99]⟩] 9)) := hb1.alloc hb1.size _
  have hA : StrsAt (w6.alloc (.cells #[Value.string ⟨#[97]⟩, Value.string ⟨#[]⟩, Value.string ⟨#[98, 99]⟩] 9)) b (some ⟨w6.heap.size, 0, none⟩) [⟨#[97]⟩, ⟨#[]⟩, ⟨#[98, 99]⟩] := by
    intro i hi
    refine ⟨w6.heap.size, 0, rfl, by omega, by simp, ?_⟩
    rw [cell_of_row _ _ _ _ _ _ (heap_alloc_new w6 _)]
    have hc : i = 0 ∨ i = 1 ∨ i = 2 := by simp at hi; omega
    rcases hc with rfl | rfl | rfl <;> rfl
  refine (write_any Z 0 b _ 3 [⟨#[97]⟩, ⟨#[]⟩, ⟨#[98, 99]⟩] _ (hC.below hb7) (by omega) hS7 hA (by decide) (by decide)).mono ?_
  rintro e w8 ⟨rfl, hsp⟩
  rw [show (((0 + (cat [⟨#[97]⟩, ⟨#[]⟩, ⟨#[98, 99]⟩]).length : Nat)) : Int) = 3 from rfl]
  have hb8 : Below w.heap.size w w8 := hb7.trans (below_of_grown hsp.g (by omega) hb7.size)
  have hS8 := hsp.s
  clear hS7 hb7 hA hS hsp hb1 hlt
  have eA : strA.toList = [97, 55, 102, 102, 99, 54, 102, 56, 98, 102, 49, 101, 100, 55, 54, 54, 53, 49, 99, 49, 52, 55, 53, 54, 97, 48, 54, 49, 100, 54, 54, 50, 102, 53, 56, 48, 102, 102, 52, 100, 101, 52, 51, 98, 52, 57, 102, 97, 56, 50, 100, 56, 48, 97, 52, 98, 56, 48, 102, 56, 52, 51, 52, 97] := by decide +kernel
  have eB : strB.toList = [51, 97, 57, 56, 53, 100, 97, 55, 52, 102, 101, 50, 50, 53, 98, 50, 48, 52, 53, 99, 49, 55, 50, 100, 54, 98, 100, 51, 57, 48, 98, 100, 56, 53, 53, 102, 48, 56, 54, 101, 51, 101, 57, 100, 53, 50, 53, 98, 52, 54, 98, 102, 101, 50, 52, 53, 49, 49, 52, 51, 49, 53, 51, 50] := by decide +kernel
  go_wp2_with fail
  clear eA eB
  refine (spSum_any _ _ _ _ (hC.below hb8) hS8 (by decide)).mono ?_
  rintro e w9 ⟨rfl, hb9⟩
  rw [wr_abc, show (⟨Spo.D3.toArray⟩ : ByteArray) = digB from rfl]
  replace hb8 := hb8.trans (hb9.mono hb8.size)
  clear hb9 hS8
  go_wp2_with fail
  refine (sum_any _ _ (hC.below hb8) (by decide)).mono ?_
  rintro e w10 ⟨rfl, hb9⟩
  rw [digS_abc]
  replace hb8 := hb8.trans (hb9.mono hb8.size)
  clear hb9
  go_wp2_with fail
  go_ret
  exact ⟨rfl, hb8⟩
end Go.Proofs.YtkcpncgngblooaaDoor
