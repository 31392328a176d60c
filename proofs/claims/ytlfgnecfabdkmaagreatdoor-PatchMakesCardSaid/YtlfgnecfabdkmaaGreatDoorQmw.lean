/- The law PatchMakes returns true. Condition: the variables that the program reads lie. -/
import Derived.Test.YtlfgnecfabdkmaaGreatDoorQmk
import Derived.Test.YtlfgnecfabdkmaaGreatDoorQgd
import Derived.Test.YtlfgnecfabdkmaaGreatDoorSam
namespace Go.Proofs.YtlfgnecfabdkmaaGreatDoor
open Go.RowKit Go.Deep Tr

set_option maxHeartbeats 16000000 in
set_option maxRecDepth 100000 in
theorem makes_law (d t : List UInt8) (W : World) (hI0 : IdAt W) :
    Calls Tryz.prog 5 #[.string (str d), .string (str t)] W fun e w' => e = .returned (.bool true) ∧ Below W.heap.size W w' := by
  have hB0 := Below.refl W.heap.size W
  go_enter Tryz.func5, Tryz.ntmps5
  go_wp2_with fail
  have cc := awake_any W hI0
  with_reducible refine cc.mono ?_
  clear cc 
  rintro x w1 ⟨rfl, hb1⟩
  have hB1 := hB0.trans (hb1.mono hB0.size)
  have hI1 := hI0.below hb1
  clear hB0 hb1
  have hb2 : Below w1.heap.size w1 (w1.alloc (.cells #[.string (str d), .string (str t)] 9)) := (Below.refl _ _).alloc (Nat.le_refl _) _
  have hz2 := heap_alloc_new w1 (.cells #[.string (str d), .string (str t)] 9)
  have hB2 := hB1.trans (hb2.mono hB1.size)
  have hI2 := hI1.below hb2
  clear hB1 hb2 hI1
  have cc := few_any (some ⟨w1.heap.size, 0, none⟩) 2 [d, t] (w1.alloc (.cells #[.string (str d), .string (str t)] 9)) (fun i hi => by
    have hi0 : i = 0 ∨ i = 1 := by simp [strs] at hi; omega
    rcases hi0 with rfl | rfl
    · exact ⟨w1.heap.size, 0, rfl, by simp, by rw [cell_of_row _ _ _ _ _ _ hz2]; rfl⟩
    · exact ⟨w1.heap.size, 0, rfl, by simp, by rw [cell_of_row _ _ _ _ _ _ hz2]; rfl⟩) (by simp)
  rw [show [d, t].length = 2 from rfl] at cc
  clear hz2
  go_wp2_with fail
  generalize w1.alloc (.cells #[.string (str d), .string (str t)] 9) = w2 at *
  with_reducible refine cc.mono ?_
  clear cc
  rintro x w3 ⟨b, rfl, hfew, hb3⟩
  have hB3 := hB2.trans (hb3.mono hB2.size)
  have hI3 := hI2.below hb3
  clear hB2 hb3 hI2
  cases b with
  | false =>
    clear hfew
    go_wp2_with fail
    go_ret
    exact ⟨rfl, hB3⟩
  | true =>
  have hdl : d.length ≤ 500 := hfew rfl d (by simp)
  have hds := str_size d
  have htl : t.length ≤ 500 := hfew rfl t (by simp)
  have hts := str_size t
  clear hfew
  have HFI := Lib.hid (fine_make d t)
  obtain ⟨z, hz⟩ : ∃ z, Pc.make d t = z := ⟨_, rfl⟩
  rw [hz] at HFI
  have HZ := Lib.hid hz
  clear hz
  have cc := make_any (str d) (str t) w3 hI3 (by omega) (by omega)
  rw [str_data, str_data, HZ.out] at cc
  go_wp2_with fail
  with_reducible refine cc.mono ?_
  clear cc 
  rintro x w4 ⟨A7, d7, rfl, hR4, hb4⟩
  have hB4 := hB3.trans (hb4.mono hB3.size)
  have hI4 := hI3.below hb4
  clear hB3 hb4 hI3
  rw [paV_def]
  have hb5 : Below w4.heap.size w4 (w4.alloc (.cells #[.string (str z.1.base), .slice A7 z.1.hs.length d7] 24)) := (Below.refl _ _).alloc (Nat.le_refl _) _
  have bz5 : Bp (w4.alloc (.cells #[.string (str z.1.base), .slice A7 z.1.hs.length d7] 24)) w4.heap.size z.1 A7 d7 := heap_alloc_new w4 _
  have hB5 := hB4.trans (hb5.mono hB4.size)
  have hI5 := hI4.below hb5
  have hR5 := hR4.next hb5
  clear hB4 hb5 hI4 hR4
  have cc := qMake_any (str d) (str t) (w4.alloc (.cells #[.string (str z.1.base), .slice A7 z.1.hs.length d7] 24)) (by omega) (by omega)
  rw [str_data, str_data, HZ.out] at cc
  go_wp2_with fail
  generalize w4.alloc (.cells #[.string (str z.1.base), .slice A7 z.1.hs.length d7] 24) = w5 at *
  generalize w4.heap.size = q5 at *
  with_reducible refine cc.mono ?_
  clear cc 
  rintro x w6 ⟨A8, d8, rfl, hS6, hb6⟩
  have hB6 := hB5.trans (hb6.mono hB5.size)
  have hI6 := hI5.below hb6
  have hR6 := hR5.next hb6
  have bz6 := bz5.next hb6
  clear hB5 hb6 hI5 hR5 bz5
  rw [paV_def]
  have hb7 : Below w6.heap.size w6 (w6.alloc (.cells #[.string (str z.1.base), .slice A8 z.1.hs.length d8] 24)) := (Below.refl _ _).alloc (Nat.le_refl _) _
  have bs7 : Bp (w6.alloc (.cells #[.string (str z.1.base), .slice A8 z.1.hs.length d8] 24)) w6.heap.size z.1 A8 d8 := heap_alloc_new w6 _
  have hB7 := hB6.trans (hb7.mono hB6.size)
  have hI7 := hI6.below hb7
  have hR7 := hR6.next hb7
  have bz7 := bz6.next hb7
  have hS7 := hS6.next hb7
  clear hB6 hb7 hI6 hR6 bz6 hS6
  have cc := qSame_true z.1 A7 A8 d7 d8 (w6.alloc (.cells #[.string (str z.1.base), .slice A8 z.1.hs.length d8] 24)) hR7.at_ hS7.at_ HFI.out.1 HFI.out.2
  rw [paV_def, paV_def] at cc
  obtain ⟨k0, k1⟩ := bz7.cells
  obtain ⟨k2, k3⟩ := bs7.cells
  go_wp2_with fail
  generalize w6.alloc (.cells #[.string (str z.1.base), .slice A8 z.1.hs.length d8] 24) = w7 at *
  generalize w6.heap.size = q7 at *
  with_reducible refine cc.mono ?_
  clear cc k0 k1 k2 k3
  rintro x w8 ⟨rfl, hb8⟩
  have hB8 := hB7.trans (hb8.mono hB7.size)
  have hI8 := hI7.below hb8
  have hR8 := hR7.next hb8
  have bz8 := bz7.next hb8
  have hS8 := hS7.next hb8
  have bs8 := bs7.next hb8
  clear hB7 hb8 hI7 hR7 bz7 hS7 bs7
  have n1 : (z.2 == z.2) = true := by simp
  go_wp2_with fail
  go_ret
  exact ⟨by simp, hB8⟩
theorem makes_law' (s t : ByteArray) (w : World) (hI : IdAt w) :
    Calls Tryz.prog 5 #[.string s, .string t] w fun e w' => e = .returned (.bool true) ∧ Below w.heap.size w w' := by
  have h := makes_law s.data.toList t.data.toList w hI
  rwa [str_of, str_of] at h
end Go.Proofs.YtlfgnecfabdkmaaGreatDoor
