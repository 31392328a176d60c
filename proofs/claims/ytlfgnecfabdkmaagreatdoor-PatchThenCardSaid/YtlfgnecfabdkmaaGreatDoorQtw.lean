/- The law PatchThen returns true. Condition: the variables that the program reads lie. -/
import Derived.Test.YtlfgnecfabdkmaaGreatDoorQth
import Derived.Test.YtlfgnecfabdkmaaGreatDoorQgd
import Derived.Test.YtlfgnecfabdkmaaGreatDoorSam
namespace Go.Proofs.YtlfgnecfabdkmaaGreatDoor
open Go.RowKit Go.Deep Tr

set_option maxHeartbeats 16000000 in
set_option maxRecDepth 100000 in
theorem then_law (p q : Pc.Pa) (A A' : Option Addr) (c c' : Nat) (d : List UInt8) (w : World) (hP : PaRaw w p A) (hQ : PaRaw w q A') (hI : IdAt w) :
    Calls Tryz.prog 6 #[paV p A c, paV q A' c', .string (str d)] w fun e w' => e = .returned (.bool true) ∧ Below w.heap.size w w' := by
  rw [paV_def, paV_def]
  obtain ⟨W, hW, hB0, bx0, by0⟩ : ∃ W, W = (w.alloc (.cells #[.string (str p.base), .slice A p.hs.length c] 24)).alloc (.cells #[.string (str q.base), .slice A' q.hs.length c'] 24) ∧ Below w.heap.size w W ∧ Bp W w.heap.size p A c ∧ Bp W (w.heap.size + 1) q A' c' := by
    refine ⟨_, rfl, ((Below.refl _ _).alloc (Nat.le_refl _) _).alloc (by simp) _, ?_, ?_⟩
    · unfold Bp
      rw [blk_alloc_lt _ _ _ (by simp)]
      exact heap_alloc_new w _
    · have := heap_alloc_new (w.alloc (.cells #[.string (str p.base), .slice A p.hs.length c] 24)) (.cells #[.string (str q.base), .slice A' q.hs.length c'] 24)
      rwa [show (w.alloc (.cells #[.string (str p.base), .slice A p.hs.length c] 24)).heap.size = w.heap.size + 1 by simp] at this
  have hP0 := hP.next hB0
  have hQ0 := hQ.next hB0
  have hI0 := hI.below hB0
  clear hP hQ hI
  go_enter Tryz.func6, Tryz.ntmps6
  go_wp2_with fail
  rw [← hW]
  clear hW
  have cc := awake_any W hI0
  with_reducible refine cc.mono ?_
  clear cc 
  rintro x w1 ⟨rfl, hb1⟩
  have hB1 := hB0.trans (hb1.mono hB0.size)
  have hP1 := hP0.next hb1
  have hQ1 := hQ0.next hb1
  have hI1 := hI0.below hb1
  have bx1 := bx0.next hb1
  have by1 := by0.next hb1
  clear hB0 hb1 hP0 hQ0 hI0 bx0 by0
  have cc := qFew_any p A c w1 hP1
  rw [paV_def] at cc
  obtain ⟨k0, k1⟩ := bx1.cells
  go_wp2_with fail
  with_reducible refine cc.mono ?_
  clear cc k0 k1
  rintro x w2 ⟨b, rfl, hsm, hb2⟩
  have hB2 := hB1.trans (hb2.mono hB1.size)
  have hP2 := hP1.next hb2
  have hQ2 := hQ1.next hb2
  have hI2 := hI1.below hb2
  have bx2 := bx1.next hb2
  have by2 := by1.next hb2
  clear hB1 hb2 hP1 hQ1 hI1 bx1 by1
  cases b with
  | false =>
    clear hsm
    go_wp2_with fail
    go_ret
    exact ⟨rfl, hB2⟩
  | true =>
  have HSp := Lib.hid (hsm rfl)
  clear hsm
  have cc := qFew_any q A' c' w2 hQ2
  rw [paV_def] at cc
  obtain ⟨k0, k1⟩ := by2.cells
  go_wp2_with fail
  with_reducible refine cc.mono ?_
  clear cc k0 k1
  rintro x w3 ⟨b, rfl, hsm, hb3⟩
  have hB3 := hB2.trans (hb3.mono hB2.size)
  have hP3 := hP2.next hb3
  have hQ3 := hQ2.next hb3
  have hI3 := hI2.below hb3
  have bx3 := bx2.next hb3
  have by3 := by2.next hb3
  clear hB2 hb3 hP2 hQ2 hI2 bx2 by2
  cases b with
  | false =>
    clear hsm
    go_wp2_with fail
    go_ret
    exact ⟨rfl, hB3⟩
  | true =>
  have HSq := Lib.hid (hsm rfl)
  clear hsm
  have hb4 : Below w3.heap.size w3 (w3.alloc (.cells #[.string (str d)] 9)) := (Below.refl _ _).alloc (Nat.le_refl _) _
  have hz4 := heap_alloc_new w3 (.cells #[.string (str d)] 9)
  have hB4 := hB3.trans (hb4.mono hB3.size)
  have hP4 := hP3.next hb4
  have hQ4 := hQ3.next hb4
  have hI4 := hI3.below hb4
  have bx4 := bx3.next hb4
  have by4 := by3.next hb4
  clear hB3 hb4 hP3 hQ3 hI3 bx3 by3
  have cc := few_any (some ⟨w3.heap.size, 0, none⟩) 1 [d] (w3.alloc (.cells #[.string (str d)] 9)) (fun i hi => by
    have hi0 : i = 0 := by simp [strs] at hi; omega
    subst hi0
    exact ⟨w3.heap.size, 0, rfl, by simp, by rw [cell_of_row _ _ _ _ _ _ hz4]; rfl⟩) (by simp)
  rw [show [d].length = 1 from rfl] at cc
  clear hz4
  go_wp2_with fail
  generalize w3.alloc (.cells #[.string (str d)] 9) = w4 at *
  with_reducible refine cc.mono ?_
  clear cc
  rintro x w5 ⟨b, rfl, hfew, hb5⟩
  have hB5 := hB4.trans (hb5.mono hB4.size)
  have hP5 := hP4.next hb5
  have hQ5 := hQ4.next hb5
  have hI5 := hI4.below hb5
  have bx5 := bx4.next hb5
  have by5 := by4.next hb5
  clear hB4 hb5 hP4 hQ4 hI4 bx4 by4
  cases b with
  | false =>
    clear hfew
    go_wp2_with fail
    go_ret
    exact ⟨rfl, hB5⟩
  | true =>
  have hdl : d.length ≤ 500 := hfew rfl d (by simp)
  have hds := str_size d
  clear hfew
  have HOP := Lib.hid (fun w (h : PaRaw w p A) => h.ok HSp.out)
  have HOQ := Lib.hid (fun w (h : PaRaw w q A') => h.ok HSq.out)
  have HFI := Lib.hid (fine_then p q d)
  obtain ⟨z, hz⟩ : ∃ z, Pc.thenP p q d = z := ⟨_, rfl⟩
  rw [hz] at HFI
  have HZ := Lib.hid hz
  clear hz
  have cc := then_any p q A A' c c' (str d) w5 (HOP.out _ hP5) (HOQ.out _ hQ5) hI5 (by omega)
  rw [str_data, paV_def, paV_def, HZ.out] at cc
  obtain ⟨k0, k1⟩ := bx5.cells
  obtain ⟨k2, k3⟩ := by5.cells
  go_wp2_with fail
  with_reducible refine cc.mono ?_
  clear cc k0 k1 k2 k3
  rintro x w6 ⟨A7, d7, rfl, hR6, hb6⟩
  have hB6 := hB5.trans (hb6.mono hB5.size)
  have hP6 := hP5.next hb6
  have hQ6 := hQ5.next hb6
  have hI6 := hI5.below hb6
  have bx6 := bx5.next hb6
  have by6 := by5.next hb6
  clear hB5 hb6 hP5 hQ5 hI5 bx5 by5
  rw [paV_def]
  have hb7 : Below w6.heap.size w6 (w6.alloc (.cells #[.string (str z.1.base), .slice A7 z.1.hs.length d7] 24)) := (Below.refl _ _).alloc (Nat.le_refl _) _
  have bz7 : Bp (w6.alloc (.cells #[.string (str z.1.base), .slice A7 z.1.hs.length d7] 24)) w6.heap.size z.1 A7 d7 := heap_alloc_new w6 _
  have hB7 := hB6.trans (hb7.mono hB6.size)
  have hP7 := hP6.next hb7
  have hQ7 := hQ6.next hb7
  have hI7 := hI6.below hb7
  have bx7 := bx6.next hb7
  have by7 := by6.next hb7
  have hR7 := hR6.next hb7
  clear hB6 hb7 hP6 hQ6 hI6 bx6 by6 hR6
  have cc := qThen_any p q A A' c c' (str d) (w6.alloc (.cells #[.string (str z.1.base), .slice A7 z.1.hs.length d7] 24)) (HOP.out _ hP7) (HOQ.out _ hQ7) (by omega)
  rw [str_data, paV_def, paV_def, HZ.out] at cc
  obtain ⟨k0, k1⟩ := bx7.cells
  obtain ⟨k2, k3⟩ := by7.cells
  go_wp2_with fail
  generalize w6.alloc (.cells #[.string (str z.1.base), .slice A7 z.1.hs.length d7] 24) = w7 at *
  generalize w6.heap.size = q7 at *
  with_reducible refine cc.mono ?_
  clear cc k0 k1 k2 k3
  rintro x w8 ⟨A8, d8, rfl, hS8, hb8⟩
  have hB8 := hB7.trans (hb8.mono hB7.size)
  have hP8 := hP7.next hb8
  have hQ8 := hQ7.next hb8
  have hI8 := hI7.below hb8
  have bx8 := bx7.next hb8
  have by8 := by7.next hb8
  have hR8 := hR7.next hb8
  have bz8 := bz7.next hb8
  clear hB7 hb8 hP7 hQ7 hI7 bx7 by7 hR7 bz7
  rw [paV_def]
  have hb9 : Below w8.heap.size w8 (w8.alloc (.cells #[.string (str z.1.base), .slice A8 z.1.hs.length d8] 24)) := (Below.refl _ _).alloc (Nat.le_refl _) _
  have bs9 : Bp (w8.alloc (.cells #[.string (str z.1.base), .slice A8 z.1.hs.length d8] 24)) w8.heap.size z.1 A8 d8 := heap_alloc_new w8 _
  have hB9 := hB8.trans (hb9.mono hB8.size)
  have hP9 := hP8.next hb9
  have hQ9 := hQ8.next hb9
  have hI9 := hI8.below hb9
  have bx9 := bx8.next hb9
  have by9 := by8.next hb9
  have hR9 := hR8.next hb9
  have bz9 := bz8.next hb9
  have hS9 := hS8.next hb9
  clear hB8 hb9 hP8 hQ8 hI8 bx8 by8 hR8 bz8 hS8
  have cc := qSame_true z.1 A7 A8 d7 d8 (w8.alloc (.cells #[.string (str z.1.base), .slice A8 z.1.hs.length d8] 24)) hR9.at_ hS9.at_ HFI.out.1 HFI.out.2
  rw [paV_def, paV_def] at cc
  obtain ⟨k0, k1⟩ := bz9.cells
  obtain ⟨k2, k3⟩ := bs9.cells
  go_wp2_with fail
  generalize w8.alloc (.cells #[.string (str z.1.base), .slice A8 z.1.hs.length d8] 24) = w9 at *
  generalize w8.heap.size = q9 at *
  with_reducible refine cc.mono ?_
  clear cc k0 k1 k2 k3
  rintro x w10 ⟨rfl, hb10⟩
  have hB10 := hB9.trans (hb10.mono hB9.size)
  have hP10 := hP9.next hb10
  have hQ10 := hQ9.next hb10
  have hI10 := hI9.below hb10
  have bx10 := bx9.next hb10
  have by10 := by9.next hb10
  have hR10 := hR9.next hb10
  have bz10 := bz9.next hb10
  have hS10 := hS9.next hb10
  have bs10 := bs9.next hb10
  clear hB9 hb10 hP9 hQ9 hI9 bx9 by9 hR9 bz9 hS9 bs9
  have n1 : (z.2 == z.2) = true := by simp
  go_wp2_with fail
  go_ret
  exact ⟨by simp, hB10⟩
theorem then_law' (p q : Pc.Pa) (A A' : Option Addr) (c c' : Nat) (s : ByteArray) (w : World) (hP : PaRaw w p A) (hQ : PaRaw w q A') (hI : IdAt w) :
    Calls Tryz.prog 6 #[paV p A c, paV q A' c', .string s] w fun e w' => e = .returned (.bool true) ∧ Below w.heap.size w w' := by
  have h := then_law p q A A' c c' s.data.toList w hP hQ hI
  rwa [str_of] at h
end Go.Proofs.YtlfgnecfabdkmaaGreatDoor
