/- awake holds. Condition: the library's error of ranges lies in its variable. -/
import Derived.Test.YtndehkoglgakpaaGreatDoorAwx
namespace Go.Proofs.YtndehkoglgakpaaGreatDoor
open Go.RowKit Go.Deep

set_option maxHeartbeats 4000000 in
set_option maxRecDepth 100000 in
theorem awake_any (w : World) (hE : Errs w) :
    Calls Tryz.prog 6 #[] w fun e w' => e = .returned (.bool true) ∧ Below w.heap.size w w' := by
  have t1 : ∀ w, Errs w → Calls Tryz.prog 21 #[.string ⟨#[97, 32, 43, 32, 98, 32, 42, 32, 45, 50]⟩] w fun e w' => ∃ v, e = .returned v ∧ w'.ownsRow w.heap.size 42 3 v 6 (opsOf F1) ∧ Below w.heap.size w w' := fun w h => formula_at [97, 32, 43, 32, 98, 32, 42, 32, 45, 50] F1 x1 (by decide) w h
  have t2 : ∀ w, Errs w → Calls Tryz.prog 21 #[.string ⟨#[102, 40, 120, 44, 32, 105, 110, 40, 41, 41]⟩] w fun e w' => ∃ v, e = .returned v ∧ w'.ownsRow w.heap.size 42 3 v 3 (opsOf F2) ∧ Below w.heap.size w w' := fun w h => formula_at [102, 40, 120, 44, 32, 105, 110, 40, 41, 41] F2 x2 (by decide) w h
  have t3 : ∀ w, Errs w → Calls Tryz.prog 21 #[.string ⟨#[50, 32, 42, 32, 51, 32, 43, 32, 97]⟩] w fun e w' => ∃ v, e = .returned v ∧ w'.ownsRow w.heap.size 42 3 v F3.length (opsOf F3) ∧ Below w.heap.size w w' := fun w h => formula_at [50, 32, 42, 32, 51, 32, 43, 32, 97] F3 x3 (by decide) w h
  have t4 : ∀ w, Errs w → Calls Tryz.prog 21 #[.string ⟨#[97, 32, 43, 32, 50, 32, 42, 32, 51]⟩] w fun e w' => ∃ v, e = .returned v ∧ w'.ownsRow w.heap.size 42 3 v F4.length (opsOf F4) ∧ Below w.heap.size w w' := fun w h => formula_at [97, 32, 43, 32, 50, 32, 42, 32, 51] F4 x4 (by decide) w h
  have t5 : ∀ w, Errs w → Calls Tryz.prog 21 #[.string ⟨#[45, 55, 32, 47, 32, 50]⟩] w fun e w' => ∃ v, e = .returned v ∧ w'.ownsRow w.heap.size 42 3 v F5.length (opsOf F5) ∧ Below w.heap.size w w' := fun w h => formula_at [45, 55, 32, 47, 32, 50] F5 x5 (by decide) w h
  have t6 : ∀ w, Errs w → Calls Tryz.prog 21 #[.string ⟨#[45, 55, 32, 37, 32, 50]⟩] w fun e w' => ∃ v, e = .returned v ∧ w'.ownsRow w.heap.size 42 3 v F6.length (opsOf F6) ∧ Below w.heap.size w w' := fun w h => formula_at [45, 55, 32, 37, 32, 50] F6 x6 (by decide) w h
  have t7 : ∀ w, Errs w → Calls Tryz.prog 21 #[.string ⟨#[40, 49, 32, 43, 32, 50, 41, 32, 42, 32, 40, 97, 32, 45, 32, 51, 41]⟩] w fun e w' => ∃ v, e = .returned v ∧ w'.ownsRow w.heap.size 42 3 v F7.length (opsOf F7) ∧ Below w.heap.size w w' := fun w h => formula_at [40, 49, 32, 43, 32, 50, 41, 32, 42, 32, 40, 97, 32, 45, 32, 51, 41] F7 x7 (by decide) w h
  have t8 : ∀ w, Errs w → Calls Tryz.prog 21 #[.string ⟨#[40, 49, 32, 42, 32, 50, 41, 32, 43, 32, 97]⟩] w fun e w' => ∃ v, e = .returned v ∧ w'.ownsRow w.heap.size 42 3 v F8.length (opsOf F8) ∧ Below w.heap.size w w' := fun w h => formula_at [40, 49, 32, 42, 32, 50, 41, 32, 43, 32, 97] F8 x8 (by decide) w h
  have t9 : ∀ w, Errs w → Calls Tryz.prog 21 #[.string ⟨#[97, 32, 45, 32, 40, 98, 32, 45, 32, 99, 41]⟩] w fun e w' => ∃ v, e = .returned v ∧ w'.ownsRow w.heap.size 42 3 v F9.length (opsOf F9) ∧ Below w.heap.size w w' := fun w h => formula_at [97, 32, 45, 32, 40, 98, 32, 45, 32, 99, 41] F9 x9 (by decide) w h
  have p3 : ∀ A c w, OpsAt w w.heap.size A G3 → Calls Tryz.prog 22 #[.slice A G3.length c] w fun e w' => e = .returned (.string ⟨#[54, 32, 43, 32, 97]⟩) ∧ Below w.heap.size w w' := fun A c w h => by
    have hp := printed_at A c G3 w h (by unfold OpsLen; decide +kernel) (by unfold Ex.Simple; decide +kernel) (by kernel_rfl) (by decide +kernel) (by kernel_rfl)
    rw [z3] at hp; exact hp
  have p4 : ∀ A c w, OpsAt w w.heap.size A G4 → Calls Tryz.prog 22 #[.slice A G4.length c] w fun e w' => e = .returned (.string ⟨#[97, 32, 43, 32, 54]⟩) ∧ Below w.heap.size w w' := fun A c w h => by
    have hp := printed_at A c G4 w h (by unfold OpsLen; decide +kernel) (by unfold Ex.Simple; decide +kernel) (by kernel_rfl) (by decide +kernel) (by kernel_rfl)
    rw [z4] at hp; exact hp
  have p7 : ∀ A c w, OpsAt w w.heap.size A F7 → Calls Tryz.prog 22 #[.slice A F7.length c] w fun e w' => e = .returned (.string ⟨#[40, 32, 49, 32, 43, 32, 50, 32, 41, 32, 42, 32, 40, 32, 97, 32, 45, 32, 51, 32, 41]⟩) ∧ Below w.heap.size w w' := fun A c w h => by
    have hp := printed_at A c F7 w h (by unfold OpsLen; decide +kernel) (by unfold Ex.Simple; decide +kernel) (by kernel_rfl) (by decide +kernel) (by kernel_rfl)
    rw [z7] at hp; exact hp
  have p8 : ∀ A c w, OpsAt w w.heap.size A F8 → Calls Tryz.prog 22 #[.slice A F8.length c] w fun e w' => e = .returned (.string ⟨#[49, 32, 42, 32, 50, 32, 43, 32, 97]⟩) ∧ Below w.heap.size w w' := fun A c w h => by
    have hp := printed_at A c F8 w h (by unfold OpsLen; decide +kernel) (by unfold Ex.Simple; decide +kernel) (by kernel_rfl) (by decide +kernel) (by kernel_rfl)
    rw [z8] at hp; exact hp
  have p9 : ∀ A c w, OpsAt w w.heap.size A F9 → Calls Tryz.prog 22 #[.slice A F9.length c] w fun e w' => e = .returned (.string ⟨#[97, 32, 45, 32, 40, 32, 98, 32, 45, 32, 99, 32, 41]⟩) ∧ Below w.heap.size w w' := fun A c w h => by
    have hp := printed_at A c F9 w h (by unfold OpsLen; decide +kernel) (by unfold Ex.Simple; decide +kernel) (by kernel_rfl) (by decide +kernel) (by kernel_rfl)
    rw [z9] at hp; exact hp
  have q3 : ∀ A c w, OpsAt w w.heap.size A F3 → Calls Tryz.prog 17 #[.slice A F3.length c] w fun x w' => ∃ v, x = .returned (.tuple #[v, .int .i64 0]) ∧ w'.ownsRow w.heap.size 42 3 v G3.length (opsOf G3) ∧ Below w.heap.size w w' := fun A c w h => by
    have hp := fold_any A c F3 w h (by decide +kernel) (by unfold OpsLen; decide +kernel)
    unfold GotF at hp; rw [y3] at hp; exact hp
  have q4 : ∀ A c w, OpsAt w w.heap.size A F4 → Calls Tryz.prog 17 #[.slice A F4.length c] w fun x w' => ∃ v, x = .returned (.tuple #[v, .int .i64 0]) ∧ w'.ownsRow w.heap.size 42 3 v G4.length (opsOf G4) ∧ Below w.heap.size w w' := fun A c w h => by
    have hp := fold_any A c F4 w h (by decide +kernel) (by unfold OpsLen; decide +kernel)
    unfold GotF at hp; rw [y4] at hp; exact hp
  have q5 : ∀ A c w, OpsAt w w.heap.size A F5 → Calls Tryz.prog 19 #[.slice A F5.length c] w fun x w' => x = .returned (.tuple #[.int .u32 4294967293, .bool true]) ∧ Below w.heap.size w w' := fun A c w h => by
    have hp := value_any A c F5 w h (by decide +kernel) (by unfold OpsLen; decide +kernel)
    rw [y5] at hp; exact hp
  have q6 : ∀ A c w, OpsAt w w.heap.size A F6 → Calls Tryz.prog 19 #[.slice A F6.length c] w fun x w' => x = .returned (.tuple #[.int .u32 4294967295, .bool true]) ∧ Below w.heap.size w w' := fun A c w h => by
    have hp := value_any A c F6 w h (by decide +kernel) (by unfold OpsLen; decide +kernel)
    rw [y6] at hp; exact hp
  go_enter Tryz.func6, Tryz.ntmps6
  go_wp2_with fail
  with_reducible refine (t1 w hE).mono ?_
  clear t1
  rintro e w1 ⟨v1, rfl, ha, hb⟩
  obtain ⟨g1, c1, rfl, _, _, _, _, hcell⟩ := own_pos ha (by decide)
  have a1 : w1.cell? ⟨g1, 9, none⟩ = some (.int .i64 6) := hcell 9 (by decide)
  have a2 : w1.cell? ⟨g1, 13, none⟩ = some (.string ⟨#[42]⟩) := hcell 13 (by decide)
  have a3 : w1.cell? ⟨g1, 16, none⟩ = some (.string ⟨#[43]⟩) := hcell 16 (by decide)
  clear hcell ha
  go_wp2_with fail
  clear a1 a2 a3
  with_reducible refine (t2 w1 (hE.below hb)).mono ?_
  clear t2
  rintro e w2 ⟨v2, rfl, ha, hb2⟩
  obtain ⟨g2, c2, rfl, _, hg2, _, _, hcell⟩ := own_pos ha (by decide)
  have d1 : w2.cell? ⟨g2, 6, none⟩ = some (.int .i64 3) := hcell 6 (by decide)
  have d2 : w2.cell? ⟨g2, 7, none⟩ = some (.string ⟨#[102]⟩) := hcell 7 (by decide)
  have d3 : w2.cell? ⟨g2, 8, none⟩ = some (.int .u32 2) := hcell 8 (by decide)
  clear hcell ha
  replace hb := hb.trans (hb2.mono hb.size)
  clear hb2
  go_wp2_with fail
  with_reducible refine (t3 w2 (hE.below hb)).mono ?_
  clear t3
  rintro e w3 ⟨v, rfl, ha, hb2⟩
  obtain ⟨A, cc, rfl, hA, _, _⟩ := owns_ops ha
  clear ha
  replace d1 := cell_below hb2 hg2 d1
  replace d2 := cell_below hb2 hg2 d2
  replace d3 := cell_below hb2 hg2 d3
  replace hg2 := lt_below hb2 hg2
  replace hb := hb.trans (hb2.mono hb.size)
  clear hb2
  go_wp2_with fail
  with_reducible refine (q3 A cc w3 hA).mono ?_
  clear q3 hA
  rintro e w4 ⟨v, rfl, ha, hb2⟩
  obtain ⟨B3, k3, rfl, hB3n, _, _⟩ := owns_ops ha
  clear ha
  replace d1 := cell_below hb2 hg2 d1
  replace d2 := cell_below hb2 hg2 d2
  replace d3 := cell_below hb2 hg2 d3
  replace hg2 := lt_below hb2 hg2
  replace hb := hb.trans (hb2.mono hb.size)
  clear hb2
  have hB3 := hB3n
  clear hB3n
  go_wp2_with fail
  with_reducible refine (t4 w4 (hE.below hb)).mono ?_
  clear t4
  rintro e w5 ⟨v, rfl, ha, hb2⟩
  obtain ⟨A, cc, rfl, hA, _, _⟩ := owns_ops ha
  clear ha
  replace d1 := cell_below hb2 hg2 d1
  replace d2 := cell_below hb2 hg2 d2
  replace d3 := cell_below hb2 hg2 d3
  replace hg2 := lt_below hb2 hg2
  replace hB3 := hB3.next hb2
  replace hb := hb.trans (hb2.mono hb.size)
  clear hb2
  go_wp2_with fail
  with_reducible refine (q4 A cc w5 hA).mono ?_
  clear q4 hA
  rintro e w6 ⟨v, rfl, ha, hb2⟩
  obtain ⟨B4, k4, rfl, hB4n, _, _⟩ := owns_ops ha
  clear ha
  replace d1 := cell_below hb2 hg2 d1
  replace d2 := cell_below hb2 hg2 d2
  replace d3 := cell_below hb2 hg2 d3
  replace hg2 := lt_below hb2 hg2
  replace hB3 := hB3.next hb2
  replace hb := hb.trans (hb2.mono hb.size)
  clear hb2
  have hB4 := hB4n
  clear hB4n
  go_wp2_with fail
  with_reducible refine (t5 w6 (hE.below hb)).mono ?_
  clear t5
  rintro e w7 ⟨v, rfl, ha, hb2⟩
  obtain ⟨A, cc, rfl, hA, _, _⟩ := owns_ops ha
  clear ha
  replace d1 := cell_below hb2 hg2 d1
  replace d2 := cell_below hb2 hg2 d2
  replace d3 := cell_below hb2 hg2 d3
  replace hg2 := lt_below hb2 hg2
  replace hB3 := hB3.next hb2
  replace hB4 := hB4.next hb2
  replace hb := hb.trans (hb2.mono hb.size)
  clear hb2
  go_wp2_with fail
  with_reducible refine (q5 A cc w7 hA).mono ?_
  clear q5 hA
  rintro e w8 ⟨rfl, hb2⟩
  replace d1 := cell_below hb2 hg2 d1
  replace d2 := cell_below hb2 hg2 d2
  replace d3 := cell_below hb2 hg2 d3
  replace hg2 := lt_below hb2 hg2
  replace hB3 := hB3.next hb2
  replace hB4 := hB4.next hb2
  replace hb := hb.trans (hb2.mono hb.size)
  clear hb2
  go_wp2_with fail
  with_reducible refine (t6 w8 (hE.below hb)).mono ?_
  clear t6
  rintro e w9 ⟨v, rfl, ha, hb2⟩
  obtain ⟨A, cc, rfl, hA, _, _⟩ := owns_ops ha
  clear ha
  replace d1 := cell_below hb2 hg2 d1
  replace d2 := cell_below hb2 hg2 d2
  replace d3 := cell_below hb2 hg2 d3
  replace hg2 := lt_below hb2 hg2
  replace hB3 := hB3.next hb2
  replace hB4 := hB4.next hb2
  replace hb := hb.trans (hb2.mono hb.size)
  clear hb2
  go_wp2_with fail
  with_reducible refine (q6 A cc w9 hA).mono ?_
  clear q6 hA
  rintro e w10 ⟨rfl, hb2⟩
  replace d1 := cell_below hb2 hg2 d1
  replace d2 := cell_below hb2 hg2 d2
  replace d3 := cell_below hb2 hg2 d3
  replace hg2 := lt_below hb2 hg2
  replace hB3 := hB3.next hb2
  replace hB4 := hB4.next hb2
  replace hb := hb.trans (hb2.mono hb.size)
  clear hb2
  have hD : True := trivial
  go_wp2_with fail
  with_reducible refine (p3 B3 k3 w10 hB3).mono ?_
  clear p3 hB3
  rintro e w11 ⟨rfl, hb2⟩
  replace d1 := cell_below hb2 hg2 d1
  replace d2 := cell_below hb2 hg2 d2
  replace d3 := cell_below hb2 hg2 d3
  replace hg2 := lt_below hb2 hg2
  replace hB4 := hB4.next hb2
  replace hb := hb.trans (hb2.mono hb.size)
  clear hb2
  go_wp2_with fail
  with_reducible refine (p4 B4 k4 w11 hB4).mono ?_
  clear p4 hB4
  rintro e w12 ⟨rfl, hb2⟩
  replace hb := hb.trans (hb2.mono hb.size)
  clear hb2
  go_wp2_with fail
  with_reducible refine (t7 w12 (hE.below hb)).mono ?_
  clear t7
  rintro e w13 ⟨v, rfl, ha, hb2⟩
  obtain ⟨A, cc, rfl, hA, _, _⟩ := owns_ops ha
  clear ha
  replace hb := hb.trans (hb2.mono hb.size)
  clear hb2
  go_wp2_with fail
  with_reducible refine (p7 A cc w13 hA).mono ?_
  clear p7 hA
  rintro e w14 ⟨rfl, hb2⟩
  replace hb := hb.trans (hb2.mono hb.size)
  clear hb2
  go_wp2_with fail
  with_reducible refine (t8 w14 (hE.below hb)).mono ?_
  clear t8
  rintro e w15 ⟨v, rfl, ha, hb2⟩
  obtain ⟨A, cc, rfl, hA, _, _⟩ := owns_ops ha
  clear ha
  replace hb := hb.trans (hb2.mono hb.size)
  clear hb2
  go_wp2_with fail
  with_reducible refine (p8 A cc w15 hA).mono ?_
  clear p8 hA
  rintro e w16 ⟨rfl, hb2⟩
  replace hb := hb.trans (hb2.mono hb.size)
  clear hb2
  go_wp2_with fail
  with_reducible refine (t9 w16 (hE.below hb)).mono ?_
  clear t9
  rintro e w17 ⟨v, rfl, ha, hb2⟩
  obtain ⟨A, cc, rfl, hA, _, _⟩ := owns_ops ha
  clear ha
  replace hb := hb.trans (hb2.mono hb.size)
  clear hb2
  go_wp2_with fail
  with_reducible refine (p9 A cc w17 hA).mono ?_
  clear p9 hA
  rintro e w18 ⟨rfl, hb2⟩
  replace hb := hb.trans (hb2.mono hb.size)
  clear hb2
  go_wp2_with fail
  go_ret
  exact ⟨rfl, hb⟩
end Go.Proofs.YtndehkoglgakpaaGreatDoor

