/- awake holds. Condition: the tables of digest, codec and the library lie. -/
import Derived.Test.YtinkpbobkeppiaaGreatDoorKno
import Derived.Test.YtinkpbobkeppiaaGreatDoorDif
import Derived.Test.YtinkpbobkeppiaaGreatDoorPz7
import Derived.Test.YtinkpbobkeppiaaGreatDoorShelf
namespace Go.Proofs.YtinkpbobkeppiaaGreatDoor
open Go.RowKit Go.Deep

theorem diff_ex : ∃ o n, Tre.diffR Tre.exT Tre.exU = ([⟨[97, 47, 120], 3, o, n⟩], 0) := by
  refine ⟨Tre.fid [50, 10], Tre.fid [50, 10, 51], ?_⟩
  rw [diffR_def, if_neg (by rw [Tre.ch_ex, Tre.ch_eu]; simp), show Tre.pathsOf Tre.exT Tre.exU = [[97, 45, 98], [97, 47, 120], [98]] from by decide +kernel]
  have e1 : Tre.chg Tre.exT Tre.exU [97, 45, 98] = [] := by
    unfold Tre.chg
    rw [if_neg (by decide +kernel), if_neg (by decide +kernel), if_pos (by decide +kernel)]
  have e2 : Tre.chg Tre.exT Tre.exU [97, 47, 120] = [⟨[97, 47, 120], 3, Tre.fid [50, 10], Tre.fid [50, 10, 51]⟩] := by
    unfold Tre.chg
    rw [show Tre.find Tre.exT [97, 47, 120] = ([50, 10], true) from by decide +kernel, Tre.find_ex]
    rfl
  have e3 : Tre.chg Tre.exT Tre.exU [98] = [] := by
    unfold Tre.chg
    rw [if_neg (by decide +kernel), if_neg (by decide +kernel), if_pos (by decide +kernel)]
  simp only [List.flatMap_cons, List.flatMap_nil, e1, e2, e3, List.append_nil, List.nil_append]
theorem ex_lens : FlsLen Tre.exT := by unfold FlsLen; decide +kernel
theorem eu_lens : FlsLen Tre.exU := by unfold FlsLen; decide +kernel
set_option maxHeartbeats 1000000 in
set_option maxRecDepth 100000 in
theorem example_any (w : World) : Calls Tryz.prog 42 #[] w fun e w' => ∃ A, e = .returned (.slice A 3 3) ∧ FlsAt w' w'.heap.size A Tre.exT ∧ Below w.heap.size w w' := by
  go_enter Tryz.func42, Tryz.ntmps42
  go_wp2_with fail
  go_ret
  refine ⟨_, rfl, fun i hi => ⟨w.heap.size, 0, rfl, by simp, ?_⟩, (Below.refl _ _).alloc (Nat.le_refl _) _⟩
  rw [cell_of_row _ _ _ _ _ _ (heap_alloc_new w _), cell_of_row _ _ _ _ _ _ (heap_alloc_new w _)]
  have hi3 : i < 3 := hi
  match i, hi3 with
  | 0, _ => exact ⟨rfl, rfl⟩
  | 1, _ => exact ⟨rfl, rfl⟩
  | 2, _ => exact ⟨rfl, rfl⟩
theorem own_pos {w : World} {B : Nat} {e : TypeId} {size n : Nat} {v : Value} {xs : List Value} (h : w.ownsRow B e size v n xs) (hn : 0 < n) : ∃ g cap, v = .slice (some ⟨g, 0, none⟩) n cap ∧ B ≤ g ∧ g < w.heap.size ∧ n ≤ cap ∧ cap ≤ maxLen ∧ ∀ j, j < n * size → w.cell? ⟨g, j, none⟩ = xs[j]? := by
  rcases h.2 with ⟨rfl, h0⟩ | ⟨g, cap, cur, rfl, hb, hg, h1, h2, _, _⟩
  · omega
  · exact ⟨g, cap, rfl, hb, (Array.getElem?_eq_some_iff.1 hg).1, h1, h2, fun j hj => h.cellAt j hj⟩
theorem equal_ex (g c : Nat) (w : World) (hg : g < w.heap.size) (h0 : w.cell? ⟨g, 0, none⟩ = some (.string ⟨#[120]⟩)) (h1 : w.cell? ⟨g, 1, none⟩ = some (.string ⟨#[]⟩)) :
    Calls Tryz.prog 36 #[.slice (some ⟨g, 0, none⟩) 2 c, .slice (some ⟨w.heap.size, 0, none⟩) 2 2] (w.alloc (.cells #[.string ⟨#[120]⟩, .string ⟨#[]⟩] 9)) fun e w' => e = .returned (.bool true) ∧ Below w.heap.size w w' := by
  have hb : Below w.heap.size w (w.alloc (.cells #[.string ⟨#[120]⟩, .string ⟨#[]⟩] 9)) := (Below.refl _ _).alloc (Nat.le_refl _) _
  have hc := heap_alloc_new w (.cells #[.string ⟨#[120]⟩, .string ⟨#[]⟩] 9)
  refine (Tryz.slices_Equal_string g 0 2 c w.heap.size 0 2 2 [⟨#[120]⟩, ⟨#[]⟩] [⟨#[120]⟩, ⟨#[]⟩] _ (by simp) (by simp) (by omega) (by omega) (fun j hj => ?_) (fun j hj => ?_)).mono ?_
  · have hj2 : j < 2 := hj
    match j, hj2 with
    | 0, _ => exact (hb.cell (p := ⟨g, 0, none⟩) hg).trans h0
    | 1, _ => exact (hb.cell (p := ⟨g, 1, none⟩) hg).trans h1
  · have hj2 : j < 2 := hj
    rw [cell_of_row _ _ _ _ _ _ hc]
    match j, hj2 with
    | 0, _ => rfl
    | 1, _ => rfl
  · rintro e w' ⟨rfl, q, rfl⟩
    exact ⟨by simp, ⟨hb.os, hb.tape, hb.output, hb.size, hb.block⟩⟩
set_option maxHeartbeats 4000000 in
set_option maxRecDepth 100000 in
theorem awake_any (w : World) (hI : IdAt w) :
    Calls Tryz.prog 11 #[] w fun e w' => e = .returned (.bool true) ∧ Below w.heap.size w w' := by
  have t0 := example_any w
  have t1 : ∀ w, MaxAt w → Calls Tryz.prog 30 #[.string ⟨#[120, 10]⟩] w (GotL w ([[120], []], 0)) := fun w h => by
    have h1 := lines_any ⟨#[120, 10]⟩ w (by show 2 ≤ _; omega) h
    rwa [show (⟨#[120, 10]⟩ : ByteArray).data.toList = [120, 10] from rfl, Tre.lines_ex] at h1
  have t2 : ∀ A w, FlsAt w w.heap.size A Tre.exT → MaxAt w → Calls Tryz.prog 34 #[.slice A 3 3, .agg #[.string ⟨#[97, 47, 120]⟩, .int .i64 1], .string ⟨#[51]⟩] w (GotE w (Tre.exU, 0)) := fun A w hA h => by
    have h1 := replace_any A 3 Tre.exT ⟨#[97, 47, 120]⟩ 1 ⟨#[51]⟩ w hA (by decide) ex_lens h (by decide) (by unfold maxLen; omega) (by decide)
    rwa [show (⟨#[97, 47, 120]⟩ : ByteArray).data.toList = [97, 47, 120] from rfl, show (⟨#[51]⟩ : ByteArray).data.toList = [51] from rfl, Tre.repl_ex] at h1
  have t3 : ∀ A c w, FlsAt w w.heap.size A Tre.exU → Calls Tryz.prog 17 #[.slice A 3 c, .string ⟨#[97, 47, 120]⟩] w fun x w' => x = .returned (.tuple #[.string ⟨#[50, 10, 51]⟩, .bool true]) ∧ Below w.heap.size w w' := fun A c w hA => by
    have h1 := find_any A c Tre.exU ⟨#[97, 47, 120]⟩ w hA (by decide)
    rw [findV_def, show (⟨#[97, 47, 120]⟩ : ByteArray).data.toList = [97, 47, 120] from rfl, Tre.find_ex] at h1
    exact h1
  have t4 : ∀ A A' c' w, FlsAt w w.heap.size A Tre.exT → FlsAt w w.heap.size A' Tre.exU → IdAt w → 3 ≤ c' → c' ≤ maxLen → Calls Tryz.prog 37 #[.slice A 3 3, .slice A' 3 c'] w (GotC w (Tre.diffR Tre.exT Tre.exU)) := fun A A' c' w hA hA' h h1 h2 =>
    differ_any A A' 3 c' Tre.exT Tre.exU w hA hA' (by decide) (by decide) ex_lens eu_lens h (by decide) (by unfold maxLen; omega) h1 h2
  obtain ⟨od, nd, hdx⟩ := diff_ex
  rw [hdx] at t4
  clear hdx
  have t5 : ∀ w, IdAt w → Calls Tryz.prog 28 #[.slice none 0 0] w fun e w' => e = .returned (.tuple #[.string (str Tre.E0), .int .i64 0]) ∧ Below w.heap.size w w' := fun w h => by
    have h1 := id_any none 0 [] w (fun i hi => by cases hi) (by decide) (fun f hf => by cases hf) h (by decide) (by omega)
    unfold idV at h1
    rwa [Tre.id_nil] at h1
  have t6 : ∀ A w, FlsAt w w.heap.size A Tre.exT → IdAt w → Calls Tryz.prog 28 #[.slice A 3 3] w fun e w' => e = .returned (.tuple #[.string (str Tre.RT), .int .i64 0]) ∧ Below w.heap.size w w' := fun A w hA h => by
    have h1 := id_any A 3 Tre.exT w hA (by decide) ex_lens h (by decide) (by unfold maxLen; omega)
    unfold idV at h1
    rwa [Tre.id_ex] at h1
  have t7 : ∀ A w, FlsAt w w.heap.size A Tre.exT → Calls Tryz.prog 29 #[.slice A 3 3] w fun e w' => e = .returned (.tuple #[.string (str Tre.RT), .int .i64 0]) ∧ Below w.heap.size w w' := fun A w hA => by
    have h1 := qID_any A 3 Tre.exT w hA (by decide) ex_lens (by decide) (by unfold maxLen; omega)
    unfold idV at h1
    rwa [Tre.id_ex] at h1
  have t8 : ∀ w, MaxAt w → Calls Tryz.prog 13 #[.string ⟨#[97, 47, 47, 98]⟩] w fun e w' => e = .returned (.int .i64 2) ∧ Below w.heap.size w w' := fun w h => by
    have h1 := path_any ⟨#[97, 47, 47, 98]⟩ w (by decide) h
    rwa [show (⟨#[97, 47, 47, 98]⟩ : ByteArray).data.toList = [97, 47, 47, 98] from rfl, Tre.path_ex1] at h1
  have t9 : ∀ w, MaxAt w → Calls Tryz.prog 13 #[.string ⟨#[97, 47, 98, 46, 115, 114, 99]⟩] w fun e w' => e = .returned (.int .i64 0) ∧ Below w.heap.size w w' := fun w h => by
    have h1 := path_any ⟨#[97, 47, 98, 46, 115, 114, 99]⟩ w (by decide) h
    rwa [show (⟨#[97, 47, 98, 46, 115, 114, 99]⟩ : ByteArray).data.toList = [97, 47, 98, 46, 115, 114, 99] from rfl, Tre.path_ex2] at h1
  have t10 : ∀ A w, FlsAt w w.heap.size A Tre.exT → MaxAt w → Calls Tryz.prog 15 #[.slice A 3 3] w fun x w' => x = .returned (.int .i64 0) ∧ Below w.heap.size w w' := fun A w hA h => by
    have h1 := check_any A 3 Tre.exT w hA (by decide) ex_lens h (by decide) (by unfold maxLen; omega)
    rwa [Tre.ch_ex] at h1
  have hne : (str Tre.E0).toList ≠ (str Tre.RT).toList := by rw [str_list, str_list]; exact Tre.ids_ne
  have n1 : ((str Tre.E0).toList == (str Tre.RT).toList) = false := by rw [beq_eq_false_iff_ne]; exact hne
  have n2 : ((str Tre.E0).toList != (str Tre.RT).toList) = true := by rw [bne, n1]; rfl
  have n3 : ((str Tre.RT).toList == (str Tre.RT).toList) = true := by simp
  clear hne
  generalize str Tre.E0 = e0 at *
  generalize str Tre.RT = rt at *
  go_enter Tryz.func11, Tryz.ntmps11
  go_wp2_with fail
  with_reducible refine t0.mono ?_
  clear t0
  rintro x w1 ⟨A, rfl, hA1, hb1⟩
  have hI1 := hI.below hb1
  clear hI
  have c1 := t1 w1 hI1.max
  clear t1
  go_wp2_with fail
  with_reducible refine c1.mono ?_
  clear c1
  rintro x w2 ⟨v2, rfl, ho2, hb2⟩
  dsimp only at ho2
  obtain ⟨g2, k2, rfl, _, hg2, _, _, hcell⟩ := own_pos ho2 (by decide)
  have l0 : w2.cell? ⟨g2, 0, none⟩ = some (.string ⟨#[120]⟩) := hcell 0 (by decide)
  have l1 : w2.cell? ⟨g2, 1, none⟩ = some (.string ⟨#[]⟩) := hcell 1 (by decide)
  clear hcell ho2
  have hA2 := hA1.next hb2
  have hI2 := hI1.below hb2
  have hbb2 := hb1.trans (hb2.mono hb1.size)
  clear hA1 hI1 hb1 hb2
  have c2 := t2 A w2 hA2 hI2.max
  clear t2
  go_wp2_with fail
  with_reducible refine c2.mono ?_
  clear c2
  rintro x w3 ⟨v3, rfl, ho3, hb3⟩
  dsimp only at ho3
  obtain ⟨B, k3, hv3, hB3⟩ := owns_fls ho3
  replace hv3 : v3 = .slice B 3 k3 := hv3
  subst hv3
  obtain ⟨hk3, hk3'⟩ := own_cap ho3
  replace hk3 : 3 ≤ k3 := hk3
  clear ho3
  have hA3 := hA2.next hb3
  have hI3 := hI2.below hb3
  have hbb3 := hbb2.trans (hb3.mono hbb2.size)
  have HL3 := (hb3.cell (p := ⟨g2, 0, none⟩) hg2).trans l0
  have HL3' := (hb3.cell (p := ⟨g2, 1, none⟩) hg2).trans l1
  have hg3 : g2 < w3.heap.size := Nat.lt_of_lt_of_le hg2 hb3.size
  clear hA2 hI2 hbb2 l0 l1 hg2 hb3
  have c3 := t3 B k3 w3 hB3
  clear t3
  go_wp2_with fail
  with_reducible refine c3.mono ?_
  clear c3
  rintro x w4 ⟨rfl, hb4⟩
  have hA4 := hA3.next hb4
  have hB4 := hB3.next hb4
  have hI4 := hI3.below hb4
  have hbb4 := hbb3.trans (hb4.mono hbb3.size)
  have l0 := (hb4.cell (p := ⟨g2, 0, none⟩) hg3).trans HL3
  have l1 := (hb4.cell (p := ⟨g2, 1, none⟩) hg3).trans HL3'
  have hg4 : g2 < w4.heap.size := Nat.lt_of_lt_of_le hg3 hb4.size
  clear hA3 hB3 hI3 hbb3 HL3 HL3' hg3 hb4
  have c4 := t4 A B k3 w4 hA4 hB4 hI4 hk3 hk3'
  clear t4 hB4
  go_wp2_with fail
  with_reducible refine c4.mono ?_
  clear c4
  rintro x w5 ⟨v5, rfl, ho5, hb5⟩
  dsimp only at ho5
  replace ho5 : w5.ownsRow w4.heap.size 59 4 v5 1 [.string (str [97, 47, 120]), .int .i64 3, .string (str od), .string (str nd)] := ho5
  obtain ⟨g5, k5, rfl, _, hg5, _, _, hcell⟩ := own_pos ho5 (by decide)
  have m1 : w5.cell? ⟨g5, 1, none⟩ = some (.int .i64 3) := hcell 1 (by decide)
  clear hcell ho5
  have hA5 := hA4.next hb5
  have hI5 := hI4.below hb5
  have hbb5 := hbb4.trans (hb5.mono hbb4.size)
  have L0 := (hb5.cell (p := ⟨g2, 0, none⟩) hg4).trans l0
  have L1 := (hb5.cell (p := ⟨g2, 1, none⟩) hg4).trans l1
  have hgg5 : g2 < w5.heap.size := Nat.lt_of_lt_of_le hg4 hb5.size
  clear hA4 hI4 hbb4 l0 l1 hg4 hb5
  have c5 := t5 w5 hI5
  clear t5
  go_wp2_with fail
  with_reducible refine c5.mono ?_
  clear c5
  rintro x w6 ⟨rfl, hb6⟩
  have hA6 := hA5.next hb6
  have hI6 := hI5.below hb6
  have hbb6 := hbb5.trans (hb6.mono hbb5.size)
  have l0 := (hb6.cell (p := ⟨g2, 0, none⟩) hgg5).trans L0
  have l1 := (hb6.cell (p := ⟨g2, 1, none⟩) hgg5).trans L1
  have M1 := (hb6.cell (p := ⟨g5, 1, none⟩) hg5).trans m1
  have hg6 : g2 < w6.heap.size := Nat.lt_of_lt_of_le hgg5 hb6.size
  have hg6' : g5 < w6.heap.size := Nat.lt_of_lt_of_le hg5 hb6.size
  clear hA5 hI5 hbb5 L0 L1 hgg5 hg5 m1 hb6
  have c6 := t6 A w6 hA6 hI6
  clear t6
  go_wp2_with fail
  with_reducible refine c6.mono ?_
  clear c6
  rintro x w7 ⟨rfl, hb7⟩
  have hA7 := hA6.next hb7
  have hI7 := hI6.below hb7
  have hbb7 := hbb6.trans (hb7.mono hbb6.size)
  have L0 := (hb7.cell (p := ⟨g2, 0, none⟩) hg6).trans l0
  have L1 := (hb7.cell (p := ⟨g2, 1, none⟩) hg6).trans l1
  have m1 := (hb7.cell (p := ⟨g5, 1, none⟩) hg6').trans M1
  have hg7 : g2 < w7.heap.size := Nat.lt_of_lt_of_le hg6 hb7.size
  have hg7' : g5 < w7.heap.size := Nat.lt_of_lt_of_le hg6' hb7.size
  clear hA6 hI6 hbb6 l0 l1 hg6 hg6' M1 hb7
  have c7 := t7 A w7 hA7
  clear t7
  go_wp2_with fail
  with_reducible refine c7.mono ?_
  clear c7
  rintro x w8 ⟨rfl, hb8⟩
  have hA8 := hA7.next hb8
  have hI8 := hI7.below hb8
  have hbb8 := hbb7.trans (hb8.mono hbb7.size)
  have l0 := (hb8.cell (p := ⟨g2, 0, none⟩) hg7).trans L0
  have l1 := (hb8.cell (p := ⟨g2, 1, none⟩) hg7).trans L1
  have M1 := (hb8.cell (p := ⟨g5, 1, none⟩) hg7').trans m1
  have hg8 : g2 < w8.heap.size := Nat.lt_of_lt_of_le hg7 hb8.size
  have hg8' : g5 < w8.heap.size := Nat.lt_of_lt_of_le hg7' hb8.size
  clear hA7 hI7 hbb7 L0 L1 hg7 hg7' m1 hb8
  have c8 := equal_ex g2 k2 w8 hg8 l0 l1
  clear l0 l1 hg8
  go_wp2_with fail
  with_reducible refine c8.mono ?_
  clear c8
  rintro x w9 ⟨rfl, hb9⟩
  have hA9 := hA8.next hb9
  have hI9 := hI8.below hb9
  have hbb9 := hbb8.trans (hb9.mono hbb8.size)
  have m1 := (hb9.cell (p := ⟨g5, 1, none⟩) hg8').trans M1
  clear hA8 hI8 hbb8 hg8' M1 hb9
  have c9 := t8 w9 hI9.max
  clear t8
  go_wp2_with fail
  with_reducible refine c9.mono ?_
  clear c9
  rintro x w10 ⟨rfl, hb10⟩
  have hA10 := hA9.next hb10
  have hI10 := hI9.below hb10
  have hbb10 := hbb9.trans (hb10.mono hbb9.size)
  clear hA9 hI9 hbb9 hb10 m1
  have c10 := t9 w10 hI10.max
  clear t9
  go_wp2_with fail
  with_reducible refine c10.mono ?_
  clear c10
  rintro x w11 ⟨rfl, hb11⟩
  have hA11 := hA10.next hb11
  have hI11 := hI10.below hb11
  have hbb11 := hbb10.trans (hb11.mono hbb10.size)
  clear hA10 hI10 hbb10 hb11
  have c11 := t10 A w11 hA11 hI11.max
  clear t10
  go_wp2_with fail
  with_reducible refine c11.mono ?_
  clear c11
  rintro x w12 ⟨rfl, hb12⟩
  go_wp2_with fail
  go_ret
  exact ⟨rfl, hbb11.trans (hb12.mono hbb11.size)⟩
end Go.Proofs.YtinkpbobkeppiaaGreatDoor
