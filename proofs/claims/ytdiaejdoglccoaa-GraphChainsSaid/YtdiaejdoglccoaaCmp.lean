/- The order of edges: cmp.Or at three numbers, compare; Check's closures on edges. No condition. -/
import Derived.Test.YtdiaejdoglccoaaSml
import Derived.Deep.RegionLaw
namespace Go.Proofs.Ytdiaejdoglccoaa
open Go.RowKit Go.Deep Tr

namespace Gr
def or3 (x y z : Int) : Int := if x = 0 then (if y = 0 then z else y) else x
def cmp (a b : Ed) : Int := or3 (Lib.compareInt a.src b.src) (Lib.compareInt a.dst b.dst) (Lib.compareInt a.stp b.stp)
def lt (a b : Ed) : Bool := decide (cmp a b < 0)
def out (g : Gph) (x : Ed) : Bool := !isN g x.src || !isN g x.dst || decide (x.stp < 0)
end Gr
set_option maxHeartbeats 2000000 in
set_option maxRecDepth 100000 in
theorem or_any (g o : Nat) (x y z : Int) (c : Nat) (w : World) (h0 : w.cell? ⟨g, o, none⟩ = some (.int .i64 x)) (h1 : w.cell? ⟨g, o + 1, none⟩ = some (.int .i64 y)) (h2 : w.cell? ⟨g, o + 2, none⟩ = some (.int .i64 z)) :
    Calls Try.prog 59 #[.slice (some ⟨g, o, none⟩) 3 c] w fun e w' => e = .returned (.int .i64 (Gr.or3 x y z)) ∧ w = w' := by
  have hcell : ∀ k, k < 3 → w.cell? ⟨g, o + k, none⟩ = some (.int .i64 (if k = 0 then x else if k = 1 then y else z)) := fun k hk => by
    rcases (show k = 0 ∨ k = 1 ∨ k = 2 by omega) with rfl | rfl | rfl
    · exact h0
    · exact h1
    · exact h2
  have HH := Lib.hid (show Gr.or3 x y z = if x = 0 then (if y = 0 then z else y) else x from rfl)
  generalize Gr.or3 x y z = V at *
  clear h0 h1 h2
  go_enter Try.func59, Try.ntmps59
  go_wp2_with fail
  go_loopw [8] (fun s8 wr => ∃ k : Nat, s8 = .int .i64 k ∧ k ≤ 3 ∧ (1 ≤ k → x = 0) ∧ (2 ≤ k → y = 0) ∧ (3 ≤ k → z = 0) ∧ w = wr) (fun s8 _ => 3 - (intOf s8).toNat)
  case atStart => exact ⟨0, rfl, by omega, fun h => by omega, fun h => by omega, fun h => by omega, rfl⟩
  case round =>
    obtain ⟨k, rfl, hk, i1, i2, i3, rfl⟩ := hrel
    by_cases hlt : k < 3
    · have b1 : decide ((k : Int) < 3) = true := decide_eq_true (by omega)
      have b1n : decide (k < 3) = true := decide_eq_true hlt
      have hc := hcell k hlt
      obtain ⟨v, hv⟩ : ∃ v, (if k = 0 then x else if k = 1 then y else z) = v := ⟨_, rfl⟩
      rw [hv] at hc
      have hk3 : k = 0 ∨ k = 1 ∨ k = 2 := by omega
      by_cases hz : v = 0
      · have c1 : (v != 0) = false := by rw [hz]; rfl
        have c2 : (v == 0) = true := by rw [hz]; rfl
        have I := Lib.hid (show (1 ≤ k + 1 → x = 0) ∧ (2 ≤ k + 1 → y = 0) ∧ (3 ≤ k + 1 → z = 0) by
          rcases hk3 with rfl | rfl | rfl
          · exact ⟨fun _ => hv.trans hz, fun h => by omega, fun h => by omega⟩
          · exact ⟨fun _ => i1 (by omega), fun _ => hv.trans hz, fun h => by omega⟩
          · exact ⟨fun _ => i1 (by omega), fun _ => i2 (by omega), fun _ => hv.trans hz⟩)
        clear hv hz i1 i2 i3 hcell hk3
        go_wp2_with fail
        go_roundw
        case rel => exact ⟨k + 1, by go_num, by omega, I.out.1, I.out.2.1, I.out.2.2, by first | rfl | trivial⟩
        case measure => simp [intOf]; omega
      · have c1 : (v != 0) = true := by rw [bne_iff_ne]; exact hz
        have c2 : (v == 0) = false := by rw [beq_eq_false_iff_ne]; exact hz
        have HT := Lib.hid (show V = v by
          rw [HH.out]
          rcases hk3 with rfl | rfl | rfl
          · rw [if_neg (by intro e; exact hz (hv.symm.trans e))]; exact hv
          · rw [if_pos (i1 (by omega)), if_neg (by intro e; exact hz (hv.symm.trans e))]; exact hv
          · rw [if_pos (i1 (by omega)), if_pos (i2 (by omega))]; exact hv)
        clear hv hz i1 i2 i3 hcell hk3
        go_wp2_with fail
        first | go_ret2 | go_ret
        exact ⟨by rw [HT.out]; rfl, rfl⟩
    · have b1 : decide ((k : Int) < 3) = false := decide_eq_false (by omega)
      have b1n : decide (k < 3) = false := decide_eq_false hlt
      have HT := Lib.hid (show V = 0 by rw [HH.out, if_pos (i1 (by omega)), if_pos (i2 (by omega))]; exact i3 (by omega))
      clear i1 i2 i3 hcell
      go_wp2_with fail
      go_ret
      exact ⟨by rw [HT.out]; rfl, rfl⟩
set_option maxHeartbeats 8000000 in
set_option maxRecDepth 100000 in
theorem compare_any (a b : Ed) (w : World) :
    Calls Try.prog 53 #[edA a, edA b] w fun e w' => e = .returned (.int .i64 (Gr.cmp a b)) ∧ Below w.heap.size w w' := by
  rw [edA_def, edA_def]
  have HV := Lib.hid (show Gr.cmp a b = Gr.or3 (Lib.compareInt a.src b.src) (Lib.compareInt a.dst b.dst) (Lib.compareInt a.stp b.stp) from rfl)
  generalize Gr.cmp a b = V at *
  have hC := fun W => Try.cmp_Compare_int a.src b.src W
  have hD := fun W => Try.cmp_Compare_int a.dst b.dst W
  have hI := fun W => Try.cmp_Compare_int a.stp b.stp W
  generalize Lib.compareInt a.src b.src = x at *
  generalize Lib.compareInt a.dst b.dst = y at *
  generalize Lib.compareInt a.stp b.stp = z at *
  have hO := fun g o c W h0 h1 h2 => or_any g o x y z c W h0 h1 h2
  rw [← HV.out] at hO
  obtain ⟨a0, a1, a2⟩ := a
  obtain ⟨b0, b1, b2⟩ := b
  dsimp only at hC hD hI ⊢
  have hN1 := heap_alloc_new w (.cells #[.int .i64 a0, .int .i64 a1, .int .i64 a2] 42)
  have hN2 := heap_alloc_new (w.alloc (.cells #[.int .i64 a0, .int .i64 a1, .int .i64 a2] 42)) (.cells #[.int .i64 b0, .int .i64 b1, .int .i64 b2] 42)
  have hN3 : ((w.alloc (.cells #[.int .i64 a0, .int .i64 a1, .int .i64 a2] 42)).alloc (.cells #[.int .i64 b0, .int .i64 b1, .int .i64 b2] 42)).heap[w.heap.size]? = _ := (blk_alloc_lt _ _ _ (blk_lt hN1)).trans hN1
  rw [show (w.alloc (.cells #[.int .i64 a0, .int .i64 a1, .int .i64 a2] 42)).heap.size = w.heap.size + 1 by simp] at hN2
  obtain ⟨W, hW⟩ : ∃ W, W = (w.alloc (.cells #[.int .i64 a0, .int .i64 a1, .int .i64 a2] 42)).alloc (.cells #[.int .i64 b0, .int .i64 b1, .int .i64 b2] 42) := ⟨_, rfl⟩
  rw [← hW] at hN2 hN3
  have HBW := Lib.hid (show Below w.heap.size w W by rw [hW]; exact ((Below.refl _ _).alloc (Nat.le_refl _) _).alloc (by simp) _)
  go_enter Try.func53, Try.ntmps53
  go_upto_region 1 with (fail)
  rw [← hW]
  clear hN1 hW HV
  have e0 : W.cell? ⟨w.heap.size, 0, none⟩ = some (.int .i64 a0) := by rw [cell_of_row _ _ _ _ _ _ hN3]; rfl
  have e1 : W.cell? ⟨w.heap.size, 1, none⟩ = some (.int .i64 a1) := by rw [cell_of_row _ _ _ _ _ _ hN3]; rfl
  have e2 : W.cell? ⟨w.heap.size, 2, none⟩ = some (.int .i64 a2) := by rw [cell_of_row _ _ _ _ _ _ hN3]; rfl
  have f0 : W.cell? ⟨w.heap.size + 1, 0, none⟩ = some (.int .i64 b0) := by rw [cell_of_row _ _ _ _ _ _ hN2]; rfl
  have f1 : W.cell? ⟨w.heap.size + 1, 1, none⟩ = some (.int .i64 b1) := by rw [cell_of_row _ _ _ _ _ _ hN2]; rfl
  have f2 : W.cell? ⟨w.heap.size + 1, 2, none⟩ = some (.int .i64 b2) := by rw [cell_of_row _ _ _ _ _ _ hN2]; rfl
  have hl1 := blk_lt hN2
  have hl0 := blk_lt hN3
  have hka : ∀ o, (W.alloc o).drew.cell? ⟨w.heap.size, 0, none⟩ = some (.int .i64 a0) ∧ (W.alloc o).drew.cell? ⟨w.heap.size, 1, none⟩ = some (.int .i64 a1) ∧ (W.alloc o).drew.cell? ⟨w.heap.size, 2, none⟩ = some (.int .i64 a2) ∧ (W.alloc o).drew.cell? ⟨w.heap.size + 1, 0, none⟩ = some (.int .i64 b0) ∧ (W.alloc o).drew.cell? ⟨w.heap.size + 1, 1, none⟩ = some (.int .i64 b1) ∧ (W.alloc o).drew.cell? ⟨w.heap.size + 1, 2, none⟩ = some (.int .i64 b2) := fun o => by
    have hb : Below W.heap.size W (W.alloc o).drew := ((Below.refl _ _).alloc (Nat.le_refl _) _).drew
    exact ⟨(hb.cell (p := ⟨w.heap.size, 0, none⟩) hl0).trans e0, (hb.cell (p := ⟨w.heap.size, 1, none⟩) hl0).trans e1, (hb.cell (p := ⟨w.heap.size, 2, none⟩) hl0).trans e2, (hb.cell (p := ⟨w.heap.size + 1, 0, none⟩) hl1).trans f0, (hb.cell (p := ⟨w.heap.size + 1, 1, none⟩) hl1).trans f1, (hb.cell (p := ⟨w.heap.size + 1, 2, none⟩) hl1).trans f2⟩
  have hnw := heap_alloc_new W (.cells #[.int .i64 x, .int .i64 y, .int .i64 z] 3)
  have hOW := hO W.heap.size 0 3 (W.alloc (.cells #[.int .i64 x, .int .i64 y, .int .i64 z] 3)).drew (by show (W.alloc (.cells #[.int .i64 x, .int .i64 y, .int .i64 z] 3)).cell? _ = _; rw [cell_of_row _ _ _ _ _ _ hnw]; rfl) (by show (W.alloc (.cells #[.int .i64 x, .int .i64 y, .int .i64 z] 3)).cell? _ = _; rw [cell_of_row _ _ _ _ _ _ hnw]; rfl) (by show (W.alloc (.cells #[.int .i64 x, .int .i64 y, .int .i64 z] 3)).cell? _ = _; rw [cell_of_row _ _ _ _ _ _ hnw]; rfl)
  have HKA := Lib.hid hka
  clear hka hN2 hN3 hO hnw
  go_region_held3 (fun w' => w'.cell? ⟨w.heap.size, 0, none⟩ = some (.int .i64 a0) ∧ w'.cell? ⟨w.heap.size, 1, none⟩ = some (.int .i64 a1) ∧ w'.cell? ⟨w.heap.size, 2, none⟩ = some (.int .i64 a2) ∧ w'.cell? ⟨w.heap.size + 1, 0, none⟩ = some (.int .i64 b0) ∧ w'.cell? ⟨w.heap.size + 1, 1, none⟩ = some (.int .i64 b1) ∧ w'.cell? ⟨w.heap.size + 1, 2, none⟩ = some (.int .i64 b2)) (first | exact ⟨e0, e1, e2, f0, f1, f2⟩ | exact HKA.out _) (first | (go_at_call 60; first | ((with_reducible refine (hC _).mono ?_); rintro e w5 ⟨rfl, rfl⟩) | ((with_reducible refine (hD _).mono ?_); rintro e w5 ⟨rfl, rfl⟩) | ((with_reducible refine (hI _).mono ?_); rintro e w5 ⟨rfl, rfl⟩)) | (go_at_call 59; (with_reducible refine hOW.mono ?_); rintro e w5 ⟨rfl, rfl⟩))
  all_goals
    have HBB := Lib.hid (((HBW.out.alloc HBW.out.size (.cells #[.int .i64 x, .int .i64 y, .int .i64 z] 3)).drew))
    go_wp2_with fail
    go_ret
    exact ⟨rfl, HBB.out⟩
set_option maxHeartbeats 2000000 in
set_option maxRecDepth 100000 in
theorem under_any (a b : Ed) (w : World) : Calls Try.prog 52 #[edA a, edA b] w fun e w' => e = .returned (.bool (Gr.lt a b)) ∧ Below w.heap.size w w' := by
  have hb0 : Below w.heap.size w ((w.alloc (edO a)).alloc (edO b)) := ((Below.refl _ _).alloc (Nat.le_refl _) _).alloc (by simp) _
  have cc := compare_any a b ((w.alloc (edO a)).alloc (edO b))
  rw [edA_def, edA_def] at cc
  rw [edA_def, edA_def]
  have HV := Lib.hid (show Gr.lt a b = decide (Gr.cmp a b < 0) from rfl)
  generalize Gr.lt a b = V at *
  generalize Gr.cmp a b = x at *
  generalize hd : decide (x < 0) = d at *
  go_enter Try.func52, Try.ntmps52
  go_wp2_with fail
  with_reducible refine cc.mono ?_
  clear cc
  rintro e w2 ⟨rfl, hb⟩
  have HB := Lib.hid (hb0.trans (hb.mono hb0.size))
  clear hb hb0
  go_wp2_with fail
  go_ret
  exact ⟨by rw [HV.out]; first | rfl | rw [hd], HB.out⟩
end Go.Proofs.Ytdiaejdoglccoaa
