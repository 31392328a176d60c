/- The order of edges in the program: cmp.Or, the closure of choose, the sort at a row of the call's own. No condition but the lengths. -/
import Derived.Test.YtlablbibdkcifaaGreatDoorEdg
import Derived.Test.YtlablbibdkcifaaGreatDoorShelf
import Derived.Deep.RegionHeld3
import Derived.Deep.RegionLaw
namespace Go.Proofs.YtlablbibdkcifaaGreatDoor
open Go.RowKit Go.Deep Tr

set_option maxRecDepth 100000 in
theorem or_any (g o : Nat) (x y : Int) (c : Nat) (w : World) (h0 : w.cell? ⟨g, o, none⟩ = some (.int .i64 x)) (h1 : w.cell? ⟨g, o + 1, none⟩ = some (.int .i64 y)) :
    Calls Tryz.prog 69 #[.slice (some ⟨g, o, none⟩) 2 c] w fun e w' => e = .returned (.int .i64 (if x = 0 then y else x)) ∧ w = w' := by
  have hcell : ∀ k, k < 2 → w.cell? ⟨g, o + k, none⟩ = some (.int .i64 (if k = 0 then x else y)) := fun k hk => by
    rcases (show k = 0 ∨ k = 1 by omega) with rfl | rfl
    · rw [if_pos rfl]; exact h0
    · rw [if_neg (by decide)]; exact h1
  have HV := Lib.hid (show (if x = 0 then y else x) = (if x = 0 then y else x) from rfl)
  generalize hV : (if x = 0 then y else x) = V at HV ⊢
  have HH := Lib.hid hV
  clear h0 h1 hV HV
  go_enter Tryz.func69, Tryz.ntmps69
  go_wp2_with fail
  go_loopw [8] (fun s8 wr => ∃ k : Nat, s8 = .int .i64 k ∧ k ≤ 2 ∧ (1 ≤ k → x = 0) ∧ (2 ≤ k → y = 0) ∧ w = wr) (fun s8 _ => 2 - (intOf s8).toNat)
  case atStart => exact ⟨0, rfl, by omega, fun h => by omega, fun h => by omega, rfl⟩
  case round =>
    obtain ⟨k, rfl, hk, i1, i2, rfl⟩ := hrel
    by_cases hlt : k < 2
    · have b1 : decide ((k : Int) < 2) = true := decide_eq_true (by omega)
      have b1n : decide (k < 2) = true := decide_eq_true hlt
      have hc := hcell k hlt
      obtain ⟨v, hv⟩ : ∃ v, (if k = 0 then x else y) = v := ⟨_, rfl⟩
      rw [hv] at hc
      by_cases hz : v = 0
      · have c1 : (v != 0) = false := by rw [hz]; rfl
        have c2 : (v == 0) = true := by rw [hz]; rfl
        have I1 := Lib.hid (show 1 ≤ k + 1 → x = 0 from fun _ => by
          by_cases e : k = 0
          · rw [if_pos e] at hv; rw [hv, hz]
          · exact i1 (by omega))
        have I2 := Lib.hid (show 2 ≤ k + 1 → y = 0 from fun _ => by rw [if_neg (by omega)] at hv; rw [hv, hz])
        clear hv hz i1 i2 hcell
        go_wp2_with fail
        go_roundw
        case rel => exact ⟨k + 1, by go_num, by omega, I1.out, I2.out, by first | rfl | trivial⟩
        case measure => simp [intOf]; omega
      · have c1 : (v != 0) = true := by rw [bne_iff_ne]; exact hz
        have c2 : (v == 0) = false := by rw [beq_eq_false_iff_ne]; exact hz
        have HT := Lib.hid (show V = v by
          rw [← HH.out]
          by_cases e : k = 0
          · rw [if_pos e] at hv; rw [hv, if_neg hz]
          · rw [if_neg e] at hv; rw [if_pos (i1 (by omega)), hv])
        clear hv hz i1 i2 hcell
        go_wp2_with fail
        first | go_ret2 | go_ret
        exact ⟨by rw [HT.out]; rfl, rfl⟩
    · have b1 : decide ((k : Int) < 2) = false := decide_eq_false (by omega)
      have b1n : decide (k < 2) = false := decide_eq_false hlt
      have HT := Lib.hid (show V = 0 by rw [← HH.out, if_pos (i1 (by omega))]; exact i2 (by omega))
      clear i1 i2 hcell
      go_wp2_with fail
      go_ret
      exact ⟨by rw [HT.out]; rfl, rfl⟩
def edA (e : Ls.Ed) : Value := .agg #[.string (str e.path), .int .i64 e.n, .int .i64 e.side, .int .i64 e.ent]
theorem edA_def (e : Ls.Ed) : edA e = .agg #[.string (str e.path), .int .i64 e.n, .int .i64 e.side, .int .i64 e.ent] := rfl
theorem cf_def (a b : Ls.Ed) : Ls.cf a b = if Lib.compareBytes a.path b.path = 0 then Lib.compareInt a.n b.n else Lib.compareBytes a.path b.path := rfl
set_option maxHeartbeats 8000000 in
set_option maxRecDepth 100000 in
theorem cmp_any (a b : Ls.Ed) (w : World) :
    Calls Tryz.prog 68 #[edA a, edA b] w fun e w' => e = .returned (.int .i64 (Ls.cf a b)) ∧ ∃ q os', w' = Go.Sort.grow (w.drewN q) os' := by
  rw [edA_def, edA_def]
  have HV := Lib.hid (cf_def a b)
  generalize Ls.cf a b = V at *
  have hC := fun W => Tryz.strings_Compare (str a.path) (str b.path) W
  have hI := fun W => Tryz.cmp_Compare_int a.n b.n W
  rw [show (str a.path).data.toList = a.path from rfl, show (str b.path).data.toList = b.path from rfl] at hC
  generalize Lib.compareBytes a.path b.path = x at *
  generalize Lib.compareInt a.n b.n = y at *
  have hO := fun g o c W h0 h1 => or_any g o x y c W h0 h1
  rw [← HV.out] at hO
  generalize str a.path = sa at *
  generalize str b.path = sb at *
  have hN1 := heap_alloc_new w (.cells #[.string sa, .int .i64 a.n, .int .i64 a.side, .int .i64 a.ent] 85)
  have hN2 := heap_alloc_new (w.alloc (.cells #[.string sa, .int .i64 a.n, .int .i64 a.side, .int .i64 a.ent] 85)) (.cells #[.string sb, .int .i64 b.n, .int .i64 b.side, .int .i64 b.ent] 85)
  have hN3 : ((w.alloc (.cells #[.string sa, .int .i64 a.n, .int .i64 a.side, .int .i64 a.ent] 85)).alloc (.cells #[.string sb, .int .i64 b.n, .int .i64 b.side, .int .i64 b.ent] 85)).heap[w.heap.size]? = _ := (blk_alloc_lt _ _ _ (blk_lt hN1)).trans hN1
  rw [show (w.alloc (.cells #[.string sa, .int .i64 a.n, .int .i64 a.side, .int .i64 a.ent] 85)).heap.size = w.heap.size + 1 by simp] at hN2
  obtain ⟨W, hW⟩ : ∃ W, W = (w.alloc (.cells #[.string sa, .int .i64 a.n, .int .i64 a.side, .int .i64 a.ent] 85)).alloc (.cells #[.string sb, .int .i64 b.n, .int .i64 b.side, .int .i64 b.ent] 85) := ⟨_, rfl⟩
  rw [← hW] at hN2 hN3
  have HW := Lib.hid (show ∃ os, W = Go.Sort.grow w os from ⟨#[.cells #[.string sa, .int .i64 a.n, .int .i64 a.side, .int .i64 a.ent] 85, .cells #[.string sb, .int .i64 b.n, .int .i64 b.side, .int .i64 b.ent] 85], by rw [hW, Go.Sort.alloc_eq_grow, Go.Sort.alloc_eq_grow, Go.Sort.grow_grow]; rfl⟩)
  go_enter Tryz.func68, Tryz.ntmps68
  go_upto_region 1 with (fail)
  rw [← hW]
  clear hN1 hW HV
  have e0 : W.cell? ⟨w.heap.size, 0, none⟩ = some (.string sa) := by rw [cell_of_row _ _ _ _ _ _ hN3]; rfl
  have e1 : W.cell? ⟨w.heap.size, 1, none⟩ = some (.int .i64 a.n) := by rw [cell_of_row _ _ _ _ _ _ hN3]; rfl
  have f0 : W.cell? ⟨w.heap.size + 1, 0, none⟩ = some (.string sb) := by rw [cell_of_row _ _ _ _ _ _ hN2]; rfl
  have f1 : W.cell? ⟨w.heap.size + 1, 1, none⟩ = some (.int .i64 b.n) := by rw [cell_of_row _ _ _ _ _ _ hN2]; rfl
  have hl1 := blk_lt hN2
  have hl0 := blk_lt hN3
  have hka : ∀ o, (W.alloc o).drew.cell? ⟨w.heap.size, 0, none⟩ = some (.string sa) ∧ (W.alloc o).drew.cell? ⟨w.heap.size, 1, none⟩ = some (.int .i64 a.n) ∧ (W.alloc o).drew.cell? ⟨w.heap.size + 1, 0, none⟩ = some (.string sb) ∧ (W.alloc o).drew.cell? ⟨w.heap.size + 1, 1, none⟩ = some (.int .i64 b.n) := fun o => by
    have hb : Below W.heap.size W (W.alloc o).drew := ((Below.refl _ _).alloc (Nat.le_refl _) _).drew
    exact ⟨(hb.cell (p := ⟨w.heap.size, 0, none⟩) hl0).trans e0, (hb.cell (p := ⟨w.heap.size, 1, none⟩) hl0).trans e1, (hb.cell (p := ⟨w.heap.size + 1, 0, none⟩) hl1).trans f0, (hb.cell (p := ⟨w.heap.size + 1, 1, none⟩) hl1).trans f1⟩
  have hnw := heap_alloc_new W (.cells #[.int .i64 x, .int .i64 y] 3)
  have hOW := hO W.heap.size 0 2 (W.alloc (.cells #[.int .i64 x, .int .i64 y] 3)).drew (by show (W.alloc (.cells #[.int .i64 x, .int .i64 y] 3)).cell? _ = _; rw [cell_of_row _ _ _ _ _ _ hnw]; rfl) (by show (W.alloc (.cells #[.int .i64 x, .int .i64 y] 3)).cell? _ = _; rw [cell_of_row _ _ _ _ _ _ hnw]; rfl)
  have HKA := Lib.hid hka
  clear hka hN2 hN3 hO hnw
  go_region_held3 (fun w' => w'.cell? ⟨w.heap.size, 0, none⟩ = some (.string sa) ∧ w'.cell? ⟨w.heap.size, 1, none⟩ = some (.int .i64 a.n) ∧ w'.cell? ⟨w.heap.size + 1, 0, none⟩ = some (.string sb) ∧ w'.cell? ⟨w.heap.size + 1, 1, none⟩ = some (.int .i64 b.n)) (first | exact ⟨e0, e1, f0, f1⟩ | exact HKA.out _) (first | (go_at_call 70; refine (hC _).mono ?_; rintro e w5 ⟨rfl, rfl⟩) | (go_at_call 71; refine (hI _).mono ?_; rintro e w5 ⟨rfl, rfl⟩) | (go_at_call 69; refine hOW.mono ?_; rintro e w5 ⟨rfl, rfl⟩))
  all_goals
    obtain ⟨os, hos⟩ := HW.out
    go_wp2_with fail
    go_ret
    exact ⟨rfl, 1, os ++ #[.cells #[.int .i64 x, .int .i64 y] 3], by rw [hos, Go.Sort.alloc_eq_grow, Go.Sort.grow_grow]; rfl⟩
end Go.Proofs.YtlablbibdkcifaaGreatDoor
