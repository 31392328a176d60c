/- The reference's ascends, Check, right. No condition but the lengths. -/
import Derived.Test.YtjemffgidhgfjaaGreatDoorMz7
import Derived.BigQuiet
namespace Go.Proofs.YtjemffgidhgfjaaGreatDoor
open Go.RowKit Go.Deep Tr

namespace Gr
theorem chk_1 {g : Gph} (h1 : big g = true) : chk g = 10 := by unfold chk; rw [h1]; rfl
theorem chk_2 {g : Gph} (h1 : big g = false) (h2 : g.ns.any (fun s => decide (128 < s.length)) = true) : chk g = 2 := by unfold chk; rw [h1, h2]; rfl
theorem chk_3 {g : Gph} (h1 : big g = false) (h2 : g.ns.any (fun s => decide (128 < s.length)) = false) (h3 : asc Op.bytesLess g.ns = false) : chk g = 5 := by unfold chk; rw [h1, h2, h3]; rfl
theorem chk_4 {g : Gph} (h1 : big g = false) (h2 : g.ns.any (fun s => decide (128 < s.length)) = false) (h3 : asc Op.bytesLess g.ns = true) (h4 : g.es.any (fun x => out g x) = true) : chk g = 3 := by unfold chk; rw [h1, h2, h3, h4]; rfl
theorem chk_5 {g : Gph} (h1 : big g = false) (h2 : g.ns.any (fun s => decide (128 < s.length)) = false) (h3 : asc Op.bytesLess g.ns = true) (h4 : g.es.any (fun x => out g x) = false) (h5 : asc lt g.es = false) : chk g = 5 := by unfold chk; rw [h1, h2, h3, h4, h5]; rfl
theorem chk_6 {g : Gph} (h1 : big g = false) (h2 : g.ns.any (fun s => decide (128 < s.length)) = false) (h3 : asc Op.bytesLess g.ns = true) (h4 : g.es.any (fun x => out g x) = false) (h5 : asc lt g.es = true) : chk g = 0 := by unfold chk; rw [h1, h2, h3, h4, h5]; rfl
end Gr
set_option maxHeartbeats 4000000 in
set_option maxRecDepth 100000 in
theorem qasc_any (a b : Ed) (w : World) : Calls Tryz.prog 46 #[edA a, edA b] w fun e w' => e = .returned (.bool (Gr.lt a b)) ∧ Below w.heap.size w w' := by
  obtain ⟨W, hW⟩ : ∃ W, W = (w.alloc (edO a)).alloc (edO b) := ⟨_, rfl⟩
  have hb0 : Below w.heap.size w W := by rw [hW]; exact ((Below.refl _ _).alloc (Nat.le_refl _) _).alloc (by simp) _
  have hA : W.heap[w.heap.size]? = some (edO a) := by rw [hW]; exact (blk_alloc_lt _ _ _ (by simp)).trans (heap_alloc_new w _)
  have hB : W.heap[w.heap.size + 1]? = some (edO b) := by
    have h := heap_alloc_new (w.alloc (edO a)) (edO b)
    rw [show (w.alloc (edO a)).heap.size = w.heap.size + 1 by simp] at h
    rw [hW]
    exact h
  have hv := Gr.lt_iff a b
  obtain ⟨sa, da, pa⟩ := a
  obtain ⟨bs, bd, bp⟩ := b
  dsimp only at hv
  have a0 : W.cell? ⟨w.heap.size, 0, none⟩ = some (.int .i64 sa) := by rw [cell_of_row _ _ _ _ _ _ hA]; rfl
  have a1 : W.cell? ⟨w.heap.size, 1, none⟩ = some (.int .i64 da) := by rw [cell_of_row _ _ _ _ _ _ hA]; rfl
  have a2 : W.cell? ⟨w.heap.size, 2, none⟩ = some (.int .i64 pa) := by rw [cell_of_row _ _ _ _ _ _ hA]; rfl
  have b0 : W.cell? ⟨w.heap.size + 1, 0, none⟩ = some (.int .i64 bs) := by rw [cell_of_row _ _ _ _ _ _ hB]; rfl
  have b1 : W.cell? ⟨w.heap.size + 1, 1, none⟩ = some (.int .i64 bd) := by rw [cell_of_row _ _ _ _ _ _ hB]; rfl
  have b2 : W.cell? ⟨w.heap.size + 1, 2, none⟩ = some (.int .i64 bp) := by rw [cell_of_row _ _ _ _ _ _ hB]; rfl
  have HV := Lib.hid hv
  have HB := Lib.hid hb0
  generalize Gr.lt ⟨sa, da, pa⟩ ⟨bs, bd, bp⟩ = V at *
  rw [edA_def, edA_def]
  dsimp only [edO] at hW ⊢
  clear hA hB hv hb0
  go_enter Tryz.func46, Tryz.ntmps46
  go_upto_region 1 with (fail)
  rw [← hW]
  clear hW
  by_cases h1 : sa = bs
  · have d1 : (sa != bs) = false := by rw [h1]; simp
    by_cases h2 : da = bd
    · have d2 : (da != bd) = false := by rw [h2]; simp
      have HR := Lib.hid (show V = decide (pa < bp) by rw [Bool.eq_iff_iff, HV.out, decide_eq_true_eq]; omega)
      clear HV h1 h2
      generalize hd : decide (pa < bp) = dd at *
      go_wp2_with fail
      go_ret
      exact ⟨(by rw [HR.out]; first | rfl | rw [hd]), HB.out⟩
    · have d2 : (da != bd) = true := by rw [bne_iff_ne]; exact h2
      have HR := Lib.hid (show V = decide (da < bd) by rw [Bool.eq_iff_iff, HV.out, decide_eq_true_eq]; omega)
      clear HV h1 h2
      generalize hd : decide (da < bd) = dd at *
      go_wp2_with fail
      go_ret
      exact ⟨(by rw [HR.out]; first | rfl | rw [hd]), HB.out⟩
  · have d1 : (sa != bs) = true := by rw [bne_iff_ne]; exact h1
    have HR := Lib.hid (show V = decide (sa < bs) by rw [Bool.eq_iff_iff, HV.out, decide_eq_true_eq]; omega)
    clear HV h1
    generalize hd : decide (sa < bs) = dd at *
    go_wp2_with fail
    go_ret
    exact ⟨(by rw [HR.out]; first | rfl | rw [hd]), HB.out⟩
set_option maxHeartbeats 16000000 in
set_option maxRecDepth 100000 in
theorem qcheck_any (g : Gph) (A B : Option Addr) (c d : Nat) (w : World) (hA : GrAt w A B g) :
    Calls Tryz.prog 11 #[grV A B c d g] w fun e w' => e = .returned (.int .i64 (Gr.chk g)) ∧ Below w.heap.size w w' := by
  have hb0 : Below w.heap.size w (w.alloc (grO A B c d g)) := (Below.refl _ _).alloc (Nat.le_refl _) _
  have hG := heap_alloc_new w (grO A B c d g)
  obtain ⟨W, hW⟩ : ∃ W, W = w.alloc (grO A B c d g) := ⟨_, rfl⟩
  rw [← hW] at hb0 hG
  obtain ⟨q0, q1⟩ := gb_cells hG
  have HA := Lib.hid hA
  have HG2 := Lib.hid hG
  have HB2 := Lib.hid hb0
  clear hA hG hb0
  go_enter Tryz.func11, Tryz.ntmps11
  go_upto_region 1 with (fail)
  rw [← hW]
  clear hW
  by_cases h1 : 1024 < g.ns.length
  · have d1 : decide ((1024 : Int) < (g.ns.length : Int)) = true := decide_eq_true (by omega)
    have d1n : decide (1024 < g.ns.length) = true := decide_eq_true h1
    have HN := Lib.hid (Gr.chk_1 (show Gr.big g = true by unfold Gr.big; rw [d1n]; rfl))
    go_wp2_with fail
    go_ret
    exact ⟨(by rw [HN.out]; rfl), HB2.out⟩
  have d1 : decide ((1024 : Int) < (g.ns.length : Int)) = false := decide_eq_false (by omega)
  have d1n : decide (1024 < g.ns.length) = false := decide_eq_false h1
  by_cases h2 : 1024 < g.es.length
  · have d2 : decide ((1024 : Int) < (g.es.length : Int)) = true := decide_eq_true (by omega)
    have d2n : decide (1024 < g.es.length) = true := decide_eq_true h2
    have HN := Lib.hid (Gr.chk_1 (show Gr.big g = true by unfold Gr.big; rw [d2n]; simp))
    go_wp2_with fail
    go_ret
    exact ⟨(by rw [HN.out]; rfl), HB2.out⟩
  have d2 : decide ((1024 : Int) < (g.es.length : Int)) = false := decide_eq_false (by omega)
  have d2n : decide (1024 < g.es.length) = false := decide_eq_false h2
  have H1 := Lib.hid (show Gr.big g = false by unfold Gr.big; rw [d1n, d2n]; rfl)
  go_wp2_with fail
  clear d1 d1n d2 d2n
  go_loopw [3] (fun s3 wr => ∃ k : Nat, s3 = .int .i64 k ∧ k ≤ g.ns.length ∧ (g.ns.take k).any (fun s => decide (128 < s.length)) = false ∧ wr = W) (fun s3 _ => g.ns.length - (intOf s3).toNat)
  case atStart => exact ⟨0, rfl, by omega, by simp, rfl⟩
  case round =>
    obtain ⟨k, rfl, hk, hall, hwr⟩ := hrel
    rw [hwr]
    clear hwr
    have HAL := Lib.hid hall
    clear hall
    by_cases hlt : k < g.ns.length
    · have b1 : decide ((k : Int) < (g.ns.length : Int)) = true := decide_eq_true (by omega)
      have b1n : decide (k < g.ns.length) = true := decide_eq_true hlt
      have y2 : (k : Int) < (g.ns.length : Int) := by omega
      obtain ⟨gb, oo, hAA, hg, hc⟩ := HA.out.ns k hlt
      subst hAA
      have hd0 : W.cell? ⟨gb, oo + k, none⟩ = some (.string (str g.ns[k])) := (HB2.out.cell (p := ⟨gb, oo + k, none⟩) hg).trans (by
        have h := hc 0 _ rfl
        rw [Nat.mul_one] at h
        exact h)
      have hsz := str_size g.ns[k]
      have HTK := Lib.hid (show decide (128 < g.ns[k].length) = false → (g.ns.take (k + 1)).any (fun s => decide (128 < s.length)) = false from fun h => Gr.any_take _ g.ns k hlt HAL.out h)
      have HHT := Lib.hid (show decide (128 < g.ns[k].length) = true → Gr.chk g = 2 from fun h => Gr.chk_2 H1.out (Gr.any_hit _ g.ns k hlt h))
      clear hc hg
      generalize g.ns[k] = s at *
      by_cases h3 : 128 < s.length
      · have d3 : decide ((128 : Int) < ((str s).size : Int)) = true := decide_eq_true (by omega)
        have d3n : decide (128 < (str s).size) = true := decide_eq_true (by omega)
        have HN := Lib.hid (HHT.out (decide_eq_true h3))
        clear hsz HTK HHT
        go_wp2_with fail
        go_ret
        exact ⟨(by rw [HN.out]; rfl), HB2.out⟩
      have d3 : decide ((128 : Int) < ((str s).size : Int)) = false := decide_eq_false (by omega)
      have d3n : decide (128 < (str s).size) = false := decide_eq_false (by omega)
      have HN := Lib.hid (HTK.out (decide_eq_false h3))
      clear hsz HTK HHT
      go_wp2_with fail
      go_roundw
      case rel => exact ⟨k + 1, by go_num, by omega, HN.out, (by first | rfl | trivial)⟩
      case measure => simp [intOf]; omega
    · have b1 : decide ((k : Int) < (g.ns.length : Int)) = false := decide_eq_false (by omega)
      have b1n : decide (k < g.ns.length) = false := decide_eq_false hlt
      have H2 := Lib.hid (Gr.any_full _ g.ns k hlt HAL.out)
      clear HAL
      go_wp2_with fail
      clear b1 b1n hlt hk
      clear q0 q1
      go_loopw [4] (fun s4 wr => ∃ m j : Nat, s4 = .int .i64 m ∧ m = j + 1 ∧ j ≤ g.ns.length ∧ (∀ i (h : i + 1 < g.ns.length), i < j → Op.bytesLess g.ns[i] g.ns[i + 1] = true) ∧ wr.heap[w.heap.size]? = some (grO A B c d g) ∧ Below w.heap.size w wr) (fun s4 _ => g.ns.length + 1 - (intOf s4).toNat)
      case atStart => exact ⟨1, 0, rfl, rfl, by omega, fun i h hi => by omega, HG2.out, HB2.out⟩
      case round =>
        obtain ⟨m, j, rfl, hm, hj, hall, hG, hb⟩ := hrel
        have HAL := Lib.hid hall
        clear hall
        obtain ⟨q0, q1⟩ := gb_cells hG
        by_cases hlt : m < g.ns.length
        · have b1 : decide ((m : Int) < (g.ns.length : Int)) = true := decide_eq_true (by omega)
          have b1n : decide (m < g.ns.length) = true := decide_eq_true hlt
          have wj : IntKind.i64.wrap ((m : Int) - 1) = (j : Int) := (IntWalk.i64_in _ (by omega)).trans (by omega)
          have y1 : (j : Int) < (g.ns.length : Int) := by omega
          have y2 : (m : Int) < (g.ns.length : Int) := by omega
          obtain ⟨g0, o, hAA, hg, hc⟩ := HA.out.ns.row (by omega)
          subst hAA
          have e0 : wr.cell? ⟨g0, o + j, none⟩ = some (.string (str g.ns[j])) := (hb.cell (p := ⟨g0, o + j, none⟩) hg).trans (by have h := hc (j) (by omega) 0 _ rfl; rw [Nat.mul_one] at h; exact h)
          have e1 : wr.cell? ⟨g0, o + m, none⟩ = some (.string (str g.ns[m])) := (hb.cell (p := ⟨g0, o + m, none⟩) hg).trans (by have h := hc (m) (by omega) 0 _ rfl; rw [Nat.mul_one] at h; exact h)
          clear hc hg
          have hjl : j < g.ns.length := by omega
          have HTK := Lib.hid (show Op.bytesLess g.ns[j] g.ns[m] = true → ∀ i (h : i + 1 < g.ns.length), i < j + 1 → Op.bytesLess g.ns[i] g.ns[i + 1] = true from fun h i hi hij => by
            by_cases e : i = j
            · subst e; subst hm; exact h
            · exact HAL.out i hi (by omega))
          have HNO := Lib.hid (show Op.bytesLess g.ns[j] g.ns[m] = false → Gr.chk g = 5 from fun h => by subst hm; exact Gr.chk_3 H1.out H2.out (Gr.asc_no _ g.ns j hlt h))
          generalize g.ns[j] = x at *
          generalize g.ns[m] = y at *
          have HM := Lib.hid hm
          have o1 : Op.bytesLess (str x).toList (str y).toList = Op.bytesLess x y := by rw [show (str x).toList = x by rw [ByteArray.toList_eq]; rfl, show (str y).toList = y by rw [ByteArray.toList_eq]; rfl]
          generalize Op.bytesLess x y = v at *
          have HG3 := Lib.hid hG
          have HB3 := Lib.hid hb
          clear hm hG hb
          cases v with
          | false =>
            have HN := Lib.hid (HNO.out rfl)
            clear HTK HNO HAL
            go_upto_region 11 with (fail)
            go_quiet (fail)
            have HB4 := Lib.hid (below_drewN HB3.out nq)
            go_wp2_with fail
            go_ret
            exact ⟨(by rw [HN.out]; rfl), HB4.out⟩
          | true =>
            have HN := Lib.hid (HTK.out rfl)
            clear HTK HNO HAL
            go_upto_region 11 with (fail)
            go_quiet (fail)
            have HB4 := Lib.hid (below_drewN HB3.out nq)
            have HG4 := Lib.hid (show (wr.drewN nq).heap[w.heap.size]? = some (grO (some ⟨g0, o, none⟩) B c d g) from HG3.out)
            generalize wr.drewN nq = w1 at *
            clear e0 e1 q0 q1 o1
            go_wp2_with fail
            go_roundw
            case rel => exact ⟨m + 1, j + 1, by go_num, by have := HM.out; omega, by omega, HN.out, HG4.out, HB4.out⟩
            case measure => simp [intOf]; omega
        · have b1 : decide ((m : Int) < (g.ns.length : Int)) = false := decide_eq_false (by omega)
          have b1n : decide (m < g.ns.length) = false := decide_eq_false hlt
          have H3 := Lib.hid (show Gr.asc Op.bytesLess g.ns = true from (Gr.asc_iff _ g.ns).2 fun i hi => HAL.out i hi (by omega))
          have HG3 := Lib.hid hG
          have HB3 := Lib.hid hb
          clear hG hb HAL hm
          go_wp2_with fail
          clear b1 b1n hlt hj
          clear q0 q1
          go_loopw [5] (fun s5 wr => ∃ k : Nat, s5 = .int .i64 k ∧ k ≤ g.es.length ∧ (g.es.take k).any (fun x => Gr.out g x) = false ∧ wr.heap[w.heap.size]? = some (grO A B c d g) ∧ Below w.heap.size w wr) (fun s5 _ => g.es.length - (intOf s5).toNat)
          case atStart => exact ⟨0, rfl, by omega, by simp, HG3.out, HB3.out⟩
          case round =>
            obtain ⟨k, rfl, hk, hall, hG, hb⟩ := hrel
            have HAL := Lib.hid hall
            clear hall
            obtain ⟨q0, q1⟩ := gb_cells hG
            by_cases hlt : k < g.es.length
            · have b1 : decide ((k : Int) < (g.es.length : Int)) = true := decide_eq_true (by omega)
              have b1n : decide (k < g.es.length) = true := decide_eq_true hlt
              have y2 : (k : Int) < (g.es.length : Int) := by omega
              obtain ⟨gb, oo, hBB, hg, hc⟩ := HA.out.es k hlt
              subst hBB
              have hd0 := (hb.cell (p := ⟨gb, oo + k * 3, none⟩) hg).trans (hc 0 _ rfl)
              have hd1 := (hb.cell (p := ⟨gb, oo + k * 3 + 1, none⟩) hg).trans (hc 1 _ rfl)
              have hd2 := (hb.cell (p := ⟨gb, oo + k * 3 + 2, none⟩) hg).trans (hc 2 _ rfl)
              clear hc hg
              have HOF := Lib.hid (show Gr.out g g.es[k] = false → (g.es.take (k + 1)).any (fun x => Gr.out g x) = false from fun h => Gr.any_take _ g.es k hlt HAL.out h)
              have HOT := Lib.hid (show Gr.out g g.es[k] = true → Gr.chk g = 3 from fun h => Gr.chk_4 H1.out H2.out H3.out (Gr.any_hit _ g.es k hlt h))
              generalize g.es[k] = x at *
              obtain ⟨xs, xd, xp⟩ := x
              dsimp only [] at hd0 hd1 hd2
              have hba := hb.alloc hb.size (edO ⟨xs, xd, xp⟩)
              have hGa := (blk_alloc_lt wr (edO ⟨xs, xd, xp⟩) _ (blk_lt hG)).trans hG
              have hxn := heap_alloc_new wr (edO ⟨xs, xd, xp⟩)
              clear hG hb
              go_upto_region 17 with (fail)
              dsimp only [edO] at hba hGa hxn ⊢
              generalize wr.alloc (.cells #[.int .i64 xs, .int .i64 xd, .int .i64 xp] 56) = wa at *
              generalize wr.heap.size = eb at *
              have e0 : wa.cell? ⟨eb, 0, none⟩ = some (.int .i64 xs) := by rw [cell_of_row _ _ _ _ _ _ hxn]; rfl
              have e1 : wa.cell? ⟨eb, 1, none⟩ = some (.int .i64 xd) := by rw [cell_of_row _ _ _ _ _ _ hxn]; rfl
              have e2 : wa.cell? ⟨eb, 2, none⟩ = some (.int .i64 xp) := by rw [cell_of_row _ _ _ _ _ _ hxn]; rfl
              have HG5 := Lib.hid hGa
              have HB5 := Lib.hid hba
              clear q0 q1 hd0 hd1 hd2 hxn hba hGa
              obtain ⟨q0, q1⟩ := gb_cells HG5.out
              by_cases c1 : xs < 0
              · have x1 : decide (xs < 0) = true := decide_eq_true c1
                have HN := Lib.hid (HOT.out (by unfold Gr.out Gr.isN; rw [decide_eq_false (show ¬ 0 ≤ xs by omega)]; rfl))
                clear HOF HOT c1
                go_wp2_with fail
                go_ret
                exact ⟨(by rw [HN.out]; rfl), HB5.out⟩
              have x1 : decide (xs < 0) = false := decide_eq_false c1
              by_cases c2 : (g.ns.length : Int) ≤ xs
              · have x2 : decide ((g.ns.length : Int) ≤ xs) = true := decide_eq_true c2
                have HN := Lib.hid (HOT.out (by unfold Gr.out Gr.isN; rw [decide_eq_false (show ¬ xs < (g.ns.length : Int) by omega)]; simp))
                clear HOF HOT c1 c2
                go_wp2_with fail
                go_ret
                exact ⟨(by rw [HN.out]; rfl), HB5.out⟩
              have x2 : decide ((g.ns.length : Int) ≤ xs) = false := decide_eq_false c2
              by_cases c3 : xd < 0
              · have x3 : decide (xd < 0) = true := decide_eq_true c3
                have HN := Lib.hid (HOT.out (by unfold Gr.out Gr.isN; rw [decide_eq_false (show ¬ 0 ≤ xd by omega)]; simp))
                clear HOF HOT c1 c2 c3
                go_wp2_with fail
                go_ret
                exact ⟨(by rw [HN.out]; rfl), HB5.out⟩
              have x3 : decide (xd < 0) = false := decide_eq_false c3
              by_cases c4 : (g.ns.length : Int) ≤ xd
              · have x4 : decide ((g.ns.length : Int) ≤ xd) = true := decide_eq_true c4
                have HN := Lib.hid (HOT.out (by unfold Gr.out Gr.isN; rw [decide_eq_false (show ¬ xd < (g.ns.length : Int) by omega)]; simp))
                clear HOF HOT c1 c2 c3 c4
                go_wp2_with fail
                go_ret
                exact ⟨(by rw [HN.out]; rfl), HB5.out⟩
              have x4 : decide ((g.ns.length : Int) ≤ xd) = false := decide_eq_false c4
              by_cases c5 : xp < 0
              · have x5 : decide (xp < 0) = true := decide_eq_true c5
                have HN := Lib.hid (HOT.out (by unfold Gr.out Gr.isN; rw [x5]; simp))
                clear HOF HOT c1 c2 c3 c4 c5
                go_wp2_with fail
                go_ret
                exact ⟨(by rw [HN.out]; rfl), HB5.out⟩
              have x5 : decide (xp < 0) = false := decide_eq_false c5
              have HN := Lib.hid (HOF.out (by
                unfold Gr.out Gr.isN
                rw [x5, decide_eq_true (show 0 ≤ xs by omega), decide_eq_true (show xs < (g.ns.length : Int) by omega), decide_eq_true (show 0 ≤ xd by omega), decide_eq_true (show xd < (g.ns.length : Int) by omega)]
                rfl))
              clear HOF HOT c1 c2 c3 c4 c5
              go_wp2_with fail
              go_roundw
              case rel => exact ⟨k + 1, by go_num, by omega, HN.out, HG5.out, HB5.out⟩
              case measure => simp [intOf]; omega
            · have b1 : decide ((k : Int) < (g.es.length : Int)) = false := decide_eq_false (by omega)
              have b1n : decide (k < g.es.length) = false := decide_eq_false hlt
              have H4 := Lib.hid (Gr.any_full _ g.es k hlt HAL.out)
              have HG4 := Lib.hid hG
              have HB4 := Lib.hid hb
              clear hG hb HAL b1 b1n
              have b1 : decide ((k : Int) < (g.es.length : Int)) = false := decide_eq_false (by omega)
              have b1n : decide (k < g.es.length) = false := decide_eq_false hlt
              go_wp2_with fail
              clear b1 b1n hlt hk
              clear q0 q1
              go_loopw [7] (fun s7 wr => ∃ m j : Nat, s7 = .int .i64 m ∧ m = j + 1 ∧ j ≤ g.es.length ∧ (∀ i (h : i + 1 < g.es.length), i < j → Gr.lt g.es[i] g.es[i + 1] = true) ∧ wr.heap[w.heap.size]? = some (grO A B c d g) ∧ Below w.heap.size w wr) (fun s7 _ => g.es.length + 1 - (intOf s7).toNat)
              case atStart => exact ⟨1, 0, rfl, rfl, by omega, fun i h hi => by omega, HG4.out, HB4.out⟩
              case round =>
                obtain ⟨m, j, rfl, hm, hj, hall, hG, hb⟩ := hrel
                have HAL := Lib.hid hall
                have hgl := blk_lt hG
                have hsz := hb.size
                have HGr := Lib.hid hG
                clear hall
                by_cases hlt : m < g.es.length
                · have b1 : decide ((m : Int) < (g.es.length : Int)) = true := decide_eq_true (by omega)
                  have b1n : decide (m < g.es.length) = true := decide_eq_true hlt
                  have wj : IntKind.i64.wrap ((m : Int) - 1) = (j : Int) := (IntWalk.i64_in _ (by omega)).trans (by omega)
                  have y1 : (j : Int) < (g.es.length : Int) := by omega
                  have y2 : (m : Int) < (g.es.length : Int) := by omega
                  obtain ⟨g0, o, hBB, hg, hc⟩ := HA.out.es.row (by omega)
                  subst hBB
                  obtain ⟨q0, q1⟩ := gb_cells hG
                  have e0 : wr.cell? ⟨g0, o + j * 3, none⟩ = some (.int .i64 g.es[j].src) := (hb.cell (p := ⟨g0, o + j * 3, none⟩) hg).trans (by have := hc (j) (by omega) 0 _ rfl; exact this)
                  have e1 : wr.cell? ⟨g0, o + j * 3 + 1, none⟩ = some (.int .i64 g.es[j].dst) := (hb.cell (p := ⟨g0, o + j * 3 + 1, none⟩) hg).trans (by have := hc (j) (by omega) 1 _ rfl; exact this)
                  have e2 : wr.cell? ⟨g0, o + j * 3 + 2, none⟩ = some (.int .i64 g.es[j].stp) := (hb.cell (p := ⟨g0, o + j * 3 + 2, none⟩) hg).trans (by have := hc (j) (by omega) 2 _ rfl; exact this)
                  have f0 : wr.cell? ⟨g0, o + m * 3, none⟩ = some (.int .i64 g.es[m].src) := (hb.cell (p := ⟨g0, o + m * 3, none⟩) hg).trans (by have := hc (m) (by omega) 0 _ rfl; exact this)
                  have f1 : wr.cell? ⟨g0, o + m * 3 + 1, none⟩ = some (.int .i64 g.es[m].dst) := (hb.cell (p := ⟨g0, o + m * 3 + 1, none⟩) hg).trans (by have := hc (m) (by omega) 1 _ rfl; exact this)
                  have f2 : wr.cell? ⟨g0, o + m * 3 + 2, none⟩ = some (.int .i64 g.es[m].stp) := (hb.cell (p := ⟨g0, o + m * 3 + 2, none⟩) hg).trans (by have := hc (m) (by omega) 2 _ rfl; exact this)
                  clear hc
                  have hjl : j < g.es.length := by omega
                  have HTK := Lib.hid (show Gr.lt g.es[j] g.es[m] = true → ∀ i (h : i + 1 < g.es.length), i < j + 1 → Gr.lt g.es[i] g.es[i + 1] = true from fun h i hi hij => by
                    by_cases e : i = j
                    · subst e; subst hm; exact h
                    · exact HAL.out i hi (by omega))
                  have HNO := Lib.hid (show Gr.lt g.es[j] g.es[m] = false → Gr.asc Gr.lt g.es = false from fun h => by subst hm; exact Gr.asc_no _ g.es j hlt h)
                  generalize g.es[j] = x at *
                  generalize g.es[m] = y at *
                  have HM := Lib.hid hm
                  clear hm hG
                  have cc := qasc_any x y wr.drew
                  rw [edA_def, edA_def] at cc
                  generalize hv : Gr.lt x y = v at *
                  have HBR := Lib.hid (show Below w.heap.size w wr.drew from hb.drew)
                  cases v with
                  | false =>
                    have HN := Lib.hid (Gr.chk_5 H1.out H2.out H3.out H4.out (HNO.out rfl))
                    clear HTK HNO hv HAL
                    go_upto_region 22 with (fail)
                    go_region_held3 (fun w' => w'.cell? ⟨w.heap.size, 1, none⟩ = some (.slice (some ⟨g0, o, none⟩) g.es.length d) ∧ w'.cell? ⟨g0, o + j * 3, none⟩ = some (.int .i64 x.src) ∧ w'.cell? ⟨g0, o + j * 3 + 1, none⟩ = some (.int .i64 x.dst) ∧ w'.cell? ⟨g0, o + j * 3 + 2, none⟩ = some (.int .i64 x.stp) ∧ w'.cell? ⟨g0, o + m * 3, none⟩ = some (.int .i64 y.src) ∧ w'.cell? ⟨g0, o + m * 3 + 1, none⟩ = some (.int .i64 y.dst) ∧ w'.cell? ⟨g0, o + m * 3 + 2, none⟩ = some (.int .i64 y.stp)) (first | exact ⟨q1, e0, e1, e2, f0, f1, f2⟩ | exact s0) (first | (go_at_call 46; (with_reducible refine cc.mono ?_); rintro e w5 ⟨rfl, hb5⟩; have s0 := And.intro ((hb5.cell (p := ⟨w.heap.size, 1, none⟩) (by show w.heap.size < wr.heap.size; exact hgl)).trans q1) (And.intro ((hb5.cell (p := ⟨g0, o + j * 3, none⟩) (by show g0 < wr.heap.size; omega)).trans e0) (And.intro ((hb5.cell (p := ⟨g0, o + j * 3 + 1, none⟩) (by show g0 < wr.heap.size; omega)).trans e1) (And.intro ((hb5.cell (p := ⟨g0, o + j * 3 + 2, none⟩) (by show g0 < wr.heap.size; omega)).trans e2) (And.intro ((hb5.cell (p := ⟨g0, o + m * 3, none⟩) (by show g0 < wr.heap.size; omega)).trans f0) (And.intro ((hb5.cell (p := ⟨g0, o + m * 3 + 1, none⟩) (by show g0 < wr.heap.size; omega)).trans f1) ((hb5.cell (p := ⟨g0, o + m * 3 + 2, none⟩) (by show g0 < wr.heap.size; omega)).trans f2))))))))
                    all_goals
                      have HB3 := Lib.hid (HBR.out.trans (hb5.mono (by exact hsz)))
                      go_wp2_with fail
                      first | go_ret2 | go_ret
                      exact ⟨(by rw [HN.out]; rfl), HB3.out⟩
                  | true =>
                    have HN := Lib.hid (HTK.out rfl)
                    clear HTK HNO hv HAL
                    go_upto_region 22 with (fail)
                    go_region_held3 (fun w' => w'.cell? ⟨w.heap.size, 1, none⟩ = some (.slice (some ⟨g0, o, none⟩) g.es.length d) ∧ w'.cell? ⟨g0, o + j * 3, none⟩ = some (.int .i64 x.src) ∧ w'.cell? ⟨g0, o + j * 3 + 1, none⟩ = some (.int .i64 x.dst) ∧ w'.cell? ⟨g0, o + j * 3 + 2, none⟩ = some (.int .i64 x.stp) ∧ w'.cell? ⟨g0, o + m * 3, none⟩ = some (.int .i64 y.src) ∧ w'.cell? ⟨g0, o + m * 3 + 1, none⟩ = some (.int .i64 y.dst) ∧ w'.cell? ⟨g0, o + m * 3 + 2, none⟩ = some (.int .i64 y.stp)) (first | exact ⟨q1, e0, e1, e2, f0, f1, f2⟩ | exact s0) (first | (go_at_call 46; (with_reducible refine cc.mono ?_); rintro e w5 ⟨rfl, hb5⟩; have s0 := And.intro ((hb5.cell (p := ⟨w.heap.size, 1, none⟩) (by show w.heap.size < wr.heap.size; exact hgl)).trans q1) (And.intro ((hb5.cell (p := ⟨g0, o + j * 3, none⟩) (by show g0 < wr.heap.size; omega)).trans e0) (And.intro ((hb5.cell (p := ⟨g0, o + j * 3 + 1, none⟩) (by show g0 < wr.heap.size; omega)).trans e1) (And.intro ((hb5.cell (p := ⟨g0, o + j * 3 + 2, none⟩) (by show g0 < wr.heap.size; omega)).trans e2) (And.intro ((hb5.cell (p := ⟨g0, o + m * 3, none⟩) (by show g0 < wr.heap.size; omega)).trans f0) (And.intro ((hb5.cell (p := ⟨g0, o + m * 3 + 1, none⟩) (by show g0 < wr.heap.size; omega)).trans f1) ((hb5.cell (p := ⟨g0, o + m * 3 + 2, none⟩) (by show g0 < wr.heap.size; omega)).trans f2))))))))
                    all_goals
                      have HB3 := Lib.hid (HBR.out.trans (hb5.mono (by exact hsz)))
                      have HG3 := Lib.hid ((hb5.block _ (show w.heap.size < wr.heap.size from hgl)).trans HGr.out)
                      go_wp2_with fail
                      go_roundw
                      case rel => exact ⟨m + 1, j + 1, by go_num, by have := HM.out; omega, by omega, HN.out, HG3.out, HB3.out⟩
                      case measure => simp [intOf]; omega
                · have b1 : decide ((m : Int) < (g.es.length : Int)) = false := decide_eq_false (by omega)
                  have b1n : decide (m < g.es.length) = false := decide_eq_false hlt
                  have HN := Lib.hid (Gr.chk_6 H1.out H2.out H3.out H4.out ((Gr.asc_iff _ g.es).2 fun i hi => HAL.out i hi (by omega)))
                  have HB := Lib.hid hb
                  obtain ⟨q0, q1⟩ := gb_cells hG
                  clear hb hG hm
                  go_wp2_with fail
                  go_ret
                  exact ⟨(by rw [HN.out]; rfl), HB.out⟩
end Go.Proofs.YtjemffgidhgfjaaGreatDoor
