/- isFrom, follows, checkHead. No condition. -/
import Derived.Test.YtjemffgidhgfjaaGreatDoorRkRpl

import Derived.Deep.RegionHeld3
namespace Go.Proofs.YtjemffgidhgfjaaGreatDoor.Rk
open Go.RowKit Go.Deep Tr

set_option maxHeartbeats 2000000 in
set_option maxRecDepth 100000 in
theorem isFrom_any (n a b : Int) (w : World) :
    Calls Tryz.prog 78 #[.int .i64 n, .int .i64 a, .int .i64 b] w fun e w' => e = .returned (.bool (Rc.isF n a b)) ∧ w = w' := by
  have HV := Lib.hid (show Rc.isF n a b = (decide (a ≤ n) && decide (n ≤ b)) from rfl)
  generalize Rc.isF n a b = V at *
  by_cases h1 : a ≤ n
  · have d1 : decide (a ≤ n) = true := decide_eq_true h1
    generalize hd : decide (n ≤ b) = d2 at *
    have HT := Lib.hid (show V = d2 by rw [HV.out, d1]; rfl)
    clear HV h1
    go_enter Tryz.func78, Tryz.ntmps78
    go_wp2_with fail
    go_ret
    exact ⟨by rw [HT.out]; first | rfl | rw [hd], rfl⟩
  · have d1 : decide (a ≤ n) = false := decide_eq_false h1
    have HT := Lib.hid (show V = false by rw [HV.out, d1]; rfl)
    clear HV h1
    go_enter Tryz.func78, Tryz.ntmps78
    go_wp2_with fail
    go_ret
    exact ⟨by rw [HT.out]; rfl, rfl⟩
set_option maxHeartbeats 2000000 in
set_option maxRecDepth 100000 in
theorem follows_any (s b : Dn) (w : World) : Calls Tryz.prog 79 #[dnA s, dnA b] w fun e w' => e = .returned (.bool (Rc.fol s b)) ∧ Below w.heap.size w w' := by
  have hb0 : Below w.heap.size w ((w.alloc (dnO s)).alloc (dnO b)) := ((Below.refl _ _).alloc (Nat.le_refl _) _).alloc (by simp) _
  rw [dnA_def, dnA_def]
  have HV := Lib.hid (show Rc.fol s b = if s.pkg = b.pkg then decide (b.lin < s.lin) else decide (b.pkg < s.pkg) from rfl)
  generalize Rc.fol s b = V at *
  by_cases h1 : s.pkg = b.pkg
  · have d1 : (s.pkg == b.pkg) = true := by rw [h1]; simp
    generalize hd : decide (b.lin < s.lin) = d2 at *
    have HT := Lib.hid (show V = d2 by rw [HV.out, if_pos h1])
    clear HV h1
    go_enter Tryz.func79, Tryz.ntmps79
    go_wp2_with fail
    go_ret
    exact ⟨by rw [HT.out]; first | rfl | rw [hd], hb0⟩
  · have d1 : (s.pkg == b.pkg) = false := by rw [beq_eq_false_iff_ne]; exact h1
    generalize hd : decide (b.pkg < s.pkg) = d2 at *
    have HT := Lib.hid (show V = d2 by rw [HV.out, if_neg h1])
    clear HV h1
    go_enter Tryz.func79, Tryz.ntmps79
    go_wp2_with fail
    go_ret
    exact ⟨by rw [HT.out]; first | rfl | rw [hd], hb0⟩
set_option maxHeartbeats 2000000 in
set_option maxRecDepth 100000 in
/-- The head of step i. -/
theorem head_any (r : List Dn) (i : Nat) (hi : i < r.length) (A : Option Addr) (c : Nat) (w : World) (hA : RcAt w A r) :
    Calls Tryz.prog 49 #[.slice A r.length c, .int .i64 i] w fun e w' => e = .returned (.int .i64 (Rc.headE r i r[i])) ∧ Below w.heap.size w w' := by
  have HV := Lib.hid (show Rc.headE r i r[i] = (if !Rc.isF r[i].pkg 0 15 || !Rc.isF r[i].lin 0 1023 || !Rc.isF r[i].knd 1 8 then 3 else if Rc.ordE r i r[i] then 5 else if !Rc.isF (r[i].rds.length : Int) 1 1024 then 1 else 0) from rfl)
  generalize Rc.headE r i r[i] = V at *
  obtain ⟨g0, o, rfl, hg, hc⟩ := hA.st i hi
  have y2 : (i : Int) < (r.length : Int) := by omega
  have hd0 := hc 0 _ rfl
  have hd1 := hc 1 _ rfl
  have hd2 := hc 2 _ rfl
  have hd3 := hc 3 _ rfl
  have hd4 := hc 4 _ rfl
  have hd5 := hc 5 _ rfl
  rw [show o + i * 6 + 0 = o + i * 6 from rfl] at hd0
  have HBF := Lib.hid (show ∀ h : 0 < i, ∃ b, Rc.ordE r i r[i] = !Rc.fol r[i] b ∧ ∀ k u, (Rc.dnV b)[k]? = some u → w.cell? ⟨g0, o + (i - 1) * 6 + k, none⟩ = some u from fun h => by
    obtain ⟨g1, o1, e1, _, hc1⟩ := hA.st (i - 1) (by omega)
    injection e1 with e1
    injection e1 with e1 e2 _
    subst e1 e2
    exact ⟨r[i - 1], by unfold Rc.ordE; rw [decide_eq_true h, List.getElem?_eq_getElem (by omega : i - 1 < r.length), Bool.true_and], hc1⟩)
  have HB0 := Lib.hid (show i = 0 → Rc.ordE r i r[i] = false from fun h => by unfold Rc.ordE; rw [decide_eq_false (by omega), Bool.false_and])
  have hrl := hA.rl
  generalize hx : r[i] = x at *
  clear hc hA hx
  have hbx : Below w.heap.size w (w.alloc (dnO x)) := (Below.refl _ _).alloc (Nat.le_refl _) _
  have c1 := isFrom_any x.pkg 0 15
  have c2 := isFrom_any x.lin 0 1023
  have c3 := isFrom_any x.knd 1 8
  have c4 := isFrom_any (x.rds.length : Int) 1 1024
  generalize Rc.ordE r i x = q at *
  cases p1 : Rc.isF x.pkg 0 15 with
  | false =>
    rw [p1] at c1
    have HT := Lib.hid (show V = 3 by rw [HV.out, p1]; rfl)
    clear HV p1 c2 c3 c4
    go_enter Tryz.func49, Tryz.ntmps49
    go_wp2_with (go_at_call 78; (with_reducible refine (c1 _).mono ?_); rintro e w' ⟨rfl, rfl⟩)
    go_ret
    exact ⟨by rw [HT.out]; rfl, hbx⟩
  | true =>
  rw [p1] at c1
  cases p2 : Rc.isF x.lin 0 1023 with
  | false =>
    rw [p2] at c2
    have HT := Lib.hid (show V = 3 by rw [HV.out, p1, p2]; rfl)
    clear HV p1 p2 c3 c4
    go_enter Tryz.func49, Tryz.ntmps49
    go_wp2_with (go_at_call 78; (first | with_reducible refine (c1 _).mono ?_ | with_reducible refine (c2 _).mono ?_); rintro e w' ⟨rfl, rfl⟩)
    go_ret
    exact ⟨by rw [HT.out]; rfl, hbx⟩
  | true =>
  rw [p2] at c2
  cases p3 : Rc.isF x.knd 1 8 with
  | false =>
    rw [p3] at c3
    have HT := Lib.hid (show V = 3 by rw [HV.out, p1, p2, p3]; rfl)
    clear HV p1 p2 p3 c4
    go_enter Tryz.func49, Tryz.ntmps49
    go_wp2_with (go_at_call 78; (first | with_reducible refine (c1 _).mono ?_ | with_reducible refine (c2 _).mono ?_ | with_reducible refine (c3 _).mono ?_); rintro e w' ⟨rfl, rfl⟩)
    go_ret
    exact ⟨by rw [HT.out]; rfl, hbx⟩
  | true =>
  rw [p3] at c3
  have HV2 := Lib.hid (show V = if q then 5 else if !Rc.isF (x.rds.length : Int) 1 1024 then 1 else 0 by rw [HV.out, p1, p2, p3]; rfl)
  clear HV p1 p2 p3
  by_cases h0 : 0 < i
  · have b1 : decide ((0 : Int) < (i : Int)) = true := decide_eq_true (by omega)
    have b1n : decide (0 < i) = true := decide_eq_true h0
    obtain ⟨b, hq, hcb⟩ := HBF.out h0
    clear HBF HB0
    obtain ⟨j, hj⟩ : ∃ j, j = i - 1 := ⟨_, rfl⟩
    rw [← hj] at hcb
    have wj : IntKind.i64.wrap ((i : Int) - 1) = (j : Int) := (IntWalk.i64_in _ (by omega)).trans (by omega)
    have y1 : (j : Int) < (r.length : Int) := by omega
    have k0 := (hbx.cell (p := ⟨g0, o + j * 6, none⟩) hg).trans (hcb 0 _ rfl)
    have k1 := (hbx.cell (p := ⟨g0, o + j * 6 + 1, none⟩) hg).trans (hcb 1 _ rfl)
    have k2 := (hbx.cell (p := ⟨g0, o + j * 6 + 2, none⟩) hg).trans (hcb 2 _ rfl)
    have k3 := (hbx.cell (p := ⟨g0, o + j * 6 + 3, none⟩) hg).trans (hcb 3 _ rfl)
    have k4 := (hbx.cell (p := ⟨g0, o + j * 6 + 4, none⟩) hg).trans (hcb 4 _ rfl)
    have k5 := (hbx.cell (p := ⟨g0, o + j * 6 + 5, none⟩) hg).trans (hcb 5 _ rfl)
    have HJ := Lib.hid hj
    clear hcb hj
    have cf := follows_any x b (w.alloc (dnO x)).drew
    rw [dnA_def, dnA_def] at cf
    generalize Rc.fol x b = f at *
    have hxc := heap_alloc_new w (dnO x)
    have l0 : (w.alloc (dnO x)).cell? ⟨w.heap.size, 0, none⟩ = some (.int .i64 x.pkg) := by rw [cell_of_row _ _ _ _ _ _ hxc]; rfl
    have l1 : (w.alloc (dnO x)).cell? ⟨w.heap.size, 1, none⟩ = some (.int .i64 x.lin) := by rw [cell_of_row _ _ _ _ _ _ hxc]; rfl
    have l2 : (w.alloc (dnO x)).cell? ⟨w.heap.size, 2, none⟩ = some (.int .i64 x.knd) := by rw [cell_of_row _ _ _ _ _ _ hxc]; rfl
    have l3 : (w.alloc (dnO x)).cell? ⟨w.heap.size, 3, none⟩ = some (.slice x.A x.rds.length x.c) := by rw [cell_of_row _ _ _ _ _ _ hxc]; rfl
    have l4 : (w.alloc (dnO x)).cell? ⟨w.heap.size, 4, none⟩ = some (.string (str x.wr.pth)) := by rw [cell_of_row _ _ _ _ _ _ hxc]; rfl
    have l5 : (w.alloc (dnO x)).cell? ⟨w.heap.size, 5, none⟩ = some (.string (str x.wr.dig)) := by rw [cell_of_row _ _ _ _ _ _ hxc]; rfl
    cases f with
    | false =>
      have HT := Lib.hid (show V = 5 by rw [HV2.out, hq]; rfl)
      clear HV2 hq c4
      go_enter Tryz.func49, Tryz.ntmps49
      go_upto_region 6 with (go_at_call 78; (first | with_reducible refine (c1 _).mono ?_ | with_reducible refine (c2 _).mono ?_ | with_reducible refine (c3 _).mono ?_); rintro e w' ⟨rfl, rfl⟩)
      clear c1 c2 c3
      go_region_with (go_at_call 79; (with_reducible refine cf.mono ?_); rintro e w2 ⟨rfl, hb2⟩)
      all_goals
        go_wp2_with fail
        go_ret
        exact ⟨by rw [HT.out]; rfl, hbx.drew.trans (hb2.mono hbx.size)⟩
    | true =>
      cases p4 : Rc.isF (x.rds.length : Int) 1 1024 with
      | false =>
        rw [p4] at c4
        have HT := Lib.hid (show V = 1 by rw [HV2.out, hq, p4]; rfl)
        clear HV2 hq p4
        go_enter Tryz.func49, Tryz.ntmps49
        go_upto_region 6 with (go_at_call 78; (first | with_reducible refine (c1 _).mono ?_ | with_reducible refine (c2 _).mono ?_ | with_reducible refine (c3 _).mono ?_); rintro e w' ⟨rfl, rfl⟩)
        clear c1 c2 c3
        go_region_with (go_at_call 79; (with_reducible refine cf.mono ?_); rintro e w2 ⟨rfl, hb2⟩)
        all_goals
          have HB := Lib.hid (hbx.drew.trans (hb2.mono hbx.size))
          have l3 := (hb2.cell (p := ⟨w.heap.size, 3, none⟩) (blk_lt hxc)).trans l3
          clear hb2 l0 l1 l2 l4 l5
          go_wp2_with (go_at_call 78; (with_reducible refine (c4 _).mono ?_); rintro e w' ⟨rfl, rfl⟩)
          go_ret
          exact ⟨by rw [HT.out]; rfl, HB.out⟩
      | true =>
        rw [p4] at c4
        have HT := Lib.hid (show V = 0 by rw [HV2.out, hq, p4]; rfl)
        clear HV2 hq p4
        go_enter Tryz.func49, Tryz.ntmps49
        go_upto_region 6 with (go_at_call 78; (first | with_reducible refine (c1 _).mono ?_ | with_reducible refine (c2 _).mono ?_ | with_reducible refine (c3 _).mono ?_); rintro e w' ⟨rfl, rfl⟩)
        clear c1 c2 c3
        go_region_with (go_at_call 79; (with_reducible refine cf.mono ?_); rintro e w2 ⟨rfl, hb2⟩)
        all_goals
          have HB := Lib.hid (hbx.drew.trans (hb2.mono hbx.size))
          have l3 := (hb2.cell (p := ⟨w.heap.size, 3, none⟩) (blk_lt hxc)).trans l3
          clear hb2 l0 l1 l2 l4 l5
          go_wp2_with (go_at_call 78; (with_reducible refine (c4 _).mono ?_); rintro e w' ⟨rfl, rfl⟩)
          go_ret
          exact ⟨by rw [HT.out]; rfl, HB.out⟩
  · have hi0 : i = 0 := by omega
    have hq := HB0.out hi0
    clear HB0 HBF h0
    subst hi0
    rw [Nat.zero_mul, Nat.add_zero] at hd0 hd1 hd2 hd3 hd4 hd5
    have y2 : (0 : Int) < (r.length : Int) := by omega
    have y3 : 0 < r.length := hi
    rw [show ((0 : Nat) : Int) = 0 from rfl]
    have hxc := heap_alloc_new w (dnO x)
    have l3 : (w.alloc (dnO x)).cell? ⟨w.heap.size, 3, none⟩ = some (.slice x.A x.rds.length x.c) := by rw [cell_of_row _ _ _ _ _ _ hxc]; rfl
    have hbd := hbx.drew
    cases p4 : Rc.isF (x.rds.length : Int) 1 1024 with
    | false =>
      rw [p4] at c4
      have HT := Lib.hid (show V = 1 by rw [HV2.out, hq, p4]; rfl)
      clear HV2 hq p4
      go_enter Tryz.func49, Tryz.ntmps49
      go_upto_region 6 with (go_at_call 78; (first | with_reducible refine (c1 _).mono ?_ | with_reducible refine (c2 _).mono ?_ | with_reducible refine (c3 _).mono ?_); rintro e w' ⟨rfl, rfl⟩)
      clear c1 c2 c3
      go_region
      all_goals
        go_wp2_with (go_at_call 78; (with_reducible refine (c4 _).mono ?_); rintro e w' ⟨rfl, rfl⟩)
        go_ret
        exact ⟨by rw [HT.out]; rfl, hbd⟩
    | true =>
      rw [p4] at c4
      have HT := Lib.hid (show V = 0 by rw [HV2.out, hq, p4]; rfl)
      clear HV2 hq p4
      go_enter Tryz.func49, Tryz.ntmps49
      go_upto_region 6 with (go_at_call 78; (first | with_reducible refine (c1 _).mono ?_ | with_reducible refine (c2 _).mono ?_ | with_reducible refine (c3 _).mono ?_); rintro e w' ⟨rfl, rfl⟩)
      clear c1 c2 c3
      go_region
      all_goals
        go_wp2_with (go_at_call 78; (with_reducible refine (c4 _).mono ?_); rintro e w' ⟨rfl, rfl⟩)
        go_ret
        exact ⟨by rw [HT.out]; rfl, hbd⟩
end Go.Proofs.YtjemffgidhgfjaaGreatDoor.Rk
