/- Equal of the reference. No condition but the lengths. -/
import Derived.Test.YtkgnbjhgdjmfdaaDoorDvg
import Derived.BigQuiet
namespace Go.Proofs.YtkgnbjhgdjmfdaaDoor
open Go.RowKit Go.Deep Tr

theorem tch_ne {u v : Tch} (h : u ≠ v) : ((str u.pth).toList == (str v.pth).toList) = false ∨ (((str u.pth).toList == (str v.pth).toList) = true ∧ ((str u.dig).toList == (str v.dig).toList) = false) := by
  rw [strL, strL, strL, strL]
  by_cases hp : u.pth = v.pth
  · right
    refine ⟨by rw [beq_iff_eq]; exact hp, ?_⟩
    rw [beq_eq_false_iff_ne]
    intro hd
    obtain ⟨xp, xd⟩ := u
    obtain ⟨yp, yd⟩ := v
    simp only at hp hd
    subst hp hd
    exact h rfl
  · left
    rw [beq_eq_false_iff_ne]; exact hp
/-- The cells of a step. -/
theorem dn_cells {w : World} {b : Nat} {x : Dn} (h : w.heap[b]? = some (dnO x)) : w.cell? ⟨b, 0, none⟩ = some (.int .i64 x.pkg) ∧ w.cell? ⟨b, 1, none⟩ = some (.int .i64 x.lin) ∧ w.cell? ⟨b, 2, none⟩ = some (.int .i64 x.knd) ∧ w.cell? ⟨b, 3, none⟩ = some (.slice x.A x.rds.length x.c) ∧ w.cell? ⟨b, 4, none⟩ = some (.string (str x.wr.pth)) ∧ w.cell? ⟨b, 5, none⟩ = some (.string (str x.wr.dig)) := by
  refine ⟨?_, ?_, ?_, ?_, ?_, ?_⟩
  all_goals rw [cell_of_row _ _ _ _ _ _ h]; rfl
set_option maxHeartbeats 8000000 in
set_option maxRecDepth 100000 in
theorem qequal_any (x y : Dn) (w : World) (hA : Rc.TcAt w w.heap.size x.A x.rds) (hB : Rc.TcAt w w.heap.size y.A y.rds) (hl : x.rds.length ≤ 140737488351232) :
    Calls Tryd.prog 42 #[dnA x, dnA y] w fun e w' => e = .returned (.bool (sameB x y)) ∧ Below w.heap.size w w' := by
  have hb0 : Below w.heap.size w ((w.alloc (dnO x)).alloc (dnO y)) := ((Below.refl _ _).alloc (Nat.le_refl _) _).alloc (by simp) _
  have HV := Lib.hid (show sameB x y = (decide (x.pkg = y.pkg) && decide (x.lin = y.lin) && decide (x.knd = y.knd) && decide (x.rds = y.rds) && decide (x.wr = y.wr)) from rfl)
  generalize sameB x y = V at *
  have hx0 := heap_alloc_new w (dnO x)
  have hx1 := (blk_alloc_lt (w.alloc (dnO x)) (dnO y) _ (blk_lt hx0)).trans hx0
  have hy1 := heap_alloc_new (w.alloc (dnO x)) (dnO y)
  rw [show (w.alloc (dnO x)).heap.size = w.heap.size + 1 by simp] at hy1
  have HA := Lib.hid (hA.next hb0)
  have HB := Lib.hid (hB.next hb0)
  rw [dnA_def, dnA_def]
  go_enter Tryd.func42, Tryd.ntmps42
  go_upto_region 1 with (fail)
  obtain ⟨W, hW⟩ : ∃ W, W = (w.alloc (dnO x)).alloc (dnO y) := ⟨_, rfl⟩
  rw [← hW] at hb0 hx1 hy1 HA HB ⊢
  obtain ⟨bx, hbx⟩ : ∃ b, b = w.heap.size := ⟨_, rfl⟩
  obtain ⟨by', hby⟩ : ∃ b, b = w.heap.size + 1 := ⟨_, rfl⟩
  rw [← hbx] at hx1
  rw [← hby] at hy1
  rw [← hby, ← hbx]
  have HW0 := Lib.hid hb0
  have HX := Lib.hid hx1
  have HY := Lib.hid hy1
  obtain ⟨a0, a1, a2, a3, a4, a5⟩ := dn_cells hx1
  obtain ⟨b0, b1, b2, b3, b4, b5⟩ := dn_cells hy1
  have a5' : W.cell? ⟨bx, 4 + 1, none⟩ = some (.string (str x.wr.dig)) := a5
  have b5' : W.cell? ⟨by', 4 + 1, none⟩ = some (.string (str y.wr.dig)) := b5
  clear hW hbx hby hb0 hx0 hx1 hy1 hA hB
  by_cases h1 : x.pkg = y.pkg
  · have d1 : (x.pkg == y.pkg) = true := by rw [beq_iff_eq]; exact h1
    have d1n : (x.pkg != y.pkg) = false := by rw [bne, d1]; rfl
    by_cases h2 : x.lin = y.lin
    · have d2 : (x.lin == y.lin) = true := by rw [beq_iff_eq]; exact h2
      have d2n : (x.lin != y.lin) = false := by rw [bne, d2]; rfl
      by_cases h3 : x.knd = y.knd
      · have d3 : (x.knd == y.knd) = true := by rw [beq_iff_eq]; exact h3
        have d3n : (x.knd != y.knd) = false := by rw [bne, d3]; rfl
        have HV2 := Lib.hid (show V = (decide (x.rds = y.rds) && decide (x.wr = y.wr)) by rw [HV.out, decide_eq_true h1, decide_eq_true h2, decide_eq_true h3]; rfl)
        clear HV h1 h2 h3
        by_cases hw : x.wr = y.wr
        · have n1 : ((str x.wr.pth).toList == (str y.wr.pth).toList) = true := by rw [hw]; exact beq_self_eq_true _
          have n2 : ((str x.wr.dig).toList == (str y.wr.dig).toList) = true := by rw [hw]; exact beq_self_eq_true _
          have HV3 := Lib.hid (show V = decide (x.rds = y.rds) by rw [HV2.out, decide_eq_true hw, Bool.and_true])
          clear HV2 hw
          by_cases hn : x.rds.length = y.rds.length
          · have q0 : ((x.rds.length : Int) != (y.rds.length : Int)) = false := by rw [hn]; simp
            have q1 : ((x.rds.length : Int) == (y.rds.length : Int)) = true := by rw [hn]; simp
            have HNN := Lib.hid hn
            clear hn
            go_wp2_with fail
            clear a0 a1 a2 a4 a5 a5' b0 b1 b2 b4 b5 b5' d1 d1n d2 d2n d3 d3n n1 n2 q0 q1 a3 b3
            go_loopw [5] (fun s5 wr => ∃ k : Nat, s5 = .int .i64 k ∧ k ≤ x.rds.length ∧ x.rds.take k = y.rds.take k ∧ Below W.heap.size W wr) (fun s5 _ => x.rds.length - (intOf s5).toNat)
            case atStart => exact ⟨0, rfl, Nat.zero_le _, by simp, Below.refl _ _⟩
            case round =>
              obtain ⟨k, rfl, hk, htk, hb⟩ := hrel
              have HTK := Lib.hid htk
              clear htk
              obtain ⟨_, _, _, a3, _, _⟩ := dn_cells ((hb.block bx (blk_lt HX.out)).trans HX.out)
              obtain ⟨_, _, _, b3, _, _⟩ := dn_cells ((hb.block by' (blk_lt HY.out)).trans HY.out)
              by_cases hlt : k < x.rds.length
              · have c1 : decide ((k : Int) < (x.rds.length : Int)) = true := decide_eq_true (by omega)
                have c1n : decide (k < x.rds.length) = true := decide_eq_true hlt
                have y1 : (k : Int) < (x.rds.length : Int) := by omega
                have hlt2 : k < y.rds.length := by have := HNN.out; omega
                have y2 : (k : Int) < (y.rds.length : Int) := by omega
                obtain ⟨g, o, hxA, hg, hc⟩ := HA.out k hlt
                obtain ⟨g', o', hyA, hg', hc'⟩ := HB.out k hlt2
                rw [hxA] at a3
                rw [hyA] at b3
                have hd0 := (hb.cell (p := ⟨g, o + k * 2 + 0, none⟩) hg).trans (hc 0 _ rfl)
                have hd1 := (hb.cell (p := ⟨g, o + k * 2 + 1, none⟩) hg).trans (hc 1 _ rfl)
                have he0 := (hb.cell (p := ⟨g', o' + k * 2 + 0, none⟩) hg').trans (hc' 0 _ rfl)
                have he1 := (hb.cell (p := ⟨g', o' + k * 2 + 1, none⟩) hg').trans (hc' 1 _ rfl)
                rw [show o + k * 2 + 0 = o + k * 2 from rfl] at hd0
                rw [show o' + k * 2 + 0 = o' + k * 2 from rfl] at he0
                clear hc hc' hxA hyA
                have HEQ := Lib.hid (fun h : x.rds[k] = y.rds[k] => show x.rds.take (k + 1) = y.rds.take (k + 1) by rw [List.take_succ_eq_append_getElem hlt, List.take_succ_eq_append_getElem hlt2, HTK.out, h])
                have HNE := Lib.hid (fun h : x.rds[k] ≠ y.rds[k] => show V = false by
                  rw [HV3.out]
                  exact decide_eq_false fun e => h (by
                    have : ∀ (l l' : List Tch) (h1 : k < l.length) (h2 : k < l'.length), l = l' → l[k] = l'[k] := fun l l' h1 h2 e => by subst e; rfl
                    exact this _ _ _ _ e))
                generalize x.rds[k] = u at *
                generalize y.rds[k] = v at *
                by_cases hxy : u = v
                · have HT := Lib.hid (HEQ.out hxy)
                  have n1 : ((str u.pth).toList == (str v.pth).toList) = true := by rw [hxy]; exact beq_self_eq_true _
                  have n2 : ((str u.dig).toList == (str v.dig).toList) = true := by rw [hxy]; exact beq_self_eq_true _
                  clear HEQ HNE hxy
                  go_upto_region 6 with (fail)
                  go_quiet (fail)
                  have hb2 := below_drewN hb nq
                  generalize wr.drewN nq = w2 at *
                  clear hd0 hd1 he0 he1 hb a3 b3
                  go_wp2_with fail
                  go_roundw
                  case rel => exact ⟨k + 1, by go_num, by omega, HT.out, hb2⟩
                  case measure => simp [intOf]; omega
                · have HT := Lib.hid (HNE.out hxy)
                  have hv := tch_ne hxy
                  clear HEQ HNE hxy
                  rcases hv with n1 | ⟨n1, n2⟩
                  all_goals
                    go_upto_region 6 with (fail)
                    go_quiet (fail)
                    have hb2 := Lib.hid (below_drewN hb nq)
                    generalize wr.drewN nq = w2 at *
                    clear hd0 hd1 he0 he1 hb a3 b3
                    go_wp2_with fail
                    first | go_ret3 | go_ret2 | go_ret
                    exact ⟨by rw [HT.out]; rfl, HW0.out.trans (hb2.out.mono HW0.out.size)⟩
              · have c1 : decide ((k : Int) < (x.rds.length : Int)) = false := decide_eq_false (by omega)
                have c1n : decide (k < x.rds.length) = false := decide_eq_false hlt
                have HT := Lib.hid (show V = true by
                  have hn := HNN.out
                  rw [HV3.out]
                  have h := HTK.out
                  rw [List.take_of_length_le (by omega), List.take_of_length_le (by omega)] at h
                  exact decide_eq_true h)
                have HB2 := Lib.hid hb
                clear hb
                go_wp2_with fail
                first | go_ret3 | go_ret2 | go_ret
                exact ⟨by rw [HT.out]; rfl, HW0.out.trans (HB2.out.mono HW0.out.size)⟩
          · have q0 : ((x.rds.length : Int) != (y.rds.length : Int)) = true := by rw [bne_iff_ne]; omega
            have q1 : ((x.rds.length : Int) == (y.rds.length : Int)) = false := by rw [beq_eq_false_iff_ne]; omega
            have HT := Lib.hid (show V = false by rw [HV3.out]; exact decide_eq_false fun e => hn (by rw [e]))
            clear hn HV3
            go_wp2_with fail
            first | go_ret3 | go_ret2 | go_ret
            exact ⟨by rw [HT.out]; rfl, HW0.out⟩
        · have HT := Lib.hid (show V = false by rw [HV2.out, decide_eq_false hw, Bool.and_false])
          have hv := tch_ne hw
          clear HV2 hw
          rcases hv with n1 | ⟨n1, n2⟩
          all_goals
            go_wp2_with fail
            first | go_ret3 | go_ret2 | go_ret
            exact ⟨by rw [HT.out]; rfl, HW0.out⟩
      · have d3 : (x.knd == y.knd) = false := by rw [beq_eq_false_iff_ne]; exact h3
        have d3n : (x.knd != y.knd) = true := by rw [bne, d3]; rfl
        have HT := Lib.hid (show V = false by rw [HV.out, decide_eq_false h3]; simp)
        clear HV h1 h2 h3
        go_wp2_with fail
        first | go_ret3 | go_ret2 | go_ret
        exact ⟨by rw [HT.out]; rfl, HW0.out⟩
    · have d2 : (x.lin == y.lin) = false := by rw [beq_eq_false_iff_ne]; exact h2
      have d2n : (x.lin != y.lin) = true := by rw [bne, d2]; rfl
      have HT := Lib.hid (show V = false by rw [HV.out, decide_eq_false h2]; simp)
      clear HV h1 h2
      go_wp2_with fail
      first | go_ret3 | go_ret2 | go_ret
      exact ⟨by rw [HT.out]; rfl, HW0.out⟩
  · have d1 : (x.pkg == y.pkg) = false := by rw [beq_eq_false_iff_ne]; exact h1
    have d1n : (x.pkg != y.pkg) = true := by rw [bne, d1]; rfl
    have HT := Lib.hid (show V = false by rw [HV.out, decide_eq_false h1]; rfl)
    clear HV h1
    go_wp2_with fail
    first | go_ret3 | go_ret2 | go_ret
    exact ⟨by rw [HT.out]; rfl, HW0.out⟩
end Go.Proofs.YtkgnbjhgdjmfdaaDoor
