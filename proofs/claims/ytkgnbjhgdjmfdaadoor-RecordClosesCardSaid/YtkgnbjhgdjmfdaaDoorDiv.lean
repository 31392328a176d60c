/- slices.Equal of touched files, isSame, Diverge. -/
import Derived.Test.YtkgnbjhgdjmfdaaDoorChk
namespace Go.Proofs.YtkgnbjhgdjmfdaaDoor
open Go.RowKit Go.Deep Tr

theorem drewN_below (w : World) (n : Nat) : Below w.heap.size w (w.drewN n) := ⟨rfl, rfl, rfl, Nat.le_refl _, fun _ _ => rfl⟩
set_option maxHeartbeats 4000000 in
set_option maxRecDepth 100000 in
theorem equalTc_any (a b : List Tch) (A B : Option Addr) (c d : Nat) (w : World) (hA : Rc.TcAt w w.heap.size A a) (hB : Rc.TcAt w w.heap.size B b) (hl : a.length ≤ 140737488351232) (hl2 : b.length ≤ 140737488351232) :
    Calls Tryd.prog 59 #[.slice A a.length c, .slice B b.length d] w fun e w' => e = .returned (.bool (decide (a = b))) ∧ Below w.heap.size w w' := by
  by_cases hn : a.length = b.length
  · have HA := Lib.hid hA
    have HB := Lib.hid hB
    have q0 : ((a.length : Int) != (b.length : Int)) = false := by rw [hn]; simp
    have q1 : ((a.length : Int) == (b.length : Int)) = true := by rw [hn]; simp
    generalize hV : decide (a = b) = V at *
    have HV := Lib.hid hV
    have HNN := Lib.hid hn
    clear hA hB hV hn
    go_enter Tryd.func59, Tryd.ntmps59
    go_wp2_with fail
    clear q0 q1
    go_loopw [13] (fun s13 wr => ∃ k : Nat, s13 = .int .i64 k ∧ k ≤ a.length ∧ a.take k = b.take k ∧ Below w.heap.size w wr) (fun s13 _ => a.length - (intOf s13).toNat)
    case atStart => exact ⟨0, rfl, Nat.zero_le _, by simp, Below.refl _ _⟩
    case round =>
      obtain ⟨k, rfl, hk, htk, hb⟩ := hrel
      have HTK := Lib.hid htk
      clear htk
      have hn := HNN.out
      by_cases hlt : k < a.length
      · have c1 : decide ((k : Int) < (a.length : Int)) = true := decide_eq_true (by omega)
        have c1n : decide (k < a.length) = true := decide_eq_true hlt
        have y1 : (k : Int) < (a.length : Int) := by omega
        have y2 : (k : Int) < (b.length : Int) := by omega
        have hlt2 : k < b.length := by omega
        clear hn
        obtain ⟨g, o, rfl, hg, hc⟩ := HA.out k hlt
        obtain ⟨g', o', rfl, hg', hc'⟩ := HB.out k hlt2
        have hd0 := (hb.cell (p := ⟨g, o + k * 2 + 0, none⟩) hg).trans (hc 0 _ rfl)
        have hd1 := (hb.cell (p := ⟨g, o + k * 2 + 1, none⟩) hg).trans (hc 1 _ rfl)
        have he0 := (hb.cell (p := ⟨g', o' + k * 2 + 0, none⟩) hg').trans (hc' 0 _ rfl)
        have he1 := (hb.cell (p := ⟨g', o' + k * 2 + 1, none⟩) hg').trans (hc' 1 _ rfl)
        rw [show o + k * 2 + 0 = o + k * 2 from rfl] at hd0
        rw [show o' + k * 2 + 0 = o' + k * 2 from rfl] at he0
        clear hc hc'
        have HEQ := Lib.hid (fun h : a[k] = b[k] => show a.take (k + 1) = b.take (k + 1) by rw [List.take_succ_eq_append_getElem hlt, List.take_succ_eq_append_getElem hlt2, HTK.out, h])
        have HNE := Lib.hid (fun h : a[k] ≠ b[k] => show V = false by
          rw [← HV.out]
          exact decide_eq_false fun e => h (by subst e; rfl))
        generalize a[k] = x at *
        generalize b[k] = y at *
        by_cases hxy : x = y
        · subst hxy
          have HT := Lib.hid (HEQ.out rfl)
          clear HEQ HNE
          go_upto_region 6 with (fail)
          go_quiet (fail)
          have hb2 := below_drewN hb nq
          generalize wr.drewN nq = w2 at *
          clear hd0 hd1 he0 he1 hb
          go_wp2_with fail
          go_roundw
          case rel => exact ⟨k + 1, by go_num, by omega, HT.out, hb2⟩
          case measure => simp [intOf]; omega
        · have HT := Lib.hid (HNE.out hxy)
          have hv : ((str x.pth).toList == (str y.pth).toList) = false ∨ (((str x.pth).toList == (str y.pth).toList) = true ∧ ((str x.dig).toList == (str y.dig).toList) = false) := by
            rw [strL, strL, strL, strL]
            by_cases hp : x.pth = y.pth
            · right
              refine ⟨by rw [beq_iff_eq]; exact hp, ?_⟩
              rw [beq_eq_false_iff_ne]
              intro hd
              obtain ⟨xp, xd⟩ := x
              obtain ⟨yp, yd⟩ := y
              simp only at hp hd
              subst hp hd
              exact hxy rfl
            · left
              rw [beq_eq_false_iff_ne]; exact hp
          clear HEQ HNE hxy
          rcases hv with n1 | ⟨n1, n2⟩
          all_goals
            go_upto_region 6 with (fail)
            go_quiet (fail)
            have hb2 := Lib.hid (below_drewN hb nq)
            generalize wr.drewN nq = w2 at *
            clear hd0 hd1 he0 he1 hb
            go_wp2_with fail
            first | go_ret2 | go_ret
            exact ⟨by rw [HT.out]; rfl, hb2.out⟩
      · have c1 : decide ((k : Int) < (a.length : Int)) = false := decide_eq_false (by omega)
        have c1n : decide (k < a.length) = false := decide_eq_false hlt
        clear hn
        have HT := Lib.hid (show V = true by
          have hn := HNN.out
          rw [← HV.out]
          have h := HTK.out
          rw [List.take_of_length_le (by omega), List.take_of_length_le (by omega)] at h
          exact decide_eq_true h)
        have HB2 := Lib.hid hb
        clear hb
        go_wp2_with fail
        go_ret
        exact ⟨by rw [HT.out]; rfl, HB2.out⟩
  · have q0 : ((a.length : Int) != (b.length : Int)) = true := by rw [bne_iff_ne]; omega
    have q1 : ((a.length : Int) == (b.length : Int)) = false := by rw [beq_eq_false_iff_ne]; omega
    have HT := Lib.hid (show decide (a = b) = false from decide_eq_false fun e => hn (by rw [e]))
    generalize decide (a = b) = V at *
    clear hA hB hn
    go_enter Tryd.func59, Tryd.ntmps59
    go_wp2_with fail
    go_ret
    exact ⟨by rw [HT.out]; rfl, Below.refl _ _⟩
/-- Two steps are equal. -/
def sameB (x y : Dn) : Bool := decide (x.pkg = y.pkg) && decide (x.lin = y.lin) && decide (x.knd = y.knd) && decide (x.rds = y.rds) && decide (x.wr = y.wr)
set_option maxHeartbeats 4000000 in
set_option maxRecDepth 100000 in
theorem isSame_any (x y : Dn) (w : World) (hA : Rc.TcAt w w.heap.size x.A x.rds) (hB : Rc.TcAt w w.heap.size y.A y.rds) (hl : x.rds.length ≤ 140737488351232) (hl2 : y.rds.length ≤ 140737488351232) :
    Calls Tryd.prog 41 #[dnA x, dnA y] w fun e w' => e = .returned (.bool (sameB x y)) ∧ Below w.heap.size w w' := by
  have hb0 : Below w.heap.size w ((w.alloc (dnO x)).alloc (dnO y)) := ((Below.refl _ _).alloc (Nat.le_refl _) _).alloc (by simp) _
  have HV := Lib.hid (show sameB x y = (decide (x.pkg = y.pkg) && decide (x.lin = y.lin) && decide (x.knd = y.knd) && decide (x.rds = y.rds) && decide (x.wr = y.wr)) from rfl)
  generalize sameB x y = V at *
  have hx0 := heap_alloc_new w (dnO x)
  have hx1 := (blk_alloc_lt (w.alloc (dnO x)) (dnO y) _ (blk_lt hx0)).trans hx0
  have hy1 := heap_alloc_new (w.alloc (dnO x)) (dnO y)
  rw [show (w.alloc (dnO x)).heap.size = w.heap.size + 1 by simp] at hy1
  rw [dnA_def, dnA_def]
  by_cases h1 : x.pkg = y.pkg
  · have d1 : (x.pkg == y.pkg) = true := by rw [beq_iff_eq]; exact h1
    by_cases h2 : x.lin = y.lin
    · have d2 : (x.lin == y.lin) = true := by rw [beq_iff_eq]; exact h2
      by_cases h3 : x.knd = y.knd
      · have d3 : (x.knd == y.knd) = true := by rw [beq_iff_eq]; exact h3
        have cc := equalTc_any x.rds y.rds x.A y.A x.c y.c ((w.alloc (dnO x)).alloc (dnO y)) ((hA.next ((Below.refl _ _).alloc (Nat.le_refl _) _)).next ((Below.refl _ _).alloc (Nat.le_refl _) _)) ((hB.next ((Below.refl _ _).alloc (Nat.le_refl _) _)).next ((Below.refl _ _).alloc (Nat.le_refl _) _)) hl hl2
        have HV2 := Lib.hid (show V = (decide (x.rds = y.rds) && decide (x.wr = y.wr)) by rw [HV.out, decide_eq_true h1, decide_eq_true h2, decide_eq_true h3]; rfl)
        have HB0 := Lib.hid hb0
        clear HV h1 h2 h3 hA hB hb0
        go_enter Tryd.func41, Tryd.ntmps41
        go_wp2_with fail
        generalize hr : decide (x.rds = y.rds) = rq at *
        with_reducible refine cc.mono ?_
        clear cc
        rintro e w2 ⟨rfl, hb2⟩
        have HB2 := Lib.hid (HB0.out.trans (hb2.mono HB0.out.size))
        have hx2 := (hb2.block _ (blk_lt hx1)).trans hx1
        have hy2 := (hb2.block _ (blk_lt hy1)).trans hy1
        have a4 : w2.cell? ⟨w.heap.size, 4, none⟩ = some (.string (str x.wr.pth)) := by rw [cell_of_row _ _ _ _ _ _ hx2]; rfl
        have a5 : w2.cell? ⟨w.heap.size, 4 + 1, none⟩ = some (.string (str x.wr.dig)) := by rw [cell_of_row _ _ _ _ _ _ hx2]; rfl
        have b4 : w2.cell? ⟨w.heap.size + 1, 4, none⟩ = some (.string (str y.wr.pth)) := by rw [cell_of_row _ _ _ _ _ _ hy2]; rfl
        have b5 : w2.cell? ⟨w.heap.size + 1, 4 + 1, none⟩ = some (.string (str y.wr.dig)) := by rw [cell_of_row _ _ _ _ _ _ hy2]; rfl
        have a5' : w2.cell? ⟨w.heap.size, 5, none⟩ = some (.string (str x.wr.dig)) := a5
        have b5' : w2.cell? ⟨w.heap.size + 1, 5, none⟩ = some (.string (str y.wr.dig)) := b5
        clear hb2 hx0 hx1 hy1 hx2 hy2 d1 d2 d3
        cases rq with
        | false =>
          have HT := Lib.hid (show V = false by rw [HV2.out]; rfl)
          clear HV2 hr
          go_wp2_with fail
          go_ret
          exact ⟨by rw [HT.out]; rfl, HB2.out⟩
        | true =>
          have HW := Lib.hid (show V = decide (x.wr = y.wr) by rw [HV2.out]; simp)
          clear HV2 hr
          by_cases hw : x.wr = y.wr
          · have HT := Lib.hid (show V = true by rw [HW.out, decide_eq_true hw])
            rw [hw] at a4 a5 a5'
            clear HW hw
            go_wp2_with fail
            go_ret
            exact ⟨by rw [HT.out]; rfl, HB2.out⟩
          · have HT := Lib.hid (show V = false by rw [HW.out, decide_eq_false hw])
            have hv : ((str x.wr.pth).toList == (str y.wr.pth).toList) = false ∨ (((str x.wr.pth).toList == (str y.wr.pth).toList) = true ∧ ((str x.wr.dig).toList == (str y.wr.dig).toList) = false) := by
              rw [strL, strL, strL, strL]
              by_cases hp : x.wr.pth = y.wr.pth
              · right
                refine ⟨by rw [beq_iff_eq]; exact hp, ?_⟩
                rw [beq_eq_false_iff_ne]
                intro hd
                generalize x.wr = u at *
                generalize y.wr = u' at *
                obtain ⟨xp, xd⟩ := u
                obtain ⟨yp, yd⟩ := u'
                simp only at hp hd
                subst hp hd
                exact hw rfl
              · left
                rw [beq_eq_false_iff_ne]; exact hp
            clear HW hw
            rcases hv with n1 | ⟨n1, n2⟩
            all_goals
              go_wp2_with fail
              go_ret
              exact ⟨by rw [HT.out]; rfl, HB2.out⟩
      · have d3 : (x.knd == y.knd) = false := by rw [beq_eq_false_iff_ne]; exact h3
        have HT := Lib.hid (show V = false by rw [HV.out, decide_eq_false h3]; simp)
        clear HV h1 h2 h3 hA hB
        go_enter Tryd.func41, Tryd.ntmps41
        go_wp2_with fail
        go_ret
        exact ⟨by rw [HT.out]; rfl, hb0⟩
    · have d2 : (x.lin == y.lin) = false := by rw [beq_eq_false_iff_ne]; exact h2
      have HT := Lib.hid (show V = false by rw [HV.out, decide_eq_false h2]; simp)
      clear HV h1 h2 hA hB
      go_enter Tryd.func41, Tryd.ntmps41
      go_wp2_with fail
      go_ret
      exact ⟨by rw [HT.out]; rfl, hb0⟩
  · have d1 : (x.pkg == y.pkg) = false := by rw [beq_eq_false_iff_ne]; exact h1
    have HT := Lib.hid (show V = false by rw [HV.out, decide_eq_false h1]; rfl)
    clear HV h1 hA hB
    go_enter Tryd.func41, Tryd.ntmps41
    go_wp2_with fail
    go_ret
    exact ⟨by rw [HT.out]; rfl, hb0⟩
end Go.Proofs.YtkgnbjhgdjmfdaaDoor
