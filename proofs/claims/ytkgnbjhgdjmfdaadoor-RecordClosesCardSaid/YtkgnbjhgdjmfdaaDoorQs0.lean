/- The first step, in the reference. -/
import Derived.Test.YtkgnbjhgdjmfdaaDoorQsh
namespace Go.Proofs.YtkgnbjhgdjmfdaaDoor
open Go.RowKit Go.Deep Tr
set_option maxHeartbeats 16000000 in
set_option maxRecDepth 100000 in
theorem qstep_0 (r : List Dn) (i : Nat) (hi : i < r.length) (A : Option Addr) (c : Nat) (w : World) (hA : RcAt w A r) (hS : Sht r) (hR : (Rc.isF r[i].pkg 0 15 && Rc.isF r[i].lin 0 1023 && Rc.isF r[i].knd 1 8) = true) (h0 : i = 0) :
    Calls Tryd.prog 30 #[.slice A r.length c, .int .i64 i] w fun e w' => e = .returned (.int .i64 (Rc.stepE r i r[i])) ∧ Below w.heap.size w w' := by
  have HA := Lib.hid hA
  obtain ⟨g0, o, rfl, hg, hc⟩ := hA.st i hi
  have hd0 := hc 0 _ rfl
  have hd1 := hc 1 _ rfl
  have hd2 := hc 2 _ rfl
  have hd3 := hc 3 _ rfl
  have hd4 := hc 4 _ rfl
  have hd5 := hc 5 _ rfl
  rw [show o + i * 6 + 0 = o + i * 6 from rfl] at hd0
  have y2 : (i : Int) < (r.length : Int) := by omega
  have hrl := hA.rl
  have htl := hA.tl r[i] (List.getElem_mem hi)
  have HRD := Lib.hid (hA.rd r[i] (List.getElem_mem hi))
  have HP := Lib.hid (hS.p r[i] (List.getElem_mem hi))
  generalize r[i] = x at *
  clear hc hA hS
  have hbx : Below w.heap.size w (w.alloc (dnO x)) := (Below.refl _ _).alloc (Nat.le_refl _) _
  have hxn := heap_alloc_new w (dnO x)
  obtain ⟨V, hV⟩ : ∃ V, V = Rc.stepE r i x := ⟨_, rfl⟩
  rw [← hV]
  have HVV := Lib.hid hV
  clear hV
  have da1 : decide (x.pkg < 0) = false := decide_eq_false (by intro h; revert hR; unfold Rc.isF; simp; omega)
  have da2 : decide (16 ≤ x.pkg) = false := decide_eq_false (by intro h; revert hR; unfold Rc.isF; simp; omega)
  have da3 : decide (x.lin < 0) = false := decide_eq_false (by intro h; revert hR; unfold Rc.isF; simp; omega)
  have da4 : decide (1024 ≤ x.lin) = false := decide_eq_false (by intro h; revert hR; unfold Rc.isF; simp; omega)
  have da5 : decide (x.knd < 1) = false := decide_eq_false (by intro h; revert hR; unfold Rc.isF; simp; omega)
  have da6 : decide (8 < x.knd) = false := decide_eq_false (by intro h; revert hR; unfold Rc.isF; simp; omega)
  have HR := Lib.hid hR
  clear hR
  subst h0
  have hq : Rc.ordE r 0 x = false := by unfold Rc.ordE; rw [decide_eq_false (by omega), Bool.false_and]
  rw [Nat.zero_mul, Nat.add_zero] at hd0 hd1 hd2 hd3 hd4 hd5
  rw [show ((0 : Nat) : Int) = 0 from rfl]
  by_cases hz : 0 < x.rds.length ∧ x.rds.length ≤ 1024
  · have e0 : ((x.rds.length : Int) == 0) = false := by rw [beq_eq_false_iff_ne]; omega
    have e1 : decide ((1024 : Int) < (x.rds.length : Int)) = false := decide_eq_false (by omega)
    have e1n : decide (1024 < x.rds.length) = false := decide_eq_false (by omega)
    have e2 : decide (x.rds.length = 0) = false := decide_eq_false (by omega)
    go_enter Tryd.func30, Tryd.ntmps30
    go_upto_region 4 with (fail)
    go_region
    go_wp2_with fail
    have HX := Lib.hid hxn
    have HH := Lib.hid (show Rc.headE r 0 x = 0 by rw [Rc.head1 HR.out hq]; unfold Rc.isF; simp; omega)
    have HBX := Lib.hid hbx
    clear hd0 hd1 hd2 hd3 hd4 hd5 hbx hxn
    go_loopw [6] (fun s6 wr => ∃ j : Nat, s6 = .int .i64 j ∧ j ≤ x.rds.length + 1 ∧ (∀ k (h : k < (Rc.tcs x).length), k < j → Rc.tchE r 0 x k (Rc.tcs x)[k] = 0) ∧ wr.heap[w.heap.size]? = some (dnO x) ∧ Below w.heap.size w wr) (fun s6 _ => x.rds.length + 1 - (intOf s6).toNat)
    case atStart => exact ⟨0, rfl, Nat.zero_le _, fun k _ h => (by omega), HX.out, by first | exact HBX.out | exact HBX.out.drew⟩
    case round =>
      obtain ⟨j, rfl, hj, hall, hxr, hb⟩ := hrel
      have HAL := Lib.hid hall
      have HB := Lib.hid hb
      have HXR := Lib.hid hxr
      clear hall
      have l3 : wr.cell? ⟨w.heap.size, 3, none⟩ = some (.slice x.A x.rds.length x.c) := by rw [cell_of_row _ _ _ _ _ _ hxr]; rfl
      have l4 : wr.cell? ⟨w.heap.size, 4, none⟩ = some (.string (str x.wr.pth)) := by rw [cell_of_row _ _ _ _ _ _ hxr]; rfl
      have l5 : wr.cell? ⟨w.heap.size, 5, none⟩ = some (.string (str x.wr.dig)) := by rw [cell_of_row _ _ _ _ _ _ hxr]; rfl
      have l5' : wr.cell? ⟨w.heap.size, 4 + 1, none⟩ = some (.string (str x.wr.dig)) := l5
      have hxl := blk_lt hxr
      by_cases hlt : j < x.rds.length
      · have m1 : decide ((j : Int) ≤ (x.rds.length : Int)) = true := decide_eq_true (by omega)
        have m1n : decide (j ≤ x.rds.length) = true := decide_eq_true (by omega)
        have m2 : decide ((j : Int) < (x.rds.length : Int)) = true := decide_eq_true (by omega)
        have m2n : decide (j < x.rds.length) = true := decide_eq_true hlt
        have y3 : (j : Int) < (x.rds.length : Int) := by omega
        obtain ⟨g1, o1, hxA, hg1, hc1⟩ := HRD.out j hlt
        rw [hxA] at l3
        have HAX := Lib.hid hxA
        clear hxA
        have e0 := (hb.cell (p := ⟨g1, o1 + j * 2 + 0, none⟩) hg1).trans (hc1 0 _ rfl)
        have e1 := (hb.cell (p := ⟨g1, o1 + j * 2 + 1, none⟩) hg1).trans (hc1 1 _ rfl)
        rw [show o1 + j * 2 + 0 = o1 + j * 2 from rfl] at e0
        have hbw : Below w.heap.size w (wr.alloc (tcO x.wr)) := hb.alloc hb.size _
        have e0a := (hbw.cell (p := ⟨g1, o1 + j * 2 + 0, none⟩) hg1).trans (hc1 0 _ rfl)
        have e1a := (hbw.cell (p := ⟨g1, o1 + j * 2 + 1, none⟩) hg1).trans (hc1 1 _ rfl)
        rw [show o1 + j * 2 + 0 = o1 + j * 2 from rfl] at e0a
        have hjt : j < (Rc.tcs x).length := by rw [Rc.tcs_len]; omega
        have hget := Rc.tcs_get hlt hjt
        have HPT := Lib.hid (HP.out x.rds[j] (List.mem_append_left _ (List.getElem_mem hlt)))
        clear hc1 hbw
        generalize x.rds[j] = t at *
        have hbt : Below w.heap.size w (wr.alloc (tcO t)) := hb.alloc hb.size _
        have HBT := Lib.hid hbt
        have htn := heap_alloc_new wr (tcO t)
        have hxt := (blk_alloc_lt wr (tcO t) _ hxl).trans hxr
        have cP := qPath_any (str t.pth) (wr.alloc (tcO t)) (by rw [str_size]; have := HPT.out; omega)
        rw [show (str t.pth).data.toList = t.pth from rfl] at cP
        have cT := qtouched_any r 0 t.pth (some ⟨g0, o, none⟩) c (wr.alloc (tcO t)) (HA.out.next hbt) (by omega)
        try rw [show ((0 : Nat) : Int) = 0 from rfl] at cT
        have HFL := Lib.hid (fun (h : Rc.tchE r 0 x j t ≠ 0) => show V = Rc.tchE r 0 x j t by
          rw [HVV.out]
          have := Rc.step_file HH.out hjt (fun k hk => HAL.out k (by omega) hk) (by rw [hget]; exact h)
          rw [hget] at this
          exact this)
        have HTN := Lib.hid (fun (h : Rc.tchE r 0 x j t = 0) k (hk : k < (Rc.tcs x).length) (hkj : k < j + 1) => show Rc.tchE r 0 x k (Rc.tcs x)[k] = 0 by
          by_cases e : k = j
          · subst e; rw [hget]; exact h
          · exact HAL.out k hk (by omega))
        have HTC := Lib.hid (show Rc.tchE r 0 x j t = if !Tre.pathOk t.pth then 2 else if t.dig.length ≠ 32 then 17 else if Rc.among x.rds j t.pth || (decide (j = x.rds.length) && (Rc.touched r 0 t.pth).isSome) then 6 else match Rc.touched r 0 t.pth with | some d => if d = t.dig then 0 else 9 | none => 0 from rfl)
        have hsz := str_size t.dig
        clear hget hb hbt
        cases hpo : Tre.pathOk t.pth with
        | false =>
          rw [hpo] at cP
          have HT := Lib.hid (show V = 2 by
            have h1 : Rc.tchE r 0 x j t = 2 := by rw [HTC.out, hpo]; rfl
            rw [HFL.out (by rw [h1]; decide), h1])
          clear hpo HFL HTN cT
          go_wp2_with fail
          with_reducible refine cP.mono ?_
          rintro e w5 ⟨rfl, rfl⟩
          go_wp2_with fail
          first | go_ret3 | go_ret2 | go_ret
          exact ⟨by rw [HT.out]; rfl, HBT.out⟩
        | true =>
          rw [hpo] at cP
          by_cases hdl : t.dig.length = 32
          · have d1 : decide ((t.dig.length : Int) = 32) = true := by rw [hdl]; rfl
            have d2 : ((t.dig.length : Int) != 32) = false := by rw [hdl]; rfl
            have HTD := Lib.hid (show Rc.tchE r 0 x j t = if Rc.among x.rds j t.pth || (decide (j = x.rds.length) && (Rc.touched r 0 t.pth).isSome) then 6 else match Rc.touched r 0 t.pth with | some d => if d = t.dig then 0 else 9 | none => 0 by rw [HTC.out, hpo, if_neg (by decide), if_neg (by rw [hdl]; decide)])
            clear hpo
            go_wp2_with fail
            with_reducible refine cP.mono ?_
            rintro e w5 ⟨rfl, rfl⟩
            clear cP
            go_wp2_with fail
            with_reducible refine cT.mono ?_
            clear cT
            rintro e w6 ⟨⟨d, bb, rfl, hb1, hb2⟩, hb6⟩
            have HB6 := Lib.hid (HBT.out.trans (hb6.mono HBT.out.size))
            have hx6 := (hb6.block _ (blk_lt hxt)).trans hxt
            have ht6 := (hb6.block _ (blk_lt htn)).trans htn
            have n3 : w6.cell? ⟨w.heap.size, 3, none⟩ = some (.slice (some ⟨g1, o1, none⟩) x.rds.length x.c) := by rw [cell_of_row _ _ _ _ _ _ hx6]; first | rfl | (rw [← HAX.out]; rfl)
            have t0 : w6.cell? ⟨wr.heap.size, 0, none⟩ = some (.string (str t.pth)) := by rw [cell_of_row _ _ _ _ _ _ ht6]; rfl
            have t1 : w6.cell? ⟨wr.heap.size, 1, none⟩ = some (.string (str t.dig)) := by rw [cell_of_row _ _ _ _ _ _ ht6]; rfl
            have cA := qamong_any x.rds j t.pth ((some ⟨g1, o1, none⟩)) x.c w6 (by have := HRD.out; rw [HAX.out] at this; exact (this.keep HB6.out).mono HB6.out.size) (by omega) htl
            have HX6 := Lib.hid hx6
            clear hb6 hxt htn hx6 ht6
            have m3 : ((j : Int) == (x.rds.length : Int)) = false := by rw [beq_eq_false_iff_ne]; omega
            have HTE := Lib.hid (show Rc.tchE r 0 x j t = if Rc.among x.rds j t.pth then 6 else match Rc.touched r 0 t.pth with | some d => if d = t.dig then 0 else 9 | none => 0 by rw [HTD.out, decide_eq_false (by omega : ¬ j = x.rds.length), Bool.false_and, Bool.or_false])
            go_wp2_with fail
            with_reducible refine cA.mono ?_
            clear cA
            rintro e w7 ⟨⟨z, rfl, hz, _, _⟩, rfl⟩
            cases ham : Rc.among x.rds j t.pth with
            | true =>
              rw [ham] at hz
              have HT := Lib.hid (show V = 6 by
                have h1 : Rc.tchE r 0 x j t = 6 := by rw [HTE.out, ham]; rfl
                rw [HFL.out (by rw [h1]; decide), h1])
              clear ham HFL HTN hb1 hb2
              go_wp2_with fail
              first | go_ret3 | go_ret2 | go_ret
              exact ⟨by rw [HT.out]; rfl, HB6.out⟩
            | false =>
              rw [ham] at hz
              have HTF := Lib.hid (show Rc.tchE r 0 x j t = match Rc.touched r 0 t.pth with | some d => if d = t.dig then 0 else 9 | none => 0 by rw [HTE.out, ham]; rfl)
              clear ham
              cases bb with
              | false =>
                have HN := Lib.hid (HTN.out (by rw [HTF.out, hb2 rfl]))
                clear HFL HTN hb1 hb2
                go_wp2_with fail
                go_roundw
                case rel => exact ⟨j + 1, by go_num, by omega, HN.out, HX6.out, HB6.out⟩
                case measure => simp [intOf]; omega
              | true =>
                by_cases hde : d = t.dig
                · have n1 : ((str d).toList == (str t.dig).toList) = true := by rw [strL, strL, beq_iff_eq]; exact hde
                  have HN := Lib.hid (HTN.out (by rw [HTF.out, hb1 rfl]; exact if_pos hde))
                  clear HFL HTN hb1 hb2 hde
                  go_wp2_with fail
                  go_roundw
                  case rel => exact ⟨j + 1, by go_num, by omega, HN.out, HX6.out, HB6.out⟩
                  case measure => simp [intOf]; omega
                · have n1 : ((str d).toList == (str t.dig).toList) = false := by rw [strL, strL, beq_eq_false_iff_ne]; exact hde
                  have HT := Lib.hid (show V = 9 by
                    have h1 : Rc.tchE r 0 x j t = 9 := by rw [HTF.out, hb1 rfl]; exact if_neg hde
                    rw [HFL.out (by rw [h1]; decide), h1])
                  clear HFL HTN hb1 hb2 hde
                  go_wp2_with fail
                  first | go_ret3 | go_ret2 | go_ret
                  exact ⟨by rw [HT.out]; rfl, HB6.out⟩
          · have d1 : decide ((t.dig.length : Int) = 32) = false := decide_eq_false (by omega)
            have d2 : ((t.dig.length : Int) != 32) = true := by rw [bne_iff_ne]; omega
            have HT := Lib.hid (show V = 17 by
              have h1 : Rc.tchE r 0 x j t = 17 := by rw [HTC.out, hpo, if_neg (by decide), if_pos hdl]
              rw [HFL.out (by rw [h1]; decide), h1])
            clear hpo HFL HTN cT hdl
            go_wp2_with fail
            with_reducible refine cP.mono ?_
            rintro e w5 ⟨rfl, rfl⟩
            go_wp2_with fail
            first | go_ret3 | go_ret2 | go_ret
            exact ⟨by rw [HT.out]; rfl, HBT.out⟩
      · have m2 : decide ((j : Int) < (x.rds.length : Int)) = false := decide_eq_false (by omega)
        have m2n : decide (j < x.rds.length) = false := decide_eq_false hlt
        by_cases heq : j = x.rds.length
        · have m1 : decide ((j : Int) ≤ (x.rds.length : Int)) = true := decide_eq_true (by omega)
          have m1n : decide (j ≤ x.rds.length) = true := decide_eq_true (by omega)
          subst heq
          have hjt : x.rds.length < (Rc.tcs x).length := by rw [Rc.tcs_len]; omega
          have hget : (Rc.tcs x)[x.rds.length] = x.wr := by
            unfold Rc.tcs
            exact List.getElem_concat_length rfl _
          have HPT := Lib.hid (HP.out x.wr (List.mem_append_right _ (List.mem_singleton.2 rfl)))
          have HAX := Lib.hid (show x.A = x.A from rfl)
          obtain ⟨t, ht⟩ : ∃ t, t = x.wr := ⟨_, rfl⟩
          rw [← ht] at l4 l5 l5' hget HPT
          clear ht
          have hbt : Below w.heap.size w (wr.alloc (tcO t)) := hb.alloc hb.size _
          have HBT := Lib.hid hbt
          have htn := heap_alloc_new wr (tcO t)
          have hxt := (blk_alloc_lt wr (tcO t) _ hxl).trans hxr
          have cP := qPath_any (str t.pth) (wr.alloc (tcO t)) (by rw [str_size]; have := HPT.out; omega)
          rw [show (str t.pth).data.toList = t.pth from rfl] at cP
          have cT := qtouched_any r 0 t.pth (some ⟨g0, o, none⟩) c (wr.alloc (tcO t)) (HA.out.next hbt) (by omega)
          try rw [show ((0 : Nat) : Int) = 0 from rfl] at cT
          have HFL := Lib.hid (fun (h : Rc.tchE r 0 x x.rds.length t ≠ 0) => show V = Rc.tchE r 0 x x.rds.length t by
            rw [HVV.out]
            have := Rc.step_file HH.out hjt (fun k hk => HAL.out k (by omega) hk) (by rw [hget]; exact h)
            rw [hget] at this
            exact this)
          have HTN := Lib.hid (fun (h : Rc.tchE r 0 x x.rds.length t = 0) k (hk : k < (Rc.tcs x).length) (hkj : k < x.rds.length + 1) => show Rc.tchE r 0 x k (Rc.tcs x)[k] = 0 by
            by_cases e : k = x.rds.length
            · subst e; rw [hget]; exact h
            · exact HAL.out k hk (by omega))
          have HTC := Lib.hid (show Rc.tchE r 0 x x.rds.length t = if !Tre.pathOk t.pth then 2 else if t.dig.length ≠ 32 then 17 else if Rc.among x.rds x.rds.length t.pth || (decide (x.rds.length = x.rds.length) && (Rc.touched r 0 t.pth).isSome) then 6 else match Rc.touched r 0 t.pth with | some d => if d = t.dig then 0 else 9 | none => 0 from rfl)
          have hsz := str_size t.dig
          clear hget hb hbt
          cases hpo : Tre.pathOk t.pth with
          | false =>
            rw [hpo] at cP
            have HT := Lib.hid (show V = 2 by
              have h1 : Rc.tchE r 0 x x.rds.length t = 2 := by rw [HTC.out, hpo]; rfl
              rw [HFL.out (by rw [h1]; decide), h1])
            clear hpo HFL HTN cT
            go_wp2_with fail
            with_reducible refine cP.mono ?_
            rintro e w5 ⟨rfl, rfl⟩
            go_wp2_with fail
            first | go_ret3 | go_ret2 | go_ret
            exact ⟨by rw [HT.out]; rfl, HBT.out⟩
          | true =>
            rw [hpo] at cP
            by_cases hdl : t.dig.length = 32
            · have d1 : decide ((t.dig.length : Int) = 32) = true := by rw [hdl]; rfl
              have d2 : ((t.dig.length : Int) != 32) = false := by rw [hdl]; rfl
              have HTD := Lib.hid (show Rc.tchE r 0 x x.rds.length t = if Rc.among x.rds x.rds.length t.pth || (decide (x.rds.length = x.rds.length) && (Rc.touched r 0 t.pth).isSome) then 6 else match Rc.touched r 0 t.pth with | some d => if d = t.dig then 0 else 9 | none => 0 by rw [HTC.out, hpo, if_neg (by decide), if_neg (by rw [hdl]; decide)])
              clear hpo
              go_wp2_with fail
              with_reducible refine cP.mono ?_
              rintro e w5 ⟨rfl, rfl⟩
              clear cP
              go_wp2_with fail
              with_reducible refine cT.mono ?_
              clear cT
              rintro e w6 ⟨⟨d, bb, rfl, hb1, hb2⟩, hb6⟩
              have HB6 := Lib.hid (HBT.out.trans (hb6.mono HBT.out.size))
              have hx6 := (hb6.block _ (blk_lt hxt)).trans hxt
              have ht6 := (hb6.block _ (blk_lt htn)).trans htn
              have n3 : w6.cell? ⟨w.heap.size, 3, none⟩ = some (.slice x.A x.rds.length x.c) := by rw [cell_of_row _ _ _ _ _ _ hx6]; first | rfl | (rw [← HAX.out]; rfl)
              have t0 : w6.cell? ⟨wr.heap.size, 0, none⟩ = some (.string (str t.pth)) := by rw [cell_of_row _ _ _ _ _ _ ht6]; rfl
              have t1 : w6.cell? ⟨wr.heap.size, 1, none⟩ = some (.string (str t.dig)) := by rw [cell_of_row _ _ _ _ _ _ ht6]; rfl
              have cA := qamong_any x.rds x.rds.length t.pth (x.A) x.c w6 (by have := HRD.out; exact (this.keep HB6.out).mono HB6.out.size) (by omega) htl
              have HX6 := Lib.hid hx6
              clear hb6 hxt htn hx6 ht6
              have HTE := Lib.hid (show Rc.tchE r 0 x x.rds.length t = if Rc.among x.rds x.rds.length t.pth || (Rc.touched r 0 t.pth).isSome then 6 else match Rc.touched r 0 t.pth with | some d => if d = t.dig then 0 else 9 | none => 0 by rw [HTD.out]; simp)
              go_wp2_with fail
              with_reducible refine cA.mono ?_
              clear cA
              rintro e w7 ⟨⟨z, rfl, hz, _, _⟩, rfl⟩
              cases ham : Rc.among x.rds x.rds.length t.pth with
              | true =>
                rw [ham] at hz
                have HT := Lib.hid (show V = 6 by
                  have h1 : Rc.tchE r 0 x x.rds.length t = 6 := by rw [HTE.out, ham]; rfl
                  rw [HFL.out (by rw [h1]; decide), h1])
                clear ham HFL HTN hb1 hb2
                go_wp2_with fail
                first | go_ret3 | go_ret2 | go_ret
                exact ⟨by rw [HT.out]; rfl, HB6.out⟩
              | false =>
                rw [ham] at hz
                have HTF := Lib.hid (show Rc.tchE r 0 x x.rds.length t = if (Rc.touched r 0 t.pth).isSome then 6 else match Rc.touched r 0 t.pth with | some d => if d = t.dig then 0 else 9 | none => 0 by rw [HTE.out, ham]; rfl)
                clear ham
                cases bb with
                | false =>
                  have HN := Lib.hid (HTN.out (by rw [HTF.out, hb2 rfl]; first | done | rfl))
                  clear HFL HTN hb1 hb2
                  go_wp2_with fail
                  go_roundw
                  case rel => exact ⟨x.rds.length + 1, by go_num, by omega, HN.out, HX6.out, HB6.out⟩
                  case measure => simp [intOf]
                | true =>
                  have HT := Lib.hid (show V = 6 by
                    have h1 : Rc.tchE r 0 x x.rds.length t = 6 := by rw [HTF.out, hb1 rfl]; rfl
                    rw [HFL.out (by rw [h1]; decide), h1])
                  clear HFL HTN hb1 hb2
                  go_wp2_with fail
                  first | go_ret3 | go_ret2 | go_ret
                  exact ⟨by rw [HT.out]; rfl, HB6.out⟩
            · have d1 : decide ((t.dig.length : Int) = 32) = false := decide_eq_false (by omega)
              have d2 : ((t.dig.length : Int) != 32) = true := by rw [bne_iff_ne]; omega
              have HT := Lib.hid (show V = 17 by
                have h1 : Rc.tchE r 0 x x.rds.length t = 17 := by rw [HTC.out, hpo, if_neg (by decide), if_pos hdl]
                rw [HFL.out (by rw [h1]; decide), h1])
              clear hpo HFL HTN cT hdl
              go_wp2_with fail
              with_reducible refine cP.mono ?_
              rintro e w5 ⟨rfl, rfl⟩
              go_wp2_with fail
              first | go_ret3 | go_ret2 | go_ret
              exact ⟨by rw [HT.out]; rfl, HBT.out⟩
        · have m1 : decide ((j : Int) ≤ (x.rds.length : Int)) = false := decide_eq_false (by omega)
          have m1n : decide (j ≤ x.rds.length) = false := decide_eq_false (by omega)
          have HT := Lib.hid (show V = 0 by
            rw [HVV.out]
            exact Rc.step_zero HH.out fun k hk => HAL.out k hk (by rw [Rc.tcs_len] at hk; omega))
          clear hb
          go_wp2_with fail
          first | go_ret3 | go_ret2 | go_ret
          exact ⟨by rw [HT.out]; rfl, HB.out⟩
  · have HT := Lib.hid (show V = 1 by
      have h1 : Rc.headE r 0 x = 1 := by rw [Rc.head1 HR.out hq]; unfold Rc.isF; simp; omega
      rw [HVV.out, Rc.step_head (by rw [h1]; decide), h1])
    have hdb := hbx.drew
    clear HVV hq
    by_cases hz0 : x.rds.length = 0
    · have e0 : ((x.rds.length : Int) == 0) = true := by rw [beq_iff_eq]; omega
      clear hz0 hz
      go_enter Tryd.func30, Tryd.ntmps30
      go_upto_region 4 with (fail)
      go_region
      go_wp2_with fail
      first | go_ret3 | go_ret2 | go_ret
      exact ⟨by rw [HT.out]; rfl, by first | exact hbx | exact hdb | exact ((Below.refl _ _).alloc (Nat.le_refl _) _).drew⟩
    · have e0 : ((x.rds.length : Int) == 0) = false := by rw [beq_eq_false_iff_ne]; omega
      have e1 : decide ((1024 : Int) < (x.rds.length : Int)) = true := decide_eq_true (by omega)
      have e1n : decide (1024 < x.rds.length) = true := decide_eq_true (by omega)
      clear hz
      go_enter Tryd.func30, Tryd.ntmps30
      go_upto_region 4 with (fail)
      go_region
      go_wp2_with fail
      first | go_ret3 | go_ret2 | go_ret
      exact ⟨by rw [HT.out]; rfl, by first | exact hbx | exact hdb | exact ((Below.refl _ _).alloc (Nat.le_refl _) _).drew⟩
end Go.Proofs.YtkgnbjhgdjmfdaaDoor
