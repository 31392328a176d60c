/- The reference's Depths. No condition but the lengths. -/
import Derived.Test.YtdiaejdoglccoaaQor
namespace Go.Proofs.Ytdiaejdoglccoaa
open Go.RowKit Go.Deep Tr

set_option maxHeartbeats 16000000 in
set_option maxRecDepth 100000 in
theorem qdepths_any (g : Gph) (A B : Option Addr) (c d : Nat) (w : World) (hA : GrAt w A B g) :
    Calls Try.prog 19 #[grV A B c d g] w (GotD w (Gr.Dps g)) := by
  obtain ⟨i0, hi0, hz0, hz1, hz2⟩ := info_parts infoIn
  have hb0 : Below w.heap.size w (w.alloc (grO A B c d g)) := (Below.refl _ _).alloc (Nat.le_refl _) _
  have hG := heap_alloc_new w (grO A B c d g)
  obtain ⟨W, hW⟩ : ∃ W, W = w.alloc (grO A B c d g) := ⟨_, rfl⟩
  rw [← hW] at hb0 hG
  obtain ⟨q0, q1⟩ := gb_cells hG
  have HA := Lib.hid hA
  have c1 := qorder_any g A B c d W (hA.next hb0)
  clear hA
  go_enter Try.func19, Try.ntmps19
  go_upto_region 1 with (fail)
  rw [← hW]
  clear hW
  go_wp2_with fail
  with_reducible refine c1.mono ?_
  clear c1
  rintro e w1 ⟨v, ec, rfl, l, hQ, hown, hb1⟩
  have hG1 := (hb1.block w.heap.size (blk_lt hG)).trans hG
  have hb01 := hb0.trans (hb1.mono hb0.size)
  clear hb1 hb0 hG q0 q1
  by_cases hz : ec = 0
  case neg =>
    have z1 : (ec != 0) = true := by rw [bne_iff_ne]; exact hz
    have z2 : (ec == 0) = false := by rw [beq_eq_false_iff_ne]; exact hz
    have HT := Lib.hid (Gr.odr_no hQ hz)
    clear hz hG1 hown hQ
    go_wp2_with fail
    first | go_ret3 | go_ret2 | go_ret
    exact ⟨none, 0, [], ec, rfl, HT.out, Gr.ElAt.nil _ _ _ _ _, hb01⟩
  have z1 : (ec != 0) = false := by rw [hz]; rfl
  have z2 : (ec == 0) = true := by rw [hz]; rfl
  obtain ⟨hchk, o, hka, rfl⟩ := Gr.odr_yes hQ hz
  have HOk := Lib.hid (Gr.chk_ok hchk)
  have HTp := Lib.hid (Gr.kahn_ok hka)
  have HR := Lib.hid (show Gr.Dps g ((List.range g.ns.length).map (Gr.dpq g.es o)) 0 by
    rw [Gr.dpq_eq HTp.out (fun x hx => ⟨HOk.out.ed true x hx, HOk.out.ed false x hx⟩)]
    exact Gr.dps_of hchk hka)
  obtain ⟨Ao, co, rfl, _, _, hat⟩ := Gr.own_el Gr.inV 1 Gr.inV_len hown
  have HAT := Lib.hid hat
  obtain ⟨q0, q1⟩ := gb_cells hG1
  rw [Gr.nats_len]
  have HB1 := Lib.hid hb01
  have hnl := HOk.out.nl
  have hel := HOk.out.el
  obtain ⟨N, hN⟩ : ∃ N, o.length = N := ⟨_, rfl⟩
  have HNM := Lib.hid HTp.out.len
  rw [hN] at HNM ⊢
  have HN := Lib.hid hN
  clear hN
  obtain ⟨M, hM⟩ : ∃ M, g.ns.length = M := ⟨_, rfl⟩
  rw [hM] at HNM hnl q0
  have HM := Lib.hid hM
  have hNl : N ≤ 1024 := by rw [HNM.out]; exact hnl
  clear hz hQ hown hat hka hchk hM
  have hmk : ∀ w' : World, (Instr.makeSlice 29 (.int .i64 (M : Int)) (.int .i64 (M : Int))).run Try.prog w' = .ok (.slice (some ⟨w'.heap.size, 0, none⟩) M M) (w'.alloc (.cells (madeCells #[.int .i64 0] M) 3)) := fun w' =>
    run_make_row (P := Try.prog) 29 3 i0 (.int .i64 0) Try.underlying29 hi0 hz0 hz1 rfl .i64 .i64 M (by rw [hz2]; omega) (by omega) w'
  have hr4 := World.rowIs_made w1 (.int .i64 0) M 3
  have hb4 : Below w1.heap.size w1 (w1.alloc (.cells (madeCells #[.int .i64 0] M) 3)) := (Below.refl _ _).alloc (Nat.le_refl _) _
  have HG1 := Lib.hid hG1
  have hgl := blk_lt hG1
  clear hG1 hb01
  go_upto_region 5 with (fail)
  generalize w1.alloc (.cells (madeCells #[.int .i64 0] M) 3) = w4 at *
  obtain ⟨gw, hgw⟩ : ∃ x, x = w1.heap.size := ⟨_, rfl⟩
  rw [← hgw] at hr4 hb4 ⊢
  have HGW := Lib.hid hgw
  have HGL := Lib.hid (show w.heap.size < gw by rw [hgw]; exact hgl)
  have HW := Lib.hid (fun (wx : World) (h : Below gw w1 wx) => (show Below w.heap.size w wx ∧ wx.heap[w.heap.size]? = some (grO A B c d g) from ⟨HB1.out.trans ((show Below w1.heap.size w1 wx by rw [← hgw]; exact h).mono HB1.out.size), (h.block _ (by rw [hgw]; exact hgl)).trans HG1.out⟩))
  have HSZ := Lib.hid (fun (wx : World) (h : Below gw w1 wx) => (show gw ≤ wx.heap.size by rw [hgw]; exact h.size))
  clear hmk q0 q1 hgw hgl
  go_wp2_with fail
  go_loopw [7] (fun s7 wr => ∃ k : Nat, s7 = .int .i64 k ∧ k ≤ N ∧ wr.rowIs gw 3 M (fun i => .int .i64 (Gr.dpq g.es (o.take k) i)) ∧ Below gw w1 wr) (fun s7 _ => N - (intOf s7).toNat)
  case atStart => exact ⟨0, rfl, by omega, hr4, hb4⟩
  case round =>
    clear hr4 hb4
    obtain ⟨k, rfl, hk, hrow, hb⟩ := hrel
    by_cases hlt : k < N
    · have b1 : decide ((k : Int) < (N : Int)) = true := decide_eq_true (by omega)
      have b1n : decide (k < N) = true := decide_eq_true hlt
      have y2 : (k : Int) < (N : Int) := by omega
      have hko : k < o.length := by rw [HN.out]; exact hlt
      obtain ⟨go, oo, rfl, hgo, hco⟩ := in_cell HAT.out (k := k) (by rw [Gr.nats_len]; exact hko)
      rw [show (Gr.nats o)[k]'(by rw [Gr.nats_len]; exact hko) = ((o[k] : Nat) : Int) by simp [Gr.nats]] at hco
      have hm : o[k] < g.ns.length := HTp.out.lt _ (List.getElem_mem hko)
      rw [HM.out] at hm
      have HST := Lib.hid (Gr.dpq_step g.es o k hko)
      have hbd := fun i => Gr.dpq_bd g.es o k i
      have hkE : k * g.es.length ≤ 1048576 := Nat.le_trans (Nat.mul_le_mul (show k ≤ 1024 by omega) hel) (by omega)
      generalize o[k] = m at *
      generalize Gr.dpq g.es (o.take k) = D at *
      have HCO := Lib.hid (And.intro (show go < gw by rw [HGW.out]; exact hgo) hco)
      have HBD := Lib.hid hbd
      have HKE := Lib.hid hkE
      have HLT := Lib.hid hlt
      have y5 : (m : Int) < (M : Int) := by omega
      have hr0 := hrow
      have hb0 := hb
      clear hgo hco hbd hkE hrow hb hlt
      go_wp2_with fail
      clear b1 b1n
      obtain ⟨wo7, rfl⟩ : ∃ x : World, x = wr := ⟨_, rfl⟩
      go_loopw [8] (fun s8 wr => ∃ j : Nat, s8 = .int .i64 j ∧ j ≤ g.es.length ∧ wr.rowIs gw 3 M (fun i => .int .i64 (Gr.puls m D (g.es.take j) i)) ∧ Below gw w1 wr) (fun s8 _ => g.es.length - (intOf s8).toNat)
      case atStart => exact ⟨0, rfl, by omega, hr0, hb0⟩
      case round =>
        clear hr0 hb0
        obtain ⟨j, rfl, hj, hrow, hb⟩ := hrel
        obtain ⟨hbw, hG⟩ := HW.out _ hb
        obtain ⟨q0, q1⟩ := gb_cells hG
        by_cases hlt2 : j < g.es.length
        · have b3 : decide ((j : Int) < (g.es.length : Int)) = true := decide_eq_true (by omega)
          have b3n : decide (j < g.es.length) = true := decide_eq_true hlt2
          have y4 : (j : Int) < (g.es.length : Int) := by omega
          obtain ⟨gb, eo, hBB, hg, hc⟩ := HA.out.es j hlt2
          subst hBB
          have hd0 := (hbw.cell (p := ⟨gb, eo + j * 3, none⟩) hg).trans (hc 0 _ rfl)
          have hd1 := (hbw.cell (p := ⟨gb, eo + j * 3 + 1, none⟩) hg).trans (hc 1 _ rfl)
          have hd2 := (hbw.cell (p := ⟨gb, eo + j * 3 + 2, none⟩) hg).trans (hc 2 _ rfl)
          have hsr := HOk.out.ed true g.es[j] (List.getElem_mem hlt2)
          rw [HM.out] at hsr
          have HPU := Lib.hid (Gr.puls_step m D g.es j hlt2)
          have hbd2 := Gr.puls_bd (n := m) (g.es.take j) HBD.out
          have hbd3 : (g.es.take j).length ≤ 1024 := by rw [List.length_take]; omega
          have hke := HKE.out
          clear hc hg hbw
          generalize g.es[j] = x at *
          generalize Gr.puls m D (g.es.take j) = D2 at *
          obtain ⟨xs, xd, xp⟩ := x
          simp only [Gr.eA, if_true] at hsr
          obtain ⟨sn, rfl⟩ : ∃ n : Nat, xs = (n : Int) := ⟨xs.toNat, by omega⟩
          dsimp only [] at hd0 hd1 hd2
          have hsl : sn < M := by omega
          have y6 : (sn : Int) < (M : Int) := by omega
          have hb2s := hbd2 sn
          have hwr : IntKind.i64.wrap (D2 sn + 1) = D2 sn + 1 := IntWalk.i64_in _ (by omega)
          have hba := hb.alloc (HSZ.out _ hb) (edO ⟨(sn : Int), xd, xp⟩)
          have hra := hrow.alloc (edO ⟨(sn : Int), xd, xp⟩)
          have hxn := heap_alloc_new wr (edO ⟨(sn : Int), xd, xp⟩)
          clear hsr hG hb hrow hbd2 hbd3 hke hb2s
          go_upto_region 12 with (fail)
          dsimp only [edO] at hba hra hxn ⊢
          generalize wr.alloc (.cells #[.int .i64 (sn : Int), .int .i64 xd, .int .i64 xp] 42) = wa at *
          generalize wr.heap.size = eb at *
          have e0 : wa.cell? ⟨eb, 0, none⟩ = some (.int .i64 (sn : Int)) := by rw [cell_of_row _ _ _ _ _ _ hxn]; rfl
          have e1 : wa.cell? ⟨eb, 1, none⟩ = some (.int .i64 xd) := by rw [cell_of_row _ _ _ _ _ _ hxn]; rfl
          have e2 : wa.cell? ⟨go, oo + k, none⟩ = some (.int .i64 (m : Int)) := (hba.cell (p := ⟨go, oo + k, none⟩) HCO.out.1).trans HCO.out.2
          have e3 : wa.cell? ⟨gw, sn, none⟩ = some (.int .i64 (D2 sn)) := hra.cell hsl
          have e4 : wa.cell? ⟨gw, m, none⟩ = some (.int .i64 (D2 m)) := hra.cell hm
          have HBa := Lib.hid hba
          have HRa := Lib.hid hra
          clear hd0 hd1 hd2 hxn hba hra q0 q1
          by_cases c1 : xd = (m : Int)
          · have x1 : (xd == (m : Int)) = true := by rw [c1]; simp
            by_cases c2 : D2 m < D2 sn + 1
            · have x2 : decide (D2 m < D2 sn + 1) = true := decide_eq_true c2
              have HPS := Lib.hid (show Gr.puls m D (g.es.take (j + 1)) = fun i => if i = m then D2 sn + 1 else D2 i from HPU.out.trans (by unfold Gr.pul; rw [if_pos (by rw [Int.toNat_natCast]; exact ⟨c1, c2⟩), Int.toNat_natCast]))
              clear c1 c2
              go_quiet (fail)
              have HB6 := Lib.hid (below_drewN HBa.out nq)
              have HR6 := Lib.hid (World.rowIs.of_block HRa.out (show (wa.drewN nq).heap[gw]? = wa.heap[gw]? from rfl))
              have f0 : (wa.drewN nq).cell? ⟨eb, 0, none⟩ = some (.int .i64 (sn : Int)) := e0
              have f2 : (wa.drewN nq).cell? ⟨go, oo + k, none⟩ = some (.int .i64 (m : Int)) := e2
              have f3 : (wa.drewN nq).cell? ⟨gw, sn, none⟩ = some (.int .i64 (D2 sn)) := e3
              have f4 : (wa.drewN nq).cell? ⟨gw, m, none⟩ = some (.int .i64 (D2 m)) := e4
              have f5 : (wa.drewN nq).frozen? ⟨gw, m, none⟩ = false := HR6.out.frozen m
              generalize wa.drewN nq = w6 at *
              clear e0 e1 e2 e3 e4
              go_upto_region 13 with (fail)
              go_region
              all_goals
                go_wp2_with fail
                refine ⟨⟨j + 1, by go_num, by omega, ?_, (HB6.out.setCell (p := ⟨gw, m, none⟩) (Nat.le_refl _) _).drew⟩, by simp [intOf]; omega⟩
                refine World.rowIs.of_block ((HR6.out.set m (.int .i64 (D2 sn + 1))).congr fun i hi => ?_) rfl
                rw [HPS.out]
                by_cases e : i = m
                · rw [if_pos e]; show _ = Value.int .i64 (if i = m then _ else _); rw [if_pos e]
                · rw [if_neg e]; show _ = Value.int .i64 (if i = m then _ else _); rw [if_neg e]
            · have x2 : decide (D2 m < D2 sn + 1) = false := decide_eq_false c2
              have HPS := Lib.hid (show Gr.puls m D (g.es.take (j + 1)) = D2 from HPU.out.trans (by unfold Gr.pul; rw [if_neg]; rw [Int.toNat_natCast]; exact fun h => c2 h.2))
              clear c1 c2
              go_quiet (fail)
              have HB6 := Lib.hid (below_drewN HBa.out nq)
              have HR6 := Lib.hid (World.rowIs.of_block HRa.out (show (wa.drewN nq).heap[gw]? = wa.heap[gw]? from rfl))
              generalize wa.drewN nq = w6 at *
              clear e0 e1 e2 e3 e4
              go_wp2_with fail
              go_roundw
              case rel => exact ⟨j + 1, by go_num, by omega, HR6.out.congr fun i hi => by rw [HPS.out], HB6.out⟩
              case measure => simp [intOf]; omega
          · have x1 : (xd == (m : Int)) = false := by rw [beq_eq_false_iff_ne]; exact c1
            have HPS := Lib.hid (show Gr.puls m D (g.es.take (j + 1)) = D2 from HPU.out.trans (by unfold Gr.pul; rw [if_neg]; exact fun h => c1 h.1))
            clear c1
            go_quiet (fail)
            have HB6 := Lib.hid (below_drewN HBa.out nq)
            have HR6 := Lib.hid (World.rowIs.of_block HRa.out (show (wa.drewN nq).heap[gw]? = wa.heap[gw]? from rfl))
            generalize wa.drewN nq = w6 at *
            clear e0 e1 e2 e3 e4
            go_wp2_with fail
            go_roundw
            case rel => exact ⟨j + 1, by go_num, by omega, HR6.out.congr fun i hi => by rw [HPS.out], HB6.out⟩
            case measure => simp [intOf]; omega
        · have b3 : decide ((j : Int) < (g.es.length : Int)) = false := decide_eq_false (by omega)
          have b3n : decide (j < g.es.length) = false := decide_eq_false hlt2
          rw [List.take_of_length_le (by omega)] at hrow
          have HS := Lib.hid hrow
          have HB := Lib.hid hb
          clear hrow hb hG hbw
          go_wp2_with fail
          go_roundw
          case rel => exact ⟨k + 1, by go_num, by have := HLT.out; omega, by rw [HST.out]; exact HS.out, HB.out⟩
          case measure => have := HLT.out; simp [intOf]; omega
    · have b1 : decide ((k : Int) < (N : Int)) = false := decide_eq_false (by omega)
      have b1n : decide (k < N) = false := decide_eq_false hlt
      rw [List.take_of_length_le (by rw [HN.out]; omega)] at hrow
      have HI := Lib.hid (row_in hrow)
      have HB := Lib.hid (HW.out _ hb).1
      clear hrow hb
      go_wp2_with fail
      first | go_ret3 | go_ret2 | go_ret
      exact ⟨some ⟨gw, 0, none⟩, M, (List.range M).map (Gr.dpq g.es o), 0, (by rw [List.length_map, List.length_range]; rfl), by rw [← HM.out]; exact HR.out, HI.out, HB.out⟩
end Go.Proofs.Ytdiaejdoglccoaa
