/- The reference's distances. Condition: the graph is valid, the end a node. -/
import Derived.Test.YtdiaejdoglccoaaQdp
import Derived.Test.YtdiaejdoglccoaaQck
namespace Go.Proofs.Ytdiaejdoglccoaa
open Go.RowKit Go.Deep Tr

set_option maxHeartbeats 16000000 in
set_option maxRecDepth 100000 in
theorem qdist_any (g : Gph) (tn : Nat) (c : Int) (A B : Option Addr) (cc d : Nat) (w : World) (hA : GrAt w A B g) (hOk : Gr.Ok g) (ht : tn < g.ns.length) :
    Calls Try.prog 42 #[grV A B cc d g, .int .i64 tn, .int .i64 c] w fun e w' => ∃ gl, e = .returned (.slice (some ⟨gl, 0, none⟩) g.ns.length g.ns.length) ∧ ∃ L : Nat → Int, w'.rowIs gl 3 g.ns.length (fun i => .int .i64 (L i)) ∧ Gr.Lab (Gr.row false g.es) [(tn : Int)] c L ∧ w.heap.size ≤ gl ∧ Below w.heap.size w w' := by
  obtain ⟨i0, hi0, hz0, hz1, hz2⟩ := info_parts infoIn
  have hb0 : Below w.heap.size w (w.alloc (grO A B cc d g)) := (Below.refl _ _).alloc (Nat.le_refl _) _
  have hG := heap_alloc_new w (grO A B cc d g)
  obtain ⟨W, hW⟩ : ∃ W, W = w.alloc (grO A B cc d g) := ⟨_, rfl⟩
  have HWS := Lib.hid (show W.heap.size = w.heap.size + 1 by rw [hW]; simp)
  rw [← hW] at hb0 hG
  have HA := Lib.hid hA
  have HOk := Lib.hid hOk
  obtain ⟨N, hN⟩ : ∃ N, g.ns.length = N := ⟨_, rfl⟩
  have hnl := hOk.nl
  have hel := hOk.el
  have HIn := Lib.hid (Gr.Rlx.init g tn c ht)
  obtain ⟨q0, q1⟩ := gb_cells hG
  have HN := Lib.hid hN
  rw [hN] at hnl ht q0 ⊢
  have hmk : ∀ w' : World, (Instr.makeSlice 29 (.int .i64 (N : Int)) (.int .i64 (N : Int))).run Try.prog w' = .ok (.slice (some ⟨w'.heap.size, 0, none⟩) N N) (w'.alloc (.cells (madeCells #[.int .i64 0] N) 3)) := fun w' =>
    run_make_row (P := Try.prog) 29 3 i0 (.int .i64 0) Try.underlying29 hi0 hz0 hz1 rfl .i64 .i64 N (by rw [hz2]; omega) (by omega) w'
  have hr1 := World.rowIs_made W (.int .i64 0) N 3
  have hb1 := hb0.alloc hb0.size (.cells (madeCells #[.int .i64 0] N) 3)
  have hG1 := (blk_alloc_lt W (.cells (madeCells #[.int .i64 0] N) 3) _ (blk_lt hG)).trans hG
  clear hA hOk hb0 hG hN
  go_enter Try.func42, Try.ntmps42
  go_upto_region 1 with (fail)
  rw [← hW]
  clear hW
  go_upto_region 2 with (fail)
  generalize W.alloc (.cells (madeCells #[.int .i64 0] N) 3) = W1 at *
  obtain ⟨gw, hgw⟩ : ∃ x, x = W.heap.size := ⟨_, rfl⟩
  rw [← hgw] at hr1 ⊢
  have HGW := Lib.hid (show w.heap.size ≤ gw ∧ w.heap.size < gw from ⟨by have := HWS.out; omega, by have := HWS.out; omega⟩)
  clear hmk q0 q1 hgw HWS
  go_wp2_with fail
  go_loopw [8] (fun s8 wr => ∃ k : Nat, s8 = .int .i64 k ∧ k ≤ N ∧ wr.rowIs gw 3 N (fun i => .int .i64 (if i < k then -1 else 0)) ∧ wr.heap[w.heap.size]? = some (grO A B cc d g) ∧ Below w.heap.size w wr) (fun s8 _ => N - (intOf s8).toNat)
  case atStart => exact ⟨0, rfl, by omega, hr1.congr fun i _ => by simp, hG1, hb1⟩
  case round =>
    clear hr1 hG1 hb1
    obtain ⟨k, rfl, hk, hrow, hG, hb⟩ := hrel
    by_cases hlt : k < N
    · have b1 : decide ((k : Int) < (N : Int)) = true := decide_eq_true (by omega)
      have b1n : decide (k < N) = true := decide_eq_true hlt
      have y1 : (k : Int) < (N : Int) := by omega
      have e2 : wr.cell? ⟨gw, k, none⟩ = some (.int .i64 0) := by rw [hrow.cell hlt]; simp
      have f2 := hrow.frozen k
      have H1 := Lib.hid ((hrow.set k (.int .i64 (-1))).congr (g := fun i => .int .i64 (if i < k + 1 then -1 else 0)) fun i hi => by
        by_cases e : i = k
        · simp [e]
        · simp only [e, if_false]
          by_cases e2 : i < k
          · rw [if_pos e2, if_pos (show i < k + 1 by omega)]
          · rw [if_neg e2, if_neg (show ¬ i < k + 1 by omega)])
      have H2 := Lib.hid ((heap_setCell_other wr ⟨gw, k, none⟩ w.heap.size (.int .i64 (-1)) (show w.heap.size ≠ gw by have := HGW.out; omega)).trans hG)
      have H3 := Lib.hid (hb.setCell (p := ⟨gw, k, none⟩) HGW.out.1 (.int .i64 (-1)))
      clear hrow hG hb
      go_wp2_with fail
      go_roundw
      case rel => exact ⟨k + 1, by go_num, by omega, H1.out, H2.out, H3.out⟩
      case measure => simp [intOf]; omega
    · have b1 : decide ((k : Int) < (N : Int)) = false := decide_eq_false (by omega)
      have b1n : decide (k < N) = false := decide_eq_false hlt
      have hrow0 := hrow.congr (g := fun _ => .int .i64 (-1)) fun i hi => by rw [if_pos (by omega)]
      clear hrow hlt hk
      have MAIN : ∀ (L0 : Nat → Int) (b0 : Bool), b0 = true → L0 = L0 → True := fun _ _ _ _ => trivial
      clear MAIN
      by_cases htc : (tn : Int) = c
      · have x1 : ((tn : Int) != c) = false := by rw [htc]; simp
        obtain ⟨L0, hL0⟩ : ∃ L0 : Nat → Int, L0 = fun _ => -1 := ⟨_, rfl⟩
        have hI : Gr.Rlx g tn c L0 := by
          have h := HIn.out
          rw [if_neg (fun h => h htc)] at h
          rw [hL0]; exact h
        have hrow1 : wr.rowIs gw 3 N (fun i => .int .i64 (L0 i)) := by rw [hL0]; exact hrow0
        have HI := Lib.hid hI
        clear hrow0 hL0 hI htc
        go_wp2_with fail
        go_loopg [9] (2 * Gr.pot N L0 N + 1) (fun gk s9 wr => ∃ (L : Nat → Int) (b : Bool), s9 = .bool b ∧ 2 * Gr.pot N L N + (if b = true then 1 else 0) = gk ∧ Gr.Rlx g tn c L ∧ (b = false → ∀ x ∈ g.es, Gr.idle c L x) ∧ wr.rowIs gw 3 N (fun i => .int .i64 (L i)) ∧ wr.heap[w.heap.size]? = some (grO A B cc d g) ∧ Below w.heap.size w wr)
        case atStart => exact ⟨L0, true, rfl, rfl, HI.out, fun h => (by cases h), hrow1, hG, hb⟩
        case round =>
          clear hrow1 hG hb
          obtain ⟨L, b, rfl, hgk, hrl, hid, hrow, hG, hb⟩ := hrel
          have HGK := Lib.hid hgk
          have HRl := Lib.hid hrl
          clear hgk hrl
          cases b with
          | false =>
            have HL := Lib.hid (HRl.out.lab (hid rfl))
            have HR := Lib.hid hrow
            have HB := Lib.hid hb
            clear hid hrow hG hb
            go_wp2_with fail
            go_ret
            exact ⟨gw, rfl, L, HR.out, HL.out, HGW.out.1, HB.out⟩
          | true =>
          clear hid
          go_wp2_with fail
          obtain ⟨w00, rfl⟩ : ∃ x : World, x = wr := ⟨_, rfl⟩
          go_loopw [9, 10] (fun s9 s10 wr => ∃ (k : Nat) (L' : Nat → Int) (b' : Bool), s10 = .int .i64 k ∧ s9 = .bool b' ∧ k ≤ g.es.length ∧ Gr.Rlx g tn c L' ∧ (b' = true → Gr.pot N L' N < Gr.pot N L N) ∧ (b' = false → L' = L ∧ ∀ y ∈ g.es.take k, Gr.idle c L' y) ∧ wr.rowIs gw 3 N (fun i => .int .i64 (L' i)) ∧ wr.heap[w.heap.size]? = some (grO A B cc d g) ∧ Below w.heap.size w wr) (fun _ s10 _ => g.es.length - (intOf s10).toNat)
          case atStart => exact ⟨0, L, false, rfl, rfl, by omega, HRl.out, fun h => (by cases h), fun _ => ⟨rfl, fun y hy => by simp at hy⟩, hrow, hG, hb⟩
          case round =>
            clear hrow hG hb
            obtain ⟨k, L', b', rfl, rfl, hk, hx, hb1, hb2, hrow, hG, hb⟩ := hrel
            have HX := Lib.hid hx
            clear hx
            obtain ⟨q0, q1⟩ := gb_cells hG
            by_cases hlt : k < g.es.length
            · have b1 : decide ((k : Int) < (g.es.length : Int)) = true := decide_eq_true (by omega)
              have b1n : decide (k < g.es.length) = true := decide_eq_true hlt
              have y2 : (k : Int) < (g.es.length : Int) := by omega
              obtain ⟨gb, oo, hBB, hg, hc⟩ := HA.out.es k hlt
              subst hBB
              have hd0 := (hb.cell (p := ⟨gb, oo + k * 3, none⟩) hg).trans (hc 0 _ rfl)
              have hd1 := (hb.cell (p := ⟨gb, oo + k * 3 + 1, none⟩) hg).trans (hc 1 _ rfl)
              have hd2 := (hb.cell (p := ⟨gb, oo + k * 3 + 2, none⟩) hg).trans (hc 2 _ rfl)
              have hsr := HOk.out.ed true g.es[k] (List.getElem_mem hlt)
              have hds := HOk.out.ed false g.es[k] (List.getElem_mem hlt)
              have HM := Lib.hid (List.getElem_mem hlt)
              have HTK := Lib.hid (List.take_succ_eq_append_getElem hlt)
              clear hc hg
              generalize g.es[k] = x at *
              obtain ⟨xs, xd, xp⟩ := x
              simp only [Gr.eA, if_true, if_false, Bool.false_eq_true] at hsr hds
              rw [HN.out] at hsr hds
              obtain ⟨sn, rfl⟩ : ∃ n : Nat, xs = (n : Int) := ⟨xs.toNat, by omega⟩
              obtain ⟨dn, rfl⟩ : ∃ n : Nat, xd = (n : Int) := ⟨xd.toNat, by omega⟩
              dsimp only [] at hd0 hd1 hd2
              have hsl : sn < N := by omega
              have hdl : dn < N := by omega
              have y3 : (sn : Int) < (N : Int) := by omega
              have y4 : (dn : Int) < (N : Int) := by omega
              have hba := hb.alloc hb.size (edO ⟨(sn : Int), (dn : Int), xp⟩)
              have hGa := (blk_alloc_lt wr (edO ⟨(sn : Int), (dn : Int), xp⟩) _ (blk_lt hG)).trans hG
              have hra := hrow.alloc (edO ⟨(sn : Int), (dn : Int), xp⟩)
              have hxn := heap_alloc_new wr (edO ⟨(sn : Int), (dn : Int), xp⟩)
              clear hsr hds hG hb hrow
              go_upto_region 15 with (fail)
              dsimp only [edO] at hba hGa hxn hra ⊢
              generalize wr.alloc (.cells #[.int .i64 (sn : Int), .int .i64 (dn : Int), .int .i64 xp] 42) = wa at *
              generalize wr.heap.size = eb at *
              have e0 : wa.cell? ⟨eb, 0, none⟩ = some (.int .i64 (sn : Int)) := by rw [cell_of_row _ _ _ _ _ _ hxn]; rfl
              have e1 : wa.cell? ⟨eb, 1, none⟩ = some (.int .i64 (dn : Int)) := by rw [cell_of_row _ _ _ _ _ _ hxn]; rfl
              have e3 : wa.cell? ⟨gw, dn, none⟩ = some (.int .i64 (L' dn)) := hra.cell hdl
              have e4 : wa.cell? ⟨gw, sn, none⟩ = some (.int .i64 (L' sn)) := hra.cell hsl
              have HBa := Lib.hid hba
              have HGa := Lib.hid hGa
              have HRa := Lib.hid hra
              clear hd0 hd1 hd2 hxn hba hGa hra q0 q1
              by_cases c1 : (sn : Int) = c
              · have x1 : ((sn : Int) == c) = true := by rw [c1]; simp
                have HID := Lib.hid (show Gr.idle c L' ⟨(sn : Int), (dn : Int), xp⟩ from .inl c1)
                have HNX := Lib.hid (show b' = true → Gr.pot N L' N < Gr.pot N L N from hb1)
                have HNY := Lib.hid (show b' = false → L' = L ∧ ∀ y ∈ g.es.take (k + 1), Gr.idle c L' y from fun h => ⟨(hb2 h).1, fun y hy => by
                  rw [HTK.out, List.mem_append, List.mem_singleton] at hy
                  rcases hy with hy | hy
                  · exact (hb2 h).2 y hy
                  · rw [hy]; exact HID.out⟩)
                clear hb1 hb2 c1
                go_upto_region 15 with (fail)
                go_quiet (fail)
                have HB6 := Lib.hid (below_drewN HBa.out nq)
                have HR6 := Lib.hid (World.rowIs.of_block HRa.out (show (wa.drewN nq).heap[gw]? = wa.heap[gw]? from rfl))
                have HG6 := Lib.hid (show (wa.drewN nq).heap[w.heap.size]? = some _ from HGa.out)
                generalize wa.drewN nq = w6 at *
                clear e0 e1 e3 e4
                go_wp2_with fail
                go_roundw
                case rel => exact ⟨k + 1, L', b', by go_num, rfl, by omega, HX.out, HNX.out, HNY.out, HR6.out, HG6.out, HB6.out⟩
                case measure => simp [intOf]; omega
              have x1 : ((sn : Int) == c) = false := by rw [beq_eq_false_iff_ne]; exact c1
              by_cases c2 : L' dn < 0
              · have x2 : decide (L' dn < 0) = true := decide_eq_true c2
                have HID := Lib.hid (show Gr.idle c L' ⟨(sn : Int), (dn : Int), xp⟩ from .inr (.inl (by rw [Int.toNat_natCast]; exact c2)))
                have HNX := Lib.hid (show b' = true → Gr.pot N L' N < Gr.pot N L N from hb1)
                have HNY := Lib.hid (show b' = false → L' = L ∧ ∀ y ∈ g.es.take (k + 1), Gr.idle c L' y from fun h => ⟨(hb2 h).1, fun y hy => by
                  rw [HTK.out, List.mem_append, List.mem_singleton] at hy
                  rcases hy with hy | hy
                  · exact (hb2 h).2 y hy
                  · rw [hy]; exact HID.out⟩)
                clear hb1 hb2 c1 c2
                go_upto_region 15 with (fail)
                go_quiet (fail)
                have HB6 := Lib.hid (below_drewN HBa.out nq)
                have HR6 := Lib.hid (World.rowIs.of_block HRa.out (show (wa.drewN nq).heap[gw]? = wa.heap[gw]? from rfl))
                have HG6 := Lib.hid (show (wa.drewN nq).heap[w.heap.size]? = some _ from HGa.out)
                generalize wa.drewN nq = w6 at *
                clear e0 e1 e3 e4
                go_wp2_with fail
                go_roundw
                case rel => exact ⟨k + 1, L', b', by go_num, rfl, by omega, HX.out, HNX.out, HNY.out, HR6.out, HG6.out, HB6.out⟩
                case measure => simp [intOf]; omega
              have x2 : decide (L' dn < 0) = false := decide_eq_false c2
              by_cases c3 : 0 ≤ L' sn
              · have x3 : decide (0 ≤ L' sn) = true := decide_eq_true c3
                have HLD0 := Lib.hid (show L' dn + 1 ≤ 100000 from by have h := HX.out.bd dn; rw [HN.out] at h; omega)
                have hwr0 : IntKind.i64.wrap (L' dn + 1) = L' dn + 1 := IntWalk.i64_in _ (by have := HLD0.out; omega)
                by_cases c4 : L' sn ≤ L' dn + 1
                · have x4 : decide (L' sn ≤ L' dn + 1) = true := decide_eq_true c4
                  have HID := Lib.hid (show Gr.idle c L' ⟨(sn : Int), (dn : Int), xp⟩ from .inr (.inr (by rw [Int.toNat_natCast, Int.toNat_natCast]; exact ⟨c3, c4⟩)))
                  have HNX := Lib.hid (show b' = true → Gr.pot N L' N < Gr.pot N L N from hb1)
                  have HNY := Lib.hid (show b' = false → L' = L ∧ ∀ y ∈ g.es.take (k + 1), Gr.idle c L' y from fun h => ⟨(hb2 h).1, fun y hy => by
                    rw [HTK.out, List.mem_append, List.mem_singleton] at hy
                    rcases hy with hy | hy
                    · exact (hb2 h).2 y hy
                    · rw [hy]; exact HID.out⟩)
                  clear hb1 hb2 c1 c2 c3 c4
                  go_upto_region 15 with (fail)
                  go_quiet (fail)
                  have HB6 := Lib.hid (below_drewN HBa.out nq)
                  have HR6 := Lib.hid (World.rowIs.of_block HRa.out (show (wa.drewN nq).heap[gw]? = wa.heap[gw]? from rfl))
                  have HG6 := Lib.hid (show (wa.drewN nq).heap[w.heap.size]? = some _ from HGa.out)
                  generalize wa.drewN nq = w6 at *
                  clear e0 e1 e3 e4
                  go_wp2_with fail
                  go_roundw
                  case rel => exact ⟨k + 1, L', b', by go_num, rfl, by omega, HX.out, HNX.out, HNY.out, HR6.out, HG6.out, HB6.out⟩
                  case measure => simp [intOf]; omega
                · have x4 : decide (L' sn ≤ L' dn + 1) = false := decide_eq_false c4
                  clear hwr0
                  have HRX := Lib.hid (HX.out.relax HOk.out HM.out (show ¬ Gr.idle c L' ⟨(sn : Int), (dn : Int), xp⟩ from by unfold Gr.idle; rw [Int.toNat_natCast, Int.toNat_natCast]; rintro (h | h | h) <;> first | exact c1 h | exact c2 h | exact c4 h.2) rfl rfl)
                  have HNX := Lib.hid (show Gr.pot N (fun j => if j = sn then L' dn + 1 else L' j) N < Gr.pot N L N from by
                    have h := HRX.out.2.1
                    rw [HN.out] at h
                    cases b' with
                    | true => exact Nat.lt_trans h (hb1 rfl)
                    | false => rw [(hb2 rfl).1] at h ⊢; exact h)
                  have hld := HRX.out.2.2
                  have HLD := Lib.hid (show L' dn + 1 ≤ 100000 from by have h := HX.out.bd dn; rw [HN.out] at h; omega)
                  have hwr : IntKind.i64.wrap (L' dn + 1) = L' dn + 1 := IntWalk.i64_in _ (by have := HLD.out; omega)
                  clear hb1 hb2 c1 c2 c3 c4
                  go_upto_region 15 with (fail)
                  go_quiet (fail)
                  have HB6 := Lib.hid (below_drewN HBa.out nq)
                  have HR6 := Lib.hid (World.rowIs.of_block HRa.out (show (wa.drewN nq).heap[gw]? = wa.heap[gw]? from rfl))
                  have HG6 := Lib.hid (show (wa.drewN nq).heap[w.heap.size]? = some _ from HGa.out)
                  have f0 : (wa.drewN nq).cell? ⟨eb, 0, none⟩ = some (.int .i64 (sn : Int)) := e0
                  have f1 : (wa.drewN nq).cell? ⟨eb, 1, none⟩ = some (.int .i64 (dn : Int)) := e1
                  have f3 : (wa.drewN nq).cell? ⟨gw, dn, none⟩ = some (.int .i64 (L' dn)) := e3
                  have f4 : (wa.drewN nq).cell? ⟨gw, sn, none⟩ = some (.int .i64 (L' sn)) := e4
                  have f5 : (wa.drewN nq).frozen? ⟨gw, sn, none⟩ = false := HR6.out.frozen sn
                  generalize wa.drewN nq = w6 at *
                  clear e0 e1 e3 e4
                  go_upto_region 16 with (fail)
                  go_region
                  all_goals
                    go_wp2_with fail
                    refine ⟨⟨k + 1, _, true, by go_num, rfl, by omega, HRX.out.1, fun _ => HNX.out, fun h => (by cases h), World.rowIs.of_block ((HR6.out.set sn (.int .i64 (L' dn + 1))).congr fun i hi => ?_) rfl, ?_, (HB6.out.setCell (p := ⟨gw, sn, none⟩) HGW.out.1 _).drew⟩, by simp [intOf]; omega⟩
                    · by_cases e : i = sn
                      · rw [if_pos e, if_pos e]
                      · rw [if_neg e, if_neg e]
                    · exact (heap_setCell_other w6 ⟨gw, sn, none⟩ w.heap.size _ (show w.heap.size ≠ gw by have := HGW.out; omega)).trans HG6.out
              · have x3 : decide (0 ≤ L' sn) = false := decide_eq_false c3
                have HRX := Lib.hid (HX.out.relax HOk.out HM.out (show ¬ Gr.idle c L' ⟨(sn : Int), (dn : Int), xp⟩ from by unfold Gr.idle; rw [Int.toNat_natCast, Int.toNat_natCast]; rintro (h | h | h) <;> first | exact c1 h | exact c2 h | exact c3 h.1) rfl rfl)
                have HNX := Lib.hid (show Gr.pot N (fun j => if j = sn then L' dn + 1 else L' j) N < Gr.pot N L N from by
                  have h := HRX.out.2.1
                  rw [HN.out] at h
                  cases b' with
                  | true => exact Nat.lt_trans h (hb1 rfl)
                  | false => rw [(hb2 rfl).1] at h ⊢; exact h)
                have hld := HRX.out.2.2
                have HLD := Lib.hid (show L' dn + 1 ≤ 100000 from by have h := HX.out.bd dn; rw [HN.out] at h; omega)
                have hwr : IntKind.i64.wrap (L' dn + 1) = L' dn + 1 := IntWalk.i64_in _ (by have := HLD.out; omega)
                clear hb1 hb2 c1 c2 c3
                go_upto_region 15 with (fail)
                go_quiet (fail)
                have HB6 := Lib.hid (below_drewN HBa.out nq)
                have HR6 := Lib.hid (World.rowIs.of_block HRa.out (show (wa.drewN nq).heap[gw]? = wa.heap[gw]? from rfl))
                have HG6 := Lib.hid (show (wa.drewN nq).heap[w.heap.size]? = some _ from HGa.out)
                have f0 : (wa.drewN nq).cell? ⟨eb, 0, none⟩ = some (.int .i64 (sn : Int)) := e0
                have f1 : (wa.drewN nq).cell? ⟨eb, 1, none⟩ = some (.int .i64 (dn : Int)) := e1
                have f3 : (wa.drewN nq).cell? ⟨gw, dn, none⟩ = some (.int .i64 (L' dn)) := e3
                have f4 : (wa.drewN nq).cell? ⟨gw, sn, none⟩ = some (.int .i64 (L' sn)) := e4
                have f5 : (wa.drewN nq).frozen? ⟨gw, sn, none⟩ = false := HR6.out.frozen sn
                generalize wa.drewN nq = w6 at *
                clear e0 e1 e3 e4
                go_upto_region 16 with (fail)
                go_region
                all_goals
                  go_wp2_with fail
                  refine ⟨⟨k + 1, _, true, by go_num, rfl, by omega, HRX.out.1, fun _ => HNX.out, fun h => (by cases h), World.rowIs.of_block ((HR6.out.set sn (.int .i64 (L' dn + 1))).congr fun i hi => ?_) rfl, ?_, (HB6.out.setCell (p := ⟨gw, sn, none⟩) HGW.out.1 _).drew⟩, by simp [intOf]; omega⟩
                  · by_cases e : i = sn
                    · rw [if_pos e, if_pos e]
                    · rw [if_neg e, if_neg e]
                  · exact (heap_setCell_other w6 ⟨gw, sn, none⟩ w.heap.size _ (show w.heap.size ≠ gw by have := HGW.out; omega)).trans HG6.out
            · have b1 : decide ((k : Int) < (g.es.length : Int)) = false := decide_eq_false (by omega)
              have b1n : decide (k < g.es.length) = false := decide_eq_false hlt
              rw [List.take_of_length_le (by omega)] at hb2
              have HB1 := Lib.hid hb1
              have HB2 := Lib.hid hb2
              have HR := Lib.hid hrow
              have HGq := Lib.hid hG
              have HB := Lib.hid hb
              clear hb1 hb2 hrow hG hb
              go_wp2_with fail
              go_roundg (2 * Gr.pot N L' N + if b' = true then 1 else 0)
              case measure =>
                have h := HGK.out
                cases b' with
                | true => have := HB1.out rfl; simp at h ⊢; omega
                | false => have := (HB2.out rfl).1; subst this; simp at h ⊢; omega
              case rel => exact ⟨L', b', rfl, rfl, HX.out, fun h => (HB2.out h).2, HR.out, HGq.out, HB.out⟩
      · have x1 : ((tn : Int) != c) = true := by rw [bne_iff_ne]; exact htc
        have y1 : (tn : Int) < (N : Int) := by omega
        have e2 : wr.cell? ⟨gw, tn, none⟩ = some (.int .i64 (-1)) := hrow0.cell ht
        have f2 := hrow0.frozen tn
        obtain ⟨L0, hL0⟩ : ∃ L0 : Nat → Int, L0 = fun j => if j = tn then 0 else -1 := ⟨_, rfl⟩
        have hI : Gr.Rlx g tn c L0 := by
          have h := HIn.out
          rw [if_pos htc] at h
          rw [hL0]; exact h
        have hrow1 : (wr.setCell ⟨gw, tn, none⟩ (.int .i64 0)).rowIs gw 3 N (fun i => .int .i64 (L0 i)) := (hrow0.set tn (.int .i64 0)).congr fun i hi => by
          rw [hL0]
          by_cases e : i = tn
          · simp [e]
          · simp [e]
        have hG' := (heap_setCell_other wr ⟨gw, tn, none⟩ w.heap.size (.int .i64 0) (show w.heap.size ≠ gw by have := HGW.out; omega)).trans hG
        have hb' := hb.setCell (p := ⟨gw, tn, none⟩) HGW.out.1 (.int .i64 0)
        have HI := Lib.hid hI
        clear hrow0 hL0 hI htc hG hb
        have hG := hG'
        have hb := hb'
        clear hG' hb'
        go_upto_region 8 with (fail)
        generalize wr.setCell ⟨gw, tn, none⟩ (.int .i64 0) = w5 at *
        clear e2 f2
        go_wp2_with fail
        go_loopg [9] (2 * Gr.pot N L0 N + 1) (fun gk s9 wr => ∃ (L : Nat → Int) (b : Bool), s9 = .bool b ∧ 2 * Gr.pot N L N + (if b = true then 1 else 0) = gk ∧ Gr.Rlx g tn c L ∧ (b = false → ∀ x ∈ g.es, Gr.idle c L x) ∧ wr.rowIs gw 3 N (fun i => .int .i64 (L i)) ∧ wr.heap[w.heap.size]? = some (grO A B cc d g) ∧ Below w.heap.size w wr)
        case atStart => exact ⟨L0, true, rfl, rfl, HI.out, fun h => (by cases h), hrow1, hG, hb⟩
        case round =>
          clear hrow1 hG hb
          obtain ⟨L, b, rfl, hgk, hrl, hid, hrow, hG, hb⟩ := hrel
          have HGK := Lib.hid hgk
          have HRl := Lib.hid hrl
          clear hgk hrl
          cases b with
          | false =>
            have HL := Lib.hid (HRl.out.lab (hid rfl))
            have HR := Lib.hid hrow
            have HB := Lib.hid hb
            clear hid hrow hG hb
            go_wp2_with fail
            go_ret
            exact ⟨gw, rfl, L, HR.out, HL.out, HGW.out.1, HB.out⟩
          | true =>
          clear hid
          go_wp2_with fail
          obtain ⟨w00, rfl⟩ : ∃ x : World, x = wr := ⟨_, rfl⟩
          go_loopw [9, 10] (fun s9 s10 wr => ∃ (k : Nat) (L' : Nat → Int) (b' : Bool), s10 = .int .i64 k ∧ s9 = .bool b' ∧ k ≤ g.es.length ∧ Gr.Rlx g tn c L' ∧ (b' = true → Gr.pot N L' N < Gr.pot N L N) ∧ (b' = false → L' = L ∧ ∀ y ∈ g.es.take k, Gr.idle c L' y) ∧ wr.rowIs gw 3 N (fun i => .int .i64 (L' i)) ∧ wr.heap[w.heap.size]? = some (grO A B cc d g) ∧ Below w.heap.size w wr) (fun _ s10 _ => g.es.length - (intOf s10).toNat)
          case atStart => exact ⟨0, L, false, rfl, rfl, by omega, HRl.out, fun h => (by cases h), fun _ => ⟨rfl, fun y hy => by simp at hy⟩, hrow, hG, hb⟩
          case round =>
            clear hrow hG hb
            obtain ⟨k, L', b', rfl, rfl, hk, hx, hb1, hb2, hrow, hG, hb⟩ := hrel
            have HX := Lib.hid hx
            clear hx
            obtain ⟨q0, q1⟩ := gb_cells hG
            by_cases hlt : k < g.es.length
            · have b1 : decide ((k : Int) < (g.es.length : Int)) = true := decide_eq_true (by omega)
              have b1n : decide (k < g.es.length) = true := decide_eq_true hlt
              have y2 : (k : Int) < (g.es.length : Int) := by omega
              obtain ⟨gb, oo, hBB, hg, hc⟩ := HA.out.es k hlt
              subst hBB
              have hd0 := (hb.cell (p := ⟨gb, oo + k * 3, none⟩) hg).trans (hc 0 _ rfl)
              have hd1 := (hb.cell (p := ⟨gb, oo + k * 3 + 1, none⟩) hg).trans (hc 1 _ rfl)
              have hd2 := (hb.cell (p := ⟨gb, oo + k * 3 + 2, none⟩) hg).trans (hc 2 _ rfl)
              have hsr := HOk.out.ed true g.es[k] (List.getElem_mem hlt)
              have hds := HOk.out.ed false g.es[k] (List.getElem_mem hlt)
              have HM := Lib.hid (List.getElem_mem hlt)
              have HTK := Lib.hid (List.take_succ_eq_append_getElem hlt)
              clear hc hg
              generalize g.es[k] = x at *
              obtain ⟨xs, xd, xp⟩ := x
              simp only [Gr.eA, if_true, if_false, Bool.false_eq_true] at hsr hds
              rw [HN.out] at hsr hds
              obtain ⟨sn, rfl⟩ : ∃ n : Nat, xs = (n : Int) := ⟨xs.toNat, by omega⟩
              obtain ⟨dn, rfl⟩ : ∃ n : Nat, xd = (n : Int) := ⟨xd.toNat, by omega⟩
              dsimp only [] at hd0 hd1 hd2
              have hsl : sn < N := by omega
              have hdl : dn < N := by omega
              have y3 : (sn : Int) < (N : Int) := by omega
              have y4 : (dn : Int) < (N : Int) := by omega
              have hba := hb.alloc hb.size (edO ⟨(sn : Int), (dn : Int), xp⟩)
              have hGa := (blk_alloc_lt wr (edO ⟨(sn : Int), (dn : Int), xp⟩) _ (blk_lt hG)).trans hG
              have hra := hrow.alloc (edO ⟨(sn : Int), (dn : Int), xp⟩)
              have hxn := heap_alloc_new wr (edO ⟨(sn : Int), (dn : Int), xp⟩)
              clear hsr hds hG hb hrow
              go_upto_region 15 with (fail)
              dsimp only [edO] at hba hGa hxn hra ⊢
              generalize wr.alloc (.cells #[.int .i64 (sn : Int), .int .i64 (dn : Int), .int .i64 xp] 42) = wa at *
              generalize wr.heap.size = eb at *
              have e0 : wa.cell? ⟨eb, 0, none⟩ = some (.int .i64 (sn : Int)) := by rw [cell_of_row _ _ _ _ _ _ hxn]; rfl
              have e1 : wa.cell? ⟨eb, 1, none⟩ = some (.int .i64 (dn : Int)) := by rw [cell_of_row _ _ _ _ _ _ hxn]; rfl
              have e3 : wa.cell? ⟨gw, dn, none⟩ = some (.int .i64 (L' dn)) := hra.cell hdl
              have e4 : wa.cell? ⟨gw, sn, none⟩ = some (.int .i64 (L' sn)) := hra.cell hsl
              have HBa := Lib.hid hba
              have HGa := Lib.hid hGa
              have HRa := Lib.hid hra
              clear hd0 hd1 hd2 hxn hba hGa hra q0 q1
              by_cases c1 : (sn : Int) = c
              · have x1 : ((sn : Int) == c) = true := by rw [c1]; simp
                have HID := Lib.hid (show Gr.idle c L' ⟨(sn : Int), (dn : Int), xp⟩ from .inl c1)
                have HNX := Lib.hid (show b' = true → Gr.pot N L' N < Gr.pot N L N from hb1)
                have HNY := Lib.hid (show b' = false → L' = L ∧ ∀ y ∈ g.es.take (k + 1), Gr.idle c L' y from fun h => ⟨(hb2 h).1, fun y hy => by
                  rw [HTK.out, List.mem_append, List.mem_singleton] at hy
                  rcases hy with hy | hy
                  · exact (hb2 h).2 y hy
                  · rw [hy]; exact HID.out⟩)
                clear hb1 hb2 c1
                go_upto_region 15 with (fail)
                go_quiet (fail)
                have HB6 := Lib.hid (below_drewN HBa.out nq)
                have HR6 := Lib.hid (World.rowIs.of_block HRa.out (show (wa.drewN nq).heap[gw]? = wa.heap[gw]? from rfl))
                have HG6 := Lib.hid (show (wa.drewN nq).heap[w.heap.size]? = some _ from HGa.out)
                generalize wa.drewN nq = w6 at *
                clear e0 e1 e3 e4
                go_wp2_with fail
                go_roundw
                case rel => exact ⟨k + 1, L', b', by go_num, rfl, by omega, HX.out, HNX.out, HNY.out, HR6.out, HG6.out, HB6.out⟩
                case measure => simp [intOf]; omega
              have x1 : ((sn : Int) == c) = false := by rw [beq_eq_false_iff_ne]; exact c1
              by_cases c2 : L' dn < 0
              · have x2 : decide (L' dn < 0) = true := decide_eq_true c2
                have HID := Lib.hid (show Gr.idle c L' ⟨(sn : Int), (dn : Int), xp⟩ from .inr (.inl (by rw [Int.toNat_natCast]; exact c2)))
                have HNX := Lib.hid (show b' = true → Gr.pot N L' N < Gr.pot N L N from hb1)
                have HNY := Lib.hid (show b' = false → L' = L ∧ ∀ y ∈ g.es.take (k + 1), Gr.idle c L' y from fun h => ⟨(hb2 h).1, fun y hy => by
                  rw [HTK.out, List.mem_append, List.mem_singleton] at hy
                  rcases hy with hy | hy
                  · exact (hb2 h).2 y hy
                  · rw [hy]; exact HID.out⟩)
                clear hb1 hb2 c1 c2
                go_upto_region 15 with (fail)
                go_quiet (fail)
                have HB6 := Lib.hid (below_drewN HBa.out nq)
                have HR6 := Lib.hid (World.rowIs.of_block HRa.out (show (wa.drewN nq).heap[gw]? = wa.heap[gw]? from rfl))
                have HG6 := Lib.hid (show (wa.drewN nq).heap[w.heap.size]? = some _ from HGa.out)
                generalize wa.drewN nq = w6 at *
                clear e0 e1 e3 e4
                go_wp2_with fail
                go_roundw
                case rel => exact ⟨k + 1, L', b', by go_num, rfl, by omega, HX.out, HNX.out, HNY.out, HR6.out, HG6.out, HB6.out⟩
                case measure => simp [intOf]; omega
              have x2 : decide (L' dn < 0) = false := decide_eq_false c2
              by_cases c3 : 0 ≤ L' sn
              · have x3 : decide (0 ≤ L' sn) = true := decide_eq_true c3
                have HLD0 := Lib.hid (show L' dn + 1 ≤ 100000 from by have h := HX.out.bd dn; rw [HN.out] at h; omega)
                have hwr0 : IntKind.i64.wrap (L' dn + 1) = L' dn + 1 := IntWalk.i64_in _ (by have := HLD0.out; omega)
                by_cases c4 : L' sn ≤ L' dn + 1
                · have x4 : decide (L' sn ≤ L' dn + 1) = true := decide_eq_true c4
                  have HID := Lib.hid (show Gr.idle c L' ⟨(sn : Int), (dn : Int), xp⟩ from .inr (.inr (by rw [Int.toNat_natCast, Int.toNat_natCast]; exact ⟨c3, c4⟩)))
                  have HNX := Lib.hid (show b' = true → Gr.pot N L' N < Gr.pot N L N from hb1)
                  have HNY := Lib.hid (show b' = false → L' = L ∧ ∀ y ∈ g.es.take (k + 1), Gr.idle c L' y from fun h => ⟨(hb2 h).1, fun y hy => by
                    rw [HTK.out, List.mem_append, List.mem_singleton] at hy
                    rcases hy with hy | hy
                    · exact (hb2 h).2 y hy
                    · rw [hy]; exact HID.out⟩)
                  clear hb1 hb2 c1 c2 c3 c4
                  go_upto_region 15 with (fail)
                  go_quiet (fail)
                  have HB6 := Lib.hid (below_drewN HBa.out nq)
                  have HR6 := Lib.hid (World.rowIs.of_block HRa.out (show (wa.drewN nq).heap[gw]? = wa.heap[gw]? from rfl))
                  have HG6 := Lib.hid (show (wa.drewN nq).heap[w.heap.size]? = some _ from HGa.out)
                  generalize wa.drewN nq = w6 at *
                  clear e0 e1 e3 e4
                  go_wp2_with fail
                  go_roundw
                  case rel => exact ⟨k + 1, L', b', by go_num, rfl, by omega, HX.out, HNX.out, HNY.out, HR6.out, HG6.out, HB6.out⟩
                  case measure => simp [intOf]; omega
                · have x4 : decide (L' sn ≤ L' dn + 1) = false := decide_eq_false c4
                  clear hwr0
                  have HRX := Lib.hid (HX.out.relax HOk.out HM.out (show ¬ Gr.idle c L' ⟨(sn : Int), (dn : Int), xp⟩ from by unfold Gr.idle; rw [Int.toNat_natCast, Int.toNat_natCast]; rintro (h | h | h) <;> first | exact c1 h | exact c2 h | exact c4 h.2) rfl rfl)
                  have HNX := Lib.hid (show Gr.pot N (fun j => if j = sn then L' dn + 1 else L' j) N < Gr.pot N L N from by
                    have h := HRX.out.2.1
                    rw [HN.out] at h
                    cases b' with
                    | true => exact Nat.lt_trans h (hb1 rfl)
                    | false => rw [(hb2 rfl).1] at h ⊢; exact h)
                  have hld := HRX.out.2.2
                  have HLD := Lib.hid (show L' dn + 1 ≤ 100000 from by have h := HX.out.bd dn; rw [HN.out] at h; omega)
                  have hwr : IntKind.i64.wrap (L' dn + 1) = L' dn + 1 := IntWalk.i64_in _ (by have := HLD.out; omega)
                  clear hb1 hb2 c1 c2 c3 c4
                  go_upto_region 15 with (fail)
                  go_quiet (fail)
                  have HB6 := Lib.hid (below_drewN HBa.out nq)
                  have HR6 := Lib.hid (World.rowIs.of_block HRa.out (show (wa.drewN nq).heap[gw]? = wa.heap[gw]? from rfl))
                  have HG6 := Lib.hid (show (wa.drewN nq).heap[w.heap.size]? = some _ from HGa.out)
                  have f0 : (wa.drewN nq).cell? ⟨eb, 0, none⟩ = some (.int .i64 (sn : Int)) := e0
                  have f1 : (wa.drewN nq).cell? ⟨eb, 1, none⟩ = some (.int .i64 (dn : Int)) := e1
                  have f3 : (wa.drewN nq).cell? ⟨gw, dn, none⟩ = some (.int .i64 (L' dn)) := e3
                  have f4 : (wa.drewN nq).cell? ⟨gw, sn, none⟩ = some (.int .i64 (L' sn)) := e4
                  have f5 : (wa.drewN nq).frozen? ⟨gw, sn, none⟩ = false := HR6.out.frozen sn
                  generalize wa.drewN nq = w6 at *
                  clear e0 e1 e3 e4
                  go_upto_region 16 with (fail)
                  go_region
                  all_goals
                    go_wp2_with fail
                    refine ⟨⟨k + 1, _, true, by go_num, rfl, by omega, HRX.out.1, fun _ => HNX.out, fun h => (by cases h), World.rowIs.of_block ((HR6.out.set sn (.int .i64 (L' dn + 1))).congr fun i hi => ?_) rfl, ?_, (HB6.out.setCell (p := ⟨gw, sn, none⟩) HGW.out.1 _).drew⟩, by simp [intOf]; omega⟩
                    · by_cases e : i = sn
                      · rw [if_pos e, if_pos e]
                      · rw [if_neg e, if_neg e]
                    · exact (heap_setCell_other w6 ⟨gw, sn, none⟩ w.heap.size _ (show w.heap.size ≠ gw by have := HGW.out; omega)).trans HG6.out
              · have x3 : decide (0 ≤ L' sn) = false := decide_eq_false c3
                have HRX := Lib.hid (HX.out.relax HOk.out HM.out (show ¬ Gr.idle c L' ⟨(sn : Int), (dn : Int), xp⟩ from by unfold Gr.idle; rw [Int.toNat_natCast, Int.toNat_natCast]; rintro (h | h | h) <;> first | exact c1 h | exact c2 h | exact c3 h.1) rfl rfl)
                have HNX := Lib.hid (show Gr.pot N (fun j => if j = sn then L' dn + 1 else L' j) N < Gr.pot N L N from by
                  have h := HRX.out.2.1
                  rw [HN.out] at h
                  cases b' with
                  | true => exact Nat.lt_trans h (hb1 rfl)
                  | false => rw [(hb2 rfl).1] at h ⊢; exact h)
                have hld := HRX.out.2.2
                have HLD := Lib.hid (show L' dn + 1 ≤ 100000 from by have h := HX.out.bd dn; rw [HN.out] at h; omega)
                have hwr : IntKind.i64.wrap (L' dn + 1) = L' dn + 1 := IntWalk.i64_in _ (by have := HLD.out; omega)
                clear hb1 hb2 c1 c2 c3
                go_upto_region 15 with (fail)
                go_quiet (fail)
                have HB6 := Lib.hid (below_drewN HBa.out nq)
                have HR6 := Lib.hid (World.rowIs.of_block HRa.out (show (wa.drewN nq).heap[gw]? = wa.heap[gw]? from rfl))
                have HG6 := Lib.hid (show (wa.drewN nq).heap[w.heap.size]? = some _ from HGa.out)
                have f0 : (wa.drewN nq).cell? ⟨eb, 0, none⟩ = some (.int .i64 (sn : Int)) := e0
                have f1 : (wa.drewN nq).cell? ⟨eb, 1, none⟩ = some (.int .i64 (dn : Int)) := e1
                have f3 : (wa.drewN nq).cell? ⟨gw, dn, none⟩ = some (.int .i64 (L' dn)) := e3
                have f4 : (wa.drewN nq).cell? ⟨gw, sn, none⟩ = some (.int .i64 (L' sn)) := e4
                have f5 : (wa.drewN nq).frozen? ⟨gw, sn, none⟩ = false := HR6.out.frozen sn
                generalize wa.drewN nq = w6 at *
                clear e0 e1 e3 e4
                go_upto_region 16 with (fail)
                go_region
                all_goals
                  go_wp2_with fail
                  refine ⟨⟨k + 1, _, true, by go_num, rfl, by omega, HRX.out.1, fun _ => HNX.out, fun h => (by cases h), World.rowIs.of_block ((HR6.out.set sn (.int .i64 (L' dn + 1))).congr fun i hi => ?_) rfl, ?_, (HB6.out.setCell (p := ⟨gw, sn, none⟩) HGW.out.1 _).drew⟩, by simp [intOf]; omega⟩
                  · by_cases e : i = sn
                    · rw [if_pos e, if_pos e]
                    · rw [if_neg e, if_neg e]
                  · exact (heap_setCell_other w6 ⟨gw, sn, none⟩ w.heap.size _ (show w.heap.size ≠ gw by have := HGW.out; omega)).trans HG6.out
            · have b1 : decide ((k : Int) < (g.es.length : Int)) = false := decide_eq_false (by omega)
              have b1n : decide (k < g.es.length) = false := decide_eq_false hlt
              rw [List.take_of_length_le (by omega)] at hb2
              have HB1 := Lib.hid hb1
              have HB2 := Lib.hid hb2
              have HR := Lib.hid hrow
              have HGq := Lib.hid hG
              have HB := Lib.hid hb
              clear hb1 hb2 hrow hG hb
              go_wp2_with fail
              go_roundg (2 * Gr.pot N L' N + if b' = true then 1 else 0)
              case measure =>
                have h := HGK.out
                cases b' with
                | true => have := HB1.out rfl; simp at h ⊢; omega
                | false => have := (HB2.out rfl).1; subst this; simp at h ⊢; omega
              case rel => exact ⟨L', b', rfl, rfl, HX.out, fun h => (HB2.out h).2, HR.out, HGq.out, HB.out⟩
end Go.Proofs.Ytdiaejdoglccoaa
