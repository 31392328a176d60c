/- Depths. No condition but the lengths. -/
import Derived.Test.YtdiaejdoglccoaaOdw
namespace Go.Proofs.Ytdiaejdoglccoaa
open Go.RowKit Go.Deep Tr

namespace Gr
/-- What Depths finds. -/
def Dps (g : Gph) (l : List Int) (e : Int) : Prop :=
  if chk g = 0 then (∀ o, kahn g.es g.ns.length g.ns.length [] = some o → l = (List.range g.ns.length).map (dps g.es o) ∧ e = 0) ∧ (kahn g.es g.ns.length g.ns.length [] = none → l = [] ∧ e = 12) else l = [] ∧ e = 1
theorem odr_no {g : Gph} {l : List Int} {e : Int} (h : Odr g l e) (he : ¬ e = 0) : Dps g [] e := by
  unfold Odr at h
  unfold Dps
  by_cases hc : chk g = 0
  · rw [if_pos hc] at h ⊢
    exact ⟨fun o ho => absurd (h.1 o ho).2 he, fun hn => ⟨rfl, (h.2 hn).2⟩⟩
  · rw [if_neg hc] at h ⊢
    exact ⟨rfl, h.2⟩
theorem odr_yes {g : Gph} {l : List Int} {e : Int} (h : Odr g l e) (he : e = 0) : chk g = 0 ∧ ∃ o, kahn g.es g.ns.length g.ns.length [] = some o ∧ l = nats o := by
  unfold Odr at h
  by_cases hc : chk g = 0
  · rw [if_pos hc] at h
    cases hk : kahn g.es g.ns.length g.ns.length [] with
    | none => have := (h.2 hk).2; omega
    | some o => exact ⟨hc, o, rfl, (h.1 o hk).1⟩
  · rw [if_neg hc] at h
    have := h.2; omega
theorem dps_of {g : Gph} {o : List Nat} (h : chk g = 0) (hk : kahn g.es g.ns.length g.ns.length [] = some o) : Dps g ((List.range g.ns.length).map (dps g.es o)) 0 := by
  unfold Dps
  rw [if_pos h]
  exact ⟨fun o' ho => by rw [hk] at ho; injection ho with ho; rw [ho]; exact ⟨rfl, rfl⟩, fun hn => by rw [hk] at hn; cases hn⟩
end Gr
/-- A row of numbers of the call's own as a list where it lies. -/
theorem row_in {w : World} {g n : Nat} {W : Nat → Int} (h : w.rowIs g 3 n (fun i => .int .i64 (W i))) : Gr.InAt w w.heap.size (some ⟨g, 0, none⟩) ((List.range n).map W) := fun j hj => by
  have hj' : j < n := by simpa using hj
  refine ⟨g, 0, rfl, h.lt, fun i u hu => ?_⟩
  cases i with
  | zero =>
    simp only [Gr.inV, List.getElem_map, List.getElem_range, List.getElem?_cons_zero, Option.some.injEq] at hu
    subst hu
    rw [Nat.mul_one, Nat.zero_add, Nat.add_zero]
    exact h.cell hj'
  | succ i => simp [Gr.inV] at hu
/-- Two results: a list to read and an error. -/
def GotD (w : World) (Q : List Int → Int → Prop) : Ending → World → Prop := fun e w' => ∃ (A : Option Addr) (c : Nat) (l : List Int) (ec : Int), e = .returned (.tuple #[.slice A l.length c, .int .i64 ec]) ∧ Q l ec ∧ Gr.InAt w' w'.heap.size A l ∧ Below w.heap.size w w'
set_option maxHeartbeats 16000000 in
set_option maxRecDepth 100000 in
theorem depths_any (g : Gph) (A B : Option Addr) (c d : Nat) (w : World) (hA : GrAt w A B g) :
    Calls Try.prog 18 #[grV A B c d g] w (GotD w (Gr.Dps g)) := by
  obtain ⟨i0, hi0, hz0, hz1, hz2⟩ := info_parts infoIn
  have hb0 : Below w.heap.size w (w.alloc (grO A B c d g)) := (Below.refl _ _).alloc (Nat.le_refl _) _
  have hG := heap_alloc_new w (grO A B c d g)
  obtain ⟨W, hW⟩ : ∃ W, W = w.alloc (grO A B c d g) := ⟨_, rfl⟩
  rw [← hW] at hb0 hG
  obtain ⟨q0, q1⟩ := gb_cells hG
  have HA := Lib.hid hA
  have c1 := order_any g A B c d W (hA.next hb0)
  clear hA
  go_enter Try.func18, Try.ntmps18
  go_upto_region 1 with (fail)
  rw [← hW]
  clear hW
  go_wp2_with fail
  with_reducible refine c1.mono ?_
  clear c1
  rintro e w1 ⟨v, ec, rfl, l, hQ, hown, hb1⟩
  have hG1 := (hb1.block w.heap.size (blk_lt hG)).trans hG
  have hb01 := hb0.trans (hb1.mono hb0.size)
  clear hb1 hb0 hG q0 q1
  by_cases hz : ec = 0
  case neg =>
    have z1 : (ec != 0) = true := by rw [bne_iff_ne]; exact hz
    have z2 : (ec == 0) = false := by rw [beq_eq_false_iff_ne]; exact hz
    have HT := Lib.hid (Gr.odr_no hQ hz)
    clear hz hG1 hown hQ
    go_wp2_with fail
    first | go_ret3 | go_ret2 | go_ret
    exact ⟨none, 0, [], ec, rfl, HT.out, Gr.ElAt.nil _ _ _ _ _, hb01⟩
  have z1 : (ec != 0) = false := by rw [hz]; rfl
  have z2 : (ec == 0) = true := by rw [hz]; rfl
  obtain ⟨hchk, o, hka, rfl⟩ := Gr.odr_yes hQ hz
  have HOk := Lib.hid (Gr.chk_ok hchk)
  have HR := Lib.hid (Gr.dps_of hchk hka)
  have HTp := Lib.hid (Gr.kahn_ok hka)
  obtain ⟨Ao, co, rfl, _, _, hat⟩ := Gr.own_el Gr.inV 1 Gr.inV_len hown
  have HAT := Lib.hid hat
  obtain ⟨q0, q1⟩ := gb_cells hG1
  have cw := ways_forward g A B c d w1 (HA.out.next hb01) HOk.out.nl HOk.out.el (HOk.out.ed true)
  rw [Gr.nats_len]
  have HNM := Lib.hid HTp.out.len
  have HB01 := Lib.hid hb01
  clear hz hQ hown hat hka hchk
  go_wp2_with fail
  with_reducible refine cw.mono ?_
  clear cw
  rintro e w3 ⟨g0, rfl, hWs, hb3⟩
  have hG3 := (hb3.block w.heap.size (blk_lt hG1)).trans hG1
  have HB13 := Lib.hid hb3
  clear hb3 hb01 hG1 q0 q1
  have hnl := HOk.out.nl
  have hel := HOk.out.el
  have hmk : ∀ w' : World, (Instr.makeSlice 29 (.int .i64 (g.ns.length : Int)) (.int .i64 (g.ns.length : Int))).run Try.prog w' = .ok (.slice (some ⟨w'.heap.size, 0, none⟩) g.ns.length g.ns.length) (w'.alloc (.cells (madeCells #[.int .i64 0] g.ns.length) 3)) := fun w' =>
    run_make_row (P := Try.prog) 29 3 i0 (.int .i64 0) Try.underlying29 hi0 hz0 hz1 rfl .i64 .i64 g.ns.length (by rw [hz2]; omega) (by omega) w'
  have hr4 := World.rowIs_made w3 (.int .i64 0) g.ns.length 3
  have hb4 : Below w3.heap.size w3 (w3.alloc (.cells (madeCells #[.int .i64 0] g.ns.length) 3)) := (Below.refl _ _).alloc (Nat.le_refl _) _
  obtain ⟨q0, q1⟩ := gb_cells hG3
  go_upto_region 6 with (fail)
  generalize w3.alloc (.cells (madeCells #[.int .i64 0] g.ns.length) 3) = w4 at *
  obtain ⟨gw, hgw⟩ : ∃ x, x = w3.heap.size := ⟨_, rfl⟩
  rw [← hgw] at hr4 hb4 ⊢
  have HGW := Lib.hid hgw
  have HWs := Lib.hid hWs
  clear hgw hmk q0 q1 hWs hG3
  obtain ⟨N, hN⟩ : ∃ N, o.length = N := ⟨_, rfl⟩
  rw [hN] at HNM ⊢
  have HN := Lib.hid hN
  clear hN
  obtain ⟨M, hM⟩ : ∃ M, g.ns.length = M := ⟨_, rfl⟩
  rw [hM] at HNM hnl hr4 ⊢
  have HM := Lib.hid hM
  have hNl : N ≤ 1024 := by rw [HNM.out]; exact hnl
  clear hM
  go_wp2_with fail
  go_loopw [28] (fun s28 wr => ∃ k : Nat, s28 = .int .i64 k ∧ k ≤ N ∧ wr.rowIs gw 3 M (fun m => .int .i64 (Gr.dps g.es (o.take k) m)) ∧ Below gw w3 wr) (fun s28 _ => N - (intOf s28).toNat)
  case atStart => exact ⟨0, rfl, by omega, hr4, hb4⟩
  case round =>
    clear hr4 hb4
    obtain ⟨k, rfl, hk, hrow, hb⟩ := hrel
    by_cases hlt : k < N
    · have b1 : decide ((k : Int) < (N : Int)) = true := decide_eq_true (by omega)
      have b1n : decide (k < N) = true := decide_eq_true hlt
      have y2 : (k : Int) < (N : Int) := by omega
      have hko : k < o.length := by rw [HN.out]; exact hlt
      have hb1w : Below w1.heap.size w1 wr := HB13.out.trans ((show Below w3.heap.size w3 wr by rw [← HGW.out]; exact hb).mono HB13.out.size)
      obtain ⟨go, oo, rfl, hgo, hco⟩ := in_cell HAT.out (k := k) (by rw [Gr.nats_len]; exact hko)
      have d1 := (hb1w.cell (p := ⟨go, oo + k, none⟩) hgo).trans hco
      rw [show (Gr.nats o)[k]'(by rw [Gr.nats_len]; exact hko) = ((o[k] : Nat) : Int) by simp [Gr.nats]] at d1
      have hm : o[k] < g.ns.length := HTp.out.lt _ (List.getElem_mem hko)
      have HST := Lib.hid (Gr.dps_step g.es o k hko)
      have hbd := fun i => Gr.dps_bd g.es o k i
      have hkE : k * g.es.length ≤ 1048576 := Nat.le_trans (Nat.mul_le_mul (show k ≤ 1024 by omega) hel) (by omega)
      generalize o[k] = m at *
      generalize Gr.dps g.es (o.take k) = D at *
      obtain ⟨Ar, cr, hcr3, hat3⟩ := HWs.out.read hm
      have hg0 : g0 < gw := by rw [HGW.out]; exact HWs.out.lt
      have d2 := (hb.cell (p := ⟨g0, m, none⟩) hg0).trans hcr3
      have HRT := Lib.hid hat3
      have HRB := Lib.hid ((HOk.out.rows true) m hm)
      have hrl := HRB.out.1
      have hml : m < M := by rw [← HM.out]; exact hm
      have y5 : (m : Int) < (M : Int) := by omega
      have HBD := Lib.hid hbd
      have HKE := Lib.hid hkE
      have HLT := Lib.hid hlt
      clear hb1w hgo hco hm hcr3 hat3 hg0 hbd hkE
      have hr0 := hrow
      have hb0 := hb
      clear hrow hb
      go_wp2_with fail
      clear d1 d2
      obtain ⟨wo7, rfl⟩ : ∃ x : World, x = wr := ⟨_, rfl⟩
      go_loopw [37] (fun s37 wr => ∃ j : Nat, s37 = .int .i64 j ∧ j ≤ (Gr.row true g.es m).length ∧ wr.rowIs gw 3 M (fun i => .int .i64 (Gr.pshs m D ((Gr.row true g.es m).take j) i)) ∧ Below gw w3 wr) (fun s37 _ => (Gr.row true g.es m).length - (intOf s37).toNat)
      case atStart => exact ⟨0, rfl, by omega, hr0, hb0⟩
      case round =>
        clear hr0 hb0
        obtain ⟨j, rfl, hj, hrow, hb⟩ := hrel
        by_cases hlt2 : j < (Gr.row true g.es m).length
        · have b3 : decide ((j : Int) < ((Gr.row true g.es m).length : Int)) = true := decide_eq_true (by omega)
          have b3n : decide (j < (Gr.row true g.es m).length) = true := decide_eq_true hlt2
          have y4 : (j : Int) < ((Gr.row true g.es m).length : Int) := by omega
          obtain ⟨g', o', rfl, hg', hc'⟩ := in_cell HRT.out hlt2
          have d1 := (hb.cell (p := ⟨g', o' + j, none⟩) (by rw [HGW.out]; exact hg')).trans hc'
          obtain ⟨b, hbb, hbn⟩ := HRB.out.2 _ (List.getElem_mem hlt2)
          rw [hbb] at d1
          rw [HM.out] at hbn
          have y6 : (b : Int) < (M : Int) := by omega
          have HPS := Lib.hid (Gr.pshs_step m D (Gr.row true g.es m) j hlt2)
          have hbd2 := Gr.pshs_bd (n := m) ((Gr.row true g.es m).take j) HBD.out m
          have hbd3 : ((Gr.row true g.es m).take j).length ≤ 100000 := by rw [List.length_take]; omega
          have hke := HKE.out
          rw [hbb] at HPS
          generalize Gr.pshs m D ((Gr.row true g.es m).take j) = D2 at *
          have hwr : IntKind.i64.wrap (D2 m + 1) = D2 m + 1 := IntWalk.i64_in _ (by omega)
          have e8 : wr.cell? ⟨gw, b, none⟩ = some (.int .i64 (D2 b)) := hrow.cell hbn
          have e9 : wr.cell? ⟨gw, m, none⟩ = some (.int .i64 (D2 m)) := hrow.cell hml
          have f8 := hrow.frozen b
          have HRW := Lib.hid hrow
          have HB := Lib.hid hb
          clear hrow hb hc' hg' hbb hbd2 hbd3 hke
          go_upto_region 12 with (fail)
          clear d1
          go_region
          all_goals
            go_wp2_with fail
            refine ⟨⟨j + 1, by go_num, by omega, ?_, (HB.out.setCell (p := ⟨gw, b, none⟩) (Nat.le_refl _) _).drew⟩, by simp [intOf]; omega⟩
            refine World.rowIs.of_block ((HRW.out.set b (.int .i64 (max (D2 b) (D2 m + 1)))).congr fun i hi => ?_) rfl
            rw [HPS.out]
            unfold Gr.psh
            rw [Int.toNat_natCast]
            by_cases e : i = b
            · rw [if_pos e, if_pos e]
            · rw [if_neg e, if_neg e]
        · have b3 : decide ((j : Int) < ((Gr.row true g.es m).length : Int)) = false := decide_eq_false (by omega)
          have b3n : decide (j < (Gr.row true g.es m).length) = false := decide_eq_false hlt2
          rw [List.take_of_length_le (by omega)] at hrow
          have HS := Lib.hid hrow
          have HB := Lib.hid hb
          clear hrow hb
          go_wp2_with fail
          go_roundw
          case rel => exact ⟨k + 1, by go_num, by have := HLT.out; omega, by rw [HST.out]; exact HS.out, HB.out⟩
          case measure => have := HLT.out; simp [intOf]; omega
    · have b1 : decide ((k : Int) < (N : Int)) = false := decide_eq_false (by omega)
      have b1n : decide (k < N) = false := decide_eq_false hlt
      rw [List.take_of_length_le (by rw [HN.out]; omega)] at hrow
      have HI := Lib.hid (row_in hrow)
      have HB := Lib.hid (HB01.out.trans ((HB13.out.trans ((show Below w3.heap.size w3 wr by rw [← HGW.out]; exact hb).mono HB13.out.size)).mono HB01.out.size))
      clear hrow hb
      go_wp2_with fail
      first | go_ret3 | go_ret2 | go_ret
      exact ⟨some ⟨gw, 0, none⟩, M, (List.range M).map (Gr.dps g.es o), 0, (by rw [List.length_map, List.length_range]; rfl), by rw [← HM.out]; exact HR.out, HI.out, HB.out⟩
end Go.Proofs.Ytdiaejdoglccoaa
