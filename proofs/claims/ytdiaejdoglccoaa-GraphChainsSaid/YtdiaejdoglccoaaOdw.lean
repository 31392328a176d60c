/- Order. No condition but the lengths. -/
import Derived.Test.YtdiaejdoglccoaaEqi
namespace Go.Proofs.Ytdiaejdoglccoaa
open Go.RowKit Go.Deep Tr

namespace Gr
def nats (o : List Nat) : List Int := o.map fun n : Nat => (n : Int)
theorem nats_len (o : List Nat) : (nats o).length = o.length := List.length_map ..
theorem nats_app (o : List Nat) (n : Nat) : nats (o ++ [n]) = nats o ++ [(n : Int)] := by unfold nats; rw [List.map_append]; rfl
/-- What Order finds. -/
def Odr (g : Gph) (l : List Int) (e : Int) : Prop :=
  if chk g = 0 then (∀ o, kahn g.es g.ns.length g.ns.length [] = some o → l = nats o ∧ e = 0) ∧ (kahn g.es g.ns.length g.ns.length [] = none → l = [] ∧ e = 12) else l = [] ∧ e = 1
theorem find_none {E : List Ed} {N : Nat} {o : List Nat} (h : (List.range N).find? (rdy E o) = none) : ∀ m, m < N → rdy E o m = false := fun m hm => by
  rw [List.find?_eq_none] at h
  simpa using h m (List.mem_range.2 hm)
theorem find_some {E : List Ed} {N n : Nat} {o : List Nat} (h : (List.range N).find? (rdy E o) = some n) : n < N ∧ rdy E o n = true ∧ ∀ m, m < n → rdy E o m = false := by
  rw [List.find?_range_eq_some] at h
  exact ⟨by simpa using h.2.1, h.1, fun m hm => by simpa using h.2.2 m hm⟩
end Gr
/-- Two results: a list and an error. -/
def GotO (w : World) (Q : List Int → Int → Prop) : Ending → World → Prop := fun e w' => ∃ v ec, e = .returned (.tuple #[v, .int .i64 ec]) ∧ ∃ l, Q l ec ∧ w'.ownsRow w.heap.size 3 1 v l.length (Gr.insV l) ∧ Below w.heap.size w w'
set_option maxHeartbeats 16000000 in
set_option maxRecDepth 100000 in
theorem order_any (g : Gph) (A B : Option Addr) (c d : Nat) (w : World) (hA : GrAt w A B g) :
    Calls Try.prog 16 #[grV A B c d g] w (GotO w (Gr.Odr g)) := by
  obtain ⟨i0, hi0, hz0, hz1, hz2⟩ := info_parts infoIn
  have hb0 : Below w.heap.size w (w.alloc (grO A B c d g)) := (Below.refl _ _).alloc (Nat.le_refl _) _
  have hG := heap_alloc_new w (grO A B c d g)
  obtain ⟨W, hW⟩ : ∃ W, W = w.alloc (grO A B c d g) := ⟨_, rfl⟩
  rw [← hW] at hb0 hG
  obtain ⟨q0, q1⟩ := gb_cells hG
  have HA := Lib.hid hA
  have c1 := check_any g A B c d W (hA.next hb0)
  have HC := Lib.hid (fun (h : Gr.chk g = 0) => Gr.chk_ok h)
  have HN := Lib.hid (show ¬ Gr.chk g = 0 → Gr.Odr g [] 1 from fun h => by unfold Gr.Odr; rw [if_neg h]; exact ⟨rfl, rfl⟩)
  have HL := Lib.hid (show Gr.chk g = 0 → Gr.kahn g.es g.ns.length g.ns.length [] = none → Gr.Odr g [] 12 from fun h h2 => by unfold Gr.Odr; rw [if_pos h]; exact ⟨fun o ho => (by rw [h2] at ho; cases ho), fun _ => ⟨rfl, rfl⟩⟩)
  have HY := Lib.hid (show Gr.chk g = 0 → ∀ o, Gr.kahn g.es g.ns.length g.ns.length [] = some o → Gr.Odr g (Gr.nats o) 0 from fun h o h2 => by unfold Gr.Odr; rw [if_pos h]; exact ⟨fun o' ho => by rw [h2] at ho; injection ho with ho; subst ho; exact ⟨rfl, rfl⟩, fun hn => by rw [h2] at hn; cases hn⟩)
  clear hA
  go_enter Try.func16, Try.ntmps16
  go_upto_region 1 with (fail)
  rw [← hW]
  clear hW
  generalize Gr.chk g = z at *
  go_wp2_with fail
  with_reducible refine c1.mono ?_
  clear c1
  rintro e w1 ⟨rfl, hb1⟩
  have hG1 := (hb1.block w.heap.size (blk_lt hG)).trans hG
  have hb01 := hb0.trans (hb1.mono hb0.size)
  clear hb1 hb0 hG q0 q1
  by_cases hz : z = 0
  case neg =>
    have z1 : (z != 0) = true := by rw [bne_iff_ne]; exact hz
    have z2 : (z == 0) = false := by rw [beq_eq_false_iff_ne]; exact hz
    have HT := Lib.hid (HN.out hz)
    clear HN HC HY HL hz hG1
    go_wp2_with fail
    first | go_ret3 | go_ret2 | go_ret
    exact ⟨_, _, rfl, [], HT.out, World.ownsRow_nil _ _ _ _, hb01⟩
  have z1 : (z != 0) = false := by rw [hz]; rfl
  have z2 : (z == 0) = true := by rw [hz]; rfl
  have HOk := Lib.hid (HC.out hz)
  have HL2 := Lib.hid (HL.out hz)
  have HY2 := Lib.hid (HY.out hz)
  obtain ⟨q0, q1⟩ := gb_cells hG1
  have cw := ways_forward g A B c d w1 (HA.out.next hb01) HOk.out.nl HOk.out.el (HOk.out.ed true)
  clear HN HC HY HL hz
  go_wp2_with fail
  with_reducible refine cw.mono ?_
  clear cw
  rintro e w3 ⟨g0, rfl, hWs, hb3⟩
  have hG3 := (hb3.block w.heap.size (blk_lt hG1)).trans hG1
  have hb03 := hb01.trans (hb3.mono hb01.size)
  clear hb3 hb01 hG1 q0 q1
  have hnl := HOk.out.nl
  have hel := HOk.out.el
  have hmk : ∀ w' : World, (Instr.makeSlice 29 (.int .i64 (g.ns.length : Int)) (.int .i64 (g.ns.length : Int))).run Try.prog w' = .ok (.slice (some ⟨w'.heap.size, 0, none⟩) g.ns.length g.ns.length) (w'.alloc (.cells (madeCells #[.int .i64 0] g.ns.length) 3)) := fun w' =>
    run_make_row (P := Try.prog) 29 3 i0 (.int .i64 0) Try.underlying29 hi0 hz0 hz1 rfl .i64 .i64 g.ns.length (by rw [hz2]; omega) (by omega) w'
  have hr4 := World.rowIs_made w3 (.int .i64 0) g.ns.length 3
  have hb4 : Below w3.heap.size w3 (w3.alloc (.cells (madeCells #[.int .i64 0] g.ns.length) 3)) := (Below.refl _ _).alloc (Nat.le_refl _) _
  have hG4 := (hb4.block _ (blk_lt hG3)).trans hG3
  obtain ⟨q0, q1⟩ := gb_cells hG3
  go_upto_region 5 with (fail)
  generalize w3.alloc (.cells (madeCells #[.int .i64 0] g.ns.length) 3) = w4 at *
  obtain ⟨gw, hgw⟩ : ∃ x, x = w3.heap.size := ⟨_, rfl⟩
  rw [← hgw] at hr4 hb4 ⊢
  have HGW := Lib.hid hgw
  have HWs := Lib.hid hWs
  have HB03 := Lib.hid hb03
  have HG3 := Lib.hid hG3
  clear hgw hmk q0 q1 hWs hb03 hG3
  obtain ⟨q0, q1⟩ := gb_cells hG4
  clear hG4
  go_wp2_with fail
  clear q0 q1
  go_loopw [24] (fun s24 wr => ∃ k : Nat, s24 = .int .i64 k ∧ k ≤ g.es.length ∧ wr.rowIs gw 3 g.ns.length (fun m => .int .i64 (Gr.cnt (g.es.take k) [] m : Int)) ∧ Below gw w3 wr) (fun s24 _ => g.es.length - (intOf s24).toNat)
  case atStart => exact ⟨0, rfl, by omega, hr4, hb4⟩
  case round =>
    clear hr4 hb4
    obtain ⟨k, rfl, hk, hrow, hb⟩ := hrel
    have hbw : Below w.heap.size w wr := HB03.out.trans ((show Below w3.heap.size w3 wr by rw [← HGW.out]; exact hb).mono HB03.out.size)
    by_cases hlt : k < g.es.length
    · have b1 : decide ((k : Int) < (g.es.length : Int)) = true := decide_eq_true (by omega)
      have b1n : decide (k < g.es.length) = true := decide_eq_true hlt
      have y2 : (k : Int) < (g.es.length : Int) := by omega
      obtain ⟨gb, oo, rfl, hg, hc⟩ := HA.out.es k hlt
      have hd0 := (hbw.cell (p := ⟨gb, oo + k * 3, none⟩) hg).trans (hc 0 _ rfl)
      have hd1 := (hbw.cell (p := ⟨gb, oo + k * 3 + 1, none⟩) hg).trans (hc 1 _ rfl)
      have hd2 := (hbw.cell (p := ⟨gb, oo + k * 3 + 2, none⟩) hg).trans (hc 2 _ rfl)
      have hdst := HOk.out.ed false g.es[k] (List.getElem_mem hlt)
      have hca := fun m => Gr.cnt_app (g.es.take k) g.es[k] [] m
      rw [← List.take_succ_eq_append_getElem hlt] at hca
      have hcl := fun m => Nat.le_trans (Gr.cnt_le (g.es.take k) [] m) (show (g.es.take k).length ≤ 1024 by rw [List.length_take]; omega)
      have hd1' : g.es[k].dst = Gr.eA false g.es[k] := rfl
      obtain ⟨i, hi⟩ : ∃ i : Nat, g.es[k].dst = (i : Int) := ⟨g.es[k].dst.toNat, by omega⟩
      have hin : i < g.ns.length := by omega
      have HCA := Lib.hid (show ∀ m, Gr.cnt (g.es.take (k + 1)) [] m = if m = i then Gr.cnt (g.es.take k) [] i + 1 else Gr.cnt (g.es.take k) [] m from fun m => by
        rw [hca m, hi]
        by_cases e : m = i
        · rw [if_pos e, if_pos (by simp [e]), e]
        · rw [if_neg e, if_neg (by simp; omega)]; rfl)
      have HG := Lib.hid hg
      clear hc hca hdst hg hd1'
      generalize g.es[k] = x at *
      obtain ⟨xs, xd, xp⟩ := x
      dsimp only [] at hi
      subst hi
      generalize Gr.cnt (g.es.take k) [] = C at *
      have hcli := hcl i
      have hwr : IntKind.i64.wrap ((C i : Int) + 1) = (C i : Int) + 1 := IntWalk.i64_in _ (by omega)
      have y3 : (i : Int) < (g.ns.length : Int) := by omega
      have hra := hrow.alloc (edO ⟨xs, (i : Int), xp⟩)
      have hba := hb.alloc (show gw ≤ wr.heap.size by rw [HGW.out]; exact hb.size) (edO ⟨xs, (i : Int), xp⟩)
      clear hcl hbw
      go_upto_region 8 with (fail)
      have hxn := heap_alloc_new wr (edO ⟨xs, (i : Int), xp⟩)
      have e0 : (wr.alloc (edO ⟨xs, (i : Int), xp⟩)).cell? ⟨wr.heap.size, 1, none⟩ = some (.int .i64 i) := by rw [cell_of_row _ _ _ _ _ _ hxn]; rfl
      dsimp only [edO] at hra hba e0 ⊢
      generalize wr.alloc (.cells #[.int .i64 xs, .int .i64 (i : Int), .int .i64 xp] 42) = wa at *
      have e1 : wa.cell? ⟨gw, i, none⟩ = some (.int .i64 (C i : Int)) := hra.cell hin
      have e2 := hra.frozen i
      have HS := Lib.hid (hra.set i (.int .i64 ((C i : Int) + 1)))
      have HB := Lib.hid (hba.setCell (p := ⟨gw, i, none⟩) (Nat.le_refl _) (.int .i64 ((C i : Int) + 1)))
      clear hxn hra hba hrow hb hd0 hd1 hd2
      go_wp2_with fail
      go_roundw
      case rel => exact ⟨k + 1, by go_num, by omega, HS.out.congr fun m hm => by
        rw [HCA.out m]
        by_cases e : m = i
        · rw [if_pos e, if_pos e]; rfl
        · rw [if_neg e, if_neg e], HB.out⟩
      case measure => simp [intOf]; omega
    · have b1 : decide ((k : Int) < (g.es.length : Int)) = false := decide_eq_false (by omega)
      have b1n : decide (k < g.es.length) = false := decide_eq_false hlt
      rw [List.take_of_length_le (by omega)] at hrow
      have hG5 := (hb.block w.heap.size (by rw [HGW.out]; exact blk_lt HG3.out)).trans HG3.out
      obtain ⟨q0, q1⟩ := gb_cells hG5
      obtain ⟨Bc, hBc⟩ : ∃ x, x = wr.heap.size := ⟨_, rfl⟩
      have HBc := Lib.hid (show gw < Bc ∧ wr.heap.size = Bc ∧ w.heap.size ≤ gw from ⟨by rw [hBc]; exact hrow.lt, hBc.symm, by rw [HGW.out]; exact HB03.out.size⟩)
      clear hBc hG5 hbw
      obtain ⟨w5, rfl⟩ : ∃ x : World, x = wr := ⟨_, rfl⟩
      go_wp2_with fail
      clear q0 q1
      go_loopw [8, 39] (fun s8 s39 wr => ∃ (k : Nat) (o : List Nat) (V : Nat → Int), s39 = .int .i64 k ∧ k ≤ g.ns.length ∧ o.length = k ∧ Gr.kahn g.es g.ns.length g.ns.length [] = Gr.kahn g.es g.ns.length (g.ns.length - k) o ∧ Gr.Wts g.es g.ns.length o V ∧ wr.rowIs gw 3 g.ns.length (fun m => .int .i64 (V m)) ∧ wr.ownsRow Bc 3 1 s8 o.length (Gr.insV (Gr.nats o)) ∧ Below gw w3 wr ∧ Bc ≤ wr.heap.size) (fun _ s39 _ => g.ns.length - (intOf s39).toNat)
      case atStart => exact ⟨0, [], _, rfl, by omega, rfl, by rw [Nat.sub_zero], Gr.Wts.init, hrow, World.ownsRow_nil _ _ _ _, hb, by rw [HBc.out.2.1]; exact Nat.le_refl _⟩
      case round =>
        clear hrow hb
        obtain ⟨k, o, V, rfl, hk, hol, hka, hWt, hrow, hown, hb, hsz⟩ := hrel
        by_cases hlt : k < g.ns.length
        · have b2 : decide ((k : Int) < (g.ns.length : Int)) = true := decide_eq_true (by omega)
          have b2n : decide (k < g.ns.length) = true := decide_eq_true hlt
          have hks : Gr.kahn g.es g.ns.length (g.ns.length - k) o = Gr.kahn g.es g.ns.length ((g.ns.length - (k + 1)) + 1) o := by rw [show g.ns.length - k = g.ns.length - (k + 1) + 1 by omega]
          rcases hf : (List.range g.ns.length).find? (Gr.rdy g.es o) with _ | m
          · have hno := Gr.find_none hf
            have ci := indexMiss_any g.ns.length gw V wr hrow (by omega) (fun j hj hv => by
              have := (hWt.zero hj).1 hv
              rw [hno j hj] at this; cases this)
            have HR := Lib.hid (HL2.out (hka.trans (hks.trans (Gr.kahn_none hno))))
            have HB := Lib.hid (HB03.out.trans ((show Below w3.heap.size w3 wr by rw [← HGW.out]; exact hb).mono HB03.out.size))
            clear hf hno hks hka hWt hrow hown hb hol hsz
            go_wp2_with fail
            with_reducible refine ci.mono ?_
            clear ci
            rintro e w9 ⟨rfl, rfl⟩
            go_wp2_with fail
            first | go_ret3 | go_ret2 | go_ret
            exact ⟨_, _, rfl, [], HR.out, World.ownsRow_nil _ _ _ _, HB.out⟩
          · obtain ⟨hm, hrd, hfst⟩ := Gr.find_some hf
            have ci := indexHit_any g.ns.length gw m V wr hrow (by omega) hm ((hWt.zero hm).2 hrd) (fun j hj hv => by
              have := (hWt.zero (by omega)).1 hv
              rw [hfst j hj] at this; cases this)
            have HKA := Lib.hid (hka.trans (hks.trans (Gr.kahn_some hm hrd hfst)))
            have HTK := Lib.hid (fun i (hi : i < g.ns.length) => hWt.taken (n := m) hi)
            have HDN := Lib.hid (fun j (hj : ¬ j < (Gr.row true g.es m).length) => hWt.done hm hrd (fun x hx => (HOk.out.ed true x hx).1) hj)
            have y5 : (m : Int) < (g.ns.length : Int) := by omega
            have d5 : decide ((m : Int) < 0) = false := decide_eq_false (by omega)
            have HOL := Lib.hid hol
            have e5 : wr.cell? ⟨gw, m, none⟩ = some (.int .i64 (V m)) := hrow.cell hm
            have f5 := hrow.frozen m
            have hr6 := (hrow.set m (.int .i64 (-1))).congr (g := fun i => .int .i64 (Gr.wjt g.es o m 0 i)) fun i hi => by
              rw [← HTK.out i hi]
              by_cases e : i = m
              · rw [if_pos e, if_pos e]
              · rw [if_neg e, if_neg e]
            have hb6 := hb.setCell (p := ⟨gw, m, none⟩) (Nat.le_refl _) (.int .i64 (-1))
            have ho6 : (wr.setCell ⟨gw, m, none⟩ (.int .i64 (-1))).ownsRow Bc 3 1 _ o.length (Gr.insV (Gr.nats o)) := own_same hown fun q hq => heap_setCell_other wr ⟨gw, m, none⟩ q _ (show q ≠ gw by have := (hown.lt q hq).1; have := HBc.out.1; omega)
            have hs6 : Bc ≤ (wr.setCell ⟨gw, m, none⟩ (.int .i64 (-1))).heap.size := by simpa using hsz
            clear hf hrd hfst hks hka hWt hrow hown hb hsz
            go_wp2_with fail
            with_reducible refine ci.mono ?_
            clear ci
            rintro e w9 ⟨rfl, hw9⟩
            rw [hw9]
            clear hw9 w9
            go_upto_region 17 with (fail)
            generalize wr.setCell ⟨gw, m, none⟩ (.int .i64 (-1)) = w6 at *
            clear e5 f5
            have hoa := ho6.alloc (.cells #[.int .i64 m] 3)
            have hra := hr6.alloc (.cells #[.int .i64 m] 3)
            have hba := hb6.alloc (show gw ≤ w6.heap.size by rw [HGW.out]; exact hb6.size) (.cells #[.int .i64 m] 3)
            have hsa : Bc ≤ (w6.alloc (.cells #[.int .i64 m] 3)).heap.size := by simp; omega
            have hox : o.length ≤ 100000 := by omega
            obtain ⟨Ar, cr, hcr3, hat3⟩ := HWs.out.read hm
            have HG0 := Lib.hid (show g0 < gw by rw [HGW.out]; exact HWs.out.lt)
            have HC3 := Lib.hid hcr3
            have HAT := Lib.hid hat3
            have HOA := Lib.hid hoa
            have HRA := Lib.hid hra
            have HBA := Lib.hid hba
            clear hol hoa hra hba ho6 hr6 hb6 hcr3 hat3
            have HLT := Lib.hid hlt
            have HRB := Lib.hid ((HOk.out.rows true) m hm)
            have hrl := HRB.out.1
            go_wp2_with (at_builtin; refine wpList_append_own_wide _ (by rfl) _ _ 29 (by rfl) Bc 3 i0 _ 1 8 Try.underlying29 hi0 hz0 hz1 hz2 rfl (by omega) _ o.length _ (by rfl) HOA.out ⟨w6.heap.size, 0, none⟩ 1 1 [_] (by rfl) (by rfl) (World.news_of_block (cs := #[_]) (t := 3) (fr := (0, 0)) (heap_alloc_new w6 _)) (by simp [Value.oneCell']) (by unfold maxLen; omega) (by omega) hsa ?_; intro v7 w7 hown7 hgrow7 _; have HB7 := Lib.hid (below_grown HBA.out (show gw ≤ _ by rw [HGW.out]; exact HBA.out.size) (own_mono HOA.out (Nat.le_of_lt HBc.out.1)) hgrow7); have HR7 := Lib.hid (HRA.out.of_block (grown_below HOA.out hgrow7 HBc.out.1 HRA.out.lt)); have hcr := (HB7.out.cell (p := ⟨g0, m, none⟩) HG0.out).trans HC3.out; have HS7 := Lib.hid (Nat.le_trans hsa hgrow7.size); have HO7 := Lib.hid hown7; clear hgrow7 hown7)
            clear hsa hs6 hcr
            obtain ⟨wo7, rfl⟩ : ∃ x : World, x = w7 := ⟨_, rfl⟩
            go_loopw [57] (fun s57 wr => ∃ j : Nat, s57 = .int .i64 j ∧ j ≤ (Gr.row true g.es m).length ∧ wr.rowIs gw 3 g.ns.length (fun i => .int .i64 (Gr.wjt g.es o m j i)) ∧ wr.ownsRow Bc 3 1 v7 (o.length + 1) (Gr.insV (Gr.nats o) ++ [.int .i64 m]) ∧ Below gw w3 wr ∧ Bc ≤ wr.heap.size) (fun s57 _ => (Gr.row true g.es m).length - (intOf s57).toNat)
            case atStart => exact ⟨0, rfl, by omega, HR7.out, HO7.out, HB7.out, HS7.out⟩
            case round =>
              obtain ⟨j, rfl, hj, hrow, hown, hb, hsz⟩ := hrel
              by_cases hlt2 : j < (Gr.row true g.es m).length
              · have b3 : decide ((j : Int) < ((Gr.row true g.es m).length : Int)) = true := decide_eq_true (by omega)
                have b3n : decide (j < (Gr.row true g.es m).length) = true := decide_eq_true hlt2
                have y4 : (j : Int) < ((Gr.row true g.es m).length : Int) := by omega
                obtain ⟨g', o', rfl, hg', hc'⟩ := in_cell HAT.out hlt2
                have d1 := (hb.cell (p := ⟨g', o' + j, none⟩) (by rw [HGW.out]; exact hg')).trans hc'
                obtain ⟨b, hbb, hbn⟩ := HRB.out.2 _ (List.getElem_mem hlt2)
                rw [hbb] at d1
                have y6 : (b : Int) < (g.ns.length : Int) := by omega
                have e8 : wr.cell? ⟨gw, b, none⟩ = some (.int .i64 (Gr.wjt g.es o m j b)) := hrow.cell hbn
                have f8 := hrow.frozen b
                have hbd := Gr.wjt_bd g.es o m j b
                have HS := Lib.hid ((hrow.set b (.int .i64 (Gr.wjt g.es o m j b - 1))).congr (g := fun i => .int .i64 (Gr.wjt g.es o m (j + 1) i)) fun i hi => by
                  rw [← Gr.wjt_step hlt2 hbb i]
                  by_cases e : i = b
                  · rw [if_pos e, if_pos e, e]
                  · rw [if_neg e, if_neg e])
                have HO := Lib.hid (show (wr.setCell ⟨gw, b, none⟩ (.int .i64 (Gr.wjt g.es o m j b - 1))).ownsRow Bc 3 1 v7 (o.length + 1) (Gr.insV (Gr.nats o) ++ [.int .i64 m]) from own_same hown fun q hq => heap_setCell_other wr ⟨gw, b, none⟩ q _ (show q ≠ gw by have := (hown.lt q hq).1; have := HBc.out.1; omega))
                have HB := Lib.hid (hb.setCell (p := ⟨gw, b, none⟩) (Nat.le_refl _) (.int .i64 (Gr.wjt g.es o m j b - 1)))
                have HZ := Lib.hid (show Bc ≤ (wr.setCell ⟨gw, b, none⟩ (.int .i64 (Gr.wjt g.es o m j b - 1))).heap.size by simpa using hsz)
                generalize Gr.wjt g.es o m j b = vv at *
                have hwr : IntKind.i64.wrap (vv - 1) = vv - 1 := IntWalk.i64_in _ (by omega)
                clear hrow hown hb hc' hg' hbb hsz hbd
                go_wp2_with fail
                go_roundw
                case rel => exact ⟨j + 1, by go_num, by omega, HS.out, HO.out, HB.out, HZ.out⟩
                case measure => simp [intOf]; omega
              · have b3 : decide ((j : Int) < ((Gr.row true g.es m).length : Int)) = false := decide_eq_false (by omega)
                have b3n : decide (j < (Gr.row true g.es m).length) = false := decide_eq_false hlt2
                have HS := Lib.hid hrow
                have HO := Lib.hid hown
                have HB := Lib.hid hb
                have HZ := Lib.hid hsz
                have HW := Lib.hid (HDN.out j hlt2)
                clear hrow hown hb hsz
                go_wp2_with fail
                go_roundw
                case rel => exact ⟨k + 1, o ++ [m], _, by go_num, by have := HLT.out; omega, by rw [List.length_append, HOL.out]; rfl, HKA.out, HW.out, HS.out, by rw [List.length_append, List.length_singleton, Gr.nats_app, Gr.insV_app, Gr.insV_one]; exact HO.out, HB.out, HZ.out⟩
                case measure => have := HLT.out; simp [intOf]; omega
        · have b2 : decide ((k : Int) < (g.ns.length : Int)) = false := decide_eq_false (by omega)
          have b2n : decide (k < g.ns.length) = false := decide_eq_false hlt
          have HR := Lib.hid (HY2.out o (hka.trans (by rw [show g.ns.length - k = 0 by omega]; rfl)))
          have HO := Lib.hid (own_mono hown (show w.heap.size ≤ Bc by have := HBc.out; omega))
          have HB := Lib.hid (HB03.out.trans ((show Below w3.heap.size w3 wr by rw [← HGW.out]; exact hb).mono HB03.out.size))
          clear hka hWt hrow hown hb hol hsz
          go_wp2_with fail
          first | go_ret3 | go_ret2 | go_ret
          exact ⟨_, _, rfl, Gr.nats o, HR.out, by rw [Gr.nats_len]; exact HO.out, HB.out⟩
end Go.Proofs.Ytdiaejdoglccoaa
