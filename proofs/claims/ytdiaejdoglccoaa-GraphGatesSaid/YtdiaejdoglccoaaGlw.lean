/- The law GraphGates. No condition but the lengths. -/
import Derived.Test.YtdiaejdoglccoaaGpl
import Derived.Test.YtdiaejdoglccoaaSrd
namespace Go.Proofs.Ytdiaejdoglccoaa
open Go.RowKit Go.Deep Tr

theorem infoEdg : (Try.prog.info? 42).map (fun i => (i.zero, i.size, i.bytes)) = some (some (.agg #[.int .i64 0, .int .i64 0, .int .i64 0]), 3, 24) := by kernel_rfl
theorem Gr.edsV_app (a b : List Ed) : Gr.edsV (a ++ b) = Gr.edsV a ++ Gr.edsV b := List.flatMap_append
/-- The block of a graph with a slice of edges of the call's own. -/
abbrev leO (A : Option Addr) (n c : Nat) (v : Value) : Obj := .cells #[.slice A n c, v] 25
set_option maxHeartbeats 16000000 in
set_option maxRecDepth 100000 in
theorem gates_law (g : Gph) (f t : Int) (A B : Option Addr) (c d : Nat) (w : World) (hA : GrAt w A B g) :
    Calls Try.prog 8 #[grV A B c d g, .int .i64 f, .int .i64 t] w fun e w' => e = .returned (.bool true) ∧ Below w.heap.size w w' := by
  have hb0 : Below w.heap.size w (w.alloc (grO A B c d g)) := (Below.refl _ _).alloc (Nat.le_refl _) _
  have hG := heap_alloc_new w (grO A B c d g)
  obtain ⟨W, hW⟩ : ∃ W, W = w.alloc (grO A B c d g) := ⟨_, rfl⟩
  rw [← hW] at hb0 hG
  have HA := Lib.hid hA
  have HG0 := Lib.hid hG
  have HB0 := Lib.hid hb0
  have c1 := awake_any W
  clear hA hG hb0
  go_enter Try.func8, Try.ntmps8
  go_upto_region 1 with (fail)
  rw [← hW]
  clear hW
  go_wp2_with fail
  with_reducible refine c1.mono ?_
  clear c1
  rintro e w1 ⟨rfl, hb1⟩
  have HG1 := Lib.hid ((hb1.block _ (blk_lt HG0.out)).trans HG0.out)
  have HB1 := Lib.hid (HB0.out.trans (hb1.mono HB0.out.size))
  clear hb1 HG0 HB0
  have c2 := few_any g A B c d w1 (HA.out.next HB1.out)
  obtain ⟨q0, q1⟩ := gb_cells HG1.out
  go_wp2_with fail
  with_reducible refine c2.mono ?_
  clear c2 q0 q1
  rintro e w2 ⟨b, rfl, hb2⟩
  have HG2 := Lib.hid ((hb2.block _ (blk_lt HG1.out)).trans HG1.out)
  have HB2 := Lib.hid (HB1.out.trans (hb2.mono HB1.out.size))
  clear hb2 HG1 HB1
  obtain ⟨q0, q1⟩ := gb_cells HG2.out
  cases b with
  | false =>
    go_wp2_with fail
    go_ret
    exact ⟨rfl, HB2.out⟩
  | true =>
  have c3 := check_any g A B c d w2 (HA.out.next HB2.out)
  obtain ⟨z, hz⟩ : ∃ z, Gr.chk g = z := ⟨_, rfl⟩
  rw [hz] at c3
  have HZ := Lib.hid hz
  clear hz
  go_wp2_with fail
  with_reducible refine c3.mono ?_
  clear c3 q0 q1
  rintro e w3 ⟨rfl, hb3⟩
  have HG3 := Lib.hid ((hb3.block _ (blk_lt HG2.out)).trans HG2.out)
  have HB3 := Lib.hid (HB2.out.trans (hb3.mono HB2.out.size))
  clear hb3 HG2 HB2
  obtain ⟨q0, q1⟩ := gb_cells HG3.out
  by_cases hz0 : z = 0
  case neg =>
    have z1 : (z != 0) = true := by rw [bne_iff_ne]; exact hz0
    have z2 : (z == 0) = false := by rw [beq_eq_false_iff_ne]; exact hz0
    clear hz0
    go_wp2_with fail
    go_ret
    exact ⟨rfl, HB3.out⟩
  have z1 : (z != 0) = false := by rw [hz0]; rfl
  have z2 : (z == 0) = true := by rw [hz0]; rfl
  have HCk := Lib.hid (HZ.out.trans hz0)
  have HOk := Lib.hid (Gr.chk_ok HCk.out)
  clear hz0 HZ
  by_cases h1 : f < 0
  · have d1 : decide (f < 0) = true := decide_eq_true h1
    clear h1
    go_wp2_with fail
    go_ret
    exact ⟨rfl, HB3.out⟩
  by_cases h2 : (g.ns.length : Int) ≤ f
  · have d1 : decide (f < 0) = false := decide_eq_false h1
    have d2 : decide ((g.ns.length : Int) ≤ f) = true := decide_eq_true h2
    clear h1 h2
    go_wp2_with fail
    go_ret
    exact ⟨rfl, HB3.out⟩
  obtain ⟨fn, rfl⟩ : ∃ n : Nat, f = (n : Int) := ⟨f.toNat, by omega⟩
  have hfl : fn < g.ns.length := by omega
  have d1 : decide ((fn : Int) < 0) = false := decide_eq_false h1
  have d2 : decide ((g.ns.length : Int) ≤ (fn : Int)) = false := decide_eq_false h2
  have d2n : decide (g.ns.length ≤ fn) = false := decide_eq_false (by omega)
  clear h1 h2
  by_cases h1 : t < 0
  · have d3 : decide (t < 0) = true := decide_eq_true h1
    clear h1
    go_wp2_with fail
    go_ret
    exact ⟨rfl, HB3.out⟩
  by_cases h2 : (g.ns.length : Int) ≤ t
  · have d3 : decide (t < 0) = false := decide_eq_false h1
    have d4 : decide ((g.ns.length : Int) ≤ t) = true := decide_eq_true h2
    clear h1 h2
    go_wp2_with fail
    go_ret
    exact ⟨rfl, HB3.out⟩
  obtain ⟨tn, rfl⟩ : ∃ n : Nat, t = (n : Int) := ⟨t.toNat, by omega⟩
  have htl : tn < g.ns.length := by omega
  have d3 : decide ((tn : Int) < 0) = false := decide_eq_false h1
  have d4 : decide ((g.ns.length : Int) ≤ (tn : Int)) = false := decide_eq_false h2
  have d4n : decide (g.ns.length ≤ tn) = false := decide_eq_false (by omega)
  have HF := Lib.hid (show Gr.isN g (fn : Int) = true by unfold Gr.isN; rw [Bool.and_eq_true, decide_eq_true_eq, decide_eq_true_eq]; omega)
  have HT := Lib.hid (show Gr.isN g (tn : Int) = true by unfold Gr.isN; rw [Bool.and_eq_true, decide_eq_true_eq, decide_eq_true_eq]; omega)
  clear h1 h2
  obtain ⟨i0, hi0, hz0, hz1, hz2⟩ := info_parts infoEdg
  have c4 := gates_any g (fn : Int) (tn : Int) A B c d w3 (HA.out.next HB3.out)
  go_wp2_with fail
  with_reducible refine c4.mono ?_
  clear c4 q0 q1 d1 d2 d2n d3 d4 d4n z1 z2
  rintro e w4 ⟨v, rfl, l, hC, hown, hb4⟩
  have HG4 := Lib.hid ((hb4.block _ (blk_lt HG3.out)).trans HG3.out)
  have HB4 := Lib.hid (HB3.out.trans (hb4.mono HB3.out.size))
  obtain ⟨Al, cl, rfl, hlc, hcm, hat⟩ := Gr.own_el Gr.inV 1 Gr.inV_len hown
  have HC := Lib.hid hC
  have HI4 := Lib.hid hat
  have hll := (Gr.gts_sorted hC).2
  have hel := HOk.out.el
  have hnl := HOk.out.nl
  clear hb4 HG3 HB3 hC hown hat hlc hcm
  have c5 := chain_any g (fn : Int) (tn : Int) A B c d w4 (HA.out.next HB4.out)
  obtain ⟨q0, q1⟩ := gb_cells HG4.out
  go_wp2_with fail
  with_reducible refine c5.mono ?_
  clear c5 q0 q1
  rintro e w5 ⟨v5, ok, rfl, l5, hC5, hown5, hb5⟩
  have HG5 := Lib.hid ((hb5.block _ (blk_lt HG4.out)).trans HG4.out)
  have HB5 := Lib.hid (HB4.out.trans (hb5.mono HB4.out.size))
  have HI5 := Lib.hid (HI4.out.next hb5)
  obtain ⟨A5, k5, rfl, _, _, _⟩ := Gr.own_el Gr.inV 1 Gr.inV_len hown5
  have HC5 := Lib.hid hC5
  clear hb5 HG4 HB4 HI4 hC5 hown5
  cases ok with
  | false =>
    obtain rfl := HC.out.2 (Gr.chn_no HC5.out)
    rw [show ([] : List Int).length = 0 from rfl]
    go_wp2_with fail
    go_ret
    exact ⟨rfl, HB5.out⟩
  | true =>
  have HLed := Lib.hid (Gr.chn_ok HC5.out)
  obtain ⟨q0, q1⟩ := gb_cells HG5.out
  clear HC5
  go_wp2_with fail
  clear q0 q1
  go_loopw [67] (fun s67 wr => ∃ k : Nat, s67 = .int .i64 k ∧ k ≤ g.ns.length ∧ wr.heap[w.heap.size]? = some (grO A B c d g) ∧ Gr.InAt wr wr.heap.size Al l ∧ Below w.heap.size w wr) (fun s67 _ => g.ns.length - (intOf s67).toNat)
  case atStart => exact ⟨0, rfl, by omega, HG5.out, HI5.out, HB5.out⟩
  case round =>
    obtain ⟨k, rfl, hk, hG, hI, hb⟩ := hrel
    by_cases hlt : k < g.ns.length
    · have b1 : decide ((k : Int) < (g.ns.length : Int)) = true := decide_eq_true (by omega)
      have b1n : decide (k < g.ns.length) = true := decide_eq_true hlt
      obtain ⟨q0, q1⟩ := gb_cells hG
      have hGa := (blk_alloc_lt wr (leO A g.ns.length c (.slice none 0 0)) _ (blk_lt hG)).trans hG
      have hxn := heap_alloc_new wr (leO A g.ns.length c (.slice none 0 0))
      have hsa : (wr.alloc (leO A g.ns.length c (.slice none 0 0))).heap.size = wr.heap.size + 1 := by simp
      have hbx : Below wr.heap.size wr (wr.alloc (leO A g.ns.length c (.slice none 0 0))) := (Below.refl _ _).alloc (Nat.le_refl _) _
      have hgl := blk_lt hG
      go_upto_region 13 with (fail)
      generalize wr.alloc (leO A g.ns.length c (.slice none 0 0)) = wa at *
      obtain ⟨lb, hlb⟩ : ∃ x, x = wr.heap.size := ⟨_, rfl⟩
      rw [← hlb] at hxn hsa hgl ⊢
      obtain ⟨Bc, hBc⟩ : ∃ x, x = wa.heap.size := ⟨_, rfl⟩
      rw [← hBc] at hsa
      have HN := Lib.hid (show w.heap.size < lb ∧ lb < Bc ∧ wa.heap.size = Bc from ⟨hgl, by omega, hBc.symm⟩)
      obtain ⟨w00, rfl⟩ : ∃ x : World, x = wr := ⟨_, rfl⟩
      have HLB := Lib.hid hlb
      have HI0 := Lib.hid (show Gr.InAt w00 lb Al l by rw [hlb]; exact hI)
      have HG0 := Lib.hid hG
      have HB0 := Lib.hid hb
      have hb0 : Below lb w00 wa := by rw [hlb]; exact hbx
      have HLT := Lib.hid hlt
      clear q0 q1 hlb hBc hsa hgl hG hb hI hbx
      obtain ⟨q0, q1⟩ := gb_cells hGa
      clear hGa
      go_wp2_with fail
      clear q0 q1
      go_loopw [76] (fun s76 wr => ∃ (j : Nat) (sv : Value), s76 = .int .i64 j ∧ j ≤ g.es.length ∧ wr.heap[lb]? = some (leO A g.ns.length c sv) ∧ wr.ownsRow Bc 42 3 sv ((g.es.take j).filter (Gr.off k)).length (Gr.edsV ((g.es.take j).filter (Gr.off k))) ∧ Below lb w00 wr ∧ Bc ≤ wr.heap.size) (fun s76 _ => g.es.length - (intOf s76).toNat)
      case atStart => exact ⟨0, _, rfl, by omega, hxn, World.ownsRow_nil _ _ _ _, hb0, by rw [HN.out.2.2]; exact Nat.le_refl _⟩
      case round =>
        clear hxn hb0
        obtain ⟨j, sv, rfl, hj, hle, hown, hb, hsz⟩ := hrel
        have hbw := HB0.out.trans (hb.mono (show w.heap.size ≤ lb by have := HN.out; omega))
        by_cases hlt2 : j < g.es.length
        · have b2 : decide ((j : Int) < (g.es.length : Int)) = true := decide_eq_true (by omega)
          have b2n : decide (j < g.es.length) = true := decide_eq_true hlt2
          have y2 : (j : Int) < (g.es.length : Int) := by omega
          obtain ⟨gb, oo, rfl, hg, hc⟩ := HA.out.es j hlt2
          have hd0 := (hbw.cell (p := ⟨gb, oo + j * 3, none⟩) hg).trans (hc 0 _ rfl)
          have hd1 := (hbw.cell (p := ⟨gb, oo + j * 3 + 1, none⟩) hg).trans (hc 1 _ rfl)
          have hd2 := (hbw.cell (p := ⟨gb, oo + j * 3 + 2, none⟩) hg).trans (hc 2 _ rfl)
          have hfs : (g.es.take (j + 1)).filter (Gr.off k) = if Gr.off k g.es[j] = true then (g.es.take j).filter (Gr.off k) ++ [g.es[j]] else (g.es.take j).filter (Gr.off k) := by
            rw [List.take_succ_eq_append_getElem hlt2, List.filter_append]
            by_cases h : Gr.off k g.es[j] = true
            · rw [if_pos h, List.filter_cons_of_pos h]; rfl
            · rw [if_neg h, List.filter_cons_of_neg h]; simp
          have hTl : ((g.es.take j).filter (Gr.off k)).length ≤ 1024 := Nat.le_trans (List.length_filter_le _ _) (by rw [List.length_take]; omega)
          have HFS := Lib.hid hfs
          clear hfs hc hg hbw
          generalize g.es[j] = x at *
          generalize (g.es.take j).filter (Gr.off k) = T at *
          obtain ⟨xs, xd, xp⟩ := x
          dsimp only [] at hd0 hd1 hd2
          have hba := hb.alloc (show lb ≤ wr.heap.size by have := HN.out; omega) (edO ⟨xs, xd, xp⟩)
          have hla := (blk_alloc_lt wr (edO ⟨xs, xd, xp⟩) _ (blk_lt hle)).trans hle
          have hoa := hown.alloc (edO ⟨xs, xd, xp⟩)
          have hxn := heap_alloc_new wr (edO ⟨xs, xd, xp⟩)
          have hsa : Bc ≤ (wr.alloc (edO ⟨xs, xd, xp⟩)).heap.size := by simp; omega
          clear hle hown hb
          go_upto_region 16 with (fail)
          dsimp only [edO] at hba hla hoa hxn hsa ⊢
          generalize wr.alloc (.cells #[.int .i64 xs, .int .i64 xd, .int .i64 xp] 42) = wa2 at *
          generalize wr.heap.size = eb at *
          have e0 : wa2.cell? ⟨eb, 0, none⟩ = some (.int .i64 xs) := by rw [cell_of_row _ _ _ _ _ _ hxn]; rfl
          have e1 : wa2.cell? ⟨eb, 1, none⟩ = some (.int .i64 xd) := by rw [cell_of_row _ _ _ _ _ _ hxn]; rfl
          have e2 : wa2.cell? ⟨eb, 2, none⟩ = some (.int .i64 xp) := by rw [cell_of_row _ _ _ _ _ _ hxn]; rfl
          clear hxn hd0 hd1 hd2
          by_cases h1 : xs = (k : Int)
          · have f1 : (xs != (k : Int)) = false := by rw [h1]; simp
            have HT := Lib.hid (show (g.es.take (j + 1)).filter (Gr.off k) = T by rw [HFS.out, if_neg]; rw [Gr.off_iff]; exact fun h => h.1 h1)
            have HS := Lib.hid (And.intro hla (And.intro hoa (And.intro hba hsa)))
            clear hla hoa hba hsa h1 HFS e2
            go_wp2_with fail
            go_roundw
            case rel => exact ⟨j + 1, sv, by go_num, by omega, HS.out.1, by rw [HT.out]; exact HS.out.2.1, HS.out.2.2.1, HS.out.2.2.2⟩
            case measure => simp [intOf]; omega
          · have f1 : (xs != (k : Int)) = true := by rw [bne_iff_ne]; exact h1
            by_cases h2 : xd = (k : Int)
            · have f2 : (xd != (k : Int)) = false := by rw [h2]; simp
              have HT := Lib.hid (show (g.es.take (j + 1)).filter (Gr.off k) = T by rw [HFS.out, if_neg]; rw [Gr.off_iff]; exact fun h => h.2 h2)
              have HS := Lib.hid (And.intro hla (And.intro hoa (And.intro hba hsa)))
              clear hla hoa hba hsa h1 h2 HFS e2
              go_wp2_with fail
              go_roundw
              case rel => exact ⟨j + 1, sv, by go_num, by omega, HS.out.1, by rw [HT.out]; exact HS.out.2.1, HS.out.2.2.1, HS.out.2.2.2⟩
              case measure => simp [intOf]; omega
            · have f2 : (xd != (k : Int)) = true := by rw [bne_iff_ne]; exact h2
              have HT := Lib.hid (show (g.es.take (j + 1)).filter (Gr.off k) = T ++ [⟨xs, xd, xp⟩] by rw [HFS.out, if_pos]; rw [Gr.off_iff]; exact ⟨h1, h2⟩)
              have l1 : wa2.cell? ⟨lb, 1, none⟩ = some sv := by rw [cell_of_row _ _ _ _ _ _ hla]; rfl
              have hsz2 : Bc ≤ (wa2.alloc (.cells #[.int .i64 xs, .int .i64 xd, .int .i64 xp] 42)).heap.size := by simp; omega
              have HOA := Lib.hid (hoa.alloc (.cells #[.int .i64 xs, .int .i64 xd, .int .i64 xp] 42))
              have HLA := Lib.hid ((blk_alloc_lt wa2 (.cells #[.int .i64 xs, .int .i64 xd, .int .i64 xp] 42) _ (blk_lt hla)).trans hla)
              have HBA := Lib.hid (hba.alloc (show lb ≤ wa2.heap.size by have := HN.out; omega) (.cells #[.int .i64 xs, .int .i64 xd, .int .i64 xp] 42))
              clear hla hoa hba h1 h2 HFS
              go_wp2_with (at_builtin; refine wpList_append_own_wide _ (by rfl) _ _ 23 (by rfl) Bc 42 i0 _ 3 24 Try.underlying23 hi0 hz0 hz1 hz2 rfl (by omega) _ T.length _ (by rfl) HOA.out ⟨wa2.heap.size, 0, none⟩ 1 1 [_, _, _] (by rfl) (by rfl) (World.news_of_block (cs := #[_, _, _]) (t := 42) (fr := (0, 0)) (heap_alloc_new wa2 _)) (by simp [Value.oneCell']) (by unfold maxLen; omega) (by omega) hsz2 ?_; intro v7 w7 hown7 hgrow7 _; have h7 : w7.ownsRow Bc 42 3 v7 (T ++ [(⟨xs, xd, xp⟩ : Ed)]).length ((T ++ [(⟨xs, xd, xp⟩ : Ed)]).flatMap Gr.edV) := (by rw [List.length_append, List.length_singleton, List.flatMap_append]; exact hown7); have hform := Gr.own_el Gr.edV 3 Gr.edV_len h7; obtain ⟨A7, k7, rfl, _, _, _⟩ := hform; have HL7 := Lib.hid ((grown_below HOA.out hgrow7 HN.out.2.1 (blk_lt HLA.out)).trans HLA.out); have HB7 := Lib.hid (below_grown HBA.out (Nat.le_trans (Nat.le_of_lt HN.out.2.1) hsz2) (own_mono HOA.out (Nat.le_of_lt HN.out.2.1)) hgrow7); have HS7 := Lib.hid (Nat.le_trans hsz2 hgrow7.size); have HO7 := Lib.hid (show w7.ownsRow Bc 42 3 (.slice A7 (T.length + 1) k7) (T.length + 1) (Gr.edsV (T ++ [(⟨xs, xd, xp⟩ : Ed)])) from (by have h8 := h7; rw [List.length_append, List.length_singleton] at h8; exact h8)); have l7 : w7.cell? ⟨lb, 1, none⟩ = some sv := (by rw [cell_of_row _ _ _ _ _ _ HL7.out]; rfl); have f7 := frozen_of_row w7 lb 1 _ _ HL7.out; clear hgrow7 hown7 h7)
              have HL8 := Lib.hid (heap_setCell_same w7 lb 1 _ _ (.slice A7 (T.length + 1) k7) HL7.out)
              have HO8 := Lib.hid (show (w7.setCell ⟨lb, 1, none⟩ (.slice A7 (T.length + 1) k7)).ownsRow Bc 42 3 (.slice A7 (T.length + 1) k7) (T.length + 1) _ from own_same HO7.out fun q hq => heap_setCell_other w7 ⟨lb, 1, none⟩ q _ (show q ≠ lb by have := (HO7.out.lt q hq).1; have := HN.out; omega))
              have HB8 := Lib.hid (HB7.out.setCell (p := ⟨lb, 1, none⟩) (Nat.le_refl _) (.slice A7 (T.length + 1) k7))
              have HS8 := Lib.hid (show Bc ≤ (w7.setCell ⟨lb, 1, none⟩ (.slice A7 (T.length + 1) k7)).heap.size by simpa using HS7.out)
              clear l7 f7 l1 hsz2 hsa
              go_wp2_with fail
              go_roundw
              case rel => exact ⟨j + 1, _, by go_num, by omega, HL8.out, by rw [HT.out, List.length_append, List.length_singleton]; exact HO8.out, HB8.out, HS8.out⟩
              case measure => simp [intOf]; omega
        · have b2 : decide ((j : Int) < (g.es.length : Int)) = false := decide_eq_false (by omega)
          have b2n : decide (j < g.es.length) = false := decide_eq_false hlt2
          rw [List.take_of_length_le (by omega)] at hown
          obtain ⟨A2, c2, rfl, hk2, hm2, hat2⟩ := Gr.own_el Gr.edV 3 Gr.edV_len hown
          have hle2 : wr.heap[lb]? = some (grO A A2 c c2 (Gr.less g k)) := hle
          have hGr : GrAt wr A A2 (Gr.less g k) := ⟨(HA.out.next hbw).ns, hat2, HA.out.nl, Nat.le_trans (List.length_filter_le _ _) HA.out.el⟩
          have c6 := chain_any (Gr.less g k) (fn : Int) (tn : Int) A A2 c c2 wr hGr
          obtain ⟨q0, q1⟩ := gb_cells hle2
          rw [show grV A A2 c c2 (Gr.less g k) = .agg #[.slice A g.ns.length c, .slice A2 (g.es.filter (Gr.off k)).length c2] from rfl] at c6
          rw [show (Gr.less g k).ns.length = g.ns.length from rfl] at q0
          rw [show (Gr.less g k).es.length = (g.es.filter (Gr.off k)).length from rfl] at q1
          have HGq := Lib.hid ((hb.block _ HN.out.1).trans HG0.out)
          have HBq := Lib.hid hbw
          have HIq := Lib.hid (show Gr.InAt wr wr.heap.size Al l from (HI0.out.keep hb).mono (by have := HN.out; omega))
          clear hle hown hb hsz hbw hk2 hm2 hat2 hle2 hGr
          go_wp2_with fail
          with_reducible refine c6.mono ?_
          clear c6 q0 q1
          rintro e w6 ⟨v6, ok, rfl, l6, hC6, hown6, hb6⟩
          obtain ⟨A6, c6, rfl, _, _, _⟩ := Gr.own_el Gr.inV 1 Gr.inV_len hown6
          have HG6 := Lib.hid ((hb6.block _ (blk_lt HGq.out)).trans HGq.out)
          have HB6 := Lib.hid (HBq.out.trans (hb6.mono HBq.out.size))
          have HI6 := Lib.hid (HIq.out.next hb6)
          have c7 := containsIn_any l (k : Int) Al cl w6 HI6.out (by omega)
          rw [Gr.gate_at HCk.out HF.out HT.out HLT.out HLed.out HC.out hC6] at c7
          clear hC6 hown6 hb6 HGq HBq HIq
          by_cases e1 : k = fn
          · have x1 : ((k : Int) == (fn : Int)) = true := by rw [e1]; simp
            rw [show (decide (k = fn) || decide (k = tn) || !ok) = true by rw [decide_eq_true e1]; rfl] at c7
            clear e1
            go_wp2_with fail
            with_reducible refine c7.mono ?_
            clear c7
            rintro e w8 ⟨rfl, hw8⟩
            rw [hw8]
            clear hw8 w8
            go_wp2_with fail
            go_roundw
            case rel => exact ⟨k + 1, by go_num, by have := HLT.out; omega, HG6.out, HI6.out, HB6.out⟩
            case measure => have := HLT.out; simp [intOf]; omega
          have x1 : ((k : Int) == (fn : Int)) = false := by rw [beq_eq_false_iff_ne]; omega
          by_cases e2 : k = tn
          · have x2 : ((k : Int) == (tn : Int)) = true := by rw [e2]; simp
            rw [show (decide (k = fn) || decide (k = tn) || !ok) = true by rw [decide_eq_true e2]; simp] at c7
            clear e1 e2
            go_wp2_with fail
            with_reducible refine c7.mono ?_
            clear c7
            rintro e w8 ⟨rfl, hw8⟩
            rw [hw8]
            clear hw8 w8
            go_wp2_with fail
            go_roundw
            case rel => exact ⟨k + 1, by go_num, by have := HLT.out; omega, HG6.out, HI6.out, HB6.out⟩
            case measure => have := HLT.out; simp [intOf]; omega
          have x2 : ((k : Int) == (tn : Int)) = false := by rw [beq_eq_false_iff_ne]; omega
          rw [show (decide (k = fn) || decide (k = tn) || !ok) = !ok by rw [decide_eq_false e1, decide_eq_false e2]; rfl] at c7
          clear e1 e2
          cases ok with
          | false =>
            rw [show (!false) = true from rfl] at c7
            go_wp2_with fail
            with_reducible refine c7.mono ?_
            clear c7
            rintro e w8 ⟨rfl, hw8⟩
            rw [hw8]
            clear hw8 w8
            go_wp2_with fail
            go_roundw
            case rel => exact ⟨k + 1, by go_num, by have := HLT.out; omega, HG6.out, HI6.out, HB6.out⟩
            case measure => have := HLT.out; simp [intOf]; omega
          | true =>
            rw [show (!true) = false from rfl] at c7
            go_wp2_with fail
            with_reducible refine c7.mono ?_
            clear c7
            rintro e w8 ⟨rfl, hw8⟩
            rw [hw8]
            clear hw8 w8
            go_wp2_with fail
            go_roundw
            case rel => exact ⟨k + 1, by go_num, by have := HLT.out; omega, HG6.out, HI6.out, HB6.out⟩
            case measure => have := HLT.out; simp [intOf]; omega
    · have b1 : decide ((k : Int) < (g.ns.length : Int)) = false := decide_eq_false (by omega)
      have b1n : decide (k < g.ns.length) = false := decide_eq_false hlt
      have c9 := sorted_any l Al cl wr hI (by omega) (Gr.gts_sorted HC.out).1
      have HB := Lib.hid hb
      clear hG hI hb
      go_wp2_with fail
      with_reducible refine c9.mono ?_
      clear c9
      rintro e w9 ⟨rfl, hb9⟩
      have HB9 := Lib.hid (HB.out.trans (hb9.mono HB.out.size))
      clear hb9
      go_wp2_with fail
      go_ret
      exact ⟨rfl, HB9.out⟩
end Go.Proofs.Ytdiaejdoglccoaa
