/- The law GraphSorts. No condition but the lengths. -/
import Derived.Test.YtdiaejdoglccoaaWpl
import Derived.Test.YtdiaejdoglccoaaSct
namespace Go.Proofs.Ytdiaejdoglccoaa
open Go.RowKit Go.Deep Tr

namespace Gr
theorem rch_self {g : Gph} {k : Nat} {l : List Int} (hc : chk g = 0) (hk : k < g.ns.length) (h : Rch true g (k : Int) l) : (k : Int) ∈ l ↔ Tc g.es k k := by
  unfold Rch at h
  rw [if_pos ⟨hc, by unfold isN; rw [Bool.and_eq_true, decide_eq_true_eq, decide_eq_true_eq]; omega⟩, Int.toNat_natCast] at h
  obtain ⟨p, rfl, hp⟩ := h
  rw [mem_chs, ← tc_wk, ← hp k]
  exact ⟨fun ⟨m, e, _, hm⟩ => (by obtain rfl : k = m := by omega
                                  exact hm), fun h => ⟨k, rfl, hk, h⟩⟩
theorem rch_len2 {fw : Bool} {g : Gph} {a : Int} {l : List Int} (h : Rch fw g a l) : l.length ≤ g.ns.length := by
  unfold Rch at h
  split at h
  · obtain ⟨p, rfl, _⟩ := h
    exact chs_len p _
  · rw [h]; simp
theorem odr_loop {g : Gph} {l : List Int} {e : Int} (hc : chk g = 0) (h : Odr g l e) (hl : ∃ m, m < g.ns.length ∧ Tc g.es m m) : l = [] ∧ e = 12 := by
  unfold Odr at h
  rw [if_pos hc] at h
  cases hk : kahn g.es g.ns.length g.ns.length [] with
  | none => exact h.2 hk
  | some o =>
    obtain ⟨m, _, ht⟩ := hl
    have := (kahn_ok hk).acyc (fun x hx => (chk_ok hc).ed false x hx) ht
    omega
theorem dps_loop {g : Gph} {l : List Int} {e : Int} (hc : chk g = 0) (h : Dps g l e) (hl : ∃ m, m < g.ns.length ∧ Tc g.es m m) : l = [] ∧ e = 12 := by
  unfold Dps at h
  rw [if_pos hc] at h
  cases hk : kahn g.es g.ns.length g.ns.length [] with
  | none => exact h.2 hk
  | some o =>
    obtain ⟨m, _, ht⟩ := hl
    have := (kahn_ok hk).acyc (fun x hx => (chk_ok hc).ed false x hx) ht
    omega
theorem odr_topo {g : Gph} {l l2 : List Int} {e e2 : Int} (hc : chk g = 0) (h : Odr g l e) (h2 : Dps g l2 e2) (hl : ¬ ∃ m, m < g.ns.length ∧ Tc g.es m m) : ∃ o, Topo g.es g.ns.length o ∧ l = nats o ∧ e = 0 ∧ e2 = 0 ∧ l2 = (List.range g.ns.length).map (dps g.es o) := by
  unfold Odr at h
  unfold Dps at h2
  rw [if_pos hc] at h h2
  cases hk : kahn g.es g.ns.length g.ns.length [] with
  | none => exact absurd (kahn_loop (fun x hx => (chk_ok hc).ed true x hx) hk) hl
  | some o => exact ⟨o, kahn_ok hk, (h.1 o hk).1, (h.1 o hk).2, (h2.1 o hk).2, (h2.1 o hk).1⟩
theorem idx_get {o : List Nat} (hnd : o.Nodup) {k : Nat} (hk : k < o.length) : o.idxOf o[k] = k := by
  have h3 := List.idxOf_lt_length_of_mem (List.getElem_mem hk)
  rw [List.Nodup, List.pairwise_iff_getElem] at hnd
  rcases Nat.lt_trichotomy (o.idxOf o[k]) k with h | h | h
  · exact absurd (List.getElem_idxOf h3) (hnd _ _ h3 hk h)
  · exact h
  · exact absurd (List.getElem_idxOf h3).symm (hnd _ _ hk h3 h)
/-- Places of the nodes that were seen. -/
def plc (o : List Nat) (k : Nat) (m : Nat) : Int := if o.idxOf m < k then (o.idxOf m : Int) else -1
theorem plc_step {o : List Nat} (hnd : o.Nodup) {k : Nat} (hk : k < o.length) {m : Nat} (hm : m ∈ o) : plc o (k + 1) m = if m = o[k] then (k : Int) else plc o k m := by
  unfold plc
  by_cases e : m = o[k]
  · rw [if_pos e, e, idx_get hnd hk, if_pos (by omega)]
  · rw [if_neg e]
    have hne : o.idxOf m ≠ k := fun h => e (by
      have h1 := List.getElem_idxOf (List.idxOf_lt_length_of_mem hm)
      simp only [h] at h1
      exact h1.symm)
    by_cases h : o.idxOf m < k
    · rw [if_pos h, if_pos (by omega)]
    · rw [if_neg h, if_neg (by omega)]
theorem plc_new {o : List Nat} (hnd : o.Nodup) {k : Nat} (hk : k < o.length) : plc o k o[k] = -1 := by
  unfold plc
  rw [idx_get hnd hk, if_neg (by omega)]
/-- In an order edges lead to later places and greater depths. -/
theorem topo_edge {g : Gph} {o : List Nat} (hc : chk g = 0) (h : Topo g.es g.ns.length o) : ∀ x ∈ g.es, ∃ s t : Nat, x.src = (s : Int) ∧ x.dst = (t : Int) ∧ s < g.ns.length ∧ t < g.ns.length ∧ plc o o.length s < plc o o.length t ∧ ((List.range g.ns.length).map (dps g.es o)).getD s 0 < ((List.range g.ns.length).map (dps g.es o)).getD t 0 := fun x hx => by
  have hOk := chk_ok hc
  have hs : 0 ≤ x.src ∧ x.src < (g.ns.length : Int) := hOk.ed true x hx
  have ht : 0 ≤ x.dst ∧ x.dst < (g.ns.length : Int) := hOk.ed false x hx
  have hs2 : x.src.toNat < g.ns.length := by omega
  have ht2 : x.dst.toNat < g.ns.length := by omega
  have h1 := h.idx hx (a := x.src.toNat) (b := x.dst.toNat) (by omega) (by omega) ht2
  have h2 := List.idxOf_lt_length_of_mem (h.all _ hs2)
  have h3 := List.idxOf_lt_length_of_mem (h.all _ ht2)
  have hD := dps_ok h (fun x hx => ⟨hOk.ed true x hx, hOk.ed false x hx⟩)
  have h4 := hD.le x.dst.toNat ht2 x hx (by omega)
  refine ⟨x.src.toNat, x.dst.toNat, by omega, by omega, hs2, ht2, ?_, ?_⟩
  · unfold plc
    rw [if_pos h2, if_pos h3]
    omega
  · rw [getD_range hs2, getD_range ht2]
    omega
end Gr
set_option maxHeartbeats 16000000 in
set_option maxRecDepth 100000 in
theorem sorts_law (g : Gph) (A B : Option Addr) (c d : Nat) (w : World) (hA : GrAt w A B g) :
    Calls Try.prog 7 #[grV A B c d g] w fun e w' => e = .returned (.bool true) ∧ Below w.heap.size w w' := by
  have hb0 : Below w.heap.size w (w.alloc (grO A B c d g)) := (Below.refl _ _).alloc (Nat.le_refl _) _
  have hG := heap_alloc_new w (grO A B c d g)
  obtain ⟨W, hW⟩ : ∃ W, W = w.alloc (grO A B c d g) := ⟨_, rfl⟩
  rw [← hW] at hb0 hG
  have HA := Lib.hid hA
  have HG0 := Lib.hid hG
  have HB0 := Lib.hid hb0
  have c1 := awake_any W
  clear hA hG hb0
  go_enter Try.func7, Try.ntmps7
  go_upto_region 1 with (fail)
  rw [← hW]
  clear hW
  go_wp2_with fail
  with_reducible refine c1.mono ?_
  clear c1
  rintro e w1 ⟨rfl, hb1⟩
  have HG1 := Lib.hid ((hb1.block _ (blk_lt HG0.out)).trans HG0.out)
  have HB1 := Lib.hid (HB0.out.trans (hb1.mono HB0.out.size))
  clear hb1 HG0 HB0
  have c2 := few_any g A B c d w1 (HA.out.next HB1.out)
  obtain ⟨q0, q1⟩ := gb_cells HG1.out
  go_wp2_with fail
  with_reducible refine c2.mono ?_
  clear c2 q0 q1
  rintro e w2 ⟨b, rfl, hb2⟩
  have HG2 := Lib.hid ((hb2.block _ (blk_lt HG1.out)).trans HG1.out)
  have HB2 := Lib.hid (HB1.out.trans (hb2.mono HB1.out.size))
  clear hb2 HG1 HB1
  obtain ⟨q0, q1⟩ := gb_cells HG2.out
  cases b with
  | false =>
    go_wp2_with fail
    go_ret
    exact ⟨rfl, HB2.out⟩
  | true =>
  have c3 := check_any g A B c d w2 (HA.out.next HB2.out)
  obtain ⟨z, hz⟩ : ∃ z, Gr.chk g = z := ⟨_, rfl⟩
  rw [hz] at c3
  have HZ := Lib.hid hz
  clear hz
  go_wp2_with fail
  with_reducible refine c3.mono ?_
  clear c3 q0 q1
  rintro e w3 ⟨rfl, hb3⟩
  have HG3 := Lib.hid ((hb3.block _ (blk_lt HG2.out)).trans HG2.out)
  have HB3 := Lib.hid (HB2.out.trans (hb3.mono HB2.out.size))
  clear hb3 HG2 HB2
  obtain ⟨q0, q1⟩ := gb_cells HG3.out
  by_cases hz0 : z = 0
  case neg =>
    have z1 : (z != 0) = true := by rw [bne_iff_ne]; exact hz0
    have z2 : (z == 0) = false := by rw [beq_eq_false_iff_ne]; exact hz0
    clear hz0
    go_wp2_with fail
    go_ret
    exact ⟨rfl, HB3.out⟩
  have z1 : (z != 0) = false := by rw [hz0]; rfl
  have z2 : (z == 0) = true := by rw [hz0]; rfl
  have HCk := Lib.hid (HZ.out.trans hz0)
  have HOk := Lib.hid (Gr.chk_ok HCk.out)
  clear hz0 HZ
  obtain ⟨i0, hi0, hz0, hz1, hz2⟩ := info_parts infoIn
  have hel := HOk.out.el
  have hnl := HOk.out.nl
  go_wp2_with fail
  clear q0 q1 z1 z2
  go_loopw [3, 26] (fun s3 s26 wr => ∃ (k : Nat) (b : Bool), s26 = .int .i64 k ∧ s3 = .bool b ∧ k ≤ g.ns.length ∧ (b = true ↔ ∃ m, m < k ∧ Gr.Tc g.es m m) ∧ wr.heap[w.heap.size]? = some (grO A B c d g) ∧ Below w.heap.size w wr) (fun _ s26 _ => g.ns.length - (intOf s26).toNat)
  case atStart => exact ⟨0, false, rfl, rfl, by omega, ⟨fun h => (by cases h), fun ⟨m, h, _⟩ => (by omega)⟩, HG3.out, HB3.out⟩
  case round =>
    obtain ⟨k, b, rfl, rfl, hk, hbi, hG, hb⟩ := hrel
    have HBI := Lib.hid hbi
    have HG := Lib.hid hG
    have HB := Lib.hid hb
    clear hbi hG hb
    obtain ⟨q0, q1⟩ := gb_cells HG.out
    by_cases hlt : k < g.ns.length
    · have b1 : decide ((k : Int) < (g.ns.length : Int)) = true := decide_eq_true (by omega)
      have b1n : decide (k < g.ns.length) = true := decide_eq_true hlt
      cases b with
      | true =>
        have HT := Lib.hid (show true = true ↔ ∃ m, m < k + 1 ∧ Gr.Tc g.es m m from ⟨fun _ => (by obtain ⟨m, h1, h2⟩ := HBI.out.1 rfl; exact ⟨m, by omega, h2⟩), fun _ => rfl⟩)
        go_wp2_with fail
        go_roundw
        case rel => exact ⟨k + 1, true, by go_num, rfl, by omega, HT.out, HG.out, HB.out⟩
        case measure => simp [intOf]; omega
      | false =>
        have c4 := reach_any g (k : Int) A B c d wr (HA.out.next HB.out)
        go_wp2_with fail
        with_reducible refine c4.mono ?_
        clear c4 q0 q1
        rintro e w5 ⟨v2, rfl, l2, hR, hown2, hb5⟩
        have HG5 := Lib.hid ((hb5.block _ (blk_lt HG.out)).trans HG.out)
        have HB5 := Lib.hid (HB.out.trans (hb5.mono HB.out.size))
        obtain ⟨A2, k2, rfl, _, _, hat2⟩ := Gr.own_el Gr.inV 1 Gr.inV_len hown2
        have hrl := Gr.rch_len2 hR
        have c6 := containsIn_any l2 (k : Int) A2 k2 w5 hat2 (by omega)
        have HT := Lib.hid (show decide ((k : Int) ∈ l2) = true ↔ ∃ m, m < k + 1 ∧ Gr.Tc g.es m m by
          rw [decide_eq_true_eq, Gr.rch_self HCk.out hlt hR]
          constructor
          · exact fun h => ⟨k, by omega, h⟩
          · rintro ⟨m, h1, h2⟩
            by_cases e : m = k
            · subst e; exact h2
            · have := HBI.out.2 ⟨m, by omega, h2⟩; cases this)
        generalize decide ((k : Int) ∈ l2) = dd at *
        clear hb5 hown2 hat2 hR hrl HG HB
        go_wp2_with fail
        with_reducible refine c6.mono ?_
        clear c6
        rintro e w6 ⟨rfl, hw6⟩
        rw [hw6]
        clear hw6 w6
        go_wp2_with fail
        go_roundw
        case rel => exact ⟨k + 1, dd, by go_num, rfl, by omega, HT.out, HG5.out, HB5.out⟩
        case measure => simp [intOf]; omega
    · have b1 : decide ((k : Int) < (g.ns.length : Int)) = false := decide_eq_false (by omega)
      have b1n : decide (k < g.ns.length) = false := decide_eq_false hlt
      obtain rfl : k = g.ns.length := by omega
      have c7 := order_any g A B c d wr (HA.out.next HB.out)
      go_wp2_with fail
      with_reducible refine c7.mono ?_
      clear c7 q0 q1 b1 b1n hlt hk
      rintro e w7 ⟨v7, ec, rfl, l, hQ, hown, hb7⟩
      have HG7 := Lib.hid ((hb7.block _ (blk_lt HG.out)).trans HG.out)
      have HB7 := Lib.hid (HB.out.trans (hb7.mono HB.out.size))
      obtain ⟨Al, cl, rfl, _, _, hat⟩ := Gr.own_el Gr.inV 1 Gr.inV_len hown
      have HQ := Lib.hid hQ
      have HI7 := Lib.hid hat
      clear hQ hown hat hb7 HG HB
      have c8 := depths_any g A B c d w7 (HA.out.next HB7.out)
      obtain ⟨q0, q1⟩ := gb_cells HG7.out
      go_wp2_with fail
      with_reducible refine c8.mono ?_
      clear c8 q0 q1
      rintro e w8 ⟨A2, c2, l2, ec2, rfl, hD, hat2, hb8⟩
      have hba : Below w8.heap.size w8 (w8.alloc (.cells #[.slice A2 l2.length c2] 29)) := (Below.refl _ _).alloc (Nat.le_refl _) _
      have hb78 := hb8.trans (hba.mono hb8.size)
      have HG9 := Lib.hid ((hb78.block _ (blk_lt HG7.out)).trans HG7.out)
      have HB9 := Lib.hid (HB7.out.trans (hb78.mono HB7.out.size))
      have HI9 := Lib.hid (HI7.out.next hb78)
      have HJ9 := Lib.hid (hat2.next hba)
      have HV9 := Lib.hid (heap_alloc_new w8 (.cells #[.slice A2 l2.length c2] 29))
      have HD := Lib.hid hD
      clear hD hat2 hb8 hba hb78 HG7 HB7 HI7
      go_upto_region 13 with (fail)
      generalize w8.alloc (.cells #[.slice A2 l2.length c2] 29) = w9 at *
      generalize w8.heap.size = db at *
      have v0 : w9.cell? ⟨db, 0, none⟩ = some (.slice A2 l2.length c2) := by rw [cell_of_row _ _ _ _ _ _ HV9.out]; rfl
      obtain ⟨q0, q1⟩ := gb_cells HG9.out
      cases b with
      | true =>
        obtain ⟨rfl, rfl⟩ := Gr.odr_loop HCk.out HQ.out (HBI.out.1 rfl)
        obtain ⟨rfl, rfl⟩ := Gr.dps_loop HCk.out HD.out (HBI.out.1 rfl)
        rw [show ([] : List Int).length = 0 from rfl] at v0 ⊢
        go_wp2_with fail
        go_ret
        exact ⟨rfl, HB9.out⟩
      | false =>
      obtain ⟨o, ht, rfl, rfl, rfl, rfl⟩ := Gr.odr_topo HCk.out HQ.out HD.out (fun h => by have := HBI.out.2 h; cases this)
      have HTp := Lib.hid ht
      rw [Gr.nats_len, ht.len]
      rw [List.length_map, List.length_range] at v0
      clear ht HQ HD HBI
      obtain ⟨N, hN⟩ : ∃ N, g.ns.length = N := ⟨_, rfl⟩
      have HN := Lib.hid hN
      rw [hN] at v0 q0 hnl ⊢
      have hmk : ∀ w' : World, (Instr.makeSlice 29 (.int .i64 (N : Int)) (.int .i64 (N : Int))).run Try.prog w' = .ok (.slice (some ⟨w'.heap.size, 0, none⟩) N N) (w'.alloc (.cells (madeCells #[.int .i64 0] N) 3)) := fun w' =>
        run_make_row (P := Try.prog) 29 3 i0 (.int .i64 0) Try.underlying29 hi0 hz0 hz1 rfl .i64 .i64 N (by rw [hz2]; omega) (by omega) w'
      have hr10 := World.rowIs_made w9 (.int .i64 0) N 3
      have hb10 : Below w9.heap.size w9 (w9.alloc (.cells (madeCells #[.int .i64 0] N) 3)) := (Below.refl _ _).alloc (Nat.le_refl _) _
      have hr11 := hr10.alloc (.cells #[.slice (some ⟨w9.heap.size, 0, none⟩) N N] 29)
      have hb11 := hb10.alloc hb10.size (.cells #[.slice (some ⟨w9.heap.size, 0, none⟩) N N] 29)
      have hv11 := heap_alloc_new (w9.alloc (.cells (madeCells #[.int .i64 0] N) 3)) (.cells #[.slice (some ⟨w9.heap.size, 0, none⟩) N N] 29)
      rw [show (w9.alloc (.cells (madeCells #[.int .i64 0] N) 3)).heap.size = w9.heap.size + 1 by simp] at hv11
      clear hr10 hb10 hN
      go_upto_region 18 with (fail)
      generalize (w9.alloc (.cells (madeCells #[.int .i64 0] N) 3)).alloc (.cells #[.slice (some ⟨w9.heap.size, 0, none⟩) N N] 29) = w11 at *
      obtain ⟨ga, hga⟩ : ∃ x, x = w9.heap.size := ⟨_, rfl⟩
      rw [← hga] at hr11 hb11 hv11 ⊢
      obtain ⟨ab, hab⟩ : ∃ x, x = ga + 1 := ⟨_, rfl⟩
      rw [← hab] at hv11 ⊢
      have HGA := Lib.hid (show ga = w9.heap.size ∧ ab = ga + 1 from ⟨hga, hab⟩)
      have e9 : w11.cell? ⟨ab, 0, none⟩ = some (.slice (some ⟨ga, 0, none⟩) N N) := by rw [cell_of_row _ _ _ _ _ _ hv11]; rfl
      clear hmk hga hab q0 q1 v0
      go_wp2_with fail
      clear e9
      obtain ⟨w00, rfl⟩ : ∃ x : World, x = wr := ⟨_, rfl⟩
      go_loopw [92] (fun s92 wr => ∃ k : Nat, s92 = .int .i64 k ∧ k ≤ N ∧ wr.rowIs ga 3 N (fun i => .int .i64 (if i < k then -1 else 0)) ∧ wr.heap[ab]? = some (.cells #[.slice (some ⟨ga, 0, none⟩) N N] 29 (0, 0)) ∧ Below ga w9 wr) (fun s92 _ => N - (intOf s92).toNat)
      case atStart => exact ⟨0, rfl, by omega, hr11.congr fun i _ => by simp, hv11, hb11⟩
      case round =>
        clear hr11 hv11 hb11
        obtain ⟨k, rfl, hk, hrow, hv, hb⟩ := hrel
        by_cases hlt : k < N
        · have b1 : decide ((k : Int) < (N : Int)) = true := decide_eq_true (by omega)
          have b1n : decide (k < N) = true := decide_eq_true hlt
          have y1 : (k : Int) < (N : Int) := by omega
          have e1 : wr.cell? ⟨ab, 0, none⟩ = some (.slice (some ⟨ga, 0, none⟩) N N) := by rw [cell_of_row _ _ _ _ _ _ hv]; rfl
          have e2 : wr.cell? ⟨ga, k, none⟩ = some (.int .i64 0) := by rw [hrow.cell hlt]; simp
          have f2 := hrow.frozen k
          have H1 := Lib.hid ((hrow.set k (.int .i64 (-1))).congr (g := fun i => .int .i64 (if i < k + 1 then -1 else 0)) fun i hi => by
            by_cases e : i = k
            · simp [e]
            · simp only [e, if_false]
              by_cases e2 : i < k
              · rw [if_pos e2, if_pos (show i < k + 1 by omega)]
              · rw [if_neg e2, if_neg (show ¬ i < k + 1 by omega)])
          have H2 := Lib.hid ((heap_setCell_other wr ⟨ga, k, none⟩ ab (.int .i64 (-1)) (show ab ≠ ga by have := HGA.out; omega)).trans hv)
          have H3 := Lib.hid (hb.setCell (p := ⟨ga, k, none⟩) (Nat.le_refl _) (.int .i64 (-1)))
          clear hrow hv hb
          go_wp2_with fail
          go_roundw
          case rel => exact ⟨k + 1, by go_num, by omega, H1.out, H2.out, H3.out⟩
          case measure => simp [intOf]; omega
        · have b1 : decide ((k : Int) < (N : Int)) = false := decide_eq_false (by omega)
          have b1n : decide (k < N) = false := decide_eq_false hlt
          have hr0 := hrow.congr (g := fun i => .int .i64 (Gr.plc o 0 i)) fun i hi => by
            rw [if_pos (by omega)]
            unfold Gr.plc
            rw [if_neg (by omega)]
          have hv0 := hv
          have hb0 := hb
          clear hrow hv hb
          go_wp2_with fail
          obtain ⟨w01, rfl⟩ : ∃ x : World, x = wr := ⟨_, rfl⟩
          go_loopw [101] (fun s101 wr => ∃ k : Nat, s101 = .int .i64 k ∧ k ≤ N ∧ wr.rowIs ga 3 N (fun i => .int .i64 (Gr.plc o k i)) ∧ wr.heap[ab]? = some (.cells #[.slice (some ⟨ga, 0, none⟩) N N] 29 (0, 0)) ∧ Below ga w9 wr) (fun s101 _ => N - (intOf s101).toNat)
          case atStart => exact ⟨0, rfl, by omega, hr0, hv0, hb0⟩
          case round =>
            clear hr0 hv0 hb0 b1 b1n hlt hk
            obtain ⟨k, rfl, hk, hrow, hv, hb⟩ := hrel
            by_cases hlt : k < N
            · have b1 : decide ((k : Int) < (N : Int)) = true := decide_eq_true (by omega)
              have b1n : decide (k < N) = true := decide_eq_true hlt
              have y1 : (k : Int) < (N : Int) := by omega
              have hko : k < o.length := by rw [HTp.out.len, HN.out]; exact hlt
              obtain ⟨gl, ol, rfl, hgl, hcl⟩ := in_cell HI9.out (k := k) (by rw [Gr.nats_len]; exact hko)
              have d1 := (hb.cell (p := ⟨gl, ol + k, none⟩) (by rw [HGA.out.1]; exact hgl)).trans hcl
              rw [show (Gr.nats o)[k]'(by rw [Gr.nats_len]; exact hko) = ((o[k] : Nat) : Int) by simp [Gr.nats]] at d1
              have hm : o[k] < N := by rw [← HN.out]; exact HTp.out.lt _ (List.getElem_mem hko)
              have hnew := Gr.plc_new HTp.out.nd hko
              have HST := Lib.hid (fun m (hm : m < N) => Gr.plc_step HTp.out.nd hko (HTp.out.all m (by rw [HN.out]; exact hm)))
              generalize o[k] = m at *
              have d2 : decide ((m : Int) < 0) = false := decide_eq_false (by omega)
              have d3 : decide ((N : Int) ≤ (m : Int)) = false := decide_eq_false (by omega)
              have d3n : decide (N ≤ m) = false := decide_eq_false (by omega)
              have y2 : (m : Int) < (N : Int) := by omega
              have e1 : wr.cell? ⟨ab, 0, none⟩ = some (.slice (some ⟨ga, 0, none⟩) N N) := by rw [cell_of_row _ _ _ _ _ _ hv]; rfl
              have e2 : wr.cell? ⟨ga, m, none⟩ = some (.int .i64 (-1)) := by rw [hrow.cell hm, hnew]
              have f2 := hrow.frozen m
              have H1 := Lib.hid ((hrow.set m (.int .i64 (k : Int))).congr (g := fun i => .int .i64 (Gr.plc o (k + 1) i)) fun i hi => by
                rw [HST.out i hi]
                by_cases e : i = m
                · rw [if_pos e, if_pos e]
                · rw [if_neg e, if_neg e])
              have H2 := Lib.hid ((heap_setCell_other wr ⟨ga, m, none⟩ ab (.int .i64 (k : Int)) (show ab ≠ ga by have := HGA.out; omega)).trans hv)
              have H3 := Lib.hid (hb.setCell (p := ⟨ga, m, none⟩) (Nat.le_refl _) (.int .i64 (k : Int)))
              clear hrow hv hb hnew hcl hgl hko
              go_wp2_with fail
              go_roundw
              case rel => exact ⟨k + 1, by go_num, by omega, H1.out, H2.out, H3.out⟩
              case measure => simp [intOf]; omega
            · have b1 : decide ((k : Int) < (N : Int)) = false := decide_eq_false (by omega)
              have b1n : decide (k < N) = false := decide_eq_false hlt
              obtain rfl : k = N := by omega
              have hb9 : Below w9.heap.size w9 wr := by rw [← HGA.out.1]; exact hb
              have hG := (hb9.block _ (blk_lt HG9.out)).trans HG9.out
              have HBq := Lib.hid (HB9.out.trans (hb9.mono HB9.out.size))
              have hSr : SrAt wr ab ga db k A2 c2 (Gr.plc o k) ((List.range g.ns.length).map (Gr.dps g.es o)) := ⟨hv, hrow, (hb9.block _ (blk_lt HV9.out)).trans HV9.out, HJ9.out.next hb9⟩
              have cc := containsSrt_any g.es B d ab ga db k A2 c2 (Gr.plc o k) _ wr (HA.out.next HBq.out).es (by omega) hSr (by rw [List.length_map, List.length_range, HN.out]) (by
                have h := Gr.topo_edge HCk.out HTp.out
                rw [HTp.out.len] at h
                rw [← HN.out]
                exact h)
              obtain ⟨q0, q1⟩ := gb_cells hG
              clear hrow hv hb hb9 hG hSr
              go_wp2_with fail
              with_reducible refine cc.mono ?_
              clear cc q0 q1
              rintro e w12 ⟨rfl, hb12⟩
              have HB12 := Lib.hid (HBq.out.trans (hb12.mono HBq.out.size))
              clear hb12
              go_wp2_with fail
              go_ret
              exact ⟨rfl, HB12.out⟩
end Go.Proofs.Ytdiaejdoglccoaa
