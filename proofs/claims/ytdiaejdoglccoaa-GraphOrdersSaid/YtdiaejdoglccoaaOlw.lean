/- The law GraphOrders. No condition but the lengths. -/
import Derived.Test.YtdiaejdoglccoaaQdw
namespace Go.Proofs.Ytdiaejdoglccoaa
open Go.RowKit Go.Deep Tr

theorem Gr.odr_uniq {g : Gph} {l l' : List Int} {e e' : Int} (h : Gr.Odr g l e) (h' : Gr.Odr g l' e') : l = l' ∧ e = e' := by
  unfold Gr.Odr at h h'
  by_cases hc : Gr.chk g = 0
  · rw [if_pos hc] at h h'
    cases hk : Gr.kahn g.es g.ns.length g.ns.length [] with
    | none =>
      obtain ⟨h1, h2⟩ := h.2 hk
      obtain ⟨h3, h4⟩ := h'.2 hk
      exact ⟨h1.trans h3.symm, h2.trans h4.symm⟩
    | some o =>
      obtain ⟨h1, h2⟩ := h.1 o hk
      obtain ⟨h3, h4⟩ := h'.1 o hk
      exact ⟨h1.trans h3.symm, h2.trans h4.symm⟩
  · rw [if_neg hc] at h h'
    exact ⟨h.1.trans h'.1.symm, h.2.trans h'.2.symm⟩
theorem Gr.dps_uniq {g : Gph} {l l' : List Int} {e e' : Int} (h : Gr.Dps g l e) (h' : Gr.Dps g l' e') : l = l' ∧ e = e' := by
  unfold Gr.Dps at h h'
  by_cases hc : Gr.chk g = 0
  · rw [if_pos hc] at h h'
    cases hk : Gr.kahn g.es g.ns.length g.ns.length [] with
    | none =>
      obtain ⟨h1, h2⟩ := h.2 hk
      obtain ⟨h3, h4⟩ := h'.2 hk
      exact ⟨h1.trans h3.symm, h2.trans h4.symm⟩
    | some o =>
      obtain ⟨h1, h2⟩ := h.1 o hk
      obtain ⟨h3, h4⟩ := h'.1 o hk
      exact ⟨h1.trans h3.symm, h2.trans h4.symm⟩
  · rw [if_neg hc] at h h'
    exact ⟨h.1.trans h'.1.symm, h.2.trans h'.2.symm⟩
theorem Gr.odr_len {g : Gph} {l : List Int} {e : Int} (h : Gr.Odr g l e) : l.length ≤ 100000 := by
  unfold Gr.Odr at h
  split at h
  · rename_i hc
    cases hk : Gr.kahn g.es g.ns.length g.ns.length [] with
    | none => rw [(h.2 hk).1]; simp
    | some o =>
      rw [(h.1 o hk).1, Gr.nats_len, (Gr.kahn_ok hk).len]
      exact Nat.le_trans (Gr.chk_ok hc).nl (by decide)
  · rw [h.1]; simp
theorem Gr.dps_len {g : Gph} {l : List Int} {e : Int} (h : Gr.Dps g l e) : l.length ≤ 100000 := by
  unfold Gr.Dps at h
  split at h
  · rename_i hc
    cases hk : Gr.kahn g.es g.ns.length g.ns.length [] with
    | none => rw [(h.2 hk).1]; simp
    | some o =>
      rw [(h.1 o hk).1, List.length_map, List.length_range]
      exact Nat.le_trans (Gr.chk_ok hc).nl (by decide)
  · rw [h.1]; simp
set_option maxHeartbeats 16000000 in
set_option maxRecDepth 100000 in
theorem orders_law (g : Gph) (A B : Option Addr) (c d : Nat) (w : World) (hA : GrAt w A B g) :
    Calls Try.prog 4 #[grV A B c d g] w fun e w' => e = .returned (.bool true) ∧ Below w.heap.size w w' := by
  have hb0 : Below w.heap.size w (w.alloc (grO A B c d g)) := (Below.refl _ _).alloc (Nat.le_refl _) _
  have hG := heap_alloc_new w (grO A B c d g)
  obtain ⟨W, hW⟩ : ∃ W, W = w.alloc (grO A B c d g) := ⟨_, rfl⟩
  rw [← hW] at hb0 hG
  have HA := Lib.hid hA
  have HG0 := Lib.hid hG
  have HB0 := Lib.hid hb0
  have c1 := awake_any W
  clear hA hG hb0
  go_enter Try.func4, Try.ntmps4
  go_upto_region 1 with (fail)
  rw [← hW]
  clear hW
  go_wp2_with fail
  with_reducible refine c1.mono ?_
  clear c1
  rintro e w1 ⟨rfl, hb1⟩
  have HG1 := Lib.hid ((hb1.block _ (blk_lt HG0.out)).trans HG0.out)
  have HB1 := Lib.hid (HB0.out.trans (hb1.mono HB0.out.size))
  clear hb1 HG0 HB0
  have c2 := few_any g A B c d w1 (HA.out.next HB1.out)
  obtain ⟨q0, q1⟩ := gb_cells HG1.out
  go_wp2_with fail
  with_reducible refine c2.mono ?_
  clear c2 q0 q1
  rintro e w2 ⟨b, rfl, hb2⟩
  have HG2 := Lib.hid ((hb2.block _ (blk_lt HG1.out)).trans HG1.out)
  have HB2 := Lib.hid (HB1.out.trans (hb2.mono HB1.out.size))
  clear hb2 HG1 HB1
  obtain ⟨q0, q1⟩ := gb_cells HG2.out
  cases b with
  | false =>
    go_wp2_with fail
    go_ret
    exact ⟨rfl, HB2.out⟩
  | true =>
  have c3 := order_any g A B c d w2 (HA.out.next HB2.out)
  go_wp2_with fail
  with_reducible refine c3.mono ?_
  clear c3 q0 q1
  rintro e w3 ⟨v3, e3, rfl, l3, hQ3, hown3, hb3⟩
  have HG3 := Lib.hid ((hb3.block _ (blk_lt HG2.out)).trans HG2.out)
  have HB3 := Lib.hid (HB2.out.trans (hb3.mono HB2.out.size))
  obtain ⟨A3, k3, rfl, _, _, hat3⟩ := Gr.own_el Gr.inV 1 Gr.inV_len hown3
  have HQ3 := Lib.hid hQ3
  have HI3 := Lib.hid hat3
  clear hQ3 hown3 hat3
  clear hb3 HG2 HB2
  have c4 := qorder_any g A B c d w3 (HA.out.next HB3.out)
  obtain ⟨q0, q1⟩ := gb_cells HG3.out
  go_wp2_with fail
  with_reducible refine c4.mono ?_
  clear c4 q0 q1
  rintro e w4 ⟨v4, e4, rfl, l4, hQ4, hown4, hb4⟩
  have HG4 := Lib.hid ((hb4.block _ (blk_lt HG3.out)).trans HG3.out)
  have HB4 := Lib.hid (HB3.out.trans (hb4.mono HB3.out.size))
  obtain ⟨A4, k4, rfl, _, _, hat4⟩ := Gr.own_el Gr.inV 1 Gr.inV_len hown4
  obtain ⟨ha, hb⟩ := Gr.odr_uniq HQ3.out hQ4
  subst ha hb
  have HI4 := Lib.hid hat4
  have HJ4 := Lib.hid (HI3.out.next hb4)
  clear hQ4 hown4 hat4 HI3
  clear hb4 HG3 HB3
  have c5 := depths_any g A B c d w4 (HA.out.next HB4.out)
  obtain ⟨q0, q1⟩ := gb_cells HG4.out
  go_wp2_with fail
  with_reducible refine c5.mono ?_
  clear c5 q0 q1
  rintro e w5 ⟨A5, k5, l5, e5, rfl, hQ5, hat5, hb5⟩
  have HG5 := Lib.hid ((hb5.block _ (blk_lt HG4.out)).trans HG4.out)
  have HB5 := Lib.hid (HB4.out.trans (hb5.mono HB4.out.size))
  have HQ5 := Lib.hid hQ5
  have HI5 := Lib.hid hat5
  have HK5 := Lib.hid (HI4.out.next hb5)
  have HJ5 := Lib.hid (HJ4.out.next hb5)
  clear hQ5 hat5 HI4 HJ4
  clear hb5 HG4 HB4
  have c6 := qdepths_any g A B c d w5 (HA.out.next HB5.out)
  obtain ⟨q0, q1⟩ := gb_cells HG5.out
  go_wp2_with fail
  with_reducible refine c6.mono ?_
  clear c6 q0 q1
  rintro e w6 ⟨A6, k6, l6, e6, rfl, hQ6, hat6, hb6⟩
  have HG6 := Lib.hid ((hb6.block _ (blk_lt HG5.out)).trans HG5.out)
  have HB6 := Lib.hid (HB5.out.trans (hb6.mono HB5.out.size))
  obtain ⟨ha, hb⟩ := Gr.dps_uniq HQ5.out hQ6
  subst ha hb
  have HI6 := Lib.hid hat6
  have HL6 := Lib.hid (HI5.out.next hb6)
  have HK6 := Lib.hid (HK5.out.next hb6)
  have HJ6 := Lib.hid (HJ5.out.next hb6)
  clear hQ6 hat6 HI5 HK5 HJ5
  clear hb6 HG5 HB5
  have z1 : (e3 == e3) = true := by simp
  have z2 : (e5 == e5) = true := by simp
  have c7 := equalIn_any l3 l3 A3 A4 k3 k4 w6 HJ6.out HK6.out (Gr.odr_len HQ3.out) (Gr.odr_len HQ3.out)
  rw [decide_eq_true (show l3 = l3 from rfl)] at c7
  go_wp2_with fail
  with_reducible refine c7.mono ?_
  clear c7
  rintro e w7 ⟨rfl, hb7⟩
  have HB7 := Lib.hid (HB6.out.trans (hb7.mono HB6.out.size))
  have c8 := equalIn_any l5 l5 A5 A6 k5 k6 w7 (HL6.out.next hb7) (HI6.out.next hb7) (Gr.dps_len HQ5.out) (Gr.dps_len HQ5.out)
  rw [decide_eq_true (show l5 = l5 from rfl)] at c8
  clear hb7 HB6
  go_wp2_with fail
  with_reducible refine c8.mono ?_
  clear c8
  rintro e w8 ⟨rfl, hb8⟩
  have HB8 := Lib.hid (HB7.out.trans (hb8.mono HB7.out.size))
  clear hb8
  go_wp2_with fail
  go_ret
  exact ⟨rfl, HB8.out⟩
end Go.Proofs.Ytdiaejdoglccoaa
