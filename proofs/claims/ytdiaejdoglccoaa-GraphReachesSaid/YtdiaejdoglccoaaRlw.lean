/- The law GraphReaches. No condition but the lengths. -/
import Derived.Test.YtdiaejdoglccoaaQre
import Derived.Deep.RegionHeld3
namespace Go.Proofs.Ytdiaejdoglccoaa
open Go.RowKit Go.Deep Tr

set_option maxHeartbeats 16000000 in
set_option maxRecDepth 100000 in
theorem reaches_law (g : Gph) (n : Int) (A B : Option Addr) (c d : Nat) (w : World) (hA : GrAt w A B g) :
    Calls Try.prog 3 #[grV A B c d g, .int .i64 n] w fun e w' => e = .returned (.bool true) ∧ Below w.heap.size w w' := by
  have hb0 : Below w.heap.size w (w.alloc (grO A B c d g)) := (Below.refl _ _).alloc (Nat.le_refl _) _
  have hG := heap_alloc_new w (grO A B c d g)
  obtain ⟨W, hW⟩ : ∃ W, W = w.alloc (grO A B c d g) := ⟨_, rfl⟩
  rw [← hW] at hb0 hG
  have HA := Lib.hid hA
  have HG0 := Lib.hid hG
  have HB0 := Lib.hid hb0
  have c1 := awake_any W
  clear hA hG hb0
  go_enter Try.func3, Try.ntmps3
  go_upto_region 1 with (fail)
  rw [← hW]
  clear hW
  go_wp2_with fail
  with_reducible refine c1.mono ?_
  clear c1
  rintro e w1 ⟨rfl, hb1⟩
  have HG1 := Lib.hid ((hb1.block _ (blk_lt HG0.out)).trans HG0.out)
  have HB1 := Lib.hid (HB0.out.trans (hb1.mono HB0.out.size))
  clear hb1 HG0 HB0
  have c2 := few_any g A B c d w1 (HA.out.next HB1.out)
  obtain ⟨q0, q1⟩ := gb_cells HG1.out
  go_wp2_with fail
  with_reducible refine c2.mono ?_
  clear c2 q0 q1
  rintro e w2 ⟨b, rfl, hb2⟩
  have HG2 := Lib.hid ((hb2.block _ (blk_lt HG1.out)).trans HG1.out)
  have HB2 := Lib.hid (HB1.out.trans (hb2.mono HB1.out.size))
  clear hb2 HG1 HB1
  obtain ⟨q0, q1⟩ := gb_cells HG2.out
  cases b with
  | false =>
    go_wp2_with fail
    go_ret
    exact ⟨rfl, HB2.out⟩
  | true =>
  go_upto_region 5 with (fail)
  have HD := Lib.hid (show GrAt w2.drew A B g from HA.out.next (show Below w.heap.size w w2.drew from HB2.out.drew))
  have HBD := Lib.hid (show Below w.heap.size w w2.drew from HB2.out.drew)
  have HK := Lib.hid (fun (w5 : World) (h5 : Below w2.drew.heap.size w2.drew w5) => (show w5.cell? ⟨w.heap.size, 0, none⟩ = some (.slice A g.ns.length c) ∧ w5.cell? ⟨w.heap.size, 1, none⟩ = some (.slice B g.es.length d) from ⟨(h5.cell (p := ⟨w.heap.size, 0, none⟩) (show w.heap.size < w2.heap.size from blk_lt HG2.out)).trans q0, (h5.cell (p := ⟨w.heap.size, 1, none⟩) (show w.heap.size < w2.heap.size from blk_lt HG2.out)).trans q1⟩))
  have HC0 := Lib.hid (fun w (h : GrAt w A B g) => reach_any g n A B c d w h)
  have HC1 := Lib.hid (fun w (h : GrAt w A B g) => qreach_any g n A B c d w h)
  have HC3 := Lib.hid (fun w (h : GrAt w A B g) => back_any g n A B c d w h)
  have HC4 := Lib.hid (fun w (h : GrAt w A B g) => qback_any g n A B c d w h)
  refine wp_region_held_drew (S := (fun w' : World => w'.cell? ⟨w.heap.size, 0, none⟩ = some (.slice A g.ns.length c) ∧ w'.cell? ⟨w.heap.size, 1, none⟩ = some (.slice B g.es.length d))) (by kernel_rfl) ⟨q0, q1⟩ (fun hHeld => ?_)
  refine wpAnyH_take (i := 0) (oi := { dst := some 10, op := _, type := _, pos := _, after := _, guard := _ }) (v := ?v1) rfl (by kernel_rfl) (by kernel_rfl) (by kernel_rfl) (fun _ _ _ h => h) (Or.inl ⟨by kernel_rfl, ?hy1⟩) (by assumption) ?rest1
  case hy1 =>
    intro w hSw
    try dsimp only at hSw
    go_simp
    try with_reducible rfl
  try simp only [Act.put]
  refine wpAnyH_take (i := 1) (oi := { dst := some 11, op := _, type := _, pos := _, after := _, guard := _ }) (v := ?v2) rfl (by kernel_rfl) (by kernel_rfl) (by kernel_rfl) (fun _ _ _ h => h) (Or.inl ⟨by kernel_rfl, ?hy2⟩) (by assumption) ?rest2
  case hy2 =>
    intro w hSw
    try dsimp only at hSw
    go_simp
    try with_reducible rfl
  try simp only [Act.put]
  refine wpAnyH_take (i := 3) (oi := { dst := some 13, op := _, type := _, pos := _, after := _, guard := _ }) (v := ?v3) rfl (by kernel_rfl) (by kernel_rfl) (by kernel_rfl) (fun _ _ _ h => h) (Or.inl ⟨by kernel_rfl, ?hy3⟩) (by assumption) ?rest3
  case hy3 =>
    intro w hSw
    try dsimp only at hSw
    go_simp
    try with_reducible rfl
  try simp only [Act.put]
  refine wpAnyH_take (i := 4) (oi := { dst := some 14, op := _, type := _, pos := _, after := _, guard := _ }) (v := ?v4) rfl (by kernel_rfl) (by kernel_rfl) (by kernel_rfl) (fun _ _ _ h => h) (Or.inl ⟨by kernel_rfl, ?hy4⟩) (by assumption) ?rest4
  case hy4 =>
    intro w hSw
    try dsimp only at hSw
    go_simp
    try with_reducible rfl
  try simp only [Act.put]
  refine wpAnyH_ready (rs := [2]) (by kernel_rfl) (by simp) ?_
  refine AllReadyH.cons (o := _) rfl (fun K hK => ?_) AllReadyH.nil
  go_simp
  have cc := HC0.out w2.drew HD.out
  go_at_call 12
  with_reducible refine cc.mono ?_
  clear cc
  rintro e v0 ⟨x0, rfl, l0, hR0, own, hbn⟩
  have B0 := hbn
  obtain ⟨A0, c0, rfl, _, _, LA0⟩ := Gr.own_el Gr.inV 1 Gr.inV_len own
  have HR0 := Lib.hid (Gr.rch_q hR0)
  have LL0 := Lib.hid (Gr.rchq_len HR0.out)
  have HLA0 := Lib.hid LA0
  clear own hR0 LA0
  refine hK.out _ _ (HK.out v0 B0) (fun hHeld => ?_)
  clear hK K
  try simp only [Act.put]
  refine wpAnyH_ready (rs := [5]) (by kernel_rfl) (by simp) ?_
  refine AllReadyH.cons (o := _) rfl (fun K hK => ?_) AllReadyH.nil
  go_simp
  have cc := HC1.out v0 (HD.out.next B0)
  go_at_call 13
  with_reducible refine cc.mono ?_
  clear cc
  rintro e v1 ⟨x1, rfl, l1, hR1, own, hbn⟩
  have B1 := B0.trans (hbn.mono B0.size)
  obtain ⟨A1, c1, rfl, _, _, LA1⟩ := Gr.own_el Gr.inV 1 Gr.inV_len own
  have hle := Gr.rchq_uniq HR0.out hR1
  subst hle
  have HLA1 := Lib.hid LA1
  have HLB1 := Lib.hid (HLA0.out.next hbn)
  clear own hR1 LA1
  refine hK.out _ _ (HK.out v1 B1) (fun hHeld => ?_)
  clear hK K
  try simp only [Act.put]
  refine wpAnyH_ready (rs := [6]) (by kernel_rfl) (by simp) ?_
  refine AllReadyH.cons (o := _) rfl (fun K hK => ?_) AllReadyH.nil
  go_simp
  have cc := equalIn_any l0 l0 A0 A1 c0 c1 v1 HLB1.out HLA1.out (Nat.le_trans LL0.out (by decide)) (Nat.le_trans LL0.out (by decide))
  rw [decide_eq_true (show l0 = l0 from rfl)] at cc
  go_at_call 11
  with_reducible refine cc.mono ?_
  clear cc
  rintro e v2 ⟨rfl, hbn⟩
  have B2 := B1.trans (hbn.mono B1.size)
  clear hbn
  refine hK.out _ _ (HK.out v2 B2) (fun hHeld => ?_)
  clear hK K
  try simp only [Act.put]
  refine wpAnyH_take (i := 7) (oi := { dst := some 17, op := _, type := _, pos := _, after := _, guard := _ }) (v := ?v5) rfl (by kernel_rfl) (by kernel_rfl) (by kernel_rfl) (fun _ _ _ h => h) (Or.inl ⟨by kernel_rfl, ?hy5⟩) (by assumption) ?rest5
  case hy5 =>
    intro w hSw
    try dsimp only at hSw
    go_simp
    try with_reducible rfl
  try simp only [Act.put]
  refine wpAnyH_take (i := 8) (oi := { dst := some 18, op := _, type := _, pos := _, after := _, guard := _ }) (v := ?v6) rfl (by kernel_rfl) (by kernel_rfl) (by kernel_rfl) (fun _ _ _ h => h) (Or.inl ⟨by kernel_rfl, ?hy6⟩) (by assumption) ?rest6
  case hy6 =>
    intro w hSw
    try dsimp only at hSw
    go_simp
    try with_reducible rfl
  try simp only [Act.put]
  refine wpAnyH_take (i := 9) (oi := { dst := some 19, op := _, type := _, pos := _, after := _, guard := _ }) (v := ?v7) rfl (by kernel_rfl) (by kernel_rfl) (by kernel_rfl) (fun _ _ _ h => h) (Or.inl ⟨by kernel_rfl, ?hy7⟩) (by assumption) ?rest7
  case hy7 =>
    intro w hSw
    try dsimp only at hSw
    go_simp
    try with_reducible rfl
  try simp only [Act.put]
  refine wpAnyH_take (i := 11) (oi := { dst := some 21, op := _, type := _, pos := _, after := _, guard := _ }) (v := ?v8) rfl (by kernel_rfl) (by kernel_rfl) (by kernel_rfl) (fun _ _ _ h => h) (Or.inl ⟨by kernel_rfl, ?hy8⟩) (by assumption) ?rest8
  case hy8 =>
    intro w hSw
    try dsimp only at hSw
    go_simp
    try with_reducible rfl
  try simp only [Act.put]
  refine wpAnyH_take (i := 12) (oi := { dst := some 22, op := _, type := _, pos := _, after := _, guard := _ }) (v := ?v9) rfl (by kernel_rfl) (by kernel_rfl) (by kernel_rfl) (fun _ _ _ h => h) (Or.inl ⟨by kernel_rfl, ?hy9⟩) (by assumption) ?rest9
  case hy9 =>
    intro w hSw
    try dsimp only at hSw
    go_simp
    try with_reducible rfl
  try simp only [Act.put]
  refine wpAnyH_ready (rs := [10]) (by kernel_rfl) (by simp) ?_
  refine AllReadyH.cons (o := _) rfl (fun K hK => ?_) AllReadyH.nil
  go_simp
  have cc := HC3.out v2 (HD.out.next B2)
  go_at_call 14
  with_reducible refine cc.mono ?_
  clear cc
  rintro e v3 ⟨x3, rfl, l3, hR3, own, hbn⟩
  have B3 := B2.trans (hbn.mono B2.size)
  obtain ⟨A3, c3, rfl, _, _, LA3⟩ := Gr.own_el Gr.inV 1 Gr.inV_len own
  have HR3 := Lib.hid (Gr.rch_q hR3)
  have LL3 := Lib.hid (Gr.rchq_len HR3.out)
  have HLA3 := Lib.hid LA3
  clear own hR3 LA3
  refine hK.out _ _ (HK.out v3 B3) (fun hHeld => ?_)
  clear hK K
  try simp only [Act.put]
  refine wpAnyH_ready (rs := [13]) (by kernel_rfl) (by simp) ?_
  refine AllReadyH.cons (o := _) rfl (fun K hK => ?_) AllReadyH.nil
  go_simp
  have cc := HC4.out v3 (HD.out.next B3)
  go_at_call 15
  with_reducible refine cc.mono ?_
  clear cc
  rintro e v4 ⟨x4, rfl, l4, hR4, own, hbn⟩
  have B4 := B3.trans (hbn.mono B3.size)
  obtain ⟨A4, c4, rfl, _, _, LA4⟩ := Gr.own_el Gr.inV 1 Gr.inV_len own
  have hle := Gr.rchq_uniq HR3.out hR4
  subst hle
  have HLA4 := Lib.hid LA4
  have HLB4 := Lib.hid (HLA3.out.next hbn)
  clear own hR4 LA4
  refine hK.out _ _ (HK.out v4 B4) (fun hHeld => ?_)
  clear hK K
  try simp only [Act.put]
  refine wpAnyH_ready (rs := [14]) (by kernel_rfl) (by simp) ?_
  refine AllReadyH.cons (o := _) rfl (fun K hK => ?_) AllReadyH.nil
  go_simp
  have cc := equalIn_any l3 l3 A3 A4 c3 c4 v4 HLB4.out HLA4.out (Nat.le_trans LL3.out (by decide)) (Nat.le_trans LL3.out (by decide))
  rw [decide_eq_true (show l3 = l3 from rfl)] at cc
  go_at_call 11
  with_reducible refine cc.mono ?_
  clear cc
  rintro e v5 ⟨rfl, hbn⟩
  have B5 := B4.trans (hbn.mono B4.size)
  clear hbn
  refine hK.out _ _ (HK.out v5 B5) (fun hHeld => ?_)
  clear hK K
  try simp only [Act.put]
  refine wpAnyH_take (i := 15) (oi := { dst := some 25, op := _, type := _, pos := _, after := _, guard := _ }) (v := ?v10) rfl (by kernel_rfl) (by kernel_rfl) (by kernel_rfl) (fun _ _ _ h => h) (Or.inl ⟨by kernel_rfl, ?hy10⟩) (by assumption) ?rest10
  case hy10 =>
    intro w hSw
    try dsimp only at hSw
    go_simp
    try with_reducible rfl
  try simp only [Act.put]
  refine wpAnyH_take (i := 16) (oi := { dst := some 4, op := _, type := _, pos := _, after := _, guard := _ }) (v := ?v11) rfl (by kernel_rfl) (by kernel_rfl) (by kernel_rfl) (fun _ _ _ h => h) (Or.inl ⟨by kernel_rfl, ?hy11⟩) (by assumption) ?rest11
  case hy11 =>
    intro w hSw
    try dsimp only at hSw
    go_simp
    try with_reducible rfl
  try simp only [Act.put]
  refine wpAnyH_done (by kernel_rfl) ?_ _
  try simp only [List.setIfInBounds_toArray, List.set_cons_zero, List.set_cons_succ]
  go_wp2_with fail
  first | go_ret3 | go_ret2 | go_ret
  exact ⟨rfl, HBD.out.trans (B5.mono HBD.out.size)⟩
end Go.Proofs.Ytdiaejdoglccoaa
