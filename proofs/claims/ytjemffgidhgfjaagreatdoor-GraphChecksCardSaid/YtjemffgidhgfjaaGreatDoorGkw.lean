/- The law GraphChecks. Condition: bytealg's MaxLen lies in its variable. -/
import Derived.Test.YtjemffgidhgfjaaGreatDoorQsm
import Derived.Test.YtjemffgidhgfjaaGreatDoorFew
namespace Go.Proofs.YtjemffgidhgfjaaGreatDoor
open Go.RowKit Go.Deep Tr

set_option maxHeartbeats 8000000 in
set_option maxRecDepth 100000 in
theorem gchecks_law (g : Gph) (A B : Option Addr) (c d : Nat) (r : List Rk.Dn) (R : Option Addr) (n : Nat) (w : World) (hG : GrAt w A B g) (hR : Rk.RcAt w R r) (hM : MaxAt w) :
    Calls Tryz.prog 3 #[grV A B c d g, .slice R r.length n] w fun e w' => e = .returned (.bool true) ∧ Below w.heap.size w w' := by
  obtain ⟨w0, hw0⟩ : ∃ w0, w0 = w.alloc (grO A B c d g) := ⟨_, rfl⟩
  have hb0 : Below w.heap.size w w0 := by rw [hw0]; exact (Below.refl _ _).alloc (Nat.le_refl _) _
  have hg0 : w0.heap[w.heap.size]? = some (grO A B c d g) := by rw [hw0]; exact heap_alloc_new _ _
  have HG := Lib.hid (hG.next hb0)
  have HR := Lib.hid (hR.next hb0)
  have HM := Lib.hid (hM.below hb0)
  have HB0 := Lib.hid hb0
  have HGB := Lib.hid hg0
  obtain ⟨bg, hbg⟩ : ∃ bg, bg = w.heap.size := ⟨_, rfl⟩
  rw [← hbg] at hg0 HGB
  have cc := awake_any w0
  have HW0 := Lib.hid hw0
  have HBG := Lib.hid hbg
  clear hbg hG hR hM hb0 hg0 hw0
  go_enter Tryz.func3, Tryz.ntmps3
  go_upto_region 1 with (fail)
  rw [← HBG.out, ← HW0.out]
  clear HW0 HBG
  go_wp2_with fail
  with_reducible refine cc.mono ?_
  clear cc
  rintro e w1 ⟨rfl, hb1⟩
  have HB1 := Lib.hid hb1
  have cc := few_any g A B c d w1 (HG.out.next hb1)
  obtain ⟨q0, q1, _, _⟩ := gr_cells ((hb1.block _ (blk_lt HGB.out)).trans HGB.out)
  clear hb1
  go_wp2_with fail
  with_reducible refine cc.mono ?_
  clear cc
  rintro e w2 ⟨b, rfl, hb2⟩
  have HB2 := Lib.hid (HB1.out.trans (hb2.mono HB1.out.size))
  clear hb2 HB1 q0 q1
  cases b with
  | false =>
    go_wp2_with fail
    first | go_ret3 | go_ret2 | go_ret
    exact ⟨rfl, HB0.out.trans (HB2.out.mono HB0.out.size)⟩
  | true =>
    have cc := Rk.few_any r R n w2 (HR.out.next HB2.out)
    go_wp2_with fail
    with_reducible refine cc.mono ?_
    clear cc
    rintro e w3 ⟨⟨b, rfl, hf⟩, hb3⟩
    have HB3 := Lib.hid (HB2.out.trans (hb3.mono HB2.out.size))
    clear hb3 HB2
    cases b with
    | false =>
      clear hf
      go_wp2_with fail
      first | go_ret3 | go_ret2 | go_ret
      exact ⟨rfl, HB0.out.trans (HB3.out.mono HB0.out.size)⟩
    | true =>
      have HF := Lib.hid (hf rfl)
      clear hf
      have cc := of_any r R n w3 (HR.out.next HB3.out) HF.out.sht HF.out (HM.out.below HB3.out)
      go_wp2_with fail
      with_reducible refine cc.mono ?_
      clear cc
      rintro e w4 ⟨h, A1, B1, c1, d1, x, rfl, hof, hgr, hb4⟩
      have HOF := Lib.hid hof
      have HB4 := Lib.hid (HB3.out.trans (hb4.mono HB3.out.size))
      have hba : Below w4.heap.size w4 (w4.alloc (grO A1 B1 c1 d1 h)) := (Below.refl _ _).alloc (Nat.le_refl _) _
      have h5 := heap_alloc_new w4 (grO A1 B1 c1 d1 h)
      have hgr5 := hgr.next hba
      have hB5 := HB4.out.trans (hba.mono HB4.out.size)
      go_upto_region 6 with (fail)
      generalize w4.alloc (grO A1 B1 c1 d1 h) = w5 at *
      generalize w4.heap.size = b5 at *
      have HV5 := Lib.hid h5
      have H5 := Lib.hid hgr5
      have HB5 := Lib.hid hB5
      clear hof hgr hb4 hba h5 hgr5 hB5 HB4 HB3
      have cc := qof_any r R n w5 (HR.out.next HB5.out) HF.out.sht HF.out
      go_wp2_with fail
      with_reducible refine cc.mono ?_
      clear cc
      rintro e w6 ⟨h', A2, B2, c2, d2, x', rfl, hof', hgr', hb6⟩
      obtain ⟨rfl, rfl⟩ := HOF.out.uniq hof'
      have HB6 := Lib.hid (HB5.out.trans (hb6.mono HB5.out.size))
      have hba : Below w6.heap.size w6 (w6.alloc (grO A2 B2 c2 d2 h)) := (Below.refl _ _).alloc (Nat.le_refl _) _
      have h7 := heap_alloc_new w6 (grO A2 B2 c2 d2 h)
      have hgr7 := hgr'.next hba
      have hB7 := HB6.out.trans (hba.mono HB6.out.size)
      have hb67 := hb6.trans (hba.mono hb6.size)
      have HV6 := Lib.hid ((hb67.block _ (blk_lt HV5.out)).trans HV5.out)
      have H56 := Lib.hid (H5.out.next hb67)
      go_upto_region 7 with (fail)
      generalize w6.alloc (grO A2 B2 c2 d2 h) = W9 at *
      generalize w6.heap.size = b7 at *
      have HV7 := Lib.hid h7
      have hdr : Below W9.heap.size W9 W9.drew := (Below.refl _ _).drew
      have HBD := Lib.hid (hB7.trans (hdr.mono hB7.size))
      have H79 := Lib.hid (hgr7.next hdr)
      have H59 := Lib.hid (H56.out.next hdr)
      have HG9 := Lib.hid (HG.out.next HBD.out)
      have hvg := (HBD.out.block _ (blk_lt HGB.out)).trans HGB.out
      have hv5 := (hdr.block _ (blk_lt HV6.out)).trans HV6.out
      have hv7 := (hdr.block _ (blk_lt HV7.out)).trans HV7.out
      obtain ⟨bg0, bg1, _, _⟩ := gr_cells hvg
      obtain ⟨b50, b51, _, _⟩ := gr_cells hv5
      obtain ⟨b70, b71, _, _⟩ := gr_cells hv7
      have hbg := blk_lt hvg
      have hb5 := blk_lt hv5
      have hb7 := blk_lt hv7
      have cc := check_any g A B c d W9.drew HG9.out
      obtain ⟨V, hV⟩ : ∃ V, Gr.chk g = V := ⟨_, rfl⟩
      have HV := Lib.hid hV
      rw [hV] at cc
      have v1 : (V == V) = true := beq_self_eq_true V
      have v2 : (x == x) = true := beq_self_eq_true x
      have HK := Lib.hid (fun (w5 : World) (h5 : Below W9.drew.heap.size W9.drew w5) => show (fun w' : World => w'.cell? ⟨bg, 0, none⟩ = some (.slice A g.ns.length c) ∧ w'.cell? ⟨bg, 1, none⟩ = some (.slice B g.es.length d) ∧ w'.cell? ⟨b5, 0, none⟩ = some (.slice A1 h.ns.length c1) ∧ w'.cell? ⟨b5, 1, none⟩ = some (.slice B1 h.es.length d1) ∧ w'.cell? ⟨b7, 0, none⟩ = some (.slice A2 h.ns.length c2) ∧ w'.cell? ⟨b7, 1, none⟩ = some (.slice B2 h.es.length d2)) w5 from ⟨(h5.cell (p := ⟨bg, 0, none⟩) hbg).trans bg0, (h5.cell (p := ⟨bg, 1, none⟩) hbg).trans bg1, (h5.cell (p := ⟨b5, 0, none⟩) hb5).trans b50, (h5.cell (p := ⟨b5, 1, none⟩) hb5).trans b51, (h5.cell (p := ⟨b7, 0, none⟩) hb7).trans b70, (h5.cell (p := ⟨b7, 1, none⟩) hb7).trans b71⟩)
      clear hV hof' hgr' hb6 hba h7 hgr7 hB7 hb67 hdr hvg hv5 hv7 bg0 bg1 b50 b51 b70 b71
      refine wp_region_held_drew (S := (fun w' : World => w'.cell? ⟨bg, 0, none⟩ = some (.slice A g.ns.length c) ∧ w'.cell? ⟨bg, 1, none⟩ = some (.slice B g.es.length d) ∧ w'.cell? ⟨b5, 0, none⟩ = some (.slice A1 h.ns.length c1) ∧ w'.cell? ⟨b5, 1, none⟩ = some (.slice B1 h.es.length d1) ∧ w'.cell? ⟨b7, 0, none⟩ = some (.slice A2 h.ns.length c2) ∧ w'.cell? ⟨b7, 1, none⟩ = some (.slice B2 h.es.length d2))) (by kernel_rfl) (HK.out _ (Below.refl _ _)) (fun hHeld => ?_)
      refine wpAnyH_take (i := 0) (oi := { dst := some 29, op := _, type := _, pos := _, after := _, guard := _ }) (v := ?v1) rfl (by kernel_rfl) (by kernel_rfl) (by kernel_rfl) (fun _ _ _ h => h) (Or.inl ⟨by kernel_rfl, ?hy1⟩) (by assumption) ?rest1
      case hy1 =>
        intro w hSw
        try dsimp only at hSw
        go_simp
        try with_reducible rfl
      try simp only [Act.put]
      refine wpAnyH_take (i := 2) (oi := { dst := some 31, op := _, type := _, pos := _, after := _, guard := _ }) (v := ?v2) rfl (by kernel_rfl) (by kernel_rfl) (by kernel_rfl) (fun _ _ _ h => h) (Or.inl ⟨by kernel_rfl, ?hy2⟩) (by assumption) ?rest2
      case hy2 =>
        intro w hSw
        try dsimp only at hSw
        go_simp
        try with_reducible rfl
      try simp only [Act.put]
      refine wpAnyH_ready (rs := [1]) (by kernel_rfl) (by simp) ?_
      refine AllReadyH.cons (o := _) rfl (fun K hK => ?_) AllReadyH.nil
      go_simp
      go_at_call 10
      with_reducible refine cc.mono ?_
      clear cc
      rintro e wa ⟨rfl, hba⟩
      have HBa := Lib.hid hba
      refine hK.out _ _ (HK.out _ HBa.out) (fun hHeld => ?_)
      clear hK K
      try simp only [Act.put]
      refine wpAnyH_ready (rs := [3]) (by kernel_rfl) (by simp) ?_
      refine AllReadyH.cons (o := _) rfl (fun K hK => ?_) AllReadyH.nil
      have cc := qcheck_any g A B c d wa (HG9.out.next HBa.out)
      rw [HV.out] at cc
      go_simp
      go_at_call 11
      with_reducible refine cc.mono ?_
      clear cc
      rintro e wb ⟨rfl, hbb⟩
      have HBb := Lib.hid (HBa.out.trans (hbb.mono HBa.out.size))
      refine hK.out _ _ (HK.out _ HBb.out) (fun hHeld => ?_)
      clear hK K
      try simp only [Act.put]
      refine wpAnyH_take (i := 4) (oi := { dst := some 33, op := _, type := _, pos := _, after := _, guard := _ }) (v := ?v3) rfl (by kernel_rfl) (by kernel_rfl) (by kernel_rfl) (fun _ _ _ h => h) (Or.inl ⟨by kernel_rfl, ?hy3⟩) (by assumption) ?rest3
      case hy3 =>
        intro w hSw
        try dsimp only at hSw
        go_simp
        try with_reducible rfl
      try simp only [Act.put]
      refine wpAnyH_take (i := 5) (oi := { dst := some 34, op := _, type := _, pos := _, after := _, guard := _ }) (v := ?v4) rfl (by kernel_rfl) (by kernel_rfl) (by kernel_rfl) (fun _ _ _ h => h) (Or.inl ⟨by kernel_rfl, ?hy4⟩) (by assumption) ?rest4
      case hy4 =>
        intro w hSw
        try dsimp only at hSw
        go_simp
        try with_reducible rfl
      try simp only [Act.put]
      refine wpAnyH_take (i := 6) (oi := { dst := some 35, op := _, type := _, pos := _, after := _, guard := _ }) (v := ?v5) rfl (by kernel_rfl) (by kernel_rfl) (by kernel_rfl) (fun _ _ _ h => h) (Or.inl ⟨by kernel_rfl, ?hy5⟩) (by assumption) ?rest5
      case hy5 =>
        intro w hSw
        try dsimp only at hSw
        go_simp
        try with_reducible rfl
      try simp only [Act.put]
      refine wpAnyH_take (i := 7) (oi := { dst := some 36, op := _, type := _, pos := _, after := _, guard := _ }) (v := ?v6) rfl (by kernel_rfl) (by kernel_rfl) (by kernel_rfl) (fun _ _ _ h => h) (Or.inl ⟨by kernel_rfl, ?hy6⟩) (by assumption) ?rest6
      case hy6 =>
        intro w hSw
        try dsimp only at hSw
        go_simp
        try with_reducible rfl
      try simp only [Act.put]
      refine wpAnyH_take (i := 8) (oi := { dst := some 37, op := _, type := _, pos := _, after := _, guard := _ }) (v := ?v7) rfl (by kernel_rfl) (by kernel_rfl) (by kernel_rfl) (fun _ _ _ h => h) (Or.inl ⟨by kernel_rfl, ?hy7⟩) (by assumption) ?rest7
      case hy7 =>
        intro w hSw
        try dsimp only at hSw
        go_simp
        try with_reducible rfl
      try simp only [Act.put]
      refine wpAnyH_take (i := 9) (oi := { dst := some 38, op := _, type := _, pos := _, after := _, guard := _ }) (v := ?v8) rfl (by kernel_rfl) (by kernel_rfl) (by kernel_rfl) (fun _ _ _ h => h) (Or.inl ⟨by kernel_rfl, ?hy8⟩) (by assumption) ?rest8
      case hy8 =>
        intro w hSw
        try dsimp only at hSw
        go_simp
        try with_reducible rfl
      try simp only [Act.put]
      refine wpAnyH_take (i := 10) (oi := { dst := some 39, op := _, type := _, pos := _, after := _, guard := _ }) (v := ?v9) rfl (by kernel_rfl) (by kernel_rfl) (by kernel_rfl) (fun _ _ _ h => h) (Or.inl ⟨by kernel_rfl, ?hy9⟩) (by assumption) ?rest9
      case hy9 =>
        intro w hSw
        try dsimp only at hSw
        go_simp
        try with_reducible rfl
      try simp only [Act.put]
      refine wpAnyH_take (i := 11) (oi := { dst := some 40, op := _, type := _, pos := _, after := _, guard := _ }) (v := ?v10) rfl (by kernel_rfl) (by kernel_rfl) (by kernel_rfl) (fun _ _ _ h => h) (Or.inl ⟨by kernel_rfl, ?hy10⟩) (by assumption) ?rest10
      case hy10 =>
        intro w hSw
        try dsimp only at hSw
        go_simp
        try with_reducible rfl
      try simp only [Act.put]
      refine wpAnyH_take (i := 12) (oi := { dst := some 41, op := _, type := _, pos := _, after := _, guard := _ }) (v := ?v11) rfl (by kernel_rfl) (by kernel_rfl) (by kernel_rfl) (fun _ _ _ h => h) (Or.inl ⟨by kernel_rfl, ?hy11⟩) (by assumption) ?rest11
      case hy11 =>
        intro w hSw
        try dsimp only at hSw
        go_simp
        try with_reducible rfl
      try simp only [Act.put]
      refine wpAnyH_ready (rs := [13]) (by kernel_rfl) (by simp) ?_
      refine AllReadyH.cons (o := _) rfl (fun K hK => ?_) AllReadyH.nil
      have cc := qsame_any h A1 B1 A2 B2 c1 d1 c2 d2 wb (H59.out.next HBb.out) (H79.out.next HBb.out)
      go_simp
      go_at_call 12
      with_reducible refine cc.mono ?_
      clear cc
      rintro e wc ⟨rfl, hbc⟩
      have HBc := Lib.hid (HBb.out.trans (hbc.mono HBb.out.size))
      refine hK.out _ _ (HK.out _ HBc.out) (fun hHeld => ?_)
      clear hK K
      try simp only [Act.put]
      refine wpAnyH_take (i := 14) (oi := { dst := some 43, op := _, type := _, pos := _, after := _, guard := _ }) (v := ?v12) rfl (by kernel_rfl) (by kernel_rfl) (by kernel_rfl) (fun _ _ _ h => h) (Or.inl ⟨by kernel_rfl, ?hy12⟩) (by assumption) ?rest12
      case hy12 =>
        intro w hSw
        try dsimp only at hSw
        go_simp
        try with_reducible rfl
      try simp only [Act.put]
      refine wpAnyH_take (i := 15) (oi := { dst := some 4, op := _, type := _, pos := _, after := _, guard := _ }) (v := ?v13) rfl (by kernel_rfl) (by kernel_rfl) (by kernel_rfl) (fun _ _ _ h => h) (Or.inl ⟨by kernel_rfl, ?hy13⟩) (by assumption) ?rest13
      case hy13 =>
        intro w hSw
        try dsimp only at hSw
        go_simp
        try with_reducible rfl
      try simp only [Act.put]
      refine wpAnyH_done (by kernel_rfl) ?_ _
      try simp only [List.setIfInBounds_toArray, List.set_cons_zero, List.set_cons_succ]
      go_wp2_with fail
      first | go_ret3 | go_ret2 | go_ret
      exact ⟨rfl, HB0.out.trans ((HBD.out.trans (HBc.out.mono HBD.out.size)).mono HB0.out.size)⟩
end Go.Proofs.YtjemffgidhgfjaaGreatDoor
