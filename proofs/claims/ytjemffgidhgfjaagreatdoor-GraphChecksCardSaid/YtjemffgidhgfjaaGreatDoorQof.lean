/- Of of the reference. No condition but the lengths. -/
import Derived.Test.YtjemffgidhgfjaaGreatDoorQos
namespace Go.Proofs.YtjemffgidhgfjaaGreatDoor
open Go.RowKit Go.Deep Tr

set_option maxHeartbeats 16000000 in
set_option maxRecDepth 100000 in
theorem qof_any (r : List Rk.Dn) (A : Option Addr) (c : Nat) (w : World) (hA : Rk.RcAt w A r) (hS : r.length ≤ 1024 → Rk.Sht r) (hF : Rk.FewP r) :
    Calls Tryz.prog 9 #[.slice A r.length c] w (GotGr w r) := by
  have HA := Lib.hid hA
  have hb0 : Below w.heap.size w (w.alloc (.cells #[.slice none 0 0, .slice none 0 0] 25)) := (Below.refl _ _).alloc (Nat.le_refl _) _
  have hN0 := heap_alloc_new w (.cells #[.slice none 0 0, .slice none 0 0] 25)
  have cc := Rk.qcheck_any r A c (w.alloc (.cells #[.slice none 0 0, .slice none 0 0] 25)) (hA.next hb0) hS
  by_cases hz : Rk.Rc.chk r = 0
  · rw [hz] at cc
    have HZ := Lib.hid hz
    have hL := (Rk.Rc.zero_chk hz).1
    have HFS : r.length ≤ 12 ∧ ∀ s ∈ r, s.rds.length ≤ 12 := by
      rcases hF with h | ⟨h, h2⟩
      · omega
      · exact ⟨h, fun s hs => (h2 s hs).1⟩
    have hL12 := HFS.1
    have HZR := Lib.hid (show ∀ i (h : i < r.length), 0 < r[i].rds.length ∧ r[i].rds.length ≤ 12 from fun i h => ⟨(Rk.Rc.head_len (Rk.Rc.zero_step ((Rk.Rc.zero_chk hz).2 i h)).1).1, HFS.2 _ (List.getElem_mem h)⟩)
    have HB0 := Lib.hid hb0
    have HN0 := Lib.hid hN0
    clear hA hS hz hb0 hN0 HFS hF hL
    go_enter Tryz.func9, Tryz.ntmps9
    go_wp2_with fail
    with_reducible refine cc.mono ?_
    clear cc
    rintro e w1 ⟨rfl, hb1⟩
    have HB1 := Lib.hid (HB0.out.trans (hb1.mono HB0.out.size))
    have HN1 := Lib.hid ((hb1.block _ (blk_lt HN0.out)).trans HN0.out)
    clear hb1 HB0 HN0
    have hgA := heap_alloc_new w1 (.cells #[.slice none 0 0, .slice none 0 0] 25)
    obtain ⟨a0, a1, z0, z1⟩ := gr_cells hgA
    go_upto_region 4 with (fail)
    have hlt1 : w.heap.size < w1.heap.size := blk_lt HN1.out
    have hwA : Below w1.heap.size w1 (w1.alloc (.cells #[.slice none 0 0, .slice none 0 0] 25)) := (Below.refl _ _).alloc (Nat.le_refl _) _
    obtain ⟨gb, hgb⟩ : ∃ gb, gb = w1.heap.size := ⟨_, rfl⟩
    have hst0 : Gr.NSt w (w1.alloc (.cells #[.slice none 0 0, .slice none 0 0] 25)) w.heap.size gb [] [] none none 0 0 := ⟨by rw [hgb]; exact hgA, (hwA.block _ hlt1).trans HN1.out, by omega, by omega, HB1.out.trans (hwA.mono HB1.out.size), Rk.Rc.ElAt.nil _ _ _ _ _, Gr.ElAt.nil _ _ _ _ _, .inl ⟨rfl, rfl, rfl⟩, .inl ⟨rfl, rfl, rfl⟩⟩
    have HGB := Lib.hid (show w.heap.size < gb by omega)
    rw [← hgb]
    generalize w1.alloc (.cells #[.slice none 0 0, .slice none 0 0] 25) = W at *
    have HST0 := Lib.hid hst0
    clear a0 a1 z0 z1 hgA hlt1 hwA hgb hst0 HN1 HB1
    go_wp2_with fail
    go_loopw [5, 6] (fun s5 s6 wr => ∃ (k n : Nat) (L : List (List UInt8)) (A1 : Option Addr) (c1 : Nat), s5 = .int .i64 n ∧ s6 = .int .i64 k ∧ k ≤ r.length ∧ n ≤ 12 * k ∧ Rk.Rc.Asc L ∧ (∀ x, x ∈ L ↔ x ∈ Gr.pths (r.take k)) ∧ L.length ≤ 13 * k ∧ Gr.NSt w wr w.heap.size gb L [] A1 none c1 0) (fun _ s6 _ => r.length - (intOf s6).toNat)
    case atStart => exact ⟨0, 0, [], none, 0, rfl, rfl, Nat.zero_le _, Nat.zero_le _, List.Pairwise.nil, fun x => by simp [Gr.pths], Nat.zero_le _, HST0.out⟩
    case round =>
      clear HST0
      obtain ⟨w00, hw00⟩ : ∃ x : World, x = wr := ⟨wr, rfl⟩
      subst hw00
      obtain ⟨k, n, L, A1, c1, rfl, rfl, hk, hn, hasc, hmem, hlen, hst⟩ := hrel
      have HMEM := Lib.hid hmem
      have HASC := Lib.hid hasc
      have HST := Lib.hid hst
      clear hmem hasc hst
      by_cases hlt : k < r.length
      · have j1 : decide ((k : Int) < (r.length : Int)) = true := decide_eq_true (by omega)
        have j1n : decide (k < r.length) = true := decide_eq_true hlt
        have y1 : (k : Int) < (r.length : Int) := by omega
        obtain ⟨g0, o, rfl, hg, hc⟩ := HA.out.st k hlt
        have HG := Lib.hid hg
        have d3 := hc 3 _ rfl
        have d4 := hc 4 _ rfl
        obtain ⟨g1, o1, hxA, hg1, hc1⟩ := (HA.out.rd r[k] (List.getElem_mem hlt)).row (HZR.out k hlt).1
        rw [hxA] at d3
        have HC1 := Lib.hid hc1
        have HPT := Lib.hid (Gr.pths_take hlt)
        have hxz := HZR.out k hlt
        clear hc hc1
        generalize r[k] = x at *
        have HD := Lib.hid (show w.cell? ⟨g0, o + k * 6 + 3, none⟩ = some (.slice (some ⟨g1, o1, none⟩) x.rds.length x.c) ∧ w.cell? ⟨g0, o + k * 6 + 4, none⟩ = some (.string (str x.wr.pth)) from ⟨d3, d4⟩)
        clear d3 d4
        go_wp2_with fail
        go_loopw [7] (fun s7 wr => ∃ (j : Nat) (L2 : List (List UInt8)) (A2 : Option Addr) (c2 : Nat), s7 = .int .i64 j ∧ j ≤ x.rds.length ∧ Rk.Rc.Asc L2 ∧ (∀ y, y ∈ L2 ↔ y ∈ Gr.pths (r.take k) ∨ y ∈ (x.rds.take j).map (·.pth)) ∧ L2.length ≤ 13 * k + j ∧ Gr.NSt w wr w.heap.size gb L2 [] A2 none c2 0) (fun s7 _ => x.rds.length - (intOf s7).toNat)
        case atStart => exact ⟨0, L, A1, c1, rfl, Nat.zero_le _, HASC.out, fun y => by rw [HMEM.out y]; simp, by omega, HST.out⟩
        case round =>
          clear HST HMEM HASC
          obtain ⟨j, L2, A2, c2, rfl, hj, hasc, hmem, hlen2, hst⟩ := hrel
          have HMEM := Lib.hid hmem
          have HASC := Lib.hid hasc
          have HST := Lib.hid hst
          have HSD := Lib.hid (hst.next (Below.refl _ _).drew)
          have d3 := (hst.bw.cell (p := ⟨g0, o + k * 6 + 3, none⟩) HG.out).trans HD.out.1
          have d4 := (hst.bw.cell (p := ⟨g0, o + k * 6 + 4, none⟩) HG.out).trans HD.out.2
          have e3 := (HSD.out.bw.cell (p := ⟨g0, o + k * 6 + 3, none⟩) HG.out).trans HD.out.1
          have e4 := (HSD.out.bw.cell (p := ⟨g0, o + k * 6 + 4, none⟩) HG.out).trans HD.out.2
          clear hmem hasc hst
          by_cases hlj : j < x.rds.length
          · have m1 : decide ((j : Int) < (x.rds.length : Int)) = true := decide_eq_true (by omega)
            have m1n : decide (j < x.rds.length) = true := decide_eq_true hlj
            have y4 : (j : Int) < (x.rds.length : Int) := by omega
            have f0 := (HSD.out.bw.cell (p := ⟨g1, o1 + j * 2 + 0, none⟩) hg1).trans (HC1.out j hlj 0 _ rfl)
            rw [show o1 + j * 2 + 0 = o1 + j * 2 from rfl] at f0
            have HTK := Lib.hid (show x.rds.take (j + 1) = x.rds.take j ++ [x.rds[j]] from List.take_succ_eq_append_getElem hlj)
            generalize x.rds[j] = t at *
            have hgd : g0 < wr.drew.heap.size := Nat.lt_of_lt_of_le HG.out HSD.out.bw.size
            have hgd1 : g1 < wr.drew.heap.size := Nat.lt_of_lt_of_le hg1 HSD.out.bw.size
            have cc := qins_opt L2 t.pth A2 c2 wr.drew HSD.out.st HSD.out.so (by omega)
            have HK := Lib.hid (fun (w5 : World) (h5 : Below wr.drew.heap.size wr.drew w5) => show (fun w' : World => w'.cell? ⟨g0, o + k * 6 + 3, none⟩ = some (.slice (some ⟨g1, o1, none⟩) x.rds.length x.c) ∧ w'.cell? ⟨g1, o1 + j * 2, none⟩ = some (.string (str t.pth))) w5 from ⟨(h5.cell (p := ⟨g0, o + k * 6 + 3, none⟩) hgd).trans e3, (h5.cell (p := ⟨g1, o1 + j * 2, none⟩) hgd1).trans f0⟩)
            have HKS := Lib.hid (fun (w5 : World) (h5 : Below wr.drew.heap.size wr.drew w5) (v : Value) => show (fun w' : World => w'.cell? ⟨g0, o + k * 6 + 3, none⟩ = some (.slice (some ⟨g1, o1, none⟩) x.rds.length x.c) ∧ w'.cell? ⟨g1, o1 + j * 2, none⟩ = some (.string (str t.pth))) (w5.setCell ⟨gb, 0, none⟩ v) from ⟨(Gr.cell_set_far v (by have := HGB.out; have := HG.out; omega)).trans ((h5.cell (p := ⟨g0, o + k * 6 + 3, none⟩) hgd).trans e3), (Gr.cell_set_far v (by have := HGB.out; have := HG.out; omega)).trans ((h5.cell (p := ⟨g1, o1 + j * 2, none⟩) hgd1).trans f0)⟩)
            go_upto_region 11 with (fail)
            obtain ⟨q0, q1, _, _⟩ := gr_cells HSD.out.gr
            clear d3 d4 e3 e4 f0
            refine wp_region_held_drew (S := (fun w' : World => w'.cell? ⟨g0, o + k * 6 + 3, none⟩ = some (.slice (some ⟨g1, o1, none⟩) x.rds.length x.c) ∧ w'.cell? ⟨g1, o1 + j * 2, none⟩ = some (.string (str t.pth)))) (by kernel_rfl) (HK.out _ (Below.refl _ _)) (fun hHeld => ?_)
            refine wpAnyH_take (i := 0) (oi := { dst := some 31, op := _, type := _, pos := _, after := _, guard := _ }) (v := ?v1) rfl (by kernel_rfl) (by kernel_rfl) (by kernel_rfl) (fun _ _ _ h => h) (Or.inl ⟨by kernel_rfl, ?hy1⟩) (by assumption) ?rest1
            case hy1 =>
              intro w hSw
              try dsimp only at hSw
              go_simp
              try with_reducible rfl
            try simp only [Act.put]
            refine wpAnyH_take (i := 2) (oi := { dst := some 33, op := _, type := _, pos := _, after := _, guard := _ }) (v := ?v2) rfl (by kernel_rfl) (by kernel_rfl) (by kernel_rfl) (fun _ _ _ h => h) (Or.inl ⟨by kernel_rfl, ?hy2⟩) (by assumption) ?rest2
            case hy2 =>
              intro w hSw
              try dsimp only at hSw
              go_simp
              try with_reducible rfl
            try simp only [Act.put]
            refine wpAnyH_take (i := 3) (oi := { dst := some 34, op := _, type := _, pos := _, after := _, guard := _ }) (v := ?v3) rfl (by kernel_rfl) (by kernel_rfl) (by kernel_rfl) (fun _ _ _ h => h) (Or.inl ⟨by kernel_rfl, ?hy3⟩) (by assumption) ?rest3
            case hy3 =>
              intro w hSw
              try dsimp only at hSw
              go_simp
              try with_reducible rfl
            try simp only [Act.put]
            refine wpAnyH_take (i := 4) (oi := { dst := some 35, op := _, type := _, pos := _, after := _, guard := _ }) (v := ?v4) rfl (by kernel_rfl) (by kernel_rfl) (by kernel_rfl) (fun _ _ _ h => h) (Or.inl ⟨by kernel_rfl, ?hy4⟩) (by assumption) ?rest4
            case hy4 =>
              intro w hSw
              try dsimp only at hSw
              go_simp
              try with_reducible rfl
            try simp only [Act.put]
            refine wpAnyH_take (i := 5) (oi := { dst := some 36, op := _, type := _, pos := _, after := _, guard := _ }) (v := ?v5) rfl (by kernel_rfl) (by kernel_rfl) (by kernel_rfl) (fun _ _ _ h => h) (Or.inl ⟨by kernel_rfl, ?hy5⟩) (by assumption) ?rest5
            case hy5 =>
              intro w hSw
              try dsimp only at hSw
              go_simp
              try with_reducible rfl
            try simp only [Act.put]
            refine wpAnyH_take (i := 6) (oi := { dst := some 37, op := _, type := _, pos := _, after := _, guard := _ }) (v := ?v6) rfl (by kernel_rfl) (by kernel_rfl) (by kernel_rfl) (fun _ _ _ h => h) (Or.inl ⟨by kernel_rfl, ?hy6⟩) (by assumption) ?rest6
            case hy6 =>
              intro w hSw
              try dsimp only at hSw
              go_simp
              try with_reducible rfl
            try simp only [Act.put]
            refine wpAnyH_take (i := 7) (oi := { dst := some 38, op := _, type := _, pos := _, after := _, guard := _ }) (v := ?v7) rfl (by kernel_rfl) (by kernel_rfl) (by kernel_rfl) (fun _ _ _ h => h) (Or.inl ⟨by kernel_rfl, ?hy7⟩) (by assumption) ?rest7
            case hy7 =>
              intro w hSw
              try dsimp only at hSw
              go_simp
              try with_reducible rfl
            try simp only [Act.put]
            refine wpAnyH_take (i := 8) (oi := { dst := some 39, op := _, type := _, pos := _, after := _, guard := _ }) (v := ?v8) rfl (by kernel_rfl) (by kernel_rfl) (by kernel_rfl) (fun _ _ _ h => h) (Or.inl ⟨by kernel_rfl, ?hy8⟩) (by assumption) ?rest8
            case hy8 =>
              intro w hSw
              try dsimp only at hSw
              go_simp
              try with_reducible rfl
            try simp only [Act.put]
            refine wpAnyH_take (i := 9) (oi := { dst := some 40, op := _, type := _, pos := _, after := _, guard := _ }) (v := ?v9) rfl (by kernel_rfl) (by kernel_rfl) (by kernel_rfl) (fun _ _ _ h => h) (Or.inl ⟨by kernel_rfl, ?hy9⟩) (by assumption) ?rest9
            case hy9 =>
              intro w hSw
              try dsimp only at hSw
              go_simp
              try with_reducible rfl
            try simp only [Act.put]
            refine wpAnyH_take (i := 10) (oi := { dst := some 41, op := _, type := _, pos := _, after := _, guard := _ }) (v := ?v10) rfl (by kernel_rfl) (by kernel_rfl) (by kernel_rfl) (fun _ _ _ h => h) (Or.inl ⟨by kernel_rfl, ?hy10⟩) (by assumption) ?rest10
            case hy10 =>
              intro w hSw
              try dsimp only at hSw
              go_simp
              try with_reducible rfl
            try simp only [Act.put]
            refine wpAnyH_ready (rs := [1]) (by kernel_rfl) (by simp) ?_
            refine AllReadyH.cons (o := _) rfl (fun K hK => ?_) AllReadyH.nil
            go_simp
            refine hK.out _ _ (HK.out _ (Below.refl _ _)) (fun hHeld => ?_)
            clear hK K
            try simp only [Act.put]
            refine wpAnyH_ready (rs := [11]) (by kernel_rfl) (by simp) ?_
            refine AllReadyH.cons (o := _) rfl (fun K hK => ?_) AllReadyH.nil
            go_simp
            go_at_call 34
            with_reducible refine cc.mono ?_
            clear cc
            rintro e w4 ⟨L4, g4, o4, c4, rfl, hins, hlc, hcm, hel, hb4⟩
            obtain ⟨hasc4, hmem4, hlen4⟩ := hins.asc HASC.out
            have HI4 := Lib.hid (And.intro hasc4 hmem4)
            have HL4 := Lib.hid hlen4
            have HB4 := Lib.hid hb4
            have hs4 := HSD.out.next hb4
            obtain ⟨q0, q1, z0, z1⟩ := gr_cells hs4.gr
            have HS5 := Lib.hid (hs4.setN hel hlc hcm)
            clear hins hlc hcm hel hs4 hasc4 hmem4 hlen4
            refine hK.out _ _ (HK.out w4 hb4) (fun hHeld => ?_)
            clear hK K
            try simp only [Act.put]
            refine wpAnyH_take (i := 12) (oi := { dst := some 43, op := _, type := _, pos := _, after := _, guard := _ }) (v := ?v11) rfl (by kernel_rfl) (by kernel_rfl) (by kernel_rfl) (fun _ _ _ h => h) (Or.inl ⟨by kernel_rfl, ?hy11⟩) (by assumption) ?rest11
            case hy11 =>
              intro w hSw
              try dsimp only at hSw
              go_simp
              try with_reducible rfl
            try simp only [Act.put]
            refine wpAnyH_ready (rs := [13]) (by kernel_rfl) (by simp) ?_
            refine AllReadyH.cons (o := _) rfl (fun K hK => ?_) AllReadyH.nil
            go_simp
            refine hK.out _ _ (HKS.out w4 HB4.out _) (fun hHeld => ?_)
            clear hK K
            try simp only [Act.put]
            refine wpAnyH_done (by kernel_rfl) ?_ _
            try simp only [List.setIfInBounds_toArray, List.set_cons_zero, List.set_cons_succ]
            have HN := Lib.hid (show ∀ y, y ∈ L4 ↔ y ∈ Gr.pths (r.take k) ∨ y ∈ (x.rds.take (j + 1)).map (·.pth) from fun y => by
              rw [HI4.out.2 y, HMEM.out y, HTK.out, List.map_append, List.mem_append, or_assoc, List.map_singleton, List.mem_singleton])
            have hl5 := HL4.out
            clear hb4 HK HKS q0 q1 z0 z1
            go_wp2_with fail
            go_roundw
            case rel => exact ⟨j + 1, L4, _, c4, by go_num, by omega, HI4.out.1, HN.out, by omega, HS5.out⟩
            case measure => simp [intOf]; omega
          · have m1 : decide ((j : Int) < (x.rds.length : Int)) = false := decide_eq_false (by omega)
            have m1n : decide (j < x.rds.length) = false := decide_eq_false hlj
            have hjl : j = x.rds.length := by omega
            have HMM := Lib.hid (show ∀ y, y ∈ L2 ∨ y = x.wr.pth ↔ y ∈ Gr.pths (r.take (k + 1)) from fun y => by
              rw [HMEM.out y, HPT.out, List.mem_append, hjl, List.take_length]
              unfold Rk.Rc.tcs
              rw [List.map_append, List.mem_append, or_assoc, List.map_singleton, List.mem_singleton])
            have hgd : g0 < wr.drew.heap.size := Nat.lt_of_lt_of_le HG.out HSD.out.bw.size
            have cc := qins_opt L2 x.wr.pth A2 c2 wr.drew HSD.out.st HSD.out.so (by omega)
            have HK := Lib.hid (fun (w5 : World) (h5 : Below wr.drew.heap.size wr.drew w5) => show (fun w' : World => w'.cell? ⟨g0, o + k * 6 + 3, none⟩ = some (.slice (some ⟨g1, o1, none⟩) x.rds.length x.c) ∧ w'.cell? ⟨g0, o + k * 6 + 4, none⟩ = some (.string (str x.wr.pth))) w5 from ⟨(h5.cell (p := ⟨g0, o + k * 6 + 3, none⟩) hgd).trans e3, (h5.cell (p := ⟨g0, o + k * 6 + 4, none⟩) hgd).trans e4⟩)
            have HKS := Lib.hid (fun (w5 : World) (h5 : Below wr.drew.heap.size wr.drew w5) (v : Value) => show (fun w' : World => w'.cell? ⟨g0, o + k * 6 + 3, none⟩ = some (.slice (some ⟨g1, o1, none⟩) x.rds.length x.c) ∧ w'.cell? ⟨g0, o + k * 6 + 4, none⟩ = some (.string (str x.wr.pth))) (w5.setCell ⟨gb, 0, none⟩ v) from ⟨(Gr.cell_set_far v (by have := HGB.out; have := HG.out; omega)).trans ((h5.cell (p := ⟨g0, o + k * 6 + 3, none⟩) hgd).trans e3), (Gr.cell_set_far v (by have := HGB.out; have := HG.out; omega)).trans ((h5.cell (p := ⟨g0, o + k * 6 + 4, none⟩) hgd).trans e4)⟩)
            go_upto_region 12 with (fail)
            obtain ⟨q0, q1, _, _⟩ := gr_cells HSD.out.gr
            clear d3 d4 e3 e4
            refine wp_region_held_drew (S := (fun w' : World => w'.cell? ⟨g0, o + k * 6 + 3, none⟩ = some (.slice (some ⟨g1, o1, none⟩) x.rds.length x.c) ∧ w'.cell? ⟨g0, o + k * 6 + 4, none⟩ = some (.string (str x.wr.pth)))) (by kernel_rfl) (HK.out _ (Below.refl _ _)) (fun hHeld => ?_)
            refine wpAnyH_take (i := 0) (oi := { dst := some 44, op := _, type := _, pos := _, after := _, guard := _ }) (v := ?v12) rfl (by kernel_rfl) (by kernel_rfl) (by kernel_rfl) (fun _ _ _ h => h) (Or.inl ⟨by kernel_rfl, ?hy12⟩) (by assumption) ?rest12
            case hy12 =>
              intro w hSw
              try dsimp only at hSw
              go_simp
              try with_reducible rfl
            try simp only [Act.put]
            refine wpAnyH_take (i := 2) (oi := { dst := some 46, op := _, type := _, pos := _, after := _, guard := _ }) (v := ?v13) rfl (by kernel_rfl) (by kernel_rfl) (by kernel_rfl) (fun _ _ _ h => h) (Or.inl ⟨by kernel_rfl, ?hy13⟩) (by assumption) ?rest13
            case hy13 =>
              intro w hSw
              try dsimp only at hSw
              go_simp
              try with_reducible rfl
            try simp only [Act.put]
            refine wpAnyH_take (i := 3) (oi := { dst := some 47, op := _, type := _, pos := _, after := _, guard := _ }) (v := ?v14) rfl (by kernel_rfl) (by kernel_rfl) (by kernel_rfl) (fun _ _ _ h => h) (Or.inl ⟨by kernel_rfl, ?hy14⟩) (by assumption) ?rest14
            case hy14 =>
              intro w hSw
              try dsimp only at hSw
              go_simp
              try with_reducible rfl
            try simp only [Act.put]
            refine wpAnyH_take (i := 4) (oi := { dst := some 48, op := _, type := _, pos := _, after := _, guard := _ }) (v := ?v15) rfl (by kernel_rfl) (by kernel_rfl) (by kernel_rfl) (fun _ _ _ h => h) (Or.inl ⟨by kernel_rfl, ?hy15⟩) (by assumption) ?rest15
            case hy15 =>
              intro w hSw
              try dsimp only at hSw
              go_simp
              try with_reducible rfl
            try simp only [Act.put]
            refine wpAnyH_take (i := 5) (oi := { dst := some 49, op := _, type := _, pos := _, after := _, guard := _ }) (v := ?v16) rfl (by kernel_rfl) (by kernel_rfl) (by kernel_rfl) (fun _ _ _ h => h) (Or.inl ⟨by kernel_rfl, ?hy16⟩) (by assumption) ?rest16
            case hy16 =>
              intro w hSw
              try dsimp only at hSw
              go_simp
              try with_reducible rfl
            try simp only [Act.put]
            refine wpAnyH_take (i := 6) (oi := { dst := some 50, op := _, type := _, pos := _, after := _, guard := _ }) (v := ?v17) rfl (by kernel_rfl) (by kernel_rfl) (by kernel_rfl) (fun _ _ _ h => h) (Or.inl ⟨by kernel_rfl, ?hy17⟩) (by assumption) ?rest17
            case hy17 =>
              intro w hSw
              try dsimp only at hSw
              go_simp
              try with_reducible rfl
            try simp only [Act.put]
            refine wpAnyH_take (i := 7) (oi := { dst := some 51, op := _, type := _, pos := _, after := _, guard := _ }) (v := ?v18) rfl (by kernel_rfl) (by kernel_rfl) (by kernel_rfl) (fun _ _ _ h => h) (Or.inl ⟨by kernel_rfl, ?hy18⟩) (by assumption) ?rest18
            case hy18 =>
              intro w hSw
              try dsimp only at hSw
              go_simp
              try with_reducible rfl
            try simp only [Act.put]
            refine wpAnyH_ready (rs := [1]) (by kernel_rfl) (by simp) ?_
            refine AllReadyH.cons (o := _) rfl (fun K hK => ?_) AllReadyH.nil
            go_simp
            refine hK.out _ _ (HK.out _ (Below.refl _ _)) (fun hHeld => ?_)
            clear hK K
            try simp only [Act.put]
            refine wpAnyH_ready (rs := [8]) (by kernel_rfl) (by simp) ?_
            refine AllReadyH.cons (o := _) rfl (fun K hK => ?_) AllReadyH.nil
            go_simp
            go_at_call 34
            with_reducible refine cc.mono ?_
            clear cc
            rintro e w4 ⟨L4, g4, o4, c4, rfl, hins, hlc, hcm, hel, hb4⟩
            obtain ⟨hasc4, hmem4, hlen4⟩ := hins.asc HASC.out
            have HI4 := Lib.hid (And.intro hasc4 hmem4)
            have HL4 := Lib.hid hlen4
            have HB4 := Lib.hid hb4
            have hs4 := HSD.out.next hb4
            obtain ⟨q0, q1, z0, z1⟩ := gr_cells hs4.gr
            have HS5 := Lib.hid (hs4.setN hel hlc hcm)
            clear hins hlc hcm hel hs4 hasc4 hmem4 hlen4
            refine hK.out _ _ (HK.out w4 hb4) (fun hHeld => ?_)
            clear hK K
            try simp only [Act.put]
            refine wpAnyH_take (i := 9) (oi := { dst := some 53, op := _, type := _, pos := _, after := _, guard := _ }) (v := ?v19) rfl (by kernel_rfl) (by kernel_rfl) (by kernel_rfl) (fun _ _ _ h => h) (Or.inl ⟨by kernel_rfl, ?hy19⟩) (by assumption) ?rest19
            case hy19 =>
              intro w hSw
              try dsimp only at hSw
              go_simp
              try with_reducible rfl
            try simp only [Act.put]
            refine wpAnyH_ready (rs := [10]) (by kernel_rfl) (by simp) ?_
            refine AllReadyH.cons (o := _) rfl (fun K hK => ?_) AllReadyH.nil
            go_simp
            refine hK.out _ _ (HKS.out w4 HB4.out _) (fun hHeld => ?_)
            clear hK K
            try simp only [Act.put]
            refine wpAnyH_done (by kernel_rfl) ?_ _
            try simp only [List.setIfInBounds_toArray, List.set_cons_zero, List.set_cons_succ]
            have HN := Lib.hid (show ∀ y, y ∈ L4 ↔ y ∈ Gr.pths (r.take (k + 1)) from fun y => (HI4.out.2 y).trans (HMM.out y))
            have hl5 := HL4.out
            obtain ⟨d3, _⟩ := HKS.out w4 HB4.out (.slice (some ⟨g4, o4, none⟩) L4.length c4)
            clear hb4 HK HKS q0 q1 z0 z1
            go_wp2_with fail
            go_roundw
            case rel => exact ⟨k + 1, n + x.rds.length, L4, _, c4, by go_num, by go_num, by omega, by omega, HI4.out.1, HN.out, by omega, HS5.out⟩
            case measure => simp [intOf]; omega
      · have j1 : decide ((k : Int) < (r.length : Int)) = false := decide_eq_false (by omega)
        have j1n : decide (k < r.length) = false := decide_eq_false hlt
        have HNOD := Lib.hid (show Gr.NodL r L from ⟨HASC.out, fun x => by
          have h := HMEM.out x
          rwa [show r.take k = r from List.take_of_length_le (by omega)] at h⟩)
        have m1 : decide ((1024 : Int) < (L.length : Int)) = false := decide_eq_false (by omega)
        have m1n : decide (1024 < L.length) = false := decide_eq_false (by omega)
        have m2 : decide ((1024 : Int) < (n : Int)) = false := decide_eq_false (by omega)
        have m2n : decide (1024 < n) = false := decide_eq_false (by omega)
        have hlL : L.length ≤ 156 := by omega
        obtain ⟨q0, q1, _, _⟩ := gr_cells HST.out.gr
        clear HMEM HASC hlt hn hlen
        go_wp2_with fail
        clear q0 q1
        go_loopw [8] (fun s8 wr => ∃ (k2 : Nat) (E : List Ed) (B : Option Addr) (d : Nat), s8 = .int .i64 k2 ∧ k2 ≤ r.length ∧ Gr.Srt E ∧ E.Perm (Gr.edsN r L k2) ∧ E.length ≤ 12 * k2 ∧ Gr.NSt w wr w.heap.size gb L E A1 B c1 d) (fun s8 _ => r.length - (intOf s8).toNat)
        case atStart => exact ⟨0, [], none, 0, rfl, Nat.zero_le _, List.Pairwise.nil, List.Perm.refl _, Nat.zero_le _, HST.out⟩
        case round =>
          clear HST
          obtain ⟨w08, hw08⟩ : ∃ x : World, x = wr := ⟨wr, rfl⟩
          subst hw08
          obtain ⟨k2, E, B, d, rfl, hk2, hsrt, hperm, hlenE, hst⟩ := hrel
          have HSRT := Lib.hid hsrt
          have HPERM := Lib.hid hperm
          have HST := Lib.hid hst
          clear hsrt hperm hst
          by_cases hlk : k2 < r.length
          · have j1 : decide ((k2 : Int) < (r.length : Int)) = true := decide_eq_true (by omega)
            have j1n : decide (k2 < r.length) = true := decide_eq_true hlk
            have y1 : (k2 : Int) < (r.length : Int) := by omega
            obtain ⟨g0, o, rfl, hg, hc⟩ := HA.out.st k2 hlk
            have HG := Lib.hid hg
            have d3 := hc 3 _ rfl
            have d4 := hc 4 _ rfl
            obtain ⟨g1, o1, hxA, hg1, hc1⟩ := (HA.out.rd r[k2] (List.getElem_mem hlk)).row (HZR.out k2 hlk).1
            rw [hxA] at d3
            have HC1 := Lib.hid hc1
            have HES := Lib.hid (Gr.edsN_succ (L := L) hlk)
            have hxz := HZR.out k2 hlk
            clear hc hc1
            generalize r[k2] = x at *
            have HD := Lib.hid (show w.cell? ⟨g0, o + k2 * 6 + 3, none⟩ = some (.slice (some ⟨g1, o1, none⟩) x.rds.length x.c) ∧ w.cell? ⟨g0, o + k2 * 6 + 4, none⟩ = some (.string (str x.wr.pth)) from ⟨d3, d4⟩)
            clear d3 d4
            go_wp2_with fail
            go_loopw [9] (fun s9 wr => ∃ (j : Nat) (E2 : List Ed) (B2 : Option Addr) (d2 : Nat), s9 = .int .i64 j ∧ j ≤ x.rds.length ∧ Gr.Srt E2 ∧ E2.Perm (Gr.edsN r L k2 ++ Gr.edsS L k2 x j) ∧ E2.length ≤ 12 * k2 + j ∧ Gr.NSt w wr w.heap.size gb L E2 A1 B2 c1 d2) (fun s9 _ => x.rds.length - (intOf s9).toNat)
            case atStart => exact ⟨0, E, B, d, rfl, Nat.zero_le _, HSRT.out, by rw [show Gr.edsS L k2 x 0 = [] from rfl, List.append_nil]; exact HPERM.out, by omega, HST.out⟩
            case round =>
              clear HST HPERM HSRT
              obtain ⟨j, E2, B2, d2, rfl, hj, hsrt, hperm, hlen2, hst⟩ := hrel
              have HPERM := Lib.hid hperm
              have HSRT := Lib.hid hsrt
              have HST := Lib.hid hst
              have HSD := Lib.hid (hst.next (Below.refl _ _).drew)
              have d3 := (hst.bw.cell (p := ⟨g0, o + k2 * 6 + 3, none⟩) HG.out).trans HD.out.1
              have e3 := (HSD.out.bw.cell (p := ⟨g0, o + k2 * 6 + 3, none⟩) HG.out).trans HD.out.1
              have e4 := (HSD.out.bw.cell (p := ⟨g0, o + k2 * 6 + 4, none⟩) HG.out).trans HD.out.2
              clear hperm hsrt hst
              by_cases hlj : j < x.rds.length
              · have m1 : decide ((j : Int) < (x.rds.length : Int)) = true := decide_eq_true (by omega)
                have m1n : decide (j < x.rds.length) = true := decide_eq_true hlj
                have y4 : (j : Int) < (x.rds.length : Int) := by omega
                have f0 := (HSD.out.bw.cell (p := ⟨g1, o1 + j * 2 + 0, none⟩) hg1).trans (HC1.out j hlj 0 _ rfl)
                rw [show o1 + j * 2 + 0 = o1 + j * 2 from rfl] at f0
                have HSS := Lib.hid (Gr.edsS_succ (L := L) (i := k2) hlj)
                generalize x.rds[j] = t at *
                have hgd : g0 < wr.drew.heap.size := Nat.lt_of_lt_of_le HG.out HSD.out.bw.size
                have hgd1 : g1 < wr.drew.heap.size := Nat.lt_of_lt_of_le hg1 HSD.out.bw.size
                have hgbd : gb < wr.drew.heap.size := blk_lt HSD.out.gr
                obtain ⟨q0, _, _, _⟩ := gr_cells HSD.out.gr
                have cn1 := qnode_any L t.pth A1 c1 wr.drew HSD.out.st (by omega)
                have cn2 := qnode_any L x.wr.pth A1 c1 wr.drew HSD.out.st (by omega)
                have cp := qput_opt E2 ⟨Gr.idx L t.pth, Gr.idx L x.wr.pth, (k2 : Int)⟩ B2 d2 wr.drew HSD.out.ed HSD.out.eo (by omega)
                rw [edA_def] at cp
                dsimp only at cp
                generalize Gr.idx L t.pth = i1 at *
                generalize Gr.idx L x.wr.pth = i2 at *
                have HK := Lib.hid (fun (w5 : World) (h5 : Below wr.drew.heap.size wr.drew w5) => show (fun w' : World => w'.cell? ⟨gb, 0, none⟩ = some (.slice A1 L.length c1) ∧ w'.cell? ⟨g0, o + k2 * 6 + 3, none⟩ = some (.slice (some ⟨g1, o1, none⟩) x.rds.length x.c) ∧ w'.cell? ⟨g1, o1 + j * 2, none⟩ = some (.string (str t.pth)) ∧ w'.cell? ⟨g0, o + k2 * 6 + 4, none⟩ = some (.string (str x.wr.pth))) w5 from ⟨(h5.cell (p := ⟨gb, 0, none⟩) hgbd).trans q0, (h5.cell (p := ⟨g0, o + k2 * 6 + 3, none⟩) hgd).trans e3, (h5.cell (p := ⟨g1, o1 + j * 2, none⟩) hgd1).trans f0, (h5.cell (p := ⟨g0, o + k2 * 6 + 4, none⟩) hgd).trans e4⟩)
                have HKS := Lib.hid (fun (w5 : World) (h5 : Below wr.drew.heap.size wr.drew w5) (v : Value) => show (fun w' : World => w'.cell? ⟨gb, 0, none⟩ = some (.slice A1 L.length c1) ∧ w'.cell? ⟨g0, o + k2 * 6 + 3, none⟩ = some (.slice (some ⟨g1, o1, none⟩) x.rds.length x.c) ∧ w'.cell? ⟨g1, o1 + j * 2, none⟩ = some (.string (str t.pth)) ∧ w'.cell? ⟨g0, o + k2 * 6 + 4, none⟩ = some (.string (str x.wr.pth))) (w5.setCell ⟨gb, 1, none⟩ v) from ⟨(Gr.cell_set_oth v (by decide)).trans ((h5.cell (p := ⟨gb, 0, none⟩) hgbd).trans q0), (Gr.cell_set_far v (by have := HGB.out; have := HG.out; omega)).trans ((h5.cell (p := ⟨g0, o + k2 * 6 + 3, none⟩) hgd).trans e3), (Gr.cell_set_far v (by have := HGB.out; have := HG.out; omega)).trans ((h5.cell (p := ⟨g1, o1 + j * 2, none⟩) hgd1).trans f0), (Gr.cell_set_far v (by have := HGB.out; have := HG.out; omega)).trans ((h5.cell (p := ⟨g0, o + k2 * 6 + 4, none⟩) hgd).trans e4)⟩)
                go_upto_region 22 with (fail)
                obtain ⟨q0, q1, _, _⟩ := gr_cells HSD.out.gr
                clear d3 e3 e4 f0
                refine wp_region_held_drew (S := (fun w' : World => w'.cell? ⟨gb, 0, none⟩ = some (.slice A1 L.length c1) ∧ w'.cell? ⟨g0, o + k2 * 6 + 3, none⟩ = some (.slice (some ⟨g1, o1, none⟩) x.rds.length x.c) ∧ w'.cell? ⟨g1, o1 + j * 2, none⟩ = some (.string (str t.pth)) ∧ w'.cell? ⟨g0, o + k2 * 6 + 4, none⟩ = some (.string (str x.wr.pth)))) (by kernel_rfl) (HK.out _ (Below.refl _ _)) (fun hHeld => ?_)
                refine wpAnyH_take (i := 0) (oi := { dst := some 87, op := _, type := _, pos := _, after := _, guard := _ }) (v := ?v20) rfl (by kernel_rfl) (by kernel_rfl) (by kernel_rfl) (fun _ _ _ h => h) (Or.inl ⟨by kernel_rfl, ?hy20⟩) (by assumption) ?rest20
                case hy20 =>
                  intro w hSw
                  try dsimp only at hSw
                  go_simp
                  try with_reducible rfl
                try simp only [Act.put]
                refine wpAnyH_take (i := 2) (oi := { dst := some 89, op := _, type := _, pos := _, after := _, guard := _ }) (v := ?v21) rfl (by kernel_rfl) (by kernel_rfl) (by kernel_rfl) (fun _ _ _ h => h) (Or.inl ⟨by kernel_rfl, ?hy21⟩) (by assumption) ?rest21
                case hy21 =>
                  intro w hSw
                  try dsimp only at hSw
                  go_simp
                  try with_reducible rfl
                try simp only [Act.put]
                refine wpAnyH_take (i := 3) (oi := { dst := some 90, op := _, type := _, pos := _, after := _, guard := _ }) (v := ?v22) rfl (by kernel_rfl) (by kernel_rfl) (by kernel_rfl) (fun _ _ _ h => h) (Or.inl ⟨by kernel_rfl, ?hy22⟩) (by assumption) ?rest22
                case hy22 =>
                  intro w hSw
                  try dsimp only at hSw
                  go_simp
                  try with_reducible rfl
                try simp only [Act.put]
                refine wpAnyH_take (i := 4) (oi := { dst := some 91, op := _, type := _, pos := _, after := _, guard := _ }) (v := ?v23) rfl (by kernel_rfl) (by kernel_rfl) (by kernel_rfl) (fun _ _ _ h => h) (Or.inl ⟨by kernel_rfl, ?hy23⟩) (by assumption) ?rest23
                case hy23 =>
                  intro w hSw
                  try dsimp only at hSw
                  go_simp
                  try with_reducible rfl
                try simp only [Act.put]
                refine wpAnyH_take (i := 5) (oi := { dst := some 92, op := _, type := _, pos := _, after := _, guard := _ }) (v := ?v24) rfl (by kernel_rfl) (by kernel_rfl) (by kernel_rfl) (fun _ _ _ h => h) (Or.inl ⟨by kernel_rfl, ?hy24⟩) (by assumption) ?rest24
                case hy24 =>
                  intro w hSw
                  try dsimp only at hSw
                  go_simp
                  try with_reducible rfl
                try simp only [Act.put]
                refine wpAnyH_take (i := 6) (oi := { dst := some 93, op := _, type := _, pos := _, after := _, guard := _ }) (v := ?v25) rfl (by kernel_rfl) (by kernel_rfl) (by kernel_rfl) (fun _ _ _ h => h) (Or.inl ⟨by kernel_rfl, ?hy25⟩) (by assumption) ?rest25
                case hy25 =>
                  intro w hSw
                  try dsimp only at hSw
                  go_simp
                  try with_reducible rfl
                try simp only [Act.put]
                refine wpAnyH_take (i := 7) (oi := { dst := some 94, op := _, type := _, pos := _, after := _, guard := _ }) (v := ?v26) rfl (by kernel_rfl) (by kernel_rfl) (by kernel_rfl) (fun _ _ _ h => h) (Or.inl ⟨by kernel_rfl, ?hy26⟩) (by assumption) ?rest26
                case hy26 =>
                  intro w hSw
                  try dsimp only at hSw
                  go_simp
                  try with_reducible rfl
                try simp only [Act.put]
                refine wpAnyH_take (i := 8) (oi := { dst := some 95, op := _, type := _, pos := _, after := _, guard := _ }) (v := ?v27) rfl (by kernel_rfl) (by kernel_rfl) (by kernel_rfl) (fun _ _ _ h => h) (Or.inl ⟨by kernel_rfl, ?hy27⟩) (by assumption) ?rest27
                case hy27 =>
                  intro w hSw
                  try dsimp only at hSw
                  go_simp
                  try with_reducible rfl
                try simp only [Act.put]
                refine wpAnyH_take (i := 9) (oi := { dst := some 96, op := _, type := _, pos := _, after := _, guard := _ }) (v := ?v28) rfl (by kernel_rfl) (by kernel_rfl) (by kernel_rfl) (fun _ _ _ h => h) (Or.inl ⟨by kernel_rfl, ?hy28⟩) (by assumption) ?rest28
                case hy28 =>
                  intro w hSw
                  try dsimp only at hSw
                  go_simp
                  try with_reducible rfl
                try simp only [Act.put]
                refine wpAnyH_take (i := 10) (oi := { dst := some 97, op := _, type := _, pos := _, after := _, guard := _ }) (v := ?v29) rfl (by kernel_rfl) (by kernel_rfl) (by kernel_rfl) (fun _ _ _ h => h) (Or.inl ⟨by kernel_rfl, ?hy29⟩) (by assumption) ?rest29
                case hy29 =>
                  intro w hSw
                  try dsimp only at hSw
                  go_simp
                  try with_reducible rfl
                try simp only [Act.put]
                refine wpAnyH_take (i := 11) (oi := { dst := some 98, op := _, type := _, pos := _, after := _, guard := _ }) (v := ?v30) rfl (by kernel_rfl) (by kernel_rfl) (by kernel_rfl) (fun _ _ _ h => h) (Or.inl ⟨by kernel_rfl, ?hy30⟩) (by assumption) ?rest30
                case hy30 =>
                  intro w hSw
                  try dsimp only at hSw
                  go_simp
                  try with_reducible rfl
                try simp only [Act.put]
                refine wpAnyH_take (i := 12) (oi := { dst := some 99, op := _, type := _, pos := _, after := _, guard := _ }) (v := ?v31) rfl (by kernel_rfl) (by kernel_rfl) (by kernel_rfl) (fun _ _ _ h => h) (Or.inl ⟨by kernel_rfl, ?hy31⟩) (by assumption) ?rest31
                case hy31 =>
                  intro w hSw
                  try dsimp only at hSw
                  go_simp
                  try with_reducible rfl
                try simp only [Act.put]
                refine wpAnyH_take (i := 14) (oi := { dst := some 101, op := _, type := _, pos := _, after := _, guard := _ }) (v := ?v32) rfl (by kernel_rfl) (by kernel_rfl) (by kernel_rfl) (fun _ _ _ h => h) (Or.inl ⟨by kernel_rfl, ?hy32⟩) (by assumption) ?rest32
                case hy32 =>
                  intro w hSw
                  try dsimp only at hSw
                  go_simp
                  try with_reducible rfl
                try simp only [Act.put]
                refine wpAnyH_take (i := 15) (oi := { dst := some 102, op := _, type := _, pos := _, after := _, guard := _ }) (v := ?v33) rfl (by kernel_rfl) (by kernel_rfl) (by kernel_rfl) (fun _ _ _ h => h) (Or.inl ⟨by kernel_rfl, ?hy33⟩) (by assumption) ?rest33
                case hy33 =>
                  intro w hSw
                  try dsimp only at hSw
                  go_simp
                  try with_reducible rfl
                try simp only [Act.put]
                refine wpAnyH_take (i := 16) (oi := { dst := some 103, op := _, type := _, pos := _, after := _, guard := _ }) (v := ?v34) rfl (by kernel_rfl) (by kernel_rfl) (by kernel_rfl) (fun _ _ _ h => h) (Or.inl ⟨by kernel_rfl, ?hy34⟩) (by assumption) ?rest34
                case hy34 =>
                  intro w hSw
                  try dsimp only at hSw
                  go_simp
                  try with_reducible rfl
                try simp only [Act.put]
                refine wpAnyH_take (i := 17) (oi := { dst := some 104, op := _, type := _, pos := _, after := _, guard := _ }) (v := ?v35) rfl (by kernel_rfl) (by kernel_rfl) (by kernel_rfl) (fun _ _ _ h => h) (Or.inl ⟨by kernel_rfl, ?hy35⟩) (by assumption) ?rest35
                case hy35 =>
                  intro w hSw
                  try dsimp only at hSw
                  go_simp
                  try with_reducible rfl
                try simp only [Act.put]
                refine wpAnyH_take (i := 18) (oi := { dst := some 105, op := _, type := _, pos := _, after := _, guard := _ }) (v := ?v36) rfl (by kernel_rfl) (by kernel_rfl) (by kernel_rfl) (fun _ _ _ h => h) (Or.inl ⟨by kernel_rfl, ?hy36⟩) (by assumption) ?rest36
                case hy36 =>
                  intro w hSw
                  try dsimp only at hSw
                  go_simp
                  try with_reducible rfl
                try simp only [Act.put]
                refine wpAnyH_take (i := 19) (oi := { dst := some 106, op := _, type := _, pos := _, after := _, guard := _ }) (v := ?v37) rfl (by kernel_rfl) (by kernel_rfl) (by kernel_rfl) (fun _ _ _ h => h) (Or.inl ⟨by kernel_rfl, ?hy37⟩) (by assumption) ?rest37
                case hy37 =>
                  intro w hSw
                  try dsimp only at hSw
                  go_simp
                  try with_reducible rfl
                try simp only [Act.put]
                refine wpAnyH_take (i := 20) (oi := { dst := some 107, op := _, type := _, pos := _, after := _, guard := _ }) (v := ?v38) rfl (by kernel_rfl) (by kernel_rfl) (by kernel_rfl) (fun _ _ _ h => h) (Or.inl ⟨by kernel_rfl, ?hy38⟩) (by assumption) ?rest38
                case hy38 =>
                  intro w hSw
                  try dsimp only at hSw
                  go_simp
                  try with_reducible rfl
                try simp only [Act.put]
                refine wpAnyH_take (i := 21) (oi := { dst := some 108, op := _, type := _, pos := _, after := _, guard := _ }) (v := ?v39) rfl (by kernel_rfl) (by kernel_rfl) (by kernel_rfl) (fun _ _ _ h => h) (Or.inl ⟨by kernel_rfl, ?hy39⟩) (by assumption) ?rest39
                case hy39 =>
                  intro w hSw
                  try dsimp only at hSw
                  go_simp
                  try with_reducible rfl
                try simp only [Act.put]
                refine wpAnyH_take (i := 23) (oi := { dst := some 110, op := _, type := _, pos := _, after := _, guard := _ }) (v := ?v40) rfl (by kernel_rfl) (by kernel_rfl) (by kernel_rfl) (fun _ _ _ h => h) (Or.inl ⟨by kernel_rfl, ?hy40⟩) (by assumption) ?rest40
                case hy40 =>
                  intro w hSw
                  try dsimp only at hSw
                  go_simp
                  try with_reducible rfl
                try simp only [Act.put]
                refine wpAnyH_ready (rs := [1, 13]) (by kernel_rfl) (by simp) ?_
                refine AllReadyH.cons (o := _) rfl (fun K hK => ?_) (AllReadyH.cons (o := _) rfl (fun K hK => ?_) AllReadyH.nil)
                · go_simp
                  refine hK.out _ _ (HK.out _ (Below.refl _ _)) (fun hHeld => ?_)
                  clear hK K
                  try simp only [Act.put]
                  refine wpAnyH_ready (rs := [13]) (by kernel_rfl) (by simp) ?_
                  refine AllReadyH.cons (o := _) rfl (fun K hK => ?_) AllReadyH.nil
                  · go_simp
                    go_at_call 36
                    with_reducible refine cn1.mono ?_
                    clear cn1
                    rintro e w4 ⟨rfl, rfl⟩
                    refine hK.out _ _ (HK.out _ (Below.refl _ _)) (fun hHeld => ?_)
                    clear hK K
                    try simp only [Act.put]
                    refine wpAnyH_ready (rs := [22]) (by kernel_rfl) (by simp) ?_
                    refine AllReadyH.cons (o := _) rfl (fun K hK => ?_) AllReadyH.nil
                    · go_simp
                      go_at_call 36
                      with_reducible refine cn2.mono ?_
                      clear cn2
                      rintro e w4 ⟨rfl, rfl⟩
                      refine hK.out _ _ (HK.out _ (Below.refl _ _)) (fun hHeld => ?_)
                      clear hK K
                      try simp only [Act.put]
                      refine wpAnyH_take (i := 24) (oi := { dst := some 111, op := _, type := _, pos := _, after := _, guard := _ }) (v := ?v41) rfl (by kernel_rfl) (by kernel_rfl) (by kernel_rfl) (fun _ _ _ h => h) (Or.inl ⟨by kernel_rfl, ?hy41⟩) (by assumption) ?rest41
                      case hy41 =>
                        intro w hSw
                        try dsimp only at hSw
                        go_simp
                        try with_reducible rfl
                      try simp only [Act.put]
                      refine wpAnyH_ready (rs := [25]) (by kernel_rfl) (by simp) ?_
                      refine AllReadyH.cons (o := _) rfl (fun K hK => ?_) AllReadyH.nil
                      go_simp
                      go_at_call 35
                      with_reducible refine cp.mono ?_
                      clear cp
                      rintro e w4 ⟨E4, g4, o4, d4, rfl, hins, hlc, hcm, hel, hb4⟩
                      obtain ⟨hsrt4, hperm4, hlen4⟩ := hins.srt HSRT.out
                      have HI4 := Lib.hid (And.intro hsrt4 hperm4)
                      have HL4 := Lib.hid hlen4
                      have HB4 := Lib.hid hb4
                      have hs4 := HSD.out.next hb4
                      obtain ⟨q0, q1, z0, z1⟩ := gr_cells hs4.gr
                      have HS5 := Lib.hid (hs4.setE hel hlc hcm)
                      clear hins hlc hcm hel hs4 hsrt4 hperm4 hlen4
                      refine hK.out _ _ (HK.out w4 hb4) (fun hHeld => ?_)
                      clear hK K
                      try simp only [Act.put]
                      refine wpAnyH_take (i := 26) (oi := { dst := some 113, op := _, type := _, pos := _, after := _, guard := _ }) (v := ?v42) rfl (by kernel_rfl) (by kernel_rfl) (by kernel_rfl) (fun _ _ _ h => h) (Or.inl ⟨by kernel_rfl, ?hy42⟩) (by assumption) ?rest42
                      case hy42 =>
                        intro w hSw
                        try dsimp only at hSw
                        go_simp
                        try with_reducible rfl
                      try simp only [Act.put]
                      refine wpAnyH_ready (rs := [27]) (by kernel_rfl) (by simp) ?_
                      refine AllReadyH.cons (o := _) rfl (fun K hK => ?_) AllReadyH.nil
                      go_simp
                      refine hK.out _ _ (HKS.out w4 HB4.out _) (fun hHeld => ?_)
                      clear hK K
                      try simp only [Act.put]
                      refine wpAnyH_done (by kernel_rfl) ?_ _
                      try simp only [List.setIfInBounds_toArray, List.set_cons_zero, List.set_cons_succ]
                      have HN := Lib.hid (show E4.Perm (Gr.edsN r L k2 ++ Gr.edsS L k2 x (j + 1)) by
                        rw [HSS.out, ← List.append_assoc]
                        exact HI4.out.2.trans (HPERM.out.append_right _))
                      clear hb4 HK HKS q0 q1 z0 z1
                      go_wp2_with fail
                      go_roundw
                      case rel =>
                        have hl5 := HL4.out
                        exact ⟨j + 1, E4, _, d4, by go_num, by omega, HI4.out.1, HN.out, by omega, HS5.out⟩
                      case measure => simp [intOf]; omega
                · go_simp
                  go_at_call 36
                  with_reducible refine cn1.mono ?_
                  clear cn1
                  rintro e w4 ⟨rfl, rfl⟩
                  refine hK.out _ _ (HK.out _ (Below.refl _ _)) (fun hHeld => ?_)
                  clear hK K
                  try simp only [Act.put]
                  refine wpAnyH_ready (rs := [1, 22]) (by kernel_rfl) (by simp) ?_
                  refine AllReadyH.cons (o := _) rfl (fun K hK => ?_) (AllReadyH.cons (o := _) rfl (fun K hK => ?_) AllReadyH.nil)
                  · go_simp
                    refine hK.out _ _ (HK.out _ (Below.refl _ _)) (fun hHeld => ?_)
                    clear hK K
                    try simp only [Act.put]
                    refine wpAnyH_ready (rs := [22]) (by kernel_rfl) (by simp) ?_
                    refine AllReadyH.cons (o := _) rfl (fun K hK => ?_) AllReadyH.nil
                    · go_simp
                      go_at_call 36
                      with_reducible refine cn2.mono ?_
                      clear cn2
                      rintro e w4 ⟨rfl, rfl⟩
                      refine hK.out _ _ (HK.out _ (Below.refl _ _)) (fun hHeld => ?_)
                      clear hK K
                      try simp only [Act.put]
                      refine wpAnyH_take (i := 24) (oi := { dst := some 111, op := _, type := _, pos := _, after := _, guard := _ }) (v := ?v43) rfl (by kernel_rfl) (by kernel_rfl) (by kernel_rfl) (fun _ _ _ h => h) (Or.inl ⟨by kernel_rfl, ?hy43⟩) (by assumption) ?rest43
                      case hy43 =>
                        intro w hSw
                        try dsimp only at hSw
                        go_simp
                        try with_reducible rfl
                      try simp only [Act.put]
                      refine wpAnyH_ready (rs := [25]) (by kernel_rfl) (by simp) ?_
                      refine AllReadyH.cons (o := _) rfl (fun K hK => ?_) AllReadyH.nil
                      go_simp
                      go_at_call 35
                      with_reducible refine cp.mono ?_
                      clear cp
                      rintro e w4 ⟨E4, g4, o4, d4, rfl, hins, hlc, hcm, hel, hb4⟩
                      obtain ⟨hsrt4, hperm4, hlen4⟩ := hins.srt HSRT.out
                      have HI4 := Lib.hid (And.intro hsrt4 hperm4)
                      have HL4 := Lib.hid hlen4
                      have HB4 := Lib.hid hb4
                      have hs4 := HSD.out.next hb4
                      obtain ⟨q0, q1, z0, z1⟩ := gr_cells hs4.gr
                      have HS5 := Lib.hid (hs4.setE hel hlc hcm)
                      clear hins hlc hcm hel hs4 hsrt4 hperm4 hlen4
                      refine hK.out _ _ (HK.out w4 hb4) (fun hHeld => ?_)
                      clear hK K
                      try simp only [Act.put]
                      refine wpAnyH_take (i := 26) (oi := { dst := some 113, op := _, type := _, pos := _, after := _, guard := _ }) (v := ?v44) rfl (by kernel_rfl) (by kernel_rfl) (by kernel_rfl) (fun _ _ _ h => h) (Or.inl ⟨by kernel_rfl, ?hy44⟩) (by assumption) ?rest44
                      case hy44 =>
                        intro w hSw
                        try dsimp only at hSw
                        go_simp
                        try with_reducible rfl
                      try simp only [Act.put]
                      refine wpAnyH_ready (rs := [27]) (by kernel_rfl) (by simp) ?_
                      refine AllReadyH.cons (o := _) rfl (fun K hK => ?_) AllReadyH.nil
                      go_simp
                      refine hK.out _ _ (HKS.out w4 HB4.out _) (fun hHeld => ?_)
                      clear hK K
                      try simp only [Act.put]
                      refine wpAnyH_done (by kernel_rfl) ?_ _
                      try simp only [List.setIfInBounds_toArray, List.set_cons_zero, List.set_cons_succ]
                      have HN := Lib.hid (show E4.Perm (Gr.edsN r L k2 ++ Gr.edsS L k2 x (j + 1)) by
                        rw [HSS.out, ← List.append_assoc]
                        exact HI4.out.2.trans (HPERM.out.append_right _))
                      clear hb4 HK HKS q0 q1 z0 z1
                      go_wp2_with fail
                      go_roundw
                      case rel =>
                        have hl5 := HL4.out
                        exact ⟨j + 1, E4, _, d4, by go_num, by omega, HI4.out.1, HN.out, by omega, HS5.out⟩
                      case measure => simp [intOf]; omega
                  · go_simp
                    go_at_call 36
                    with_reducible refine cn2.mono ?_
                    clear cn2
                    rintro e w4 ⟨rfl, rfl⟩
                    refine hK.out _ _ (HK.out _ (Below.refl _ _)) (fun hHeld => ?_)
                    clear hK K
                    try simp only [Act.put]
                    refine wpAnyH_take (i := 24) (oi := { dst := some 111, op := _, type := _, pos := _, after := _, guard := _ }) (v := ?v45) rfl (by kernel_rfl) (by kernel_rfl) (by kernel_rfl) (fun _ _ _ h => h) (Or.inl ⟨by kernel_rfl, ?hy45⟩) (by assumption) ?rest45
                    case hy45 =>
                      intro w hSw
                      try dsimp only at hSw
                      go_simp
                      try with_reducible rfl
                    try simp only [Act.put]
                    refine wpAnyH_ready (rs := [1]) (by kernel_rfl) (by simp) ?_
                    refine AllReadyH.cons (o := _) rfl (fun K hK => ?_) AllReadyH.nil
                    · go_simp
                      refine hK.out _ _ (HK.out _ (Below.refl _ _)) (fun hHeld => ?_)
                      clear hK K
                      try simp only [Act.put]
                      refine wpAnyH_ready (rs := [25]) (by kernel_rfl) (by simp) ?_
                      refine AllReadyH.cons (o := _) rfl (fun K hK => ?_) AllReadyH.nil
                      go_simp
                      go_at_call 35
                      with_reducible refine cp.mono ?_
                      clear cp
                      rintro e w4 ⟨E4, g4, o4, d4, rfl, hins, hlc, hcm, hel, hb4⟩
                      obtain ⟨hsrt4, hperm4, hlen4⟩ := hins.srt HSRT.out
                      have HI4 := Lib.hid (And.intro hsrt4 hperm4)
                      have HL4 := Lib.hid hlen4
                      have HB4 := Lib.hid hb4
                      have hs4 := HSD.out.next hb4
                      obtain ⟨q0, q1, z0, z1⟩ := gr_cells hs4.gr
                      have HS5 := Lib.hid (hs4.setE hel hlc hcm)
                      clear hins hlc hcm hel hs4 hsrt4 hperm4 hlen4
                      refine hK.out _ _ (HK.out w4 hb4) (fun hHeld => ?_)
                      clear hK K
                      try simp only [Act.put]
                      refine wpAnyH_take (i := 26) (oi := { dst := some 113, op := _, type := _, pos := _, after := _, guard := _ }) (v := ?v46) rfl (by kernel_rfl) (by kernel_rfl) (by kernel_rfl) (fun _ _ _ h => h) (Or.inl ⟨by kernel_rfl, ?hy46⟩) (by assumption) ?rest46
                      case hy46 =>
                        intro w hSw
                        try dsimp only at hSw
                        go_simp
                        try with_reducible rfl
                      try simp only [Act.put]
                      refine wpAnyH_ready (rs := [27]) (by kernel_rfl) (by simp) ?_
                      refine AllReadyH.cons (o := _) rfl (fun K hK => ?_) AllReadyH.nil
                      go_simp
                      refine hK.out _ _ (HKS.out w4 HB4.out _) (fun hHeld => ?_)
                      clear hK K
                      try simp only [Act.put]
                      refine wpAnyH_done (by kernel_rfl) ?_ _
                      try simp only [List.setIfInBounds_toArray, List.set_cons_zero, List.set_cons_succ]
                      have HN := Lib.hid (show E4.Perm (Gr.edsN r L k2 ++ Gr.edsS L k2 x (j + 1)) by
                        rw [HSS.out, ← List.append_assoc]
                        exact HI4.out.2.trans (HPERM.out.append_right _))
                      clear hb4 HK HKS q0 q1 z0 z1
                      go_wp2_with fail
                      go_roundw
                      case rel =>
                        have hl5 := HL4.out
                        exact ⟨j + 1, E4, _, d4, by go_num, by omega, HI4.out.1, HN.out, by omega, HS5.out⟩
                      case measure => simp [intOf]; omega
              · have m1 : decide ((j : Int) < (x.rds.length : Int)) = false := decide_eq_false (by omega)
                have m1n : decide (j < x.rds.length) = false := decide_eq_false hlj
                have hjl : j = x.rds.length := by omega
                have HN := Lib.hid (show E2.Perm (Gr.edsN r L (k2 + 1)) by rw [HES.out, ← hjl]; exact HPERM.out)
                clear e3 e4 hjl
                go_wp2_with fail
                go_roundw
                case rel => exact ⟨k2 + 1, E2, B2, d2, by go_num, by omega, HSRT.out, HN.out, by omega, HST.out⟩
                case measure => simp [intOf]; omega
          · have j1 : decide ((k2 : Int) < (r.length : Int)) = false := decide_eq_false (by omega)
            have j1n : decide (k2 < r.length) = false := decide_eq_false hlk
            have hkr : k2 = r.length := by omega
            have HOF := Lib.hid (show Gr.OfP r ⟨L, E⟩ 0 from .inr ⟨HZ.out, rfl, HNOD.out, by rw [← hkr]; exact HPERM.out, HSRT.out⟩)
            obtain ⟨q0, q1, _, _⟩ := gr_cells HST.out.gr
            obtain ⟨r0, r1, z0, z1⟩ := gr_cells HST.out.rs
            obtain ⟨WF, hWF⟩ : ∃ WF, WF = (w08.setCell ⟨w.heap.size, 0, none⟩ (.slice A1 L.length c1)).setCell ⟨w.heap.size, 1, none⟩ (.slice B E.length d) := ⟨_, rfl⟩
            have hot : ∀ q, q ≠ w.heap.size → WF.heap[q]? = w08.heap[q]? := fun q hq => by
              rw [hWF]
              exact (heap_setCell_other _ ⟨w.heap.size, 1, none⟩ q _ hq).trans (heap_setCell_other w08 ⟨w.heap.size, 0, none⟩ q _ hq)
            have hsF : WF.heap.size = w08.heap.size := by rw [hWF]; simp
            have HBF := Lib.hid (show Below w.heap.size w WF by rw [hWF]; exact (HST.out.bw.setCell (p := ⟨w.heap.size, 0, none⟩) (Nat.le_refl _) _).setCell (p := ⟨w.heap.size, 1, none⟩) (Nat.le_refl _) _)
            have HGF := Lib.hid (show GrAt WF A1 B ⟨L, E⟩ from ⟨fun j hj => by
                obtain ⟨g', o', e, hg', hc'⟩ := HST.out.st j hj
                have hne := Gr.gr_ne HST.out.rs (hc' 0 _ rfl)
                exact ⟨g', o', e, by rw [hsF]; exact hg', fun i u hu => by rw [cell_same (hot g' hne)]; exact hc' i u hu⟩,
              fun j hj => by
                obtain ⟨g', o', e, hg', hc'⟩ := HST.out.ed j hj
                have hne := Gr.gr_neI HST.out.rs (hc' 0 _ rfl)
                exact ⟨g', o', e, by rw [hsF]; exact hg', fun i u hu => by rw [cell_same (hot g' hne)]; exact hc' i u hu⟩,
              by show L.length ≤ _; omega, by show E.length ≤ _; omega⟩)
            clear hot hsF hkr
            go_wp2_with fail
            first | rw [← hWF] | skip
            exact bodyPost_ret (v := .tuple #[grV A1 B c1 d ⟨L, E⟩, .int .i64 0]) (by rw [hWF]; simp [results, Tryz.results9, go_sem, r0, r1]) rfl ⟨_, A1, B, c1, d, 0, rfl, HOF.out, by first | exact HGF.out | (rw [hWF] at HGF; exact HGF.out), by first | exact HBF.out | (rw [hWF] at HBF; exact HBF.out)⟩
  · have HOF := Lib.hid (show Gr.OfP r ⟨[], []⟩ 1 from .inl ⟨hz, rfl, rfl⟩)
    generalize hce : Rk.Rc.chk r = ce at *
    have z1 : (ce != 0) = true := by rw [bne_iff_ne]; exact hz
    have z2 : (ce == 0) = false := by rw [beq_eq_false_iff_ne]; exact hz
    have HB0 := Lib.hid hb0
    have HN0 := Lib.hid hN0
    clear hA hS hz hb0 hN0 hce
    go_enter Tryz.func9, Tryz.ntmps9
    go_wp2_with fail
    with_reducible refine cc.mono ?_
    clear cc
    rintro e w1 ⟨rfl, hb1⟩
    have HB1 := Lib.hid (HB0.out.trans (hb1.mono HB0.out.size))
    have hn1 := (hb1.block _ (blk_lt HN0.out)).trans HN0.out
    obtain ⟨r0, r1, y0, y1⟩ := gr_cells hn1
    have HBF := Lib.hid ((HB1.out.setCell (p := ⟨w.heap.size, 0, none⟩) (Nat.le_refl _) (.slice none 0 0)).setCell (p := ⟨w.heap.size, 1, none⟩) (Nat.le_refl _) (.slice none 0 0))
    clear hb1 hn1
    go_wp2_with fail
    exact bodyPost_ret (v := .tuple #[grV none none 0 0 ⟨[], []⟩, .int .i64 1]) (by simp [results, Tryz.results9, go_sem, r0, r1]) rfl ⟨_, none, none, 0, 0, 1, rfl, HOF.out, ⟨Gr.ElAt.nil _ _ _ _ _, Gr.ElAt.nil _ _ _ _ _, by simp, by simp⟩, HBF.out⟩
end Go.Proofs.YtjemffgidhgfjaaGreatDoor
