/- The law GraphRecords. Condition: bytealg's MaxLen lies in its variable. -/
import Derived.Test.YtjemffgidhgfjaaGreatDoorPof
import Derived.Test.YtjemffgidhgfjaaGreatDoorGrq
import Derived.Test.YtjemffgidhgfjaaGreatDoorIxt
import Derived.Test.YtjemffgidhgfjaaGreatDoorSoi
import Derived.Test.YtjemffgidhgfjaaGreatDoorMz4
import Derived.Test.YtjemffgidhgfjaaGreatDoorEqi
import Derived.Test.YtjemffgidhgfjaaGreatDoorAwg
import Derived.Test.YtjemffgidhgfjaaGreatDoorCns
import Derived.Test.YtjemffgidhgfjaaGreatDoorRkKey
import Derived.Deep.RegionHeld3
namespace Go.Proofs.YtjemffgidhgfjaaGreatDoor
open Go.RowKit Go.Deep Tr

theorem in_rk {w : World} {B : Nat} {A : Option Addr} {l : List Int} (h : Rk.Rc.InAt w B A l) : Gr.InAt w B A l := fun j hj => by
  obtain ⟨g, o, e, hg, hc⟩ := h j hj
  exact ⟨g, o, e, hg, hc⟩
theorem st_rk {w : World} {B : Nat} {A : Option Addr} {l : List (List UInt8)} (h : Gr.StAt w B A l) : Rk.Rc.StAt w B A l := fun j hj => by
  obtain ⟨g, o, e, hg, hc⟩ := h j hj
  exact ⟨g, o, e, hg, hc⟩
set_option maxHeartbeats 16000000 in
set_option maxRecDepth 100000 in
theorem grecords_law (r : List Rk.Dn) (R : Option Addr) (n : Nat) (w : World) (hR : Rk.RcAt w R r) (hM : MaxAt w) :
    Calls Tryz.prog 4 #[.slice R r.length n] w fun e w' => e = .returned (.bool true) ∧ Below w.heap.size w w' := by
  have HR := Lib.hid hR
  have HM := Lib.hid hM
  have cc := awake_any w
  clear hR hM
  go_enter Tryz.func4, Tryz.ntmps4
  go_wp2_with fail
  with_reducible refine cc.mono ?_
  clear cc
  rintro e w1 ⟨rfl, hb1⟩
  have HB1 := Lib.hid hb1
  have cc := Rk.few_any r R n w1 (HR.out.next hb1)
  clear hb1
  go_wp2_with fail
  with_reducible refine cc.mono ?_
  clear cc
  rintro e w2 ⟨⟨b, rfl, hf⟩, hb2⟩
  have HB2 := Lib.hid (HB1.out.trans (hb2.mono HB1.out.size))
  clear hb2 HB1
  cases b with
  | false =>
    clear hf
    go_wp2_with fail
    first | go_ret3 | go_ret2 | go_ret
    exact ⟨rfl, HB2.out⟩
  | true =>
    have HF := Lib.hid (hf rfl)
    clear hf
    have cc := Rk.check_any r R n w2 (HR.out.next HB2.out) HF.out.sht (HM.out.below HB2.out)
    by_cases hz : Rk.Rc.chk r = 0
    · rw [hz] at cc
      have HZ := Lib.hid hz
      have HRL := Lib.hid (Rk.Rc.zero_chk hz).1
      clear hz
      go_wp2_with fail
      with_reducible refine cc.mono ?_
      clear cc
      rintro e w3 ⟨rfl, hb3⟩
      have HB3 := Lib.hid (HB2.out.trans (hb3.mono HB2.out.size))
      clear hb3 HB2
      have cc := of_any r R n w3 (HR.out.next HB3.out) HF.out.sht HF.out (HM.out.below HB3.out)
      go_wp2_with fail
      with_reducible refine cc.mono ?_
      clear cc
      rintro e w4 ⟨⟨L, es⟩, A1, B1, c1, d1, x, rfl, hof, hgr, hb4⟩
      obtain ⟨rfl, hn, hE⟩ : x = 0 ∧ Gr.NodL r L ∧ Gr.EdL r L es := by
        rcases hof with ⟨h, _⟩ | ⟨_, h1, h2, h3⟩
        · exact absurd HZ.out h
        · exact ⟨h1, h2, h3⟩
      have HN := Lib.hid hn
      have HE := Lib.hid hE
      have HB4 := Lib.hid (HB3.out.trans (hb4.mono HB3.out.size))
      have hba : Below w4.heap.size w4 (w4.alloc (grO A1 B1 c1 d1 ⟨L, es⟩)) := (Below.refl _ _).alloc (Nat.le_refl _) _
      have h5 := heap_alloc_new w4 (grO A1 B1 c1 d1 ⟨L, es⟩)
      have hgr5 := hgr.next hba
      have hB5 := HB4.out.trans (hba.mono HB4.out.size)
      go_upto_region 6 with (fail)
      obtain ⟨gb, hgb⟩ : ∃ gb, gb = w4.heap.size := ⟨_, rfl⟩
      rw [← hgb] at h5
      have HGB := Lib.hid (show w.heap.size ≤ gb by rw [hgb]; exact HB4.out.size)
      rw [← hgb]
      generalize w4.alloc (grO A1 B1 c1 d1 ⟨L, es⟩) = w5 at *
      have HV5 := Lib.hid h5
      have H5 := Lib.hid hgr5
      have HB5 := Lib.hid hB5
      have HCK := Lib.hid (Gr.of_chk HZ.out HF.out hn hE)
      have hLL : L.length ≤ 1024 := (Gr.chk_ok HCK.out).nl
      clear hof hgr hb4 hba h5 hgr5 hB5 HB4 HB3 hgb hn hE
      have cc := check_any ⟨L, es⟩ A1 B1 c1 d1 w5 H5.out
      rw [HCK.out] at cc
      obtain ⟨q0, q1, _, _⟩ := gr_cells HV5.out
      go_wp2_with fail
      with_reducible refine cc.mono ?_
      clear cc
      rintro e w6 ⟨rfl, hb6⟩
      have HB6 := Lib.hid (HB5.out.trans (hb6.mono HB5.out.size))
      have HV6 := Lib.hid ((hb6.block _ (blk_lt HV5.out)).trans HV5.out)
      have H6 := Lib.hid (H5.out.next hb6)
      clear hb6 q0 q1 HV5 H5 HB5
      have cc := order_any ⟨L, es⟩ A1 B1 c1 d1 w6 H6.out
      obtain ⟨q0, q1, _, _⟩ := gr_cells HV6.out
      go_wp2_with fail
      with_reducible refine cc.mono ?_
      clear cc
      rintro e w7 ⟨v7, ec, rfl, ol, hO, _, hb7⟩
      obtain rfl : ec = 0 := by
        unfold Gr.Odr at hO
        rw [if_pos HCK.out] at hO
        obtain ⟨o, ho⟩ := Gr.of_kahn HZ.out HN.out HE.out
        exact (hO.1 o ho).2
      have HB7 := Lib.hid (HB6.out.trans (hb7.mono HB6.out.size))
      have HV7 := Lib.hid ((hb7.block _ (blk_lt HV6.out)).trans HV6.out)
      have H7 := Lib.hid (H6.out.next hb7)
      clear hb7 q0 q1 hO HV6 H6 HB6
      obtain ⟨q0, q1, _, _⟩ := gr_cells HV7.out
      go_wp2_with fail
      clear q0 q1
      have HPL := Lib.hid (show ∀ x ∈ L, x.length ≤ 128 from fun x hx => by
        obtain ⟨s, hs, ht⟩ := List.mem_flatMap.1 ((HN.out.2 x).1 hx)
        obtain ⟨t, ht2, rfl⟩ := List.mem_map.1 ht
        obtain ⟨k, hk⟩ := List.getElem?_of_mem hs
        exact (Gr.step_ok HZ.out hk).1 t ht2)
      go_loopw [47] (fun s47 wr => ∃ i : Nat, s47 = .int .i64 i ∧ i ≤ L.length ∧ Below w7.heap.size w7 wr) (fun s47 _ => L.length - (intOf s47).toNat)
      case atStart => exact ⟨0, rfl, Nat.zero_le _, Below.refl _ _⟩
      case round =>
        obtain ⟨i, rfl, hi, hb⟩ := hrel
        have HBR := Lib.hid hb
        have HBw := Lib.hid (HB7.out.trans (hb.mono HB7.out.size))
        have HV := Lib.hid ((hb.block _ (blk_lt HV7.out)).trans HV7.out)
        have HG := Lib.hid (H7.out.next hb)
        clear hb
        by_cases hlt : i < L.length
        · have b1 : decide ((i : Int) < (L.length : Int)) = true := decide_eq_true (by omega)
          have b1n : decide (i < L.length) = true := decide_eq_true hlt
          have y1 : (i : Int) < (L.length : Int) := by omega
          obtain ⟨gn, on, rfl, _, hc⟩ := Rk.st_cell (st_rk HG.out.ns) hlt
          obtain ⟨P, hP⟩ : ∃ P, P = L[i] := ⟨_, rfl⟩
          rw [← hP] at hc
          have HP := Lib.hid hP
          have HPI := Lib.hid (show P.length ≤ 128 by rw [hP]; exact HPL.out _ (List.getElem_mem hlt))
          clear hP
          obtain ⟨q0, q1, _, _⟩ := gr_cells HV.out
          have cc := reach_any ⟨L, es⟩ (i : Int) (some ⟨gn, on, none⟩) B1 c1 d1 wr HG.out
          go_wp2_with fail
          with_reducible refine cc.mono ?_
          clear cc
          rintro e w8 ⟨v8, rfl, l8, hR8, hown8, hb8⟩
          obtain ⟨A8, c8, rfl, _, _, hat8⟩ := Gr.own_el Gr.inV 1 Gr.inV_len hown8
          have HR8 := Lib.hid hR8
          have hl8 := Gr.rchm_len hR8
          have hba : Below w8.heap.size w8 (w8.alloc (.cells #[.string (str P)] 9)) := (Below.refl _ _).alloc (Nat.le_refl _) _
          have hb8a := hb8.trans (hba.mono hb8.size)
          have HB8 := Lib.hid (HBw.out.trans (hb8a.mono HBw.out.size))
          have HI8 := Lib.hid (hat8.next hba)
          have HV8 := Lib.hid ((hb8a.block _ (blk_lt HV.out)).trans HV.out)
          have HG8 := Lib.hid (HG.out.next hb8a)
          have HBR8 := Lib.hid (HBR.out.trans (hb8a.mono HBR.out.size))
          have cc := Rk.affected_any r [P] R (some ⟨w8.heap.size, 0, none⟩) n 1 (w8.alloc (.cells #[.string (str P)] 9)) (HR.out.next HB8.out) (Rk.one_st w8 P) HF.out.sht (HM.out.below HB8.out) (by simp) (fun p hp => by rw [List.mem_singleton.1 hp]; have := HPI.out; omega)
          rw [show ([P] : List (List UInt8)).length = 1 from rfl] at cc
          clear hR8 hown8 hat8 hba hb8a hb8 q0 q1 hc HV HG HBw HBR
          go_wp2_with fail
          with_reducible refine cc.mono ?_
          clear cc
          rintro e w9 ⟨La, Aa, ca, rfl, hLa, hla, hata, hb9⟩
          have HLA := Lib.hid hLa
          have HLT := Lib.hid (show ∀ a ∈ La, a < r.length from fun a ha => by
            rw [hLa] at ha
            unfold Rk.affL at ha
            rw [if_pos HZ.out] at ha
            exact (Rk.Rc.aft_asc r [P] r.length).2 a ha)
          have HB9 := Lib.hid (HB8.out.trans (hb9.mono HB8.out.size))
          have HI9 := Lib.hid (HI8.out.next hb9)
          have HV9 := Lib.hid ((hb9.block _ (blk_lt HV8.out)).trans HV8.out)
          have HG9 := Lib.hid (HG8.out.next hb9)
          have HBR9 := Lib.hid (HBR8.out.trans (hb9.mono HBR8.out.size))
          have HAT := Lib.hid hata
          have HNL := Lib.hid (Rk.Rc.nats_len La)
          clear hLa hata hb9 HB8 HI8 HV8 HG8 HBR8
          go_wp2_with fail
          go_loopw [60, 10] (fun s60 s10 wr => ∃ (k : Nat) (v10 : Value), s60 = .int .i64 k ∧ v10 = s10 ∧ k ≤ La.length ∧ wr.ownsRow w9.heap.size 3 1 v10 ((La.take k).map (Gr.wrt r L)).length (Rk.Rc.insV ((La.take k).map (Gr.wrt r L))) ∧ Below w9.heap.size w9 wr) (fun s60 _ _ => La.length - (intOf s60).toNat)
          case atStart => exact ⟨0, _, rfl, rfl, Nat.zero_le _, World.ownsRow_nil _ _ _ _, Below.refl _ _⟩
          case round =>
            obtain ⟨k, v10, rfl, rfl, hk, hown, hb⟩ := hrel
            have HOW := Lib.hid hown
            have HBK := Lib.hid hb
            clear hown hb
            by_cases hlk : k < La.length
            · have m1 : decide ((k : Int) < (La.length : Int)) = true := decide_eq_true (by omega)
              have m1n : decide (k < La.length) = true := decide_eq_true hlk
              have y2 : (k : Int) < (La.length : Int) := by omega
              obtain ⟨ga, oa, rfl, _, hca⟩ := Rk.in_cell (HAT.out.next HBK.out) (k := k) (by rw [HNL.out]; exact hlk)
              rw [show (Rk.Rc.nats La)[k]'(by rw [HNL.out]; exact hlk) = ((La[k] : Nat) : Int) by unfold Rk.Rc.nats; rw [List.getElem_map]] at hca
              have halt := HLT.out La[k] (List.getElem_mem hlk)
              have HTK := Lib.hid (show (La.take (k + 1)).map (Gr.wrt r L) = (La.take k).map (Gr.wrt r L) ++ [Gr.wrt r L La[k]] by rw [List.take_succ_eq_append_getElem hlk, List.map_append]; rfl)
              generalize La[k] = a at *
              have n1 : decide ((a : Int) < 0) = false := decide_eq_false (by omega)
              have n2 : decide ((r.length : Int) ≤ (a : Int)) = false := decide_eq_false (by omega)
              have n2n : decide (r.length ≤ a) = false := decide_eq_false (by omega)
              have y3 : (a : Int) < (r.length : Int) := by omega
              obtain ⟨g0, o, rfl, hg, hcr⟩ := HR.out.st a halt
              have e4 := (HB9.out.cell (p := ⟨g0, o + a * 6 + 4, none⟩) hg).trans (hcr 4 _ rfl)
              have HWT := Lib.hid (show Gr.wrt r L a = Gr.idx L r[a].wr.pth by unfold Gr.wrt; rw [List.getElem?_eq_getElem halt])
              generalize r[a] = x at *
              have hgd : g0 < w9.heap.size := Nat.lt_of_lt_of_le hg HB9.out.size
              have hgbd := blk_lt HV9.out
              obtain ⟨q0, _, _, _⟩ := gr_cells HV9.out
              have cI := indexSt_any L x.wr.pth (some ⟨gn, on, none⟩) c1 wr.drew (st_rk (HG9.out.next HBK.out.drew).ns) (by omega)
              rw [← HWT.out] at cI
              generalize Gr.wrt r L a = wa at *
              have hod := Rk.own_below HOW.out ((Below.refl wr.heap.size wr).drew)
              have hbn : Below wr.drew.heap.size wr.drew (wr.drew.alloc (.cells #[.int .i64 wa] 3)) := (Below.refl _ _).alloc (Nat.le_refl _) _
              have hon := Rk.own_below hod hbn
              have hBn := (HBK.out.drew).trans (hbn.mono (HBK.out.drew).size)
              obtain ⟨v', w11, hrun, hown11, hg11⟩ := Rk.app_in 38 (wr.drew.alloc (.cells #[.int .i64 wa] 3)) w9.heap.size v10 ((La.take k).map (Gr.wrt r L)) [wa] hon (some ⟨wr.drew.heap.size, 0, none⟩) 1 (Rk.one_in wr.drew wa) hBn.size (by rw [List.length_map, List.length_take]; simp; omega)
              rw [show ([wa] : List Int).length = 1 from rfl] at hrun
              have HB11 := Lib.hid (hBn.trans (Rk.below_own hon hBn.size hg11))
              have HO11 := Lib.hid hown11
              have HBN := Lib.hid hbn

              have HK := Lib.hid (fun (w5 : World) (h5 : Below w9.heap.size w9 w5) => show (fun w' : World => w'.cell? ⟨gb, 0, none⟩ = some (.slice (some ⟨gn, on, none⟩) L.length c1) ∧ w'.cell? ⟨g0, o + a * 6 + 4, none⟩ = some (.string (str x.wr.pth))) w5 from ⟨(h5.cell (p := ⟨gb, 0, none⟩) hgbd).trans q0, (h5.cell (p := ⟨g0, o + a * 6 + 4, none⟩) hgd).trans e4⟩)
              have HBn := Lib.hid hBn
              go_upto_region 21 with (fail)
              clear e4 q0 hbn hBn hon hod hown11 hg11 hcr
              refine wp_region_held_drew (S := (fun w' : World => w'.cell? ⟨gb, 0, none⟩ = some (.slice (some ⟨gn, on, none⟩) L.length c1) ∧ w'.cell? ⟨g0, o + a * 6 + 4, none⟩ = some (.string (str x.wr.pth)))) (by kernel_rfl) (HK.out _ HBK.out.drew) (fun hHeld => ?_)
              refine wpAnyH_take (i := 0) (oi := { dst := some 72, op := _, type := _, pos := _, after := _, guard := _ }) (v := ?v1) rfl (by kernel_rfl) (by kernel_rfl) (by kernel_rfl) (fun _ _ _ h => h) (Or.inl ⟨by kernel_rfl, ?hy1⟩) (by assumption) ?rest1
              case hy1 =>
                intro w hSw
                try dsimp only at hSw
                go_simp
                try with_reducible rfl
              try simp only [Act.put]
              refine wpAnyH_take (i := 1) (oi := { dst := some 73, op := _, type := _, pos := _, after := _, guard := _ }) (v := ?v2) rfl (by kernel_rfl) (by kernel_rfl) (by kernel_rfl) (fun _ _ _ h => h) (Or.inl ⟨by kernel_rfl, ?hy2⟩) (by assumption) ?rest2
              case hy2 =>
                intro w hSw
                try dsimp only at hSw
                go_simp
                try with_reducible rfl
              try simp only [Act.put]
              refine wpAnyH_take (i := 2) (oi := { dst := some 74, op := _, type := _, pos := _, after := _, guard := _ }) (v := ?v3) rfl (by kernel_rfl) (by kernel_rfl) (by kernel_rfl) (fun _ _ _ h => h) (Or.inl ⟨by kernel_rfl, ?hy3⟩) (by assumption) ?rest3
              case hy3 =>
                intro w hSw
                try dsimp only at hSw
                go_simp
                try with_reducible rfl
              try simp only [Act.put]
              refine wpAnyH_take (i := 3) (oi := { dst := some 75, op := _, type := _, pos := _, after := _, guard := _ }) (v := ?v4) rfl (by kernel_rfl) (by kernel_rfl) (by kernel_rfl) (fun _ _ _ h => h) (Or.inl ⟨by kernel_rfl, ?hy4⟩) (by assumption) ?rest4
              case hy4 =>
                intro w hSw
                try dsimp only at hSw
                go_simp
                try with_reducible rfl
              try simp only [Act.put]
              refine wpAnyH_take (i := 4) (oi := { dst := some 76, op := _, type := _, pos := _, after := _, guard := _ }) (v := ?v5) rfl (by kernel_rfl) (by kernel_rfl) (by kernel_rfl) (fun _ _ _ h => h) (Or.inl ⟨by kernel_rfl, ?hy5⟩) (by assumption) ?rest5
              case hy5 =>
                intro w hSw
                try dsimp only at hSw
                go_simp
                try with_reducible rfl
              try simp only [Act.put]
              refine wpAnyH_take (i := 5) (oi := { dst := some 77, op := _, type := _, pos := _, after := _, guard := _ }) (v := ?v6) rfl (by kernel_rfl) (by kernel_rfl) (by kernel_rfl) (fun _ _ _ h => h) (Or.inl ⟨by kernel_rfl, ?hy6⟩) (by assumption) ?rest6
              case hy6 =>
                intro w hSw
                try dsimp only at hSw
                go_simp
                try with_reducible rfl
              try simp only [Act.put]
              refine wpAnyH_take (i := 6) (oi := { dst := some 78, op := _, type := _, pos := _, after := _, guard := _ }) (v := ?v7) rfl (by kernel_rfl) (by kernel_rfl) (by kernel_rfl) (fun _ _ _ h => h) (Or.inl ⟨by kernel_rfl, ?hy7⟩) (by assumption) ?rest7
              case hy7 =>
                intro w hSw
                try dsimp only at hSw
                go_simp
                try with_reducible rfl
              try simp only [Act.put]
              refine wpAnyH_take (i := 7) (oi := { dst := some 79, op := _, type := _, pos := _, after := _, guard := _ }) (v := ?v8) rfl (by kernel_rfl) (by kernel_rfl) (by kernel_rfl) (fun _ _ _ h => h) (Or.inl ⟨by kernel_rfl, ?hy8⟩) (by assumption) ?rest8
              case hy8 =>
                intro w hSw
                try dsimp only at hSw
                go_simp
                try with_reducible rfl
              try simp only [Act.put]
              refine wpAnyH_take (i := 8) (oi := { dst := some 80, op := _, type := _, pos := _, after := _, guard := _ }) (v := ?v9) rfl (by kernel_rfl) (by kernel_rfl) (by kernel_rfl) (fun _ _ _ h => h) (Or.inl ⟨by kernel_rfl, ?hy9⟩) (by assumption) ?rest9
              case hy9 =>
                intro w hSw
                try dsimp only at hSw
                go_simp
                try with_reducible rfl
              try simp only [Act.put]
              refine wpAnyH_ready (rs := [9]) (by kernel_rfl) (by simp) ?_
              refine AllReadyH.cons (o := _) rfl (fun K hK => ?_) AllReadyH.nil
              go_simp
              go_at_call 17
              with_reducible refine cI.mono ?_
              clear cI
              rintro e w4 ⟨rfl, rfl⟩
              refine hK.out _ _ (HK.out _ HBK.out.drew) (fun hHeld => ?_)
              clear hK K
              try simp only [Act.put]
              refine wpAnyH_ready (rs := [10]) (by kernel_rfl) (by simp) ?_
              refine AllReadyH.cons (o := _) rfl (fun K hK => ?_) AllReadyH.nil
              go_simp
              refine hK.out _ _ (HK.out _ HBn.out) (fun hHeld => ?_)
              clear hK K
              try simp only [Act.put]
              refine wpAnyH_ready (rs := [11]) (by kernel_rfl) (by simp) ?_
              refine AllReadyH.cons (o := _) rfl (fun K hK => ?_) AllReadyH.nil
              rw [if_pos (by kernel_rfl)]
              refine Lib.wp_append_run _ _ _ _ _ rfl _ _ rfl rfl _ _ hrun ?_
              refine hK.out _ _ (HK.out _ HB11.out) (fun hHeld => ?_)
              clear hK K
              try simp only [Act.put]
              refine wpAnyH_take (i := 12) (oi := { dst := some 10, op := _, type := _, pos := _, after := _, guard := _ }) (v := ?v10) rfl (by kernel_rfl) (by kernel_rfl) (by kernel_rfl) (fun _ _ _ h => h) (Or.inl ⟨by kernel_rfl, ?hy10⟩) (by assumption) ?rest10
              case hy10 =>
                intro w hSw
                try dsimp only at hSw
                go_simp
                try with_reducible rfl
              try simp only [Act.put]
              refine wpAnyH_done (by kernel_rfl) ?_ _
              try simp only [List.setIfInBounds_toArray]
              have HO12 := Lib.hid (show w11.ownsRow w9.heap.size 3 1 v' ((La.take (k + 1)).map (Gr.wrt r L)).length (Rk.Rc.insV ((La.take (k + 1)).map (Gr.wrt r L))) by rw [HTK.out]; exact HO11.out)
              clear HK hrun
              go_wp2_with fail
              go_roundw
              case rel => exact ⟨k + 1, v', by go_num, rfl, by omega, HO12.out, HB11.out⟩
              case measure => simp [intOf]; omega
            · have m1 : decide ((k : Int) < (La.length : Int)) = false := decide_eq_false (by omega)
              have m1n : decide (k < La.length) = false := decide_eq_false hlk
              obtain ⟨M, hM⟩ : ∃ M, M = La.map (Gr.wrt r L) := ⟨_, rfl⟩
              have HOM := Lib.hid (show wr.ownsRow w9.heap.size 3 1 v10 M.length (Gr.insV M) from by
                have h := HOW.out
                rw [show k = La.length by omega, List.take_length, ← hM] at h
                exact h)
              have hml : M.length ≤ 1024 := by rw [hM, List.length_map]; exact hla
              have HMM := Lib.hid hM
              obtain ⟨A10, c10, rfl, _, _, _⟩ := Gr.own_el Gr.inV 1 Gr.inV_len HOM.out
              have cc := sortIn_any w9.heap.size M _ wr HOM.out (by omega)
              clear HOW hM
              go_wp2_with fail
              with_reducible refine cc.mono ?_
              clear cc
              rintro e w10 ⟨rfl, dl, hperm, hsrt, hownd, hg10⟩
              have HB10 := Lib.hid (HBK.out.trans (Rk.below_own HOM.out HBK.out.size hg10))
              obtain ⟨A11, c11, he, _, _, hat10⟩ := Gr.own_el Gr.inV 1 Gr.inV_len hownd
              injection he with e1 e2 e3
              subst e1 e3
              have HDL := Lib.hid (show dl = l8 from Gr.reach_aff HZ.out HF.out HN.out HE.out hlt HR8.out hsrt (by rw [← HP.out, ← HLA.out, ← HMM.out]; exact hperm))
              have cE := equalIn_any l8 dl A8 A10 c8 c10 w10 (HI9.out.next HB10.out) hat10 (by show l8.length ≤ 100000; have h : l8.length ≤ L.length := hl8; omega) (by omega)
              rw [decide_eq_true HDL.out.symm] at cE
              clear hperm hsrt hownd hg10 hat10 HOM HBK
              go_wp2_with fail
              with_reducible refine cE.mono ?_
              clear cE
              rintro e w12 ⟨rfl, hb12⟩
              have HB12 := Lib.hid (HB10.out.trans (hb12.mono HB10.out.size))
              have HBW := Lib.hid (HB9.out.trans (HB12.out.mono HB9.out.size))
              have HI12 := Lib.hid (HI9.out.next HB12.out)
              have HV12 := Lib.hid ((HB12.out.block _ (blk_lt HV9.out)).trans HV9.out)
              have HG12 := Lib.hid (HG9.out.next HB12.out)
              have HBR12 := Lib.hid (HBR9.out.trans (HB12.out.mono HBR9.out.size))
              obtain ⟨q0, q1, _, _⟩ := gr_cells HV12.out
              clear hb12 HB10 HB12 HI9 HV9 HG9 HBR9 e2
              go_wp2_with fail
              clear q0 q1
              go_loopw [94] (fun s94 wr => ∃ j : Nat, s94 = .int .i64 j ∧ j ≤ L.length ∧ Below w12.heap.size w12 wr) (fun s94 _ => L.length - (intOf s94).toNat)
              case atStart => exact ⟨0, rfl, Nat.zero_le _, Below.refl _ _⟩
              case round =>
                obtain ⟨j, rfl, hj, hb⟩ := hrel
                have HBJ := Lib.hid hb
                have HBWJ := Lib.hid (HBW.out.trans (hb.mono HBW.out.size))
                clear hb
                by_cases hlj : j < L.length
                · have z1 : decide ((j : Int) < (L.length : Int)) = true := decide_eq_true (by omega)
                  have z1n : decide (j < L.length) = true := decide_eq_true hlj
                  have y4 : (j : Int) < (L.length : Int) := by omega
                  obtain ⟨gm, om, ej, _, hcj⟩ := Rk.st_cell (st_rk (HG12.out.next HBJ.out).ns) hlj
                  simp only [Option.some.injEq, Addr.mk.injEq, and_true] at ej
                  obtain ⟨rfl, rfl⟩ := ej
                  obtain ⟨Q, hQ⟩ : ∃ Q, Q = L[j] := ⟨_, rfl⟩
                  rw [← hQ] at hcj
                  have HQ := Lib.hid hQ
                  have HQI := Lib.hid (show Q.length ≤ 128 by rw [hQ]; exact HPL.out _ (List.getElem_mem hlj))
                  clear hQ
                  have cc := Rk.writer_any r P R n wr (HR.out.next HBWJ.out) HF.out.sht (HM.out.below HBWJ.out) (by have := HPI.out; unfold maxLen; omega)
                  have HWI := Lib.hid (show Rk.Rc.wrI r P = match Rk.Rc.wr0 r P with | some i => (i : Int) | none => -1 from rfl)
                  generalize Rk.Rc.wrI r P = VI at *
                  go_wp2_with fail
                  with_reducible refine cc.mono ?_
                  clear cc hcj
                  rintro e w13 ⟨rfl, hb13⟩
                  have HB13 := Lib.hid (HBWJ.out.trans (hb13.mono HBWJ.out.size))
                  have HJ13 := Lib.hid (HBJ.out.trans (hb13.mono HBJ.out.size))
                  clear hb13
                  cases hw : Rk.Rc.wr0 r P with
                  | some w0 =>
                    have z2 : decide (VI < 0) = false := decide_eq_false (by rw [HWI.out, hw]; show ¬ ((w0 : Int) < 0); omega)
                    clear hw
                    go_wp2_with fail
                    go_roundw
                    case rel => exact ⟨j + 1, by go_num, by omega, HJ13.out⟩
                    case measure => simp [intOf]; omega
                  | none =>
                    have z2 : decide (VI < 0) = true := decide_eq_true (by rw [HWI.out, hw]; show (-1 : Int) < 0; omega)
                    have HWN := Lib.hid hw
                    clear hw
                    have cC := containsIn_any l8 (j : Int) A8 c8 w13 (HI12.out.next HJ13.out) (by have h : l8.length ≤ L.length := hl8; omega)
                    have HTC := Lib.hid (show (j : Int) ∈ l8 ↔ Rk.SrcOf r (Rk.Rc.Ned r Q) P from by
                      rw [HP.out] at HWN ⊢
                      rw [HQ.out, ← Gr.tc_src HZ.out HN.out HE.out hlt hlj HWN.out]
                      exact Gr.rchm HCK.out hlt hlj HR8.out)
                    have HDB := Lib.hid (show decide ((j : Int) ∈ l8) = true ↔ (j : Int) ∈ l8 from decide_eq_true_iff)
                    generalize decide ((j : Int) ∈ l8) = bb at *
                    go_wp2_with fail
                    with_reducible refine cC.mono ?_
                    clear cC
                    rintro e w14 ⟨rfl, rfl⟩
                    have cS := Rk.sources_any r Q R n w14 (HR.out.next HB13.out) HF.out.sht (HM.out.below HB13.out) (by have := HQI.out; unfold maxLen; omega)
                    go_wp2_with fail
                    with_reducible refine cS.mono ?_
                    clear cS
                    rintro e w15 ⟨Ls, As, cs, rfl, hsl, hsn, hst, hb15⟩
                    have cX := Rk.containsSt_any Ls P As cs w15 hst (by omega)
                    have he : Ls.contains P = bb := by rw [Bool.eq_iff_iff, List.contains_iff_mem, hsl.2.2 P, HDB.out, HTC.out]
                    rw [he] at cX
                    have HJ15 := Lib.hid (HJ13.out.trans (hb15.mono HJ13.out.size))
                    clear he hsl hst hb15
                    go_wp2_with fail
                    with_reducible refine cX.mono ?_
                    clear cX
                    rintro e w16 ⟨rfl, rfl⟩
                    have z3 : (bb != bb) = false := by simp
                    have z4 : (bb == bb) = true := beq_self_eq_true bb
                    go_wp2_with fail
                    go_roundw
                    case rel => exact ⟨j + 1, by go_num, by omega, HJ15.out⟩
                    case measure => simp [intOf]; omega
                · have z1 : decide ((j : Int) < (L.length : Int)) = false := decide_eq_false (by omega)
                  have z1n : decide (j < L.length) = false := decide_eq_false hlj
                  have HBF := Lib.hid (HBR12.out.trans (HBJ.out.mono HBR12.out.size))
                  go_wp2_with fail
                  go_roundw
                  case rel => exact ⟨i + 1, by go_num, by omega, HBF.out⟩
                  case measure => simp [intOf]; omega
        · have b1 : decide ((i : Int) < (L.length : Int)) = false := decide_eq_false (by omega)
          have b1n : decide (i < L.length) = false := decide_eq_false hlt
          go_wp2_with fail
          first | go_ret3 | go_ret2 | go_ret
          exact ⟨rfl, HBw.out⟩
    · have hzb : (Rk.Rc.chk r != 0) = true := by rw [bne_iff_ne]; exact hz
      have hzc : (Rk.Rc.chk r == 0) = false := by rw [beq_eq_false_iff_ne]; exact hz
      generalize Rk.Rc.chk r = V at *
      clear hz
      go_wp2_with fail
      with_reducible refine cc.mono ?_
      clear cc
      rintro e w3 ⟨rfl, hb3⟩
      have HB3 := Lib.hid (HB2.out.trans (hb3.mono HB2.out.size))
      clear hb3 HB2
      go_wp2_with fail
      first | go_ret3 | go_ret2 | go_ret
      exact ⟨rfl, HB3.out⟩
end Go.Proofs.YtjemffgidhgfjaaGreatDoor
