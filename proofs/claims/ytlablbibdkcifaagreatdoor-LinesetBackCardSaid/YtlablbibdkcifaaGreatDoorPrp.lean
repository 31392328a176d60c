/- Parse of the program. Condition: bytealg's MaxLen, the table of powers and strconv's errors lie in their variables. -/
import Derived.Test.YtlablbibdkcifaaGreatDoorPon
namespace Go.Proofs.YtlablbibdkcifaaGreatDoor
open Go.RowKit Go.Deep Tr

/-- What Parse leaves. -/
def GotPr (w : World) (P : Int × Int × List Ls.Sp) : Ending → World → Prop := fun e w' => (∃ A c, e = .returned (.tuple #[.slice A P.2.2.length c, .int .i64 P.2.1, .int .i64 P.1]) ∧ Ls.SpAt w' w'.heap.size A P.2.2) ∧ Below w.heap.size w w'
set_option maxHeartbeats 16000000 in
set_option maxRecDepth 100000 in
theorem pparse_any (s : List UInt8) (hs : s.length ≤ 100000) (w : World) (hE : ErrAt w) (hT : Cd.Tabs w) (hM : MaxAt w) :
    Calls Tryz.prog 19 #[.string (str s)] w (GotPr w (Ls.prs s)) := by
  obtain ⟨isp, hisp, hz0, hz1, hz2⟩ := info_parts infoSp
  have HP0 := Lib.hid (show Ls.prs s = Ls.prsA [] (Tre.split 10 s) from rfl)
  generalize Ls.prs s = P at *
  have HE := Lib.hid hE
  have HTb := Lib.hid hT
  have HM := Lib.hid hM
  clear hE hT hM
  go_enter Tryz.func19, Tryz.ntmps19
  go_wp2_with fail
  go_loopw [0, 5, 6] (fun s0 s5 s6 wr => ∃ (k : Nat) (r : List UInt8) (O : List Ls.Sp), s0 = .string (str r) ∧ s6 = .int .i64 k ∧ O.length = k ∧ k + r.length ≤ s.length ∧ P = Ls.prsA O (Tre.split 10 r) ∧ wr.ownsRow w.heap.size 32 3 s5 k (Ls.spsV O) ∧ Below w.heap.size w wr) (fun _ _ s6 _ => s.length - (intOf s6).toNat)
  case atStart => exact ⟨0, s, [], rfl, rfl, rfl, by omega, HP0.out, World.ownsRow_nil _ _ _ _, Below.refl _ _⟩
  case round =>
    clear HP0
    obtain ⟨k, r, O, rfl, rfl, hOL, hlen, hP, hown, hb⟩ := hrel
    have HOL := Lib.hid hOL
    have HP := Lib.hid hP
    clear hP
    by_cases hr : r = []
    · have e1 : ((str r).toList == []) = true := by rw [strL, hr]; rfl
      have e2 : ((str r).toList != []) = false := by rw [strL, hr]; rfl
      have e3 : (str r).toList.isEmpty = true := by rw [strL, hr]; rfl
      have HT := Lib.hid (show P = (0, -1, O) by rw [HP.out, hr]; exact Ls.prsA_end O)
      have hown2 := hown
      rw [← hOL] at hown2
      obtain ⟨A3, c3, rfl, o3⟩ := own_sp hown2
      have HO := Lib.hid o3
      have HB := Lib.hid hb
      clear hr hown hown2 o3 hb hOL
      go_wp2_with fail
      first | go_ret3 | go_ret2 | go_ret
      exact ⟨⟨A3, c3, by rw [HT.out]; rfl, by rw [HT.out]; exact HO.out⟩, HB.out⟩
    · have e1 : ((str r).toList == []) = false := by rw [strL, beq_eq_false_iff_ne]; exact hr
      have e2 : ((str r).toList != []) = true := by rw [strL, bne_iff_ne]; exact hr
      have e3 : (str r).toList.isEmpty = false := by rw [strL]; cases r with
        | nil => exact absurd rfl hr
        | cons _ _ => rfl
      have cc := cut_any 10 r wr (by omega) (HM.out.below hb)
      clear hOL
      rcases Ls.cut_at 10 r with hno | ⟨a, r', hra, hna⟩
      · rw [show r.contains 10 = false by rw [Bool.eq_false_iff]; intro hc; rw [List.contains_iff_mem] at hc; exact hno 10 hc rfl] at cc
        have HT := Lib.hid (show P = (4, (k : Int), []) by rw [HP.out, Ls.prsA_last O r hno hr, HOL.out])
        clear hno hr
        go_wp2_with fail
        with_reducible refine cc.mono ?_
        clear cc
        rintro e w2 ⟨rfl, hn2⟩
        have HB := Lib.hid (hb.trans (hn2.mono hb.size))
        clear hn2 hb hown
        go_wp2_with fail
        first | go_ret3 | go_ret2 | go_ret
        exact ⟨⟨none, 0, by rw [HT.out]; rfl, by rw [HT.out]; exact Ls.ElAt.nil _ _ _ _ _⟩, HB.out⟩
      · have HPC := Lib.hid (show P = if (Ls.one a).1 ≠ 0 then ((Ls.one a).1, (k : Int), []) else if Ls.flO O.getLast? (Ls.one a).2 = true then Ls.prsA (O ++ [(Ls.one a).2]) (Tre.split 10 r') else (5, (k : Int), []) by rw [HP.out, hra, Ls.prsA_cut O a r' hna, HOL.out])
        have hlr : r.length = a.length + 1 + r'.length := by rw [hra]; simp; omega
        have HLEN := Lib.hid (show k + 1 + r'.length ≤ s.length by omega)
        have hks : k < s.length := by omega
        rw [show r.contains 10 = true by rw [hra]; simp, show Ls.cutL 10 r = a by rw [hra]; exact (Ls.cut_yes hna).1, show Ls.cutR 10 r = r' by rw [hra]; exact (Ls.cut_yes hna).2] at cc
        have C1 := Lib.hid (fun w (hE : ErrAt w) (hT : Cd.Tabs w) (hM : MaxAt w) => pone_any a (by omega) w hE hT hM)
        generalize Ls.one a = V at *
        obtain ⟨er, sp⟩ := V
        dsimp only at HPC
        clear hra hna hr hlr hlen
        go_wp2_with fail
        with_reducible refine cc.mono ?_
        clear cc
        rintro e w2 ⟨rfl, hn2⟩
        have hb2 := hb.trans (hn2.mono hb.size)
        have ho2 := own_below hown hn2
        have c1 := C1.out w2 (HE.out.below hb2) (HTb.out.below hb2) (HM.out.below hb2)
        clear hn2 hb hown C1
        go_wp2_with fail
        with_reducible refine c1.mono ?_
        clear c1
        rintro e w3 ⟨rfl, hn3⟩
        have hb3 := hb2.trans (hn3.mono hb2.size)
        have ho3 := own_below ho2 hn3
        clear hn3 hb2 ho2
        rw [spA_def]
        have hN := heap_alloc_new w3 (.cells #[.string (str sp.path), .int .i64 sp.lo, .int .i64 sp.hi] 32)
        have hbX : Below w.heap.size w (w3.alloc (.cells #[.string (str sp.path), .int .i64 sp.lo, .int .i64 sp.hi] 32)) := hb3.alloc hb3.size _
        have hoX := ho3.alloc (.cells #[.string (str sp.path), .int .i64 sp.lo, .int .i64 sp.hi] 32)
        go_upto_region 9 with (fail)
        clear hb3 ho3 e1 e2 e3
        generalize w3.alloc (.cells #[.string (str sp.path), .int .i64 sp.lo, .int .i64 sp.hi] 32) = X at *
        generalize w3.heap.size = q at *
        by_cases her : er = 0
        · subst her
          have HPD := Lib.hid (show P = if Ls.flO O.getLast? sp = true then Ls.prsA (O ++ [sp]) (Tre.split 10 r') else (5, (k : Int), []) from HPC.out.trans (if_neg (by simp)))
          clear HPC
          rcases List.eq_nil_or_concat O with h0 | ⟨i, b, h0⟩
          · have hk0 : k = 0 := by rw [← HOL.out, h0]; rfl
            have z1 : decide ((0 : Int) < (k : Int)) = false := decide_eq_false (by omega)
            have z1n : decide (0 < k) = false := decide_eq_false (by omega)
            have HPN := Lib.hid (show P = Ls.prsA (O ++ [sp]) (Tre.split 10 r') by rw [HPD.out]; exact if_pos (by rw [h0]; rfl))
            clear HPD h0 hk0
            go_quiet (fail)
            have hbY : Below w.heap.size w (X.drewN nq) := below_drewN hbX nq
            have hoY' := own_below hoX (below_drewN (Below.refl _ X) nq)
            have hNY : (X.drewN nq).heap[q]? = some (.cells #[.string (str sp.path), .int .i64 sp.lo, .int .i64 sp.hi] 32 (0, 0)) := hN
            clear hbX hoX hN
            generalize X.drewN nq = Y at *
            have hYs := hbY.size
            have e0 : Y.cell? ⟨q, 0, none⟩ = some (.string (str sp.path)) := by rw [cell_of_row _ _ _ _ _ _ hNY]; rfl
            have e1 : Y.cell? ⟨q, 1, none⟩ = some (.int .i64 sp.lo) := by rw [cell_of_row _ _ _ _ _ _ hNY]; rfl
            have e2 : Y.cell? ⟨q, 2, none⟩ = some (.int .i64 sp.hi) := by rw [cell_of_row _ _ _ _ _ _ hNY]; rfl
            have hel := Ls.own_el (l := O) Ls.spV 3 Ls.spV_len (by rw [HOL.out]; exact hoY')
            obtain ⟨A3, c3, rfl, hc3, hm3, _⟩ := hel
            rw [HOL.out] at hoY' hc3 ⊢
            have hoY := hoY'
            clear hoY'
            go_wp2_with (at_builtin; refine wpList_append_lies _ (by rfl) _ _ 23 (by rfl) w.heap.size 32 isp _ 3 32 Tryz.underlying23 hisp hz0 hz1 hz2 rfl (by omega) (.slice A3 k c3) k _ (by rfl) (hoY.alloc _) ⟨Y.heap.size, 0, none⟩ 1 1 [_, _, _] (by rfl) (by rfl) (World.news_of_block (cs := #[_, _, _]) (t := 32) (fr := (0, 0)) (heap_alloc_new Y _)) (by simp [Value.oneCell']) (by omega) (by unfold maxLen; omega) (by omega) (by simp; omega) (Y.heap.size + 1) (by simp) ?_; intro gg cap w6 hown6 hgrow hat hlt6)
            have hb6 := below_grown (hbY.alloc (by omega) _) (by simp; omega) (hoY.alloc _) hgrow
            have HO := Lib.hid hown6
            have H6 := Lib.hid hb6
            clear hown6 hb6 hgrow hat hlt6 hbY hoY e0 e1 e2
            go_wp2_with fail
            go_roundw
            case rel => exact ⟨k + 1, r', O ++ [sp], rfl, by go_num, by rw [List.length_append, List.length_singleton, HOL.out], by have := HLEN.out; omega, HPN.out, by rw [Ls.spsV_app, Ls.spsV_one]; exact HO.out, H6.out⟩
            case measure => simp [intOf]; omega
          · rw [List.concat_eq_append] at h0
            have hk1 : 1 ≤ k := by rw [← HOL.out, h0]; simp
            have hki : i.length = k - 1 := by rw [← HOL.out, h0]; simp
            have z1 : decide ((0 : Int) < (k : Int)) = true := decide_eq_true (by omega)
            have z1n : decide (0 < k) = true := decide_eq_true (by omega)
            have y1 : (0 : Int) ≤ (k : Int) - 1 := by omega
            have y1b : (1 : Int) ≤ (k : Int) := by omega
            have y2 : (k : Int) - 1 < (k : Int) := by omega
            have yt : ((k : Int) - 1).toNat = k - 1 := by omega
            have yw : IntKind.i64.wrap ((k : Int) - 1) = (k : Int) - 1 := IntWalk.i64_in _ (by omega)
            have hls := Ls.own_last (l := i) (x := b) Ls.spV 3 Ls.spV_len (by rw [← h0, show i.length + 1 = k by omega]; exact hoX)
            obtain ⟨g3, c3, rfl, hg3, hce, _⟩ := hls
            rw [show i.length + 1 = k by omega] at hoX ⊢
            have x0 : X.cell? ⟨g3, (k - 1) * 3, none⟩ = some (.string (str b.path)) := by rw [← hki]; exact hce 0 _ rfl
            have x1 : X.cell? ⟨g3, (k - 1) * 3 + 1, none⟩ = some (.int .i64 b.lo) := by rw [← hki]; exact hce 1 _ rfl
            have x2 : X.cell? ⟨g3, (k - 1) * 3 + 2, none⟩ = some (.int .i64 b.hi) := by rw [← hki]; exact hce 2 _ rfl
            have HFO := Lib.hid (show Ls.flO O.getLast? sp = Ls.fol sp b by rw [h0, List.getLast?_append]; rfl)
            have e0 : X.cell? ⟨q, 0, none⟩ = some (.string (str sp.path)) := by rw [cell_of_row _ _ _ _ _ _ hN]; rfl
            have e1 : X.cell? ⟨q, 1, none⟩ = some (.int .i64 sp.lo) := by rw [cell_of_row _ _ _ _ _ _ hN]; rfl
            have e2 : X.cell? ⟨q, 2, none⟩ = some (.int .i64 sp.hi) := by rw [cell_of_row _ _ _ _ _ _ hN]; rfl
            have hqX : q < X.drew.heap.size := blk_lt hN
            have hg3X : g3 < X.drew.heap.size := hg3
            have HKS := Lib.hid (fun (w5 : World) (h5 : Below X.drew.heap.size X.drew w5) => (show w5.cell? ⟨q, 0, none⟩ = some (.string (str sp.path)) ∧ w5.cell? ⟨q, 1, none⟩ = some (.int .i64 sp.lo) ∧ w5.cell? ⟨q, 2, none⟩ = some (.int .i64 sp.hi) ∧ w5.cell? ⟨g3, (k - 1) * 3, none⟩ = some (.string (str b.path)) ∧ w5.cell? ⟨g3, (k - 1) * 3 + 1, none⟩ = some (.int .i64 b.lo) ∧ w5.cell? ⟨g3, (k - 1) * 3 + 2, none⟩ = some (.int .i64 b.hi) from ⟨(h5.cell (p := ⟨q, 0, none⟩) hqX).trans e0, (h5.cell (p := ⟨q, 1, none⟩) hqX).trans e1, (h5.cell (p := ⟨q, 2, none⟩) hqX).trans e2, (h5.cell (p := ⟨g3, (k - 1) * 3, none⟩) hg3X).trans x0, (h5.cell (p := ⟨g3, (k - 1) * 3 + 1, none⟩) hg3X).trans x1, (h5.cell (p := ⟨g3, (k - 1) * 3 + 2, none⟩) hg3X).trans x2⟩))
            have HNX := Lib.hid (show X.drew.heap[q]? = some (.cells #[.string (str sp.path), .int .i64 sp.lo, .int .i64 sp.hi] 32 (0, 0)) from hN)
            clear h0 hki hk1 hce hN
            cases hfv : Ls.fol sp b with
            | false =>
              have HFV := Lib.hid hfv
              have HT := Lib.hid (show P = (5, (k : Int), []) by rw [HPD.out, HFO.out, HFV.out]; rfl)
              clear hfv
              refine wp_region_held_drew (S := (fun w' : World => w'.cell? ⟨q, 0, none⟩ = some (.string (str sp.path)) ∧ w'.cell? ⟨q, 1, none⟩ = some (.int .i64 sp.lo) ∧ w'.cell? ⟨q, 2, none⟩ = some (.int .i64 sp.hi) ∧ w'.cell? ⟨g3, (k - 1) * 3, none⟩ = some (.string (str b.path)) ∧ w'.cell? ⟨g3, (k - 1) * 3 + 1, none⟩ = some (.int .i64 b.lo) ∧ w'.cell? ⟨g3, (k - 1) * 3 + 2, none⟩ = some (.int .i64 b.hi))) (by kernel_rfl) ⟨e0, e1, e2, x0, x1, x2⟩ (fun hHeld => ?_)
              refine wpAnyH_take (i := 0) (oi := { dst := some 30, op := _, type := _, pos := _, after := _, guard := _ }) (v := ?v1) rfl (by kernel_rfl) (by kernel_rfl) (by kernel_rfl) (fun _ _ _ h => h) (Or.inl ⟨by kernel_rfl, ?hy1⟩) (by assumption) ?rest1
              case hy1 =>
                intro w hSw
                try dsimp only at hSw
                go_simp
                try with_reducible rfl
              try simp only [Act.put]
              refine wpAnyH_take (i := 1) (oi := { dst := some 31, op := _, type := _, pos := _, after := _, guard := _ }) (v := ?v2) rfl (by kernel_rfl) (by kernel_rfl) (by kernel_rfl) (fun _ _ _ h => h) (Or.inl ⟨by kernel_rfl, ?hy2⟩) (by assumption) ?rest2
              case hy2 =>
                intro w hSw
                try dsimp only at hSw
                go_simp
                try with_reducible rfl
              try simp only [Act.put]
              refine wpAnyH_take (i := 2) (oi := { dst := some 32, op := _, type := _, pos := _, after := _, guard := _ }) (v := ?v3) rfl (by kernel_rfl) (by kernel_rfl) (by kernel_rfl) (fun _ _ _ h => h) (Or.inl ⟨by kernel_rfl, ?hy3⟩) (by assumption) ?rest3
              case hy3 =>
                intro w hSw
                try dsimp only at hSw
                go_simp
                try with_reducible rfl
              try simp only [Act.put]
              refine wpAnyH_take (i := 3) (oi := { dst := some 33, op := _, type := _, pos := _, after := _, guard := _ }) (v := ?v4) rfl (by kernel_rfl) (by kernel_rfl) (by kernel_rfl) (fun _ _ _ h => h) (Or.inl ⟨by kernel_rfl, ?hy4⟩) (by assumption) ?rest4
              case hy4 =>
                intro w hSw
                try dsimp only at hSw
                go_simp
                try with_reducible rfl
              try simp only [Act.put]
              refine wpAnyH_take (i := 4) (oi := { dst := some 34, op := _, type := _, pos := _, after := _, guard := _ }) (v := ?v5) rfl (by kernel_rfl) (by kernel_rfl) (by kernel_rfl) (fun _ _ _ h => h) (Or.inl ⟨by kernel_rfl, ?hy5⟩) (by assumption) ?rest5
              case hy5 =>
                intro w hSw
                try dsimp only at hSw
                go_simp
                try with_reducible rfl
              try simp only [Act.put]
              refine wpAnyH_take (i := 5) (oi := { dst := some 35, op := _, type := _, pos := _, after := _, guard := _ }) (v := ?v6) rfl (by kernel_rfl) (by kernel_rfl) (by kernel_rfl) (fun _ _ _ h => h) (Or.inl ⟨by kernel_rfl, ?hy6⟩) (by assumption) ?rest6
              case hy6 =>
                intro w hSw
                try dsimp only at hSw
                go_simp
                try with_reducible rfl
              try simp only [Act.put]
              refine wpAnyH_take (i := 6) (oi := { dst := some 36, op := _, type := _, pos := _, after := _, guard := _ }) (v := ?v7) rfl (by kernel_rfl) (by kernel_rfl) (by kernel_rfl) (fun _ _ _ h => h) (Or.inl ⟨by kernel_rfl, ?hy7⟩) (by assumption) ?rest7
              case hy7 =>
                intro w hSw
                try dsimp only at hSw
                go_simp
                try with_reducible rfl
              try simp only [Act.put]
              refine wpAnyH_take (i := 7) (oi := { dst := some 37, op := _, type := _, pos := _, after := _, guard := _ }) (v := ?v8) rfl (by kernel_rfl) (by kernel_rfl) (by kernel_rfl) (fun _ _ _ h => h) (Or.inl ⟨by kernel_rfl, ?hy8⟩) (by assumption) ?rest8
              case hy8 =>
                intro w hSw
                try dsimp only at hSw
                go_simp
                try with_reducible rfl
              try simp only [Act.put]
              refine wpAnyH_take (i := 8) (oi := { dst := some 38, op := _, type := _, pos := _, after := _, guard := _ }) (v := ?v9) rfl (by kernel_rfl) (by kernel_rfl) (by kernel_rfl) (fun _ _ _ h => h) (Or.inl ⟨by kernel_rfl, ?hy9⟩) (by assumption) ?rest9
              case hy9 =>
                intro w hSw
                try dsimp only at hSw
                go_simp
                try with_reducible rfl
              try simp only [Act.put]
              refine wpAnyH_take (i := 9) (oi := { dst := some 39, op := _, type := _, pos := _, after := _, guard := _ }) (v := ?v10) rfl (by kernel_rfl) (by kernel_rfl) (by kernel_rfl) (fun _ _ _ h => h) (Or.inl ⟨by kernel_rfl, ?hy10⟩) (by assumption) ?rest10
              case hy10 =>
                intro w hSw
                try dsimp only at hSw
                go_simp
                try with_reducible rfl
              try simp only [Act.put]
              refine wpAnyH_take (i := 10) (oi := { dst := some 40, op := _, type := _, pos := _, after := _, guard := _ }) (v := ?v11) rfl (by kernel_rfl) (by kernel_rfl) (by kernel_rfl) (fun _ _ _ h => h) (Or.inl ⟨by kernel_rfl, ?hy11⟩) (by assumption) ?rest11
              case hy11 =>
                intro w hSw
                try dsimp only at hSw
                go_simp
                try with_reducible rfl
              try simp only [Act.put]
              refine wpAnyH_take (i := 11) (oi := { dst := some 41, op := _, type := _, pos := _, after := _, guard := _ }) (v := ?v12) rfl (by kernel_rfl) (by kernel_rfl) (by kernel_rfl) (fun _ _ _ h => h) (Or.inl ⟨by kernel_rfl, ?hy12⟩) (by assumption) ?rest12
              case hy12 =>
                intro w hSw
                try dsimp only at hSw
                go_simp
                try with_reducible rfl
              try simp only [Act.put]
              refine wpAnyH_take (i := 12) (oi := { dst := some 42, op := _, type := _, pos := _, after := _, guard := _ }) (v := ?v13) rfl (by kernel_rfl) (by kernel_rfl) (by kernel_rfl) (fun _ _ _ h => h) (Or.inl ⟨by kernel_rfl, ?hy13⟩) (by assumption) ?rest13
              case hy13 =>
                intro w hSw
                try dsimp only at hSw
                go_simp
                try with_reducible rfl
              try simp only [Act.put]
              refine wpAnyH_ready (rs := [13]) (by kernel_rfl) (by simp) ?_
              refine AllReadyH.cons (o := _) rfl (fun K hK => ?_) AllReadyH.nil
              go_simp
              go_at_call 44
              have cc := follows_any sp b X.drew
              rw [spA_def, spA_def, HFV.out] at cc
              with_reducible refine cc.mono ?_
              clear cc
              rintro e w5 ⟨rfl, hb5⟩
              refine hK.out _ _ (HKS.out w5 hb5) (fun hHeld => ?_)
              clear hK K
              try simp only [Act.put]
              refine wpAnyH_take (i := 14) (oi := { dst := some 44, op := _, type := _, pos := _, after := _, guard := _ }) (v := ?v14) rfl (by kernel_rfl) (by kernel_rfl) (by kernel_rfl) (fun _ _ _ h => h) (Or.inl ⟨by kernel_rfl, ?hy14⟩) (by assumption) ?rest14
              case hy14 =>
                intro w hSw
                try dsimp only at hSw
                go_simp
                try with_reducible rfl
              try simp only [Act.put]
              refine wpAnyH_take (i := 15) (oi := { dst := some 45, op := _, type := _, pos := _, after := _, guard := _ }) (v := ?v15) rfl (by kernel_rfl) (by kernel_rfl) (by kernel_rfl) (fun _ _ _ h => h) (Or.inl ⟨by kernel_rfl, ?hy15⟩) (by assumption) ?rest15
              case hy15 =>
                intro w hSw
                try dsimp only at hSw
                go_simp
                try with_reducible rfl
              try simp only [Act.put]
              refine wpAnyH_done (by kernel_rfl) ?_ _
              try simp only [List.setIfInBounds_toArray, List.set_cons_zero, List.set_cons_succ]
              have HB := Lib.hid (hbX.drew.trans (hb5.mono hbX.drew.size))
              clear hb5 hbX hoX e0 e1 e2 x0 x1 x2
              go_wp2_with fail
              first | go_ret3 | go_ret2 | go_ret
              exact ⟨⟨none, 0, by rw [HT.out]; rfl, by rw [HT.out]; exact Ls.ElAt.nil _ _ _ _ _⟩, HB.out⟩
            | true =>
              have HFV := Lib.hid hfv
              have HPN := Lib.hid (show P = Ls.prsA (O ++ [sp]) (Tre.split 10 r') by rw [HPD.out, HFO.out, HFV.out]; rfl)
              clear hfv
              refine wp_region_held_drew (S := (fun w' : World => w'.cell? ⟨q, 0, none⟩ = some (.string (str sp.path)) ∧ w'.cell? ⟨q, 1, none⟩ = some (.int .i64 sp.lo) ∧ w'.cell? ⟨q, 2, none⟩ = some (.int .i64 sp.hi) ∧ w'.cell? ⟨g3, (k - 1) * 3, none⟩ = some (.string (str b.path)) ∧ w'.cell? ⟨g3, (k - 1) * 3 + 1, none⟩ = some (.int .i64 b.lo) ∧ w'.cell? ⟨g3, (k - 1) * 3 + 2, none⟩ = some (.int .i64 b.hi))) (by kernel_rfl) ⟨e0, e1, e2, x0, x1, x2⟩ (fun hHeld => ?_)
              refine wpAnyH_take (i := 0) (oi := { dst := some 30, op := _, type := _, pos := _, after := _, guard := _ }) (v := ?v16) rfl (by kernel_rfl) (by kernel_rfl) (by kernel_rfl) (fun _ _ _ h => h) (Or.inl ⟨by kernel_rfl, ?hy16⟩) (by assumption) ?rest16
              case hy16 =>
                intro w hSw
                try dsimp only at hSw
                go_simp
                try with_reducible rfl
              try simp only [Act.put]
              refine wpAnyH_take (i := 1) (oi := { dst := some 31, op := _, type := _, pos := _, after := _, guard := _ }) (v := ?v17) rfl (by kernel_rfl) (by kernel_rfl) (by kernel_rfl) (fun _ _ _ h => h) (Or.inl ⟨by kernel_rfl, ?hy17⟩) (by assumption) ?rest17
              case hy17 =>
                intro w hSw
                try dsimp only at hSw
                go_simp
                try with_reducible rfl
              try simp only [Act.put]
              refine wpAnyH_take (i := 2) (oi := { dst := some 32, op := _, type := _, pos := _, after := _, guard := _ }) (v := ?v18) rfl (by kernel_rfl) (by kernel_rfl) (by kernel_rfl) (fun _ _ _ h => h) (Or.inl ⟨by kernel_rfl, ?hy18⟩) (by assumption) ?rest18
              case hy18 =>
                intro w hSw
                try dsimp only at hSw
                go_simp
                try with_reducible rfl
              try simp only [Act.put]
              refine wpAnyH_take (i := 3) (oi := { dst := some 33, op := _, type := _, pos := _, after := _, guard := _ }) (v := ?v19) rfl (by kernel_rfl) (by kernel_rfl) (by kernel_rfl) (fun _ _ _ h => h) (Or.inl ⟨by kernel_rfl, ?hy19⟩) (by assumption) ?rest19
              case hy19 =>
                intro w hSw
                try dsimp only at hSw
                go_simp
                try with_reducible rfl
              try simp only [Act.put]
              refine wpAnyH_take (i := 4) (oi := { dst := some 34, op := _, type := _, pos := _, after := _, guard := _ }) (v := ?v20) rfl (by kernel_rfl) (by kernel_rfl) (by kernel_rfl) (fun _ _ _ h => h) (Or.inl ⟨by kernel_rfl, ?hy20⟩) (by assumption) ?rest20
              case hy20 =>
                intro w hSw
                try dsimp only at hSw
                go_simp
                try with_reducible rfl
              try simp only [Act.put]
              refine wpAnyH_take (i := 5) (oi := { dst := some 35, op := _, type := _, pos := _, after := _, guard := _ }) (v := ?v21) rfl (by kernel_rfl) (by kernel_rfl) (by kernel_rfl) (fun _ _ _ h => h) (Or.inl ⟨by kernel_rfl, ?hy21⟩) (by assumption) ?rest21
              case hy21 =>
                intro w hSw
                try dsimp only at hSw
                go_simp
                try with_reducible rfl
              try simp only [Act.put]
              refine wpAnyH_take (i := 6) (oi := { dst := some 36, op := _, type := _, pos := _, after := _, guard := _ }) (v := ?v22) rfl (by kernel_rfl) (by kernel_rfl) (by kernel_rfl) (fun _ _ _ h => h) (Or.inl ⟨by kernel_rfl, ?hy22⟩) (by assumption) ?rest22
              case hy22 =>
                intro w hSw
                try dsimp only at hSw
                go_simp
                try with_reducible rfl
              try simp only [Act.put]
              refine wpAnyH_take (i := 7) (oi := { dst := some 37, op := _, type := _, pos := _, after := _, guard := _ }) (v := ?v23) rfl (by kernel_rfl) (by kernel_rfl) (by kernel_rfl) (fun _ _ _ h => h) (Or.inl ⟨by kernel_rfl, ?hy23⟩) (by assumption) ?rest23
              case hy23 =>
                intro w hSw
                try dsimp only at hSw
                go_simp
                try with_reducible rfl
              try simp only [Act.put]
              refine wpAnyH_take (i := 8) (oi := { dst := some 38, op := _, type := _, pos := _, after := _, guard := _ }) (v := ?v24) rfl (by kernel_rfl) (by kernel_rfl) (by kernel_rfl) (fun _ _ _ h => h) (Or.inl ⟨by kernel_rfl, ?hy24⟩) (by assumption) ?rest24
              case hy24 =>
                intro w hSw
                try dsimp only at hSw
                go_simp
                try with_reducible rfl
              try simp only [Act.put]
              refine wpAnyH_take (i := 9) (oi := { dst := some 39, op := _, type := _, pos := _, after := _, guard := _ }) (v := ?v25) rfl (by kernel_rfl) (by kernel_rfl) (by kernel_rfl) (fun _ _ _ h => h) (Or.inl ⟨by kernel_rfl, ?hy25⟩) (by assumption) ?rest25
              case hy25 =>
                intro w hSw
                try dsimp only at hSw
                go_simp
                try with_reducible rfl
              try simp only [Act.put]
              refine wpAnyH_take (i := 10) (oi := { dst := some 40, op := _, type := _, pos := _, after := _, guard := _ }) (v := ?v26) rfl (by kernel_rfl) (by kernel_rfl) (by kernel_rfl) (fun _ _ _ h => h) (Or.inl ⟨by kernel_rfl, ?hy26⟩) (by assumption) ?rest26
              case hy26 =>
                intro w hSw
                try dsimp only at hSw
                go_simp
                try with_reducible rfl
              try simp only [Act.put]
              refine wpAnyH_take (i := 11) (oi := { dst := some 41, op := _, type := _, pos := _, after := _, guard := _ }) (v := ?v27) rfl (by kernel_rfl) (by kernel_rfl) (by kernel_rfl) (fun _ _ _ h => h) (Or.inl ⟨by kernel_rfl, ?hy27⟩) (by assumption) ?rest27
              case hy27 =>
                intro w hSw
                try dsimp only at hSw
                go_simp
                try with_reducible rfl
              try simp only [Act.put]
              refine wpAnyH_take (i := 12) (oi := { dst := some 42, op := _, type := _, pos := _, after := _, guard := _ }) (v := ?v28) rfl (by kernel_rfl) (by kernel_rfl) (by kernel_rfl) (fun _ _ _ h => h) (Or.inl ⟨by kernel_rfl, ?hy28⟩) (by assumption) ?rest28
              case hy28 =>
                intro w hSw
                try dsimp only at hSw
                go_simp
                try with_reducible rfl
              try simp only [Act.put]
              refine wpAnyH_ready (rs := [13]) (by kernel_rfl) (by simp) ?_
              refine AllReadyH.cons (o := _) rfl (fun K hK => ?_) AllReadyH.nil
              go_simp
              go_at_call 44
              have cc := follows_any sp b X.drew
              rw [spA_def, spA_def, HFV.out] at cc
              with_reducible refine cc.mono ?_
              clear cc
              rintro e w5 ⟨rfl, hb5⟩
              refine hK.out _ _ (HKS.out w5 hb5) (fun hHeld => ?_)
              clear hK K
              try simp only [Act.put]
              refine wpAnyH_take (i := 14) (oi := { dst := some 44, op := _, type := _, pos := _, after := _, guard := _ }) (v := ?v29) rfl (by kernel_rfl) (by kernel_rfl) (by kernel_rfl) (fun _ _ _ h => h) (Or.inl ⟨by kernel_rfl, ?hy29⟩) (by assumption) ?rest29
              case hy29 =>
                intro w hSw
                try dsimp only at hSw
                go_simp
                try with_reducible rfl
              try simp only [Act.put]
              refine wpAnyH_take (i := 15) (oi := { dst := some 45, op := _, type := _, pos := _, after := _, guard := _ }) (v := ?v30) rfl (by kernel_rfl) (by kernel_rfl) (by kernel_rfl) (fun _ _ _ h => h) (Or.inl ⟨by kernel_rfl, ?hy30⟩) (by assumption) ?rest30
              case hy30 =>
                intro w hSw
                try dsimp only at hSw
                go_simp
                try with_reducible rfl
              try simp only [Act.put]
              refine wpAnyH_done (by kernel_rfl) ?_ _
              try simp only [List.setIfInBounds_toArray, List.set_cons_zero, List.set_cons_succ]
              have hbY := hbX.drew.trans (hb5.mono hbX.drew.size)
              have hoY : w5.ownsRow w.heap.size 32 3 (.slice (some ⟨g3, 0, none⟩) k c3) k (Ls.spsV O) := own_below (w := X.drew) hoX hb5
              have hNY := (hb5.block _ (blk_lt HNX.out)).trans HNX.out
              clear hb5 hbX hoX e0 e1 e2 x0 x1 x2
              generalize w5 = Y at *
              have hYs := hbY.size
              have e0 : Y.cell? ⟨q, 0, none⟩ = some (.string (str sp.path)) := by rw [cell_of_row _ _ _ _ _ _ hNY]; rfl
              have e1 : Y.cell? ⟨q, 1, none⟩ = some (.int .i64 sp.lo) := by rw [cell_of_row _ _ _ _ _ _ hNY]; rfl
              have e2 : Y.cell? ⟨q, 2, none⟩ = some (.int .i64 sp.hi) := by rw [cell_of_row _ _ _ _ _ _ hNY]; rfl
              go_wp2_with (at_builtin; refine wpList_append_lies _ (by rfl) _ _ 23 (by rfl) w.heap.size 32 isp _ 3 32 Tryz.underlying23 hisp hz0 hz1 hz2 rfl (by omega) (.slice (some ⟨g3, 0, none⟩) k c3) k _ (by rfl) (hoY.alloc _) ⟨Y.heap.size, 0, none⟩ 1 1 [_, _, _] (by rfl) (by rfl) (World.news_of_block (cs := #[_, _, _]) (t := 32) (fr := (0, 0)) (heap_alloc_new Y _)) (by simp [Value.oneCell']) (by omega) (by unfold maxLen; omega) (by omega) (by simp; omega) (Y.heap.size + 1) (by simp) ?_; intro gg cap w6 hown6 hgrow hat hlt6)
              have hb6 := below_grown (hbY.alloc (by omega) _) (by simp; omega) (hoY.alloc _) hgrow
              have HO := Lib.hid hown6
              have H6 := Lib.hid hb6
              clear hown6 hb6 hgrow hat hlt6 hbY hoY e0 e1 e2
              go_wp2_with fail
              go_roundw
              case rel => exact ⟨k + 1, r', O ++ [sp], rfl, by go_num, by rw [List.length_append, List.length_singleton, HOL.out], by have := HLEN.out; omega, HPN.out, by rw [Ls.spsV_app, Ls.spsV_one]; exact HO.out, H6.out⟩
              case measure => simp [intOf]; omega
        · have HT := Lib.hid (show P = (er, (k : Int), []) from HPC.out.trans (if_pos her))
          have b1 : (er == (0 : Int)) = false := by rw [beq_eq_false_iff_ne]; exact her
          have b2 : (er != (0 : Int)) = true := by rw [bne_iff_ne]; exact her
          clear HPC her
          go_quiet (fail)
          have HB := Lib.hid (show Below w.heap.size w (X.drewN nq) from below_drewN hbX nq)
          clear hbX hoX hN
          go_wp2_with fail
          first | go_ret3 | go_ret2 | go_ret
          exact ⟨⟨none, 0, by rw [HT.out]; rfl, by rw [HT.out]; exact Ls.ElAt.nil _ _ _ _ _⟩, HB.out⟩
end Go.Proofs.YtlablbibdkcifaaGreatDoor
