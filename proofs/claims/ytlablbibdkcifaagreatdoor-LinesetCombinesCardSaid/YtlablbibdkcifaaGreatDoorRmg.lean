/- merge of the reference. No condition but the lengths. -/
import Derived.Test.YtlablbibdkcifaaGreatDoorRbf
import Derived.Deep.RegionHeld3
namespace Go.Proofs.YtlablbibdkcifaaGreatDoor
open Go.RowKit Go.Deep Tr

set_option maxHeartbeats 16000000 in
set_option maxRecDepth 100000 in
theorem qmerge_any (a b : List Ls.Ln) (A A' : Option Addr) (c c' : Nat) (w : World) (hA : Ls.LnAt w w.heap.size A a) (hB : Ls.LnAt w w.heap.size A' b) (hla : a.length ≤ 1000000) (hlb : b.length ≤ 1000000) :
    Calls Tryz.prog 57 #[.slice A a.length c, .slice A' b.length c'] w (GotLn w (Ls.mrg a b)) := by
  obtain ⟨iln, hiln, hz0, hz1, hz2⟩ := info_parts infoLn
  have ho0 := own_emptyL w w.heap.size (Nat.le_refl _) 44 2
  have hb0 : Below w.heap.size w (w.alloc (.cells #[] 44)) := (Below.refl _ _).alloc (Nat.le_refl _) _
  have HAA := Lib.hid hA
  have HBB := Lib.hid hB
  have HO0 := Lib.hid ho0
  have HB0 := Lib.hid hb0
  have HM0 := Lib.hid (show Ls.mrg a b = [] ++ Ls.mrg (a.drop 0) (b.drop 0) from rfl)
  generalize Ls.mrg a b = M at *
  clear hA hB ho0 hb0
  go_enter Tryz.func57, Tryz.ntmps57
  go_wp2_with fail
  go_loopw [5, 6, 7] (fun s5 s6 s7 wr => ∃ (i k : Nat) (O : List Ls.Ln), s6 = .int .i64 i ∧ s7 = .int .i64 k ∧ i ≤ a.length ∧ k ≤ b.length ∧ M = O ++ Ls.mrg (a.drop i) (b.drop k) ∧ O.length = i + k ∧ wr.ownsRow w.heap.size 44 2 s5 O.length (Ls.lnsV O) ∧ Below w.heap.size w wr) (fun _ s6 s7 _ => (a.length - (intOf s6).toNat) + (b.length - (intOf s7).toNat))
  case atStart => exact ⟨0, 0, [], rfl, rfl, by omega, by omega, HM0.out, rfl, HO0.out, HB0.out⟩
  case round =>
    clear HO0 HB0 HM0
    obtain ⟨i, k, O, rfl, rfl, hi, hk, hM, hOl0, hown, hb⟩ := hrel
    have hOl : O.length ≤ 2000000 := by omega
    have HOL := Lib.hid hOl0
    clear hOl0
    have hwX := hb.size
    have HMM := Lib.hid hM
    clear hM
    obtain ⟨A3, c3, rfl, hc3, hm3, _⟩ := Ls.own_el Ls.lnV 2 Ls.lnV_len hown
    have yk : (k : Int) ≤ (b.length : Int) := by omega
    by_cases hia : i < a.length
    · have i1 : decide ((i : Int) < (a.length : Int)) = true := decide_eq_true (by omega)
      have i1n : decide (i < a.length) = true := decide_eq_true hia
      have i2 : (i : Int) < (a.length : Int) := by omega
      obtain ⟨ga, oa, rfl, hga, hca⟩ := HAA.out i hia
      have ca0 := hca 0 _ rfl
      have ca1 := hca 1 _ rfl
      rw [Nat.add_zero] at ca0
      clear hca
      have HX := Lib.hid (fun (w5 : World) (h5 : Below w.heap.size w w5) => (show w5.cell? ⟨ga, oa + i * 2, none⟩ = some (.string (str a[i].1)) ∧ w5.cell? ⟨ga, oa + i * 2 + 1, none⟩ = some (.int .i64 a[i].2) from ⟨(h5.cell (p := ⟨ga, oa + i * 2, none⟩) hga).trans ca0, (h5.cell (p := ⟨ga, oa + i * 2 + 1, none⟩) hga).trans ca1⟩))
      clear ca0 ca1
      by_cases hkb : k < b.length
      · have k1 : decide ((k : Int) < (b.length : Int)) = true := decide_eq_true (by omega)
        have k1n : decide (k < b.length) = true := decide_eq_true hkb
        have k2 : (k : Int) < (b.length : Int) := by omega
        have k3 : ((k : Int) == (b.length : Int)) = false := by rw [beq_eq_false_iff_ne]; omega
        have k3n : (k == b.length) = false := by rw [beq_eq_false_iff_ne]; omega
        obtain ⟨gb, ob, rfl, hgb, hcb⟩ := HBB.out k hkb
        have cb0 := hcb 0 _ rfl
        have cb1 := hcb 1 _ rfl
        rw [Nat.add_zero] at cb0
        clear hcb
        have HY := Lib.hid (fun (w5 : World) (h5 : Below w.heap.size w w5) => (show w5.cell? ⟨gb, ob + k * 2, none⟩ = some (.string (str b[k].1)) ∧ w5.cell? ⟨gb, ob + k * 2 + 1, none⟩ = some (.int .i64 b[k].2) from ⟨(h5.cell (p := ⟨gb, ob + k * 2, none⟩) hgb).trans cb0, (h5.cell (p := ⟨gb, ob + k * 2 + 1, none⟩) hgb).trans cb1⟩))
        clear cb0 cb1
        have HL := Lib.hid (Ls.mrg_left a b i k hia hkb)
        have HR := Lib.hid (Ls.mrg_right a b i k hia hkb)
        generalize a[i] = x at *
        generalize b[k] = y at *
        have d0 := (HX.out wr hb).1
        have d1 := (HX.out wr hb).2
        have e0 := (HY.out wr hb).1
        have e1 := (HY.out wr hb).2
        go_upto_region 4 with (fail)
        cases hby : Ls.bfr x y with
        | true =>
          have HBY := Lib.hid hby
          have HM := Lib.hid (show M = O ++ x :: Ls.mrg (a.drop (i + 1)) (b.drop k) by rw [HMM.out, HL.out hby])
          clear hby HL HR
          refine wp_region_held_drew (S := (fun w' : World => w'.cell? ⟨ga, oa + i * 2, none⟩ = some (.string (str x.1)) ∧ w'.cell? ⟨ga, oa + i * 2 + 1, none⟩ = some (.int .i64 x.2) ∧ w'.cell? ⟨gb, ob + k * 2, none⟩ = some (.string (str y.1)) ∧ w'.cell? ⟨gb, ob + k * 2 + 1, none⟩ = some (.int .i64 y.2))) (by kernel_rfl) ⟨d0, d1, e0, e1⟩ (fun hHeld => ?_)
          refine wpAnyH_take (i := 0) (oi := { dst := some 19, op := _, type := _, pos := _, after := _, guard := _ }) (v := ?v1) rfl (by kernel_rfl) (by kernel_rfl) (by kernel_rfl) (fun _ _ _ h => h) (Or.inl ⟨by kernel_rfl, ?hy1⟩) (by assumption) ?rest1
          case hy1 =>
            intro w hSw
            try dsimp only at hSw
            go_simp
            try with_reducible rfl
          try simp only [Act.put]
          refine wpAnyH_take (i := 1) (oi := { dst := some 20, op := _, type := _, pos := _, after := _, guard := _ }) (v := ?v2) rfl (by kernel_rfl) (by kernel_rfl) (by kernel_rfl) (fun _ _ _ h => h) (Or.inl ⟨by kernel_rfl, ?hy2⟩) (by assumption) ?rest2
          case hy2 =>
            intro w hSw
            try dsimp only at hSw
            go_simp
            try with_reducible rfl
          try simp only [Act.put]
          refine wpAnyH_take (i := 2) (oi := { dst := some 21, op := _, type := _, pos := _, after := _, guard := _ }) (v := ?v3) rfl (by kernel_rfl) (by kernel_rfl) (by kernel_rfl) (fun _ _ _ h => h) (Or.inl ⟨by kernel_rfl, ?hy3⟩) (by assumption) ?rest3
          case hy3 =>
            intro w hSw
            try dsimp only at hSw
            go_simp
            try with_reducible rfl
          try simp only [Act.put]
          refine wpAnyH_take (i := 3) (oi := { dst := some 22, op := _, type := _, pos := _, after := _, guard := _ }) (v := ?v4) rfl (by kernel_rfl) (by kernel_rfl) (by kernel_rfl) (fun _ _ _ h => h) (Or.inl ⟨by kernel_rfl, ?hy4⟩) (by assumption) ?rest4
          case hy4 =>
            intro w hSw
            try dsimp only at hSw
            go_simp
            try with_reducible rfl
          try simp only [Act.put]
          refine wpAnyH_take (i := 4) (oi := { dst := some 23, op := _, type := _, pos := _, after := _, guard := _ }) (v := ?v5) rfl (by kernel_rfl) (by kernel_rfl) (by kernel_rfl) (fun _ _ _ h => h) (Or.inl ⟨by kernel_rfl, ?hy5⟩) (by assumption) ?rest5
          case hy5 =>
            intro w hSw
            try dsimp only at hSw
            go_simp
            try with_reducible rfl
          try simp only [Act.put]
          refine wpAnyH_take (i := 5) (oi := { dst := some 24, op := _, type := _, pos := _, after := _, guard := _ }) (v := ?v6) rfl (by kernel_rfl) (by kernel_rfl) (by kernel_rfl) (fun _ _ _ h => h) (Or.inl ⟨by kernel_rfl, ?hy6⟩) (by assumption) ?rest6
          case hy6 =>
            intro w hSw
            try dsimp only at hSw
            go_simp
            try with_reducible rfl
          try simp only [Act.put]
          refine wpAnyH_take (i := 6) (oi := { dst := some 25, op := _, type := _, pos := _, after := _, guard := _ }) (v := ?v7) rfl (by kernel_rfl) (by kernel_rfl) (by kernel_rfl) (fun _ _ _ h => h) (Or.inl ⟨by kernel_rfl, ?hy7⟩) (by assumption) ?rest7
          case hy7 =>
            intro w hSw
            try dsimp only at hSw
            go_simp
            try with_reducible rfl
          try simp only [Act.put]
          refine wpAnyH_take (i := 7) (oi := { dst := some 26, op := _, type := _, pos := _, after := _, guard := _ }) (v := ?v8) rfl (by kernel_rfl) (by kernel_rfl) (by kernel_rfl) (fun _ _ _ h => h) (Or.inl ⟨by kernel_rfl, ?hy8⟩) (by assumption) ?rest8
          case hy8 =>
            intro w hSw
            try dsimp only at hSw
            go_simp
            try with_reducible rfl
          try simp only [Act.put]
          refine wpAnyH_take (i := 8) (oi := { dst := some 27, op := _, type := _, pos := _, after := _, guard := _ }) (v := ?v9) rfl (by kernel_rfl) (by kernel_rfl) (by kernel_rfl) (fun _ _ _ h => h) (Or.inl ⟨by kernel_rfl, ?hy9⟩) (by assumption) ?rest9
          case hy9 =>
            intro w hSw
            try dsimp only at hSw
            go_simp
            try with_reducible rfl
          try simp only [Act.put]
          refine wpAnyH_take (i := 9) (oi := { dst := some 28, op := _, type := _, pos := _, after := _, guard := _ }) (v := ?v10) rfl (by kernel_rfl) (by kernel_rfl) (by kernel_rfl) (fun _ _ _ h => h) (Or.inl ⟨by kernel_rfl, ?hy10⟩) (by assumption) ?rest10
          case hy10 =>
            intro w hSw
            try dsimp only at hSw
            go_simp
            try with_reducible rfl
          try simp only [Act.put]
          refine wpAnyH_take (i := 10) (oi := { dst := some 29, op := _, type := _, pos := _, after := _, guard := _ }) (v := ?v11) rfl (by kernel_rfl) (by kernel_rfl) (by kernel_rfl) (fun _ _ _ h => h) (Or.inl ⟨by kernel_rfl, ?hy11⟩) (by assumption) ?rest11
          case hy11 =>
            intro w hSw
            try dsimp only at hSw
            go_simp
            try with_reducible rfl
          try simp only [Act.put]
          refine wpAnyH_take (i := 11) (oi := { dst := some 30, op := _, type := _, pos := _, after := _, guard := _ }) (v := ?v12) rfl (by kernel_rfl) (by kernel_rfl) (by kernel_rfl) (fun _ _ _ h => h) (Or.inl ⟨by kernel_rfl, ?hy12⟩) (by assumption) ?rest12
          case hy12 =>
            intro w hSw
            try dsimp only at hSw
            go_simp
            try with_reducible rfl
          try simp only [Act.put]
          refine wpAnyH_take (i := 12) (oi := { dst := some 31, op := _, type := _, pos := _, after := _, guard := _ }) (v := ?v13) rfl (by kernel_rfl) (by kernel_rfl) (by kernel_rfl) (fun _ _ _ h => h) (Or.inl ⟨by kernel_rfl, ?hy13⟩) (by assumption) ?rest13
          case hy13 =>
            intro w hSw
            try dsimp only at hSw
            go_simp
            try with_reducible rfl
          try simp only [Act.put]
          refine wpAnyH_take (i := 13) (oi := { dst := some 32, op := _, type := _, pos := _, after := _, guard := _ }) (v := ?v14) rfl (by kernel_rfl) (by kernel_rfl) (by kernel_rfl) (fun _ _ _ h => h) (Or.inl ⟨by kernel_rfl, ?hy14⟩) (by assumption) ?rest14
          case hy14 =>
            intro w hSw
            try dsimp only at hSw
            go_simp
            try with_reducible rfl
          try simp only [Act.put]
          refine wpAnyH_take (i := 14) (oi := { dst := some 33, op := _, type := _, pos := _, after := _, guard := _ }) (v := ?v15) rfl (by kernel_rfl) (by kernel_rfl) (by kernel_rfl) (fun _ _ _ h => h) (Or.inl ⟨by kernel_rfl, ?hy15⟩) (by assumption) ?rest15
          case hy15 =>
            intro w hSw
            try dsimp only at hSw
            go_simp
            try with_reducible rfl
          try simp only [Act.put]
          refine wpAnyH_take (i := 15) (oi := { dst := some 34, op := _, type := _, pos := _, after := _, guard := _ }) (v := ?v16) rfl (by kernel_rfl) (by kernel_rfl) (by kernel_rfl) (fun _ _ _ h => h) (Or.inl ⟨by kernel_rfl, ?hy16⟩) (by assumption) ?rest16
          case hy16 =>
            intro w hSw
            try dsimp only at hSw
            go_simp
            try with_reducible rfl
          try simp only [Act.put]
          refine wpAnyH_take (i := 16) (oi := { dst := some 35, op := _, type := _, pos := _, after := _, guard := _ }) (v := ?v17) rfl (by kernel_rfl) (by kernel_rfl) (by kernel_rfl) (fun _ _ _ h => h) (Or.inl ⟨by kernel_rfl, ?hy17⟩) (by assumption) ?rest17
          case hy17 =>
            intro w hSw
            try dsimp only at hSw
            go_simp
            try with_reducible rfl
          try simp only [Act.put]
          refine wpAnyH_take (i := 17) (oi := { dst := some 36, op := _, type := _, pos := _, after := _, guard := _ }) (v := ?v18) rfl (by kernel_rfl) (by kernel_rfl) (by kernel_rfl) (fun _ _ _ h => h) (Or.inl ⟨by kernel_rfl, ?hy18⟩) (by assumption) ?rest18
          case hy18 =>
            intro w hSw
            try dsimp only at hSw
            go_simp
            try with_reducible rfl
          try simp only [Act.put]
          refine wpAnyH_ready (rs := [18]) (by kernel_rfl) (by simp) ?_
          refine AllReadyH.cons (o := _) rfl (fun K hK => ?_) AllReadyH.nil
          go_simp
          go_at_call 77
          have cc := qbefore_any x y wr.drew
          rw [lnA_def, lnA_def, HBY.out] at cc
          with_reducible refine cc.mono ?_
          clear cc
          rintro e w5 ⟨rfl, hb5⟩
          have hbQ := hb.drew.trans (hb5.mono hb.drew.size)
          refine hK.out _ _ ⟨(HX.out w5 hbQ).1, (HX.out w5 hbQ).2, (HY.out w5 hbQ).1, (HY.out w5 hbQ).2⟩ (fun hHeld => ?_)
          clear hK K
          try simp only [Act.put]
          refine wpAnyH_take (i := 19) (oi := { dst := some 38, op := _, type := _, pos := _, after := _, guard := _ }) (v := ?v19) rfl (by kernel_rfl) (by kernel_rfl) (by kernel_rfl) (fun _ _ _ h => h) (Or.inl ⟨by kernel_rfl, ?hy19⟩) (by assumption) ?rest19
          case hy19 =>
            intro w hSw
            try dsimp only at hSw
            go_simp
            try with_reducible rfl
          try simp only [Act.put]
          refine wpAnyH_take (i := 20) (oi := { dst := some 39, op := _, type := _, pos := _, after := _, guard := _ }) (v := ?v20) rfl (by kernel_rfl) (by kernel_rfl) (by kernel_rfl) (fun _ _ _ h => h) (Or.inl ⟨by kernel_rfl, ?hy20⟩) (by assumption) ?rest20
          case hy20 =>
            intro w hSw
            try dsimp only at hSw
            go_simp
            try with_reducible rfl
          try simp only [Act.put]
          refine wpAnyH_done (by kernel_rfl) ?_ _
          try simp only [List.setIfInBounds_toArray, List.set_cons_zero, List.set_cons_succ]
          have hbX : Below w.heap.size w w5 := hb.drew.trans (hb5.mono hb.drew.size)
          have hoX : w5.ownsRow w.heap.size 44 2 (.slice A3 O.length c3) O.length (Ls.lnsV O) := own_below (w := wr.drew) hown hb5
          clear d0 d1 e0 e1 hb hown hb5 hwX
          generalize w5 = X at *
          have hown := hoX
          have hwX := hbX.size
          clear hoX
          have d0 := (HX.out X hbX).1
          have d1 := (HX.out X hbX).2
          go_wp2_with (at_builtin; refine wpList_append_lies _ (by rfl) _ _ 40 (by rfl) w.heap.size 44 iln _ 2 24 Tryz.underlying40 hiln hz0 hz1 hz2 rfl (by omega) (.slice A3 O.length c3) O.length _ (by rfl) (hown.alloc _) ⟨X.heap.size, 0, none⟩ 1 1 [_, _] (by rfl) (by rfl) (World.news_of_block (cs := #[_, _]) (t := 44) (fr := (0, 0)) (heap_alloc_new X _)) (by simp [Value.oneCell']) (by omega) (by unfold maxLen; omega) (by omega) (by simp; omega) (X.heap.size + 1) (by simp) ?_; intro gg cap w6 hown6 hgrow hat hlt6)
          have hb6 := below_grown (hbX.alloc (by omega) _) (by simp; omega) (hown.alloc _) hgrow
          have HO := Lib.hid hown6
          have H6 := Lib.hid hb6
          clear hown6 hb6 hgrow hat hlt6 hbX hown d0 d1
          go_wp2_with fail
          go_roundw
          case rel => exact ⟨i + 1, k, O ++ [x], by go_num, rfl, by omega, by omega, by rw [List.append_assoc, List.singleton_append]; exact HM.out, by rw [List.length_append, List.length_singleton]; have := HOL.out; omega, by rw [Ls.lnsV_app, Ls.lnsV_one, List.length_append, List.length_singleton]; exact HO.out, H6.out⟩
          case measure => simp [intOf]; omega
        | false =>
          have HBY := Lib.hid hby
          have HM := Lib.hid (show M = O ++ y :: Ls.mrg (a.drop i) (b.drop (k + 1)) by rw [HMM.out, HR.out hby])
          clear hby HL HR
          refine wp_region_held_drew (S := (fun w' : World => w'.cell? ⟨ga, oa + i * 2, none⟩ = some (.string (str x.1)) ∧ w'.cell? ⟨ga, oa + i * 2 + 1, none⟩ = some (.int .i64 x.2) ∧ w'.cell? ⟨gb, ob + k * 2, none⟩ = some (.string (str y.1)) ∧ w'.cell? ⟨gb, ob + k * 2 + 1, none⟩ = some (.int .i64 y.2))) (by kernel_rfl) ⟨d0, d1, e0, e1⟩ (fun hHeld => ?_)
          refine wpAnyH_take (i := 0) (oi := { dst := some 19, op := _, type := _, pos := _, after := _, guard := _ }) (v := ?v21) rfl (by kernel_rfl) (by kernel_rfl) (by kernel_rfl) (fun _ _ _ h => h) (Or.inl ⟨by kernel_rfl, ?hy21⟩) (by assumption) ?rest21
          case hy21 =>
            intro w hSw
            try dsimp only at hSw
            go_simp
            try with_reducible rfl
          try simp only [Act.put]
          refine wpAnyH_take (i := 1) (oi := { dst := some 20, op := _, type := _, pos := _, after := _, guard := _ }) (v := ?v22) rfl (by kernel_rfl) (by kernel_rfl) (by kernel_rfl) (fun _ _ _ h => h) (Or.inl ⟨by kernel_rfl, ?hy22⟩) (by assumption) ?rest22
          case hy22 =>
            intro w hSw
            try dsimp only at hSw
            go_simp
            try with_reducible rfl
          try simp only [Act.put]
          refine wpAnyH_take (i := 2) (oi := { dst := some 21, op := _, type := _, pos := _, after := _, guard := _ }) (v := ?v23) rfl (by kernel_rfl) (by kernel_rfl) (by kernel_rfl) (fun _ _ _ h => h) (Or.inl ⟨by kernel_rfl, ?hy23⟩) (by assumption) ?rest23
          case hy23 =>
            intro w hSw
            try dsimp only at hSw
            go_simp
            try with_reducible rfl
          try simp only [Act.put]
          refine wpAnyH_take (i := 3) (oi := { dst := some 22, op := _, type := _, pos := _, after := _, guard := _ }) (v := ?v24) rfl (by kernel_rfl) (by kernel_rfl) (by kernel_rfl) (fun _ _ _ h => h) (Or.inl ⟨by kernel_rfl, ?hy24⟩) (by assumption) ?rest24
          case hy24 =>
            intro w hSw
            try dsimp only at hSw
            go_simp
            try with_reducible rfl
          try simp only [Act.put]
          refine wpAnyH_take (i := 4) (oi := { dst := some 23, op := _, type := _, pos := _, after := _, guard := _ }) (v := ?v25) rfl (by kernel_rfl) (by kernel_rfl) (by kernel_rfl) (fun _ _ _ h => h) (Or.inl ⟨by kernel_rfl, ?hy25⟩) (by assumption) ?rest25
          case hy25 =>
            intro w hSw
            try dsimp only at hSw
            go_simp
            try with_reducible rfl
          try simp only [Act.put]
          refine wpAnyH_take (i := 5) (oi := { dst := some 24, op := _, type := _, pos := _, after := _, guard := _ }) (v := ?v26) rfl (by kernel_rfl) (by kernel_rfl) (by kernel_rfl) (fun _ _ _ h => h) (Or.inl ⟨by kernel_rfl, ?hy26⟩) (by assumption) ?rest26
          case hy26 =>
            intro w hSw
            try dsimp only at hSw
            go_simp
            try with_reducible rfl
          try simp only [Act.put]
          refine wpAnyH_take (i := 6) (oi := { dst := some 25, op := _, type := _, pos := _, after := _, guard := _ }) (v := ?v27) rfl (by kernel_rfl) (by kernel_rfl) (by kernel_rfl) (fun _ _ _ h => h) (Or.inl ⟨by kernel_rfl, ?hy27⟩) (by assumption) ?rest27
          case hy27 =>
            intro w hSw
            try dsimp only at hSw
            go_simp
            try with_reducible rfl
          try simp only [Act.put]
          refine wpAnyH_take (i := 7) (oi := { dst := some 26, op := _, type := _, pos := _, after := _, guard := _ }) (v := ?v28) rfl (by kernel_rfl) (by kernel_rfl) (by kernel_rfl) (fun _ _ _ h => h) (Or.inl ⟨by kernel_rfl, ?hy28⟩) (by assumption) ?rest28
          case hy28 =>
            intro w hSw
            try dsimp only at hSw
            go_simp
            try with_reducible rfl
          try simp only [Act.put]
          refine wpAnyH_take (i := 8) (oi := { dst := some 27, op := _, type := _, pos := _, after := _, guard := _ }) (v := ?v29) rfl (by kernel_rfl) (by kernel_rfl) (by kernel_rfl) (fun _ _ _ h => h) (Or.inl ⟨by kernel_rfl, ?hy29⟩) (by assumption) ?rest29
          case hy29 =>
            intro w hSw
            try dsimp only at hSw
            go_simp
            try with_reducible rfl
          try simp only [Act.put]
          refine wpAnyH_take (i := 9) (oi := { dst := some 28, op := _, type := _, pos := _, after := _, guard := _ }) (v := ?v30) rfl (by kernel_rfl) (by kernel_rfl) (by kernel_rfl) (fun _ _ _ h => h) (Or.inl ⟨by kernel_rfl, ?hy30⟩) (by assumption) ?rest30
          case hy30 =>
            intro w hSw
            try dsimp only at hSw
            go_simp
            try with_reducible rfl
          try simp only [Act.put]
          refine wpAnyH_take (i := 10) (oi := { dst := some 29, op := _, type := _, pos := _, after := _, guard := _ }) (v := ?v31) rfl (by kernel_rfl) (by kernel_rfl) (by kernel_rfl) (fun _ _ _ h => h) (Or.inl ⟨by kernel_rfl, ?hy31⟩) (by assumption) ?rest31
          case hy31 =>
            intro w hSw
            try dsimp only at hSw
            go_simp
            try with_reducible rfl
          try simp only [Act.put]
          refine wpAnyH_take (i := 11) (oi := { dst := some 30, op := _, type := _, pos := _, after := _, guard := _ }) (v := ?v32) rfl (by kernel_rfl) (by kernel_rfl) (by kernel_rfl) (fun _ _ _ h => h) (Or.inl ⟨by kernel_rfl, ?hy32⟩) (by assumption) ?rest32
          case hy32 =>
            intro w hSw
            try dsimp only at hSw
            go_simp
            try with_reducible rfl
          try simp only [Act.put]
          refine wpAnyH_take (i := 12) (oi := { dst := some 31, op := _, type := _, pos := _, after := _, guard := _ }) (v := ?v33) rfl (by kernel_rfl) (by kernel_rfl) (by kernel_rfl) (fun _ _ _ h => h) (Or.inl ⟨by kernel_rfl, ?hy33⟩) (by assumption) ?rest33
          case hy33 =>
            intro w hSw
            try dsimp only at hSw
            go_simp
            try with_reducible rfl
          try simp only [Act.put]
          refine wpAnyH_take (i := 13) (oi := { dst := some 32, op := _, type := _, pos := _, after := _, guard := _ }) (v := ?v34) rfl (by kernel_rfl) (by kernel_rfl) (by kernel_rfl) (fun _ _ _ h => h) (Or.inl ⟨by kernel_rfl, ?hy34⟩) (by assumption) ?rest34
          case hy34 =>
            intro w hSw
            try dsimp only at hSw
            go_simp
            try with_reducible rfl
          try simp only [Act.put]
          refine wpAnyH_take (i := 14) (oi := { dst := some 33, op := _, type := _, pos := _, after := _, guard := _ }) (v := ?v35) rfl (by kernel_rfl) (by kernel_rfl) (by kernel_rfl) (fun _ _ _ h => h) (Or.inl ⟨by kernel_rfl, ?hy35⟩) (by assumption) ?rest35
          case hy35 =>
            intro w hSw
            try dsimp only at hSw
            go_simp
            try with_reducible rfl
          try simp only [Act.put]
          refine wpAnyH_take (i := 15) (oi := { dst := some 34, op := _, type := _, pos := _, after := _, guard := _ }) (v := ?v36) rfl (by kernel_rfl) (by kernel_rfl) (by kernel_rfl) (fun _ _ _ h => h) (Or.inl ⟨by kernel_rfl, ?hy36⟩) (by assumption) ?rest36
          case hy36 =>
            intro w hSw
            try dsimp only at hSw
            go_simp
            try with_reducible rfl
          try simp only [Act.put]
          refine wpAnyH_take (i := 16) (oi := { dst := some 35, op := _, type := _, pos := _, after := _, guard := _ }) (v := ?v37) rfl (by kernel_rfl) (by kernel_rfl) (by kernel_rfl) (fun _ _ _ h => h) (Or.inl ⟨by kernel_rfl, ?hy37⟩) (by assumption) ?rest37
          case hy37 =>
            intro w hSw
            try dsimp only at hSw
            go_simp
            try with_reducible rfl
          try simp only [Act.put]
          refine wpAnyH_take (i := 17) (oi := { dst := some 36, op := _, type := _, pos := _, after := _, guard := _ }) (v := ?v38) rfl (by kernel_rfl) (by kernel_rfl) (by kernel_rfl) (fun _ _ _ h => h) (Or.inl ⟨by kernel_rfl, ?hy38⟩) (by assumption) ?rest38
          case hy38 =>
            intro w hSw
            try dsimp only at hSw
            go_simp
            try with_reducible rfl
          try simp only [Act.put]
          refine wpAnyH_ready (rs := [18]) (by kernel_rfl) (by simp) ?_
          refine AllReadyH.cons (o := _) rfl (fun K hK => ?_) AllReadyH.nil
          go_simp
          go_at_call 77
          have cc := qbefore_any x y wr.drew
          rw [lnA_def, lnA_def, HBY.out] at cc
          with_reducible refine cc.mono ?_
          clear cc
          rintro e w5 ⟨rfl, hb5⟩
          have hbQ := hb.drew.trans (hb5.mono hb.drew.size)
          refine hK.out _ _ ⟨(HX.out w5 hbQ).1, (HX.out w5 hbQ).2, (HY.out w5 hbQ).1, (HY.out w5 hbQ).2⟩ (fun hHeld => ?_)
          clear hK K
          try simp only [Act.put]
          refine wpAnyH_take (i := 19) (oi := { dst := some 38, op := _, type := _, pos := _, after := _, guard := _ }) (v := ?v39) rfl (by kernel_rfl) (by kernel_rfl) (by kernel_rfl) (fun _ _ _ h => h) (Or.inl ⟨by kernel_rfl, ?hy39⟩) (by assumption) ?rest39
          case hy39 =>
            intro w hSw
            try dsimp only at hSw
            go_simp
            try with_reducible rfl
          try simp only [Act.put]
          refine wpAnyH_take (i := 20) (oi := { dst := some 39, op := _, type := _, pos := _, after := _, guard := _ }) (v := ?v40) rfl (by kernel_rfl) (by kernel_rfl) (by kernel_rfl) (fun _ _ _ h => h) (Or.inl ⟨by kernel_rfl, ?hy40⟩) (by assumption) ?rest40
          case hy40 =>
            intro w hSw
            try dsimp only at hSw
            go_simp
            try with_reducible rfl
          try simp only [Act.put]
          refine wpAnyH_done (by kernel_rfl) ?_ _
          try simp only [List.setIfInBounds_toArray, List.set_cons_zero, List.set_cons_succ]
          have hbX : Below w.heap.size w w5 := hb.drew.trans (hb5.mono hb.drew.size)
          have hoX : w5.ownsRow w.heap.size 44 2 (.slice A3 O.length c3) O.length (Ls.lnsV O) := own_below (w := wr.drew) hown hb5
          clear d0 d1 e0 e1 hb hown hb5 hwX
          generalize w5 = X at *
          have hown := hoX
          have hwX := hbX.size
          clear hoX
          have e0 := (HY.out X hbX).1
          have e1 := (HY.out X hbX).2
          go_wp2_with (at_builtin; refine wpList_append_lies _ (by rfl) _ _ 40 (by rfl) w.heap.size 44 iln _ 2 24 Tryz.underlying40 hiln hz0 hz1 hz2 rfl (by omega) (.slice A3 O.length c3) O.length _ (by rfl) (hown.alloc _) ⟨X.heap.size, 0, none⟩ 1 1 [_, _] (by rfl) (by rfl) (World.news_of_block (cs := #[_, _]) (t := 44) (fr := (0, 0)) (heap_alloc_new X _)) (by simp [Value.oneCell']) (by omega) (by unfold maxLen; omega) (by omega) (by simp; omega) (X.heap.size + 1) (by simp) ?_; intro gg cap w6 hown6 hgrow hat hlt6)
          have hb6 := below_grown (hbX.alloc (by omega) _) (by simp; omega) (hown.alloc _) hgrow
          have HO := Lib.hid hown6
          have H6 := Lib.hid hb6
          clear hown6 hb6 hgrow hat hlt6 hbX hown e0 e1
          go_wp2_with fail
          go_roundw
          case rel => exact ⟨i, k + 1, O ++ [y], rfl, by go_num, by omega, by omega, by rw [List.append_assoc, List.singleton_append]; exact HM.out, by rw [List.length_append, List.length_singleton]; have := HOL.out; omega, by rw [Ls.lnsV_app, Ls.lnsV_one, List.length_append, List.length_singleton]; exact HO.out, H6.out⟩
          case measure => simp [intOf]; omega
      · have k1 : decide ((k : Int) < (b.length : Int)) = false := decide_eq_false (by omega)
        have k1n : decide (k < b.length) = false := decide_eq_false hkb
        have k3 : ((k : Int) == (b.length : Int)) = true := by rw [beq_iff_eq]; omega
        have k3n : (k == b.length) = true := by rw [beq_iff_eq]; omega
        have HL := Lib.hid (Ls.mrg_a a b i k hia (by omega))
        generalize a[i] = x at *
        have HM := Lib.hid (show M = O ++ x :: Ls.mrg (a.drop (i + 1)) (b.drop k) by rw [HMM.out, HL.out])
        clear HL
        go_upto_region 4 with (fail)
        go_quiet (fail)
        have hbX : Below w.heap.size w (wr.drewN nq) := below_drewN hb nq
        have hoX : (wr.drewN nq).ownsRow w.heap.size 44 2 (.slice A3 O.length c3) O.length (Ls.lnsV O) := own_below hown (below_drewN (Below.refl _ wr) nq)
        clear hb hown hwX
        generalize wr.drewN nq = X at *
        have hown := hoX
        have hwX := hbX.size
        clear hoX
        have d0 := (HX.out X hbX).1
        have d1 := (HX.out X hbX).2
        go_wp2_with (at_builtin; refine wpList_append_lies _ (by rfl) _ _ 40 (by rfl) w.heap.size 44 iln _ 2 24 Tryz.underlying40 hiln hz0 hz1 hz2 rfl (by omega) (.slice A3 O.length c3) O.length _ (by rfl) (hown.alloc _) ⟨X.heap.size, 0, none⟩ 1 1 [_, _] (by rfl) (by rfl) (World.news_of_block (cs := #[_, _]) (t := 44) (fr := (0, 0)) (heap_alloc_new X _)) (by simp [Value.oneCell']) (by omega) (by unfold maxLen; omega) (by omega) (by simp; omega) (X.heap.size + 1) (by simp) ?_; intro gg cap w6 hown6 hgrow hat hlt6)
        have hb6 := below_grown (hbX.alloc (by omega) _) (by simp; omega) (hown.alloc _) hgrow
        have HO := Lib.hid hown6
        have H6 := Lib.hid hb6
        clear hown6 hb6 hgrow hat hlt6 hbX hown d0 d1
        go_wp2_with fail
        go_roundw
        case rel => exact ⟨i + 1, k, O ++ [x], by go_num, rfl, by omega, by omega, by rw [List.append_assoc, List.singleton_append]; exact HM.out, by rw [List.length_append, List.length_singleton]; have := HOL.out; omega, by rw [Ls.lnsV_app, Ls.lnsV_one, List.length_append, List.length_singleton]; exact HO.out, H6.out⟩
        case measure => simp [intOf]; omega
    · have i1 : decide ((i : Int) < (a.length : Int)) = false := decide_eq_false (by omega)
      have i1n : decide (i < a.length) = false := decide_eq_false hia
      by_cases hkb : k < b.length
      · have k1 : decide ((k : Int) < (b.length : Int)) = true := decide_eq_true (by omega)
        have k1n : decide (k < b.length) = true := decide_eq_true hkb
        have k2 : (k : Int) < (b.length : Int) := by omega
        have k3 : ((k : Int) == (b.length : Int)) = false := by rw [beq_eq_false_iff_ne]; omega
        have k3n : (k == b.length) = false := by rw [beq_eq_false_iff_ne]; omega
        obtain ⟨gb, ob, rfl, hgb, hcb⟩ := HBB.out k hkb
        have cb0 := hcb 0 _ rfl
        have cb1 := hcb 1 _ rfl
        rw [Nat.add_zero] at cb0
        clear hcb
        have HY := Lib.hid (fun (w5 : World) (h5 : Below w.heap.size w w5) => (show w5.cell? ⟨gb, ob + k * 2, none⟩ = some (.string (str b[k].1)) ∧ w5.cell? ⟨gb, ob + k * 2 + 1, none⟩ = some (.int .i64 b[k].2) from ⟨(h5.cell (p := ⟨gb, ob + k * 2, none⟩) hgb).trans cb0, (h5.cell (p := ⟨gb, ob + k * 2 + 1, none⟩) hgb).trans cb1⟩))
        clear cb0 cb1
        have HL := Lib.hid (Ls.mrg_b a b i k (by omega) hkb)
        generalize b[k] = y at *
        have HM := Lib.hid (show M = O ++ y :: Ls.mrg (a.drop i) (b.drop (k + 1)) by rw [HMM.out, HL.out])
        clear HL
        go_upto_region 4 with (fail)
        go_quiet (fail)
        have hbX : Below w.heap.size w (wr.drewN nq) := below_drewN hb nq
        have hoX : (wr.drewN nq).ownsRow w.heap.size 44 2 (.slice A3 O.length c3) O.length (Ls.lnsV O) := own_below hown (below_drewN (Below.refl _ wr) nq)
        clear hb hown hwX
        generalize wr.drewN nq = X at *
        have hown := hoX
        have hwX := hbX.size
        clear hoX
        have e0 := (HY.out X hbX).1
        have e1 := (HY.out X hbX).2
        go_wp2_with (at_builtin; refine wpList_append_lies _ (by rfl) _ _ 40 (by rfl) w.heap.size 44 iln _ 2 24 Tryz.underlying40 hiln hz0 hz1 hz2 rfl (by omega) (.slice A3 O.length c3) O.length _ (by rfl) (hown.alloc _) ⟨X.heap.size, 0, none⟩ 1 1 [_, _] (by rfl) (by rfl) (World.news_of_block (cs := #[_, _]) (t := 44) (fr := (0, 0)) (heap_alloc_new X _)) (by simp [Value.oneCell']) (by omega) (by unfold maxLen; omega) (by omega) (by simp; omega) (X.heap.size + 1) (by simp) ?_; intro gg cap w6 hown6 hgrow hat hlt6)
        have hb6 := below_grown (hbX.alloc (by omega) _) (by simp; omega) (hown.alloc _) hgrow
        have HO := Lib.hid hown6
        have H6 := Lib.hid hb6
        clear hown6 hb6 hgrow hat hlt6 hbX hown e0 e1
        go_wp2_with fail
        go_roundw
        case rel => exact ⟨i, k + 1, O ++ [y], rfl, by go_num, by omega, by omega, by rw [List.append_assoc, List.singleton_append]; exact HM.out, by rw [List.length_append, List.length_singleton]; have := HOL.out; omega, by rw [Ls.lnsV_app, Ls.lnsV_one, List.length_append, List.length_singleton]; exact HO.out, H6.out⟩
        case measure => simp [intOf]; omega
      · have k1 : decide ((k : Int) < (b.length : Int)) = false := decide_eq_false (by omega)
        have k1n : decide (k < b.length) = false := decide_eq_false hkb
        have HE := Lib.hid (show O = M by rw [HMM.out, List.drop_of_length_le (show a.length ≤ i by omega), List.drop_of_length_le (show b.length ≤ k by omega)]; simp [Ls.mrg])
        have HO := Lib.hid hown
        have HB := Lib.hid hb
        clear hown hb
        go_wp2_with fail
        first | go_ret2 | go_ret
        exact ⟨_, rfl, by rw [← HE.out]; exact HO.out, HB.out⟩
end Go.Proofs.YtlablbibdkcifaaGreatDoor
