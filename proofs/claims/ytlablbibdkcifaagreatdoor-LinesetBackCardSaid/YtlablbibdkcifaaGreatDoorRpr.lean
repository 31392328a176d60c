/- Print of the reference, and of the program at a set that is not valid. Condition: bytealg's MaxLen lies in its variable. -/
import Derived.Test.YtlablbibdkcifaaGreatDoorRct
import Derived.Test.YtlablbibdkcifaaGreatDoorRvd
import Derived.Test.YtlablbibdkcifaaGreatDoorUni
import Derived.Deep.RegionHeld3
namespace Go.Proofs.YtlablbibdkcifaaGreatDoor
open Go.RowKit Go.Deep Tr

set_option maxHeartbeats 16000000 in
set_option maxRecDepth 100000 in
theorem qprint_any (l : List Ls.Sp) (A : Option Addr) (c : Nat) (w : World) (hA : SetAt w A l) (hl : l.length ≤ 100000) :
    Calls Tryz.prog 18 #[.slice A l.length c] w fun e w' => ((Ls.vld l = true ∧ e = .returned (.tuple #[.string (str (Ls.prt l)), .int .i64 0])) ∨ (Ls.vld l = false ∧ e = .returned (.tuple #[.string ⟨#[]⟩, .int .i64 1]))) ∧ Below w.heap.size w w' := by
  have hva := qvalid_any l A c w hA.at_ (by omega) hA.path
  have HA := Lib.hid hA
  clear hA
  go_enter Tryz.func18, Tryz.ntmps18
  go_wp2_with fail
  with_reducible refine hva.mono ?_
  clear hva
  rintro e w1 ⟨rfl, hb1⟩
  cases hv : Ls.vld l with
  | false =>
    have HVD := Lib.hid hv
    clear hv
    go_wp2_with fail
    first | go_ret3 | go_ret2 | go_ret
    exact ⟨.inr ⟨HVD.out, rfl⟩, hb1⟩
  | true =>
    have HVD := Lib.hid hv
    have HVV := Lib.hid ((Ls.vld_iff l).1 hv)
    have HSL := Lib.hid (show ∀ s ∈ l, (Ls.spT s).length ≤ 173 from fun s hs => by
      have h1 := HVV.out.each s hs
      have h2 := HVV.out.apart.ne s hs
      exact Ls.spT_len s (Ls.pathOk_len h1.1) (by omega) (by omega))
    have HS := Lib.hid (HA.out.next hb1).at_
    have HB1 := Lib.hid hb1
    clear hv hb1
    go_wp2_with fail
    go_loopw [4, 5] (fun s4 s5 wr => ∃ k : Nat, s5 = .int .i64 k ∧ k ≤ l.length ∧ s4 = .string (str (Ls.prt (l.take k))) ∧ Below w1.heap.size w1 wr) (fun _ s5 _ => l.length - (intOf s5).toNat)
    case atStart => exact ⟨0, rfl, by omega, rfl, Below.refl _ _⟩
    case round =>
      obtain ⟨k, rfl, hk, rfl, hb⟩ := hrel
      by_cases hlt : k < l.length
      · have b1 : decide ((k : Int) < (l.length : Int)) = true := decide_eq_true (by omega)
        have b1n : decide (k < l.length) = true := decide_eq_true hlt
        have y2 : (k : Int) < (l.length : Int) := by omega
        obtain ⟨g, o, rfl, hg, hc⟩ := HS.out k hlt
        have HPT := Lib.hid (Ls.prt_take l k hlt)
        have hpl := Ls.prt_len (l.take k) fun s hs => HSL.out s (List.mem_of_mem_take hs)
        rw [List.length_take] at hpl
        have hse := HVV.out.each l[k] (List.getElem_mem hlt)
        have hsn := HVV.out.apart.ne l[k] (List.getElem_mem hlt)
        have hc0 := hc 0 _ rfl
        have hc1 := hc 1 _ rfl
        have hc2 := hc 2 _ rfl
        rw [Nat.add_zero] at hc0
        clear hc
        generalize l[k] = s at *
        obtain ⟨sp, lo, hi⟩ := s
        dsimp only at hse hsn hc0 hc1 hc2
        obtain ⟨a, rfl⟩ : ∃ a : Nat, lo = (a : Int) := ⟨lo.toNat, by omega⟩
        obtain ⟨b, rfl⟩ : ∃ b : Nat, hi = (b : Int) := ⟨hi.toNat, by omega⟩
        have hab : a ≤ 1024 ∧ b ≤ 1024 := by omega
        have hspl := Ls.pathOk_len hse.1
        have HKS := Lib.hid (fun (w5 : World) (h5 : Below w1.heap.size w1 w5) => (show w5.cell? ⟨g, o + k * 3, none⟩ = some (.string (str sp)) ∧ w5.cell? ⟨g, o + k * 3 + 1, none⟩ = some (.int .i64 (a : Int)) ∧ w5.cell? ⟨g, o + k * 3 + 2, none⟩ = some (.int .i64 (b : Int)) from ⟨(h5.cell (p := ⟨g, o + k * 3, none⟩) hg).trans hc0, (h5.cell (p := ⟨g, o + k * 3 + 1, none⟩) hg).trans hc1, (h5.cell (p := ⟨g, o + k * 3 + 2, none⟩) hg).trans hc2⟩))
        have d0 := (HKS.out wr hb).1
        have d1 := (HKS.out wr hb).2.1
        have d2 := (HKS.out wr hb).2.2
        have hbD : Below w1.heap.size w1 wr.drew := hb.drew
        have HTX := Lib.hid (show Ls.prt (l.take (k + 1)) = Ls.prt (l.take k) ++ (sp ++ [32] ++ Lib.decDigits a ++ [32] ++ Lib.decDigits b ++ [10]) from HPT.out)
        clear HPT hc0 hc1 hc2 hb
        generalize Ls.prt (l.take k) = T at *
        have hTl : T.length ≤ 17300000 := by omega
        have hal := Cd.dec_len a (by omega)
        have hbl := Cd.dec_len b (by omega)
        have g0 : (str T).size ≤ 17300000 := by rw [str_size]; exact hTl
        have g1 : (str sp).size ≤ 128 := by rw [str_size]; exact hspl
        have g2 : (str (Lib.decDigits a)).size ≤ 21 := by rw [str_size]; exact hal
        have g3 : (str (Lib.decDigits b)).size ≤ 21 := by rw [str_size]; exact hbl
        have m1 : ¬ 9223372036854775807 < (str T).size + (str sp).size := by omega
        have m2 : ¬ 9223372036854775807 < (str T).size + (str sp).size + 1 := by omega
        have m3 : ¬ 9223372036854775807 < (str T).size + (str sp).size + 1 + (str (Lib.decDigits a)).size := by omega
        have m4 : ¬ 9223372036854775807 < (str T).size + (str sp).size + 1 + (str (Lib.decDigits a)).size + 1 := by omega
        have m5 : ¬ 9223372036854775807 < (str T).size + (str sp).size + 1 + (str (Lib.decDigits a)).size + 1 + (str (Lib.decDigits b)).size := by omega
        have m6 : ¬ 9223372036854775807 < (str T).size + (str sp).size + 1 + (str (Lib.decDigits a)).size + 1 + (str (Lib.decDigits b)).size + 1 := by omega
        have HP5 := Lib.hid (show (((((str T ++ str sp) ++ ⟨#[32]⟩) ++ str (Lib.decDigits a)) ++ ⟨#[32]⟩) ++ str (Lib.decDigits b)) ++ ⟨#[10]⟩ = str (Ls.prt (l.take (k + 1))) by
          rw [HTX.out, show (⟨#[32]⟩ : ByteArray) = str [32] from rfl, show (⟨#[10]⟩ : ByteArray) = str [10] from rfl, str_appL, str_appL, str_appL, str_appL, str_appL, str_appL]
          congr 1
          simp)
        clear hpl hse hsn hspl hal hbl hTl HTX
        go_upto_region 7 with (fail)
        refine wp_region_held_drew (S := (fun w' : World => w'.cell? ⟨g, o + k * 3, none⟩ = some (.string (str sp)) ∧ w'.cell? ⟨g, o + k * 3 + 1, none⟩ = some (.int .i64 (a : Int)) ∧ w'.cell? ⟨g, o + k * 3 + 2, none⟩ = some (.int .i64 (b : Int)))) (by kernel_rfl) ⟨d0, d1, d2⟩ (fun hHeld => ?_)
        refine wpAnyH_take (i := 0) (oi := { dst := some 15, op := _, type := _, pos := _, after := _, guard := _ }) (v := ?v1) rfl (by kernel_rfl) (by kernel_rfl) (by kernel_rfl) (fun _ _ _ h => h) (Or.inl ⟨by kernel_rfl, ?hy1⟩) (by assumption) ?rest1
        case hy1 =>
          intro w hSw
          try dsimp only at hSw
          go_simp
          try with_reducible rfl
        try simp only [Act.put]
        refine wpAnyH_take (i := 1) (oi := { dst := some 16, op := _, type := _, pos := _, after := _, guard := _ }) (v := ?v2) rfl (by kernel_rfl) (by kernel_rfl) (by kernel_rfl) (fun _ _ _ h => h) (Or.inl ⟨by kernel_rfl, ?hy2⟩) (by assumption) ?rest2
        case hy2 =>
          intro w hSw
          try dsimp only at hSw
          go_simp
          try with_reducible rfl
        try simp only [Act.put]
        refine wpAnyH_take (i := 2) (oi := { dst := some 17, op := _, type := _, pos := _, after := _, guard := _ }) (v := ?v3) rfl (by kernel_rfl) (by kernel_rfl) (by kernel_rfl) (fun _ _ _ h => h) (Or.inl ⟨by kernel_rfl, ?hy3⟩) (by assumption) ?rest3
        case hy3 =>
          intro w hSw
          try dsimp only at hSw
          go_simp
          try with_reducible rfl
        try simp only [Act.put]
        refine wpAnyH_take (i := 3) (oi := { dst := some 18, op := _, type := _, pos := _, after := _, guard := _ }) (v := ?v4) rfl (by kernel_rfl) (by kernel_rfl) (by kernel_rfl) (fun _ _ _ h => h) (Or.inl ⟨by kernel_rfl, ?hy4⟩) (by assumption) ?rest4
        case hy4 =>
          intro w hSw
          try dsimp only at hSw
          go_simp
          try with_reducible rfl
        try simp only [Act.put]
        refine wpAnyH_take (i := 4) (oi := { dst := some 19, op := _, type := _, pos := _, after := _, guard := _ }) (v := ?v5) rfl (by kernel_rfl) (by kernel_rfl) (by kernel_rfl) (fun _ _ _ h => h) (Or.inl ⟨by kernel_rfl, ?hy5⟩) (by assumption) ?rest5
        case hy5 =>
          intro w hSw
          try dsimp only at hSw
          go_simp
          try with_reducible rfl
        try simp only [Act.put]
        refine wpAnyH_take (i := 5) (oi := { dst := some 20, op := _, type := _, pos := _, after := _, guard := _ }) (v := ?v6) rfl (by kernel_rfl) (by kernel_rfl) (by kernel_rfl) (fun _ _ _ h => h) (Or.inl ⟨by kernel_rfl, ?hy6⟩) (by assumption) ?rest6
        case hy6 =>
          intro w hSw
          try dsimp only at hSw
          go_simp
          try with_reducible rfl
        try simp only [Act.put]
        refine wpAnyH_take (i := 6) (oi := { dst := some 21, op := _, type := _, pos := _, after := _, guard := _ }) (v := ?v7) rfl (by kernel_rfl) (by kernel_rfl) (by kernel_rfl) (fun _ _ _ h => h) (Or.inl ⟨by kernel_rfl, ?hy7⟩) (by assumption) ?rest7
        case hy7 =>
          intro w hSw
          try dsimp only at hSw
          go_simp
          try with_reducible rfl
        try simp only [Act.put]
        refine wpAnyH_take (i := 7) (oi := { dst := some 22, op := _, type := _, pos := _, after := _, guard := _ }) (v := ?v8) rfl (by kernel_rfl) (by kernel_rfl) (by kernel_rfl) (fun _ _ _ h => h) (Or.inl ⟨by kernel_rfl, ?hy8⟩) (by assumption) ?rest8
        case hy8 =>
          intro w hSw
          try dsimp only at hSw
          go_simp
          try with_reducible rfl
        try simp only [Act.put]
        refine wpAnyH_take (i := 8) (oi := { dst := some 23, op := _, type := _, pos := _, after := _, guard := _ }) (v := ?v9) rfl (by kernel_rfl) (by kernel_rfl) (by kernel_rfl) (fun _ _ _ h => h) (Or.inl ⟨by kernel_rfl, ?hy9⟩) (by assumption) ?rest9
        case hy9 =>
          intro w hSw
          try dsimp only at hSw
          go_simp
          try with_reducible rfl
        try simp only [Act.put]
        refine wpAnyH_take (i := 9) (oi := { dst := some 24, op := _, type := _, pos := _, after := _, guard := _ }) (v := ?v10) rfl (by kernel_rfl) (by kernel_rfl) (by kernel_rfl) (fun _ _ _ h => h) (Or.inl ⟨by kernel_rfl, ?hy10⟩) (by assumption) ?rest10
        case hy10 =>
          intro w hSw
          try dsimp only at hSw
          go_simp
          try with_reducible rfl
        try simp only [Act.put]
        refine wpAnyH_take (i := 10) (oi := { dst := some 25, op := _, type := _, pos := _, after := _, guard := _ }) (v := ?v11) rfl (by kernel_rfl) (by kernel_rfl) (by kernel_rfl) (fun _ _ _ h => h) (Or.inl ⟨by kernel_rfl, ?hy11⟩) (by assumption) ?rest11
        case hy11 =>
          intro w hSw
          try dsimp only at hSw
          go_simp
          try with_reducible rfl
        try simp only [Act.put]
        refine wpAnyH_take (i := 11) (oi := { dst := some 26, op := _, type := _, pos := _, after := _, guard := _ }) (v := ?v12) rfl (by kernel_rfl) (by kernel_rfl) (by kernel_rfl) (fun _ _ _ h => h) (Or.inl ⟨by kernel_rfl, ?hy12⟩) (by assumption) ?rest12
        case hy12 =>
          intro w hSw
          try dsimp only at hSw
          go_simp
          try with_reducible rfl
        try simp only [Act.put]
        refine wpAnyH_take (i := 12) (oi := { dst := some 27, op := _, type := _, pos := _, after := _, guard := _ }) (v := ?v13) rfl (by kernel_rfl) (by kernel_rfl) (by kernel_rfl) (fun _ _ _ h => h) (Or.inl ⟨by kernel_rfl, ?hy13⟩) (by assumption) ?rest13
        case hy13 =>
          intro w hSw
          try dsimp only at hSw
          go_simp
          try with_reducible rfl
        try simp only [Act.put]
        refine wpAnyH_take (i := 16) (oi := { dst := some 31, op := _, type := _, pos := _, after := _, guard := _ }) (v := ?v14) rfl (by kernel_rfl) (by kernel_rfl) (by kernel_rfl) (fun _ _ _ h => h) (Or.inl ⟨by kernel_rfl, ?hy14⟩) (by assumption) ?rest14
        case hy14 =>
          intro w hSw
          try dsimp only at hSw
          go_simp
          try with_reducible rfl
        try simp only [Act.put]
        refine wpAnyH_take (i := 17) (oi := { dst := some 32, op := _, type := _, pos := _, after := _, guard := _ }) (v := ?v15) rfl (by kernel_rfl) (by kernel_rfl) (by kernel_rfl) (fun _ _ _ h => h) (Or.inl ⟨by kernel_rfl, ?hy15⟩) (by assumption) ?rest15
        case hy15 =>
          intro w hSw
          try dsimp only at hSw
          go_simp
          try with_reducible rfl
        try simp only [Act.put]
        refine wpAnyH_take (i := 18) (oi := { dst := some 33, op := _, type := _, pos := _, after := _, guard := _ }) (v := ?v16) rfl (by kernel_rfl) (by kernel_rfl) (by kernel_rfl) (fun _ _ _ h => h) (Or.inl ⟨by kernel_rfl, ?hy16⟩) (by assumption) ?rest16
        case hy16 =>
          intro w hSw
          try dsimp only at hSw
          go_simp
          try with_reducible rfl
        try simp only [Act.put]
        refine wpAnyH_take (i := 19) (oi := { dst := some 34, op := _, type := _, pos := _, after := _, guard := _ }) (v := ?v17) rfl (by kernel_rfl) (by kernel_rfl) (by kernel_rfl) (fun _ _ _ h => h) (Or.inl ⟨by kernel_rfl, ?hy17⟩) (by assumption) ?rest17
        case hy17 =>
          intro w hSw
          try dsimp only at hSw
          go_simp
          try with_reducible rfl
        try simp only [Act.put]
        refine wpAnyH_take (i := 20) (oi := { dst := some 35, op := _, type := _, pos := _, after := _, guard := _ }) (v := ?v18) rfl (by kernel_rfl) (by kernel_rfl) (by kernel_rfl) (fun _ _ _ h => h) (Or.inl ⟨by kernel_rfl, ?hy18⟩) (by assumption) ?rest18
        case hy18 =>
          intro w hSw
          try dsimp only at hSw
          go_simp
          try with_reducible rfl
        try simp only [Act.put]
        refine wpAnyH_ready (rs := [13]) (by kernel_rfl) (by simp) ?_
        refine AllReadyH.cons (o := _) rfl (fun K hK => ?_) AllReadyH.nil
        go_simp
        go_at_call 41
        have cc := qdecimal_any a (by omega) wr.drew
        with_reducible refine cc.mono ?_
        clear cc
        rintro e w5 ⟨rfl, hn5⟩
        have hb5 := hbD.trans (hn5.mono hbD.size)
        refine hK.out _ _ (HKS.out w5 hb5) (fun hHeld => ?_)
        clear hK K
        try simp only [Act.put]
        refine wpAnyH_take (i := 14) (oi := { dst := some 29, op := _, type := _, pos := _, after := _, guard := _ }) (v := ?v19) rfl (by kernel_rfl) (by kernel_rfl) (by kernel_rfl) (fun _ _ _ h => h) (Or.inl ⟨by kernel_rfl, ?hy19⟩) (by assumption) ?rest19
        case hy19 =>
          intro w hSw
          try dsimp only at hSw
          go_simp
          try with_reducible rfl
        try simp only [Act.put]
        refine wpAnyH_take (i := 15) (oi := { dst := some 30, op := _, type := _, pos := _, after := _, guard := _ }) (v := ?v20) rfl (by kernel_rfl) (by kernel_rfl) (by kernel_rfl) (fun _ _ _ h => h) (Or.inl ⟨by kernel_rfl, ?hy20⟩) (by assumption) ?rest20
        case hy20 =>
          intro w hSw
          try dsimp only at hSw
          go_simp
          try with_reducible rfl
        try simp only [Act.put]
        refine wpAnyH_ready (rs := [21]) (by kernel_rfl) (by simp) ?_
        refine AllReadyH.cons (o := _) rfl (fun K hK => ?_) AllReadyH.nil
        go_simp
        go_at_call 41
        have cc := qdecimal_any b (by omega) w5
        with_reducible refine cc.mono ?_
        clear cc
        rintro e w6 ⟨rfl, hn6⟩
        have hb6 := hb5.trans (hn6.mono hb5.size)
        refine hK.out _ _ (HKS.out w6 hb6) (fun hHeld => ?_)
        clear hK K
        try simp only [Act.put]
        refine wpAnyH_take (i := 22) (oi := { dst := some 37, op := _, type := _, pos := _, after := _, guard := _ }) (v := ?v21) rfl (by kernel_rfl) (by kernel_rfl) (by kernel_rfl) (fun _ _ _ h => h) (Or.inl ⟨by kernel_rfl, ?hy21⟩) (by assumption) ?rest21
        case hy21 =>
          intro w hSw
          try dsimp only at hSw
          go_simp
          try with_reducible rfl
        try simp only [Act.put]
        refine wpAnyH_take (i := 23) (oi := { dst := some 38, op := _, type := _, pos := _, after := _, guard := _ }) (v := ?v22) rfl (by kernel_rfl) (by kernel_rfl) (by kernel_rfl) (fun _ _ _ h => h) (Or.inl ⟨by kernel_rfl, ?hy22⟩) (by assumption) ?rest22
        case hy22 =>
          intro w hSw
          try dsimp only at hSw
          go_simp
          try with_reducible rfl
        try simp only [Act.put]
        refine wpAnyH_take (i := 24) (oi := { dst := some 4, op := _, type := _, pos := _, after := _, guard := _ }) (v := ?v23) rfl (by kernel_rfl) (by kernel_rfl) (by kernel_rfl) (fun _ _ _ h => h) (Or.inl ⟨by kernel_rfl, ?hy23⟩) (by assumption) ?rest23
        case hy23 =>
          intro w hSw
          try dsimp only at hSw
          go_simp
          try with_reducible rfl
        try simp only [Act.put]
        refine wpAnyH_done (by kernel_rfl) ?_ _
        try simp only [List.setIfInBounds_toArray, List.set_cons_zero, List.set_cons_succ]
        have H6 := Lib.hid hb6
        clear hb6 hb5 hn5 hn6 hbD d0 d1 d2 g0 g1 g2 g3 m1 m2 m3 m4 m5 m6
        go_wp2_with fail
        go_roundw
        case rel => exact ⟨k + 1, by go_num, by omega, by rw [← HP5.out], H6.out⟩
        case measure => simp [intOf]; omega
      · have b1 : decide ((k : Int) < (l.length : Int)) = false := decide_eq_false (by omega)
        have b1n : decide (k < l.length) = false := decide_eq_false hlt
        have HE := Lib.hid (show Ls.prt (l.take k) = Ls.prt l by rw [List.take_of_length_le (by omega)])
        have HB := Lib.hid (HB1.out.trans (hb.mono HB1.out.size))
        generalize Ls.prt (l.take k) = T at *
        clear hb
        go_wp2_with fail
        first | go_ret3 | go_ret2 | go_ret
        exact ⟨.inl ⟨HVD.out, by rw [← HE.out]; rfl⟩, HB.out⟩
set_option maxHeartbeats 4000000 in
set_option maxRecDepth 100000 in
theorem printBad_any (l : List Ls.Sp) (A : Option Addr) (c : Nat) (w : World) (hA : SetAt w A l) (hv : Ls.vld l = false) (hM : MaxAt w) :
    Calls Tryz.prog 17 #[.slice A l.length c] w fun e w' => e = .returned (.tuple #[.string ⟨#[]⟩, .int .i64 1]) ∧ Below w.heap.size w w' := by
  have hva := valid_any l A c w hA.at_ (by have := hA.len; omega) hA.path hM
  rw [hv] at hva
  clear hA hM hv
  go_enter Tryz.func17, Tryz.ntmps17
  go_wp2_with fail
  with_reducible refine hva.mono ?_
  clear hva
  rintro e w1 ⟨rfl, hb1⟩
  go_wp2_with fail
  first | go_ret3 | go_ret2 | go_ret
  exact ⟨rfl, hb1⟩
end Go.Proofs.YtlablbibdkcifaaGreatDoor
