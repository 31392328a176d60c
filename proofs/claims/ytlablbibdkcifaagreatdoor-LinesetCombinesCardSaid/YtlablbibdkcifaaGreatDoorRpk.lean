/- Pack of the reference, at sorted lines. No condition but the lengths. -/
import Derived.Test.YtlablbibdkcifaaGreatDoorRls
import Derived.Deep.RegionHeld3
namespace Go.Proofs.YtlablbibdkcifaaGreatDoor
open Go.RowKit Go.Deep Tr

theorem last_of {X : World} {B g c : Nat} {i : List Ls.Sp} {t : Ls.Sp} (h : X.ownsRow B 32 3 (.slice (some ⟨g, 0, none⟩) (i.length + 1) c) (i.length + 1) (Ls.spsV (i ++ [t]))) :
    X.cell? ⟨g, i.length * 3, none⟩ = some (.string (str t.path)) ∧ X.cell? ⟨g, i.length * 3 + 2, none⟩ = some (.int .i64 t.hi) ∧ X.frozen? ⟨g, i.length * 3 + 2, none⟩ = false := by
  obtain ⟨g', c', he, _, hce, hfz⟩ := Ls.own_last Ls.spV 3 Ls.spV_len h
  injection he with he _ hec
  injection he with he
  injection he with he
  subst he
  exact ⟨hce 0 _ rfl, hce 2 _ rfl, hfz _⟩
set_option maxHeartbeats 16000000 in
set_option maxRecDepth 100000 in
theorem qpack_any (L : List Ls.Ln) (A : Option Addr) (c : Nat) (w : World) (hA : Ls.LnAt w w.heap.size A L) (hl : L.length ≤ 100000000) (hs : Ls.Srt L) (hok : ∀ x ∈ L, 0 ≤ x.2 ∧ x.2 < 1024) :
    Calls Tryz.prog 56 #[.slice A L.length c] w (GotSp w w.heap.size (Ls.pack L)) := by
  obtain ⟨isp, hisp, hz0, hz1, hz2⟩ := info_parts infoSp
  have ho0 := own_emptyL w w.heap.size (Nat.le_refl _) 32 3
  have hb0 : Below w.heap.size w (w.alloc (.cells #[] 32)) := (Below.refl _ _).alloc (Nat.le_refl _) _
  have HAA := Lib.hid hA
  have HOK := Lib.hid hok
  have HSS := Lib.hid hs
  have HO0 := Lib.hid ho0
  have HB0 := Lib.hid hb0
  clear hA hok hs ho0 hb0
  go_enter Tryz.func56, Tryz.ntmps56
  go_wp2_with fail
  go_loopw [3, 4] (fun s3 s4 wr => ∃ k : Nat, s4 = .int .i64 k ∧ k ≤ L.length ∧ wr.ownsRow w.heap.size 32 3 s3 (Ls.pack (L.take k)).length (Ls.spsV (Ls.pack (L.take k))) ∧ Below w.heap.size w wr) (fun _ s4 _ => L.length - (intOf s4).toNat)
  case atStart => exact ⟨0, rfl, by omega, HO0.out, HB0.out⟩
  case round =>
    clear HO0 HB0
    obtain ⟨k, rfl, hk, hown, hb⟩ := hrel
    by_cases hlt : k < L.length
    · have b1 : decide ((k : Int) < (L.length : Int)) = true := decide_eq_true (by omega)
      have b1n : decide (k < L.length) = true := decide_eq_true hlt
      have y3 : (k : Int) < (L.length : Int) := by omega
      obtain ⟨g, o, rfl, hg, hc⟩ := HAA.out k hlt
      have hx := HOK.out L[k] (List.getElem_mem hlt)
      have HPT := Lib.hid (Ls.pack_take L k hlt)
      have HPK := Lib.hid (Ls.pack_ok (L.take k) (List.Pairwise.sublist (List.take_sublist k L) HSS.out))
      have HTB := Lib.hid (show ∀ y ∈ L.take k, 0 ≤ y.2 ∧ y.2 < 1024 from fun y hy => HOK.out y (List.mem_of_mem_take hy))
      have hpl := Ls.pack_len (L.take k)
      rw [List.length_take, Nat.min_eq_left hk] at hpl
      have hc0 := hc 0 _ rfl
      have hc1 := hc 1 _ rfl
      rw [Nat.add_zero] at hc0
      clear hc
      generalize L[k] = x at *
      have HKS := Lib.hid (fun (w5 : World) (h5 : Below w.heap.size w w5) => (show w5.cell? ⟨g, o + k * 2, none⟩ = some (.string (str x.1)) ∧ w5.cell? ⟨g, o + k * 2 + 1, none⟩ = some (.int .i64 x.2) from ⟨(h5.cell (p := ⟨g, o + k * 2, none⟩) hg).trans hc0, (h5.cell (p := ⟨g, o + k * 2 + 1, none⟩) hg).trans hc1⟩))
      have d0 := (HKS.out wr hb).1
      have d1 := (HKS.out wr hb).2
      clear hc0 hc1
      have HPT2 := Lib.hid (show Ls.pack (L.take (k + 1)) = Ls.pk (Ls.pack (L.take k)) x from HPT.out)
      clear HPT
      generalize Ls.pack (L.take k) = O at *
      have hOl : O.length ≤ 100000000 := by omega
      obtain ⟨A3, c3, rfl, hc3, hm3, _⟩ := Ls.own_el Ls.spV 3 Ls.spV_len hown
      have wx : IntKind.i64.wrap (x.2 + 1) = x.2 + 1 := IntWalk.i64_in _ (by omega)
      rcases List.eq_nil_or_concat O with h0 | ⟨i, t, h0⟩
      · subst h0
        have HP := Lib.hid (show Ls.pack (L.take (k + 1)) = [⟨x.1, x.2, x.2 + 1⟩] by rw [HPT2.out, Ls.pk_nil])
        clear HPT2 HPK HTB hpl
        rw [List.length_nil] at hown hc3 ⊢
        go_upto_region 6 with (fail)
        go_quiet (fail)
        have hbX : Below w.heap.size w (wr.drewN nq) := below_drewN hb nq
        have hoX : (wr.drewN nq).ownsRow w.heap.size 32 3 (.slice A3 0 c3) (0) (Ls.spsV []) := own_below hown (below_drewN (Below.refl _ wr) nq)
        clear d0 d1 hb hown 
        generalize wr.drewN nq = X at *
        have d0 := (HKS.out X hbX).1
        have d1 := (HKS.out X hbX).2
        go_upto_region 7 with (fail)
        have hb := hbX
        have hown := hoX
        clear hbX hoX
        generalize X = Y at *
        go_quiet (fail)
        have hbX : Below w.heap.size w (Y.drewN nq) := below_drewN hb nq
        have hoX : (Y.drewN nq).ownsRow w.heap.size 32 3 (.slice A3 0 c3) (0) (Ls.spsV []) := own_below hown (below_drewN (Below.refl _ Y) nq)
        clear d0 d1 hb hown 
        generalize Y.drewN nq = X at *
        have d0 := (HKS.out X hbX).1
        have d1 := (HKS.out X hbX).2
        go_upto_region 9 with (fail)
        have hoD : X.drew.ownsRow w.heap.size 32 3 (.slice A3 0 c3) (0) (Ls.spsV []) := hoX
        have hbD : Below w.heap.size w X.drew := hbX.drew
        have hXs : w.heap.size ≤ X.heap.size := hbX.size
        clear hoX hbX
        refine wp_region_held_drew (S := (fun w' : World => w'.cell? ⟨g, o + k * 2, none⟩ = some (.string (str x.1)) ∧ w'.cell? ⟨g, o + k * 2 + 1, none⟩ = some (.int .i64 x.2))) (by kernel_rfl) ⟨d0, d1⟩ (fun hHeld => ?_)
        refine wpAnyH_take (i := 0) (oi := { dst := some 82, op := _, type := _, pos := _, after := _, guard := _ }) (v := ?v58) rfl (by kernel_rfl) (by kernel_rfl) (by kernel_rfl) (fun _ _ _ h => h) (Or.inl ⟨by kernel_rfl, ?hy58⟩) (by assumption) ?rest58
        case hy58 =>
          intro w hSw
          try dsimp only at hSw
          go_simp
          try with_reducible rfl
        try simp only [Act.put]
        refine wpAnyH_take (i := 1) (oi := { dst := some 83, op := _, type := _, pos := _, after := _, guard := _ }) (v := ?v59) rfl (by kernel_rfl) (by kernel_rfl) (by kernel_rfl) (fun _ _ _ h => h) (Or.inl ⟨by kernel_rfl, ?hy59⟩) (by assumption) ?rest59
        case hy59 =>
          intro w hSw
          try dsimp only at hSw
          go_simp
          try with_reducible rfl
        try simp only [Act.put]
        refine wpAnyH_take (i := 2) (oi := { dst := some 84, op := _, type := _, pos := _, after := _, guard := _ }) (v := ?v60) rfl (by kernel_rfl) (by kernel_rfl) (by kernel_rfl) (fun _ _ _ h => h) (Or.inl ⟨by kernel_rfl, ?hy60⟩) (by assumption) ?rest60
        case hy60 =>
          intro w hSw
          try dsimp only at hSw
          go_simp
          try with_reducible rfl
        try simp only [Act.put]
        refine wpAnyH_take (i := 3) (oi := { dst := some 85, op := _, type := _, pos := _, after := _, guard := _ }) (v := ?v61) rfl (by kernel_rfl) (by kernel_rfl) (by kernel_rfl) (fun _ _ _ h => h) (Or.inl ⟨by kernel_rfl, ?hy61⟩) (by assumption) ?rest61
        case hy61 =>
          intro w hSw
          try dsimp only at hSw
          go_simp
          try with_reducible rfl
        try simp only [Act.put]
        refine wpAnyH_take (i := 4) (oi := { dst := some 86, op := _, type := _, pos := _, after := _, guard := _ }) (v := ?v62) rfl (by kernel_rfl) (by kernel_rfl) (by kernel_rfl) (fun _ _ _ h => h) (Or.inl ⟨by kernel_rfl, ?hy62⟩) (by assumption) ?rest62
        case hy62 =>
          intro w hSw
          try dsimp only at hSw
          go_simp
          try with_reducible rfl
        try simp only [Act.put]
        refine wpAnyH_take (i := 5) (oi := { dst := some 87, op := _, type := _, pos := _, after := _, guard := _ }) (v := ?v63) rfl (by kernel_rfl) (by kernel_rfl) (by kernel_rfl) (fun _ _ _ h => h) (Or.inl ⟨by kernel_rfl, ?hy63⟩) (by assumption) ?rest63
        case hy63 =>
          intro w hSw
          try dsimp only at hSw
          go_simp
          try with_reducible rfl
        try simp only [Act.put]
        refine wpAnyH_take (i := 6) (oi := { dst := some 88, op := _, type := _, pos := _, after := _, guard := _ }) (v := ?v64) rfl (by kernel_rfl) (by kernel_rfl) (by kernel_rfl) (fun _ _ _ h => h) (Or.inl ⟨by kernel_rfl, ?hy64⟩) (by assumption) ?rest64
        case hy64 =>
          intro w hSw
          try dsimp only at hSw
          go_simp
          try with_reducible rfl
        try simp only [Act.put]
        refine wpAnyH_take (i := 7) (oi := { dst := some 89, op := _, type := _, pos := _, after := _, guard := _ }) (v := ?v65) rfl (by kernel_rfl) (by kernel_rfl) (by kernel_rfl) (fun _ _ _ h => h) (Or.inl ⟨by kernel_rfl, ?hy65⟩) (by assumption) ?rest65
        case hy65 =>
          intro w hSw
          try dsimp only at hSw
          go_simp
          try with_reducible rfl
        try simp only [Act.put]
        refine wpAnyH_take (i := 8) (oi := { dst := some 90, op := _, type := _, pos := _, after := _, guard := _ }) (v := ?v66) rfl (by kernel_rfl) (by kernel_rfl) (by kernel_rfl) (fun _ _ _ h => h) (Or.inl ⟨by kernel_rfl, ?hy66⟩) (by assumption) ?rest66
        case hy66 =>
          intro w hSw
          try dsimp only at hSw
          go_simp
          try with_reducible rfl
        try simp only [Act.put]
        refine wpAnyH_take (i := 9) (oi := { dst := some 91, op := _, type := _, pos := _, after := _, guard := _ }) (v := ?v67) rfl (by kernel_rfl) (by kernel_rfl) (by kernel_rfl) (fun _ _ _ h => h) (Or.inl ⟨by kernel_rfl, ?hy67⟩) (by assumption) ?rest67
        case hy67 =>
          intro w hSw
          try dsimp only at hSw
          go_simp
          try with_reducible rfl
        try simp only [Act.put]
        refine wpAnyH_take (i := 10) (oi := { dst := some 92, op := _, type := _, pos := _, after := _, guard := _ }) (v := ?v68) rfl (by kernel_rfl) (by kernel_rfl) (by kernel_rfl) (fun _ _ _ h => h) (Or.inl ⟨by kernel_rfl, ?hy68⟩) (by assumption) ?rest68
        case hy68 =>
          intro w hSw
          try dsimp only at hSw
          go_simp
          try with_reducible rfl
        try simp only [Act.put]
        refine wpAnyH_take (i := 11) (oi := { dst := some 93, op := _, type := _, pos := _, after := _, guard := _ }) (v := ?v69) rfl (by kernel_rfl) (by kernel_rfl) (by kernel_rfl) (fun _ _ _ h => h) (Or.inl ⟨by kernel_rfl, ?hy69⟩) (by assumption) ?rest69
        case hy69 =>
          intro w hSw
          try dsimp only at hSw
          go_simp
          try with_reducible rfl
        try simp only [Act.put]
        refine wpAnyH_take (i := 12) (oi := { dst := some 94, op := _, type := _, pos := _, after := _, guard := _ }) (v := ?v70) rfl (by kernel_rfl) (by kernel_rfl) (by kernel_rfl) (fun _ _ _ h => h) (Or.inl ⟨by kernel_rfl, ?hy70⟩) (by assumption) ?rest70
        case hy70 =>
          intro w hSw
          try dsimp only at hSw
          go_simp
          try with_reducible rfl
        try simp only [Act.put]
        refine wpAnyH_take (i := 13) (oi := { dst := some 95, op := _, type := _, pos := _, after := _, guard := _ }) (v := ?v71) rfl (by kernel_rfl) (by kernel_rfl) (by kernel_rfl) (fun _ _ _ h => h) (Or.inl ⟨by kernel_rfl, ?hy71⟩) (by assumption) ?rest71
        case hy71 =>
          intro w hSw
          try dsimp only at hSw
          go_simp
          try with_reducible rfl
        try simp only [Act.put]
        refine wpAnyH_take (i := 14) (oi := { dst := some 96, op := _, type := _, pos := _, after := _, guard := _ }) (v := ?v72) rfl (by kernel_rfl) (by kernel_rfl) (by kernel_rfl) (fun _ _ _ h => h) (Or.inl ⟨by kernel_rfl, ?hy72⟩) (by assumption) ?rest72
        case hy72 =>
          intro w hSw
          try dsimp only at hSw
          go_simp
          try with_reducible rfl
        try simp only [Act.put]
        refine wpAnyH_take (i := 15) (oi := { dst := some 97, op := _, type := _, pos := _, after := _, guard := _ }) (v := ?v73) rfl (by kernel_rfl) (by kernel_rfl) (by kernel_rfl) (fun _ _ _ h => h) (Or.inl ⟨by kernel_rfl, ?hy73⟩) (by assumption) ?rest73
        case hy73 =>
          intro w hSw
          try dsimp only at hSw
          go_simp
          try with_reducible rfl
        try simp only [Act.put]
        refine wpAnyH_take (i := 16) (oi := { dst := some 98, op := _, type := _, pos := _, after := _, guard := _ }) (v := ?v74) rfl (by kernel_rfl) (by kernel_rfl) (by kernel_rfl) (fun _ _ _ h => h) (Or.inl ⟨by kernel_rfl, ?hy74⟩) (by assumption) ?rest74
        case hy74 =>
          intro w hSw
          try dsimp only at hSw
          go_simp
          try with_reducible rfl
        try simp only [Act.put]
        refine wpAnyH_take (i := 17) (oi := { dst := some 99, op := _, type := _, pos := _, after := _, guard := _ }) (v := ?v75) rfl (by kernel_rfl) (by kernel_rfl) (by kernel_rfl) (fun _ _ _ h => h) (Or.inl ⟨by kernel_rfl, ?hy75⟩) (by assumption) ?rest75
        case hy75 =>
          intro w hSw
          try dsimp only at hSw
          go_simp
          try with_reducible rfl
        try simp only [Act.put]
        refine wpAnyH_ready (rs := [18]) (by kernel_rfl) (by simp) ?_
        refine AllReadyH.cons (o := _) rfl (fun K hK => ?_) AllReadyH.nil
        go_simp
        refine hK.out _ _ (HKS.out _ (hbD.alloc hXs _)) (fun hHeld => ?_)
        clear hK K
        try simp only [Act.put]
        refine wpAnyH_ready (rs := [19]) (by kernel_rfl) (by simp) ?_
        refine AllReadyH.cons (o := _) rfl (fun K hK => ?_) AllReadyH.nil
        refine step_append_lies _ (by rfl) _ _ _ (by rfl) w.heap.size 32 isp _ 3 32 Tryz.underlying23 hisp hz0 hz1 hz2 rfl (by omega) (.slice A3 0 c3) (0) _ (by rfl) (hoD.alloc _) ⟨X.drew.heap.size, 0, none⟩ 1 1 [_, _, _] (by rfl) (by rfl) (World.news_of_block (cs := #[_, _, _]) (t := 32) (fr := (0, 0)) (heap_alloc_new X.drew _)) (by simp [Value.oneCell']) (by omega) (by unfold maxLen; omega) (by omega) (by have := hXs; simp; omega) (X.drew.heap.size + 1) (by simp) ?_
        intro gg cap w6 hown6 hgrow hat hlt6
        have hb6 := below_grown (hbD.alloc hXs _) (by have := hXs; simp; omega) (hoD.alloc _) hgrow
        refine hK.out _ _ (HKS.out _ hb6) (fun hHeld => ?_)
        clear hK K
        try simp only [Act.put]
        refine wpAnyH_take (i := 20) (oi := { dst := some 3, op := _, type := _, pos := _, after := _, guard := _ }) (v := ?v76) rfl (by kernel_rfl) (by kernel_rfl) (by kernel_rfl) (fun _ _ _ h => h) (Or.inl ⟨by kernel_rfl, ?hy76⟩) (by assumption) ?rest76
        case hy76 =>
          intro w hSw
          try dsimp only at hSw
          go_simp
          try with_reducible rfl
        try simp only [Act.put]
        refine wpAnyH_done (by kernel_rfl) ?_ _
        try simp only [List.setIfInBounds_toArray]
        have HO := Lib.hid hown6
        have H6 := Lib.hid hb6
        clear hown6 hb6 hgrow hat hlt6 d0 d1 hoD hbD
        go_wp2_with fail
        go_roundw
        case rel => exact ⟨k + 1, by go_num, by omega, by rw [HP.out, List.length_singleton]; exact HO.out, H6.out⟩
        case measure => simp [intOf]; omega
      · rw [List.concat_eq_append] at h0
        subst h0
        have hlen : (i ++ [t]).length = i.length + 1 := by simp
        have hil : i.length ≤ 100000000 := by omega
        have HLA := Lib.hid (HPK.out.last i t rfl)
        have htb := (HPK.out.ends t (by simp)).2
        have htb2 := HTB.out _ htb
        dsimp only at htb2
        have wt : IntKind.i64.wrap (t.hi + 1) = t.hi + 1 := IntWalk.i64_in _ (by omega)
        rw [hlen] at hown hc3 ⊢
        have hls := Ls.own_last Ls.spV 3 Ls.spV_len hown
        obtain ⟨g3, cap0, he, hgW, hce, hfz⟩ := hls
        injection he with he _ hec
        subst he hec
        have t0 : wr.cell? ⟨g3, i.length * 3, none⟩ = some (.string (str t.path)) := hce 0 _ rfl
        have t2 : wr.cell? ⟨g3, i.length * 3 + 2, none⟩ = some (.int .i64 t.hi) := hce 2 _ rfl
        have hsub : (((i.length + 1 : Nat) : Int) - 1) = (i.length : Int) := by omega
        have z0 : decide ((0 : Int) ≤ (i.length : Int)) = true := decide_eq_true (by omega)
        have z1 : (0 : Int) ≤ (i.length : Int) := by omega
        clear hlen hce htb HLA HPK HTB hpl hfz hgW
        go_upto_region 6 with (fail)
        first | rw [hsub] | skip
        by_cases hp : t.path = x.1
        · have p1 : ((str t.path).toList == (str x.1).toList) = true := by rw [hp]; simp
          rcases Int.lt_trichotomy x.2 t.hi with hcm | hcm | hcm
          · have p2 : decide (x.2 < t.hi) = true := decide_eq_true hcm
            have HP := Lib.hid (show Ls.pack (L.take (k + 1)) = i ++ [t] by rw [HPT2.out, Ls.pk_in i t x ⟨hp, hcm⟩])
            clear HPT2 hp hcm
            go_quiet (fail)
            have hbX : Below w.heap.size w (wr.drewN nq) := below_drewN hb nq
            have hoX := Lib.hid (show (wr.drewN nq).ownsRow w.heap.size 32 3 (.slice (some ⟨g3, 0, none⟩) (i.length + 1) c3) (i.length + 1) (Ls.spsV (i ++ [t])) from own_below hown (below_drewN (Below.refl _ wr) nq))
            have HX := Lib.hid hbX
            clear d0 d1 hb hown t0 t2 hbX
            go_wp2_with fail
            go_roundw
            case rel => exact ⟨k + 1, by go_num, by omega, by rw [HP.out, List.length_append, List.length_singleton]; exact hoX.out, HX.out⟩
            case measure => simp [intOf]; omega
          · have p2 : decide (x.2 < t.hi) = false := decide_eq_false (by omega)
            have p3 : (x.2 == t.hi) = true := by rw [beq_iff_eq]; exact hcm
            have HP := Lib.hid (show Ls.pack (L.take (k + 1)) = i ++ [⟨t.path, t.lo, t.hi + 1⟩] by rw [HPT2.out, Ls.pk_on i t x hp hcm])
            clear HPT2 hp hcm
            go_quiet (fail)
            have hbX : Below w.heap.size w (wr.drewN nq) := below_drewN hb nq
            have hoX : (wr.drewN nq).ownsRow w.heap.size 32 3 (.slice (some ⟨g3, 0, none⟩) (i.length + 1) c3) (i.length + 1) (Ls.spsV (i ++ [t])) := own_below hown (below_drewN (Below.refl _ wr) nq)
            clear d0 d1 hb hown t0 t2
            generalize wr.drewN nq = X at *
            have d0 := (HKS.out X hbX).1
            have d1 := (HKS.out X hbX).2
            obtain ⟨t0, t2, f2⟩ := last_of hoX
            go_upto_region 7 with (fail)
            have hb := hbX
            have hown := hoX
            clear hbX hoX
            generalize X = Y at *
            go_quiet (fail)
            have hbX : Below w.heap.size w (Y.drewN nq) := below_drewN hb nq
            have hoX : (Y.drewN nq).ownsRow w.heap.size 32 3 (.slice (some ⟨g3, 0, none⟩) (i.length + 1) c3) (i.length + 1) (Ls.spsV (i ++ [t])) := own_below hown (below_drewN (Below.refl _ Y) nq)
            clear d0 d1 hb hown t0 t2 f2
            generalize Y.drewN nq = X at *
            have d0 := (HKS.out X hbX).1
            have d1 := (HKS.out X hbX).2
            obtain ⟨t0, t2, f2⟩ := last_of hoX
            obtain ⟨z3, z4⟩ := Ls.own_set Ls.spV 3 Ls.spV_len (x := t) (y := ⟨t.path, t.lo, t.hi + 1⟩) hoX 2 (.int .i64 (t.hi + 1)) rfl
            have HO := Lib.hid z3
            have H6 := Lib.hid (hbX.trans (z4.mono (Nat.le_refl _)))
            clear z3 z4 hoX hbX
            go_wp2_with fail
            go_roundw
            case rel => exact ⟨k + 1, by go_num, by omega, by rw [HP.out, List.length_append, List.length_singleton]; exact HO.out, H6.out⟩
            case measure => simp [intOf]; omega
          · have p2 : decide (x.2 < t.hi) = false := decide_eq_false (by omega)
            have p3 : (x.2 == t.hi) = false := by rw [beq_eq_false_iff_ne]; omega
            have HP := Lib.hid (show Ls.pack (L.take (k + 1)) = (i ++ [t]) ++ [⟨x.1, x.2, x.2 + 1⟩] by rw [HPT2.out, Ls.pk_new i t x (fun _ => hcm)])
            clear HPT2 hp hcm
            go_quiet (fail)
            have hbX : Below w.heap.size w (wr.drewN nq) := below_drewN hb nq
            have hoX : (wr.drewN nq).ownsRow w.heap.size 32 3 (.slice (some ⟨g3, 0, none⟩) (i.length + 1) c3) (i.length + 1) (Ls.spsV (i ++ [t])) := own_below hown (below_drewN (Below.refl _ wr) nq)
            clear d0 d1 hb hown t0 t2
            generalize wr.drewN nq = X at *
            have d0 := (HKS.out X hbX).1
            have d1 := (HKS.out X hbX).2
            obtain ⟨t0, t2, f2⟩ := last_of hoX
            go_upto_region 7 with (fail)
            have hb := hbX
            have hown := hoX
            clear hbX hoX
            generalize X = Y at *
            go_quiet (fail)
            have hbX : Below w.heap.size w (Y.drewN nq) := below_drewN hb nq
            have hoX : (Y.drewN nq).ownsRow w.heap.size 32 3 (.slice (some ⟨g3, 0, none⟩) (i.length + 1) c3) (i.length + 1) (Ls.spsV (i ++ [t])) := own_below hown (below_drewN (Below.refl _ Y) nq)
            clear d0 d1 hb hown t0 t2 f2
            generalize Y.drewN nq = X at *
            have d0 := (HKS.out X hbX).1
            have d1 := (HKS.out X hbX).2
            go_upto_region 9 with (fail)
            have hoD : X.drew.ownsRow w.heap.size 32 3 (.slice (some ⟨g3, 0, none⟩) (i.length + 1) c3) (i.length + 1) (Ls.spsV (i ++ [t])) := hoX
            have hbD : Below w.heap.size w X.drew := hbX.drew
            have hXs : w.heap.size ≤ X.heap.size := hbX.size
            clear hoX hbX
            refine wp_region_held_drew (S := (fun w' : World => w'.cell? ⟨g, o + k * 2, none⟩ = some (.string (str x.1)) ∧ w'.cell? ⟨g, o + k * 2 + 1, none⟩ = some (.int .i64 x.2))) (by kernel_rfl) ⟨d0, d1⟩ (fun hHeld => ?_)
            refine wpAnyH_take (i := 0) (oi := { dst := some 82, op := _, type := _, pos := _, after := _, guard := _ }) (v := ?v20) rfl (by kernel_rfl) (by kernel_rfl) (by kernel_rfl) (fun _ _ _ h => h) (Or.inl ⟨by kernel_rfl, ?hy20⟩) (by assumption) ?rest20
            case hy20 =>
              intro w hSw
              try dsimp only at hSw
              go_simp
              try with_reducible rfl
            try simp only [Act.put]
            refine wpAnyH_take (i := 1) (oi := { dst := some 83, op := _, type := _, pos := _, after := _, guard := _ }) (v := ?v21) rfl (by kernel_rfl) (by kernel_rfl) (by kernel_rfl) (fun _ _ _ h => h) (Or.inl ⟨by kernel_rfl, ?hy21⟩) (by assumption) ?rest21
            case hy21 =>
              intro w hSw
              try dsimp only at hSw
              go_simp
              try with_reducible rfl
            try simp only [Act.put]
            refine wpAnyH_take (i := 2) (oi := { dst := some 84, op := _, type := _, pos := _, after := _, guard := _ }) (v := ?v22) rfl (by kernel_rfl) (by kernel_rfl) (by kernel_rfl) (fun _ _ _ h => h) (Or.inl ⟨by kernel_rfl, ?hy22⟩) (by assumption) ?rest22
            case hy22 =>
              intro w hSw
              try dsimp only at hSw
              go_simp
              try with_reducible rfl
            try simp only [Act.put]
            refine wpAnyH_take (i := 3) (oi := { dst := some 85, op := _, type := _, pos := _, after := _, guard := _ }) (v := ?v23) rfl (by kernel_rfl) (by kernel_rfl) (by kernel_rfl) (fun _ _ _ h => h) (Or.inl ⟨by kernel_rfl, ?hy23⟩) (by assumption) ?rest23
            case hy23 =>
              intro w hSw
              try dsimp only at hSw
              go_simp
              try with_reducible rfl
            try simp only [Act.put]
            refine wpAnyH_take (i := 4) (oi := { dst := some 86, op := _, type := _, pos := _, after := _, guard := _ }) (v := ?v24) rfl (by kernel_rfl) (by kernel_rfl) (by kernel_rfl) (fun _ _ _ h => h) (Or.inl ⟨by kernel_rfl, ?hy24⟩) (by assumption) ?rest24
            case hy24 =>
              intro w hSw
              try dsimp only at hSw
              go_simp
              try with_reducible rfl
            try simp only [Act.put]
            refine wpAnyH_take (i := 5) (oi := { dst := some 87, op := _, type := _, pos := _, after := _, guard := _ }) (v := ?v25) rfl (by kernel_rfl) (by kernel_rfl) (by kernel_rfl) (fun _ _ _ h => h) (Or.inl ⟨by kernel_rfl, ?hy25⟩) (by assumption) ?rest25
            case hy25 =>
              intro w hSw
              try dsimp only at hSw
              go_simp
              try with_reducible rfl
            try simp only [Act.put]
            refine wpAnyH_take (i := 6) (oi := { dst := some 88, op := _, type := _, pos := _, after := _, guard := _ }) (v := ?v26) rfl (by kernel_rfl) (by kernel_rfl) (by kernel_rfl) (fun _ _ _ h => h) (Or.inl ⟨by kernel_rfl, ?hy26⟩) (by assumption) ?rest26
            case hy26 =>
              intro w hSw
              try dsimp only at hSw
              go_simp
              try with_reducible rfl
            try simp only [Act.put]
            refine wpAnyH_take (i := 7) (oi := { dst := some 89, op := _, type := _, pos := _, after := _, guard := _ }) (v := ?v27) rfl (by kernel_rfl) (by kernel_rfl) (by kernel_rfl) (fun _ _ _ h => h) (Or.inl ⟨by kernel_rfl, ?hy27⟩) (by assumption) ?rest27
            case hy27 =>
              intro w hSw
              try dsimp only at hSw
              go_simp
              try with_reducible rfl
            try simp only [Act.put]
            refine wpAnyH_take (i := 8) (oi := { dst := some 90, op := _, type := _, pos := _, after := _, guard := _ }) (v := ?v28) rfl (by kernel_rfl) (by kernel_rfl) (by kernel_rfl) (fun _ _ _ h => h) (Or.inl ⟨by kernel_rfl, ?hy28⟩) (by assumption) ?rest28
            case hy28 =>
              intro w hSw
              try dsimp only at hSw
              go_simp
              try with_reducible rfl
            try simp only [Act.put]
            refine wpAnyH_take (i := 9) (oi := { dst := some 91, op := _, type := _, pos := _, after := _, guard := _ }) (v := ?v29) rfl (by kernel_rfl) (by kernel_rfl) (by kernel_rfl) (fun _ _ _ h => h) (Or.inl ⟨by kernel_rfl, ?hy29⟩) (by assumption) ?rest29
            case hy29 =>
              intro w hSw
              try dsimp only at hSw
              go_simp
              try with_reducible rfl
            try simp only [Act.put]
            refine wpAnyH_take (i := 10) (oi := { dst := some 92, op := _, type := _, pos := _, after := _, guard := _ }) (v := ?v30) rfl (by kernel_rfl) (by kernel_rfl) (by kernel_rfl) (fun _ _ _ h => h) (Or.inl ⟨by kernel_rfl, ?hy30⟩) (by assumption) ?rest30
            case hy30 =>
              intro w hSw
              try dsimp only at hSw
              go_simp
              try with_reducible rfl
            try simp only [Act.put]
            refine wpAnyH_take (i := 11) (oi := { dst := some 93, op := _, type := _, pos := _, after := _, guard := _ }) (v := ?v31) rfl (by kernel_rfl) (by kernel_rfl) (by kernel_rfl) (fun _ _ _ h => h) (Or.inl ⟨by kernel_rfl, ?hy31⟩) (by assumption) ?rest31
            case hy31 =>
              intro w hSw
              try dsimp only at hSw
              go_simp
              try with_reducible rfl
            try simp only [Act.put]
            refine wpAnyH_take (i := 12) (oi := { dst := some 94, op := _, type := _, pos := _, after := _, guard := _ }) (v := ?v32) rfl (by kernel_rfl) (by kernel_rfl) (by kernel_rfl) (fun _ _ _ h => h) (Or.inl ⟨by kernel_rfl, ?hy32⟩) (by assumption) ?rest32
            case hy32 =>
              intro w hSw
              try dsimp only at hSw
              go_simp
              try with_reducible rfl
            try simp only [Act.put]
            refine wpAnyH_take (i := 13) (oi := { dst := some 95, op := _, type := _, pos := _, after := _, guard := _ }) (v := ?v33) rfl (by kernel_rfl) (by kernel_rfl) (by kernel_rfl) (fun _ _ _ h => h) (Or.inl ⟨by kernel_rfl, ?hy33⟩) (by assumption) ?rest33
            case hy33 =>
              intro w hSw
              try dsimp only at hSw
              go_simp
              try with_reducible rfl
            try simp only [Act.put]
            refine wpAnyH_take (i := 14) (oi := { dst := some 96, op := _, type := _, pos := _, after := _, guard := _ }) (v := ?v34) rfl (by kernel_rfl) (by kernel_rfl) (by kernel_rfl) (fun _ _ _ h => h) (Or.inl ⟨by kernel_rfl, ?hy34⟩) (by assumption) ?rest34
            case hy34 =>
              intro w hSw
              try dsimp only at hSw
              go_simp
              try with_reducible rfl
            try simp only [Act.put]
            refine wpAnyH_take (i := 15) (oi := { dst := some 97, op := _, type := _, pos := _, after := _, guard := _ }) (v := ?v35) rfl (by kernel_rfl) (by kernel_rfl) (by kernel_rfl) (fun _ _ _ h => h) (Or.inl ⟨by kernel_rfl, ?hy35⟩) (by assumption) ?rest35
            case hy35 =>
              intro w hSw
              try dsimp only at hSw
              go_simp
              try with_reducible rfl
            try simp only [Act.put]
            refine wpAnyH_take (i := 16) (oi := { dst := some 98, op := _, type := _, pos := _, after := _, guard := _ }) (v := ?v36) rfl (by kernel_rfl) (by kernel_rfl) (by kernel_rfl) (fun _ _ _ h => h) (Or.inl ⟨by kernel_rfl, ?hy36⟩) (by assumption) ?rest36
            case hy36 =>
              intro w hSw
              try dsimp only at hSw
              go_simp
              try with_reducible rfl
            try simp only [Act.put]
            refine wpAnyH_take (i := 17) (oi := { dst := some 99, op := _, type := _, pos := _, after := _, guard := _ }) (v := ?v37) rfl (by kernel_rfl) (by kernel_rfl) (by kernel_rfl) (fun _ _ _ h => h) (Or.inl ⟨by kernel_rfl, ?hy37⟩) (by assumption) ?rest37
            case hy37 =>
              intro w hSw
              try dsimp only at hSw
              go_simp
              try with_reducible rfl
            try simp only [Act.put]
            refine wpAnyH_ready (rs := [18]) (by kernel_rfl) (by simp) ?_
            refine AllReadyH.cons (o := _) rfl (fun K hK => ?_) AllReadyH.nil
            go_simp
            refine hK.out _ _ (HKS.out _ (hbD.alloc hXs _)) (fun hHeld => ?_)
            clear hK K
            try simp only [Act.put]
            refine wpAnyH_ready (rs := [19]) (by kernel_rfl) (by simp) ?_
            refine AllReadyH.cons (o := _) rfl (fun K hK => ?_) AllReadyH.nil
            refine step_append_lies _ (by rfl) _ _ _ (by rfl) w.heap.size 32 isp _ 3 32 Tryz.underlying23 hisp hz0 hz1 hz2 rfl (by omega) (.slice (some ⟨g3, 0, none⟩) (i.length + 1) c3) (i.length + 1) _ (by rfl) (hoD.alloc _) ⟨X.drew.heap.size, 0, none⟩ 1 1 [_, _, _] (by rfl) (by rfl) (World.news_of_block (cs := #[_, _, _]) (t := 32) (fr := (0, 0)) (heap_alloc_new X.drew _)) (by simp [Value.oneCell']) (by omega) (by unfold maxLen; omega) (by omega) (by have := hXs; simp; omega) (X.drew.heap.size + 1) (by simp) ?_
            intro gg cap w6 hown6 hgrow hat hlt6
            have hb6 := below_grown (hbD.alloc hXs _) (by have := hXs; simp; omega) (hoD.alloc _) hgrow
            refine hK.out _ _ (HKS.out _ hb6) (fun hHeld => ?_)
            clear hK K
            try simp only [Act.put]
            refine wpAnyH_take (i := 20) (oi := { dst := some 3, op := _, type := _, pos := _, after := _, guard := _ }) (v := ?v38) rfl (by kernel_rfl) (by kernel_rfl) (by kernel_rfl) (fun _ _ _ h => h) (Or.inl ⟨by kernel_rfl, ?hy38⟩) (by assumption) ?rest38
            case hy38 =>
              intro w hSw
              try dsimp only at hSw
              go_simp
              try with_reducible rfl
            try simp only [Act.put]
            refine wpAnyH_done (by kernel_rfl) ?_ _
            try simp only [List.setIfInBounds_toArray]
            have HO := Lib.hid hown6
            have H6 := Lib.hid hb6
            clear hown6 hb6 hgrow hat hlt6 d0 d1 hoD hbD
            go_wp2_with fail
            go_roundw
            case rel => exact ⟨k + 1, by go_num, by omega, by rw [HP.out, Ls.spsV_app (i ++ [t]), Ls.spsV_one, List.length_append, List.length_append, List.length_singleton, List.length_singleton]; exact HO.out, H6.out⟩
            case measure => simp [intOf]; omega
        · have p1 : ((str t.path).toList == (str x.1).toList) = false := by rw [beq_eq_false_iff_ne, strL, strL]; exact hp
          have HP := Lib.hid (show Ls.pack (L.take (k + 1)) = (i ++ [t]) ++ [⟨x.1, x.2, x.2 + 1⟩] by rw [HPT2.out, Ls.pk_new i t x (fun h => absurd h hp)])
          clear HPT2 hp
          go_quiet (fail)
          have hbX : Below w.heap.size w (wr.drewN nq) := below_drewN hb nq
          have hoX : (wr.drewN nq).ownsRow w.heap.size 32 3 (.slice (some ⟨g3, 0, none⟩) (i.length + 1) c3) (i.length + 1) (Ls.spsV (i ++ [t])) := own_below hown (below_drewN (Below.refl _ wr) nq)
          clear d0 d1 hb hown t0 t2
          generalize wr.drewN nq = X at *
          have d0 := (HKS.out X hbX).1
          have d1 := (HKS.out X hbX).2
          obtain ⟨t0, t2, f2⟩ := last_of hoX
          go_upto_region 7 with (fail)
          have hb := hbX
          have hown := hoX
          clear hbX hoX
          generalize X = Y at *
          go_quiet (fail)
          have hbX : Below w.heap.size w (Y.drewN nq) := below_drewN hb nq
          have hoX : (Y.drewN nq).ownsRow w.heap.size 32 3 (.slice (some ⟨g3, 0, none⟩) (i.length + 1) c3) (i.length + 1) (Ls.spsV (i ++ [t])) := own_below hown (below_drewN (Below.refl _ Y) nq)
          clear d0 d1 hb hown t0 t2 f2
          generalize Y.drewN nq = X at *
          have d0 := (HKS.out X hbX).1
          have d1 := (HKS.out X hbX).2
          go_upto_region 9 with (fail)
          have hoD : X.drew.ownsRow w.heap.size 32 3 (.slice (some ⟨g3, 0, none⟩) (i.length + 1) c3) (i.length + 1) (Ls.spsV (i ++ [t])) := hoX
          have hbD : Below w.heap.size w X.drew := hbX.drew
          have hXs : w.heap.size ≤ X.heap.size := hbX.size
          clear hoX hbX
          refine wp_region_held_drew (S := (fun w' : World => w'.cell? ⟨g, o + k * 2, none⟩ = some (.string (str x.1)) ∧ w'.cell? ⟨g, o + k * 2 + 1, none⟩ = some (.int .i64 x.2))) (by kernel_rfl) ⟨d0, d1⟩ (fun hHeld => ?_)
          refine wpAnyH_take (i := 0) (oi := { dst := some 82, op := _, type := _, pos := _, after := _, guard := _ }) (v := ?v39) rfl (by kernel_rfl) (by kernel_rfl) (by kernel_rfl) (fun _ _ _ h => h) (Or.inl ⟨by kernel_rfl, ?hy39⟩) (by assumption) ?rest39
          case hy39 =>
            intro w hSw
            try dsimp only at hSw
            go_simp
            try with_reducible rfl
          try simp only [Act.put]
          refine wpAnyH_take (i := 1) (oi := { dst := some 83, op := _, type := _, pos := _, after := _, guard := _ }) (v := ?v40) rfl (by kernel_rfl) (by kernel_rfl) (by kernel_rfl) (fun _ _ _ h => h) (Or.inl ⟨by kernel_rfl, ?hy40⟩) (by assumption) ?rest40
          case hy40 =>
            intro w hSw
            try dsimp only at hSw
            go_simp
            try with_reducible rfl
          try simp only [Act.put]
          refine wpAnyH_take (i := 2) (oi := { dst := some 84, op := _, type := _, pos := _, after := _, guard := _ }) (v := ?v41) rfl (by kernel_rfl) (by kernel_rfl) (by kernel_rfl) (fun _ _ _ h => h) (Or.inl ⟨by kernel_rfl, ?hy41⟩) (by assumption) ?rest41
          case hy41 =>
            intro w hSw
            try dsimp only at hSw
            go_simp
            try with_reducible rfl
          try simp only [Act.put]
          refine wpAnyH_take (i := 3) (oi := { dst := some 85, op := _, type := _, pos := _, after := _, guard := _ }) (v := ?v42) rfl (by kernel_rfl) (by kernel_rfl) (by kernel_rfl) (fun _ _ _ h => h) (Or.inl ⟨by kernel_rfl, ?hy42⟩) (by assumption) ?rest42
          case hy42 =>
            intro w hSw
            try dsimp only at hSw
            go_simp
            try with_reducible rfl
          try simp only [Act.put]
          refine wpAnyH_take (i := 4) (oi := { dst := some 86, op := _, type := _, pos := _, after := _, guard := _ }) (v := ?v43) rfl (by kernel_rfl) (by kernel_rfl) (by kernel_rfl) (fun _ _ _ h => h) (Or.inl ⟨by kernel_rfl, ?hy43⟩) (by assumption) ?rest43
          case hy43 =>
            intro w hSw
            try dsimp only at hSw
            go_simp
            try with_reducible rfl
          try simp only [Act.put]
          refine wpAnyH_take (i := 5) (oi := { dst := some 87, op := _, type := _, pos := _, after := _, guard := _ }) (v := ?v44) rfl (by kernel_rfl) (by kernel_rfl) (by kernel_rfl) (fun _ _ _ h => h) (Or.inl ⟨by kernel_rfl, ?hy44⟩) (by assumption) ?rest44
          case hy44 =>
            intro w hSw
            try dsimp only at hSw
            go_simp
            try with_reducible rfl
          try simp only [Act.put]
          refine wpAnyH_take (i := 6) (oi := { dst := some 88, op := _, type := _, pos := _, after := _, guard := _ }) (v := ?v45) rfl (by kernel_rfl) (by kernel_rfl) (by kernel_rfl) (fun _ _ _ h => h) (Or.inl ⟨by kernel_rfl, ?hy45⟩) (by assumption) ?rest45
          case hy45 =>
            intro w hSw
            try dsimp only at hSw
            go_simp
            try with_reducible rfl
          try simp only [Act.put]
          refine wpAnyH_take (i := 7) (oi := { dst := some 89, op := _, type := _, pos := _, after := _, guard := _ }) (v := ?v46) rfl (by kernel_rfl) (by kernel_rfl) (by kernel_rfl) (fun _ _ _ h => h) (Or.inl ⟨by kernel_rfl, ?hy46⟩) (by assumption) ?rest46
          case hy46 =>
            intro w hSw
            try dsimp only at hSw
            go_simp
            try with_reducible rfl
          try simp only [Act.put]
          refine wpAnyH_take (i := 8) (oi := { dst := some 90, op := _, type := _, pos := _, after := _, guard := _ }) (v := ?v47) rfl (by kernel_rfl) (by kernel_rfl) (by kernel_rfl) (fun _ _ _ h => h) (Or.inl ⟨by kernel_rfl, ?hy47⟩) (by assumption) ?rest47
          case hy47 =>
            intro w hSw
            try dsimp only at hSw
            go_simp
            try with_reducible rfl
          try simp only [Act.put]
          refine wpAnyH_take (i := 9) (oi := { dst := some 91, op := _, type := _, pos := _, after := _, guard := _ }) (v := ?v48) rfl (by kernel_rfl) (by kernel_rfl) (by kernel_rfl) (fun _ _ _ h => h) (Or.inl ⟨by kernel_rfl, ?hy48⟩) (by assumption) ?rest48
          case hy48 =>
            intro w hSw
            try dsimp only at hSw
            go_simp
            try with_reducible rfl
          try simp only [Act.put]
          refine wpAnyH_take (i := 10) (oi := { dst := some 92, op := _, type := _, pos := _, after := _, guard := _ }) (v := ?v49) rfl (by kernel_rfl) (by kernel_rfl) (by kernel_rfl) (fun _ _ _ h => h) (Or.inl ⟨by kernel_rfl, ?hy49⟩) (by assumption) ?rest49
          case hy49 =>
            intro w hSw
            try dsimp only at hSw
            go_simp
            try with_reducible rfl
          try simp only [Act.put]
          refine wpAnyH_take (i := 11) (oi := { dst := some 93, op := _, type := _, pos := _, after := _, guard := _ }) (v := ?v50) rfl (by kernel_rfl) (by kernel_rfl) (by kernel_rfl) (fun _ _ _ h => h) (Or.inl ⟨by kernel_rfl, ?hy50⟩) (by assumption) ?rest50
          case hy50 =>
            intro w hSw
            try dsimp only at hSw
            go_simp
            try with_reducible rfl
          try simp only [Act.put]
          refine wpAnyH_take (i := 12) (oi := { dst := some 94, op := _, type := _, pos := _, after := _, guard := _ }) (v := ?v51) rfl (by kernel_rfl) (by kernel_rfl) (by kernel_rfl) (fun _ _ _ h => h) (Or.inl ⟨by kernel_rfl, ?hy51⟩) (by assumption) ?rest51
          case hy51 =>
            intro w hSw
            try dsimp only at hSw
            go_simp
            try with_reducible rfl
          try simp only [Act.put]
          refine wpAnyH_take (i := 13) (oi := { dst := some 95, op := _, type := _, pos := _, after := _, guard := _ }) (v := ?v52) rfl (by kernel_rfl) (by kernel_rfl) (by kernel_rfl) (fun _ _ _ h => h) (Or.inl ⟨by kernel_rfl, ?hy52⟩) (by assumption) ?rest52
          case hy52 =>
            intro w hSw
            try dsimp only at hSw
            go_simp
            try with_reducible rfl
          try simp only [Act.put]
          refine wpAnyH_take (i := 14) (oi := { dst := some 96, op := _, type := _, pos := _, after := _, guard := _ }) (v := ?v53) rfl (by kernel_rfl) (by kernel_rfl) (by kernel_rfl) (fun _ _ _ h => h) (Or.inl ⟨by kernel_rfl, ?hy53⟩) (by assumption) ?rest53
          case hy53 =>
            intro w hSw
            try dsimp only at hSw
            go_simp
            try with_reducible rfl
          try simp only [Act.put]
          refine wpAnyH_take (i := 15) (oi := { dst := some 97, op := _, type := _, pos := _, after := _, guard := _ }) (v := ?v54) rfl (by kernel_rfl) (by kernel_rfl) (by kernel_rfl) (fun _ _ _ h => h) (Or.inl ⟨by kernel_rfl, ?hy54⟩) (by assumption) ?rest54
          case hy54 =>
            intro w hSw
            try dsimp only at hSw
            go_simp
            try with_reducible rfl
          try simp only [Act.put]
          refine wpAnyH_take (i := 16) (oi := { dst := some 98, op := _, type := _, pos := _, after := _, guard := _ }) (v := ?v55) rfl (by kernel_rfl) (by kernel_rfl) (by kernel_rfl) (fun _ _ _ h => h) (Or.inl ⟨by kernel_rfl, ?hy55⟩) (by assumption) ?rest55
          case hy55 =>
            intro w hSw
            try dsimp only at hSw
            go_simp
            try with_reducible rfl
          try simp only [Act.put]
          refine wpAnyH_take (i := 17) (oi := { dst := some 99, op := _, type := _, pos := _, after := _, guard := _ }) (v := ?v56) rfl (by kernel_rfl) (by kernel_rfl) (by kernel_rfl) (fun _ _ _ h => h) (Or.inl ⟨by kernel_rfl, ?hy56⟩) (by assumption) ?rest56
          case hy56 =>
            intro w hSw
            try dsimp only at hSw
            go_simp
            try with_reducible rfl
          try simp only [Act.put]
          refine wpAnyH_ready (rs := [18]) (by kernel_rfl) (by simp) ?_
          refine AllReadyH.cons (o := _) rfl (fun K hK => ?_) AllReadyH.nil
          go_simp
          refine hK.out _ _ (HKS.out _ (hbD.alloc hXs _)) (fun hHeld => ?_)
          clear hK K
          try simp only [Act.put]
          refine wpAnyH_ready (rs := [19]) (by kernel_rfl) (by simp) ?_
          refine AllReadyH.cons (o := _) rfl (fun K hK => ?_) AllReadyH.nil
          refine step_append_lies _ (by rfl) _ _ _ (by rfl) w.heap.size 32 isp _ 3 32 Tryz.underlying23 hisp hz0 hz1 hz2 rfl (by omega) (.slice (some ⟨g3, 0, none⟩) (i.length + 1) c3) (i.length + 1) _ (by rfl) (hoD.alloc _) ⟨X.drew.heap.size, 0, none⟩ 1 1 [_, _, _] (by rfl) (by rfl) (World.news_of_block (cs := #[_, _, _]) (t := 32) (fr := (0, 0)) (heap_alloc_new X.drew _)) (by simp [Value.oneCell']) (by omega) (by unfold maxLen; omega) (by omega) (by have := hXs; simp; omega) (X.drew.heap.size + 1) (by simp) ?_
          intro gg cap w6 hown6 hgrow hat hlt6
          have hb6 := below_grown (hbD.alloc hXs _) (by have := hXs; simp; omega) (hoD.alloc _) hgrow
          refine hK.out _ _ (HKS.out _ hb6) (fun hHeld => ?_)
          clear hK K
          try simp only [Act.put]
          refine wpAnyH_take (i := 20) (oi := { dst := some 3, op := _, type := _, pos := _, after := _, guard := _ }) (v := ?v57) rfl (by kernel_rfl) (by kernel_rfl) (by kernel_rfl) (fun _ _ _ h => h) (Or.inl ⟨by kernel_rfl, ?hy57⟩) (by assumption) ?rest57
          case hy57 =>
            intro w hSw
            try dsimp only at hSw
            go_simp
            try with_reducible rfl
          try simp only [Act.put]
          refine wpAnyH_done (by kernel_rfl) ?_ _
          try simp only [List.setIfInBounds_toArray]
          have HO := Lib.hid hown6
          have H6 := Lib.hid hb6
          clear hown6 hb6 hgrow hat hlt6 d0 d1 hoD hbD
          go_wp2_with fail
          go_roundw
          case rel => exact ⟨k + 1, by go_num, by omega, by rw [HP.out, Ls.spsV_app (i ++ [t]), Ls.spsV_one, List.length_append, List.length_append, List.length_singleton, List.length_singleton]; exact HO.out, H6.out⟩
          case measure => simp [intOf]; omega
    · have b1 : decide ((k : Int) < (L.length : Int)) = false := decide_eq_false (by omega)
      have b1n : decide (k < L.length) = false := decide_eq_false hlt
      have HO := Lib.hid (show wr.ownsRow w.heap.size 32 3 _ (Ls.pack L).length (Ls.spsV (Ls.pack L)) by rw [List.take_of_length_le (show L.length ≤ k by omega)] at hown; exact hown)
      have HB := Lib.hid hb
      clear hown hb
      go_wp2_with fail
      first | go_ret2 | go_ret
      exact ⟨_, rfl, HO.out, HB.out⟩
end Go.Proofs.YtlablbibdkcifaaGreatDoor
