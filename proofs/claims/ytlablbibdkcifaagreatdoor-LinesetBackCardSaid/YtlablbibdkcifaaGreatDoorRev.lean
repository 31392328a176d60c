/- slices.Reverse at lines of the call's own. No condition but the length. -/
import Derived.Test.YtlablbibdkcifaaGreatDoorRbf
import Derived.Deep.RegionHeld3
namespace Go.Proofs.YtlablbibdkcifaaGreatDoor
open Go.RowKit Go.Deep Tr

namespace Ls
theorem lnsV_set : ∀ (L : List Ln) (k : Nat) (x : Ln), k < L.length → lnsV (L.set k x) = ((lnsV L).set (k * 2) (.string (str x.1))).set (k * 2 + 1) (.int .i64 x.2)
  | y :: t, 0, x, _ => rfl
  | y :: t, k + 1, x, h => by
    have ih := lnsV_set t k x (by simpa using h)
    rw [List.set_cons_succ]
    show lnV y ++ lnsV (t.set k x) = (((lnV y ++ lnsV t).set ((k + 1) * 2) _).set ((k + 1) * 2 + 1) _)
    rw [ih, show (k + 1) * 2 = k * 2 + 2 by omega, show k * 2 + 2 + 1 = (k * 2 + 1) + 2 by omega]
    rfl
/-- A list of which i pairs at its ends are swapped. -/
def Rvd (L X : List Ln) (i : Nat) : Prop := X.length = L.length ∧ ∀ t, X[t]? = if t < i ∨ L.length - i ≤ t then L.reverse[t]? else L[t]?
theorem Rvd.init (L : List Ln) : Rvd L L 0 := ⟨rfl, fun t => by
  by_cases h : L.length - 0 ≤ t
  · rw [if_pos (.inr h), List.getElem?_eq_none (by omega), List.getElem?_eq_none (by rw [List.length_reverse]; omega)]
  · rw [if_neg (by omega)]⟩
theorem Rvd.step {L X : List Ln} {i : Nat} (h : Rvd L X i) (hi : i < L.length - 1 - i) (hx : i < X.length) (hy : L.length - 1 - i < X.length) : Rvd L ((X.set i X[L.length - 1 - i]).set (L.length - 1 - i) X[i]) (i + 1) := by
  obtain ⟨h1, h2⟩ := h
  refine ⟨by simp [h1], fun t => ?_⟩
  have e1 := h2 i
  rw [if_neg (by omega), List.getElem?_eq_getElem hx] at e1
  have e2 := h2 (L.length - 1 - i)
  rw [if_neg (by omega), List.getElem?_eq_getElem hy] at e2
  by_cases ht : t = L.length - 1 - i
  · subst ht
    rw [List.getElem?_set_self (by simp; omega), if_pos (by omega), e1, List.getElem?_reverse (by omega)]
    congr 1
    omega
  · rw [List.getElem?_set_ne (fun e => ht e.symm)]
    by_cases ht2 : t = i
    · subst ht2
      rw [List.getElem?_set_self hx, if_pos (by omega), e2, List.getElem?_reverse (by omega)]
    · rw [List.getElem?_set_ne (fun e => ht2 e.symm), h2]
      by_cases hc : t < i ∨ L.length - i ≤ t
      · rw [if_pos hc, if_pos (by omega)]
      · rw [if_neg hc, if_neg (by omega)]
theorem Rvd.done {L X : List Ln} {i : Nat} (h : Rvd L X i) (hi : ¬ (i : Int) < (L.length : Int) - 1 - (i : Int)) : X = L.reverse := by
  apply List.ext_getElem?
  intro t
  rw [h.2 t]
  by_cases hc : t < i ∨ L.length - i ≤ t
  · rw [if_pos hc]
  · rw [if_neg hc, List.getElem?_reverse (by omega)]
    congr 1
    omega
end Ls
set_option maxHeartbeats 16000000 in
set_option maxRecDepth 100000 in
theorem reverse_any (L : List Ls.Ln) (A : Option Addr) (c B : Nat) (w : World) (hown : w.ownsRow B 44 2 (.slice A L.length c) L.length (Ls.lnsV L)) (hl : L.length ≤ 100000000) :
    Calls Tryz.prog 24 #[.slice A L.length c] w fun e w' => e = .returned (.tuple #[]) ∧ w'.ownsRow B 44 2 (.slice A L.length c) L.length (Ls.lnsV L.reverse) ∧ Below B w w' := by
  have HO0 := Lib.hid hown
  clear hown
  have wl : IntKind.i64.wrap ((L.length : Int) - 1) = (L.length : Int) - 1 := IntWalk.i64_in _ (by omega)
  go_enter Tryz.func24, Tryz.ntmps24
  go_wp2_with fail
  go_loopw [2, 3] (fun s2 s3 wr => ∃ (i : Nat) (z : Int) (X : List Ls.Ln), s2 = .int .i64 i ∧ s3 = .int .i64 z ∧ z = (L.length : Int) - 1 - (i : Int) ∧ i ≤ L.length ∧ Ls.Rvd L X i ∧ wr.ownsRow B 44 2 (.slice A L.length c) L.length (Ls.lnsV X) ∧ Below B w wr) (fun s2 _ _ => L.length - (intOf s2).toNat)
  case atStart => exact ⟨0, (L.length : Int) - 1, L, rfl, rfl, by omega, by omega, Ls.Rvd.init L, HO0.out, Below.refl _ _⟩
  case round =>
    clear HO0
    obtain ⟨i, z, X, rfl, rfl, hz, hi, hR, hown, hb⟩ := hrel
    by_cases hlt : (i : Int) < z
    · have b1 : decide ((i : Int) < z) = true := decide_eq_true hlt
      obtain ⟨j, rfl⟩ : ∃ j : Nat, z = (j : Int) := ⟨z.toNat, by omega⟩
      have b1n : decide (i < j) = true := decide_eq_true (by omega)
      have hj : j = L.length - 1 - i := by omega
      have hXl := hR.1
      have hix : i < X.length := by omega
      have hjx : j < X.length := by omega
      have HR := Lib.hid (show Ls.Rvd L ((X.set i X[j]).set j X[i]) (i + 1) by
        have := hR.step (by omega) hix (by omega)
        subst hj
        exact this)
      have wj : IntKind.i64.wrap ((j : Int) - 1) = (j : Int) - 1 := IntWalk.i64_in _ (by omega)
      have wi : IntKind.i64.wrap ((i : Int) + 1) = (i : Int) + 1 := IntWalk.i64_in _ (by omega)
      have y1 : (i : Int) < (L.length : Int) := by omega
      have y2 : (j : Int) < (L.length : Int) := by omega
      obtain ⟨g, rfl, hgB⟩ : ∃ g, A = some ⟨g, 0, none⟩ ∧ B ≤ g := by
        rcases hown.2 with ⟨_, h0⟩ | ⟨g, cap, cur, hv, hg, _⟩
        · omega
        · injection hv with hv _ _
          exact ⟨g, hv, hg⟩
      have qi0 : (Ls.lnsV X)[i * 2]? = some (.string (str X[i].1)) := Ls.flat_at Ls.lnV 2 Ls.lnV_len X i 0 hix (by omega)
      have qi1 : (Ls.lnsV X)[i * 2 + 1]? = some (.int .i64 X[i].2) := Ls.flat_at Ls.lnV 2 Ls.lnV_len X i 1 hix (by omega)
      have qj0 : (Ls.lnsV X)[j * 2]? = some (.string (str X[j].1)) := Ls.flat_at Ls.lnV 2 Ls.lnV_len X j 0 hjx (by omega)
      have qj1 : (Ls.lnsV X)[j * 2 + 1]? = some (.int .i64 X[j].2) := Ls.flat_at Ls.lnV 2 Ls.lnV_len X j 1 hjx (by omega)
      have a0 := (hown.cellAt (i * 2) (by omega)).trans qi0
      have a1 := (hown.cellAt (i * 2 + 1) (by omega)).trans qi1
      have d0 := (hown.cellAt (j * 2) (by omega)).trans qj0
      have d1 := (hown.cellAt (j * 2 + 1) (by omega)).trans qj1
      have fi0 := hown.frozenAt (i * 2)
      have fi1 := hown.frozenAt (i * 2 + 1)
      have fj0 := hown.frozenAt (j * 2)
      have fj1 := hown.frozenAt (j * 2 + 1)
      have hDr : wr.drew.ownsRow B 44 2 (.slice (some ⟨g, 0, none⟩) L.length c) L.length (Ls.lnsV X) := hown
      have st1 := hDr.stored (i * 2) (.string (str X[j].1))
      have st2 := st1.1.stored (i * 2 + 1) (.int .i64 X[j].2)
      have st3 := st2.1.stored (j * 2) (.string (str X[i].1))
      have st4 := st3.1.stored (j * 2 + 1) (.int .i64 X[i].2)
      have HO := Lib.hid (show ((((wr.drew.setCell ⟨g, i * 2, none⟩ (.string (str X[j].1))).setCell ⟨g, i * 2 + 1, none⟩ (.int .i64 X[j].2)).setCell ⟨g, j * 2, none⟩ (.string (str X[i].1))).setCell ⟨g, j * 2 + 1, none⟩ (.int .i64 X[i].2)).ownsRow B 44 2 (.slice (some ⟨g, 0, none⟩) L.length c) L.length (Ls.lnsV ((X.set i X[j]).set j X[i])) by
        rw [Ls.lnsV_set _ _ _ (by simp; exact hjx), Ls.lnsV_set _ _ _ hix]
        exact st4.1)
      have HB := Lib.hid (show Below B w ((((wr.drew.setCell ⟨g, i * 2, none⟩ (.string (str X[j].1))).setCell ⟨g, i * 2 + 1, none⟩ (.int .i64 X[j].2)).setCell ⟨g, j * 2, none⟩ (.string (str X[i].1))).setCell ⟨g, j * 2 + 1, none⟩ (.int .i64 X[i].2)) from (((hb.drew.setCell (p := ⟨g, i * 2, none⟩) hgB _).setCell (p := ⟨g, i * 2 + 1, none⟩) hgB _).setCell (p := ⟨g, j * 2, none⟩) hgB _).setCell (p := ⟨g, j * 2 + 1, none⟩) hgB _)
      have HXL := Lib.hid hXl
      have hij : ¬ i = j := by omega
      have HZ := Lib.hid hz
      clear st1 st2 st3 st4 hDr hown hb qi0 qi1 qj0 qj1 hR hj hXl hlt hz
      generalize (X.set i X[j]).set j X[i] = X2 at *
      generalize X[i] = xi at *
      generalize X[j] = xj at *
      go_upto_region 3 with (fail)
      refine wp_region_held_drew (S := (fun _ : World => True)) (by kernel_rfl) trivial (fun hHeld => ?_)
      refine wpAnyH_take (i := 0) (oi := { dst := some 14, op := _, type := _, pos := _, after := _, guard := _ }) (v := ?v1) rfl (by kernel_rfl) (by kernel_rfl) (by kernel_rfl) (fun _ _ _ h => h) (Or.inl ⟨by kernel_rfl, ?hy1⟩) (by assumption) ?rest1
      case hy1 =>
        intro w hSw
        try dsimp only at hSw
        go_simp
        try with_reducible rfl
      try simp only [Act.put]
      refine wpAnyH_take (i := 1) (oi := { dst := some 15, op := _, type := _, pos := _, after := _, guard := _ }) (v := ?v2) rfl (by kernel_rfl) (by kernel_rfl) (by kernel_rfl) (fun _ _ _ h => h) (Or.inl ⟨by kernel_rfl, ?hy2⟩) (by assumption) ?rest2
      case hy2 =>
        intro w hSw
        try dsimp only at hSw
        go_simp
        try with_reducible rfl
      try simp only [Act.put]
      refine wpAnyH_take (i := 2) (oi := { dst := some 16, op := _, type := _, pos := _, after := _, guard := _ }) (v := ?v3) rfl (by kernel_rfl) (by kernel_rfl) (by kernel_rfl) (fun _ _ _ h => h) (Or.inl ⟨by kernel_rfl, ?hy3⟩) (by assumption) ?rest3
      case hy3 =>
        intro w hSw
        try dsimp only at hSw
        go_simp
        try with_reducible rfl
      try simp only [Act.put]
      refine wpAnyH_take (i := 3) (oi := { dst := some 17, op := _, type := _, pos := _, after := _, guard := _ }) (v := ?v4) rfl (by kernel_rfl) (by kernel_rfl) (by kernel_rfl) (fun _ _ _ h => h) (Or.inl ⟨by kernel_rfl, ?hy4⟩) (by assumption) ?rest4
      case hy4 =>
        intro w hSw
        try dsimp only at hSw
        go_simp
        try with_reducible rfl
      try simp only [Act.put]
      refine wpAnyH_take (i := 4) (oi := { dst := some 18, op := _, type := _, pos := _, after := _, guard := _ }) (v := ?v5) rfl (by kernel_rfl) (by kernel_rfl) (by kernel_rfl) (fun _ _ _ h => h) (Or.inl ⟨by kernel_rfl, ?hy5⟩) (by assumption) ?rest5
      case hy5 =>
        intro w hSw
        try dsimp only at hSw
        go_simp
        try with_reducible rfl
      try simp only [Act.put]
      refine wpAnyH_take (i := 5) (oi := { dst := some 19, op := _, type := _, pos := _, after := _, guard := _ }) (v := ?v6) rfl (by kernel_rfl) (by kernel_rfl) (by kernel_rfl) (fun _ _ _ h => h) (Or.inl ⟨by kernel_rfl, ?hy6⟩) (by assumption) ?rest6
      case hy6 =>
        intro w hSw
        try dsimp only at hSw
        go_simp
        try with_reducible rfl
      try simp only [Act.put]
      refine wpAnyH_take (i := 6) (oi := { dst := some 20, op := _, type := _, pos := _, after := _, guard := _ }) (v := ?v7) rfl (by kernel_rfl) (by kernel_rfl) (by kernel_rfl) (fun _ _ _ h => h) (Or.inl ⟨by kernel_rfl, ?hy7⟩) (by assumption) ?rest7
      case hy7 =>
        intro w hSw
        try dsimp only at hSw
        go_simp
        try with_reducible rfl
      try simp only [Act.put]
      refine wpAnyH_take (i := 8) (oi := { dst := some 22, op := _, type := _, pos := _, after := _, guard := _ }) (v := ?v8) rfl (by kernel_rfl) (by kernel_rfl) (by kernel_rfl) (fun _ _ _ h => h) (Or.inl ⟨by kernel_rfl, ?hy8⟩) (by assumption) ?rest8
      case hy8 =>
        intro w hSw
        try dsimp only at hSw
        go_simp
        try with_reducible rfl
      try simp only [Act.put]
      refine wpAnyH_take (i := 9) (oi := { dst := some 23, op := _, type := _, pos := _, after := _, guard := _ }) (v := ?v9) rfl (by kernel_rfl) (by kernel_rfl) (by kernel_rfl) (fun _ _ _ h => h) (Or.inl ⟨by kernel_rfl, ?hy9⟩) (by assumption) ?rest9
      case hy9 =>
        intro w hSw
        try dsimp only at hSw
        go_simp
        try with_reducible rfl
      try simp only [Act.put]
      refine wpAnyH_take (i := 10) (oi := { dst := some 24, op := _, type := _, pos := _, after := _, guard := _ }) (v := ?v10) rfl (by kernel_rfl) (by kernel_rfl) (by kernel_rfl) (fun _ _ _ h => h) (Or.inl ⟨by kernel_rfl, ?hy10⟩) (by assumption) ?rest10
      case hy10 =>
        intro w hSw
        try dsimp only at hSw
        go_simp
        try with_reducible rfl
      try simp only [Act.put]
      refine wpAnyH_ready (rs := [7, 11]) (by kernel_rfl) (by simp) ?_
      refine AllReadyH.cons (o := _) rfl (fun K hK => ?_) ?_
      · skip
        go_simp
        refine hK.out _ _ trivial (fun hHeld => ?_)
        clear hK K
        try simp only [Act.put]
        refine wpAnyH_ready (rs := [11]) (by kernel_rfl) (by simp) ?_
        refine AllReadyH.cons (o := _) rfl (fun K hK => ?_) AllReadyH.nil
        go_simp
        refine hK.out _ _ trivial (fun hHeld => ?_)
        clear hK K
        try simp only [Act.put]
        refine wpAnyH_take (i := 12) (oi := { dst := some 26, op := _, type := _, pos := _, after := _, guard := _ }) (v := ?v11) rfl (by kernel_rfl) (by kernel_rfl) (by kernel_rfl) (fun _ _ _ h => h) (Or.inl ⟨by kernel_rfl, ?hy11⟩) (by assumption) ?rest11
        case hy11 =>
          intro w hSw
          try dsimp only at hSw
          go_simp
          try with_reducible rfl
        try simp only [Act.put]
        refine wpAnyH_ready (rs := [13]) (by kernel_rfl) (by simp) ?_
        refine AllReadyH.cons (o := _) rfl (fun K hK => ?_) AllReadyH.nil
        go_simp
        refine hK.out _ _ trivial (fun hHeld => ?_)
        clear hK K
        try simp only [Act.put]
        refine wpAnyH_take (i := 14) (oi := { dst := some 27, op := _, type := _, pos := _, after := _, guard := _ }) (v := ?v12) rfl (by kernel_rfl) (by kernel_rfl) (by kernel_rfl) (fun _ _ _ h => h) (Or.inl ⟨by kernel_rfl, ?hy12⟩) (by assumption) ?rest12
        case hy12 =>
          intro w hSw
          try dsimp only at hSw
          go_simp
          try with_reducible rfl
        try simp only [Act.put]
        refine wpAnyH_ready (rs := [15]) (by kernel_rfl) (by simp) ?_
        refine AllReadyH.cons (o := _) rfl (fun K hK => ?_) AllReadyH.nil
        go_simp
        refine hK.out _ _ trivial (fun hHeld => ?_)
        clear hK K
        try simp only [Act.put]
        refine wpAnyH_done (by kernel_rfl) ?_ _
        try simp only [List.setIfInBounds_toArray]
        have HO2 := HO
        have HB2 := HB
        clear HO HB
        go_wp2_with fail
        go_roundw
        case rel => exact ⟨i + 1, (j : Int) - 1, X2, by go_num, by first | rfl | go_num, by have := HZ.out; omega, by omega, HR.out, HO2.out, HB2.out⟩
        case measure => simp [intOf]; omega
      refine AllReadyH.cons (o := _) rfl (fun K hK => ?_) AllReadyH.nil
      go_simp
      refine hK.out _ _ trivial (fun hHeld => ?_)
      clear hK K
      try simp only [Act.put]
      refine wpAnyH_ready (rs := [7]) (by kernel_rfl) (by simp) ?_
      refine AllReadyH.cons (o := _) rfl (fun K hK => ?_) AllReadyH.nil
      go_simp
      refine hK.out _ _ trivial (fun hHeld => ?_)
      clear hK K
      try simp only [Act.put]
      refine wpAnyH_take (i := 12) (oi := { dst := some 26, op := _, type := _, pos := _, after := _, guard := _ }) (v := ?v13) rfl (by kernel_rfl) (by kernel_rfl) (by kernel_rfl) (fun _ _ _ h => h) (Or.inl ⟨by kernel_rfl, ?hy13⟩) (by assumption) ?rest13
      case hy13 =>
        intro w hSw
        try dsimp only at hSw
        go_simp
        try with_reducible rfl
      try simp only [Act.put]
      refine wpAnyH_ready (rs := [13]) (by kernel_rfl) (by simp) ?_
      refine AllReadyH.cons (o := _) rfl (fun K hK => ?_) AllReadyH.nil
      go_simp
      refine hK.out _ _ trivial (fun hHeld => ?_)
      clear hK K
      try simp only [Act.put]
      refine wpAnyH_take (i := 14) (oi := { dst := some 27, op := _, type := _, pos := _, after := _, guard := _ }) (v := ?v14) rfl (by kernel_rfl) (by kernel_rfl) (by kernel_rfl) (fun _ _ _ h => h) (Or.inl ⟨by kernel_rfl, ?hy14⟩) (by assumption) ?rest14
      case hy14 =>
        intro w hSw
        try dsimp only at hSw
        go_simp
        try with_reducible rfl
      try simp only [Act.put]
      refine wpAnyH_ready (rs := [15]) (by kernel_rfl) (by simp) ?_
      refine AllReadyH.cons (o := _) rfl (fun K hK => ?_) AllReadyH.nil
      go_simp
      refine hK.out _ _ trivial (fun hHeld => ?_)
      clear hK K
      try simp only [Act.put]
      refine wpAnyH_done (by kernel_rfl) ?_ _
      try simp only [List.setIfInBounds_toArray]
      have HO2 := HO
      have HB2 := HB
      clear HO HB
      go_wp2_with fail
      go_roundw
      case rel => exact ⟨i + 1, (j : Int) - 1, X2, by go_num, by first | rfl | go_num, by have := HZ.out; omega, by omega, HR.out, HO2.out, HB2.out⟩
      case measure => simp [intOf]; omega
    · have b1 : decide ((i : Int) < z) = false := decide_eq_false hlt
      have HE := Lib.hid (show X = L.reverse from hR.done (by rw [← hz]; exact hlt))
      have HO := Lib.hid hown
      have HB := Lib.hid hb
      clear hR hown hb hz
      go_wp2_with fail
      go_end0
      exact ⟨rfl, by rw [← HE.out]; exact HO.out, HB.out⟩
end Go.Proofs.YtlablbibdkcifaaGreatDoor
