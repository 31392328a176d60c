/- before, sorted of the reference. No condition but the lengths. -/
import Derived.Test.YtlablbibdkcifaaDoorRls
import Derived.Deep.RegionHeld3
import Derived.Deep.DeepAppendWide
namespace Go.Proofs.YtlablbibdkcifaaDoor
open Go.RowKit Go.Deep Tr

def lnA (x : Ls.Ln) : Value := .agg #[.string (str x.1), .int .i64 x.2]
theorem lnA_def (x : Ls.Ln) : lnA x = .agg #[.string (str x.1), .int .i64 x.2] := rfl
set_option maxHeartbeats 4000000 in
set_option maxRecDepth 100000 in
theorem qbefore_any (b s : Ls.Ln) (w : World) : Calls Tryd.prog 64 #[lnA b, lnA s] w fun e w' => e = .returned (.bool (Ls.bfr b s)) ∧ Below w.heap.size w w' := by
  rw [lnA_def, lnA_def]
  have HV := Lib.hid (show Ls.bfr b s = (Op.bytesLess b.1 s.1 || (decide (b.1 = s.1) && decide (b.2 < s.2))) from rfl)
  generalize Ls.bfr b s = v at *
  have hb0 : Below w.heap.size w ((w.alloc (.cells #[.string (str b.1), .int .i64 b.2] 25)).alloc (.cells #[.string (str s.1), .int .i64 s.2] 25)) := ((Below.refl _ _).alloc (Nat.le_refl _) _).alloc (by simp) _
  by_cases hp : b.1 = s.1
  · have e1 : ((str b.1).toList == (str s.1).toList) = true := by rw [hp]; simp
    have e2 : Op.bytesLess (str b.1).toList (str s.1).toList = false := by rw [hp, strL]; exact Tre.bl_irr _
    have HT := Lib.hid (show v = decide (b.2 < s.2) by rw [HV.out, hp, Tre.bl_irr, decide_eq_true rfl]; simp)
    clear HV hp
    generalize hd : decide (b.2 < s.2) = d at *
    go_enter Tryd.func64, Tryd.ntmps64
    go_wp2_with fail
    go_ret
    exact ⟨by rw [HT.out]; first | rfl | rw [hd], hb0⟩
  · have e1 : ((str b.1).toList == (str s.1).toList) = false := by rw [beq_eq_false_iff_ne, strL, strL]; exact hp
    have HT := Lib.hid (show v = Op.bytesLess b.1 s.1 by rw [HV.out, decide_eq_false hp]; simp)
    have hd : Op.bytesLess (str b.1).toList (str s.1).toList = Op.bytesLess b.1 s.1 := by rw [strL, strL]
    clear HV hp
    generalize Op.bytesLess b.1 s.1 = d at *
    cases d with
    | true =>
      go_enter Tryd.func64, Tryd.ntmps64
      go_wp2_with fail
      go_ret
      exact ⟨by rw [HT.out]; rfl, hb0⟩
    | false =>
      go_enter Tryd.func64, Tryd.ntmps64
      go_wp2_with fail
      go_ret
      exact ⟨by rw [HT.out]; rfl, hb0⟩
theorem own_mono {w : World} {B B' e size n : Nat} {v : Value} {xs : List Value} (h : w.ownsRow B e size v n xs) (hB : B' ≤ B) : w.ownsRow B' e size v n xs := by
  rcases h with ⟨h1, ⟨rfl, h2⟩ | ⟨g, cap, cur, rfl, h2, h3⟩⟩
  · exact ⟨h1, .inl ⟨rfl, h2⟩⟩
  · exact ⟨h1, .inr ⟨g, cap, cur, rfl, Nat.le_trans hB h2, h3⟩⟩
/-- A row of lines at a place of its own. -/
def RowL (w : World) (B g cap : Nat) (l : List Ls.Ln) : Prop := w.ownsRow B 25 2 (.slice (some ⟨g, 0, none⟩) l.length cap) l.length (Ls.lnsV l)
theorem RowL.at_ {w : World} {B g cap : Nat} {l : List Ls.Ln} (h : RowL w B g cap l) : l.length ≤ cap ∧ cap ≤ maxLen ∧ g < w.heap.size ∧ ∀ j, j < l.length * 2 → ∀ u, (Ls.lnsV l)[j]? = some u → w.cell? ⟨g, j, none⟩ = some u := by
  unfold RowL at h
  have hg := (h.lt g rfl).2
  rcases h.2 with ⟨hv, _⟩ | ⟨g', cap', cur, hv, hb, hgg, h1, h2, _, _⟩
  · cases hv
  · injection hv with hv _ hc
    injection hv with hv
    injection hv with hv
    subst hv hc
    exact ⟨h1, h2, (Array.getElem?_eq_some_iff.1 hgg).1, fun j hj u hu => by rw [h.cellAt _ hj]; exact hu⟩
theorem row_some {w : World} {B e size n : Nat} {v : Value} {xs : List Value} (h : w.ownsRow B e size v n xs) (hv : v ≠ .slice none 0 0) : ∃ g c, v = .slice (some ⟨g, 0, none⟩) n c := by
  rcases h.2 with ⟨rfl, _⟩ | ⟨g, cap, cur, rfl, _⟩
  · exact absurd rfl hv
  · exact ⟨g, cap, rfl⟩
namespace Ls
theorem lnsV_take (l : List Ln) (k : Nat) (hk : k ≤ l.length) : lnsV (l.take k) = (lnsV l).take (k * 2) := by
  have h : lnsV l = lnsV (l.take k) ++ lnsV (l.drop k) := by rw [← lnsV_app, List.take_append_drop]
  rw [h, List.take_left' (by rw [lnsV_len, List.length_take, Nat.min_eq_left hk])]
theorem lnsV_drop (l : List Ln) (k : Nat) (hk : k ≤ l.length) : lnsV (l.drop k) = (lnsV l).drop (k * 2) := by
  have h : lnsV l = lnsV (l.take k) ++ lnsV (l.drop k) := by rw [← lnsV_app, List.take_append_drop]
  rw [h, List.drop_left' (by rw [lnsV_len, List.length_take, Nat.min_eq_left hk])]
end Ls
set_option maxHeartbeats 16000000 in
set_option maxRecDepth 100000 in
theorem qsorted_any (L : List Ls.Ln) (A : Option Addr) (c : Nat) (w : World) (hA : Ls.LnAt w w.heap.size A L) (hl : L.length ≤ 1000000) :
    Calls Tryd.prog 44 #[.slice A L.length c] w (GotLn w (Ls.srt L)) := by
  obtain ⟨iln, hiln, hz0, hz1, hz2⟩ := info_parts infoLn
  have ho0 : RowL (w.alloc (.cells #[] 25)) w.heap.size w.heap.size 0 [] := own_emptyL w w.heap.size (Nat.le_refl _) 25 2
  have hb0 : Below w.heap.size w (w.alloc (.cells #[] 25)) := (Below.refl _ _).alloc (Nat.le_refl _) _
  have HAA := Lib.hid hA
  have HO0 := Lib.hid ho0
  have HB0 := Lib.hid hb0
  clear hA ho0 hb0
  go_enter Tryd.func44, Tryd.ntmps44
  go_wp2_with fail
  go_loopw [3, 4] (fun s3 s4 wr => ∃ (i g3 c3 : Nat), s4 = .int .i64 i ∧ i ≤ L.length ∧ s3 = .slice (some ⟨g3, 0, none⟩) (Ls.srt (L.take i)).length c3 ∧ RowL wr w.heap.size g3 c3 (Ls.srt (L.take i)) ∧ Below w.heap.size w wr) (fun _ s4 _ => L.length - (intOf s4).toNat)
  case atStart => exact ⟨0, _, _, rfl, by omega, rfl, HO0.out, HB0.out⟩
  case round =>
    clear HO0 HB0
    obtain ⟨i, g3, c3, rfl, hi, rfl, hown, hb⟩ := hrel
    rename World => wo
    by_cases hlt : i < L.length
    · have b1 : decide ((i : Int) < (L.length : Int)) = true := decide_eq_true (by omega)
      have b1n : decide (i < L.length) = true := decide_eq_true hlt
      have y3 : (i : Int) < (L.length : Int) := by omega
      obtain ⟨g, o, rfl, hg, hc⟩ := HAA.out i hlt
      have HST := Lib.hid (Ls.srt_take L i hlt)
      have hsl := (Ls.srt_ok (L.take i)).2.2
      rw [List.length_take, Nat.min_eq_left hi] at hsl
      have hc0 := hc 0 _ rfl
      have hc1 := hc 1 _ rfl
      rw [Nat.add_zero] at hc0
      clear hc
      generalize L[i] = x at *
      have HST2 := Lib.hid (show Ls.srt (L.take (i + 1)) = Ls.ins x (Ls.srt (L.take i)) from HST.out)
      clear HST
      generalize Ls.srt (L.take i) = O at *
      have hOl : O.length ≤ 1000000 := by omega
      clear hsl
      have HOW := Lib.hid hown
      have hat3 := hown.at_
      have HBO := Lib.hid hb
      have HKX := Lib.hid (fun (w5 : World) (h5 : Below w.heap.size w w5) => (show w5.cell? ⟨g, o + i * 2, none⟩ = some (.string (str x.1)) ∧ w5.cell? ⟨g, o + i * 2 + 1, none⟩ = some (.int .i64 x.2) from ⟨(h5.cell (p := ⟨g, o + i * 2, none⟩) hg).trans hc0, (h5.cell (p := ⟨g, o + i * 2 + 1, none⟩) hg).trans hc1⟩))
      have hwo : w.heap.size ≤ wo.heap.size := hb.size
      obtain ⟨hOc, hcm, hg3, hcells⟩ := hat3
      have HCE := Lib.hid hcells
      clear hc0 hc1 hown hb hcells
      go_wp2_with fail
      go_loopw [5] (fun s5 wr => ∃ k : Nat, s5 = .int .i64 k ∧ k ≤ O.length ∧ (∀ j, j < k → ∀ hj : j < O.length, Ls.bfr x O[j] = false) ∧ Below wo.heap.size wo wr) (fun s5 _ => O.length - (intOf s5).toNat)
      case atStart => exact ⟨0, rfl, by omega, fun j hj => by omega, Below.refl _ _⟩
      case round =>
        obtain ⟨k, rfl, hk, hno, hb⟩ := hrel
        have HNO := Lib.hid hno
        clear hno
        by_cases hkl : k < O.length
        · have k1 : decide ((k : Int) < (O.length : Int)) = true := decide_eq_true (by omega)
          have k1n : decide (k < O.length) = true := decide_eq_true hkl
          have k3 : (k : Int) < (O.length : Int) := by omega
          have hbw := HBO.out.trans (hb.mono hwo)
          have d0 := (HKX.out wr hbw).1
          have d1 := (HKX.out wr hbw).2
          have q0 : (Ls.lnsV O)[k * 2]? = some (.string (str O[k].1)) := Ls.flat_at Ls.lnV 2 Ls.lnV_len O k 0 hkl (by omega)
          have q1 : (Ls.lnsV O)[k * 2 + 1]? = some (.int .i64 O[k].2) := Ls.flat_at Ls.lnV 2 Ls.lnV_len O k 1 hkl (by omega)
          have f0 := (hb.cell (p := ⟨g3, k * 2, none⟩) hg3).trans (HCE.out _ (by omega) _ q0)
          have f1 := (hb.cell (p := ⟨g3, k * 2 + 1, none⟩) hg3).trans (HCE.out _ (by omega) _ q1)
          have HIN := Lib.hid (show Ls.bfr x O[k] = true → Ls.ins x O = O.take k ++ x :: O.drop k from fun h => Ls.ins_at x O k hk HNO.out (fun _ => h))
          have HNX := Lib.hid (show Ls.bfr x O[k] = false → ∀ j, j < k + 1 → ∀ hj : j < O.length, Ls.bfr x O[j] = false from fun h j hj hjl => by
            by_cases e : j = k
            · subst e; exact h
            · exact HNO.out j (by omega) hjl)
          clear q0 q1
          generalize hy : O[k] = y at *
          clear hy
          have hgx : g < wr.drew.heap.size := by have := hbw.size; show g < wr.heap.size; omega
          have hg3x : g3 < wr.drew.heap.size := by have := hb.size; show g3 < wr.heap.size; omega
          have HKS := Lib.hid (fun (w5 : World) (h5 : Below wr.drew.heap.size wr.drew w5) => (show w5.cell? ⟨g, o + i * 2, none⟩ = some (.string (str x.1)) ∧ w5.cell? ⟨g, o + i * 2 + 1, none⟩ = some (.int .i64 x.2) ∧ w5.cell? ⟨g3, k * 2, none⟩ = some (.string (str y.1)) ∧ w5.cell? ⟨g3, k * 2 + 1, none⟩ = some (.int .i64 y.2) from ⟨(h5.cell (p := ⟨g, o + i * 2, none⟩) hgx).trans d0, (h5.cell (p := ⟨g, o + i * 2 + 1, none⟩) hgx).trans d1, (h5.cell (p := ⟨g3, k * 2, none⟩) hg3x).trans f0, (h5.cell (p := ⟨g3, k * 2 + 1, none⟩) hg3x).trans f1⟩))
          go_upto_region 6 with (fail)
          cases hby : Ls.bfr x y with
          | false =>
            have HBY := Lib.hid hby
            have HN2 := Lib.hid (HNX.out hby)
            clear hby
            refine wp_region_held_drew (S := (fun w' : World => w'.cell? ⟨g, o + i * 2, none⟩ = some (.string (str x.1)) ∧ w'.cell? ⟨g, o + i * 2 + 1, none⟩ = some (.int .i64 x.2) ∧ w'.cell? ⟨g3, k * 2, none⟩ = some (.string (str y.1)) ∧ w'.cell? ⟨g3, k * 2 + 1, none⟩ = some (.int .i64 y.2))) (by kernel_rfl) ⟨d0, d1, f0, f1⟩ (fun hHeld => ?_)
            refine wpAnyH_take (i := 0) (oi := { dst := some 14, op := _, type := _, pos := _, after := _, guard := _ }) (v := ?v1) rfl (by kernel_rfl) (by kernel_rfl) (by kernel_rfl) (fun _ _ _ h => h) (Or.inl ⟨by kernel_rfl, ?hy1⟩) (by assumption) ?rest1
            case hy1 =>
              intro w hSw
              try dsimp only at hSw
              go_simp
              try with_reducible rfl
            try simp only [Act.put]
            refine wpAnyH_take (i := 1) (oi := { dst := some 15, op := _, type := _, pos := _, after := _, guard := _ }) (v := ?v2) rfl (by kernel_rfl) (by kernel_rfl) (by kernel_rfl) (fun _ _ _ h => h) (Or.inl ⟨by kernel_rfl, ?hy2⟩) (by assumption) ?rest2
            case hy2 =>
              intro w hSw
              try dsimp only at hSw
              go_simp
              try with_reducible rfl
            try simp only [Act.put]
            refine wpAnyH_take (i := 2) (oi := { dst := some 16, op := _, type := _, pos := _, after := _, guard := _ }) (v := ?v3) rfl (by kernel_rfl) (by kernel_rfl) (by kernel_rfl) (fun _ _ _ h => h) (Or.inl ⟨by kernel_rfl, ?hy3⟩) (by assumption) ?rest3
            case hy3 =>
              intro w hSw
              try dsimp only at hSw
              go_simp
              try with_reducible rfl
            try simp only [Act.put]
            refine wpAnyH_take (i := 3) (oi := { dst := some 17, op := _, type := _, pos := _, after := _, guard := _ }) (v := ?v4) rfl (by kernel_rfl) (by kernel_rfl) (by kernel_rfl) (fun _ _ _ h => h) (Or.inl ⟨by kernel_rfl, ?hy4⟩) (by assumption) ?rest4
            case hy4 =>
              intro w hSw
              try dsimp only at hSw
              go_simp
              try with_reducible rfl
            try simp only [Act.put]
            refine wpAnyH_take (i := 4) (oi := { dst := some 18, op := _, type := _, pos := _, after := _, guard := _ }) (v := ?v5) rfl (by kernel_rfl) (by kernel_rfl) (by kernel_rfl) (fun _ _ _ h => h) (Or.inl ⟨by kernel_rfl, ?hy5⟩) (by assumption) ?rest5
            case hy5 =>
              intro w hSw
              try dsimp only at hSw
              go_simp
              try with_reducible rfl
            try simp only [Act.put]
            refine wpAnyH_take (i := 5) (oi := { dst := some 19, op := _, type := _, pos := _, after := _, guard := _ }) (v := ?v6) rfl (by kernel_rfl) (by kernel_rfl) (by kernel_rfl) (fun _ _ _ h => h) (Or.inl ⟨by kernel_rfl, ?hy6⟩) (by assumption) ?rest6
            case hy6 =>
              intro w hSw
              try dsimp only at hSw
              go_simp
              try with_reducible rfl
            try simp only [Act.put]
            refine wpAnyH_take (i := 6) (oi := { dst := some 20, op := _, type := _, pos := _, after := _, guard := _ }) (v := ?v7) rfl (by kernel_rfl) (by kernel_rfl) (by kernel_rfl) (fun _ _ _ h => h) (Or.inl ⟨by kernel_rfl, ?hy7⟩) (by assumption) ?rest7
            case hy7 =>
              intro w hSw
              try dsimp only at hSw
              go_simp
              try with_reducible rfl
            try simp only [Act.put]
            refine wpAnyH_take (i := 7) (oi := { dst := some 21, op := _, type := _, pos := _, after := _, guard := _ }) (v := ?v8) rfl (by kernel_rfl) (by kernel_rfl) (by kernel_rfl) (fun _ _ _ h => h) (Or.inl ⟨by kernel_rfl, ?hy8⟩) (by assumption) ?rest8
            case hy8 =>
              intro w hSw
              try dsimp only at hSw
              go_simp
              try with_reducible rfl
            try simp only [Act.put]
            refine wpAnyH_take (i := 8) (oi := { dst := some 22, op := _, type := _, pos := _, after := _, guard := _ }) (v := ?v9) rfl (by kernel_rfl) (by kernel_rfl) (by kernel_rfl) (fun _ _ _ h => h) (Or.inl ⟨by kernel_rfl, ?hy9⟩) (by assumption) ?rest9
            case hy9 =>
              intro w hSw
              try dsimp only at hSw
              go_simp
              try with_reducible rfl
            try simp only [Act.put]
            refine wpAnyH_take (i := 9) (oi := { dst := some 23, op := _, type := _, pos := _, after := _, guard := _ }) (v := ?v10) rfl (by kernel_rfl) (by kernel_rfl) (by kernel_rfl) (fun _ _ _ h => h) (Or.inl ⟨by kernel_rfl, ?hy10⟩) (by assumption) ?rest10
            case hy10 =>
              intro w hSw
              try dsimp only at hSw
              go_simp
              try with_reducible rfl
            try simp only [Act.put]
            refine wpAnyH_take (i := 10) (oi := { dst := some 24, op := _, type := _, pos := _, after := _, guard := _ }) (v := ?v11) rfl (by kernel_rfl) (by kernel_rfl) (by kernel_rfl) (fun _ _ _ h => h) (Or.inl ⟨by kernel_rfl, ?hy11⟩) (by assumption) ?rest11
            case hy11 =>
              intro w hSw
              try dsimp only at hSw
              go_simp
              try with_reducible rfl
            try simp only [Act.put]
            refine wpAnyH_take (i := 11) (oi := { dst := some 25, op := _, type := _, pos := _, after := _, guard := _ }) (v := ?v12) rfl (by kernel_rfl) (by kernel_rfl) (by kernel_rfl) (fun _ _ _ h => h) (Or.inl ⟨by kernel_rfl, ?hy12⟩) (by assumption) ?rest12
            case hy12 =>
              intro w hSw
              try dsimp only at hSw
              go_simp
              try with_reducible rfl
            try simp only [Act.put]
            refine wpAnyH_take (i := 12) (oi := { dst := some 26, op := _, type := _, pos := _, after := _, guard := _ }) (v := ?v13) rfl (by kernel_rfl) (by kernel_rfl) (by kernel_rfl) (fun _ _ _ h => h) (Or.inl ⟨by kernel_rfl, ?hy13⟩) (by assumption) ?rest13
            case hy13 =>
              intro w hSw
              try dsimp only at hSw
              go_simp
              try with_reducible rfl
            try simp only [Act.put]
            refine wpAnyH_ready (rs := [13]) (by kernel_rfl) (by simp) ?_
            refine AllReadyH.cons (o := _) rfl (fun K hK => ?_) AllReadyH.nil
            go_simp
            go_at_call 64
            have cc := qbefore_any x y wr.drew
            rw [lnA_def, lnA_def, HBY.out] at cc
            with_reducible refine cc.mono ?_
            clear cc
            rintro e w5 ⟨rfl, hb5⟩
            refine hK.out _ _ (HKS.out w5 hb5) (fun hHeld => ?_)
            clear hK K
            try simp only [Act.put]
            refine wpAnyH_take (i := 14) (oi := { dst := some 28, op := _, type := _, pos := _, after := _, guard := _ }) (v := ?v14) rfl (by kernel_rfl) (by kernel_rfl) (by kernel_rfl) (fun _ _ _ h => h) (Or.inl ⟨by kernel_rfl, ?hy14⟩) (by assumption) ?rest14
            case hy14 =>
              intro w hSw
              try dsimp only at hSw
              go_simp
              try with_reducible rfl
            try simp only [Act.put]
            refine wpAnyH_take (i := 15) (oi := { dst := some 29, op := _, type := _, pos := _, after := _, guard := _ }) (v := ?v15) rfl (by kernel_rfl) (by kernel_rfl) (by kernel_rfl) (fun _ _ _ h => h) (Or.inl ⟨by kernel_rfl, ?hy15⟩) (by assumption) ?rest15
            case hy15 =>
              intro w hSw
              try dsimp only at hSw
              go_simp
              try with_reducible rfl
            try simp only [Act.put]
            refine wpAnyH_done (by kernel_rfl) ?_ _
            try simp only [List.setIfInBounds_toArray, List.set_cons_zero, List.set_cons_succ]
            have H5 := Lib.hid (hb.drew.trans (hb5.mono hb.drew.size))
            clear hb5 d0 d1 f0 f1 hb hbw
            go_wp2_with fail
            go_roundw
            case rel => exact ⟨k + 1, by go_num, by omega, HN2.out, H5.out⟩
            case measure => simp [intOf]; omega
          | true =>
            have HBY := Lib.hid hby
            have HI := Lib.hid (HIN.out hby)
            clear hby
            refine wp_region_held_drew (S := (fun w' : World => w'.cell? ⟨g, o + i * 2, none⟩ = some (.string (str x.1)) ∧ w'.cell? ⟨g, o + i * 2 + 1, none⟩ = some (.int .i64 x.2) ∧ w'.cell? ⟨g3, k * 2, none⟩ = some (.string (str y.1)) ∧ w'.cell? ⟨g3, k * 2 + 1, none⟩ = some (.int .i64 y.2))) (by kernel_rfl) ⟨d0, d1, f0, f1⟩ (fun hHeld => ?_)
            refine wpAnyH_take (i := 0) (oi := { dst := some 14, op := _, type := _, pos := _, after := _, guard := _ }) (v := ?v16) rfl (by kernel_rfl) (by kernel_rfl) (by kernel_rfl) (fun _ _ _ h => h) (Or.inl ⟨by kernel_rfl, ?hy16⟩) (by assumption) ?rest16
            case hy16 =>
              intro w hSw
              try dsimp only at hSw
              go_simp
              try with_reducible rfl
            try simp only [Act.put]
            refine wpAnyH_take (i := 1) (oi := { dst := some 15, op := _, type := _, pos := _, after := _, guard := _ }) (v := ?v17) rfl (by kernel_rfl) (by kernel_rfl) (by kernel_rfl) (fun _ _ _ h => h) (Or.inl ⟨by kernel_rfl, ?hy17⟩) (by assumption) ?rest17
            case hy17 =>
              intro w hSw
              try dsimp only at hSw
              go_simp
              try with_reducible rfl
            try simp only [Act.put]
            refine wpAnyH_take (i := 2) (oi := { dst := some 16, op := _, type := _, pos := _, after := _, guard := _ }) (v := ?v18) rfl (by kernel_rfl) (by kernel_rfl) (by kernel_rfl) (fun _ _ _ h => h) (Or.inl ⟨by kernel_rfl, ?hy18⟩) (by assumption) ?rest18
            case hy18 =>
              intro w hSw
              try dsimp only at hSw
              go_simp
              try with_reducible rfl
            try simp only [Act.put]
            refine wpAnyH_take (i := 3) (oi := { dst := some 17, op := _, type := _, pos := _, after := _, guard := _ }) (v := ?v19) rfl (by kernel_rfl) (by kernel_rfl) (by kernel_rfl) (fun _ _ _ h => h) (Or.inl ⟨by kernel_rfl, ?hy19⟩) (by assumption) ?rest19
            case hy19 =>
              intro w hSw
              try dsimp only at hSw
              go_simp
              try with_reducible rfl
            try simp only [Act.put]
            refine wpAnyH_take (i := 4) (oi := { dst := some 18, op := _, type := _, pos := _, after := _, guard := _ }) (v := ?v20) rfl (by kernel_rfl) (by kernel_rfl) (by kernel_rfl) (fun _ _ _ h => h) (Or.inl ⟨by kernel_rfl, ?hy20⟩) (by assumption) ?rest20
            case hy20 =>
              intro w hSw
              try dsimp only at hSw
              go_simp
              try with_reducible rfl
            try simp only [Act.put]
            refine wpAnyH_take (i := 5) (oi := { dst := some 19, op := _, type := _, pos := _, after := _, guard := _ }) (v := ?v21) rfl (by kernel_rfl) (by kernel_rfl) (by kernel_rfl) (fun _ _ _ h => h) (Or.inl ⟨by kernel_rfl, ?hy21⟩) (by assumption) ?rest21
            case hy21 =>
              intro w hSw
              try dsimp only at hSw
              go_simp
              try with_reducible rfl
            try simp only [Act.put]
            refine wpAnyH_take (i := 6) (oi := { dst := some 20, op := _, type := _, pos := _, after := _, guard := _ }) (v := ?v22) rfl (by kernel_rfl) (by kernel_rfl) (by kernel_rfl) (fun _ _ _ h => h) (Or.inl ⟨by kernel_rfl, ?hy22⟩) (by assumption) ?rest22
            case hy22 =>
              intro w hSw
              try dsimp only at hSw
              go_simp
              try with_reducible rfl
            try simp only [Act.put]
            refine wpAnyH_take (i := 7) (oi := { dst := some 21, op := _, type := _, pos := _, after := _, guard := _ }) (v := ?v23) rfl (by kernel_rfl) (by kernel_rfl) (by kernel_rfl) (fun _ _ _ h => h) (Or.inl ⟨by kernel_rfl, ?hy23⟩) (by assumption) ?rest23
            case hy23 =>
              intro w hSw
              try dsimp only at hSw
              go_simp
              try with_reducible rfl
            try simp only [Act.put]
            refine wpAnyH_take (i := 8) (oi := { dst := some 22, op := _, type := _, pos := _, after := _, guard := _ }) (v := ?v24) rfl (by kernel_rfl) (by kernel_rfl) (by kernel_rfl) (fun _ _ _ h => h) (Or.inl ⟨by kernel_rfl, ?hy24⟩) (by assumption) ?rest24
            case hy24 =>
              intro w hSw
              try dsimp only at hSw
              go_simp
              try with_reducible rfl
            try simp only [Act.put]
            refine wpAnyH_take (i := 9) (oi := { dst := some 23, op := _, type := _, pos := _, after := _, guard := _ }) (v := ?v25) rfl (by kernel_rfl) (by kernel_rfl) (by kernel_rfl) (fun _ _ _ h => h) (Or.inl ⟨by kernel_rfl, ?hy25⟩) (by assumption) ?rest25
            case hy25 =>
              intro w hSw
              try dsimp only at hSw
              go_simp
              try with_reducible rfl
            try simp only [Act.put]
            refine wpAnyH_take (i := 10) (oi := { dst := some 24, op := _, type := _, pos := _, after := _, guard := _ }) (v := ?v26) rfl (by kernel_rfl) (by kernel_rfl) (by kernel_rfl) (fun _ _ _ h => h) (Or.inl ⟨by kernel_rfl, ?hy26⟩) (by assumption) ?rest26
            case hy26 =>
              intro w hSw
              try dsimp only at hSw
              go_simp
              try with_reducible rfl
            try simp only [Act.put]
            refine wpAnyH_take (i := 11) (oi := { dst := some 25, op := _, type := _, pos := _, after := _, guard := _ }) (v := ?v27) rfl (by kernel_rfl) (by kernel_rfl) (by kernel_rfl) (fun _ _ _ h => h) (Or.inl ⟨by kernel_rfl, ?hy27⟩) (by assumption) ?rest27
            case hy27 =>
              intro w hSw
              try dsimp only at hSw
              go_simp
              try with_reducible rfl
            try simp only [Act.put]
            refine wpAnyH_take (i := 12) (oi := { dst := some 26, op := _, type := _, pos := _, after := _, guard := _ }) (v := ?v28) rfl (by kernel_rfl) (by kernel_rfl) (by kernel_rfl) (fun _ _ _ h => h) (Or.inl ⟨by kernel_rfl, ?hy28⟩) (by assumption) ?rest28
            case hy28 =>
              intro w hSw
              try dsimp only at hSw
              go_simp
              try with_reducible rfl
            try simp only [Act.put]
            refine wpAnyH_ready (rs := [13]) (by kernel_rfl) (by simp) ?_
            refine AllReadyH.cons (o := _) rfl (fun K hK => ?_) AllReadyH.nil
            go_simp
            go_at_call 64
            have cc := qbefore_any x y wr.drew
            rw [lnA_def, lnA_def, HBY.out] at cc
            with_reducible refine cc.mono ?_
            clear cc
            rintro e w5 ⟨rfl, hb5⟩
            refine hK.out _ _ (HKS.out w5 hb5) (fun hHeld => ?_)
            clear hK K
            try simp only [Act.put]
            refine wpAnyH_take (i := 14) (oi := { dst := some 28, op := _, type := _, pos := _, after := _, guard := _ }) (v := ?v29) rfl (by kernel_rfl) (by kernel_rfl) (by kernel_rfl) (fun _ _ _ h => h) (Or.inl ⟨by kernel_rfl, ?hy29⟩) (by assumption) ?rest29
            case hy29 =>
              intro w hSw
              try dsimp only at hSw
              go_simp
              try with_reducible rfl
            try simp only [Act.put]
            refine wpAnyH_take (i := 15) (oi := { dst := some 29, op := _, type := _, pos := _, after := _, guard := _ }) (v := ?v30) rfl (by kernel_rfl) (by kernel_rfl) (by kernel_rfl) (fun _ _ _ h => h) (Or.inl ⟨by kernel_rfl, ?hy30⟩) (by assumption) ?rest30
            case hy30 =>
              intro w hSw
              try dsimp only at hSw
              go_simp
              try with_reducible rfl
            try simp only [Act.put]
            refine wpAnyH_done (by kernel_rfl) ?_ _
            try simp only [List.setIfInBounds_toArray, List.set_cons_zero, List.set_cons_succ]
            have hbE := hb.drew.trans (hb5.mono hb.drew.size)
            clear hb5 d0 d1 f0 f1 hb hbw
            generalize w5 = wE at *
            have hbwE := HBO.out.trans (hbE.mono hwo)
            have hEs : w.heap.size ≤ wE.heap.size := hbwE.size
            have hg3E : g3 < wE.heap.size := by have := hbE.size; omega
            have s1 : (k : Int) ≤ (c3 : Int) := by omega
            have s2 : (0 : Int) ≤ (k : Int) := by omega
            have s3 : (k : Int) ≤ (O.length : Int) := by omega
            have HTK := Lib.hid (show ∀ j u, (Ls.lnsV (O.take k))[j]? = some u → wE.cell? ⟨g3, j, none⟩ = some u from fun j u hj => by
              have hjl : j < k * 2 := by have := (List.getElem?_eq_some_iff.1 hj).1; rwa [Ls.lnsV_len, List.length_take, Nat.min_eq_left hk] at this
              rw [Ls.lnsV_take O k hk, List.getElem?_take_of_lt hjl] at hj
              exact (hbE.cell (p := ⟨g3, j, none⟩) hg3).trans (HCE.out j (by omega) u hj))
            have HDK := Lib.hid (show ∀ j u, (Ls.lnsV (O.drop k))[j]? = some u → wE.cell? ⟨g3, k * 2 + j, none⟩ = some u from fun j u hj => by
              rw [Ls.lnsV_drop O k hk, List.getElem?_drop] at hj
              have hjl : k * 2 + j < O.length * 2 := by have := (List.getElem?_eq_some_iff.1 hj).1; rwa [Ls.lnsV_len] at this
              exact (hbE.cell (p := ⟨g3, k * 2 + j, none⟩) hg3).trans (HCE.out _ hjl u hj))
            have HTL := Lib.hid (show (O.take k).length = k by rw [List.length_take, Nat.min_eq_left hk])
            have HDL := Lib.hid (show (O.drop k).length = O.length - k from List.length_drop ..)
            generalize O.take k = T1 at *
            generalize O.drop k = T2 at *
            have hE8 := own_emptyL wE wE.heap.size (Nat.le_refl _) 25 2
            have hbX8 : Below wE.heap.size wE (wE.alloc (.cells #[] 25)) := (Below.refl _ _).alloc (Nat.le_refl _) _
            go_upto_region 9 with (at_builtin; refine wpList_append_own_wide _ (by rfl) _ _ 29 (by rfl) wE.heap.size 25 iln _ 2 24 Tryd.underlying29 hiln hz0 hz1 hz2 rfl (by omega) (.slice (some ⟨wE.heap.size, 0, none⟩) 0 0) 0 [] (by rfl) hE8 ⟨g3, 0, none⟩ k c3 (Ls.lnsV T1) (by rfl) (by rw [Ls.lnsV_len, HTL.out]) (fun j u hj => by rw [addr_addS, Nat.zero_add]; exact (hbX8.cell (p := ⟨g3, j, none⟩) hg3E).trans (HTK.out j u hj)) (Ls.lnsV_ones _) (by unfold maxLen; omega) (by omega) (by first | omega | (simp; done) | (simp; omega)) ?_; intro v8 w8 hown8 hgrow8 hnil8)
            have hb8 : Below wE.heap.size wE w8 := below_grown hbX8 hbX8.size hE8 hgrow8
            rw [Nat.zero_add, List.nil_append] at hown8
            have hq8 := hb8.size
            obtain ⟨g8, c8, rfl⟩ := row_some hown8 (by rw [ne_eq, hnil8]; simp)
            have d0 := (HKX.out w8 (hbwE.trans (hb8.mono hEs))).1
            have d1 := (HKX.out w8 (hbwE.trans (hb8.mono hEs))).2
            have hbX9 : Below wE.heap.size wE (w8.alloc (.cells #[.string (str x.1), .int .i64 x.2] 25)) := hb8.alloc hb8.size _
            clear hgrow8 hnil8 hE8 hbX8
            go_upto_region 10 with (at_builtin; refine wpList_append_own_wide _ (by rfl) _ _ 29 (by rfl) wE.heap.size 25 iln _ 2 24 Tryd.underlying29 hiln hz0 hz1 hz2 rfl (by omega) (.slice (some ⟨g8, 0, none⟩) k c8) k (Ls.lnsV T1) (by rfl) (hown8.alloc _) ⟨w8.heap.size, 0, none⟩ 1 1 [_, _] (by rfl) (by rfl) (World.news_of_block (cs := #[_, _]) (t := 25) (fr := (0, 0)) (heap_alloc_new w8 _)) (by simp [Value.oneCell']) (by unfold maxLen; omega) (by omega) (by first | omega | (simp; done) | (simp; omega)) ?_; intro v9 w9 hown9 hgrow9 hnil9)
            have hb9 : Below wE.heap.size wE w9 := below_grown hbX9 hbX9.size (hown8.alloc _) hgrow9
            have hq9 := hb9.size
            obtain ⟨g9, c9, rfl⟩ := row_some hown9 (by rw [ne_eq, hnil9]; simp)
            clear hgrow9 hnil9 d0 d1 hbX9 hown8 hb8
            by_cases hcap : c3 = k
            · have hz : O.length - k = 0 := by omega
              have s4 : (c3 : Int) = (k : Int) := by omega
              have hT2 : T2 = [] := List.length_eq_zero_iff.1 (by rw [HDL.out]; exact hz)
              have HZ := Lib.hid hz
              go_wp2_with (at_builtin; refine wpList_append_own_wide _ (by rfl) _ _ 29 (by rfl) wE.heap.size 25 iln _ 2 24 Tryd.underlying29 hiln hz0 hz1 hz2 rfl (by omega) (.slice (some ⟨g9, 0, none⟩) (k + 1) c9) (k + 1) _ (by rfl) hown9 ⟨g3, 0, none⟩ 0 _ [] (by rfl) (by rfl) (fun j u hj => by simp at hj) (by simp) (by unfold maxLen; omega) (by omega) (by first | omega | (simp; done) | (simp; omega)) ?_; intro v10 w10 hown10 hgrow10 hnil10)
              have hb10 : Below wE.heap.size wE w10 := below_grown hb9 hb9.size hown9 hgrow10
              obtain ⟨g10, c10, rfl⟩ := row_some hown10 (by rw [ne_eq, hnil10]; simp)
              rw [Nat.add_zero, List.append_nil] at hown10
              have HO := Lib.hid hown10
              have H6 := Lib.hid (hbwE.trans (hb10.mono hEs))
              have HLN := Lib.hid (show (Ls.srt (L.take (i + 1))).length = k + 1 by rw [HST2.out, HI.out, List.length_append, List.length_cons, HTL.out, HDL.out, HZ.out])
              have HEQ := Lib.hid (show Ls.lnsV (Ls.srt (L.take (i + 1))) = Ls.lnsV T1 ++ [.string (str x.1), .int .i64 x.2] by rw [HST2.out, HI.out, hT2, Ls.lnsV_app]; rfl)
              clear hown10 hb10 hgrow10 hnil10 hown9 hb9
              go_roundw
              case rel => exact ⟨i + 1, g10, c10, by go_num, by omega, by rw [HLN.out], by unfold RowL; rw [HLN.out, HEQ.out]; exact own_mono HO.out hEs, H6.out⟩
              case measure => simp [intOf]; omega
            · have s4 : ¬ c3 = k := hcap
              go_wp2_with (at_builtin; refine wpList_append_own_wide _ (by rfl) _ _ 29 (by rfl) wE.heap.size 25 iln _ 2 24 Tryd.underlying29 hiln hz0 hz1 hz2 rfl (by omega) (.slice (some ⟨g9, 0, none⟩) (k + 1) c9) (k + 1) _ (by rfl) hown9 ⟨g3, k * 2, none⟩ (O.length - k) _ (Ls.lnsV T2) (by rfl) (by rw [Ls.lnsV_len, HDL.out]) (fun j u hj => by rw [addr_addS]; exact (hb9.cell (p := ⟨g3, k * 2 + j, none⟩) hg3E).trans (HDK.out j u hj)) (Ls.lnsV_ones _) (by unfold maxLen; omega) (by omega) (by first | omega | (simp; done) | (simp; omega)) ?_; intro v10 w10 hown10 hgrow10 hnil10)
              have hb10 : Below wE.heap.size wE w10 := below_grown hb9 hb9.size hown9 hgrow10
              obtain ⟨g10, c10, rfl⟩ := row_some hown10 (by rw [ne_eq, hnil10]; simp)
              have HO := Lib.hid hown10
              have H6 := Lib.hid (hbwE.trans (hb10.mono hEs))
              have HLN := Lib.hid (show (Ls.srt (L.take (i + 1))).length = k + 1 + (O.length - k) by rw [HST2.out, HI.out, List.length_append, List.length_cons, HTL.out, HDL.out]; omega)
              have HEQ := Lib.hid (show Ls.lnsV (Ls.srt (L.take (i + 1))) = Ls.lnsV T1 ++ [.string (str x.1), .int .i64 x.2] ++ Ls.lnsV T2 by rw [HST2.out, HI.out, Ls.lnsV_app, List.append_assoc]; rfl)
              clear hown10 hb10 hgrow10 hnil10 hown9 hb9
              go_roundw
              case rel => exact ⟨i + 1, g10, c10, by go_num, by omega, by rw [HLN.out], by unfold RowL; rw [HLN.out, HEQ.out]; exact own_mono HO.out hEs, H6.out⟩
              case measure => simp [intOf]; omega
        · have k1 : decide ((k : Int) < (O.length : Int)) = false := decide_eq_false (by omega)
          have k1n : decide (k < O.length) = false := decide_eq_false hkl
          have HI := Lib.hid (show Ls.ins x O = O.take k ++ x :: O.drop k from Ls.ins_at x O k hk HNO.out (fun h => absurd h hkl))
          go_upto_region 6 with (fail)
          go_quiet (fail)
          have hbE : Below wo.heap.size wo (wr.drewN nq) := below_drewN hb nq
          clear hb
          generalize wr.drewN nq = wE at *
          have hbwE := HBO.out.trans (hbE.mono hwo)
          have hEs : w.heap.size ≤ wE.heap.size := hbwE.size
          have hg3E : g3 < wE.heap.size := by have := hbE.size; omega
          have s1 : (k : Int) ≤ (c3 : Int) := by omega
          have s2 : (0 : Int) ≤ (k : Int) := by omega
          have s3 : (k : Int) ≤ (O.length : Int) := by omega
          have HTK := Lib.hid (show ∀ j u, (Ls.lnsV (O.take k))[j]? = some u → wE.cell? ⟨g3, j, none⟩ = some u from fun j u hj => by
            have hjl : j < k * 2 := by have := (List.getElem?_eq_some_iff.1 hj).1; rwa [Ls.lnsV_len, List.length_take, Nat.min_eq_left hk] at this
            rw [Ls.lnsV_take O k hk, List.getElem?_take_of_lt hjl] at hj
            exact (hbE.cell (p := ⟨g3, j, none⟩) hg3).trans (HCE.out j (by omega) u hj))
          have HDK := Lib.hid (show ∀ j u, (Ls.lnsV (O.drop k))[j]? = some u → wE.cell? ⟨g3, k * 2 + j, none⟩ = some u from fun j u hj => by
            rw [Ls.lnsV_drop O k hk, List.getElem?_drop] at hj
            have hjl : k * 2 + j < O.length * 2 := by have := (List.getElem?_eq_some_iff.1 hj).1; rwa [Ls.lnsV_len] at this
            exact (hbE.cell (p := ⟨g3, k * 2 + j, none⟩) hg3).trans (HCE.out _ hjl u hj))
          have HTL := Lib.hid (show (O.take k).length = k by rw [List.length_take, Nat.min_eq_left hk])
          have HDL := Lib.hid (show (O.drop k).length = O.length - k from List.length_drop ..)
          generalize O.take k = T1 at *
          generalize O.drop k = T2 at *
          have hE8 := own_emptyL wE wE.heap.size (Nat.le_refl _) 25 2
          have hbX8 : Below wE.heap.size wE (wE.alloc (.cells #[] 25)) := (Below.refl _ _).alloc (Nat.le_refl _) _
          go_upto_region 9 with (at_builtin; refine wpList_append_own_wide _ (by rfl) _ _ 29 (by rfl) wE.heap.size 25 iln _ 2 24 Tryd.underlying29 hiln hz0 hz1 hz2 rfl (by omega) (.slice (some ⟨wE.heap.size, 0, none⟩) 0 0) 0 [] (by rfl) hE8 ⟨g3, 0, none⟩ k c3 (Ls.lnsV T1) (by rfl) (by rw [Ls.lnsV_len, HTL.out]) (fun j u hj => by rw [addr_addS, Nat.zero_add]; exact (hbX8.cell (p := ⟨g3, j, none⟩) hg3E).trans (HTK.out j u hj)) (Ls.lnsV_ones _) (by unfold maxLen; omega) (by omega) (by first | omega | (simp; done) | (simp; omega)) ?_; intro v8 w8 hown8 hgrow8 hnil8)
          have hb8 : Below wE.heap.size wE w8 := below_grown hbX8 hbX8.size hE8 hgrow8
          rw [Nat.zero_add, List.nil_append] at hown8
          have hq8 := hb8.size
          obtain ⟨g8, c8, rfl⟩ := row_some hown8 (by rw [ne_eq, hnil8]; simp)
          have d0 := (HKX.out w8 (hbwE.trans (hb8.mono hEs))).1
          have d1 := (HKX.out w8 (hbwE.trans (hb8.mono hEs))).2
          have hbX9 : Below wE.heap.size wE (w8.alloc (.cells #[.string (str x.1), .int .i64 x.2] 25)) := hb8.alloc hb8.size _
          clear hgrow8 hnil8 hE8 hbX8
          go_upto_region 10 with (at_builtin; refine wpList_append_own_wide _ (by rfl) _ _ 29 (by rfl) wE.heap.size 25 iln _ 2 24 Tryd.underlying29 hiln hz0 hz1 hz2 rfl (by omega) (.slice (some ⟨g8, 0, none⟩) k c8) k (Ls.lnsV T1) (by rfl) (hown8.alloc _) ⟨w8.heap.size, 0, none⟩ 1 1 [_, _] (by rfl) (by rfl) (World.news_of_block (cs := #[_, _]) (t := 25) (fr := (0, 0)) (heap_alloc_new w8 _)) (by simp [Value.oneCell']) (by unfold maxLen; omega) (by omega) (by first | omega | (simp; done) | (simp; omega)) ?_; intro v9 w9 hown9 hgrow9 hnil9)
          have hb9 : Below wE.heap.size wE w9 := below_grown hbX9 hbX9.size (hown8.alloc _) hgrow9
          have hq9 := hb9.size
          obtain ⟨g9, c9, rfl⟩ := row_some hown9 (by rw [ne_eq, hnil9]; simp)
          clear hgrow9 hnil9 d0 d1 hbX9 hown8 hb8
          by_cases hcap : c3 = k
          · have hz : O.length - k = 0 := by omega
            have s4 : (c3 : Int) = (k : Int) := by omega
            have hT2 : T2 = [] := List.length_eq_zero_iff.1 (by rw [HDL.out]; exact hz)
            have HZ := Lib.hid hz
            go_wp2_with (at_builtin; refine wpList_append_own_wide _ (by rfl) _ _ 29 (by rfl) wE.heap.size 25 iln _ 2 24 Tryd.underlying29 hiln hz0 hz1 hz2 rfl (by omega) (.slice (some ⟨g9, 0, none⟩) (k + 1) c9) (k + 1) _ (by rfl) hown9 ⟨g3, 0, none⟩ 0 _ [] (by rfl) (by rfl) (fun j u hj => by simp at hj) (by simp) (by unfold maxLen; omega) (by omega) (by first | omega | (simp; done) | (simp; omega)) ?_; intro v10 w10 hown10 hgrow10 hnil10)
            have hb10 : Below wE.heap.size wE w10 := below_grown hb9 hb9.size hown9 hgrow10
            obtain ⟨g10, c10, rfl⟩ := row_some hown10 (by rw [ne_eq, hnil10]; simp)
            rw [Nat.add_zero, List.append_nil] at hown10
            have HO := Lib.hid hown10
            have H6 := Lib.hid (hbwE.trans (hb10.mono hEs))
            have HLN := Lib.hid (show (Ls.srt (L.take (i + 1))).length = k + 1 by rw [HST2.out, HI.out, List.length_append, List.length_cons, HTL.out, HDL.out, HZ.out])
            have HEQ := Lib.hid (show Ls.lnsV (Ls.srt (L.take (i + 1))) = Ls.lnsV T1 ++ [.string (str x.1), .int .i64 x.2] by rw [HST2.out, HI.out, hT2, Ls.lnsV_app]; rfl)
            clear hown10 hb10 hgrow10 hnil10 hown9 hb9
            go_roundw
            case rel => exact ⟨i + 1, g10, c10, by go_num, by omega, by rw [HLN.out], by unfold RowL; rw [HLN.out, HEQ.out]; exact own_mono HO.out hEs, H6.out⟩
            case measure => simp [intOf]; omega
          · have s4 : ¬ c3 = k := hcap
            go_wp2_with (at_builtin; refine wpList_append_own_wide _ (by rfl) _ _ 29 (by rfl) wE.heap.size 25 iln _ 2 24 Tryd.underlying29 hiln hz0 hz1 hz2 rfl (by omega) (.slice (some ⟨g9, 0, none⟩) (k + 1) c9) (k + 1) _ (by rfl) hown9 ⟨g3, k * 2, none⟩ (O.length - k) _ (Ls.lnsV T2) (by rfl) (by rw [Ls.lnsV_len, HDL.out]) (fun j u hj => by rw [addr_addS]; exact (hb9.cell (p := ⟨g3, k * 2 + j, none⟩) hg3E).trans (HDK.out j u hj)) (Ls.lnsV_ones _) (by unfold maxLen; omega) (by omega) (by first | omega | (simp; done) | (simp; omega)) ?_; intro v10 w10 hown10 hgrow10 hnil10)
            have hb10 : Below wE.heap.size wE w10 := below_grown hb9 hb9.size hown9 hgrow10
            obtain ⟨g10, c10, rfl⟩ := row_some hown10 (by rw [ne_eq, hnil10]; simp)
            have HO := Lib.hid hown10
            have H6 := Lib.hid (hbwE.trans (hb10.mono hEs))
            have HLN := Lib.hid (show (Ls.srt (L.take (i + 1))).length = k + 1 + (O.length - k) by rw [HST2.out, HI.out, List.length_append, List.length_cons, HTL.out, HDL.out]; omega)
            have HEQ := Lib.hid (show Ls.lnsV (Ls.srt (L.take (i + 1))) = Ls.lnsV T1 ++ [.string (str x.1), .int .i64 x.2] ++ Ls.lnsV T2 by rw [HST2.out, HI.out, Ls.lnsV_app, List.append_assoc]; rfl)
            clear hown10 hb10 hgrow10 hnil10 hown9 hb9
            go_roundw
            case rel => exact ⟨i + 1, g10, c10, by go_num, by omega, by rw [HLN.out], by unfold RowL; rw [HLN.out, HEQ.out]; exact own_mono HO.out hEs, H6.out⟩
            case measure => simp [intOf]; omega
    · have b1 : decide ((i : Int) < (L.length : Int)) = false := decide_eq_false (by omega)
      have b1n : decide (i < L.length) = false := decide_eq_false hlt
      have HO := Lib.hid (show RowL wo w.heap.size g3 c3 (Ls.srt L) by rw [List.take_of_length_le (show L.length ≤ i by omega)] at hown; exact hown)
      have HLE := Lib.hid (show Ls.srt (L.take i) = Ls.srt L by rw [List.take_of_length_le (show L.length ≤ i by omega)])
      have HB := Lib.hid hb
      clear hown hb
      go_wp2_with fail
      first | go_ret2 | go_ret
      exact ⟨_, rfl, by rw [HLE.out]; exact HO.out, HB.out⟩
end Go.Proofs.YtlablbibdkcifaaDoor
