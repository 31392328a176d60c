/- Valid of the program. Condition: bytealg's MaxLen lies in its variable. -/
import Derived.Test.YtlablbibdkcifaaGreatDoorCho
import Derived.Test.YtlablbibdkcifaaGreatDoorVpl
import Derived.Deep.RegionHeld3
namespace Go.Proofs.YtlablbibdkcifaaGreatDoor
open Go.RowKit Go.Deep Tr

set_option maxHeartbeats 16000000 in
set_option maxRecDepth 100000 in
theorem valid_any (l : List Ls.Sp) (A : Option Addr) (c : Nat) (w : World) (hA : Ls.SpAt w w.heap.size A l) (hl : l.length ≤ 1000000) (hp : ∀ s ∈ l, s.path.length ≤ 1000000) (hM : MaxAt w) :
    Calls Tryz.prog 21 #[.slice A l.length c] w fun e w' => e = .returned (.bool (Ls.vld l)) ∧ Below w.heap.size w w' := by
  have HV := Lib.hid (show Ls.vld l = Ls.vldB (Ls.prv l 0) (l.drop 0) from rfl)
  generalize Ls.vld l = V at *
  have HAA := Lib.hid hA
  have HPP := Lib.hid hp
  have HMM := Lib.hid hM
  clear hA hp hM
  go_enter Tryz.func21, Tryz.ntmps21
  go_wp2_with fail
  go_loopw [7] (fun s7 wr => ∃ k : Nat, s7 = .int .i64 k ∧ k ≤ l.length ∧ V = Ls.vldB (Ls.prv l k) (l.drop k) ∧ Below w.heap.size w wr) (fun s7 _ => l.length - (intOf s7).toNat)
  case atStart => exact ⟨0, rfl, by omega, HV.out, Below.refl _ _⟩
  case round =>
    clear HV
    obtain ⟨k, rfl, hk, hR, hb⟩ := hrel
    by_cases hlt : k < l.length
    · have b1 : decide ((k : Int) < (l.length : Int)) = true := decide_eq_true (by omega)
      have b1n : decide (k < l.length) = true := decide_eq_true hlt
      obtain ⟨g, o, rfl, hg, hrow⟩ := HAA.out.row (by omega)
      have hc := hrow k hlt
      rw [Ls.vldB_at l k _ hlt, Ls.behind_eq, ← Ls.prv_succ l k hlt] at hR
      have HPV := Lib.hid (show (k = 0 ∧ Ls.prv l k = none) ∨ (0 < k ∧ ∃ b, Ls.prv l k = some b ∧ ∀ i u, (Ls.spV b)[i]? = some u → w.cell? ⟨g, o + (k - 1) * 3 + i, none⟩ = some u) by
        by_cases h0 : k = 0
        · exact .inl ⟨h0, if_pos h0⟩
        · exact .inr ⟨by omega, l[k - 1], (if_neg h0).trans (List.getElem?_eq_getElem (by omega)), hrow (k - 1) (by omega)⟩)
      have HR := Lib.hid hR
      have hsp := HPP.out l[k] (List.getElem_mem hlt)
      have hd0 := (hb.cell (p := ⟨g, o + k * 3, none⟩) hg).trans (hc 0 _ rfl)
      have hd1 := (hb.cell (p := ⟨g, o + k * 3 + 1, none⟩) hg).trans (hc 1 _ rfl)
      have hd2 := (hb.cell (p := ⟨g, o + k * 3 + 2, none⟩) hg).trans (hc 2 _ rfl)
      clear hrow hc hR
      generalize Ls.prv l k = pv at *
      generalize l[k] = s at *
      have hN := heap_alloc_new wr (.cells #[.string (str s.path), .int .i64 s.lo, .int .i64 s.hi] 32)
      have hbX : Below w.heap.size w (wr.alloc (.cells #[.string (str s.path), .int .i64 s.lo, .int .i64 s.hi] 32)) := hb.alloc hb.size _
      have hqr : w.heap.size ≤ wr.heap.size := hb.size
      go_upto_region 4 with (fail)
      clear hd0 hd1 hd2
      generalize wr.alloc (.cells #[.string (str s.path), .int .i64 s.lo, .int .i64 s.hi] 32) = X at *
      generalize wr.heap.size = q at *
      have HN := Lib.hid hN
      go_cut [7, 24] from 7 to 49 (fun s7 s24 wx => s7 = .int .i64 (k : Int) ∧ s24 = .bool (Ls.need pv s) ∧ Below X.heap.size X wx)
      case first =>
        have e0 : X.cell? ⟨q, 0, none⟩ = some (.string (str s.path)) := by rw [cell_of_row _ _ _ _ _ _ hN]; rfl
        rcases HPV.out with ⟨h0, rfl⟩ | ⟨h0, b, rfl, hcb⟩
        · have z1 : ((k : Int) == 0) = true := by rw [h0]; rfl
          have z1n : (k == 0) = true := by rw [h0]; rfl
          clear h0 hN
          go_quiet (fail)
          go_wp2_with fail
          go_meet
          exact ⟨rfl, rfl, below_drewN' nq⟩
        · have z1 : ((k : Int) == 0) = false := by rw [beq_eq_false_iff_ne]; omega
          have z1n : (k == 0) = false := by rw [beq_eq_false_iff_ne]; omega
          have x0 := (hbX.cell (p := ⟨g, o + (k - 1) * 3, none⟩) hg).trans (hcb 0 _ rfl)
          have y1 : (0 : Int) ≤ (k : Int) - 1 := by omega
          have y2 : (k : Int) - 1 < (l.length : Int) := by omega
          have yt : ((k : Int) - 1).toNat = k - 1 := by omega
          have yw : IntKind.i64.wrap ((k : Int) - 1) = (k : Int) - 1 := IntWalk.i64_in _ (by omega)
          have HND := Lib.hid (show Ls.need (some b) s = !decide (b.path = s.path) from rfl)
          generalize Ls.need (some b) s = nd at *
          by_cases hpq : b.path = s.path
          · have q1 : ((str b.path).toList == (str s.path).toList) = true := by rw [hpq]; simp
            have q2 : ((str b.path).toList != (str s.path).toList) = false := by rw [hpq]; simp
            have HT := Lib.hid (show nd = false by rw [HND.out, decide_eq_true hpq]; rfl)
            clear hN hcb hpq HND
            go_quiet (fail)
            go_wp2_with fail
            go_meet
            exact ⟨rfl, by rw [HT.out], below_drewN' nq⟩
          · have q1 : ((str b.path).toList == (str s.path).toList) = false := by rw [beq_eq_false_iff_ne, strL, strL]; exact hpq
            have q2 : ((str b.path).toList != (str s.path).toList) = true := by rw [bne_iff_ne, strL, strL]; exact hpq
            have HT := Lib.hid (show nd = true by rw [HND.out, decide_eq_false hpq]; rfl)
            clear hN hcb hpq HND
            go_quiet (fail)
            go_wp2_with fail
            go_meet
            exact ⟨rfl, by rw [HT.out], below_drewN' nq⟩
      case rest =>
      obtain ⟨rfl, rfl, hbx⟩ := hcut
      have hbw := hbX.trans (hbx.mono hbX.size)
      have hNw := (hbx.block _ (blk_lt hN)).trans hN
      clear hbX hbx hN HN hb
      generalize Ls.need pv s = nd at *
      have HNW := Lib.hid hNw
      have hqw := blk_lt hNw
      go_upto_if 24 with (fail)
      go_cut [7] from 7 to 49 (fun s7 wx => s7 = .int .i64 (k : Int) ∧ (!nd || Tre.pathOk s.path) = true ∧ Below wc.heap.size wc wx)
      case first =>
        have e0 : wc.cell? ⟨q, 0, none⟩ = some (.string (str s.path)) := by rw [cell_of_row _ _ _ _ _ _ hNw]; rfl
        clear hNw
        cases nd with
        | false =>
          go_wp2_with fail
          go_meet
          exact ⟨rfl, rfl, Below.refl _ _⟩
        | true =>
          have hpath := path_any (str s.path) wc (by rw [str_size]; omega) (HMM.out.below hbw)
          rw [show Tre.path (str s.path).data.toList = (if Tre.pathOk s.path = true then 0 else 2 : Int) from rfl] at hpath
          go_wp2_with fail
          with_reducible refine hpath.mono ?_
          clear hpath
          rintro e w3 ⟨rfl, hb3⟩
          by_cases hok : Tre.pathOk s.path = true
          · have HB := Lib.hid hb3
            rw [if_pos hok]
            go_wp2_with fail
            go_meet
            exact ⟨rfl, hok, HB.out⟩
          · have HT := Lib.hid (show V = false by rw [HR.out]; simp [hok])
            have HB := Lib.hid (hbw.trans (hb3.mono hbw.size))
            rw [if_neg hok]
            clear hb3 hok
            go_wp2_with fail
            first | go_ret3 | go_ret2 | go_ret
            exact ⟨by rw [HT.out]; rfl, HB.out⟩
      case rest =>
      obtain ⟨rfl, hok, hbx⟩ := hcut
      have hbW := hbw.trans (hbx.mono hbw.size)
      have hNd := (hbx.block _ hqw).trans hNw
      have HR2 := Lib.hid (show V = ((Ls.isSp s.lo s.hi && Ls.fl pv s) && Ls.vldB (Ls.prv l (k + 1)) (l.drop (k + 1))) by rw [HR.out, hok]; rfl)
      clear hbx hbw hNw HNW hqw HR hok hsp
      go_upto_region 7 with (fail)
      have HND := Lib.hid hNd
      have hqd := blk_lt hNd
      have hgd : g < wc.heap.size := by have := hbW.size; omega
      go_cut [7, 48] from 7 to 49 (fun s7 s48 wx => s7 = .int .i64 (k : Int) ∧ s48 = .bool (!(Ls.isSp s.lo s.hi && Ls.fl pv s)) ∧ Below wc.heap.size wc wx)
      case first =>
        have e0 : wc.cell? ⟨q, 0, none⟩ = some (.string (str s.path)) := by rw [cell_of_row _ _ _ _ _ _ hNd]; rfl
        have e1 : wc.cell? ⟨q, 1, none⟩ = some (.int .i64 s.lo) := by rw [cell_of_row _ _ _ _ _ _ hNd]; rfl
        have e2 : wc.cell? ⟨q, 2, none⟩ = some (.int .i64 s.hi) := by rw [cell_of_row _ _ _ _ _ _ hNd]; rfl
        have hsp := fun w => isSpan_any s.lo s.hi w
        have hsq : ∀ w, Calls Tryz.prog 48 #[.int .i64 s.lo, .int .i64 s.hi] w fun e w' => e = .returned (.bool (Ls.isSp s.lo s.hi)) ∧ w' = w := fun w => (isSpan_any s.lo s.hi w).mono fun e w' h => ⟨h.1, h.2.symm⟩
        have HFL := Lib.hid (show ∀ b, Ls.fl (some b) s = Ls.fol s b from fun _ => rfl)
        have HF0 := Lib.hid (show Ls.fl none s = true from rfl)
        cases his : Ls.isSp s.lo s.hi with
        | false =>
          rw [his] at hsp hsq
          have HIS := Lib.hid his
          clear his
          clear HND hNd
          go_quiet ((go_at_call 48; exact Calls.quiet_of_same (hsq _)))
          go_wp2_with fail
          go_meet
          exact ⟨rfl, by rw [HIS.out]; rfl, below_drewN' nq⟩
        | true =>
          rw [his] at hsp hsq
          have HIS := Lib.hid his
          clear his
          rcases HPV.out with ⟨h0, rfl⟩ | ⟨h0, b, rfl, hcb⟩
          · have z1 : decide ((0 : Int) < (k : Int)) = false := decide_eq_false (by omega)
            have z1n : decide (0 < k) = false := decide_eq_false (by omega)
            clear HND hNd h0
            go_quiet ((go_at_call 48; exact Calls.quiet_of_same (hsq _)))
            go_wp2_with fail
            go_meet
            exact ⟨rfl, by rw [HF0.out, HIS.out]; rfl, below_drewN' nq⟩
          · have z1 : decide ((0 : Int) < (k : Int)) = true := decide_eq_true (by omega)
            have z1n : decide (0 < k) = true := decide_eq_true h0
            obtain ⟨j, hj⟩ : ∃ j, k - 1 = j := ⟨_, rfl⟩
            rw [hj] at hcb
            have x0 := (hbW.cell (p := ⟨g, o + j * 3, none⟩) hg).trans (hcb 0 _ rfl)
            have x1 := (hbW.cell (p := ⟨g, o + j * 3 + 1, none⟩) hg).trans (hcb 1 _ rfl)
            have x2 := (hbW.cell (p := ⟨g, o + j * 3 + 2, none⟩) hg).trans (hcb 2 _ rfl)
            have hkj : (k : Int) - 1 = (j : Int) := by omega
            have y1 : (0 : Int) ≤ (j : Int) := by omega
            have y2 : (j : Int) < (l.length : Int) := by omega
            have yw : IntKind.i64.wrap (j : Int) = (j : Int) := IntWalk.i64_in _ (by omega)
            clear hj
            have hfo := fun w => follows_any s b w
            rw [spA_def, spA_def] at hfo
            have HFO := Lib.hid (HFL.out b)
            generalize Ls.fol s b = fo at *
            clear HND hNd hcb HFL HF0 h0
            go_region_held3 (fun w' => w'.cell? ⟨q, 0, none⟩ = some (.string (str s.path)) ∧ w'.cell? ⟨q, 1, none⟩ = some (.int .i64 s.lo) ∧ w'.cell? ⟨q, 2, none⟩ = some (.int .i64 s.hi) ∧ w'.cell? ⟨g, o + j * 3, none⟩ = some (.string (str b.path)) ∧ w'.cell? ⟨g, o + j * 3 + 1, none⟩ = some (.int .i64 b.lo) ∧ w'.cell? ⟨g, o + j * 3 + 2, none⟩ = some (.int .i64 b.hi)) (first | exact ⟨e0, e1, e2, x0, x1, x2⟩ | exact ⟨(hb5.cell (p := ⟨q, 0, none⟩) hqd).trans e0, (hb5.cell (p := ⟨q, 1, none⟩) hqd).trans e1, (hb5.cell (p := ⟨q, 2, none⟩) hqd).trans e2, (hb5.cell (p := ⟨g, o + j * 3, none⟩) hgd).trans x0, (hb5.cell (p := ⟨g, o + j * 3 + 1, none⟩) hgd).trans x1, (hb5.cell (p := ⟨g, o + j * 3 + 2, none⟩) hgd).trans x2⟩) (first | (go_at_call 48; (with_reducible refine (hsp _).mono ?_); rintro e w5 ⟨rfl, rfl⟩) | (go_at_call 44; (with_reducible refine (hfo _).mono ?_); rintro e w5 ⟨rfl, hb5⟩))
            all_goals
              go_wp2_with fail
              go_meet
              exact ⟨rfl, by rw [HFO.out, HIS.out]; cases fo <;> rfl, ((Below.refl wc.heap.size wc).drew).trans hb5⟩
      case rest =>
      obtain ⟨rfl, rfl, hbx⟩ := hcut
      have HB := Lib.hid (hbW.trans (hbx.mono hbW.size))
      clear hbx hbW hNd HND hqd hgd
      cases hbad : (Ls.isSp s.lo s.hi && Ls.fl pv s) with
      | false =>
        have HT := Lib.hid (show V = false by rw [HR2.out, hbad]; rfl)
        clear hbad HR2
        go_wp2_with fail
        first | go_ret3 | go_ret2 | go_ret
        exact ⟨by rw [HT.out]; rfl, HB.out⟩
      | true =>
        have HT := Lib.hid (show V = Ls.vldB (Ls.prv l (k + 1)) (l.drop (k + 1)) by rw [HR2.out, hbad]; rfl)
        clear hbad HR2
        go_wp2_with fail
        go_roundw
        case rel => exact ⟨k + 1, by go_num, by omega, HT.out, HB.out⟩
        case measure => simp [intOf]; omega
    · have b1 : decide ((k : Int) < (l.length : Int)) = false := decide_eq_false (by omega)
      have b1n : decide (k < l.length) = false := decide_eq_false hlt
      have HT := Lib.hid (show V = true by rw [hR, List.drop_eq_nil_of_le (by omega)]; rfl)
      have HB := Lib.hid hb
      clear hR hb
      go_wp2_with fail
      go_ret
      exact ⟨by rw [HT.out]; rfl, HB.out⟩
end Go.Proofs.YtlablbibdkcifaaGreatDoor
