/- Check of a tree. Condition: bytealg's MaxLen lies in its variable. -/
import Derived.Test.YtinkpbobkeppiaaGreatDoorIdx
import Derived.WalkSmall
import Derived.BigQuiet
import Derived.Deep.QuietTactic
import Derived.Deep.RegionWith
namespace Go.Proofs.YtinkpbobkeppiaaGreatDoor
open Go.RowKit

def FlsLen (ts : List Tre.Fl) : Prop := ∀ f ∈ ts, f.path.length ≤ 1000000000 ∧ f.data.length ≤ 1000000000
/-- Whether a path does not come behind that of the last file. -/
def ordB (ts : List Tre.Fl) (k : Nat) (p : List UInt8) : Bool := (ts.take k).getLast?.any fun g => Op.bytesLess p g.path || p == g.path
theorem ordB_zero (ts : List Tre.Fl) (p : List UInt8) : ordB ts 0 p = false := by simp [ordB]
theorem ordB_succ (ts : List Tre.Fl) (j : Nat) (p : List UInt8) (h : j < ts.length) : ordB ts (j + 1) p = (Op.bytesLess p ts[j].path || p == ts[j].path) := by
  unfold ordB
  rw [List.take_succ_eq_append_getElem h, List.getLast?_append]
  simp
theorem chk_step (ts : List Tre.Fl) (k : Nat) (h : k < ts.length) : Tre.checkAt (ts.take k) (ts.drop k) = if Tre.pathOk ts[k].path = false then 2 else if 65536 < ts[k].data.length then 10 else if ordB ts k ts[k].path = true then 5 else if ((ts.take k).any fun g => Tre.below ts[k].path g.path) = true then 6 else Tre.checkAt (ts.take (k + 1)) (ts.drop (k + 1)) := by
  rw [list_drop ts k h, Tre.checkAt_cons, List.take_succ_eq_append_getElem h]
  rfl
theorem path_val (s : List UInt8) : Tre.path s = if Tre.pathOk s = true then 0 else 2 := rfl
theorem FlsAt.take {w : World} {B : Nat} {A : Option Addr} {ts : List Tre.Fl} (h : FlsAt w B A ts) (k : Nat) : FlsAt w B A (ts.take k) := fun i hi => by
  have hi2 : i < ts.length := by rw [List.length_take] at hi; omega
  obtain ⟨g, o, e, hg, hc, hd⟩ := h i hi2
  exact ⟨g, o, e, hg, by rw [hc]; simp, by rw [hd]; simp⟩
theorem check_def (ts : List Tre.Fl) : Tre.check ts = if 64 < ts.length then 10 else Tre.checkAt [] ts := rfl
set_option maxHeartbeats 8000000 in
set_option maxRecDepth 100000 in
theorem check_any (A : Option Addr) (c : Nat) (ts : List Tre.Fl) (w : World) (hA : FlsAt w w.heap.size A ts) (hl : ts.length ≤ 1000000000) (hL : FlsLen ts) (hM : MaxAt w) (hcap : ts.length ≤ c) (_hcap2 : c ≤ maxLen) :
    Calls Tryz.prog 15 #[.slice A ts.length c] w fun x w' => x = .returned (.int .i64 (Tre.check ts)) ∧ Below w.heap.size w w' := by
  have HV := Lib.hid (check_def ts)
  generalize Tre.check ts = v at *
  by_cases h64 : 64 < ts.length
  · have b0 : decide ((64 : Int) < ts.length) = true := by simp; omega
    have b0n : decide (64 < ts.length) = true := by simp; omega
    have HT := Lib.hid (show v = 10 by rw [HV.out, if_pos h64])
    clear HV h64
    go_enter Tryz.func15, Tryz.ntmps15
    go_wp2_with fail
    go_ret
    exact ⟨ret_int HT.out.symm, Below.refl _ _⟩
  have b0 : decide ((64 : Int) < ts.length) = false := by simp; omega
  have b0n : decide (64 < ts.length) = false := by simp; omega
  have HR := Lib.hid (show v = Tre.checkAt (ts.take 0) (ts.drop 0) by rw [HV.out, if_neg h64]; rfl)
  have hl64 : ts.length ≤ 64 := by omega
  clear HV h64
  go_enter Tryz.func15, Tryz.ntmps15
  go_wp2_with fail
  go_loopw [10] (fun i wr => ∃ k : Nat, k ≤ ts.length ∧ i = .int .i64 k ∧ v = Tre.checkAt (ts.take k) (ts.drop k) ∧ Below w.heap.size w wr) (fun i _ => ts.length - (intOf i).toNat)
  case atStart => exact ⟨0, by omega, rfl, HR.out, Below.refl _ _⟩
  case round =>
    clear HR
    obtain ⟨k, hk, rfl, hv, hb⟩ := hrel
    have HVV := Lib.hid hv
    clear hv
    by_cases hlt : k < ts.length
    · have b1 : decide ((k : Int) < ts.length) = true := by simp; omega
      have b1n : decide (k < ts.length) = true := by simp; omega
      obtain ⟨g, o, hAe, hg, hc0, hc1⟩ := hA k hlt
      subst hAe
      have hd0 := (hb.cell (p := ⟨g, o + k * 2, none⟩) hg).trans hc0
      have hd1 := (hb.cell (p := ⟨g, o + k * 2 + 1, none⟩) hg).trans hc1
      have HS := Lib.hid (HVV.out.trans (chk_step ts k hlt))
      obtain ⟨hl0, hl1⟩ := hL ts[k] (List.getElem_mem hlt)
      have HF := Lib.hid (show ts[k] = ts[k] from rfl)
      clear hc0 hc1 HVV
      generalize hfk : ts[k] = f at *
      clear HF
      have HFK := Lib.hid hfk
      clear hfk
      have hbw : Below w.heap.size w (wr.alloc (.cells #[.string (str f.path), .string (str f.data)] 31)) := hb.alloc hb.size _
      have hcall := path_any (str f.path) _ (by rw [str_size]; exact hl0) (hM.below hbw)
      rw [str_data, path_val] at hcall
      have e0 : (wr.alloc (.cells #[.string (str f.path), .string (str f.data)] 31)).cell? ⟨wr.heap.size, 0, none⟩ = some (.string (str f.path)) := by rw [cell_of_row _ _ _ _ _ _ (heap_alloc_new wr _)]; rfl
      have e1 : (wr.alloc (.cells #[.string (str f.path), .string (str f.data)] 31)).cell? ⟨wr.heap.size, 1, none⟩ = some (.string (str f.data)) := by rw [cell_of_row _ _ _ _ _ _ (heap_alloc_new wr _)]; rfl
      cases hpo : Tre.pathOk f.path with
      | false =>
        rw [hpo] at hcall
        have HT := Lib.hid (show v = 2 by rw [HS.out, if_pos hpo])
        clear HS hpo e0 e1
        go_wp2_with fail
        with_reducible refine hcall.mono ?_
        clear hcall
        rintro e w2 ⟨rfl, hb2⟩
        replace hbw := hbw.trans (hb2.mono hbw.size)
        clear hb2
        go_wp2_with fail
        go_ret
        exact ⟨ret_int HT.out.symm, hbw⟩
      | true =>
        rw [hpo] at hcall
        have HS1 := Lib.hid (HS.out.trans (if_neg (by rw [hpo]; decide)))
        clear HS hpo
        go_wp2_with fail
        with_reducible refine hcall.mono ?_
        clear hcall
        rintro e w2 ⟨rfl, hb2⟩
        have f0 := (hb2.cell (p := ⟨wr.heap.size, 0, none⟩) (by simp)).trans e0
        have f1 := (hb2.cell (p := ⟨wr.heap.size, 1, none⟩) (by simp)).trans e1
        have hwl : wr.heap.size < w2.heap.size := by have := hb2.size; simp at this; omega
        have hbn : Below w.heap.size w w2 := hbw.trans (hb2.mono hbw.size)
        clear hb2 e0 e1 hbw hd0 hd1
        have hpb : w.heap.size ≤ wr.heap.size := hb.size
        clear hb
        generalize wr.heap.size = b at *
        by_cases hbig : 65536 < f.data.length
        · have b2 : decide ((65536 : Int) < ((str f.data).size : Int)) = true := by rw [str_size]; simp; omega
          have b2n : decide (65536 < (str f.data).size) = true := by rw [str_size]; simp; omega
          have HT := Lib.hid (show v = 10 by rw [HS1.out, if_pos hbig])
          clear HS1 hbig
          go_wp2_with fail
          go_ret
          exact ⟨ret_int HT.out.symm, hbn⟩
        have b2 : decide ((65536 : Int) < ((str f.data).size : Int)) = false := by rw [str_size]; simp; omega
        have b2n : decide (65536 < (str f.data).size) = false := by rw [str_size]; simp; omega
        have HS2 := Lib.hid (HS1.out.trans (if_neg hbig))
        clear HS1 hbig
        rcases Nat.eq_zero_or_pos k with hk0 | hk0
        · subst hk0
          have HS3 := Lib.hid (HS2.out.trans (if_neg (by rw [ordB_zero]; decide)))
          clear HS2
          go_upto_region 10 with (fail)
          go_quiet (fail)
          have hq : Below w2.heap.size w2 (w2.drewN nq) := below_drewN (Below.refl _ _) nq
          have g0 := (hq.cell (p := ⟨b, 0, none⟩) hwl).trans f0
          have hbn3 := hbn.trans (hq.mono hbn.size)
          clear hq f0 f1 hwl hbn
          generalize w2.drewN nq = w3 at *
          have hcall := belowSome_any (some ⟨g, o, none⟩) c (ts.take (0)) (str f.path) w3.drew ((hA.next (hbn3.trans ((Below.refl _ _).drew.mono hbn3.size))).take (0)) (by rw [List.length_take]; omega)
          rw [str_data, show (ts.take (0)).length = 0 by rw [List.length_take]; omega] at hcall
          cases hsm : (ts.take (0)).any fun g => Tre.below f.path g.path with
          | true =>
            rw [hsm] at hcall
            have HT := Lib.hid (show v = 6 by rw [HS3.out, if_pos hsm])
            clear HS3 hsm
            go_wp2_with fail
            go_region_with (go_at_call 49; (with_reducible refine hcall.mono ?_); rintro e w4 ⟨rfl, hb4⟩)
            have hbn4 := hbn3.trans ((Below.refl _ _).drew.trans (hb4.mono (Nat.le_refl _)) |>.mono hbn3.size)
            clear hcall hb4 hbn3
            go_wp2_with fail
            go_ret
            exact ⟨ret_int HT.out.symm, hbn4⟩
          | false =>
            rw [hsm] at hcall
            have HT := Lib.hid (HS3.out.trans (if_neg (by rw [hsm]; decide)))
            clear HS3 hsm
            go_wp2_with fail
            go_region_with (go_at_call 49; (with_reducible refine hcall.mono ?_); rintro e w4 ⟨rfl, hb4⟩)
            have hbn4 := hbn3.trans ((Below.refl _ _).drew.trans (hb4.mono (Nat.le_refl _)) |>.mono hbn3.size)
            clear hcall hb4 hbn3
            go_wp2_with fail
            go_roundw
            case rel => exact ⟨0 + 1, by omega, by go_num, HT.out, hbn4⟩
            case measure => simp [intOf]; omega

        · obtain ⟨j, rfl⟩ : ∃ j, k = j + 1 := ⟨k - 1, by omega⟩
          have hj : j < ts.length := by omega
          obtain ⟨g', o', hAe, hg', hc0', hc1'⟩ := hA j hj
          injection hAe with hAe
          injection hAe with e1 e2
          subst e1 e2
          have hp0 := (hbn.cell (p := ⟨g, o + j * 2, none⟩) hg).trans hc0'
          have hp1 := (hbn.cell (p := ⟨g, o + j * 2 + 1, none⟩) hg).trans hc1'
          have HO := Lib.hid (ordB_succ ts j f.path hj)
          clear hc0' hc1' hg'
          have hji : (j : Int) < (ts.length : Int) := by omega
          have hj1 : (j : Int) + 1 < (ts.length : Int) := by omega
          have hj2 : (j : Int) + 1 ≤ (c : Int) := by omega
          have hj3 : 0 ≤ (j : Int) + 1 := by omega
          generalize hgj : ts[j] = g0f at *
          have HG := Lib.hid hgj
          clear hgj
          cases hbl : Op.bytesLess f.path g0f.path with
          | true =>
            cases hbe : f.path == g0f.path with
            | true =>
              have o1 : Op.bytesLess (str f.path).toList (str g0f.path).toList = true := by rw [str_list, str_list]; exact hbl
              have o2 : ((str f.path).toList == (str g0f.path).toList) = true := by rw [str_list, str_list]; exact hbe
              have HT := Lib.hid (show v = 5 by rw [HS2.out, if_pos (by rw [HO.out, hbl, hbe]; rfl)])
              clear HS2 HO hbl hbe
              go_upto_region 10 with (fail)
              go_quiet (fail)
              have hbn3 := below_drewN hbn nq
              clear f0 f1 hwl hbn
              generalize w2.drewN nq = w3 at *
              go_wp2_with fail
              go_ret
              exact ⟨ret_int HT.out.symm, hbn3⟩
            | false =>
              have o1 : Op.bytesLess (str f.path).toList (str g0f.path).toList = true := by rw [str_list, str_list]; exact hbl
              have o2 : ((str f.path).toList == (str g0f.path).toList) = false := by rw [str_list, str_list]; exact hbe
              have HT := Lib.hid (show v = 5 by rw [HS2.out, if_pos (by rw [HO.out, hbl, hbe]; rfl)])
              clear HS2 HO hbl hbe
              go_upto_region 10 with (fail)
              go_quiet (fail)
              have hbn3 := below_drewN hbn nq
              clear f0 f1 hwl hbn
              generalize w2.drewN nq = w3 at *
              go_wp2_with fail
              go_ret
              exact ⟨ret_int HT.out.symm, hbn3⟩
          | false =>
            cases hbe : f.path == g0f.path with
            | true =>
              have o1 : Op.bytesLess (str f.path).toList (str g0f.path).toList = false := by rw [str_list, str_list]; exact hbl
              have o2 : ((str f.path).toList == (str g0f.path).toList) = true := by rw [str_list, str_list]; exact hbe
              have HT := Lib.hid (show v = 5 by rw [HS2.out, if_pos (by rw [HO.out, hbl, hbe]; rfl)])
              clear HS2 HO hbl hbe
              go_upto_region 10 with (fail)
              go_quiet (fail)
              have hbn3 := below_drewN hbn nq
              clear f0 f1 hwl hbn
              generalize w2.drewN nq = w3 at *
              go_wp2_with fail
              go_ret
              exact ⟨ret_int HT.out.symm, hbn3⟩
            | false =>
              have o1 : Op.bytesLess (str f.path).toList (str g0f.path).toList = false := by rw [str_list, str_list]; exact hbl
              have o2 : ((str f.path).toList == (str g0f.path).toList) = false := by rw [str_list, str_list]; exact hbe
              have HS3 := Lib.hid (HS2.out.trans (if_neg (by rw [HO.out, hbl, hbe]; decide)))
              clear HS2 HO hbl hbe
              go_upto_region 10 with (fail)
              go_quiet (fail)
              clear hp0 hp1
              have hq : Below w2.heap.size w2 (w2.drewN nq) := below_drewN (Below.refl _ _) nq
              have g0 := (hq.cell (p := ⟨b, 0, none⟩) hwl).trans f0
              have hbn3 := hbn.trans (hq.mono hbn.size)
              clear hq f0 f1 hwl hbn
              generalize w2.drewN nq = w3 at *
              have hcall := belowSome_any (some ⟨g, o, none⟩) c (ts.take (j + 1)) (str f.path) w3.drew ((hA.next (hbn3.trans ((Below.refl _ _).drew.mono hbn3.size))).take (j + 1)) (by rw [List.length_take]; omega)
              rw [str_data, show (ts.take (j + 1)).length = j + 1 by rw [List.length_take]; omega] at hcall
              cases hsm : (ts.take (j + 1)).any fun g => Tre.below f.path g.path with
              | true =>
                rw [hsm] at hcall
                have HT := Lib.hid (show v = 6 by rw [HS3.out, if_pos hsm])
                clear HS3 hsm
                go_wp2_with fail
                go_region_with (go_at_call 49; (with_reducible refine hcall.mono ?_); rintro e w4 ⟨rfl, hb4⟩)
                have hbn4 := hbn3.trans ((Below.refl _ _).drew.trans (hb4.mono (Nat.le_refl _)) |>.mono hbn3.size)
                clear hcall hb4 hbn3
                go_wp2_with fail
                go_ret
                exact ⟨ret_int HT.out.symm, hbn4⟩
              | false =>
                rw [hsm] at hcall
                have HT := Lib.hid (HS3.out.trans (if_neg (by rw [hsm]; decide)))
                clear HS3 hsm
                go_wp2_with fail
                go_region_with (go_at_call 49; (with_reducible refine hcall.mono ?_); rintro e w4 ⟨rfl, hb4⟩)
                have hbn4 := hbn3.trans ((Below.refl _ _).drew.trans (hb4.mono (Nat.le_refl _)) |>.mono hbn3.size)
                clear hcall hb4 hbn3
                go_wp2_with fail
                go_roundw
                case rel => exact ⟨j + 1 + 1, by omega, by go_num, HT.out, hbn4⟩
                case measure => simp [intOf]; omega
    · have b1 : decide ((k : Int) < ts.length) = false := by simp; omega
      have b1n : decide (k < ts.length) = false := by simp; omega
      have HT := Lib.hid (show v = 0 by rw [HVV.out, List.drop_of_length_le (by omega)]; rfl)
      clear HVV
      go_wp2_with fail
      go_ret
      exact ⟨ret_int HT.out.symm, hb⟩
end Go.Proofs.YtinkpbobkeppiaaGreatDoor
