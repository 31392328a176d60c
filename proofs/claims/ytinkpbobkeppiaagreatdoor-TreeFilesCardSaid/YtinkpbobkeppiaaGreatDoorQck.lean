/- Check of the reference. No condition but the lengths. -/
import Derived.Test.YtinkpbobkeppiaaGreatDoorChk
namespace Go.Proofs.YtinkpbobkeppiaaGreatDoor
open Go.RowKit

theorem any_take_hit (p : Tre.Fl → Bool) (ts : List Tre.Fl) (K m : Nat) (h : m < ts.length) (hm : m < K) (hp : p ts[m] = true) : (ts.take K).any p = true := by
  rw [List.any_eq_true]
  exact ⟨ts[m], List.mem_take_iff_getElem.2 ⟨m, by omega, rfl⟩, hp⟩
set_option maxHeartbeats 8000000 in
set_option maxRecDepth 100000 in
theorem qCheck_any (A : Option Addr) (c : Nat) (ts : List Tre.Fl) (w : World) (hA : FlsAt w w.heap.size A ts) (hl : ts.length ≤ 1000000000) (hL : FlsLen ts) (_hcap : ts.length ≤ c) (_hcap2 : c ≤ maxLen) :
    Calls Tryz.prog 16 #[.slice A ts.length c] w fun x w' => x = .returned (.int .i64 (Tre.check ts)) ∧ Below w.heap.size w w' := by
  have HV := Lib.hid (check_def ts)
  generalize Tre.check ts = v at *
  by_cases h64 : 64 < ts.length
  · have b0 : decide ((64 : Int) < ts.length) = true := by simp; omega
    have b0n : decide (64 < ts.length) = true := by simp; omega
    have HT := Lib.hid (show v = 10 by rw [HV.out, if_pos h64])
    clear HV h64
    go_enter Tryz.func16, Tryz.ntmps16
    go_wp2_with fail
    go_ret
    exact ⟨ret_int HT.out.symm, Below.refl _ _⟩
  have b0 : decide ((64 : Int) < ts.length) = false := by simp; omega
  have b0n : decide (64 < ts.length) = false := by simp; omega
  have HR := Lib.hid (show v = Tre.checkAt (ts.take 0) (ts.drop 0) by rw [HV.out, if_neg h64]; rfl)
  have hl64 : ts.length ≤ 64 := by omega
  clear HV h64
  go_enter Tryz.func16, Tryz.ntmps16
  go_wp2_with fail
  go_loopw [11] (fun i wr => ∃ k : Nat, k ≤ ts.length ∧ i = .int .i64 k ∧ v = Tre.checkAt (ts.take k) (ts.drop k) ∧ Below w.heap.size w wr) (fun i _ => ts.length - (intOf i).toNat)
  case atStart => exact ⟨0, by omega, rfl, HR.out, Below.refl _ _⟩
  case round =>
    clear HR
    obtain ⟨k, hk, rfl, hv, hb⟩ := hrel
    have HVV := Lib.hid hv
    clear hv
    by_cases hlt : k < ts.length
    · have b1 : decide ((k : Int) < ts.length) = true := by simp; omega
      have b1n : decide (k < ts.length) = true := by simp; omega
      obtain ⟨g, o, hAe, hg, hc0, hc1⟩ := hA k hlt
      subst hAe
      have hd0 := (hb.cell (p := ⟨g, o + k * 2, none⟩) hg).trans hc0
      have hd1 := (hb.cell (p := ⟨g, o + k * 2 + 1, none⟩) hg).trans hc1
      have HS := Lib.hid (HVV.out.trans (chk_step ts k hlt))
      obtain ⟨hl0, hl1⟩ := hL ts[k] (List.getElem_mem hlt)
      have HF := Lib.hid (show ts[k] = ts[k] from rfl)
      clear hc0 hc1 HVV
      generalize hfk : ts[k] = f at *
      clear HF
      have HFK := Lib.hid hfk
      clear hfk
      have hbw : Below w.heap.size w (wr.alloc (.cells #[.string (str f.path), .string (str f.data)] 31)) := hb.alloc hb.size _
      have hcall := qPath_any (str f.path) (wr.alloc (.cells #[.string (str f.path), .string (str f.data)] 31)) (by rw [str_size]; exact hl0)
      rw [str_data, path_val] at hcall
      have e0 : (wr.alloc (.cells #[.string (str f.path), .string (str f.data)] 31)).cell? ⟨wr.heap.size, 0, none⟩ = some (.string (str f.path)) := by rw [cell_of_row _ _ _ _ _ _ (heap_alloc_new wr _)]; rfl
      have e1 : (wr.alloc (.cells #[.string (str f.path), .string (str f.data)] 31)).cell? ⟨wr.heap.size, 1, none⟩ = some (.string (str f.data)) := by rw [cell_of_row _ _ _ _ _ _ (heap_alloc_new wr _)]; rfl
      cases hpo : Tre.pathOk f.path with
      | false =>
        rw [hpo] at hcall
        have HT := Lib.hid (show v = 2 by rw [HS.out, if_pos hpo])
        clear HS hpo e0 e1
        go_wp2_with fail
        with_reducible refine hcall.mono ?_
        clear hcall
        rintro e w2 ⟨rfl, hb2⟩
        replace hbw := hbw.trans (hb2.mono hbw.size)
        clear hb2
        go_wp2_with fail
        go_ret
        exact ⟨ret_int HT.out.symm, hbw⟩
      | true =>
        rw [hpo] at hcall
        have HS1 := Lib.hid (HS.out.trans (if_neg (by rw [hpo]; decide)))
        clear HS hpo
        go_wp2_with fail
        with_reducible refine hcall.mono ?_
        clear hcall
        rintro e w2 ⟨rfl, hb2⟩
        have f0 := (hb2.cell (p := ⟨wr.heap.size, 0, none⟩) (by simp)).trans e0
        have f1 := (hb2.cell (p := ⟨wr.heap.size, 1, none⟩) (by simp)).trans e1
        have hwl : wr.heap.size < w2.heap.size := by have := hb2.size; simp at this; omega
        have hbn : Below w.heap.size w w2 := hbw.trans (hb2.mono hbw.size)
        clear hb2 e0 e1 hbw hd0 hd1
        have hpb : w.heap.size ≤ wr.heap.size := hb.size
        clear hb
        generalize wr.heap.size = b at *
        by_cases hbig : 65536 < f.data.length
        · have b2 : decide ((65536 : Int) < ((str f.data).size : Int)) = true := by rw [str_size]; simp; omega
          have b2n : decide (65536 < (str f.data).size) = true := by rw [str_size]; simp; omega
          have HT := Lib.hid (show v = 10 by rw [HS1.out, if_pos hbig])
          clear HS1 hbig
          go_wp2_with fail
          go_ret
          exact ⟨ret_int HT.out.symm, hbn⟩
        have b2 : decide ((65536 : Int) < ((str f.data).size : Int)) = false := by rw [str_size]; simp; omega
        have b2n : decide (65536 < (str f.data).size) = false := by rw [str_size]; simp; omega
        have HS2 := Lib.hid (HS1.out.trans (if_neg hbig))
        clear HS1 hbig
        rcases Nat.eq_zero_or_pos k with hk0 | hk0
        · subst hk0
          have HS3 := Lib.hid (HS2.out.trans (if_neg (by rw [ordB_zero]; decide)))
          clear HS2
          go_upto_region 10 with (fail)
          go_quiet (fail)
          have hq : Below w2.heap.size w2 (w2.drewN nq) := below_drewN (Below.refl _ _) nq
          have g0 := (hq.cell (p := ⟨b, 0, none⟩) hwl).trans f0
          have hwl3 : b < (w2.drewN nq).heap.size := Nat.lt_of_lt_of_le hwl hq.size
          have hbn3 := hbn.trans (hq.mono hbn.size)
          clear hq f0 f1 hwl hbn
          generalize w2.drewN nq = w3 at *
          go_wp2_with fail
          go_loopw [5] (fun i wx => ∃ m : Nat, m ≤ 0 ∧ i = .int .i64 m ∧ ((ts.take m).any fun g => Tre.below f.path g.path) = false ∧ Below w.heap.size w wx ∧ Below w3.heap.size w3 wx) (fun i _ => (0) - (intOf i).toNat)
          case atStart => exact ⟨0, by omega, rfl, by simp, hbn3, Below.refl _ _⟩
          case round =>
            obtain ⟨m, hm, rfl, hno, hbx, hb3x⟩ := hrel
            have HNO := Lib.hid hno
            clear hno
            by_cases hmk : m < 0
            · have c1 : decide ((m : Int) < 0) = true := decide_eq_true (by omega)
              have hml : m < ts.length := by omega
              obtain ⟨g', o', hAe, hg', hc0', hc1'⟩ := hA m hml
              injection hAe with hAe
              injection hAe with e1 e2
              subst e1 e2
              have hp0 := (hbx.cell (p := ⟨g, o + m * 2, none⟩) hg).trans hc0'
              have hx0 := (hb3x.cell (p := ⟨b, 0, none⟩) hwl3).trans g0
              have hmi : (m : Int) < (ts.length : Int) := by omega
              have hsn := any_snoc (fun g => Tre.below f.path g.path) ts m hml
              rw [HNO.out, Bool.false_or] at hsn
              have hhit := any_take_hit (fun g => Tre.below f.path g.path) ts (0) m hml hmk
              clear hc0' hc1' hg' HNO
              generalize ts[m] = gm at *
              have hbelow : ∀ n, Calls Tryz.prog 50 #[.string (str f.path), .string (str gm.path)] (wr.drewN n) fun x w' => x = .returned (.bool (Tre.below f.path gm.path)) ∧ w' = wr.drewN n := fun n => by
                have h := qBelow_any (str f.path) (str gm.path) (wr.drewN n)
                rw [str_data, str_data] at h
                exact h.mono fun x w' h => ⟨h.1, h.2.symm⟩
              cases hbl : Tre.below f.path gm.path with
              | true =>
                rw [hbl] at hbelow
                have HT := Lib.hid (show v = 6 by rw [HS3.out, if_pos (hhit hbl)])
                clear hsn hhit hbl HS3
                go_upto_region 15 with (fail)
                go_quiet ((go_at_call 50; exact Calls.quiet_of_same (hbelow _)))
                have hbx4 := below_drewN hbx nq
                clear hbelow hp0 hx0 hbx hb3x
                go_wp2_with fail
                go_ret
                exact ⟨ret_int HT.out.symm, hbx4⟩
              | false =>
                rw [hbl] at hbelow
                have HT := Lib.hid (hsn.trans hbl)
                clear hsn hhit hbl
                go_upto_region 15 with (fail)
                go_quiet ((go_at_call 50; exact Calls.quiet_of_same (hbelow _)))
                have hbx4 := below_drewN hbx nq
                have hbx5 := below_drewN hb3x nq
                clear hbelow hp0 hx0 hbx hb3x
                go_wp2_with fail
                go_roundw
                case rel => exact ⟨m + 1, by omega, by go_num, HT.out, hbx4, hbx5⟩
                case measure => simp [intOf]; omega
            · have c1 : decide ((m : Int) < 0) = false := decide_eq_false (by omega)
              have HT := Lib.hid (HS3.out.trans (if_neg (by
                have h := HNO.out
                rw [show m = 0 by omega] at h
                rw [h]; decide)))
              clear HS3 HNO
              go_wp2_with fail
              go_roundw
              case rel => exact ⟨0 + 1, by omega, by go_num, HT.out, hbx⟩
              case measure => simp [intOf]; omega

        · obtain ⟨j, rfl⟩ : ∃ j, k = j + 1 := ⟨k - 1, by omega⟩
          have hj : j < ts.length := by omega
          obtain ⟨g', o', hAe, hg', hc0', hc1'⟩ := hA j hj
          injection hAe with hAe
          injection hAe with e1 e2
          subst e1 e2
          have hp0 := (hbn.cell (p := ⟨g, o + j * 2, none⟩) hg).trans hc0'
          have hp1 := (hbn.cell (p := ⟨g, o + j * 2 + 1, none⟩) hg).trans hc1'
          have HO := Lib.hid (ordB_succ ts j f.path hj)
          clear hc0' hc1' hg'
          have hji : (j : Int) < (ts.length : Int) := by omega
          have hj1 : (j : Int) + 1 < (ts.length : Int) := by omega
          generalize hgj : ts[j] = g0f at *
          have HG := Lib.hid hgj
          clear hgj
          cases hbl : Op.bytesLess f.path g0f.path with
          | true =>
            cases hbe : f.path == g0f.path with
            | true =>
              have o1 : Op.bytesLess (str f.path).toList (str g0f.path).toList = true := by rw [str_list, str_list]; exact hbl
              have o2 : ((str f.path).toList == (str g0f.path).toList) = true := by rw [str_list, str_list]; exact hbe
              have HT := Lib.hid (show v = 5 by rw [HS2.out, if_pos (by rw [HO.out, hbl, hbe]; rfl)])
              clear HS2 HO hbl hbe
              go_upto_region 10 with (fail)
              go_quiet (fail)
              have hbn3 := below_drewN hbn nq
              clear f0 f1 hwl hbn
              generalize w2.drewN nq = w3 at *
              go_wp2_with fail
              go_ret
              exact ⟨ret_int HT.out.symm, hbn3⟩
            | false =>
              have o1 : Op.bytesLess (str f.path).toList (str g0f.path).toList = true := by rw [str_list, str_list]; exact hbl
              have o2 : ((str f.path).toList == (str g0f.path).toList) = false := by rw [str_list, str_list]; exact hbe
              have HT := Lib.hid (show v = 5 by rw [HS2.out, if_pos (by rw [HO.out, hbl, hbe]; rfl)])
              clear HS2 HO hbl hbe
              go_upto_region 10 with (fail)
              go_quiet (fail)
              have hbn3 := below_drewN hbn nq
              clear f0 f1 hwl hbn
              generalize w2.drewN nq = w3 at *
              go_wp2_with fail
              go_ret
              exact ⟨ret_int HT.out.symm, hbn3⟩
          | false =>
            cases hbe : f.path == g0f.path with
            | true =>
              have o1 : Op.bytesLess (str f.path).toList (str g0f.path).toList = false := by rw [str_list, str_list]; exact hbl
              have o2 : ((str f.path).toList == (str g0f.path).toList) = true := by rw [str_list, str_list]; exact hbe
              have HT := Lib.hid (show v = 5 by rw [HS2.out, if_pos (by rw [HO.out, hbl, hbe]; rfl)])
              clear HS2 HO hbl hbe
              go_upto_region 10 with (fail)
              go_quiet (fail)
              have hbn3 := below_drewN hbn nq
              clear f0 f1 hwl hbn
              generalize w2.drewN nq = w3 at *
              go_wp2_with fail
              go_ret
              exact ⟨ret_int HT.out.symm, hbn3⟩
            | false =>
              have o1 : Op.bytesLess (str f.path).toList (str g0f.path).toList = false := by rw [str_list, str_list]; exact hbl
              have o2 : ((str f.path).toList == (str g0f.path).toList) = false := by rw [str_list, str_list]; exact hbe
              have HS3 := Lib.hid (HS2.out.trans (if_neg (by rw [HO.out, hbl, hbe]; decide)))
              clear HS2 HO hbl hbe
              go_upto_region 10 with (fail)
              go_quiet (fail)
              clear hp0 hp1 o1 o2
              have hq : Below w2.heap.size w2 (w2.drewN nq) := below_drewN (Below.refl _ _) nq
              have g0 := (hq.cell (p := ⟨b, 0, none⟩) hwl).trans f0
              have hwl3 : b < (w2.drewN nq).heap.size := Nat.lt_of_lt_of_le hwl hq.size
              have hbn3 := hbn.trans (hq.mono hbn.size)
              clear hq f0 f1 hwl hbn
              generalize w2.drewN nq = w3 at *
              go_wp2_with fail
              go_loopw [5] (fun i wx => ∃ m : Nat, m ≤ j + 1 ∧ i = .int .i64 m ∧ ((ts.take m).any fun g => Tre.below f.path g.path) = false ∧ Below w.heap.size w wx ∧ Below w3.heap.size w3 wx) (fun i _ => (j + 1) - (intOf i).toNat)
              case atStart => exact ⟨0, by omega, rfl, by simp, hbn3, Below.refl _ _⟩
              case round =>
                obtain ⟨m, hm, rfl, hno, hbx, hb3x⟩ := hrel
                have HNO := Lib.hid hno
                clear hno
                by_cases hmk : m < j + 1
                · have c1 : decide ((m : Int) < (j : Int) + 1) = true := decide_eq_true (by omega)
                  have hml : m < ts.length := by omega
                  obtain ⟨g', o', hAe, hg', hc0', hc1'⟩ := hA m hml
                  injection hAe with hAe
                  injection hAe with e1 e2
                  subst e1 e2
                  have hp0 := (hbx.cell (p := ⟨g, o + m * 2, none⟩) hg).trans hc0'
                  have hx0 := (hb3x.cell (p := ⟨b, 0, none⟩) hwl3).trans g0
                  have hmi : (m : Int) < (ts.length : Int) := by omega
                  have hsn := any_snoc (fun g => Tre.below f.path g.path) ts m hml
                  rw [HNO.out, Bool.false_or] at hsn
                  have hhit := any_take_hit (fun g => Tre.below f.path g.path) ts (j + 1) m hml hmk
                  clear hc0' hc1' hg' HNO
                  generalize ts[m] = gm at *
                  have hbelow : ∀ n, Calls Tryz.prog 50 #[.string (str f.path), .string (str gm.path)] (wr.drewN n) fun x w' => x = .returned (.bool (Tre.below f.path gm.path)) ∧ w' = wr.drewN n := fun n => by
                    have h := qBelow_any (str f.path) (str gm.path) (wr.drewN n)
                    rw [str_data, str_data] at h
                    exact h.mono fun x w' h => ⟨h.1, h.2.symm⟩
                  cases hbl : Tre.below f.path gm.path with
                  | true =>
                    rw [hbl] at hbelow
                    have HT := Lib.hid (show v = 6 by rw [HS3.out, if_pos (hhit hbl)])
                    clear hsn hhit hbl HS3
                    go_upto_region 15 with (fail)
                    go_quiet ((go_at_call 50; exact Calls.quiet_of_same (hbelow _)))
                    have hbx4 := below_drewN hbx nq
                    clear hbelow hp0 hx0 hbx hb3x
                    go_wp2_with fail
                    go_ret
                    exact ⟨ret_int HT.out.symm, hbx4⟩
                  | false =>
                    rw [hbl] at hbelow
                    have HT := Lib.hid (hsn.trans hbl)
                    clear hsn hhit hbl
                    go_upto_region 15 with (fail)
                    go_quiet ((go_at_call 50; exact Calls.quiet_of_same (hbelow _)))
                    have hbx4 := below_drewN hbx nq
                    have hbx5 := below_drewN hb3x nq
                    clear hbelow hp0 hx0 hbx hb3x
                    go_wp2_with fail
                    go_roundw
                    case rel => exact ⟨m + 1, by omega, by go_num, HT.out, hbx4, hbx5⟩
                    case measure => simp [intOf]; omega
                · have c1 : decide ((m : Int) < (j : Int) + 1) = false := decide_eq_false (by omega)
                  have HT := Lib.hid (HS3.out.trans (if_neg (by
                    have h := HNO.out
                    rw [show m = j + 1 by omega] at h
                    rw [h]; decide)))
                  clear HS3 HNO
                  go_wp2_with fail
                  go_roundw
                  case rel => exact ⟨j + 1 + 1, by omega, by go_num, HT.out, hbx⟩
                  case measure => simp [intOf]; omega
    · have b1 : decide ((k : Int) < ts.length) = false := by simp; omega
      have b1n : decide (k < ts.length) = false := by simp; omega
      have HT := Lib.hid (show v = 0 by rw [HVV.out, List.drop_of_length_le (by omega)]; rfl)
      clear HVV
      go_wp2_with fail
      go_ret
      exact ⟨ret_int HT.out.symm, hb⟩
end Go.Proofs.YtinkpbobkeppiaaGreatDoor
