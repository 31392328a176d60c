/- Differ of the reference. No condition but the lengths. -/
import Derived.Test.YtjgjkbkpdpacnaaGreatDoorDif
import Derived.Deep.AppendLies
import Derived.BigQuiet
namespace Go.Proofs.YtjgjkbkpdpacnaaGreatDoor
open Go.RowKit Go.Deep

namespace Tre
theorem mrg_A (ts us : List Fl) (i j : Nat) (hi : i < ts.length) (h : us.length ≤ j ∨ ∃ hj : j < us.length, Op.bytesLess ts[i].path us[j].path = true) :
    mrg (ts.drop i) (us.drop j) = ⟨ts[i].path, 2, fid ts[i].data, []⟩ :: mrg (ts.drop (i + 1)) (us.drop j) := by
  rw [list_drop ts i hi]
  rcases h with h | ⟨hj, h⟩
  · rw [List.drop_of_length_le h, mrg]
  · rw [list_drop us j hj, mrg, if_pos h]
theorem mrg_B (ts us : List Fl) (i j : Nat) (hj : j < us.length) (h : ts.length ≤ i ∨ ∃ hi : i < ts.length, Op.bytesLess ts[i].path us[j].path = false ∧ Op.bytesLess us[j].path ts[i].path = true) :
    mrg (ts.drop i) (us.drop j) = ⟨us[j].path, 1, [], fid us[j].data⟩ :: mrg (ts.drop i) (us.drop (j + 1)) := by
  rw [list_drop us j hj]
  rcases h with h | ⟨hi, h, h2⟩
  · rw [List.drop_of_length_le h, mrg]
  · rw [list_drop ts i hi, mrg, if_neg (by rw [h]; simp), if_pos h2]
theorem mrg_C (ts us : List Fl) (i j : Nat) (hi : i < ts.length) (hj : j < us.length) (h : Op.bytesLess ts[i].path us[j].path = false) (h2 : Op.bytesLess us[j].path ts[i].path = false) :
    mrg (ts.drop i) (us.drop j) = (if ts[i].data = us[j].data then [] else [⟨ts[i].path, 3, fid ts[i].data, fid us[j].data⟩]) ++ mrg (ts.drop (i + 1)) (us.drop (j + 1)) := by
  rw [list_drop ts i hi, list_drop us j hj, mrg, if_neg (by rw [h]; simp), if_neg (by rw [h2]; simp)]
end Tre
theorem diffR_mrg (a b : List Tre.Fl) : Tre.diffR a b = if Tre.check a ≠ 0 ∨ Tre.check b ≠ 0 then ([], 1) else (Tre.mrg a b, 0) := by
  rw [diffR_def]
  by_cases h : Tre.check a ≠ 0 ∨ Tre.check b ≠ 0
  · rw [if_pos h, if_pos h]
  · rw [if_neg h, if_neg h]
    have ha : Tre.check a = 0 := Classical.byContradiction fun e => h (.inl e)
    have hb : Tre.check b = 0 := Classical.byContradiction fun e => h (.inr e)
    exact congrArg (·, (0 : Int)) (Tre.diff_mrg ((Tre.good_iff a).1 ha).sorted ((Tre.good_iff b).1 hb).sorted)
set_option maxHeartbeats 16000000 in
set_option maxRecDepth 100000 in
theorem qDiffer_any (A A' : Option Addr) (c c' : Nat) (ta tb : List Tre.Fl) (w : World) (hA : FlsAt w w.heap.size A ta) (hA' : FlsAt w w.heap.size A' tb) (hl : ta.length ≤ 1000) (hl' : tb.length ≤ 1000) (hL : FlsLen ta) (hL' : FlsLen tb) (hcap : ta.length ≤ c) (hcap2 : c ≤ maxLen) (hcap' : tb.length ≤ c') (hcap2' : c' ≤ maxLen) :
    Calls Tryz.prog 38 #[.slice A ta.length c, .slice A' tb.length c'] w (GotC w (Tre.diffR ta tb)) := by
  obtain ⟨i0, hi0, hz0, hz1, hz2⟩ := info_parts infoC
  have HV := Lib.hid (diffR_mrg ta tb)
  generalize Tre.diffR ta tb = R at *
  have hc1 := qCheck_any A c ta w hA (by omega) hL hcap hcap2
  have hc2 := fun w' (hb : Below w.heap.size w w') => qCheck_any A' c' tb w' (hA'.next hb) (by omega) hL' hcap' hcap2'
  go_enter Tryz.func38, Tryz.ntmps38
  go_wp2_with fail
  with_reducible refine hc1.mono ?_
  clear hc1
  rintro x w1 ⟨rfl, hb1⟩
  by_cases ha : Tre.check ta ≠ 0
  · have HT := Lib.hid (show R = ([], 1) from HV.out.trans (if_pos (.inl ha)))
    have n0 : (Tre.check ta != 0) = true := by rw [bne_iff_ne]; exact ha
    clear HV ha
    generalize Tre.check ta = e at *
    go_wp2_with fail
    go_ret2
    rw [HT.out]
    exact ⟨_, rfl, World.ownsRow_nil _ _ _ _, hb1⟩
  have ha : Tre.check ta = 0 := by simpa using ha
  have hc3 := hc2 w1 hb1
  clear hc2
  by_cases hb : Tre.check tb ≠ 0
  · have HT := Lib.hid (show R = ([], 1) from HV.out.trans (if_pos (.inr hb)))
    have n0 : (Tre.check tb != 0) = true := by rw [bne_iff_ne]; exact hb
    clear HV hb
    rw [ha]
    clear ha
    generalize Tre.check tb = e at *
    go_wp2_with fail
    with_reducible refine hc3.mono ?_
    clear hc3
    rintro x w2 ⟨rfl, hb2⟩
    go_wp2_with fail
    go_ret2
    rw [HT.out]
    exact ⟨_, rfl, World.ownsRow_nil _ _ _ _, hb1.trans (hb2.mono hb1.size)⟩
  have hb : Tre.check tb = 0 := by simpa using hb
  have HT := Lib.hid (show R = ([] ++ Tre.mrg (ta.drop 0) (tb.drop 0), 0) from HV.out.trans (if_neg (by rw [ha, hb]; simp)))
  have hsa := ((Tre.good_iff ta).1 ha).size
  have hsb := ((Tre.good_iff tb).1 hb).size
  have HFI := Lib.hid (fun (d : List UInt8) (h : d.length ≤ 65536) (w' : World) => show Calls Tryz.prog 70 #[.string (str d)] w' fun e w'' => e = .returned (.string (str (Tre.fid d))) ∧ Below w'.heap.size w' w'' by
    have h1 := qFileID_any (str d) w' (by rw [str_size]; omega)
    rwa [show (str d).data.toList = d from by simp [str]] at h1)
  rw [ha]
  rw [hb] at hc3
  clear HV ha hb
  go_wp2_with fail
  with_reducible refine hc3.mono ?_
  clear hc3
  rintro x w2 ⟨rfl, hb2⟩
  have hb02 := hb1.trans (hb2.mono hb1.size)
  have hA2 := hA.next hb02
  have hA2' := hA'.next hb02
  have hs2 := hb02.size
  clear hb1 hb2 hA hA'
  obtain ⟨R1, R2⟩ := R
  have HT2 := Lib.hid (show R1 = [] ++ Tre.mrg (ta.drop 0) (tb.drop 0) from congrArg Prod.fst HT.out)
  have HR2 := Lib.hid (show R2 = 0 from congrArg Prod.snd HT.out)
  clear HT
  go_wp2_with fail
  go_loopw [6, 7, 8] (fun v vi vj wr => ∃ (i j : Nat) (os : List Tre.Ch), i ≤ ta.length ∧ j ≤ tb.length ∧ vi = .int .i64 i ∧ vj = .int .i64 j ∧ wr.ownsRow w2.heap.size 59 4 v os.length (chsOf os) ∧ os.length ≤ i + j ∧ R1 = os ++ Tre.mrg (ta.drop i) (tb.drop j) ∧ Below w2.heap.size w2 wr) (fun _ vi vj _ => (ta.length - (intOf vi).toNat) + (tb.length - (intOf vj).toNat))
  case atStart => exact ⟨0, 0, [], by omega, by omega, rfl, rfl, World.ownsRow_nil _ _ _ _, by simp, HT2.out, Below.refl _ _⟩
  case round =>
    clear HT2
    obtain ⟨i, j, os, hi, hj, rfl, rfl, hown, hol, hR, hb⟩ := hrel
    have HR := Lib.hid hR
    clear hR
    have hrow := hown.lt
    by_cases hia : i < ta.length
    · have p1 : decide ((i : Int) < ta.length) = true := by simp; omega
      have p1n : decide (i < ta.length) = true := by simp; omega
      have p2 : ((i : Int) == (ta.length : Int)) = false := by rw [beq_eq_false_iff_ne]; omega
      have p2n : (i == ta.length) = false := by rw [beq_eq_false_iff_ne]; omega
      obtain ⟨ga, oa, rfl, hga, hc0, hc1⟩ := hA2 i hia
      have aa := (hb.cell (p := ⟨ga, oa + i * 2, none⟩) hga).trans hc0
      have ab := (hb.cell (p := ⟨ga, oa + i * 2 + 1, none⟩) hga).trans hc1
      have hga2 : ga < wr.heap.size := Nat.lt_of_lt_of_le hga hb.size
      have hda := hsa ta[i] (List.getElem_mem hia)
      clear hc0 hc1
      by_cases hjb : j < tb.length
      · have r1 : decide ((j : Int) < tb.length) = true := by simp; omega
        have r1n : decide (j < tb.length) = true := by simp; omega
        have r2 : ((j : Int) == (tb.length : Int)) = false := by rw [beq_eq_false_iff_ne]; omega
        have r2n : (j == tb.length) = false := by rw [beq_eq_false_iff_ne]; omega
        obtain ⟨gb, ob, rfl, hgb, hc0, hc1⟩ := hA2' j hjb
        have ca := (hb.cell (p := ⟨gb, ob + j * 2, none⟩) hgb).trans hc0
        have cb := (hb.cell (p := ⟨gb, ob + j * 2 + 1, none⟩) hgb).trans hc1
        have hgb2 : gb < wr.heap.size := Nat.lt_of_lt_of_le hgb hb.size
        have hdb := hsb tb[j] (List.getElem_mem hjb)
        clear hc0 hc1
        cases hx : Op.bytesLess ta[i].path tb[j].path with
        | true =>
          have HM := Lib.hid (HR.out.trans (by rw [Tre.mrg_A ta tb i j hia (.inr ⟨hjb, hx⟩), List.append_cons]))
          have o1 : Op.bytesLess (str ta[i].path).toList (str tb[j].path).toList = true := by rw [str_list, str_list]; exact hx
          clear HR hx
          generalize ta[i] = f at *
          generalize tb[j] = h at *
          have hcall := fun w' => HFI.out f.data hda w'
          generalize Tre.fid f.data = fd at *
          go_wp2_with fail
          go_quiet (fail)
          have q_1 := below_drewN (Below.refl wr.heap.size wr) nq
          have hb_1 := hb.trans (q_1.mono hb.size)
          have hown_1 := owns_below hown q_1
          have aa_1 := (q_1.cell (p := ⟨ga, oa + i * 2, none⟩) hga2).trans aa
          have ab_1 := (q_1.cell (p := ⟨ga, oa + i * 2 + 1, none⟩) hga2).trans ab
          have hga2_1 := Nat.lt_of_lt_of_le hga2 q_1.size
          have ca_1 := (q_1.cell (p := ⟨gb, ob + j * 2, none⟩) hgb2).trans ca
          have cb_1 := (q_1.cell (p := ⟨gb, ob + j * 2 + 1, none⟩) hgb2).trans cb
          have hgb2_1 := Nat.lt_of_lt_of_le hgb2 q_1.size
          clear hb hown aa ab hga2 ca cb hgb2
          generalize wr.drewN nq = wr_1 at *
          clear q_1
          go_wp2_with fail
          go_region_law (first
            | (go_simp; go_at_call 70; (with_reducible refine (hcall _).mono ?_); rintro x w3 ⟨rfl, hb3⟩; have hown3 := owns_below hown_1.drew hb3; have hb03 := hb_1.drew.trans (hb3.mono hb_1.drew.size); have e0 := (hb3.cell (p := ⟨ga, oa + i * 2, none⟩) hga2_1).trans aa_1; have e1 := (hb3.cell (p := ⟨ga, oa + i * 2 + 1, none⟩) hga2_1).trans ab_1; have hs3 := hb03.size)
            | (refine step_append_lies _ (by rfl) _ _ _ (by rfl) w2.heap.size 59 i0 _ 4 56 Tryz.underlying54 hi0 hz0 hz1 hz2 rfl (by omega) u6 os.length _ (by rfl) (hown3.alloc _) ⟨w3.heap.size, 0, none⟩ 1 1 [_, _, _, _] (by rfl) (by rfl) (World.news_of_block (cs := #[_, _, _, _]) (t := 59) (fr := (0, 0)) (heap_alloc_new w3 _)) (by simp [Value.oneCell']) (by omega) (by unfold maxLen; omega) (by omega) (by simp; omega) (w3.heap.size + 1) (by simp) ?_; intro gg cap w6 hown6 hgrow hat hlt6))
          all_goals
            have hb6 : Below w2.heap.size w2 w6 := grown_own0 (hb03.alloc hb03.size _) hgrow (fun q hq => (hrow q hq).1)
            have hown7 : w6.ownsRow w2.heap.size 59 4 (.slice (some ⟨gg, 0, none⟩) (os.length + 1) cap) (os ++ [⟨f.path, 2, fd, []⟩] : List Tre.Ch).length (chsOf (os ++ [⟨f.path, 2, fd, []⟩])) := by
              rw [List.length_append, List.length_singleton, ← chs_snoc]; exact hown6
            clear hown6 hown3 hgrow hat hlt6 e0 e1 hb03 hb3
            go_wp2_with fail
            go_roundw
            case rel => exact ⟨i + 1, j, os ++ [⟨f.path, 2, fd, []⟩], by omega, by omega, by go_num, by go_num, hown7, by simp; omega, HM.out, hb6⟩
            case measure => simp [intOf]; omega
        | false =>
          cases hy : Op.bytesLess tb[j].path ta[i].path with
          | true =>
            have HM := Lib.hid (HR.out.trans (by rw [Tre.mrg_B ta tb i j hjb (.inr ⟨hia, hx, hy⟩), List.append_cons]))
            have o1 : Op.bytesLess (str ta[i].path).toList (str tb[j].path).toList = false := by rw [str_list, str_list]; exact hx
            have o2 : Op.bytesLess (str tb[j].path).toList (str ta[i].path).toList = true := by rw [str_list, str_list]; exact hy
            clear HR hx hy
            generalize ta[i] = f at *
            generalize tb[j] = h at *
            have hcall := fun w' => HFI.out h.data hdb w'
            generalize Tre.fid h.data = fd at *
            go_wp2_with fail
            go_quiet (fail)
            have q_1 := below_drewN (Below.refl wr.heap.size wr) nq
            have hb_1 := hb.trans (q_1.mono hb.size)
            have hown_1 := owns_below hown q_1
            have aa_1 := (q_1.cell (p := ⟨ga, oa + i * 2, none⟩) hga2).trans aa
            have ab_1 := (q_1.cell (p := ⟨ga, oa + i * 2 + 1, none⟩) hga2).trans ab
            have hga2_1 := Nat.lt_of_lt_of_le hga2 q_1.size
            have ca_1 := (q_1.cell (p := ⟨gb, ob + j * 2, none⟩) hgb2).trans ca
            have cb_1 := (q_1.cell (p := ⟨gb, ob + j * 2 + 1, none⟩) hgb2).trans cb
            have hgb2_1 := Nat.lt_of_lt_of_le hgb2 q_1.size
            clear hb hown aa ab hga2 ca cb hgb2
            generalize wr.drewN nq = wr_1 at *
            clear q_1
            go_wp2_with fail
            go_quiet (fail)
            have q_2 := below_drewN (Below.refl wr_1.heap.size wr_1) nq
            have hb_2 := hb_1.trans (q_2.mono hb_1.size)
            have hown_2 := owns_below hown_1 q_2
            have aa_2 := (q_2.cell (p := ⟨ga, oa + i * 2, none⟩) hga2_1).trans aa_1
            have ab_2 := (q_2.cell (p := ⟨ga, oa + i * 2 + 1, none⟩) hga2_1).trans ab_1
            have hga2_2 := Nat.lt_of_lt_of_le hga2_1 q_2.size
            have ca_2 := (q_2.cell (p := ⟨gb, ob + j * 2, none⟩) hgb2_1).trans ca_1
            have cb_2 := (q_2.cell (p := ⟨gb, ob + j * 2 + 1, none⟩) hgb2_1).trans cb_1
            have hgb2_2 := Nat.lt_of_lt_of_le hgb2_1 q_2.size
            clear hb_1 hown_1 aa_1 ab_1 hga2_1 ca_1 cb_1 hgb2_1
            generalize wr_1.drewN nq = wr_2 at *
            clear q_2
            go_wp2_with fail
            go_region_law (first
              | (go_simp; go_at_call 70; (with_reducible refine (hcall _).mono ?_); rintro x w3 ⟨rfl, hb3⟩; have hown3 := owns_below hown_2.drew hb3; have hb03 := hb_2.drew.trans (hb3.mono hb_2.drew.size); have e0 := (hb3.cell (p := ⟨gb, ob + j * 2, none⟩) hgb2_2).trans ca_2; have e1 := (hb3.cell (p := ⟨gb, ob + j * 2 + 1, none⟩) hgb2_2).trans cb_2; have hs3 := hb03.size)
              | (refine step_append_lies _ (by rfl) _ _ _ (by rfl) w2.heap.size 59 i0 _ 4 56 Tryz.underlying54 hi0 hz0 hz1 hz2 rfl (by omega) u6 os.length _ (by rfl) (hown3.alloc _) ⟨w3.heap.size, 0, none⟩ 1 1 [_, _, _, _] (by rfl) (by rfl) (World.news_of_block (cs := #[_, _, _, _]) (t := 59) (fr := (0, 0)) (heap_alloc_new w3 _)) (by simp [Value.oneCell']) (by omega) (by unfold maxLen; omega) (by omega) (by simp; omega) (w3.heap.size + 1) (by simp) ?_; intro gg cap w6 hown6 hgrow hat hlt6))
            all_goals
              have hb6 : Below w2.heap.size w2 w6 := grown_own0 (hb03.alloc hb03.size _) hgrow (fun q hq => (hrow q hq).1)
              have hown7 : w6.ownsRow w2.heap.size 59 4 (.slice (some ⟨gg, 0, none⟩) (os.length + 1) cap) (os ++ [⟨h.path, 1, [], fd⟩] : List Tre.Ch).length (chsOf (os ++ [⟨h.path, 1, [], fd⟩])) := by
                rw [List.length_append, List.length_singleton, ← chs_snoc]; exact hown6
              clear hown6 hown3 hgrow hat hlt6 e0 e1 hb03 hb3
              go_wp2_with fail
              go_roundw
              case rel => exact ⟨i, j + 1, os ++ [⟨h.path, 1, [], fd⟩], by omega, by omega, by go_num, by go_num, hown7, by simp; omega, HM.out, hb6⟩
              case measure => simp [intOf]; omega
          | false =>
            have HM := Lib.hid (HR.out.trans (by rw [Tre.mrg_C ta tb i j hia hjb hx hy]))
            have o1 : Op.bytesLess (str ta[i].path).toList (str tb[j].path).toList = false := by rw [str_list, str_list]; exact hx
            have o2 : Op.bytesLess (str tb[j].path).toList (str ta[i].path).toList = false := by rw [str_list, str_list]; exact hy
            clear HR hx hy
            generalize ta[i] = f at *
            generalize tb[j] = h at *
            by_cases hd : f.data = h.data
            · have HM2 := Lib.hid (HM.out.trans (by rw [if_pos hd, List.nil_append]))
              have o3 : ((str f.data).toList == (str h.data).toList) = true := by rw [hd]; simp
              have o4 : ((str f.data).toList != (str h.data).toList) = false := by rw [bne, o3]; rfl
              clear HM hd
              go_wp2_with fail
              go_quiet (fail)
              have q_1 := below_drewN (Below.refl wr.heap.size wr) nq
              have hb_1 := hb.trans (q_1.mono hb.size)
              have hown_1 := owns_below hown q_1
              have aa_1 := (q_1.cell (p := ⟨ga, oa + i * 2, none⟩) hga2).trans aa
              have ab_1 := (q_1.cell (p := ⟨ga, oa + i * 2 + 1, none⟩) hga2).trans ab
              have hga2_1 := Nat.lt_of_lt_of_le hga2 q_1.size
              have ca_1 := (q_1.cell (p := ⟨gb, ob + j * 2, none⟩) hgb2).trans ca
              have cb_1 := (q_1.cell (p := ⟨gb, ob + j * 2 + 1, none⟩) hgb2).trans cb
              have hgb2_1 := Nat.lt_of_lt_of_le hgb2 q_1.size
              clear hb hown aa ab hga2 ca cb hgb2
              generalize wr.drewN nq = wr_1 at *
              clear q_1
              go_wp2_with fail
              go_quiet (fail)
              have q_2 := below_drewN (Below.refl wr_1.heap.size wr_1) nq
              have hb_2 := hb_1.trans (q_2.mono hb_1.size)
              have hown_2 := owns_below hown_1 q_2
              have aa_2 := (q_2.cell (p := ⟨ga, oa + i * 2, none⟩) hga2_1).trans aa_1
              have ab_2 := (q_2.cell (p := ⟨ga, oa + i * 2 + 1, none⟩) hga2_1).trans ab_1
              have hga2_2 := Nat.lt_of_lt_of_le hga2_1 q_2.size
              have ca_2 := (q_2.cell (p := ⟨gb, ob + j * 2, none⟩) hgb2_1).trans ca_1
              have cb_2 := (q_2.cell (p := ⟨gb, ob + j * 2 + 1, none⟩) hgb2_1).trans cb_1
              have hgb2_2 := Nat.lt_of_lt_of_le hgb2_1 q_2.size
              clear hb_1 hown_1 aa_1 ab_1 hga2_1 ca_1 cb_1 hgb2_1
              generalize wr_1.drewN nq = wr_2 at *
              clear q_2
              go_wp2_with fail
              go_quiet (fail)
              have q_3 := below_drewN (Below.refl wr_2.heap.size wr_2) nq
              have hb_3 := hb_2.trans (q_3.mono hb_2.size)
              have hown_3 := owns_below hown_2 q_3
              have aa_3 := (q_3.cell (p := ⟨ga, oa + i * 2, none⟩) hga2_2).trans aa_2
              have ab_3 := (q_3.cell (p := ⟨ga, oa + i * 2 + 1, none⟩) hga2_2).trans ab_2
              have hga2_3 := Nat.lt_of_lt_of_le hga2_2 q_3.size
              have ca_3 := (q_3.cell (p := ⟨gb, ob + j * 2, none⟩) hgb2_2).trans ca_2
              have cb_3 := (q_3.cell (p := ⟨gb, ob + j * 2 + 1, none⟩) hgb2_2).trans cb_2
              have hgb2_3 := Nat.lt_of_lt_of_le hgb2_2 q_3.size
              clear hb_2 hown_2 aa_2 ab_2 hga2_2 ca_2 cb_2 hgb2_2
              generalize wr_2.drewN nq = wr_3 at *
              clear q_3
              go_wp2_with fail
              go_roundw
              case rel => exact ⟨i + 1, j + 1, os, by omega, by omega, by go_num, by go_num, hown_3, by omega, HM2.out, hb_3⟩
              case measure => simp [intOf]; omega
            · have HM2 := Lib.hid (show R1 = (os ++ [⟨f.path, 3, Tre.fid f.data, Tre.fid h.data⟩]) ++ Tre.mrg (ta.drop (i + 1)) (tb.drop (j + 1)) from HM.out.trans (by rw [if_neg hd, List.append_assoc]))
              have o3 : ((str f.data).toList == (str h.data).toList) = false := by rw [beq_eq_false_iff_ne, str_list, str_list]; exact hd
              have o4 : ((str f.data).toList != (str h.data).toList) = true := by rw [bne, o3]; rfl
              clear HM hd
              have hcA := fun w' => HFI.out f.data hda w'
              have hcB := fun w' => HFI.out h.data hdb w'
              generalize Tre.fid f.data = fa at *
              generalize Tre.fid h.data = fb at *
              go_wp2_with fail
              go_quiet (fail)
              have q_1 := below_drewN (Below.refl wr.heap.size wr) nq
              have hb_1 := hb.trans (q_1.mono hb.size)
              have hown_1 := owns_below hown q_1
              have aa_1 := (q_1.cell (p := ⟨ga, oa + i * 2, none⟩) hga2).trans aa
              have ab_1 := (q_1.cell (p := ⟨ga, oa + i * 2 + 1, none⟩) hga2).trans ab
              have hga2_1 := Nat.lt_of_lt_of_le hga2 q_1.size
              have ca_1 := (q_1.cell (p := ⟨gb, ob + j * 2, none⟩) hgb2).trans ca
              have cb_1 := (q_1.cell (p := ⟨gb, ob + j * 2 + 1, none⟩) hgb2).trans cb
              have hgb2_1 := Nat.lt_of_lt_of_le hgb2 q_1.size
              clear hb hown aa ab hga2 ca cb hgb2
              generalize wr.drewN nq = wr_1 at *
              clear q_1
              go_wp2_with fail
              go_quiet (fail)
              have q_2 := below_drewN (Below.refl wr_1.heap.size wr_1) nq
              have hb_2 := hb_1.trans (q_2.mono hb_1.size)
              have hown_2 := owns_below hown_1 q_2
              have aa_2 := (q_2.cell (p := ⟨ga, oa + i * 2, none⟩) hga2_1).trans aa_1
              have ab_2 := (q_2.cell (p := ⟨ga, oa + i * 2 + 1, none⟩) hga2_1).trans ab_1
              have hga2_2 := Nat.lt_of_lt_of_le hga2_1 q_2.size
              have ca_2 := (q_2.cell (p := ⟨gb, ob + j * 2, none⟩) hgb2_1).trans ca_1
              have cb_2 := (q_2.cell (p := ⟨gb, ob + j * 2 + 1, none⟩) hgb2_1).trans cb_1
              have hgb2_2 := Nat.lt_of_lt_of_le hgb2_1 q_2.size
              clear hb_1 hown_1 aa_1 ab_1 hga2_1 ca_1 cb_1 hgb2_1
              generalize wr_1.drewN nq = wr_2 at *
              clear q_2
              go_wp2_with fail
              go_quiet (fail)
              have q_3 := below_drewN (Below.refl wr_2.heap.size wr_2) nq
              have hb_3 := hb_2.trans (q_3.mono hb_2.size)
              have hown_3 := owns_below hown_2 q_3
              have aa_3 := (q_3.cell (p := ⟨ga, oa + i * 2, none⟩) hga2_2).trans aa_2
              have ab_3 := (q_3.cell (p := ⟨ga, oa + i * 2 + 1, none⟩) hga2_2).trans ab_2
              have hga2_3 := Nat.lt_of_lt_of_le hga2_2 q_3.size
              have ca_3 := (q_3.cell (p := ⟨gb, ob + j * 2, none⟩) hgb2_2).trans ca_2
              have cb_3 := (q_3.cell (p := ⟨gb, ob + j * 2 + 1, none⟩) hgb2_2).trans cb_2
              have hgb2_3 := Nat.lt_of_lt_of_le hgb2_2 q_3.size
              clear hb_2 hown_2 aa_2 ab_2 hga2_2 ca_2 cb_2 hgb2_2
              generalize wr_2.drewN nq = wr_3 at *
              clear q_3
              go_wp2_with fail
              go_region_law (first
                | (go_simp; go_at_call 70; (with_reducible refine (hcA _).mono ?_); rintro x w3 ⟨rfl, hb3⟩; have hown3 := owns_below hown_3.drew hb3; have hb03 := hb_3.drew.trans (hb3.mono hb_3.drew.size); have e30 := (hb3.cell (p := ⟨ga, oa + i * 2, none⟩) hga2_3).trans aa_3; have e31 := (hb3.cell (p := ⟨ga, oa + i * 2 + 1, none⟩) hga2_3).trans ab_3; have e32 := (hb3.cell (p := ⟨gb, ob + j * 2, none⟩) hgb2_3).trans ca_3; have e33 := (hb3.cell (p := ⟨gb, ob + j * 2 + 1, none⟩) hgb2_3).trans cb_3; have hga3 := Nat.lt_of_lt_of_le hga2_3 hb3.size; have hgb3 := Nat.lt_of_lt_of_le hgb2_3 hb3.size)
                | (go_simp; go_at_call 70; (with_reducible refine (hcB _).mono ?_); rintro x w4 ⟨rfl, hb4⟩; have hown4 := owns_below hown3 hb4; have hb04 := hb03.trans (hb4.mono hb03.size); have e40 := (hb4.cell (p := ⟨ga, oa + i * 2, none⟩) hga3).trans e30; have e41 := (hb4.cell (p := ⟨ga, oa + i * 2 + 1, none⟩) hga3).trans e31; have e42 := (hb4.cell (p := ⟨gb, ob + j * 2, none⟩) hgb3).trans e32; have e43 := (hb4.cell (p := ⟨gb, ob + j * 2 + 1, none⟩) hgb3).trans e33; have hs4 := hb04.size)
                | (refine step_append_lies _ (by rfl) _ _ _ (by rfl) w2.heap.size 59 i0 _ 4 56 Tryz.underlying54 hi0 hz0 hz1 hz2 rfl (by omega) u6 os.length _ (by rfl) (hown4.alloc _) ⟨w4.heap.size, 0, none⟩ 1 1 [_, _, _, _] (by rfl) (by rfl) (World.news_of_block (cs := #[_, _, _, _]) (t := 59) (fr := (0, 0)) (heap_alloc_new w4 _)) (by simp [Value.oneCell']) (by omega) (by unfold maxLen; omega) (by omega) (by simp; omega) (w4.heap.size + 1) (by simp) ?_; intro gg cap w6 hown6 hgrow hat hlt6))
              all_goals
                have hb6 : Below w2.heap.size w2 w6 := grown_own0 (hb04.alloc hb04.size _) hgrow (fun q hq => (hrow q hq).1)
                have hown7 : w6.ownsRow w2.heap.size 59 4 (.slice (some ⟨gg, 0, none⟩) (os.length + 1) cap) (os ++ [⟨f.path, 3, fa, fb⟩] : List Tre.Ch).length (chsOf (os ++ [⟨f.path, 3, fa, fb⟩])) := by
                  rw [List.length_append, List.length_singleton, ← chs_snoc]; exact hown6
                clear hown6 hown4 hown3 hgrow hat hlt6 hb03 hb3 hb04 hb4
                go_wp2_with fail
                go_roundw
                case rel => exact ⟨i + 1, j + 1, os ++ [⟨f.path, 3, fa, fb⟩], by omega, by omega, by go_num, by go_num, hown7, by simp; omega, HM2.out, hb6⟩
                case measure => simp [intOf]; omega
      · have r1 : decide ((j : Int) < tb.length) = false := by simp; omega
        have r1n : decide (j < tb.length) = false := by simp; omega
        have r2 : ((j : Int) == (tb.length : Int)) = true := by rw [beq_iff_eq]; omega
        have r2n : (j == tb.length) = true := by rw [beq_iff_eq]; omega
        have HM := Lib.hid (HR.out.trans (by rw [Tre.mrg_A ta tb i j hia (.inl (by omega)), List.append_cons]))
        clear HR
        generalize ta[i] = f at *
        have hcall := fun w' => HFI.out f.data hda w'
        generalize Tre.fid f.data = fd at *
        go_wp2_with fail
        go_quiet (fail)
        have q_1 := below_drewN (Below.refl wr.heap.size wr) nq
        have hb_1 := hb.trans (q_1.mono hb.size)
        have hown_1 := owns_below hown q_1
        have aa_1 := (q_1.cell (p := ⟨ga, oa + i * 2, none⟩) hga2).trans aa
        have ab_1 := (q_1.cell (p := ⟨ga, oa + i * 2 + 1, none⟩) hga2).trans ab
        have hga2_1 := Nat.lt_of_lt_of_le hga2 q_1.size
        clear hb hown aa ab hga2
        generalize wr.drewN nq = wr_1 at *
        clear q_1
        go_wp2_with fail
        go_region_law (first
          | (go_simp; go_at_call 70; (with_reducible refine (hcall _).mono ?_); rintro x w3 ⟨rfl, hb3⟩; have hown3 := owns_below hown_1.drew hb3; have hb03 := hb_1.drew.trans (hb3.mono hb_1.drew.size); have e0 := (hb3.cell (p := ⟨ga, oa + i * 2, none⟩) hga2_1).trans aa_1; have e1 := (hb3.cell (p := ⟨ga, oa + i * 2 + 1, none⟩) hga2_1).trans ab_1; have hs3 := hb03.size)
          | (refine step_append_lies _ (by rfl) _ _ _ (by rfl) w2.heap.size 59 i0 _ 4 56 Tryz.underlying54 hi0 hz0 hz1 hz2 rfl (by omega) u6 os.length _ (by rfl) (hown3.alloc _) ⟨w3.heap.size, 0, none⟩ 1 1 [_, _, _, _] (by rfl) (by rfl) (World.news_of_block (cs := #[_, _, _, _]) (t := 59) (fr := (0, 0)) (heap_alloc_new w3 _)) (by simp [Value.oneCell']) (by omega) (by unfold maxLen; omega) (by omega) (by simp; omega) (w3.heap.size + 1) (by simp) ?_; intro gg cap w6 hown6 hgrow hat hlt6))
        all_goals
          have hb6 : Below w2.heap.size w2 w6 := grown_own0 (hb03.alloc hb03.size _) hgrow (fun q hq => (hrow q hq).1)
          have hown7 : w6.ownsRow w2.heap.size 59 4 (.slice (some ⟨gg, 0, none⟩) (os.length + 1) cap) (os ++ [⟨f.path, 2, fd, []⟩] : List Tre.Ch).length (chsOf (os ++ [⟨f.path, 2, fd, []⟩])) := by
            rw [List.length_append, List.length_singleton, ← chs_snoc]; exact hown6
          clear hown6 hown3 hgrow hat hlt6 e0 e1 hb03 hb3
          go_wp2_with fail
          go_roundw
          case rel => exact ⟨i + 1, j, os ++ [⟨f.path, 2, fd, []⟩], by omega, by omega, by go_num, by go_num, hown7, by simp; omega, HM.out, hb6⟩
          case measure => simp [intOf]; omega
    · have p1 : decide ((i : Int) < ta.length) = false := by simp; omega
      have p1n : decide (i < ta.length) = false := by simp; omega
      have p2 : ((i : Int) == (ta.length : Int)) = true := by rw [beq_iff_eq]; omega
      have p2n : (i == ta.length) = true := by rw [beq_iff_eq]; omega
      by_cases hjb : j < tb.length
      · have r1 : decide ((j : Int) < tb.length) = true := by simp; omega
        have r1n : decide (j < tb.length) = true := by simp; omega
        have r2 : ((j : Int) == (tb.length : Int)) = false := by rw [beq_eq_false_iff_ne]; omega
        have r2n : (j == tb.length) = false := by rw [beq_eq_false_iff_ne]; omega
        obtain ⟨gb, ob, rfl, hgb, hc0, hc1⟩ := hA2' j hjb
        have ca := (hb.cell (p := ⟨gb, ob + j * 2, none⟩) hgb).trans hc0
        have cb := (hb.cell (p := ⟨gb, ob + j * 2 + 1, none⟩) hgb).trans hc1
        have hgb2 : gb < wr.heap.size := Nat.lt_of_lt_of_le hgb hb.size
        have hdb := hsb tb[j] (List.getElem_mem hjb)
        clear hc0 hc1
        have HM := Lib.hid (HR.out.trans (by rw [Tre.mrg_B ta tb i j hjb (.inl (by omega)), List.append_cons]))
        clear HR
        generalize tb[j] = h at *
        have hcall := fun w' => HFI.out h.data hdb w'
        generalize Tre.fid h.data = fd at *
        go_wp2_with fail
        go_quiet (fail)
        have q_1 := below_drewN (Below.refl wr.heap.size wr) nq
        have hb_1 := hb.trans (q_1.mono hb.size)
        have hown_1 := owns_below hown q_1
        have ca_1 := (q_1.cell (p := ⟨gb, ob + j * 2, none⟩) hgb2).trans ca
        have cb_1 := (q_1.cell (p := ⟨gb, ob + j * 2 + 1, none⟩) hgb2).trans cb
        have hgb2_1 := Nat.lt_of_lt_of_le hgb2 q_1.size
        clear hb hown ca cb hgb2
        generalize wr.drewN nq = wr_1 at *
        clear q_1
        go_wp2_with fail
        go_quiet (fail)
        have q_2 := below_drewN (Below.refl wr_1.heap.size wr_1) nq
        have hb_2 := hb_1.trans (q_2.mono hb_1.size)
        have hown_2 := owns_below hown_1 q_2
        have ca_2 := (q_2.cell (p := ⟨gb, ob + j * 2, none⟩) hgb2_1).trans ca_1
        have cb_2 := (q_2.cell (p := ⟨gb, ob + j * 2 + 1, none⟩) hgb2_1).trans cb_1
        have hgb2_2 := Nat.lt_of_lt_of_le hgb2_1 q_2.size
        clear hb_1 hown_1 ca_1 cb_1 hgb2_1
        generalize wr_1.drewN nq = wr_2 at *
        clear q_2
        go_wp2_with fail
        go_region_law (first
          | (go_simp; go_at_call 70; (with_reducible refine (hcall _).mono ?_); rintro x w3 ⟨rfl, hb3⟩; have hown3 := owns_below hown_2.drew hb3; have hb03 := hb_2.drew.trans (hb3.mono hb_2.drew.size); have e0 := (hb3.cell (p := ⟨gb, ob + j * 2, none⟩) hgb2_2).trans ca_2; have e1 := (hb3.cell (p := ⟨gb, ob + j * 2 + 1, none⟩) hgb2_2).trans cb_2; have hs3 := hb03.size)
          | (refine step_append_lies _ (by rfl) _ _ _ (by rfl) w2.heap.size 59 i0 _ 4 56 Tryz.underlying54 hi0 hz0 hz1 hz2 rfl (by omega) u6 os.length _ (by rfl) (hown3.alloc _) ⟨w3.heap.size, 0, none⟩ 1 1 [_, _, _, _] (by rfl) (by rfl) (World.news_of_block (cs := #[_, _, _, _]) (t := 59) (fr := (0, 0)) (heap_alloc_new w3 _)) (by simp [Value.oneCell']) (by omega) (by unfold maxLen; omega) (by omega) (by simp; omega) (w3.heap.size + 1) (by simp) ?_; intro gg cap w6 hown6 hgrow hat hlt6))
        all_goals
          have hb6 : Below w2.heap.size w2 w6 := grown_own0 (hb03.alloc hb03.size _) hgrow (fun q hq => (hrow q hq).1)
          have hown7 : w6.ownsRow w2.heap.size 59 4 (.slice (some ⟨gg, 0, none⟩) (os.length + 1) cap) (os ++ [⟨h.path, 1, [], fd⟩] : List Tre.Ch).length (chsOf (os ++ [⟨h.path, 1, [], fd⟩])) := by
            rw [List.length_append, List.length_singleton, ← chs_snoc]; exact hown6
          clear hown6 hown3 hgrow hat hlt6 e0 e1 hb03 hb3
          go_wp2_with fail
          go_roundw
          case rel => exact ⟨i, j + 1, os ++ [⟨h.path, 1, [], fd⟩], by omega, by omega, by go_num, by go_num, hown7, by simp; omega, HM.out, hb6⟩
          case measure => simp [intOf]; omega
      · have r1 : decide ((j : Int) < tb.length) = false := by simp; omega
        have r1n : decide (j < tb.length) = false := by simp; omega
        have HM := Lib.hid (HR.out.trans (by rw [List.drop_of_length_le (show ta.length ≤ i by omega), List.drop_of_length_le (show tb.length ≤ j by omega), Tre.mrg, List.append_nil]))
        clear HR
        go_wp2_with fail
        go_ret2
        rw [HM.out, HR2.out]
        exact ⟨_, rfl, hown.mono hs2, hb02.trans (hb.mono hs2)⟩
end Go.Proofs.YtjgjkbkpdpacnaaGreatDoor
