/- The digits of a number, read. No condition but the string's length. -/
import Derived.Test.YtmbgblfoadojnaaDoorRd
namespace Go.Proofs.YtmbgblfoadojnaaDoor
open Go.RowKit

theorem RdAt.cast {w : World} {b : Nat} {s t : ByteArray} {e : Int} (h : RdAt w b s e) (k : s = t) : RdAt w b t e := k ▸ h
theorem ext_str (s : ByteArray) (a : Nat) : s.extract a s.size = str (s.data.toList.drop a) := by
  rw [← str_of (s.extract a s.size)]
  congr 1
  rw [ByteArray.data_extract, Array.toList_extract]
  have h : s.size = s.data.toList.length := rfl
  rw [h]
  simp only [List.extract_eq_take_drop]
  exact List.take_of_length_le (by simp)
theorem get_s (s : ByteArray) (k : Nat) (h : k < s.size) : s.data.toList.drop k = s[k] :: s.data.toList.drop (k + 1) := by
  have hl : k < s.data.toList.length := h
  rw [List.drop_eq_getElem_cons hl]
  rfl

set_option maxHeartbeats 4000000 in
set_option maxRecDepth 100000 in
theorem digits_any (b most : Nat) (ec : UInt8) (s : ByteArray) (err : Int) (w : World) (h : RdAt w b s err) (hs : s.size ≤ 1000000000) (hm : most ≤ 281474976710656) :
    Calls Tryd.prog 40 #[.pointer (some ⟨b, 0, none⟩), .int .i64 (most : Int), .int .u8 (ec.toNat : Int)] w fun x w' =>
      x = .returned (.int .i64 ((Cod.digits most ec ⟨s.data.toList, err⟩).1 : Int)) ∧ RdAt w' b (str (Cod.digits most ec ⟨s.data.toList, err⟩).2.rest) (Cod.digits most ec ⟨s.data.toList, err⟩).2.err ∧ w.grownBy w' (some b) := by
  have c0 := h.c0
  have c1 := h.c1
  have f0 := h.fr 0
  by_cases he : err = 0
  · subst he
    have HD := Lib.hid (show Cod.digits most ec ⟨s.data.toList, 0⟩ = (match Cod.scan most ec s.data.toList 0 false with | .ok n l => (n, ⟨l, 0⟩) | .short => (0, ⟨[], 13⟩) | .corrupt => (0, ⟨[], 17⟩)) from by unfold Cod.digits; rw [if_pos rfl]; rfl)
    generalize Cod.digits most ec ⟨s.data.toList, 0⟩ = D at *
    go_enter Tryd.func40, Tryd.ntmps40
    go_wp2_with fail
    go_step3
    go_wp2_with fail
    go_step3
    go_wp2_with fail
    go_loop [7, 8] (fun n a => ∃ i m : Nat, i ≤ s.size ∧ a = .int .i64 i ∧ n = .int .i64 m ∧ m ≤ most ∧ Cod.scan most ec s.data.toList 0 false = Cod.scan most ec (s.data.toList.drop i) m (decide (0 < i))) (fun _ a => s.size - (intOf a).toNat)
    case atStart => exact ⟨0, 0, by omega, rfl, rfl, by omega, by simp⟩
    case round =>
      obtain ⟨i, m, hi, rfl, rfl, hmm, hsc⟩ := hrel
      by_cases hlt : i < s.size
      · rw [get_s s i hlt, Cod.scan] at hsc
        have HSC := Lib.hid hsc
        clear hsc
        have hcl := s[i].toNat_lt
        have hb1 : decide ((i : Int) < (s.size : Int)) = true := by simp; omega
        have hX := ext_str s (i + 1)
        go_upto_region 7 with (fail)
        generalize s[i] = c at *
        obtain ⟨d, hd⟩ : ∃ d : Int, d = (c.toNat : Int) - 48 := ⟨_, rfl⟩
        rw [← hd]
        have HDD := Lib.hid hd
        have hd1 : -48 ≤ d := by omega
        have hd2 : d < 256 := by omega
        clear hd
        by_cases hA : c = ec ∧ 0 < i
        · obtain ⟨hce, h0⟩ := hA
          have q1 : ((c.toNat : Int) == (ec.toNat : Int)) = true := by rw [hce]; simp
          have q2 : decide (0 < (i : Int)) = true := by simp; omega
          have hok : Cod.scan most ec s.data.toList 0 false = .ok m (s.data.toList.drop (i + 1)) := by
            rw [HSC.out]; exact if_pos ⟨hce, by simp; omega⟩
          have HV := Lib.hid (show D = (m, ⟨s.data.toList.drop (i + 1), 0⟩) by rw [HD.out, hok])
          have HXX := Lib.hid hX
          clear hX hok hce
          go_wp2_with fail
          try rw [Exit.noGoto_ret]
          go_ret
          have hr := (h.set0 (s.extract (i + 1) s.size)).cast HXX.out
          refine ⟨by rw [HV.out]; rfl, by rw [HV.out]; exact hr, ?_⟩
          exact grown_set _ _ _ _
        · have hn : Cod.scan most ec s.data.toList 0 false = if c.toNat < 48 ∨ 57 < c.toNat ∨ (decide (0 < i) = true ∧ m = 0) ∨ most < 10 * m + (c.toNat - 48) then .corrupt else Cod.scan most ec (s.data.toList.drop (i + 1)) (10 * m + (c.toNat - 48)) true := by
            rw [HSC.out]; exact if_neg (fun hh => hA ⟨hh.1, by simpa using hh.2⟩)
          have q12 : (((c.toNat : Int) == (ec.toNat : Int)) = true ∧ (c.toNat == ec.toNat) = true ∧ decide (0 < (i : Int)) = false ∧ decide (0 < i) = false) ∨ (((c.toNat : Int) == (ec.toNat : Int)) = false ∧ (c.toNat == ec.toNat) = false) := by
            by_cases hce : c = ec
            · left
              have : ¬ 0 < i := fun h0 => hA ⟨hce, h0⟩
              exact ⟨by rw [hce]; simp, by rw [hce]; simp, by simp; omega, by simp; omega⟩
            · right
              have hne : c.toNat ≠ ec.toNat := fun hh => hce (UInt8.toNat_inj.1 hh)
              exact ⟨by rw [beq_eq_false_iff_ne]; omega, by rw [beq_eq_false_iff_ne]; exact hne⟩
          clear hX HSC hA
          by_cases h1 : d < 0
          · have r1 : decide (d < 0) = true := by simp; omega
            rcases q12 with ⟨q1, q1n, q2, q2n⟩ | ⟨q1, q1n⟩
            all_goals
              have hbad : Cod.scan most ec s.data.toList 0 false = .corrupt := by rw [hn]; exact if_pos (.inl (by have := HDD.out; omega))
              have HV := Lib.hid (show D = (0, ⟨[], 17⟩) by rw [HD.out, hbad])
              clear hbad hn
              go_wp2_with fail
              with_reducible refine (fail_any b s 0 17 w h).mono ?_
              rintro x w1 ⟨rfl, hr, hg⟩
              go_wp2_with fail
              try rw [Exit.noGoto_ret]
              go_ret
              exact ⟨by rw [HV.out]; rfl, by rw [HV.out]; exact hr, hg⟩
          · have r1 : decide (d < 0) = false := by simp; omega
            by_cases h2 : 9 < d
            · have r2 : decide (9 < d) = true := by simp; omega
              rcases q12 with ⟨q1, q1n, q2, q2n⟩ | ⟨q1, q1n⟩
              all_goals
                have hbad : Cod.scan most ec s.data.toList 0 false = .corrupt := by rw [hn]; exact if_pos (.inr (.inl (by have := HDD.out; omega)))
                have HV := Lib.hid (show D = (0, ⟨[], 17⟩) by rw [HD.out, hbad])
                clear hbad hn
                go_wp2_with fail
                with_reducible refine (fail_any b s 0 17 w h).mono ?_
                rintro x w1 ⟨rfl, hr, hg⟩
                go_wp2_with fail
                try rw [Exit.noGoto_ret]
                go_ret
                exact ⟨by rw [HV.out]; rfl, by rw [HV.out]; exact hr, hg⟩
            · have r2 : decide (9 < d) = false := by simp; omega
              by_cases h3 : 0 < i ∧ m = 0
              · have q2 : decide (0 < (i : Int)) = true := by simp; omega
                have q2n : decide (0 < i) = true := by simp; omega
                have r3 : ((m : Int) == 0) = true := by rw [h3.2]; rfl
                have r3n : (m == 0) = true := by rw [h3.2]; rfl
                have hwhy : decide (0 < i) = true ∧ m = 0 := ⟨by simp; omega, h3.2⟩
                have HW := Lib.hid hwhy
                clear hwhy h3
                rcases q12 with ⟨q1, q1n, q2', q2n'⟩ | ⟨q1, q1n⟩
                · rw [q2] at q2'; cases q2'
                · have hbad : Cod.scan most ec s.data.toList 0 false = .corrupt := by rw [hn]; exact if_pos (.inr (.inr (.inl HW.out)))
                  have HV := Lib.hid (show D = (0, ⟨[], 17⟩) by rw [HD.out, hbad])
                  clear hbad hn
                  go_wp2_with fail
                  with_reducible refine (fail_any b s 0 17 w h).mono ?_
                  rintro x w1 ⟨rfl, hr, hg⟩
                  go_wp2_with fail
                  try rw [Exit.noGoto_ret]
                  go_ret
                  exact ⟨by rw [HV.out]; rfl, by rw [HV.out]; exact hr, hg⟩
              · by_cases h4 : (most : Int) < 10 * (m : Int) + d
                · have r4 : decide ((most : Int) < 10 * (m : Int) + d) = true := by simp; omega
                  have h3' : (decide (0 < (i : Int)) = false ∧ decide (0 < i) = false) ∨ (decide (0 < (i : Int)) = true ∧ decide (0 < i) = true ∧ ((m : Int) == 0) = false ∧ (m == 0) = false) := by
                    by_cases h0 : 0 < i
                    · exact .inr ⟨by simp; omega, by simp; omega, by rw [beq_eq_false_iff_ne]; omega, by rw [beq_eq_false_iff_ne]; omega⟩
                    · exact .inl ⟨by simp; omega, by simp; omega⟩
                  clear h3
                  rcases q12 with ⟨q1, q1n, q2, q2n⟩ | ⟨q1, q1n⟩
                  · clear h3'
                    have hbad : Cod.scan most ec s.data.toList 0 false = .corrupt := by rw [hn]; exact if_pos (.inr (.inr (.inr (by have := HDD.out; omega))))
                    have HV := Lib.hid (show D = (0, ⟨[], 17⟩) by rw [HD.out, hbad])
                    clear hbad hn
                    go_wp2_with fail
                    with_reducible refine (fail_any b s 0 17 w h).mono ?_
                    rintro x w1 ⟨rfl, hr, hg⟩
                    go_wp2_with fail
                    try rw [Exit.noGoto_ret]
                    go_ret
                    exact ⟨by rw [HV.out]; rfl, by rw [HV.out]; exact hr, hg⟩
                  · rcases h3' with ⟨q2, q2n⟩ | ⟨q2, q2n, r3, r3n⟩
                    all_goals
                      have hbad : Cod.scan most ec s.data.toList 0 false = .corrupt := by rw [hn]; exact if_pos (.inr (.inr (.inr (by have := HDD.out; omega))))
                      have HV := Lib.hid (show D = (0, ⟨[], 17⟩) by rw [HD.out, hbad])
                      clear hbad hn
                      go_wp2_with fail
                      with_reducible refine (fail_any b s 0 17 w h).mono ?_
                      rintro x w1 ⟨rfl, hr, hg⟩
                      go_wp2_with fail
                      try rw [Exit.noGoto_ret]
                      go_ret
                      exact ⟨by rw [HV.out]; rfl, by rw [HV.out]; exact hr, hg⟩
                · have r4 : decide ((most : Int) < 10 * (m : Int) + d) = false := by simp; omega
                  have h3' : (decide (0 < (i : Int)) = false ∧ decide (0 < i) = false) ∨ (decide (0 < (i : Int)) = true ∧ decide (0 < i) = true ∧ ((m : Int) == 0) = false ∧ (m == 0) = false) := by
                    by_cases h0 : 0 < i
                    · exact .inr ⟨by simp; omega, by simp; omega, by rw [beq_eq_false_iff_ne]; omega, by rw [beq_eq_false_iff_ne]; omega⟩
                    · exact .inl ⟨by simp; omega, by simp; omega⟩
                  have hdn := HDD.out
                  have hgo : Cod.scan most ec s.data.toList 0 false = Cod.scan most ec (s.data.toList.drop (i + 1)) (10 * m + d.toNat) (decide (0 < i + 1)) := by
                    rw [hn, if_neg (by
                      simp only [decide_eq_true_eq]
                      omega), show c.toNat - 48 = d.toNat by omega]
                    congr 1
                    all_goals simp
                  have HG := Lib.hid hgo
                  have hle : 10 * m + d.toNat ≤ most := by omega
                  have hde : d = (d.toNat : Int) := by omega
                  have HDE := Lib.hid hde
                  clear hgo hn h3 hdn hde
                  rcases q12 with ⟨q1, q1n, q2, q2n⟩ | ⟨q1, q1n⟩
                  · clear h3'
                    go_wp2_with fail
                    have hz : IntKind.i64.wrap 0 = 0 := rfl
                    clear hz
                    go_round
                    case rel => exact ⟨i + 1, 10 * m + d.toNat, by omega, by go_num, by have := HDE.out; rw [Value.int.injEq]; exact ⟨rfl, by omega⟩, hle, HG.out⟩
                    case measure => simp [intOf]; omega
                  · rcases h3' with ⟨q2, q2n⟩ | ⟨q2, q2n, r3, r3n⟩
                    all_goals
                      go_wp2_with fail
                      have hz : IntKind.i64.wrap 0 = 0 := rfl
                      clear hz
                      go_round
                      case rel => exact ⟨i + 1, 10 * m + d.toNat, by omega, by go_num, by have := HDE.out; rw [Value.int.injEq]; exact ⟨rfl, by omega⟩, hle, HG.out⟩
                      case measure => simp [intOf]; omega
      · have hi2 : i = s.size := by omega
        have hsh : Cod.scan most ec s.data.toList 0 false = .short := by
          rw [hsc, hi2, List.drop_of_length_le (by show s.data.toList.length ≤ s.size; exact Nat.le_refl _), Cod.scan]
        have HV := Lib.hid (show D = (0, ⟨[], 13⟩) by rw [HD.out, hsh])
        have hb1 : decide ((i : Int) < (s.size : Int)) = false := by simp; omega
        clear hsh hsc hi2
        go_wp2_with fail
        with_reducible refine (fail_any b s 0 13 w h).mono ?_
        rintro x w1 ⟨rfl, hr, hg⟩
        go_wp2_with fail
        try rw [Exit.noGoto_ret]
        go_ret
        exact ⟨by rw [HV.out]; rfl, by rw [HV.out]; exact hr, hg⟩
  · have HV := Lib.hid (show Cod.digits most ec ⟨s.data.toList, err⟩ = (0, ⟨s.data.toList, err⟩) from by unfold Cod.digits; rw [if_neg he])
    generalize Cod.digits most ec ⟨s.data.toList, err⟩ = D at *
    have hb : (err != 0) = true := by rw [bne_iff_ne]; exact he
    go_enter Tryd.func40, Tryd.ntmps40
    go_wp2_with fail
    go_step3
    go_wp2_with fail
    try rw [Exit.noGoto_ret]
    go_ret
    exact ⟨by rw [HV.out]; rfl, by rw [HV.out, str_of]; exact h, grown_refl _ _⟩
end Go.Proofs.YtmbgblfoadojnaaDoor
