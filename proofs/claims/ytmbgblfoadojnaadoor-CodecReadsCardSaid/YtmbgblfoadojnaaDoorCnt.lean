/- The reference's reader: the digits of a number. No condition but the string's length. -/
import Derived.Test.YtmbgblfoadojnaaDoorDig
namespace Go.Proofs.YtmbgblfoadojnaaDoor
open Go.RowKit

/-- What Count returns. -/
def cntV (most : Nat) (ec : UInt8) (l : List UInt8) : Value := match Cod.scan most ec l 0 false with
  | .ok n rest => .tuple #[.int .i64 n, .int .i64 ((l.length - rest.length - 1 : Nat) : Int), .bool false]
  | .short => .tuple #[.int .i64 0, .int .i64 (-1), .bool true]
  | .corrupt => .tuple #[.int .i64 0, .int .i64 (-1), .bool false]

set_option maxHeartbeats 4000000 in
set_option maxRecDepth 100000 in
theorem count_any (most : Nat) (ec : UInt8) (s : ByteArray) (w : World) (hs : s.size ≤ 1000000000) (hm : most ≤ 281474976710656) :
    Calls Tryd.prog 42 #[.string s, .int .i64 (most : Int), .int .u8 (ec.toNat : Int)] w fun x w' => x = .returned (cntV most ec s.data.toList) ∧ w = w' := by
  go_enter Tryd.func42, Tryd.ntmps42
  go_wp2_with fail
  go_loop [9, 10] (fun n a => ∃ i m : Nat, i ≤ s.size ∧ a = .int .i64 i ∧ n = .int .i64 m ∧ m ≤ most ∧ Cod.scan most ec s.data.toList 0 false = Cod.scan most ec (s.data.toList.drop i) m (decide (0 < i))) (fun _ a => s.size - (intOf a).toNat)
  case atStart => exact ⟨0, 0, by omega, rfl, rfl, by omega, by simp⟩
  case round =>
    obtain ⟨i, m, hi, rfl, rfl, hmm, hsc⟩ := hrel
    by_cases hlt : i < s.size
    · rw [get_s s i hlt, Cod.scan] at hsc
      have HSC := Lib.hid hsc
      clear hsc
      have hcl := s[i].toNat_lt
      have hb1 : decide ((i : Int) < (s.size : Int)) = true := by simp; omega
      have hb2 : decide (i < s.size) = true := by simp; omega
      obtain ⟨c, hc⟩ : ∃ c, s[i] = c := ⟨_, rfl⟩
      have hget : s[i] = c := hc
      rw [hc] at HSC hcl
      obtain ⟨L, hL⟩ : ∃ L, s.data.toList.length - (s.data.toList.drop (i + 1)).length - 1 = L := ⟨_, rfl⟩
      have hLi : L = i := by
        rw [← hL, List.length_drop]
        have : s.data.toList.length = s.size := rfl
        omega
      by_cases hA : c = ec ∧ 0 < i
      · obtain ⟨hce, h0⟩ := hA
        have q1 : ((c.toNat : Int) == (ec.toNat : Int)) = true := by rw [hce]; simp
        have q1n : (c.toNat == ec.toNat) = true := by rw [hce]; simp
        have q2 : decide (0 < (i : Int)) = true := by simp; omega
        have q2n : decide (0 < i) = true := by simp; omega
        have hok : Cod.scan most ec s.data.toList 0 false = .ok m (s.data.toList.drop (i + 1)) := by
          rw [HSC.out]; exact if_pos ⟨hce, by simp; omega⟩
        have HV := Lib.hid (show cntV most ec s.data.toList = .tuple #[.int .i64 m, .int .i64 (i : Int), .bool false] by unfold cntV; rw [hok]; simp only; rw [hL, hLi])
        clear hok hce hL hLi
        go_wp2_with fail
        go_ret3
        exact ⟨by rw [HV.out]; rfl, rfl⟩
      · have hn : Cod.scan most ec s.data.toList 0 false = if c.toNat < 48 ∨ 57 < c.toNat ∨ (decide (0 < i) = true ∧ m = 0) ∨ most < 10 * m + (c.toNat - 48) then .corrupt else Cod.scan most ec (s.data.toList.drop (i + 1)) (10 * m + (c.toNat - 48)) true := by
          rw [HSC.out]; exact if_neg (fun hh => hA ⟨hh.1, by simpa using hh.2⟩)
        have q12 : (((c.toNat : Int) == (ec.toNat : Int)) = true ∧ (c.toNat == ec.toNat) = true ∧ decide (0 < (i : Int)) = false ∧ decide (0 < i) = false) ∨ (((c.toNat : Int) == (ec.toNat : Int)) = false ∧ (c.toNat == ec.toNat) = false) := by
          by_cases hce : c = ec
          · left
            have : ¬ 0 < i := fun h0 => hA ⟨hce, h0⟩
            exact ⟨by rw [hce]; simp, by rw [hce]; simp, by simp; omega, by simp; omega⟩
          · right
            have hne : c.toNat ≠ ec.toNat := fun hh => hce (UInt8.toNat_inj.1 hh)
            exact ⟨by rw [beq_eq_false_iff_ne]; omega, by rw [beq_eq_false_iff_ne]; exact hne⟩
        have hi3 : (decide (0 < (i : Int)) = false ∧ decide (0 < i) = false) ∨ (decide (0 < (i : Int)) = true ∧ decide (0 < i) = true) := by
          by_cases h0 : 0 < i
          · exact .inr ⟨by simp; omega, by simp; omega⟩
          · exact .inl ⟨by simp; omega, by simp; omega⟩
        clear HSC hA hL hLi
        by_cases h1 : c.toNat < 48
        · have r1 : decide ((c.toNat : Int) < 48) = true := by simp; omega
          have r1n : decide (c.toNat < 48) = true := by simp; omega
          rcases q12 with ⟨q1, q1n, q2, q2n⟩ | ⟨q1, q1n⟩
          all_goals
            clear hi3
            have hbad : Cod.scan most ec s.data.toList 0 false = .corrupt := by rw [hn]; exact if_pos (.inl h1)
            have HV := Lib.hid (show cntV most ec s.data.toList = .tuple #[.int .i64 0, .int .i64 (-1), .bool false] by unfold cntV; rw [hbad])
            clear hbad hn
            go_wp2_with fail
            go_ret3
            exact ⟨by rw [HV.out]; rfl, rfl⟩
        · have r1 : decide ((c.toNat : Int) < 48) = false := by simp; omega
          have r1n : decide (c.toNat < 48) = false := by simp; omega
          by_cases h2 : 57 < c.toNat
          · have r2 : decide ((57 : Int) < (c.toNat : Int)) = true := by simp; omega
            have r2n : decide (57 < c.toNat) = true := by simp; omega
            rcases q12 with ⟨q1, q1n, q2, q2n⟩ | ⟨q1, q1n⟩
            all_goals
              clear hi3
              have hbad : Cod.scan most ec s.data.toList 0 false = .corrupt := by rw [hn]; exact if_pos (.inr (.inl h2))
              have HV := Lib.hid (show cntV most ec s.data.toList = .tuple #[.int .i64 0, .int .i64 (-1), .bool false] by unfold cntV; rw [hbad])
              clear hbad hn
              go_wp2_with fail
              go_ret3
              exact ⟨by rw [HV.out]; rfl, rfl⟩
          · have r2 : decide ((57 : Int) < (c.toNat : Int)) = false := by simp; omega
            have r2n : decide (57 < c.toNat) = false := by simp; omega
            by_cases h3 : 0 < i ∧ m = 0
            · have q2 : decide (0 < (i : Int)) = true := by simp; omega
              have q2n : decide (0 < i) = true := by simp; omega
              have r3 : ((m : Int) == 0) = true := by rw [h3.2]; rfl
              have r3n : (m == 0) = true := by rw [h3.2]; rfl
              have hwhy : decide (0 < i) = true ∧ m = 0 := ⟨by simp; omega, h3.2⟩
              have HW := Lib.hid hwhy
              clear hwhy h3 hi3
              rcases q12 with ⟨q1, q1n, q2', q2n'⟩ | ⟨q1, q1n⟩
              · rw [q2] at q2'; cases q2'
              · have hbad : Cod.scan most ec s.data.toList 0 false = .corrupt := by rw [hn]; exact if_pos (.inr (.inr (.inl HW.out)))
                have HV := Lib.hid (show cntV most ec s.data.toList = .tuple #[.int .i64 0, .int .i64 (-1), .bool false] by unfold cntV; rw [hbad])
                clear hbad hn
                go_wp2_with fail
                go_ret3
                exact ⟨by rw [HV.out]; rfl, rfl⟩
            · obtain ⟨d, hd⟩ : ∃ d : Nat, c.toNat = d + 48 := ⟨c.toNat - 48, by omega⟩
              have hd9 : d ≤ 9 := by omega
              have u1 : (c.toNat : Int) - 48 = (d : Int) := by omega
              have u2 : IntKind.u8.wrap (d : Int) = (d : Int) := by rw [IntKind.wrap_u8']; omega
              have u3 : IntKind.i64.wrap (d : Int) = (d : Int) := IntWalk.i64_in _ (by omega)
              have u4 : IntKind.i64.wrap (10 * (m : Int)) = 10 * (m : Int) := IntWalk.i64_in _ (by omega)
              have u5 : IntKind.i64.wrap (10 * (m : Int) + (d : Int)) = 10 * (m : Int) + (d : Int) := IntWalk.i64_in _ (by omega)
              have h3' : (decide (0 < (i : Int)) = false ∧ decide (0 < i) = false) ∨ (decide (0 < (i : Int)) = true ∧ decide (0 < i) = true ∧ ((m : Int) == 0) = false ∧ (m == 0) = false) := by
                by_cases h0 : 0 < i
                · exact .inr ⟨by simp; omega, by simp; omega, by rw [beq_eq_false_iff_ne]; omega, by rw [beq_eq_false_iff_ne]; omega⟩
                · exact .inl ⟨by simp; omega, by simp; omega⟩
              have q3 : (((c.toNat : Int) == (ec.toNat : Int)) = true ∧ (c.toNat == ec.toNat) = true ∧ decide (0 < (i : Int)) = false ∧ decide (0 < i) = false) ∨ (((c.toNat : Int) == (ec.toNat : Int)) = false ∧ (c.toNat == ec.toNat) = false ∧ decide (0 < (i : Int)) = false ∧ decide (0 < i) = false) ∨ (((c.toNat : Int) == (ec.toNat : Int)) = false ∧ (c.toNat == ec.toNat) = false ∧ decide (0 < (i : Int)) = true ∧ decide (0 < i) = true ∧ ((m : Int) == 0) = false ∧ (m == 0) = false) := by
                rcases q12 with hq | ⟨hq1, hq2⟩
                · exact .inl hq
                · rcases h3' with ⟨a1, a2⟩ | ⟨a1, a2, a3, a4⟩
                  · exact .inr (.inl ⟨hq1, hq2, a1, a2⟩)
                  · exact .inr (.inr ⟨hq1, hq2, a1, a2, a3, a4⟩)
              clear q12 h3' hi3
              by_cases h4 : (most : Int) < 10 * (m : Int) + (d : Int)
              · have r4 : decide ((most : Int) < 10 * (m : Int) + (d : Int)) = true := by simp; omega
                have hbad : Cod.scan most ec s.data.toList 0 false = .corrupt := by rw [hn]; exact if_pos (.inr (.inr (.inr (by omega))))
                have HV := Lib.hid (show cntV most ec s.data.toList = .tuple #[.int .i64 0, .int .i64 (-1), .bool false] by unfold cntV; rw [hbad])
                clear hbad hn h3 hd hmm
                rcases q3 with ⟨q1, q1n, q2, q2n⟩ | ⟨q1, q1n, q2, q2n⟩ | ⟨q1, q1n, q2, q2n, r3, r3n⟩
                all_goals
                  go_wp2_with fail
                  go_ret3
                  exact ⟨by rw [HV.out]; rfl, rfl⟩
              · have r4 : decide ((most : Int) < 10 * (m : Int) + (d : Int)) = false := by simp; omega
                have hgo : Cod.scan most ec s.data.toList 0 false = Cod.scan most ec (s.data.toList.drop (i + 1)) (10 * m + d) (decide (0 < i + 1)) := by
                  rw [hn, if_neg (by
                    simp only [decide_eq_true_eq]
                    omega), show c.toNat - 48 = d by omega]
                  congr 1
                  all_goals simp
                have HG := Lib.hid hgo
                have hmm2 : 10 * m + d ≤ most := by omega
                clear hn hgo h3 hmm hd
                rcases q3 with ⟨q1, q1n, q2, q2n⟩ | ⟨q1, q1n, q2, q2n⟩ | ⟨q1, q1n, q2, q2n, r3, r3n⟩
                all_goals
                  go_wp2_with fail
                  go_round
                  case rel => exact ⟨i + 1, 10 * m + d, by omega, by go_num, by push_cast; rfl, hmm2, HG.out⟩
                  case measure => simp [intOf]; omega
    · have hin : i = s.size := by omega
      have hdr : s.data.toList.drop i = [] := by rw [hin]; exact List.drop_of_length_le (Nat.le_refl _)
      rw [hdr, Cod.scan] at hsc
      have HV := Lib.hid (show cntV most ec s.data.toList = .tuple #[.int .i64 0, .int .i64 (-1), .bool true] by unfold cntV; rw [hsc])
      have hb1 : decide ((i : Int) < (s.size : Int)) = false := by simp; omega
      have hb2 : decide (i < s.size) = false := by simp; omega
      clear hsc hdr hin
      go_wp2_with fail
      go_ret3
      exact ⟨by rw [HV.out]; rfl, rfl⟩
end Go.Proofs.YtmbgblfoadojnaaDoor
