/- The reference's Number, and whether a token is valid. No condition but the string's length. -/
import Derived.Test.YtndehkoglgakpaaGreatDoorRefL
import Derived.Deep.RegionHeld3
namespace Go.Proofs.YtndehkoglgakpaaGreatDoor
open Go.RowKit

/-- What the reference's loop keeps. -/
def capN (n : Nat) : Nat := if 4294967295 < n then 4294967296 else n
theorem capN_le (n : Nat) : capN n ≤ 4294967296 := by unfold capN; split <;> omega
theorem capN_step (n d : Nat) (hd : d ≤ 9) : capN (10 * n + d) = if 4294967295 < 10 * capN n + d then 4294967296 else 10 * capN n + d := by
  unfold capN
  by_cases h : 4294967295 < n
  · rw [if_pos h, if_pos (by omega), if_pos (by omega)]
  · rw [if_neg h]
theorem val_take (s : ByteArray) (k : Nat) (h : k < s.size) : Tok.val (s.data.toList.take (k + 1)) = 10 * Tok.val (s.data.toList.take k) + (s[k].toNat - 48) := by
  rw [List.take_succ_eq_append_getElem (show k < s.data.toList.length from h), Tok.val_snoc]; rfl
set_option maxHeartbeats 4000000 in
set_option maxRecDepth 100000 in
theorem qNumber_any (s : ByteArray) (w : World) (hs : s.size ≤ 1000000000) :
    Calls Tryz.prog 79 #[.string s] w fun e w' => e = .returned (numV s.data.toList) ∧ w = w' := by
  unfold numV
  have HV := Lib.hid (number_def s.data.toList)
  have hrl := run_le Tok.isDig s.data.toList
  rw [size_data] at hrl HV
  generalize Tok.number s.data.toList = v at *
  by_cases h0 : s.size = 0
  · have hz : s = ⟨#[]⟩ := by rw [← str_of s, (nil_s s).2 h0]; rfl
    subst hz
    have HT := Lib.hid (show v = (0, 4) by rw [HV.out]; rfl)
    clear HV hrl
    go_enter Tryz.func79, Tryz.ntmps79
    go_wp2
    go_ret2
    exact ⟨by rw [HT.out]; rfl, rfl⟩
  · have hpos : 0 < s.size := by omega
    have hq1 : ¬ s.toList = [] := fun e => h0 ((nil_s s).1 (by rw [← ByteArray.toList_eq]; exact e))
    have hq2 : s.toList.isEmpty = false := by rw [List.isEmpty_eq_false_iff]; exact hq1
    have hne : s.data.toList ≠ [] := fun e => h0 ((nil_s s).1 e)
    have hhd := head_s s hpos
    have hone : s.data.toList = [48] ↔ s.size = 1 ∧ s[0] = 48 := by
      constructor
      · intro e
        have h1 : s.size = 1 := by rw [← size_data, e]; rfl
        rw [e] at hhd
        exact ⟨h1, (Option.some.inj hhd).symm⟩
      · rintro ⟨h1, h2⟩
        have := get_s s 0 hpos
        rw [List.drop_zero] at this
        rw [this, h2, List.drop_of_length_le (by rw [size_data]; omega)]
    by_cases hz : 1 < s.size ∧ s[0] = 48
    · obtain ⟨hz1, hz2⟩ := hz
      have HT := Lib.hid (show v = (0, 4) by
        rw [HV.out, if_pos (.inr (.inr ⟨by rw [hhd, hz2], fun e => by have := (hone.1 e).1; omega⟩))])
      have b1 : decide ((1 : Int) < s.size) = true := by simp; omega
      have b2 : ((s[0].toNat : Int) == 48) = true := by rw [hz2]; rfl
      have b2n : (s[0].toNat == 48) = true := by rw [hz2]; rfl
      clear HV hhd hone hne h0 hz2
      go_enter Tryz.func79, Tryz.ntmps79
      go_wp2_with fail
      all_goals
        go_ret2
        exact ⟨by rw [HT.out]; rfl, rfl⟩
    · have HV2 := Lib.hid (show v = if Tok.run Tok.isDig s.data.toList < s.size then (0, 4) else if 4294967295 < Tok.val s.data.toList then (0, 3) else (Tok.val s.data.toList, 0) by
        rw [HV.out]
        by_cases hr : Tok.run Tok.isDig s.data.toList < s.size
        · rw [if_pos (.inr (.inl hr)), if_pos hr]
        · rw [if_neg hr, if_neg]
          rintro (e | e | ⟨e1, e2⟩)
          · exact hne e
          · exact hr e
          · rw [hhd] at e1
            have e3 := Option.some.inj e1
            apply hz
            refine ⟨?_, e3⟩
            by_cases h1 : s.size = 1
            · exact absurd (hone.2 ⟨h1, e3⟩) e2
            · omega)
      have hc : decide ((1 : Int) < s.size) = false ∨ (decide ((1 : Int) < s.size) = true ∧ ((s[0].toNat : Int) == 48) = false ∧ (s[0].toNat == 48) = false) := by
        by_cases h1 : 1 < s.size
        · right
          have h2 : s[0].toNat ≠ 48 := fun e => hz ⟨h1, UInt8.toNat_inj.1 e⟩
          exact ⟨by simp; omega, by rw [beq_eq_false_iff_ne]; omega, by rw [beq_eq_false_iff_ne]; exact h2⟩
        · left; simp; omega
      clear HV hhd hone hne h0 hz
      rcases hc with b1 | ⟨b1, b2, b2n⟩
      all_goals
        go_enter Tryz.func79, Tryz.ntmps79
        go_wp2_with fail
        go_loop [4, 5, 6] (fun n l i => ∃ k : Nat, k ≤ s.size ∧ i = .int .i64 k ∧ (s.data.toList.take k).all Tok.isDig = true ∧ n = .int .u64 (capN (Tok.val (s.data.toList.take k)) : Nat) ∧ l = .bool (decide (4294967295 < Tok.val (s.data.toList.take k)))) (fun _ _ i => s.size - (intOf i).toNat)
        case atStart => exact ⟨0, by omega, rfl, by simp, rfl, rfl⟩
        case round =>
          obtain ⟨k, hk, rfl, ha, rfl, rfl⟩ := hrel
          by_cases hlt : k < s.size
          · have hst := run_step Tok.isDig s.data.toList _ _ k (get_s s k hlt) ha
            have HST := Lib.hid hst
            have hcb := qDigit_any s[k] w
            have b7 : decide ((k : Int) < (s.size : Int)) = true := by simp; omega
            clear hst ha
            cases hvb : Tok.isDig s[k]
            · rw [hvb] at hcb
              have HR := Lib.hid (show v = (0, 4) by rw [HV2.out, HST.out.2 hvb, if_pos hlt])
              clear HST hvb
              generalize decide (4294967295 < Tok.val (s.data.toList.take k)) = lb at *
              generalize capN (Tok.val (s.data.toList.take k)) = C at *
              go_wp2_with (go_at_call 93; (with_reducible refine hcb.mono ?_); rintro e w' ⟨rfl, rfl⟩)
              go_ret2
              exact ⟨by rw [HR.out]; rfl, rfl⟩
            · rw [hvb] at hcb
              have hd9 : 48 ≤ s[k].toNat ∧ s[k].toNat ≤ 57 := by simpa [Tok.isDig] using hvb
              have HA := Lib.hid (HST.out.1 hvb)
              have hcs := capN_step (Tok.val (s.data.toList.take k)) (s[k].toNat - 48) (by omega)
              have hle := capN_le (Tok.val (s.data.toList.take k))
              rw [← val_take s k hlt] at hcs
              have hlb : decide (4294967295 < Tok.val (s.data.toList.take (k + 1))) = (decide (4294967295 < Tok.val (s.data.toList.take k)) || decide (4294967295 < 10 * capN (Tok.val (s.data.toList.take k)) + (s[k].toNat - 48))) := by
                rw [val_take s k hlt]
                unfold capN
                by_cases h : 4294967295 < Tok.val (s.data.toList.take k)
                · have h2 : 4294967295 < 10 * Tok.val (s.data.toList.take k) + (s[k].toNat - 48) := by omega
                  simp [h, h2]
                · rw [if_neg h]; simp [h]
              have HC := Lib.hid hcs
              have HLB := Lib.hid hlb
              clear hcs hlb HST hvb
              generalize hC2 : capN (Tok.val (s.data.toList.take (k + 1))) = C2 at *
              generalize hl2 : decide (4294967295 < Tok.val (s.data.toList.take (k + 1))) = l2 at *
              have HC2 := Lib.hid hC2
              have HL2 := Lib.hid hl2
              clear hC2 hl2
              generalize decide (4294967295 < Tok.val (s.data.toList.take k)) = lb at *
              generalize capN (Tok.val (s.data.toList.take k)) = C at *
              by_cases hbig : 4294967295 < 10 * C + (s[k].toNat - 48)
              · have b8 : decide ((4294967295 : Int) < 10 * (C : Int) + ((s[k].toNat : Int) - 48)) = true := by simp; omega
                have HC3 := Lib.hid (show C2 = 4294967296 by rw [HC.out, if_pos hbig])
                have HL3 := Lib.hid (show l2 = true by rw [HLB.out]; simp [hbig])
                clear hbig HC HLB
                go_wp2_with (go_at_call 93; (with_reducible refine hcb.mono ?_); rintro e w' ⟨rfl, rfl⟩)
                go_round
                case rel => exact ⟨k + 1, by omega, by go_num, HA.out, by rw [HC2.out, HC3.out]; rfl, by rw [HL2.out, HL3.out]⟩
                case measure => simp [intOf]; omega
              · have b8 : decide ((4294967295 : Int) < 10 * (C : Int) + ((s[k].toNat : Int) - 48)) = false := by simp; omega
                have HC3 := Lib.hid (show (C2 : Int) = 10 * (C : Int) + ((s[k].toNat : Int) - 48) by rw [HC.out, if_neg hbig]; omega)
                have HL3 := Lib.hid (show l2 = lb by rw [HLB.out]; simp [hbig])
                clear hbig HC HLB
                go_wp2_with (go_at_call 93; (with_reducible refine hcb.mono ?_); rintro e w' ⟨rfl, rfl⟩)
                go_round
                case rel => exact ⟨k + 1, by omega, by go_num, HA.out, by rw [HC2.out, HC3.out], by rw [HL2.out, HL3.out]⟩
                case measure => simp [intOf]; omega
          · have hks : k = s.size := by omega
            have hrs : ¬ Tok.run Tok.isDig s.data.toList < s.size := by
              rw [run_full _ _ (by rw [hks] at ha; rwa [List.take_of_length_le (show s.data.toList.length ≤ s.size from Nat.le_refl _)] at ha), size_data]; omega
            have htk : s.data.toList.take k = s.data.toList := by rw [hks]; exact List.take_of_length_le (Nat.le_refl _)
            have HR := Lib.hid (show v = if 4294967295 < Tok.val s.data.toList then (0, 3) else (Tok.val s.data.toList, 0) by rw [HV2.out, if_neg hrs])
            rw [htk]
            have b7 : decide ((k : Int) < (s.size : Int)) = false := by simp; omega
            clear ha hks hrs htk
            generalize Tok.val s.data.toList = V at *
            by_cases hbig : 4294967295 < V
            · have b8 : decide (4294967295 < V) = true := by simp; omega
              have HR2 := Lib.hid (show v = (0, 3) by rw [HR.out, if_pos hbig])
              generalize capN V = C at *
              go_wp2_with fail
              go_ret2
              exact ⟨by rw [HR2.out]; rfl, rfl⟩
            · have b8 : decide (4294967295 < V) = false := by simp; omega
              have HR2 := Lib.hid (show v = (V, 0) by rw [HR.out, if_neg hbig])
              have hcv : capN V = V := if_neg hbig
              rw [hcv]
              have hVl : V ≤ 4294967295 := by omega
              clear hcv hbig
              go_wp2_with fail
              go_ret2
              exact ⟨by rw [HR2.out]; rfl, rfl⟩
set_option maxHeartbeats 2000000 in
set_option maxRecDepth 100000 in
theorem qValid_any (t : Tok.Tk) (w : World) (hs : t.text.length ≤ 1000000000) :
    Calls Tryz.prog 54 #[.agg #[.int .i64 t.kind, .string (str t.text)]] w fun e w' => e = .returned (.bool (Tok.valid t)) ∧ Below w.heap.size w w' := by
  have HV := Lib.hid (valid_def t)
  have hb0 : Below w.heap.size w (w.alloc (.cells #[.int .i64 t.kind, .string (str t.text)] 45)) := (Below.refl _ _).alloc (Nat.le_refl _) _
  have hsz : (str t.text).size ≤ 1000000000 := by rw [str_size]; exact hs
  have h1 := fun w => qForm_any (str t.text) w hsz
  have h2 := fun w => qNumber_any (str t.text) w hsz
  have h3 := fun w A c hA => has_any A c Tok.symsL (str t.text) w (by decide) hA
  simp only [str_data] at h1 h2 h3
  generalize Tok.valid t = v at *
  obtain ⟨k, x⟩ := t
  simp only at *
  by_cases k1 : k = 1
  · have HT := Lib.hid (show v = Tok.nameOk x by rw [HV.out, if_pos k1])
    subst k1
    clear HV h2 h3
    generalize Tok.nameOk x = r at *
    go_enter Tryz.func54, Tryz.ntmps54
    go_wp2_with (go_at_call 78; (with_reducible refine (h1 _).mono ?_); rintro e w' ⟨rfl, rfl⟩)
    go_ret
    exact ⟨ret_bool (by rw [HT.out]), hb0⟩
  · by_cases k2 : k = 2
    · have HT := Lib.hid (show v = ((Tok.number x).2 == 0) by rw [HV.out, if_neg k1, if_pos k2])
      subst k2
      clear HV h1 h3 k1
      unfold numV at h2
      generalize Tok.number x = r at *
      obtain ⟨ra, rb⟩ := r
      go_enter Tryz.func54, Tryz.ntmps54
      go_wp2_with (go_at_call 79; (with_reducible refine (h2 _).mono ?_); rintro e w' ⟨rfl, rfl⟩)
      go_ret
      exact ⟨ret_bool (by rw [HT.out]), hb0⟩
    · by_cases k3 : k = 3
      · have HT := Lib.hid (show v = Tok.symsL.contains x by rw [HV.out, if_neg k1, if_neg k2, if_pos k3]; rfl)
        subst k3
        clear HV h1 h2 k1 k2
        generalize Tok.symsL.contains x = r at *
        go_enter Tryz.func54, Tryz.ntmps54
        go_wp2_with fail
        have hsl : Tok.symsL.length = 24 := rfl
        have h4 : ∀ (n : Nat) (W : World), W.heap.size = n → Calls Tryz.prog 80 #[.slice (some ⟨n, 0, none⟩) 24 24, .string (str x)] (symW W) fun e w' => e = .returned (.bool r) ∧ symW W = w' := fun n W h => h3 _ _ 24 (symW_on W n h)
        have hcell : (w.alloc (.cells #[.int .i64 3, .string (str x)] 45)).cell? ⟨w.heap.size, 1, none⟩ = some (.string (str x)) := by go_simp
        have hkeep : ∀ W : World, W.cell? ⟨w.heap.size, 1, none⟩ = some (.string (str x)) → w.heap.size < W.heap.size → (symW W).cell? ⟨w.heap.size, 1, none⟩ = some (.string (str x)) := fun W h hl => ((symW_below W).cell (p := ⟨w.heap.size, 1, none⟩) hl).trans h
        clear h3 hsl
        go_region_held3 (fun w' => w'.cell? ⟨w.heap.size, 1, none⟩ = some (.string (str x))) (first | go_keep | (exact hkeep _ hcell (by simp))) (first | (go_at_call 81; with_reducible refine (symbols_any _).mono ?_; rintro e w5 ⟨rfl, rfl⟩) | (go_at_call 80; refine (h4 _ _ (by simp)).mono ?_; rintro e w5 ⟨rfl, rfl⟩))
        all_goals
          have hb1 : Below w.heap.size w (symW (w.alloc (.cells #[.int .i64 3, .string (str x)] 45)).drew) := hb0.drew.trans ((symW_below _).mono (by simp))
          go_wp2_with fail
          go_ret
          exact ⟨ret_bool (by rw [HT.out]), hb1⟩
      · have HT := Lib.hid (show v = false by rw [HV.out, if_neg k1, if_neg k2, if_neg k3])
        have q1 : (k == 1) = false := by rw [beq_eq_false_iff_ne]; exact k1
        have q2 : (k == 2) = false := by rw [beq_eq_false_iff_ne]; exact k2
        have q3 : (k == 3) = false := by rw [beq_eq_false_iff_ne]; exact k3
        clear HV h1 h2 h3 k1 k2 k3
        go_enter Tryz.func54, Tryz.ntmps54
        go_wp2_with fail
        go_ret
        exact ⟨ret_bool (by rw [HT.out]), hb0⟩
end Go.Proofs.YtndehkoglgakpaaGreatDoor
