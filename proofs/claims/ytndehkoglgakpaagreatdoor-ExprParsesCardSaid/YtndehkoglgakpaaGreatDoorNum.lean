/- Name and Number of a string; the first symbol, name, number of a string. Condition: the library's error of ranges lies in its variable. -/
import Derived.Test.YtndehkoglgakpaaGreatDoorSym
import Derived.Test.YtndehkoglgakpaaGreatDoorShelf
namespace Go.Proofs.YtndehkoglgakpaaGreatDoor
open Go.RowKit

/-- The library's errors lie in their variables. -/
def Errs (w : World) : Prop := ∃ te pe, w.cell? ⟨2, 0, none⟩ = some (.iface te pe)
theorem Errs.below {w w' : World} (h : Errs w) (hb : Below w.heap.size w w') : Errs w' := by
  obtain ⟨te, pe, hc⟩ := h
  have hlt := World.block_lt_of_cell? w _ hc
  exact ⟨te, pe, (hb.cell hlt).trans hc⟩
theorem isName_def (l : List UInt8) : Tok.nameOk l = (decide (l ≠ [] ∧ l.length ≤ 32) && (l.head?.map Tok.isLet == some true) && decide (Tok.run Tok.isIn l = l.length)) := rfl
theorem head_s (s : ByteArray) (h : 0 < s.size) : s.data.toList.head? = some s[0] := by
  have := get_s s 0 h
  rw [List.drop_zero] at this
  rw [this]; rfl
theorem nil_s (s : ByteArray) : s.data.toList = [] ↔ s.size = 0 := by rw [← List.length_eq_zero_iff]; rfl
set_option maxHeartbeats 2000000 in
set_option maxRecDepth 100000 in
theorem isName_any (s : ByteArray) (w : World) (hs : s.size ≤ 1000000000) :
    Calls Tryz.prog 71 #[.string s] w fun e w' => e = .returned (.bool (Tok.nameOk s.data.toList)) ∧ w = w' := by
  have HV := Lib.hid (isName_def s.data.toList)
  generalize Tok.nameOk s.data.toList = v at *
  have hrl := run_le Tok.isIn s.data.toList
  rw [size_data] at hrl
  have h2 := runIn_any s w hs
  by_cases h0 : s.size = 0
  · have hz : s = ⟨#[]⟩ := by rw [← str_of s, (nil_s s).2 h0]; rfl
    subst hz
    have HT := Lib.hid (show v = false by rw [HV.out]; rfl)
    clear HV h2 hrl
    go_enter Tryz.func71, Tryz.ntmps71
    go_wp2
    go_ret
    exact ⟨ret_bool (by rw [HT.out]), rfl⟩
  · have hpos : 0 < s.size := by omega
    have h1 := letter_at s[0] w
    have HV2 := Lib.hid (show v = (decide (s.size ≤ 32) && Tok.isLet s[0] && decide (Tok.run Tok.isIn s.data.toList = s.size)) by
      rw [HV.out, head_s s hpos, size_data]
      have hne : s.data.toList ≠ [] := fun e => h0 ((nil_s s).1 e)
      simp only [hne, ne_eq, not_false_eq_true, true_and, Option.map_some]
      cases Tok.isLet s[0] <;> rfl)
    have hq1 : ¬ s.toList = [] := fun e => h0 ((nil_s s).1 (by rw [← ByteArray.toList_eq]; exact e))
    have hq2 : s.toList.isEmpty = false := by rw [List.isEmpty_eq_false_iff]; exact hq1
    clear HV h0
    generalize Tok.run Tok.isIn s.data.toList = R at *
    by_cases h3 : s.size ≤ 32
    · have b3 : decide ((s.size : Int) ≤ 32) = true := by simp; omega
      cases hv : Tok.isLet s[0]
      · rw [hv] at h1
        have HT := Lib.hid (show v = false by rw [HV2.out, hv]; simp)
        clear HV2 hv
        go_enter Tryz.func71, Tryz.ntmps71
        go_wp2_with (go_at_call 94; (with_reducible refine h1.mono ?_); rintro e w' ⟨rfl, rfl⟩)
        all_goals
          go_ret
          exact ⟨ret_bool (by rw [HT.out]), rfl⟩
      · rw [hv] at h1
        by_cases h4 : R = s.size
        · have HT := Lib.hid (show v = true by rw [HV2.out, hv]; simp [h3, h4])
          have b4 : ((R : Int) == (s.size : Int)) = true := by rw [beq_iff_eq]; omega
          have HH := Lib.hid h4
          clear HV2 hv h4
          go_enter Tryz.func71, Tryz.ntmps71
          go_wp2_with (first
            | (go_at_call 94; (with_reducible refine h1.mono ?_); rintro e w' ⟨rfl, rfl⟩)
            | (go_at_call 95; (with_reducible refine h2.mono ?_); rintro e w' ⟨rfl, rfl⟩))
          all_goals
            go_ret
            exact ⟨ret_bool (by rw [HT.out]; try (have := HH.out; simp; omega)), rfl⟩
        · have HT := Lib.hid (show v = false by rw [HV2.out, hv]; simp [h4])
          have b4 : ((R : Int) == (s.size : Int)) = false := by rw [beq_eq_false_iff_ne]; omega
          have HH := Lib.hid h4
          clear HV2 hv h4
          go_enter Tryz.func71, Tryz.ntmps71
          go_wp2_with (first
            | (go_at_call 94; (with_reducible refine h1.mono ?_); rintro e w' ⟨rfl, rfl⟩)
            | (go_at_call 95; (with_reducible refine h2.mono ?_); rintro e w' ⟨rfl, rfl⟩))
          all_goals
            go_ret
            exact ⟨ret_bool (by rw [HT.out]; try (have := HH.out; simp; omega)), rfl⟩
    · have b3 : decide ((s.size : Int) ≤ 32) = false := by simp; omega
      have HT := Lib.hid (show v = false by rw [HV2.out]; simp [h3])
      clear HV2
      go_enter Tryz.func71, Tryz.ntmps71
      go_wp2
      all_goals
        go_ret
        exact ⟨ret_bool (by rw [HT.out]), rfl⟩
/-- Whether a string is an identifier. -/
def idOk (l : List UInt8) : Bool := Tok.nameOk l && !Tok.isKw l
set_option maxHeartbeats 2000000 in
set_option maxRecDepth 100000 in
theorem name_any (s : ByteArray) (w : World) (hs : s.size ≤ 1000000000) :
    Calls Tryz.prog 56 #[.string s] w fun e w' => e = .returned (.bool (idOk s.data.toList)) ∧ w = w' := by
  have h1 := isName_any s w hs
  have h2 := kw_any s w
  unfold idOk
  generalize Tok.nameOk s.data.toList = a at *
  generalize Tok.isKw s.data.toList = b at *
  cases a
  · go_enter Tryz.func56, Tryz.ntmps56
    go_wp2_with (go_at_call 71; (with_reducible refine h1.mono ?_); rintro e w' ⟨rfl, rfl⟩)
    go_ret
    exact ⟨rfl, rfl⟩
  · go_enter Tryz.func56, Tryz.ntmps56
    go_wp2_with (first
      | (go_at_call 71; (with_reducible refine h1.mono ?_); rintro e w' ⟨rfl, rfl⟩)
      | (go_at_call 86; (with_reducible refine h2.mono ?_); rintro e w' ⟨rfl, rfl⟩))
    go_ret
    exact ⟨rfl, rfl⟩
/-- What Number returns. -/
def numV (l : List UInt8) : Value := .tuple #[.int .u32 ((Tok.number l).1 : Int), .int .i64 (Tok.number l).2]
theorem number_def (l : List UInt8) : Tok.number l = if l = [] ∨ Tok.run Tok.isDig l < l.length ∨ (l.head? = some 48 ∧ l ≠ [48]) then (0, 4) else if 4294967295 < Tok.val l then (0, 3) else (Tok.val l, 0) := rfl
theorem one_s (s : ByteArray) : s.toList = [48] ↔ s.data.toList = [48] := by rw [ByteArray.toList_eq]
set_option maxHeartbeats 2000000 in
set_option maxRecDepth 100000 in
theorem number_any (s : ByteArray) (w : World) (hs : s.size ≤ 1000000000) (hE : Errs w) :
    Calls Tryz.prog 72 #[.string s] w fun e w' => e = .returned (numV s.data.toList) ∧ Below w.heap.size w w' := by
  unfold numV
  have HV := Lib.hid (number_def s.data.toList)
  have hpn := Tok.parse_number s.data.toList
  have hrl := run_le Tok.isDig s.data.toList
  rw [size_data] at hrl
  have h2 := runDig_any s w hs
  by_cases h0 : s.size = 0
  · have hz : s = ⟨#[]⟩ := by rw [← str_of s, (nil_s s).2 h0]; rfl
    subst hz
    have HT := Lib.hid (show Tok.number (⟨#[]⟩ : ByteArray).data.toList = (0, 4) by rfl)
    clear HV h2 hrl hpn
    go_enter Tryz.func72, Tryz.ntmps72
    go_wp2
    go_ret2
    exact ⟨by rw [HT.out]; rfl, Below.refl _ _⟩
  · have hpos : 0 < s.size := by omega
    have hq1 : ¬ s.toList = [] := fun e => h0 ((nil_s s).1 (by rw [← ByteArray.toList_eq]; exact e))
    have hq2 : s.toList.isEmpty = false := by rw [List.isEmpty_eq_false_iff]; exact hq1
    have hne : s.data.toList ≠ [] := fun e => h0 ((nil_s s).1 e)
    have hhd := head_s s hpos
    have hone := one_s s
    rw [hhd, size_data] at HV
    generalize Tok.run Tok.isDig s.data.toList = R at *
    by_cases h3 : R < s.size
    · have b3 : decide ((R : Int) < s.size) = true := by simp; omega
      have b3n : decide (R < s.size) = true := by simp; omega
      have HT := Lib.hid (show Tok.number s.data.toList = (0, 4) by rw [HV.out, if_pos (.inr (.inl h3))])
      clear HV hpn hhd hone hne h0
      go_enter Tryz.func72, Tryz.ntmps72
      go_wp2_with (go_at_call 95; (with_reducible refine h2.mono ?_); rintro e w' ⟨rfl, rfl⟩)
      all_goals
        go_ret2
        exact ⟨by rw [HT.out]; rfl, Below.refl _ _⟩
    · have b3 : decide ((R : Int) < s.size) = false := by simp; omega
      have b3n : decide (R < s.size) = false := by simp; omega
      have h4d : (s[0] = 48 ∧ s.data.toList ≠ [48]) ∨ ¬ (s[0] = 48 ∧ s.data.toList ≠ [48]) := Classical.em _
      rcases h4d with ⟨h4, h5⟩ | h4
      · have b4 : ((s[0].toNat : Int) == 48) = true := by rw [h4]; rfl
        have b4n : (s[0].toNat == 48) = true := by rw [h4]; rfl
        have h6 : ¬ s.toList = [48] := fun e => h5 (hone.1 e)
        have b6 : (s.toList == [48]) = false := by rw [beq_eq_false_iff_ne]; exact h6
        have HT := Lib.hid (show Tok.number s.data.toList = (0, 4) by rw [HV.out, if_pos (.inr (.inr ⟨by rw [h4], h5⟩))])
        clear HV hpn hhd hone hne h0 h4 h5
        go_enter Tryz.func72, Tryz.ntmps72
        go_wp2_with (go_at_call 95; (with_reducible refine h2.mono ?_); rintro e w' ⟨rfl, rfl⟩)
        all_goals
          go_ret2
          exact ⟨by rw [HT.out]; rfl, Below.refl _ _⟩
      · have hcond : ¬ (s.data.toList = [] ∨ R < s.size ∨ (some s[0] = some 48 ∧ s.data.toList ≠ [48])) := by
          rintro (e | e | ⟨e1, e2⟩)
          · exact hne e
          · exact h3 e
          · exact h4 ⟨Option.some.inj e1, e2⟩
        have hv2 := HV.out
        rw [if_neg hcond] at hv2
        have hp := hpn (by rw [hv2]; split <;> simp)
        have h4d : (((s[0].toNat : Int) == 48) = false ∧ (s[0].toNat == 48) = false) ∨ (((s[0].toNat : Int) == 48) = true ∧ (s[0].toNat == 48) = true ∧ s.toList = [48]) := by
          by_cases h5 : s[0] = 48
          · right
            refine ⟨by rw [h5]; rfl, by rw [h5]; rfl, hone.2 ?_⟩
            by_cases h6 : s.data.toList = [48]
            · exact h6
            · exact absurd ⟨h5, h6⟩ h4
          · left
            have : s[0].toNat ≠ 48 := fun e => h5 (UInt8.toNat_inj.1 e)
            exact ⟨by rw [beq_eq_false_iff_ne]; omega, by rw [beq_eq_false_iff_ne]; exact this⟩
        obtain ⟨te, pe, hcell⟩ := hE
        by_cases hbig : 4294967295 < Tok.val s.data.toList
        · have HT := Lib.hid (show Tok.number s.data.toList = (0, 3) by rw [hv2, if_pos hbig])
          rw [if_pos hbig] at hp
          have hcall := Tryz.strconv_ParseUint_10_at32_range s (by omega) hp _ w hcell (.inr ⟨te, pe, rfl⟩)
          clear HV hpn hhd hone hne h0 h4 hv2 hp hcond hbig hcell
          rcases h4d with ⟨b4, b4n⟩ | ⟨b4, b4n, h6⟩
          · go_enter Tryz.func72, Tryz.ntmps72
            go_wp2_with (first
              | (go_at_call 95; (with_reducible refine h2.mono ?_); rintro e w' ⟨rfl, rfl⟩)
              | (go_at_call 98; (with_reducible refine hcall.mono ?_); rintro e w' ⟨N, rfl, _, _, hb⟩))
            go_ret2
            exact ⟨by rw [HT.out]; rfl, hb⟩
          · have b6 : (s.toList == [48]) = true := by rw [beq_iff_eq]; exact h6
            have H6 := Lib.hid h6
            clear h6
            go_enter Tryz.func72, Tryz.ntmps72
            go_wp2_with (first
              | (go_at_call 95; (with_reducible refine h2.mono ?_); rintro e w' ⟨rfl, rfl⟩)
              | (go_at_call 98; (with_reducible refine hcall.mono ?_); rintro e w' ⟨N, rfl, _, _, hb⟩))
            go_ret2
            exact ⟨by rw [HT.out]; rfl, hb⟩
        · have HT := Lib.hid (show Tok.number s.data.toList = (Tok.val s.data.toList, 0) by rw [hv2, if_neg hbig])
          rw [if_neg hbig] at hp
          have hcall := Tryz.strconv_ParseUint_10_at32_ok s (by omega) _ hp w
          have hle : Tok.val s.data.toList ≤ 4294967295 := by omega
          generalize Tok.val s.data.toList = V at *
          clear HV hpn hhd hone hne h0 h4 hv2 hp hcond hbig hcell
          rcases h4d with ⟨b4, b4n⟩ | ⟨b4, b4n, h6⟩
          · go_enter Tryz.func72, Tryz.ntmps72
            go_wp2_with (first
              | (go_at_call 95; (with_reducible refine h2.mono ?_); rintro e w' ⟨rfl, rfl⟩)
              | (go_at_call 98; (with_reducible refine hcall.mono ?_); rintro e w' ⟨rfl, hb⟩))
            go_ret2
            refine ⟨by rw [HT.out]; rfl, ?_⟩
            rcases hb with rfl | rfl
            · exact Below.refl _ _
            · exact Lib.bytesWorld_below _ _ _
          · have b6 : (s.toList == [48]) = true := by rw [beq_iff_eq]; exact h6
            have H6 := Lib.hid h6
            clear h6
            go_enter Tryz.func72, Tryz.ntmps72
            go_wp2_with (first
              | (go_at_call 95; (with_reducible refine h2.mono ?_); rintro e w' ⟨rfl, rfl⟩)
              | (go_at_call 98; (with_reducible refine hcall.mono ?_); rintro e w' ⟨rfl, hb⟩))
            go_ret2
            refine ⟨by rw [HT.out]; rfl, ?_⟩
            rcases hb with rfl | rfl
            · exact Below.refl _ _
            · exact Lib.bytesWorld_below _ _ _
end Go.Proofs.YtndehkoglgakpaaGreatDoor
