/- The reference's token at the beginning of a string. No condition but the string's length. -/
import Derived.Test.YtndehkoglgakpaaGreatDoorRefN
namespace Go.Proofs.YtndehkoglgakpaaGreatDoor
open Go.RowKit
namespace Tok
/-- A row is a beginning. -/
def pfx (x l : List UInt8) : Prop := x.length ≤ l.length ∧ l.take x.length = x
theorem sym_len : ∀ x ∈ symsL, x.length = 2 ∨ x.length = 1 := by decide
theorem sym_order : ∀ (i j : Nat) (hi : i < 24) (hj : j < 24), (symsL[i]'hi).length = 2 → (symsL[j]'hj).length = 1 → i < j := fun i j hi hj => (by decide : ∀ a b : Fin 24, (symsL[a.val]'a.isLt).length = 2 → (symsL[b.val]'b.isLt).length = 1 → a.val < b.val) ⟨i, hi⟩ ⟨j, hj⟩
theorem isSym_mem (x : List UInt8) : isSym x = true ↔ x ∈ symsL := by unfold isSym; exact List.contains_iff_mem
theorem symb_hit (l : List UInt8) (k : Nat) (hk : k < 24) (h : pfx (symsL[k]'hk) l) (hn : ∀ (j : Nat) (hj : j < 24), j < k → ¬ pfx (symsL[j]'hj) l) : symb l = symsL[k]'hk := by
  obtain ⟨h1, h2⟩ := h
  have hm : (symsL[k]'hk) ∈ symsL := List.getElem_mem hk
  unfold symb
  rcases sym_len _ hm with hl | hl
  · rw [hl] at h1 h2
    rw [if_pos ⟨h1, by rw [isSym_mem, h2]; exact hm⟩, h2]
  · rw [hl] at h1 h2
    rw [if_neg, if_pos ⟨h1, by rw [isSym_mem, h2]; exact hm⟩, h2]
    rintro ⟨h3, h4⟩
    rw [isSym_mem] at h4
    obtain ⟨i, hi, he⟩ := List.getElem_of_mem h4
    have hl2 : (symsL[i]'hi).length = 2 := by rw [he, List.length_take]; omega
    exact hn i hi (sym_order i k hi hk hl2 hl) ⟨by rw [hl2]; exact h3, by rw [hl2, he]⟩
theorem symb_miss (l : List UInt8) (hn : ∀ (j : Nat) (hj : j < 24), ¬ pfx (symsL[j]'hj) l) : symb l = [] := by
  have key : ∀ n, n ≤ l.length → ¬ isSym (l.take n) = true := fun n hle h => by
    rw [isSym_mem] at h
    obtain ⟨i, hi, he⟩ := List.getElem_of_mem h
    have hl2 : (symsL[i]'hi).length = n := by rw [he, List.length_take]; omega
    exact hn i hi ⟨by rw [hl2]; exact hle, by rw [hl2, he]⟩
  unfold symb
  rw [if_neg (fun h => key 2 h.1 h.2), if_neg (fun h => key 1 h.1 h.2)]
end Tok
theorem run_stop (p : UInt8 → Bool) (s : ByteArray) (k : Nat) (hk : k ≤ s.size) (ha : (s.data.toList.take k).all p = true) (h : ∀ hlt : k < s.size, p s[k] = false) : Tok.run p s.data.toList = k := by
  by_cases hlt : k < s.size
  · exact (run_step p s.data.toList _ _ k (get_s s k hlt) ha).2 (h hlt)
  · have hks : k = s.size := by omega
    rw [run_full _ _ (by rw [hks] at ha; rwa [List.take_of_length_le (show s.data.toList.length ≤ s.size from Nat.le_refl _)] at ha), size_data, hks]
set_option maxHeartbeats 4000000 in
set_option maxRecDepth 100000 in
theorem qNext_name (s : ByteArray) (w : World) (hs : s.size ≤ 1000000000) (h0 : 0 < s.size) (hl : Tok.isLet s[0] = true) :
    Calls Tryz.prog 70 #[.string s] w fun e w' => e = .returned (tokV (Tok.next s.data.toList)) ∧ Below w.heap.size w w' := by
  have HV := Lib.hid (show Tok.next s.data.toList = if 32 < Tok.run Tok.isIn s.data.toList then (⟨0, []⟩, 2) else (⟨1, s.data.toList.takeWhile Tok.isIn⟩, 0) by
    rw [next_def, head_s s h0, Option.map_some, if_pos (by rw [hl])]; rfl)
  generalize Tok.next s.data.toList = v at *
  have h1 := fun w => qLetter_any s[0] w
  rw [hl] at h1
  clear hl
  have hb0 : Below w.heap.size w (w.alloc (.cells #[.int .i64 0, .string ⟨#[]⟩] 45)) := (Below.refl _ _).alloc (Nat.le_refl _) _
  go_enter Tryz.func70, Tryz.ntmps70
  go_wp2_with (go_at_call 92; (with_reducible refine (h1 _).mono ?_); rintro e w' ⟨rfl, rfl⟩)
  clear h1
  go_loop [4] (fun i => ∃ k : Nat, k ≤ s.size ∧ i = .int .i64 k ∧ (s.data.toList.take k).all Tok.isIn = true) (fun i => s.size - (intOf i).toNat)
  case atStart => exact ⟨0, by omega, rfl, by simp⟩
  case round =>
    obtain ⟨k, hk, rfl, ha⟩ := hrel
    have fin : ∀ (h : ∀ hlt : k < s.size, Tok.isIn s[k] = false), v = if 32 < k then (⟨0, []⟩, 2) else (⟨1, s.data.toList.take k⟩, 0) := fun h => by
      have hr := run_stop Tok.isIn s k hk ha h
      rw [HV.out, hr, ← run_take, hr]
    have HX := Lib.hid (ext_take s k)
    have hxs : (s.extract 0 k).size = k := by rw [ext_take, str_size, List.length_take, size_data]; omega
    have HXS := Lib.hid hxs
    clear hxs
    by_cases hlt : k < s.size
    · have hst := run_step Tok.isIn s.data.toList _ _ k (get_s s k hlt) ha
      have HST := Lib.hid hst
      have hca := fun w => qLetter_any s[k] w
      have hcb := fun w => qDigit_any s[k] w
      clear hst ha
      have b1 : decide ((k : Int) < (s.size : Int)) = true := by simp; omega
      cases hva : Tok.isLet s[k]
      · rw [hva] at hca
        cases hvb : Tok.isDig s[k]
        · rw [hvb] at hcb
          have hin : Tok.isIn s[k] = false := by simp [Tok.isIn, hva, hvb]
          have HF := Lib.hid (fin (fun _ => hin))
          clear HST hva hvb hin fin HV
          by_cases h32 : 32 < k
          · have b2 : decide ((32 : Int) < (k : Int)) = true := by simp; omega
            have HF2 := Lib.hid (HF.out.trans (if_pos h32))
            clear HF
            go_wp2_with (first
              | (go_at_call 92; (with_reducible refine (hca _).mono ?_); rintro e w' ⟨rfl, rfl⟩)
              | (go_at_call 93; (with_reducible refine (hcb _).mono ?_); rintro e w' ⟨rfl, rfl⟩))
            exact bodyPost_ret (v := .tuple #[.agg #[.int .i64 0, .string ⟨#[]⟩], .int .i64 2]) (by simp [results, Tryz.results70, go_sem]) rfl ⟨by rw [HF2.out]; rfl, by first | exact hb0 | exact (hb0.setCell (by simp) _).setCell (by simp) _⟩
          · have b2 : decide ((32 : Int) < (k : Int)) = false := by simp; omega
            have HF2 := Lib.hid (HF.out.trans (if_neg h32))
            clear HF
            go_wp2_with (first
              | (go_at_call 92; (with_reducible refine (hca _).mono ?_); rintro e w' ⟨rfl, rfl⟩)
              | (go_at_call 93; (with_reducible refine (hcb _).mono ?_); rintro e w' ⟨rfl, rfl⟩))
            exact bodyPost_ret (v := .tuple #[.agg #[.int .i64 1, .string (s.extract 0 k)], .int .i64 0]) (by simp [results, Tryz.results70, go_sem]) rfl ⟨by rw [HF2.out, HX.out]; rfl, by first | exact (Below.refl _ _).alloc (Nat.le_refl _) _ | exact (hb0.setCell (by simp) _).setCell (by simp) _⟩
        · rw [hvb] at hcb
          have hin : Tok.isIn s[k] = true := by simp [Tok.isIn, hva, hvb]
          have HR := Lib.hid (HST.out.1 hin)
          clear HST hva hvb hin fin
          go_wp2_with (first
            | (go_at_call 92; (with_reducible refine (hca _).mono ?_); rintro e w' ⟨rfl, rfl⟩)
            | (go_at_call 93; (with_reducible refine (hcb _).mono ?_); rintro e w' ⟨rfl, rfl⟩))
          go_round
          case rel => exact ⟨k + 1, by omega, by go_num, HR.out⟩
          case measure => simp [intOf]; omega
      · rw [hva] at hca
        have hin : Tok.isIn s[k] = true := by simp [Tok.isIn, hva]
        have HR := Lib.hid (HST.out.1 hin)
        clear HST hva hin fin
        go_wp2_with (go_at_call 92; (with_reducible refine (hca _).mono ?_); rintro e w' ⟨rfl, rfl⟩)
        go_round
        case rel => exact ⟨k + 1, by omega, by go_num, HR.out⟩
        case measure => simp [intOf]; omega
    · have b1 : decide ((k : Int) < (s.size : Int)) = false := by simp; omega
      have HF := Lib.hid (fin (fun h => absurd h hlt))
      clear fin ha
      by_cases h32 : 32 < k
      · have b2 : decide ((32 : Int) < (k : Int)) = true := by simp; omega
        have HF2 := Lib.hid (HF.out.trans (if_pos h32))
        clear HF
        go_wp2_with fail
        exact bodyPost_ret (v := .tuple #[.agg #[.int .i64 0, .string ⟨#[]⟩], .int .i64 2]) (by simp [results, Tryz.results70, go_sem]) rfl ⟨by rw [HF2.out]; rfl, by first | exact hb0 | exact (hb0.setCell (by simp) _).setCell (by simp) _⟩
      · have b2 : decide ((32 : Int) < (k : Int)) = false := by simp; omega
        have HF2 := Lib.hid (HF.out.trans (if_neg h32))
        clear HF
        go_wp2_with fail
        exact bodyPost_ret (v := .tuple #[.agg #[.int .i64 1, .string (s.extract 0 k)], .int .i64 0]) (by simp [results, Tryz.results70, go_sem]) rfl ⟨by rw [HF2.out, HX.out]; rfl, by first | exact (Below.refl _ _).alloc (Nat.le_refl _) _ | exact (hb0.setCell (by simp) _).setCell (by simp) _⟩
set_option maxHeartbeats 4000000 in
set_option maxRecDepth 100000 in
theorem qNext_number (s : ByteArray) (w : World) (hs : s.size ≤ 1000000000) (h0 : 0 < s.size) (hl : Tok.isLet s[0] = false) (hd : Tok.isDig s[0] = true) :
    Calls Tryz.prog 70 #[.string s] w fun e w' => e = .returned (tokV (Tok.next s.data.toList)) ∧ Below w.heap.size w w' := by
  have HV := Lib.hid (show Tok.next s.data.toList = if (Tok.number (s.data.toList.takeWhile Tok.isDig)).2 ≠ 0 then (⟨0, []⟩, (Tok.number (s.data.toList.takeWhile Tok.isDig)).2) else if (s.data.toList.drop (Tok.run Tok.isDig s.data.toList)).head?.map Tok.isLet = some true then (⟨0, []⟩, 4) else (⟨2, s.data.toList.takeWhile Tok.isDig⟩, 0) by
    rw [next_def, head_s s h0, Option.map_some, Option.map_some, if_neg (by rw [hl]; simp), if_pos (by rw [hd]), ← dw_drop]; rfl)
  generalize Tok.next s.data.toList = v at *
  have h1 := fun w => qLetter_any s[0] w
  have h2 := fun w => qDigit_any s[0] w
  rw [hl] at h1
  rw [hd] at h2
  clear hl hd
  have hb0 : Below w.heap.size w (w.alloc (.cells #[.int .i64 0, .string ⟨#[]⟩] 45)) := (Below.refl _ _).alloc (Nat.le_refl _) _
  go_enter Tryz.func70, Tryz.ntmps70
  go_wp2_with (first
    | (go_at_call 92; (with_reducible refine (h1 _).mono ?_); rintro e w' ⟨rfl, rfl⟩)
    | (go_at_call 93; (with_reducible refine (h2 _).mono ?_); rintro e w' ⟨rfl, rfl⟩))
  clear h1 h2
  go_loop [5] (fun i => ∃ k : Nat, k ≤ s.size ∧ i = .int .i64 k ∧ (s.data.toList.take k).all Tok.isDig = true) (fun i => s.size - (intOf i).toNat)
  case atStart => exact ⟨0, by omega, rfl, by simp⟩
  case round =>
    obtain ⟨k, hk, rfl, ha⟩ := hrel
    have fin : ∀ (h : ∀ hlt : k < s.size, Tok.isDig s[k] = false), v = if (Tok.number (s.data.toList.take k)).2 ≠ 0 then (⟨0, []⟩, (Tok.number (s.data.toList.take k)).2) else if (s.data.toList.drop k).head?.map Tok.isLet = some true then (⟨0, []⟩, 4) else (⟨2, s.data.toList.take k⟩, 0) := fun h => by
      have hr := run_stop Tok.isDig s k hk ha h
      rw [HV.out, hr, ← run_take, hr]
    have hX := ext_take s k
    have hxs : (s.extract 0 k).size = k := by rw [ext_take, str_size, List.length_take, size_data]; omega
    have hnum := fun w => qNumber_any (s.extract 0 k) w (by omega)
    rw [hX, str_data] at hnum
    rw [← hX] at hnum
    unfold numV at hnum
    have HX := Lib.hid hX
    have HXS := Lib.hid hxs
    clear hxs hX
    by_cases hlt : k < s.size
    · have hst := run_step Tok.isDig s.data.toList _ _ k (get_s s k hlt) ha
      have HST := Lib.hid hst
      have hcb := fun w => qDigit_any s[k] w
      have hca := fun w => qLetter_any s[k] w
      have hh := head_drop s k hlt
      clear hst ha
      have b1 : decide ((k : Int) < (s.size : Int)) = true := by simp; omega
      cases hvb : Tok.isDig s[k]
      · rw [hvb] at hcb
        have hF := fin (fun _ => hvb)
        rw [hh] at hF
        generalize Tok.number (s.data.toList.take k) = N at *
        obtain ⟨nv, ne⟩ := N
        by_cases hne : ne ≠ 0
        · have HF2 := Lib.hid (hF.trans (if_pos hne))
          have b2 : (ne != 0) = true := by rw [bne_iff_ne]; exact hne
          clear HST hvb fin HV hF hne hh
          go_wp2_with (first
            | (go_at_call 93; (with_reducible refine (hcb _).mono ?_); rintro e w' ⟨rfl, rfl⟩)
            | (go_at_call 79; (with_reducible refine (hnum _).mono ?_); rintro e w' ⟨rfl, rfl⟩))
          exact bodyPost_ret (v := .tuple #[.agg #[.int .i64 0, .string ⟨#[]⟩], .int .i64 ne]) (by simp [results, Tryz.results70, go_sem]) rfl ⟨by rw [HF2.out]; rfl, by first | exact hb0 | exact (hb0.setCell (by simp) _).setCell (by simp) _⟩
        · have hF2 := hF.trans (if_neg hne)
          have hn0 : ne = 0 := Classical.not_not.1 hne
          subst hn0
          cases hva : Tok.isLet s[k]
          · rw [hva] at hca
            have HF3 := Lib.hid (show v = (⟨2, s.data.toList.take k⟩, 0) by rw [hF2]; simp [hva])
            clear HST hvb fin HV hF hF2 hne hh hva
            go_wp2_with (first
              | (go_at_call 93; (with_reducible refine (hcb _).mono ?_); rintro e w' ⟨rfl, rfl⟩)
              | (go_at_call 92; (with_reducible refine (hca _).mono ?_); rintro e w' ⟨rfl, rfl⟩)
              | (go_at_call 79; (with_reducible refine (hnum _).mono ?_); rintro e w' ⟨rfl, rfl⟩))
            exact bodyPost_ret (v := .tuple #[.agg #[.int .i64 2, .string (s.extract 0 k)], .int .i64 0]) (by simp [results, Tryz.results70, go_sem]) rfl ⟨by rw [HF3.out, HX.out]; rfl, by first | exact (Below.refl _ _).alloc (Nat.le_refl _) _ | exact (hb0.setCell (by simp) _).setCell (by simp) _⟩
          · rw [hva] at hca
            have HF3 := Lib.hid (show v = (⟨0, []⟩, 4) by rw [hF2]; simp [hva])
            clear HST hvb fin HV hF hF2 hne hh hva
            go_wp2_with (first
              | (go_at_call 93; (with_reducible refine (hcb _).mono ?_); rintro e w' ⟨rfl, rfl⟩)
              | (go_at_call 92; (with_reducible refine (hca _).mono ?_); rintro e w' ⟨rfl, rfl⟩)
              | (go_at_call 79; (with_reducible refine (hnum _).mono ?_); rintro e w' ⟨rfl, rfl⟩))
            exact bodyPost_ret (v := .tuple #[.agg #[.int .i64 0, .string ⟨#[]⟩], .int .i64 4]) (by simp [results, Tryz.results70, go_sem]) rfl ⟨by rw [HF3.out]; rfl, by first | exact hb0 | exact (hb0.setCell (by simp) _).setCell (by simp) _⟩
      · rw [hvb] at hcb
        have HR := Lib.hid (HST.out.1 hvb)
        clear HST hvb fin hh hca hnum
        go_wp2_with (go_at_call 93; (with_reducible refine (hcb _).mono ?_); rintro e w' ⟨rfl, rfl⟩)
        go_round
        case rel => exact ⟨k + 1, by omega, by go_num, HR.out⟩
        case measure => simp [intOf]; omega
    · have b1 : decide ((k : Int) < (s.size : Int)) = false := by simp; omega
      have hF := fin (fun h => absurd h hlt)
      rw [List.drop_of_length_le (show s.data.toList.length ≤ k by rw [size_data]; omega)] at hF
      generalize Tok.number (s.data.toList.take k) = N at *
      obtain ⟨nv, ne⟩ := N
      by_cases hne : ne ≠ 0
      · have HF2 := Lib.hid (hF.trans (if_pos hne))
        have b2 : (ne != 0) = true := by rw [bne_iff_ne]; exact hne
        clear fin HV hF hne ha
        go_wp2_with (go_at_call 79; (with_reducible refine (hnum _).mono ?_); rintro e w' ⟨rfl, rfl⟩)
        exact bodyPost_ret (v := .tuple #[.agg #[.int .i64 0, .string ⟨#[]⟩], .int .i64 ne]) (by simp [results, Tryz.results70, go_sem]) rfl ⟨by rw [HF2.out]; rfl, by first | exact hb0 | exact (hb0.setCell (by simp) _).setCell (by simp) _⟩
      · have hF2 := hF.trans (if_neg hne)
        have hn0 : ne = 0 := Classical.not_not.1 hne
        subst hn0
        have HF3 := Lib.hid (show v = (⟨2, s.data.toList.take k⟩, 0) by rw [hF2]; simp)
        clear fin HV hF hF2 hne ha
        go_wp2_with (go_at_call 79; (with_reducible refine (hnum _).mono ?_); rintro e w' ⟨rfl, rfl⟩)
        exact bodyPost_ret (v := .tuple #[.agg #[.int .i64 2, .string (s.extract 0 k)], .int .i64 0]) (by simp [results, Tryz.results70, go_sem]) rfl ⟨by rw [HF3.out, HX.out]; rfl, by first | exact (Below.refl _ _).alloc (Nat.le_refl _) _ | exact (hb0.setCell (by simp) _).setCell (by simp) _⟩
theorem pfx_str (s : ByteArray) (x : List UInt8) : Tok.pfx x s.data.toList ↔ (str x).size ≤ s.size ∧ s.extract 0 (str x).size = str x := by
  unfold Tok.pfx
  rw [str_size, size_data]
  constructor
  · rintro ⟨h1, h2⟩; exact ⟨h1, by rw [ext_take, h2]⟩
  · rintro ⟨h1, h2⟩; rw [ext_take] at h2; exact ⟨h1, str_inj h2⟩
set_option maxHeartbeats 4000000 in
set_option maxRecDepth 100000 in
theorem qNext_symbol (s : ByteArray) (w : World) (_hs : s.size ≤ 1000000000) (h0 : 0 < s.size) (hl : Tok.isLet s[0] = false) (hd : Tok.isDig s[0] = false) :
    Calls Tryz.prog 70 #[.string s] w fun e w' => e = .returned (tokV (Tok.next s.data.toList)) ∧ Below w.heap.size w w' := by
  have HV := Lib.hid (show Tok.next s.data.toList = if Tok.symb s.data.toList = [] then (⟨0, []⟩, 4) else (⟨3, Tok.symb s.data.toList⟩, 0) by
    rw [next_def, head_s s h0, Option.map_some, Option.map_some, if_neg (by rw [hl]; simp), if_neg (by rw [hd]; simp)])
  generalize Tok.next s.data.toList = v at *
  have h1 := fun w => qLetter_any s[0] w
  have h2 := fun w => qDigit_any s[0] w
  rw [hl] at h1
  rw [hd] at h2
  clear hl hd
  have hb0 : Below w.heap.size w (w.alloc (.cells #[.int .i64 0, .string ⟨#[]⟩] 45)) := (Below.refl _ _).alloc (Nat.le_refl _) _
  have hb1 : Below w.heap.size w (symW (w.alloc (.cells #[.int .i64 0, .string ⟨#[]⟩] 45))) := hb0.trans ((symW_below _).mono (by simp))
  have hS := symW_on (w.alloc (.cells #[.int .i64 0, .string ⟨#[]⟩] 45)) (w.heap.size + 1) (by simp)
  have hk2 := keep2 (symW_below (w.alloc (.cells #[.int .i64 0, .string ⟨#[]⟩] 45)))
  obtain ⟨hc0, hc1, hf0, hf1, _⟩ := hk2
  generalize hW : symW (w.alloc (.cells #[.int .i64 0, .string ⟨#[]⟩] 45)) = W at *
  have hsym : Calls Tryz.prog 81 #[] (w.alloc (.cells #[.int .i64 0, .string ⟨#[]⟩] 45)) fun e w' => e = .returned (.slice (some ⟨w.heap.size + 1, 0, none⟩) 24 24) ∧ W = w' := (symbols_any _).mono fun e w' ⟨h1, h2⟩ => ⟨by rw [h1]; simp, by rw [h2, hW]⟩
  clear hW
  go_enter Tryz.func70, Tryz.ntmps70
  go_wp2_with (first
    | (go_at_call 92; (with_reducible refine (h1 _).mono ?_); rintro e w' ⟨rfl, rfl⟩)
    | (go_at_call 93; (with_reducible refine (h2 _).mono ?_); rintro e w' ⟨rfl, rfl⟩)
    | (go_at_call 81; (with_reducible refine hsym.mono ?_); rintro e w' ⟨rfl, rfl⟩))
  clear h1 h2 hsym
  have HN0 := Lib.hid hS
  clear hS
  go_loop [81] (fun i => ∃ k : Nat, k ≤ 24 ∧ i = .int .i64 k ∧ ∀ (j : Nat) (hj : j < 24), j < k → ¬ Tok.pfx (Tok.symsL[j]'hj) s.data.toList) (fun i => 24 - (intOf i).toNat)
  case atStart => exact ⟨0, by omega, rfl, fun j _ h => by omega⟩
  case round =>
    obtain ⟨k, hk, rfl, ha⟩ := hrel
    have HA := Lib.hid ha
    clear ha
    by_cases hlt : k < 24
    · obtain ⟨g, o, hgo, hg, hcell⟩ := HN0.out k hlt
      obtain ⟨rfl, rfl⟩ : w.heap.size + 1 = g ∧ 0 = o := by simpa using hgo
      rw [Nat.zero_add] at hcell
      have b1 : decide ((k : Int) < 24) = true := by simp; omega
      have hp := pfx_str s (Tok.symsL[k]'hlt)
      have hne : Tok.symsL[k]'hlt ≠ [] := fun e => by
        have := Tok.sym_len _ (List.getElem_mem hlt)
        rw [e] at this; simp at this
      by_cases hpf : Tok.pfx (Tok.symsL[k]'hlt) s.data.toList
      · have HVV := Lib.hid (show v = (⟨3, Tok.symsL[k]'hlt⟩, 0) by
          rw [HV.out, Tok.symb_hit _ k hlt hpf HA.out, if_neg hne])
        obtain ⟨hp1, hp2⟩ := hp.1 hpf
        clear hp hpf hne HV HA hgo
        generalize hx : str (Tok.symsL[k]'hlt) = x at *
        have HX := Lib.hid hx
        clear hx
        have b2 : decide ((x.size : Int) ≤ (s.size : Int)) = true := by simp; omega
        have b2n : decide (x.size ≤ s.size) = true := by simp; omega
        go_wp2_with fail
        exact bodyPost_ret (v := .tuple #[.agg #[.int .i64 3, .string x], .int .i64 0]) (by simp [results, Tryz.results70, go_sem, hc0, hc1]) rfl ⟨by rw [HVV.out, ← HX.out]; rfl, by first | exact (hb1.setCell (by simp) _).setCell (by simp) _⟩
      · have HN := Lib.hid (show ∀ (j : Nat) (hj : j < 24), j < k + 1 → ¬ Tok.pfx (Tok.symsL[j]'hj) s.data.toList from fun j hj h => by
          by_cases e : j = k
          · subst e; exact hpf
          · exact HA.out j hj (by omega))
        have hq : ¬ ((str (Tok.symsL[k]'hlt)).size ≤ s.size ∧ s.extract 0 (str (Tok.symsL[k]'hlt)).size = str (Tok.symsL[k]'hlt)) := fun h => hpf (hp.2 h)
        clear hp hpf hne HV HA hgo
        generalize hx : str (Tok.symsL[k]'hlt) = x at *
        clear hx
        by_cases hsz : x.size ≤ s.size
        · have b2 : decide ((x.size : Int) ≤ (s.size : Int)) = true := by simp; omega
          have b2n : decide (x.size ≤ s.size) = true := by simp; omega
          have b3 : ((s.extract 0 x.size).toList == x.toList) = false := by
            rw [beq_eq_false_iff_ne]
            intro e
            rw [ByteArray.toList_eq, ByteArray.toList_eq] at e
            exact hq ⟨hsz, by rw [← str_of (s.extract 0 x.size), e, str_of]⟩
          clear hq
          go_wp2_with fail
          go_round
          case rel => exact ⟨k + 1, by omega, by go_num, HN.out⟩
          case measure => simp [intOf]; omega
        · have b2 : decide ((x.size : Int) ≤ (s.size : Int)) = false := by simp; omega
          have b2n : decide (x.size ≤ s.size) = false := by simp; omega
          clear hq
          go_wp2_with fail
          go_round
          case rel => exact ⟨k + 1, by omega, by go_num, HN.out⟩
          case measure => simp [intOf]; omega
    · have b1 : decide ((k : Int) < 24) = false := by simp; omega
      have HVV := Lib.hid (show v = (⟨0, []⟩, 4) by
        rw [HV.out, Tok.symb_miss _ (fun j hj => HA.out j hj (by omega)), if_pos rfl])
      clear HV HA
      go_wp2_with fail
      exact bodyPost_ret (v := .tuple #[.agg #[.int .i64 0, .string ⟨#[]⟩], .int .i64 4]) (by simp [results, Tryz.results70, go_sem, hc0, hc1]) rfl ⟨by rw [HVV.out]; rfl, by first | exact hb1 | exact (hb1.setCell (by simp) _).setCell (by simp) _⟩
theorem qNext_any (s : ByteArray) (w : World) (hs : s.size ≤ 1000000000) (h0 : 0 < s.size) :
    Calls Tryz.prog 70 #[.string s] w fun e w' => e = .returned (tokV (Tok.next s.data.toList)) ∧ Below w.heap.size w w' := by
  cases hl : Tok.isLet s[0]
  · cases hd : Tok.isDig s[0]
    · exact qNext_symbol s w hs h0 hl hd
    · exact qNext_number s w hs h0 hl hd
  · exact qNext_name s w hs h0 hl
end Go.Proofs.YtndehkoglgakpaaGreatDoor
