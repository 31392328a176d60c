/- The reference's letters, names and numbers. No condition but the string's length. -/
import Derived.Test.YtndehkoglgakpaaGreatDoorSam
namespace Go.Proofs.YtndehkoglgakpaaGreatDoor
open Go.RowKit

set_option maxHeartbeats 1000000 in
set_option maxRecDepth 100000 in
theorem qLetter_any (c : UInt8) (w : World) :
    Calls Tryz.prog 92 #[.int .u8 (c.toNat : Int)] w fun e w' => e = .returned (.bool (Tok.isLet c)) ∧ w = w' := by
  have hc := c.toNat_lt
  have HV := Lib.hid (show Tok.isLet c = decide ((97 ≤ c.toNat ∧ c.toNat ≤ 122) ∨ c.toNat = 95) from rfl)
  generalize Tok.isLet c = v at *
  rcases Nat.lt_or_ge c.toNat 97 with h1 | h1
  · by_cases h2 : c.toNat = 95
    · have q : ((c.toNat : Int) == 95) = true := by rw [beq_iff_eq]; omega
      have HT := Lib.hid (show v = true by rw [HV.out]; simp; omega)
      clear h2 HV
      go_enter Tryz.func92, Tryz.ntmps92
      go_wp2
      go_ret
      exact ⟨ret_bool (by rw [HT.out]), rfl⟩
    · have q : ((c.toNat : Int) == 95) = false := by rw [beq_eq_false_iff_ne]; omega
      have HT := Lib.hid (show v = false by rw [HV.out]; simp; omega)
      clear h2 HV
      go_enter Tryz.func92, Tryz.ntmps92
      go_wp2
      go_ret
      exact ⟨ret_bool (by rw [HT.out]), rfl⟩
  · rcases Nat.lt_or_ge 122 c.toNat with h3 | h3
    · have q2 : decide ((c.toNat : Int) ≤ 122) = false := by simp; omega
      have q : ((c.toNat : Int) == 95) = false := by rw [beq_eq_false_iff_ne]; omega
      have HT := Lib.hid (show v = false by rw [HV.out]; simp; omega)
      clear HV
      go_enter Tryz.func92, Tryz.ntmps92
      go_wp2
      go_ret
      exact ⟨ret_bool (by rw [HT.out]), rfl⟩
    · have q2 : decide ((c.toNat : Int) ≤ 122) = true := by simp; omega
      have HT := Lib.hid (show v = true by rw [HV.out]; simp; omega)
      clear HV
      go_enter Tryz.func92, Tryz.ntmps92
      go_wp2
      go_ret
      exact ⟨ret_bool (by rw [HT.out]), rfl⟩
set_option maxHeartbeats 1000000 in
set_option maxRecDepth 100000 in
theorem qDigit_any (c : UInt8) (w : World) :
    Calls Tryz.prog 93 #[.int .u8 (c.toNat : Int)] w fun e w' => e = .returned (.bool (Tok.isDig c)) ∧ w = w' := by
  have hc := c.toNat_lt
  have HV := Lib.hid (show Tok.isDig c = decide (48 ≤ c.toNat ∧ c.toNat ≤ 57) from rfl)
  generalize Tok.isDig c = v at *
  rcases Nat.lt_or_ge c.toNat 48 with h1 | h1
  · have HT := Lib.hid (show v = false by rw [HV.out]; simp; omega)
    clear HV
    go_enter Tryz.func93, Tryz.ntmps93
    go_wp2
    go_ret
    exact ⟨ret_bool (by rw [HT.out]), rfl⟩
  · rcases Nat.lt_or_ge 57 c.toNat with h3 | h3
    · have q2 : decide ((c.toNat : Int) ≤ 57) = false := by simp; omega
      have HT := Lib.hid (show v = false by rw [HV.out]; simp; omega)
      clear HV
      go_enter Tryz.func93, Tryz.ntmps93
      go_wp2
      go_ret
      exact ⟨ret_bool (by rw [HT.out]), rfl⟩
    · have q2 : decide ((c.toNat : Int) ≤ 57) = true := by simp; omega
      have HT := Lib.hid (show v = true by rw [HV.out]; simp; omega)
      clear HV
      go_enter Tryz.func93, Tryz.ntmps93
      go_wp2
      go_ret
      exact ⟨ret_bool (by rw [HT.out]), rfl⟩
/-- The slice value's cells are these strings; they lie below block B. -/
def StrsAt (w : World) (B : Nat) (A : Option Addr) (ss : List (List UInt8)) : Prop := ∀ i (h : i < ss.length), ∃ g o, A = some ⟨g, o, none⟩ ∧ g < B ∧ w.cell? ⟨g, o + i, none⟩ = some (.string (str ss[i]))
set_option maxHeartbeats 2000000 in
set_option maxRecDepth 100000 in
theorem has_any (A : Option Addr) (c : Nat) (ss : List (List UInt8)) (s : ByteArray) (w : World) (hl : ss.length ≤ 1000) (hA : StrsAt w w.heap.size A ss) :
    Calls Tryz.prog 80 #[.slice A ss.length c, .string s] w fun e w' => e = .returned (.bool (ss.contains s.data.toList)) ∧ w = w' := by
  have HV := Lib.hid (show ss.contains s.data.toList = ss.contains s.data.toList from rfl)
  generalize hv : ss.contains s.data.toList = v at *
  have HV2 := Lib.hid hv
  clear hv HV
  go_enter Tryz.func80, Tryz.ntmps80
  go_wp2_with fail
  go_loop [9] (fun i => ∃ k : Nat, k ≤ ss.length ∧ i = .int .i64 k ∧ (ss.take k).contains s.data.toList = false) (fun i => ss.length - (intOf i).toNat)
  case atStart => exact ⟨0, by omega, rfl, by simp⟩
  case round =>
    obtain ⟨k, hk, rfl, hc⟩ := hrel
    by_cases hlt : k < ss.length
    · have b1 : decide ((k : Int) < ss.length) = true := by simp; omega
      obtain ⟨g, o, rfl, hg, hcell⟩ := hA k hlt
      by_cases heq : ss[k] = s.data.toList
      · have hv : v = true := by
          rw [← HV2.out, List.contains_iff_mem, ← heq]; exact List.getElem_mem hlt
        have HV3 := Lib.hid hv
        rw [heq, str_of] at hcell
        clear heq hv hc hA
        go_wp2_with fail
        go_ret
        exact ⟨ret_bool (by rw [HV3.out]), rfl⟩
      · have hsn : (ss.take (k + 1)).contains s.data.toList = false := by
          rw [List.take_succ_eq_append_getElem hlt]
          have hcm : ¬ s.data.toList ∈ ss.take k := fun hm => by
            have := List.contains_iff_mem.2 hm
            rw [hc] at this; cases this
          rw [Bool.eq_false_iff]
          intro hx
          rw [List.contains_iff_mem] at hx
          rw [List.mem_append] at hx
          rcases hx with hx | hx
          · exact hcm hx
          · simp at hx; exact heq hx.symm
        have HSN := Lib.hid hsn
        generalize hx : str ss[k] = x at *
        have hne : x ≠ s := fun e => heq (by rw [← str_data ss[k], hx, e])
        have hq : (x.toList == s.toList) = false := by
          rw [beq_eq_false_iff_ne]
          intro e
          rw [ByteArray.toList_eq, ByteArray.toList_eq] at e
          exact hne (by rw [← str_of x, e, str_of])
        clear hsn hc heq hx hA hne
        go_wp2_with fail
        go_round
        case rel => exact ⟨k + 1, by omega, by go_num, HSN.out⟩
        case measure => simp [intOf]; omega
    · have b1 : decide ((k : Int) < ss.length) = false := by simp; omega
      have hk2 : k = ss.length := by omega
      have HR := Lib.hid (show v = false by rw [← HV2.out]; rw [hk2, List.take_length] at hc; exact hc)
      clear hc hk2 hA
      go_wp2_with fail
      go_ret
      exact ⟨ret_bool (by rw [HR.out]), rfl⟩
theorem strs_new (w : World) (t : TypeId) (ss : List (List UInt8)) (vs : Array Value) (h : vs.toList = ss.map fun l => Value.string (str l)) : StrsAt (w.alloc (.cells vs t)) (w.alloc (.cells vs t)).heap.size (some ⟨w.heap.size, 0, none⟩) ss := fun i hi => by
  refine ⟨w.heap.size, 0, rfl, by simp, ?_⟩
  rw [cell_of_row _ _ _ _ _ _ (heap_alloc_new w _), Nat.zero_add, ← Array.getElem?_toList, h]
  simp [hi]
theorem StrsAt.drew {w w' : World} {B B' : Nat} {A : Option Addr} {ss : List (List UInt8)} (h : StrsAt w B A ss) (hb : Below B' w w') (hB : B ≤ B') : StrsAt w' B A ss := fun i hi => by
  obtain ⟨g, o, e, hg, hc⟩ := h i hi
  exact ⟨g, o, e, hg, (hb.cell (p := ⟨g, o + i, none⟩) (by show g < B'; omega)).trans hc⟩
def symW (w : World) : World := w.alloc (.cells #[.string ⟨#[124, 124]⟩, .string ⟨#[38, 38]⟩, .string ⟨#[61, 61]⟩, .string ⟨#[33, 61]⟩, .string ⟨#[60, 61]⟩, .string ⟨#[62, 61]⟩, .string ⟨#[60, 60]⟩, .string ⟨#[62, 62]⟩, .string ⟨#[124]⟩, .string ⟨#[94]⟩, .string ⟨#[38]⟩, .string ⟨#[60]⟩, .string ⟨#[62]⟩, .string ⟨#[43]⟩, .string ⟨#[45]⟩, .string ⟨#[42]⟩, .string ⟨#[47]⟩, .string ⟨#[37]⟩, .string ⟨#[126]⟩, .string ⟨#[33]⟩, .string ⟨#[40]⟩, .string ⟨#[41]⟩, .string ⟨#[44]⟩, .string ⟨#[61]⟩] 9)
set_option maxHeartbeats 2000000 in
set_option maxRecDepth 100000 in
theorem symbols_any (w : World) :
    Calls Tryz.prog 81 #[] w fun e w' => e = .returned (.slice (some ⟨w.heap.size, 0, none⟩) 24 24) ∧ w' = symW w := by
  go_enter Tryz.func81, Tryz.ntmps81
  go_wp2_with fail
  go_ret
  exact ⟨rfl, rfl⟩
theorem symW_at (w : World) : StrsAt (symW w) (symW w).heap.size (some ⟨w.heap.size, 0, none⟩) Tok.symsL := strs_new w _ _ _ rfl
theorem symW_on (w : World) (n : Nat) (h : w.heap.size = n) : StrsAt (symW w) (symW w).heap.size (some ⟨n, 0, none⟩) Tok.symsL := h ▸ symW_at w
theorem symW_below (w : World) : Below w.heap.size w (symW w) := (Below.refl _ _).alloc (Nat.le_refl _) _
def kwW (w : World) : World := w.alloc (.cells #[.string ⟨#[108, 101, 116]⟩, .string ⟨#[115, 101, 116]⟩, .string ⟨#[105, 102]⟩, .string ⟨#[101, 108, 115, 101]⟩, .string ⟨#[119, 104, 105, 108, 101]⟩, .string ⟨#[114, 101, 116, 117, 114, 110]⟩, .string ⟨#[100, 111]⟩, .string ⟨#[111, 117, 116]⟩, .string ⟨#[115, 116, 111, 114, 101]⟩, .string ⟨#[108, 111, 97, 100]⟩, .string ⟨#[105, 110]⟩, .string ⟨#[105, 110, 99, 108, 117, 100, 101]⟩, .string ⟨#[100, 101, 102, 105, 110, 101]⟩, .string ⟨#[117, 110, 100, 101, 102]⟩, .string ⟨#[119, 104, 101, 110]⟩, .string ⟨#[117, 110, 108, 101, 115, 115]⟩, .string ⟨#[110, 111, 116, 101]⟩, .string ⟨#[101, 120, 116, 101, 114, 110]⟩, .string ⟨#[101, 120, 112, 111, 114, 116]⟩, .string ⟨#[119, 101, 97, 107]⟩, .string ⟨#[102, 110]⟩, .string ⟨#[100, 97, 116, 97]⟩] 9)
theorem kwW_at (w : World) : StrsAt (kwW w) (kwW w).heap.size (some ⟨w.heap.size, 0, none⟩) Tok.kwsL := strs_new w _ _ _ rfl
set_option maxHeartbeats 2000000 in
set_option maxRecDepth 100000 in
theorem qKeyword_any (s : ByteArray) (w : World) :
    Calls Tryz.prog 89 #[.string s] w fun e w' => e = .returned (.bool (Tok.isKw s.data.toList)) ∧ Below w.heap.size w w' := by
  have hcall : Calls Tryz.prog 80 #[.slice (some ⟨w.heap.size, 0, none⟩) 22 22, .string s] (kwW w) fun e w' => e = .returned (.bool (Tok.isKw s.data.toList)) ∧ kwW w = w' := has_any (some ⟨w.heap.size, 0, none⟩) 22 Tok.kwsL s (kwW w) (by decide) (kwW_at w)
  unfold kwW at hcall
  generalize Tok.isKw s.data.toList = v at *
  go_enter Tryz.func89, Tryz.ntmps89
  go_wp2_with fail
  refine hcall.mono ?_
  clear hcall
  rintro e w1 ⟨rfl, rfl⟩
  go_wp2_with fail
  go_ret
  exact ⟨rfl, (Below.refl _ _).alloc (Nat.le_refl _) _⟩
set_option maxHeartbeats 2000000 in
set_option maxRecDepth 100000 in
theorem qForm_any (s : ByteArray) (w : World) (hs : s.size ≤ 1000000000) :
    Calls Tryz.prog 78 #[.string s] w fun e w' => e = .returned (.bool (Tok.nameOk s.data.toList)) ∧ w = w' := by
  have HV := Lib.hid (isName_def s.data.toList)
  generalize Tok.nameOk s.data.toList = v at *
  have hrl := run_le Tok.isIn s.data.toList
  rw [size_data] at hrl
  by_cases h0 : s.size = 0
  · have hz : s = ⟨#[]⟩ := by rw [← str_of s, (nil_s s).2 h0]; rfl
    subst hz
    have HT := Lib.hid (show v = false by rw [HV.out]; rfl)
    clear HV hrl
    go_enter Tryz.func78, Tryz.ntmps78
    go_wp2
    go_ret
    exact ⟨ret_bool (by rw [HT.out]), rfl⟩
  · have hpos : 0 < s.size := by omega
    have h1 := qLetter_any s[0] w
    have HV2 := Lib.hid (show v = (decide (s.size ≤ 32) && Tok.isLet s[0] && decide (Tok.run Tok.isIn s.data.toList = s.size)) by
      rw [HV.out, head_s s hpos, size_data]
      have hne : s.data.toList ≠ [] := fun e => h0 ((nil_s s).1 e)
      simp only [hne, ne_eq, not_false_eq_true, true_and, Option.map_some]
      cases Tok.isLet s[0] <;> rfl)
    have b0 : decide ((s.size : Int) < 1) = false := by simp; omega
    clear HV h0
    by_cases h3 : s.size ≤ 32
    · have b3 : decide ((32 : Int) < s.size) = false := by simp; omega
      cases hv : Tok.isLet s[0]
      · rw [hv] at h1
        have HT := Lib.hid (show v = false by rw [HV2.out, hv]; simp)
        clear HV2 hv
        go_enter Tryz.func78, Tryz.ntmps78
        go_wp2_with (go_at_call 92; (with_reducible refine h1.mono ?_); rintro e w' ⟨rfl, rfl⟩)
        go_ret
        exact ⟨ret_bool (by rw [HT.out]), rfl⟩
      · rw [hv] at h1
        have HV3 := Lib.hid (show v = decide (Tok.run Tok.isIn s.data.toList = s.size) by rw [HV2.out, hv]; simp [h3])
        clear HV2 hv
        go_enter Tryz.func78, Tryz.ntmps78
        go_wp2_with (go_at_call 92; (with_reducible refine h1.mono ?_); rintro e w' ⟨rfl, rfl⟩)
        clear h1
        go_loop [3] (fun i => ∃ k : Nat, k ≤ s.size ∧ i = .int .i64 k ∧ (s.data.toList.take k).all Tok.isIn = true) (fun i => s.size - (intOf i).toNat)
        case atStart => exact ⟨0, by omega, rfl, by simp⟩
        case round =>
          obtain ⟨k, hk, rfl, ha⟩ := hrel
          by_cases hlt : k < s.size
          · have hst := run_step Tok.isIn s.data.toList _ _ k (get_s s k hlt) ha
            have HST := Lib.hid hst
            have hca := qLetter_any s[k] w
            have hcb := qDigit_any s[k] w
            clear hst ha
            have b1 : decide ((k : Int) < (s.size : Int)) = true := by simp; omega
            cases hva : Tok.isLet s[k]
            · rw [hva] at hca
              cases hvb : Tok.isDig s[k]
              · rw [hvb] at hcb
                have hin : Tok.isIn s[k] = false := by simp [Tok.isIn, hva, hvb]
                have HR := Lib.hid (show v = false by rw [HV3.out, HST.out.2 hin]; simp; omega)
                clear HST hva hvb hin
                go_wp2_with (first
                  | (go_at_call 92; (with_reducible refine hca.mono ?_); rintro e w' ⟨rfl, rfl⟩)
                  | (go_at_call 93; (with_reducible refine hcb.mono ?_); rintro e w' ⟨rfl, rfl⟩))
                go_ret
                exact ⟨ret_bool (by rw [HR.out]), rfl⟩
              · rw [hvb] at hcb
                have hin : Tok.isIn s[k] = true := by simp [Tok.isIn, hva, hvb]
                have HR := Lib.hid (HST.out.1 hin)
                clear HST hva hvb hin
                go_wp2_with (first
                  | (go_at_call 92; (with_reducible refine hca.mono ?_); rintro e w' ⟨rfl, rfl⟩)
                  | (go_at_call 93; (with_reducible refine hcb.mono ?_); rintro e w' ⟨rfl, rfl⟩))
                go_round
                case rel => exact ⟨k + 1, by omega, by go_num, HR.out⟩
                case measure => simp [intOf]; omega
            · rw [hva] at hca
              have hin : Tok.isIn s[k] = true := by simp [Tok.isIn, hva]
              have HR := Lib.hid (HST.out.1 hin)
              clear HST hva hin
              go_wp2_with (go_at_call 92; (with_reducible refine hca.mono ?_); rintro e w' ⟨rfl, rfl⟩)
              go_round
              case rel => exact ⟨k + 1, by omega, by go_num, HR.out⟩
              case measure => simp [intOf]; omega
          · have hks : k = s.size := by omega
            have HR := Lib.hid (show v = true by
              rw [HV3.out, run_full _ _ (by rw [hks] at ha; rwa [List.take_of_length_le (show s.data.toList.length ≤ s.size from Nat.le_refl _)] at ha)]; simp)
            clear ha hks
            have b1 : decide ((k : Int) < (s.size : Int)) = false := by simp; omega
            go_wp2_with fail
            go_ret
            exact ⟨ret_bool (by rw [HR.out]), rfl⟩
    · have b3 : decide ((32 : Int) < s.size) = true := by simp; omega
      have HT := Lib.hid (show v = false by rw [HV2.out]; simp [h3])
      clear HV2
      go_enter Tryz.func78, Tryz.ntmps78
      go_wp2
      go_ret
      exact ⟨ret_bool (by rw [HT.out]), rfl⟩
set_option maxHeartbeats 2000000 in
set_option maxRecDepth 100000 in
theorem qName_any (s : ByteArray) (w : World) (hs : s.size ≤ 1000000000) :
    Calls Tryz.prog 63 #[.string s] w fun e w' => e = .returned (.bool (idOk s.data.toList)) ∧ Below w.heap.size w w' := by
  have h1 := qForm_any s w hs
  have h2 := qKeyword_any s w
  unfold idOk
  generalize Tok.nameOk s.data.toList = a at *
  generalize Tok.isKw s.data.toList = b at *
  cases a
  · go_enter Tryz.func63, Tryz.ntmps63
    go_wp2_with (go_at_call 78; (with_reducible refine h1.mono ?_); rintro e w' ⟨rfl, rfl⟩)
    go_ret
    exact ⟨rfl, Below.refl _ _⟩
  · go_enter Tryz.func63, Tryz.ntmps63
    go_wp2_with (first
      | (go_at_call 78; (with_reducible refine h1.mono ?_); rintro e w' ⟨rfl, rfl⟩)
      | (go_at_call 89; (with_reducible refine h2.mono ?_); rintro e w' ⟨rfl, hb⟩))
    go_ret
    exact ⟨rfl, hb⟩
end Go.Proofs.YtndehkoglgakpaaGreatDoor
