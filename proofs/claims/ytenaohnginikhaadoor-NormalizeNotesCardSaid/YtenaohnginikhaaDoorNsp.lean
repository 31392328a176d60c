/- Split of the reference. No condition but the length. -/
import Derived.Test.YtenaohnginikhaaDoorNdv
namespace Go.Proofs.YtenaohnginikhaaDoor
open Go.RowKit Go.Deep Tr
namespace Nm
theorem lead_lt : ∀ (l : List UInt8) (j : Nat), j < lead l → ∀ (h : j < l.length), isLt l[j] = true := by
  intro l
  induction l with
  | nil => intro j _ h; simp at h
  | cons c r ih =>
    intro j hj h
    unfold lead at hj
    rw [List.takeWhile_cons] at hj
    cases hc : isLt c
    · rw [hc] at hj; simp at hj
    · rw [hc] at hj
      cases j with
      | zero => exact hc
      | succ j => exact ih j (by unfold lead; simpa using hj) (by simpa using h)
theorem lead_end : ∀ (l : List UInt8) (h : lead l < l.length), isLt l[lead l] = false := by
  intro l
  induction l with
  | nil => intro h; simp at h
  | cons c r ih =>
    intro h
    cases hc : isLt c
    · have e : lead (c :: r) = 0 := by unfold lead; rw [List.takeWhile_cons, hc]; rfl
      simp only [e]
      exact hc
    · have e : lead (c :: r) = lead r + 1 := by unfold lead; rw [List.takeWhile_cons, hc]; rfl
      simp only [e, List.length_cons] at h ⊢
      exact ih (by omega)
theorem lead_no {c : UInt8} (r : List UInt8) (h : isLt c = false) : lead (c :: r) = 0 := by unfold lead; rw [List.takeWhile_cons, h]; rfl
theorem lead_yes {c : UInt8} (r : List UInt8) (h : isLt c = true) : 1 ≤ lead (c :: r) := by unfold lead; rw [List.takeWhile_cons, h]; simp
theorem bl_lt {c : UInt8} (h : isBl c = true) : isLt c = false := by
  unfold isBl at h; unfold isLt
  rw [decide_eq_true_eq] at h
  exact decide_eq_false (by omega)
theorem lt_bl {c : UInt8} (h : isLt c = true) : isBl c = false := by
  cases hb : isBl c
  · rfl
  · rw [bl_lt hb] at h; cases h
theorem div_blank {c : UInt8} (r : List UInt8) (h : isBl c = true) : div (c :: r) = div r := by
  have e : wid (c :: r) = 1 := by unfold wid; rw [lead_no r (bl_lt h)]; rfl
  rw [div_next (by simp)]
  unfold one
  rw [e]
  have : (List.take 1 (c :: r)).any isBl = true := by simp [h]
  rw [if_pos this]
  rfl
theorem div_word {c : UInt8} (r : List UInt8) (h : isBl c = false) : div (c :: r) = (c :: r).take (wid (c :: r)) :: div ((c :: r).drop (wid (c :: r))) := by
  conv => lhs; rw [div_next (by simp)]
  unfold one
  have : ((c :: r).take (wid (c :: r))).any isBl = false := by
    rw [List.any_eq_false]
    intro x hx
    obtain ⟨j, hj, rfl⟩ := List.getElem_of_mem hx
    rw [List.length_take] at hj
    rw [List.getElem_take]
    by_cases h0 : j = 0
    · subst h0; rw [Bool.not_eq_true]; exact h
    · cases hc : isLt c
      · have e : wid (c :: r) = 1 := by unfold wid; rw [lead_no r hc]; rfl
        omega
      · have e : wid (c :: r) = lead (c :: r) := by unfold wid; have := lead_yes r hc; omega
        rw [Bool.not_eq_true]
        exact lt_bl (lead_lt _ j (by omega) (by omega))
  rw [if_neg (by rw [this]; decide)]
  rfl
set_option maxHeartbeats 16000000 in
set_option maxRecDepth 100000 in
theorem qsplit_any (s : ByteArray) (w : World) (hs : s.size ≤ 1000000) :
    Calls Tryd.prog 33 #[.string s] w (GotSs w (div s.data.toList)) := by
  obtain ⟨i0, hi0, hz0, hz1, hz2⟩ := info_parts infoStr
  have HV := Lib.hid (show div s.data.toList = [] ++ div (s.data.toList.drop 0) from rfl)
  generalize hV : div s.data.toList = V at *
  clear hV
  have HO0 := Lib.hid (own_emptyL w w.heap.size (Nat.le_refl _) 9 1)
  have HB0 := Lib.hid (show Below w.heap.size w (w.alloc (.cells #[] 9)) from (Below.refl _ _).alloc (Nat.le_refl _) _)
  go_enter Tryd.func33, Tryd.ntmps33
  go_wp2_with fail
  go_loopw [3, 4] (fun s3 s4 wr => ∃ (i : Nat) (O : List (List UInt8)), s4 = .int .i64 i ∧ i ≤ s.size ∧ O.length ≤ i ∧ V = O ++ div (s.data.toList.drop i) ∧ wr.ownsRow w.heap.size 9 1 s3 O.length (Ls.stsV O) ∧ Below w.heap.size w wr) (fun _ s4 _ => s.size - (intOf s4).toNat)
  case atStart => exact ⟨0, [], rfl, by omega, by simp, HV.out, HO0.out, HB0.out⟩
  case round =>
    clear HV HO0 HB0
    obtain ⟨i, O, rfl, hi, hOi, hS, hown, hb⟩ := hrel
    have hwX := hb.size
    obtain ⟨A3, c3, rfl, hc3, hm3, hEl⟩ := Ls.own_el (l := O) Ls.stV 1 Ls.stV_len hown
    by_cases hlt : i < s.size
    · have b1 : decide ((i : Int) < (s.size : Int)) = true := decide_eq_true (by omega)
      have b1n : decide (i < s.size) = true := decide_eq_true hlt
      have y1 : (i : Int) < (s.size : Int) := by omega
      have hil : i < s.data.toList.length := by rw [size_data]; exact hlt
      have hsl : s.data.toList[i]'hil = s[i] := by
        have := get_d s i hlt
        rw [List.getElem?_eq_getElem hil] at this
        exact Option.some.inj this
      have hcons := List.drop_eq_getElem_cons hil
      rw [hsl] at hcons
      have cb := blank_any s[i] wr
      by_cases hbl : isBl s[i] = true
      · rw [hbl] at cb
        have HS := Lib.hid (show V = O ++ div (s.data.toList.drop (i + 1)) by rw [hS, hcons, div_blank _ hbl])
        have HO := Lib.hid hown
        have H6 := Lib.hid hb
        clear hS hown hb hEl hcons hbl hsl
        go_wp2_with (go_at_call 55; (with_reducible refine cb.mono ?_); rintro e w1 ⟨rfl, rfl⟩)
        go_roundw
        case rel => exact ⟨i + 1, O, by go_num, by omega, by omega, HS.out, HO.out, H6.out⟩
        case measure => simp [intOf]; omega
      rw [Bool.not_eq_true] at hbl
      rw [hbl] at cb
      obtain ⟨n, hn⟩ : ∃ n, n = wid (s.data.toList.drop i) := ⟨_, rfl⟩
      have hne : s.data.toList.drop i ≠ [] := by rw [hcons]; simp
      have hnl := wid_le hne
      rw [List.length_drop, size_data, ← hn] at hnl
      have hnp := wid_pos (s.data.toList.drop i)
      rw [← hn] at hnp
      have HS := Lib.hid (show V = (O ++ [(s.data.toList.drop i).take n]) ++ div (s.data.toList.drop (i + n)) by
        rw [hS]
        have e := div_word (s.data.toList.drop (i + 1)) hbl
        rw [← hcons, ← hn] at e
        rw [e, List.drop_drop, List.append_assoc]; rfl)
      -- what the inner loop asks
      have HIN := Lib.hid (show ∀ k, i + 1 ≤ k → k ≤ i + n → ∀ (hk : k < s.size), isLt s[i] = true → isLt s[k] = decide (k < i + n) from fun k h1 h2 hk hl => by
        have el : wid (s.data.toList.drop i) = lead (s.data.toList.drop i) := by
          unfold wid; have := lead_yes (s.data.toList.drop (i + 1)) hl; rw [← hcons] at this; omega
        rw [← hn] at el
        have hkl : k < s.data.toList.length := by rw [size_data]; exact hk
        have ek : (s.data.toList.drop i)[k - i]'(by rw [List.length_drop]; omega) = s[k] := by
          rw [List.getElem_drop]
          have := get_d s k hk
          rw [List.getElem?_eq_getElem hkl] at this
          have h3 := Option.some.inj this
          rw [← h3]; congr 1; omega
        by_cases h4 : k < i + n
        · rw [decide_eq_true h4, ← ek]
          exact lead_lt _ _ (by omega) _
        · rw [decide_eq_false h4, ← ek]
          have h5 : k - i = lead (s.data.toList.drop i) := by omega
          have := lead_end (s.data.toList.drop i) (by rw [List.length_drop]; omega)
          simp only [← h5] at this
          exact this)
      have HNO := Lib.hid (show isLt s[i] = false → n = 1 from fun h => by
        rw [hn, hcons]; unfold wid; rw [lead_no _ h]; rfl)
      clear hS hcons hbl hsl hne hn hEl
      go_wp2_with (go_at_call 55; (with_reducible refine cb.mono ?_); rintro e w1 ⟨rfl, rfl⟩)
      go_loopw [5] (fun s5 wq => ∃ k : Nat, s5 = .int .i64 k ∧ i + 1 ≤ k ∧ k ≤ i + n ∧ wq = wr) (fun s5 _ => i + n - (intOf s5).toNat)
      case atStart => exact ⟨i + 1, by go_num, by omega, by omega, rfl⟩
      case round =>
        obtain ⟨k, rfl, hk1, hk2, rfl⟩ := hrel
        have cl := letter_any s[i] wr
        by_cases hl : isLt s[i] = true
        · rw [hl] at cl
          by_cases hks : k < s.size
          · have e1 : decide ((k : Int) < (s.size : Int)) = true := decide_eq_true (by omega)
            have e1n : decide (k < s.size) = true := decide_eq_true hks
            have y2 : (k : Int) < (s.size : Int) := by omega
            have cl2 := letter_any s[k] wr
            rw [HIN.out k hk1 hk2 hks hl] at cl2
            by_cases hkn : k < i + n
            · rw [decide_eq_true hkn] at cl2
              go_wp2_with (first | (go_at_call 56; (with_reducible refine cl.mono ?_); rintro e w3 ⟨rfl, rfl⟩; clear cl) | (go_at_call 56; (with_reducible refine cl2.mono ?_); rintro e w3 ⟨rfl, rfl⟩; clear cl2))
              go_roundw
              case rel => exact ⟨k + 1, by go_num, by omega, by omega, by simp⟩
              case measure => simp [intOf]; omega
            · rw [decide_eq_false hkn] at cl2
              have hie : k = i + n := by omega
              have HX := Lib.hid (show s.extract i k = str ((s.data.toList.drop i).take n) by rw [ext_mid, hie, Nat.add_sub_cancel_left])
              have HK := Lib.hid hie
              have k3 : (i : Int) ≤ (k : Int) := by omega
              have k4 : (k : Int) ≤ (s.size : Int) := by omega
              clear hie
              go_wp2_with (first | (go_at_call 56; (with_reducible refine cl.mono ?_); rintro e w3 ⟨rfl, rfl⟩; clear cl) | (go_at_call 56; (with_reducible refine cl2.mono ?_); rintro e w3 ⟨rfl, rfl⟩; clear cl2) | (at_builtin; refine wpList_append_lies _ (by rfl) _ _ 45 (by rfl) w.heap.size 9 i0 _ 1 16 Tryd.underlying45 hi0 hz0 hz1 hz2 rfl (by omega) (.slice A3 O.length c3) O.length _ (by rfl) (hown.alloc _) ⟨wr.heap.size, 0, none⟩ 1 1 [_] (by rfl) (by rfl) (World.news_of_block (cs := #[_]) (t := 9) (fr := (0, 0)) (heap_alloc_new wr _)) (by simp [Value.oneCell']) (by omega) (by unfold maxLen; omega) (by omega) (by simp; omega) (wr.heap.size + 1) (by simp) ?_; intro gg cap w6 hown6 hgrow hat hlt6))
              have hb6 := below_grown (hb.alloc (by omega) _) (by simp; omega) (hown.alloc _) hgrow
              have HO := Lib.hid hown6
              have H6 := Lib.hid hb6
              clear hown6 hb6 hgrow hat hlt6 hown hb
              go_wp2_with fail
              go_roundw
              case rel => exact ⟨k, O ++ [(s.data.toList.drop i).take n], by first | rfl | go_num, by have := HK.out; omega, by rw [List.length_append, List.length_singleton]; have := HK.out; omega, by rw [HK.out]; exact HS.out, by rw [Ls.stsV_snoc, List.length_append, List.length_singleton, ← HX.out]; exact HO.out, H6.out⟩
              case measure => simp [intOf]; have := HK.out; omega
          · have e1 : decide ((k : Int) < (s.size : Int)) = false := decide_eq_false (by omega)
            have e1n : decide (k < s.size) = false := decide_eq_false hks
            have hie : k = i + n := by omega
            have HX := Lib.hid (show s.extract i k = str ((s.data.toList.drop i).take n) by rw [ext_mid, hie, Nat.add_sub_cancel_left])
            have HK := Lib.hid hie
            have k3 : (i : Int) ≤ (k : Int) := by omega
            have k4 : (k : Int) ≤ (s.size : Int) := by omega
            clear hie
            go_wp2_with (first | (go_at_call 56; (with_reducible refine cl.mono ?_); rintro e w3 ⟨rfl, rfl⟩; clear cl) | (go_at_call 56; (with_reducible refine cl2.mono ?_); rintro e w3 ⟨rfl, rfl⟩; clear cl2) | (at_builtin; refine wpList_append_lies _ (by rfl) _ _ 45 (by rfl) w.heap.size 9 i0 _ 1 16 Tryd.underlying45 hi0 hz0 hz1 hz2 rfl (by omega) (.slice A3 O.length c3) O.length _ (by rfl) (hown.alloc _) ⟨wr.heap.size, 0, none⟩ 1 1 [_] (by rfl) (by rfl) (World.news_of_block (cs := #[_]) (t := 9) (fr := (0, 0)) (heap_alloc_new wr _)) (by simp [Value.oneCell']) (by omega) (by unfold maxLen; omega) (by omega) (by simp; omega) (wr.heap.size + 1) (by simp) ?_; intro gg cap w6 hown6 hgrow hat hlt6))
            have hb6 := below_grown (hb.alloc (by omega) _) (by simp; omega) (hown.alloc _) hgrow
            have HO := Lib.hid hown6
            have H6 := Lib.hid hb6
            clear hown6 hb6 hgrow hat hlt6 hown hb
            go_wp2_with fail
            go_roundw
            case rel => exact ⟨k, O ++ [(s.data.toList.drop i).take n], by first | rfl | go_num, by have := HK.out; omega, by rw [List.length_append, List.length_singleton]; have := HK.out; omega, by rw [HK.out]; exact HS.out, by rw [Ls.stsV_snoc, List.length_append, List.length_singleton, ← HX.out]; exact HO.out, H6.out⟩
            case measure => simp [intOf]; have := HK.out; omega
        · rw [Bool.not_eq_true] at hl
          have hn1 := HNO.out hl
          rw [hl] at cl
          have hie : k = i + n := by omega
          have HX := Lib.hid (show s.extract i k = str ((s.data.toList.drop i).take n) by rw [ext_mid, hie, Nat.add_sub_cancel_left])
          have HK := Lib.hid hie
          have k3 : (i : Int) ≤ (k : Int) := by omega
          have k4 : (k : Int) ≤ (s.size : Int) := by omega
          clear hie
          go_wp2_with (first | (go_at_call 56; (with_reducible refine cl.mono ?_); rintro e w3 ⟨rfl, rfl⟩; clear cl) | (go_at_call 56; (with_reducible refine cl2.mono ?_); rintro e w3 ⟨rfl, rfl⟩; clear cl2) | (at_builtin; refine wpList_append_lies _ (by rfl) _ _ 45 (by rfl) w.heap.size 9 i0 _ 1 16 Tryd.underlying45 hi0 hz0 hz1 hz2 rfl (by omega) (.slice A3 O.length c3) O.length _ (by rfl) (hown.alloc _) ⟨wr.heap.size, 0, none⟩ 1 1 [_] (by rfl) (by rfl) (World.news_of_block (cs := #[_]) (t := 9) (fr := (0, 0)) (heap_alloc_new wr _)) (by simp [Value.oneCell']) (by omega) (by unfold maxLen; omega) (by omega) (by simp; omega) (wr.heap.size + 1) (by simp) ?_; intro gg cap w6 hown6 hgrow hat hlt6))
          have hb6 := below_grown (hb.alloc (by omega) _) (by simp; omega) (hown.alloc _) hgrow
          have HO := Lib.hid hown6
          have H6 := Lib.hid hb6
          clear hown6 hb6 hgrow hat hlt6 hown hb
          go_wp2_with fail
          go_roundw
          case rel => exact ⟨k, O ++ [(s.data.toList.drop i).take n], by first | rfl | go_num, by have := HK.out; omega, by rw [List.length_append, List.length_singleton]; have := HK.out; omega, by rw [HK.out]; exact HS.out, by rw [Ls.stsV_snoc, List.length_append, List.length_singleton, ← HX.out]; exact HO.out, H6.out⟩
          case measure => simp [intOf]; have := HK.out; omega
    · have b1 : decide ((i : Int) < (s.size : Int)) = false := decide_eq_false (by omega)
      have b1n : decide (i < s.size) = false := decide_eq_false hlt
      have HV := Lib.hid (show V = O by rw [hS, List.drop_of_length_le (by rw [size_data]; omega), div_nil, List.append_nil])
      have HO := Lib.hid hEl
      have HKD := Lib.hid (show ∀ g o, A3 = some ⟨g, o, none⟩ → ∃ cs fr, wr.heap[g]? = some (.cells cs 9 fr) from fun g o h => by subst h; exact Lib.ownsRow_kind hown g rfl)
      have HB := Lib.hid hb
      clear hS hown hb hEl
      go_wp2_with fail
      go_ret
      exact ⟨A3, c3, by rw [HV.out]; rfl, by rw [HV.out]; exact HO.out, HKD.out, HB.out⟩
end Nm
end Go.Proofs.YtenaohnginikhaaDoor
