/- Join of the reference. No condition but the lengths. -/
import Derived.Test.YtlfgnecfabdkmaaGreatDoorTrJoi
namespace Go.Proofs.YtlfgnecfabdkmaaGreatDoor.Tr
open Go.RowKit

theorem joined_app : ∀ (l r : List (List UInt8)), ∃ t, Tre.joined (l ++ r) = Tre.joined l ++ t
  | [], r => ⟨Tre.joined r, rfl⟩
  | [a], [] => ⟨[], by simp [Tre.joined]⟩
  | [a], b :: r => ⟨10 :: Tre.joined (b :: r), rfl⟩
  | a :: b :: l, r => by
    obtain ⟨t, ht⟩ := joined_app (b :: l) r
    refine ⟨t, ?_⟩
    show a ++ 10 :: Tre.joined (b :: l ++ r) = (a ++ 10 :: Tre.joined (b :: l)) ++ t
    rw [ht]; simp
theorem joined_take_le (ls : List (List UInt8)) (k : Nat) : (Tre.joined (ls.take k)).length ≤ (Tre.joined ls).length := by
  obtain ⟨t, ht⟩ := joined_app (ls.take k) (ls.drop k)
  rw [List.take_append_drop] at ht
  rw [ht]; simp
theorem joined_snoc : ∀ (l : List (List UInt8)) (a : List UInt8), l ≠ [] → Tre.joined (l ++ [a]) = Tre.joined l ++ 10 :: a
  | [], _, h => absurd rfl h
  | [x], a, _ => rfl
  | x :: y :: l, a, _ => by
    show x ++ 10 :: Tre.joined (y :: l ++ [a]) = (x ++ 10 :: Tre.joined (y :: l)) ++ 10 :: a
    rw [joined_snoc (y :: l) a (by simp)]; simp
set_option maxHeartbeats 4000000 in
set_option maxRecDepth 100000 in
theorem qJoin_any (A : Option Addr) (c : Nat) (ls : List (List UInt8)) (w : World) (hA : CellsAt w w.heap.size A (strs ls)) (hl : ls.length ≤ 1000000) (hL : ∀ l ∈ ls, l.length ≤ 1000000000) (hcap : ls.length ≤ c) :
    Calls Tryz.prog 38 #[.slice A ls.length c] w fun x w' => x = .returned (joinV ls) ∧ Below w.heap.size w w' := by
  have HV := Lib.hid (joinV_def ls)
  generalize joinV ls = v at *
  by_cases h0 : ls = []
  · have HT := Lib.hid (show v = .tuple #[.string ⟨#[]⟩, .int .i64 1] by rw [HV.out, join_def, if_pos (.inl h0)]; rfl)
    subst h0
    clear HV
    go_enter Tryz.func38, Tryz.ntmps38
    go_wp2_with fail
    go_ret2
    exact ⟨by rw [HT.out]; rfl, Below.refl _ _⟩
  have hpos : 1 ≤ ls.length := List.length_pos_iff.2 h0
  have n0 : ((ls.length : Int) == 0) = false := by rw [beq_eq_false_iff_ne]; omega
  have n0n : (ls.length == 0) = false := by rw [beq_eq_false_iff_ne]; omega
  have HJL := Lib.hid (Tre.joined_len ls h0)
  have H0 := Lib.hid h0
  clear h0
  go_enter Tryz.func38, Tryz.ntmps38
  go_wp2_with fail
  go_loopw [4, 18] (fun s i wr => ∃ (k n : Nat), k ≤ ls.length ∧ i = .int .i64 k ∧ s = .int .i64 n ∧ n + 1 = ls.length + ((ls.take k).map (·.length)).sum ∧ ((ls.take k).map (·.length)).sum ≤ 1000000000 * k ∧ ((ls.take k).any fun s => s.contains 10) = false ∧ Below w.heap.size w wr) (fun _ i _ => ls.length - (intOf i).toNat)
  case atStart => exact ⟨0, ls.length - 1, by omega, rfl, by rw [Value.int.injEq]; exact ⟨rfl, by omega⟩, by simp; omega, by simp, by simp, Below.refl _ _⟩
  case round =>
    obtain ⟨k, n, hk, rfl, rfl, hn, hsl, hno, hb⟩ := hrel
    have HNO := Lib.hid hno
    have HN := Lib.hid hn
    have hn2 : n ≤ 1000001000000000 := by omega
    clear hno hn
    by_cases hlt : k < ls.length
    · have b1 : decide ((k : Int) < ls.length) = true := by simp; omega
      have b1n : decide (k < ls.length) = true := by simp; omega
      obtain ⟨g, o, rfl, hg, hc0⟩ := hA k (by rw [strs_len]; exact hlt)
      have hd0 := (hb.cell (p := ⟨g, o + k, none⟩) hg).trans hc0
      rw [strs_get ls k hlt] at hd0
      have hll := hL ls[k] (List.getElem_mem hlt)
      have HLT := Lib.hid (lens_take ls k hlt)
      have HAS := Lib.hid (any_snocL (fun s => s.contains 10) ls k hlt)
      have HST := Lib.hid (fun hp : ls[k].contains 10 = true => (show (ls.any fun s => s.contains 10) = true from List.any_eq_true.2 ⟨ls[k], List.getElem_mem hlt, hp⟩))
      have hcall := qSplit_any (str ls[k]) 10 wr (by rw [str_size]; exact hll)
      rw [str_data, show ((10 : UInt8).toNat : Int) = 10 from rfl] at hcall
      have HCI := Lib.hid (Tre.contains_iff ls[k] 10)
      have HNE := Lib.hid (show 1 ≤ (Tre.split 10 ls[k]).length from List.length_pos_iff.2 (Tre.split_ne 10 ls[k]))
      generalize Tre.split 10 ls[k] = P at *
      clear hc0
      have hsz : (str ls[k]).size ≤ 1000000000 := by rw [str_size]; exact hll
      have HSZ := Lib.hid (str_size ls[k])
      clear hll
      generalize ls[k] = l at *
      cases hc : l.contains 10 with
      | true =>
        have HT := Lib.hid (show v = .tuple #[.string ⟨#[]⟩, .int .i64 1] by rw [HV.out, join_def, if_pos (.inr (HST.out hc))]; rfl)
        have hp : P.length ≠ 1 := by
          have h := HCI.out
          rw [hc] at h
          have := of_decide_eq_true h.symm
          omega
        have q1 : ((P.length : Int) != 1) = true := by rw [bne_iff_ne]; omega
        clear hc hp
        go_wp2_with fail
        with_reducible refine hcall.mono ?_
        clear hcall
        rintro e w2 ⟨v1, rfl, hown, hb2⟩
        obtain ⟨A1, c1, rfl, _⟩ := owns_cells hown
        clear hown
        go_wp2_with fail
        go_ret2
        exact ⟨by rw [HT.out]; rfl, hb.trans (hb2.mono hb.size)⟩
      | false =>
        have HA2 := Lib.hid (show ((ls.take (k + 1)).any fun s => s.contains 10) = false by rw [HAS.out, HNO.out, hc]; rfl)
        have hp : P.length = 1 := by
          have h := HCI.out
          rw [hc] at h
          have := of_decide_eq_false h.symm
          have := HNE.out
          omega
        have q1 : ((P.length : Int) != 1) = false := by simp; omega
        clear hc hp
        go_wp2_with fail
        with_reducible refine hcall.mono ?_
        clear hcall
        rintro e w2 ⟨v1, rfl, hown, hb2⟩
        obtain ⟨A1, c1, rfl, _⟩ := owns_cells hown
        replace hb := hb.trans (hb2.mono hb.size)
        clear hown hb2
        go_wp2_with fail
        go_roundw
        case rel => exact ⟨k + 1, n + (str l).size, by omega, by go_num, by go_num, by have := HN.out; have := HLT.out; have := HSZ.out; omega, by have := HLT.out; have := HSZ.out; omega, HA2.out, hb⟩
        case measure => simp [intOf]; omega
    · have b1 : decide ((k : Int) < ls.length) = false := by simp; omega
      have b1n : decide (k < ls.length) = false := by simp; omega
      have hke : k = ls.length := by omega
      have HAL := Lib.hid (show (ls.any fun s => s.contains 10) = false by
        have h := HNO.out
        rw [hke, List.take_length] at h
        exact h)
      have HNL := Lib.hid (show n = (Tre.joined ls).length by
        have h := HN.out
        rw [hke, List.take_length] at h
        have := HJL.out
        omega)
      have HV1 := Lib.hid (show Tre.join ls = if 65536 < (Tre.joined ls).length ∨ 1024 < ls.length then ([], 10) else (Tre.joined ls, 0) by
        rw [join_def, if_neg (by rw [HAL.out]; simp [H0.out])])
      clear HNO HN hke
      by_cases hb1 : 65536 < n
      · have b2 : decide ((65536 : Int) < n) = true := by simp; omega
        have b2n : decide (65536 < n) = true := by simp; omega
        have HT := Lib.hid (show v = .tuple #[.string ⟨#[]⟩, .int .i64 10] by rw [HV.out, HV1.out, if_pos (.inl (by rw [← HNL.out]; exact hb1))]; rfl)
        clear hb1
        rcases Nat.lt_or_ge 1024 ls.length with q | q
        · have b3 : decide ((1024 : Int) < ls.length) = true := by simp; omega
          have b3n : decide (1024 < ls.length) = true := by simp; omega
          go_wp2_with fail
          go_ret2
          exact ⟨by rw [HT.out]; rfl, hb⟩
        · have b3 : decide ((1024 : Int) < ls.length) = false := by simp; omega
          have b3n : decide (1024 < ls.length) = false := by simp; omega
          go_wp2_with fail
          go_ret2
          exact ⟨by rw [HT.out]; rfl, hb⟩
      have b2 : decide ((65536 : Int) < n) = false := by simp; omega
      have b2n : decide (65536 < n) = false := by simp; omega
      by_cases hb2 : 1024 < ls.length
      · have b3 : decide ((1024 : Int) < ls.length) = true := by simp; omega
        have b3n : decide (1024 < ls.length) = true := by simp; omega
        have HT := Lib.hid (show v = .tuple #[.string ⟨#[]⟩, .int .i64 10] by rw [HV.out, HV1.out, if_pos (.inr hb2)]; rfl)
        clear hb1 hb2
        go_wp2_with fail
        go_ret2
        exact ⟨by rw [HT.out]; rfl, hb⟩
      have b3 : decide ((1024 : Int) < ls.length) = false := by simp; omega
      have b3n : decide (1024 < ls.length) = false := by simp; omega
      have hjl : (Tre.joined ls).length ≤ 65536 := by rw [← HNL.out]; omega
      have HT := Lib.hid (show v = .tuple #[.string (str (Tre.joined ls)), .int .i64 0] by rw [HV.out, HV1.out, if_neg (by omega)])
      obtain ⟨g, o, rfl, hg, hx0⟩ := hA 0 (by rw [strs_len]; omega)
      rw [strs_get ls 0 (by omega), Nat.add_zero] at hx0
      have hd0 := (hb.cell (p := ⟨g, o, none⟩) hg).trans hx0
      have HF := Lib.hid (show Tre.joined (ls.take 1) = ls[0] by rw [show ls.take 1 = [ls[0]] by rw [List.take_succ_eq_append_getElem (show 0 < ls.length by omega)]; rfl]; rfl)
      clear hx0
      have hsl1 : (1 : Int) ≤ (ls.length : Int) := by omega
      have hsl2 : (ls.length : Int) ≤ (c : Int) := by omega
      rcases Classical.em (c = 1) with hc1 | hc1
      · have hone : ls.length ≤ 1 := by omega
        subst hc1
        go_wp2_with fail
        go_loopw [7, 44] (fun s i wx => ∃ m : Nat, m + 1 ≤ ls.length ∧ i = .int .i64 m ∧ s = .string (str (Tre.joined (ls.take (m + 1)))) ∧ Below w.heap.size w wx) (fun _ i _ => ls.length - (intOf i).toNat)
        case atStart => exact ⟨0, by omega, rfl, by rw [HF.out], hb⟩
        case round =>
          clear hb hd0
          obtain ⟨m, hm, rfl, rfl, hb⟩ := hrel
          have c1 : decide ((m : Int) < (ls.length : Int) - 1) = false := decide_eq_false (by omega)
          have c1n : decide (m < ls.length - 1) = false := decide_eq_false (by omega)
          have HE := Lib.hid (show Tre.joined (ls.take (m + 1)) = Tre.joined ls by rw [List.take_of_length_le (by omega)])
          go_wp2_with fail
          go_ret2
          exact ⟨by rw [HT.out, ← HE.out]; rfl, hb⟩
      · have hc2 : ¬ (c : Int) = 1 := by omega
        have hc3 : ¬ (1 : Int) = (c : Int) := by omega
        have hc4 : ¬ (c : Int) - 1 = 0 := by omega
        go_wp2_with fail
        go_loopw [7, 44] (fun s i wx => ∃ m : Nat, m + 1 ≤ ls.length ∧ i = .int .i64 m ∧ s = .string (str (Tre.joined (ls.take (m + 1)))) ∧ Below w.heap.size w wx) (fun _ i _ => ls.length - (intOf i).toNat)
        case atStart => exact ⟨0, by omega, rfl, by rw [HF.out], hb⟩
        case round =>
          clear hb hd0
          obtain ⟨m, hm, rfl, rfl, hb⟩ := hrel
          by_cases hlt2 : m + 1 < ls.length
          · have c1 : decide ((m : Int) < (ls.length : Int) - 1) = true := decide_eq_true (by omega)
            have c1n : decide (m < ls.length - 1) = true := decide_eq_true (by omega)
            obtain ⟨g', o', hAe, hg', hc0⟩ := hA (m + 1) (by rw [strs_len]; exact hlt2)
            injection hAe with hAe
            injection hAe with e1 e2
            subst e1 e2
            rw [strs_get ls (m + 1) hlt2] at hc0
            have hd1 := (hb.cell (p := ⟨g, o + (m + 1), none⟩) hg).trans hc0
            have hd2 : wr.cell? ⟨g, o + 1 + m, none⟩ = some (.string (str ls[m + 1])) := by rw [show o + 1 + m = o + (m + 1) by omega]; exact hd1
            have HJ := Lib.hid (joined_snoc (ls.take (m + 1)) ls[m + 1] (by intro e; have := congrArg List.length e; rw [List.length_take, List.length_nil] at this; omega))
            have hle := joined_take_le ls (m + 2)
            rw [List.take_succ_eq_append_getElem hlt2, HJ.out] at hle
            have HTS := Lib.hid (List.take_succ_eq_append_getElem hlt2)
            have hz1 : (str (Tre.joined (ls.take (m + 1)))).size ≤ 65536 := by rw [str_size]; simp at hle; omega
            have hz2 : (str ls[m + 1]).size ≤ 65536 := by rw [str_size]; simp at hle; omega
            have hz3 : (str (Tre.joined (ls.take (m + 1))) ++ ⟨#[10]⟩).size ≤ 65537 := by rw [ByteArray.size_append]; show _ + 1 ≤ _; omega
            have HEQ := Lib.hid (show str (Tre.joined (ls.take (m + 1))) ++ ⟨#[10]⟩ ++ str ls[m + 1] = str (Tre.joined (ls.take (m + 1 + 1))) by
              rw [show (⟨#[10]⟩ : ByteArray) = str [10] from rfl, str_app, str_app, HTS.out, HJ.out]; simp)
            clear hc0 hd1 hle hg'
            go_wp2_with fail
            go_roundw
            case rel => exact ⟨m + 1, by omega, by go_num, by rw [← HEQ.out], hb⟩
            case measure => simp [intOf]; omega
          · have c1 : decide ((m : Int) < (ls.length : Int) - 1) = false := decide_eq_false (by omega)
            have c1n : decide (m < ls.length - 1) = false := decide_eq_false (by omega)
            have HE := Lib.hid (show Tre.joined (ls.take (m + 1)) = Tre.joined ls by rw [List.take_of_length_le (by omega)])
            go_wp2_with fail
            go_ret2
            exact ⟨by rw [HT.out, ← HE.out]; rfl, hb⟩
end Go.Proofs.YtlfgnecfabdkmaaGreatDoor.Tr
