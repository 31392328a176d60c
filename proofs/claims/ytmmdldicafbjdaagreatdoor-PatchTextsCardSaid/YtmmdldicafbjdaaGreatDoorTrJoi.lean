/- Join of lines. No condition but the lengths. -/
import Derived.Test.YtmmdldicafbjdaaGreatDoorTrFnd
import Derived.BigQuiet
import Derived.Deep.QuietTactic
import Derived.Deep.RegionWith
import Derived.Deep.Onto
import Derived.Shelf.Small.Wraps
import Derived.WalkSmall
import Derived.Lib.Join
namespace Go.Proofs.YtmmdldicafbjdaaGreatDoor.Tr
open Go.RowKit

theorem lib_join (l : List (List UInt8)) : Lib.join l [10] = Tre.joined l := by
  induction l with
  | nil => rfl
  | cons a l ih =>
    cases l with
    | nil => rw [Lib.join_one]; rfl
    | cons b l =>
      show _ = a ++ 10 :: Tre.joined (b :: l)
      rw [← ih, Lib.join_cons, Lib.join_cons]
      simp [Lib.joinTail]
theorem has_lf (s : List UInt8) : decide (0 ≤ Lib.indexByte s 10) = s.contains 10 := by
  induction s with
  | nil => rfl
  | cons x s ih =>
    by_cases h : x = 10
    · subst h; simp [Lib.indexByte]
    · have hg := Lib.indexByte_ge s 10
      have e : decide (0 ≤ Lib.indexByte (x :: s) 10) = decide (0 ≤ Lib.indexByte s 10) := by
        simp only [Lib.indexByte, beq_iff_eq, h, if_false]
        split
        · rename_i h2; rw [h2]
        · rename_i h2
          have : 0 ≤ Lib.indexByte s 10 := by omega
          simp; omega
      rw [e, ih, List.contains_cons]
      have : ((10 : UInt8) == x) = false := by rw [beq_eq_false_iff_ne]; exact fun e => h e.symm
      rw [this, Bool.false_or]
def joinV (ls : List (List UInt8)) : Value := .tuple #[.string (str (Tre.join ls).1), .int .i64 (Tre.join ls).2]
theorem joinV_def (ls : List (List UInt8)) : joinV ls = .tuple #[.string (str (Tre.join ls).1), .int .i64 (Tre.join ls).2] := rfl
theorem join_def (l : List (List UInt8)) : Tre.join l = if l = [] ∨ (l.any fun s => s.contains 10) = true then ([], 1) else if 65536 < (Tre.joined l).length ∨ 1024 < l.length then ([], 10) else (Tre.joined l, 0) := rfl
theorem lens_take (ls : List (List UInt8)) (k : Nat) (h : k < ls.length) : ((ls.take (k + 1)).map (·.length)).sum = ((ls.take k).map (·.length)).sum + ls[k].length := by
  rw [List.take_succ_eq_append_getElem h, List.map_append, List.sum_append]; simp
theorem any_snocL (p : List UInt8 → Bool) (zs : List (List UInt8)) (k : Nat) (h : k < zs.length) : (zs.take (k + 1)).any p = ((zs.take k).any p || p zs[k]) := by
  rw [List.take_succ_eq_append_getElem h, List.any_append]; simp
set_option maxHeartbeats 4000000 in
set_option maxRecDepth 100000 in
theorem join_any (A : Option Addr) (c : Nat) (ls : List (List UInt8)) (w : World) (hA : CellsAt w w.heap.size A (strs ls)) (hl : ls.length ≤ 1000000) (hL : ∀ l ∈ ls, l.length ≤ 1000000000) (hcap : ls.length ≤ c) :
    Calls Tryz.prog 22 #[.slice A ls.length c] w fun x w' => x = .returned (joinV ls) ∧ Below w.heap.size w w' := by
  have HV := Lib.hid (joinV_def ls)
  generalize joinV ls = v at *
  by_cases h0 : ls = []
  · have HT := Lib.hid (show v = .tuple #[.string ⟨#[]⟩, .int .i64 1] by rw [HV.out, join_def, if_pos (.inl h0)]; rfl)
    subst h0
    clear HV
    go_enter Tryz.func22, Tryz.ntmps22
    go_wp2_with fail
    go_ret2
    exact ⟨by rw [HT.out]; rfl, Below.refl _ _⟩
  have hpos : 1 ≤ ls.length := List.length_pos_iff.2 h0
  have n0 : ((ls.length : Int) == 0) = false := by rw [beq_eq_false_iff_ne]; omega
  have n0n : (ls.length == 0) = false := by rw [beq_eq_false_iff_ne]; omega
  have HJL := Lib.hid (Tre.joined_len ls h0)
  have H0 := Lib.hid h0
  clear h0
  go_enter Tryz.func22, Tryz.ntmps22
  go_wp2_with fail
  go_loopw [4, 15] (fun s i wr => ∃ (k n : Nat), k ≤ ls.length ∧ i = .int .i64 k ∧ s = .int .i64 n ∧ n + 1 = ls.length + ((ls.take k).map (·.length)).sum ∧ ((ls.take k).map (·.length)).sum ≤ 1000000000 * k ∧ ((ls.take k).any fun s => s.contains 10) = false ∧ Below w.heap.size w wr) (fun _ i _ => ls.length - (intOf i).toNat)
  case atStart => exact ⟨0, ls.length - 1, by omega, rfl, by rw [Value.int.injEq]; exact ⟨rfl, by omega⟩, by simp; omega, by simp, by simp, Below.refl _ _⟩
  case round =>
    obtain ⟨k, n, hk, rfl, rfl, hn, hsl, hno, hb⟩ := hrel
    have HNO := Lib.hid hno
    have HN := Lib.hid hn
    have hn2 : n ≤ 1000001000000000 := by omega
    clear hno hn
    by_cases hlt : k < ls.length
    · have b1 : decide ((k : Int) < ls.length) = true := by simp; omega
      have b1n : decide (k < ls.length) = true := by simp; omega
      obtain ⟨g, o, rfl, hg, hc0⟩ := hA k (by rw [strs_len]; exact hlt)
      have hd0 := (hb.cell (p := ⟨g, o + k, none⟩) hg).trans hc0
      rw [strs_get ls k hlt] at hd0
      have hll := hL ls[k] (List.getElem_mem hlt)
      have HLT := Lib.hid (lens_take ls k hlt)
      have HAS := Lib.hid (any_snocL (fun s => s.contains 10) ls k hlt)
      have HST := Lib.hid (fun hp : ls[k].contains 10 = true => (show (ls.any fun s => s.contains 10) = true from List.any_eq_true.2 ⟨ls[k], List.getElem_mem hlt, hp⟩))
      have hcall : ∀ w, Calls Tryz.prog 46 #[.string (str ls[k]), .string ⟨#[10]⟩] w fun e w' => e = .returned (.bool (ls[k].contains 10)) ∧ w = w' := fun w => (Tryz.strings_Contains_one (str ls[k]) 10 w).mono fun e w' h => ⟨by rw [h.1, str_data, has_lf], h.2.symm⟩
      clear hc0
      have hsz : (str ls[k]).size ≤ 1000000000 := by rw [str_size]; exact hll
      have HSZ := Lib.hid (str_size ls[k])
      clear hll
      generalize ls[k] = l at *
      cases hc : l.contains 10 with
      | true =>
        have HT := Lib.hid (show v = .tuple #[.string ⟨#[]⟩, .int .i64 1] by rw [HV.out, join_def, if_pos (.inr (HST.out hc))]; rfl)
        rw [hc] at hcall
        clear hc
        go_wp2_with (go_at_call 46; (with_reducible refine (hcall _).mono ?_); rintro e w' ⟨rfl, rfl⟩)
        go_ret2
        exact ⟨by rw [HT.out]; rfl, hb⟩
      | false =>
        have HA2 := Lib.hid (show ((ls.take (k + 1)).any fun s => s.contains 10) = false by rw [HAS.out, HNO.out, hc]; rfl)
        rw [hc] at hcall
        clear hc
        go_wp2_with (go_at_call 46; (with_reducible refine (hcall _).mono ?_); rintro e w' ⟨rfl, rfl⟩)
        go_roundw
        case rel => exact ⟨k + 1, n + (str l).size, by omega, by go_num, by go_num, by have := HN.out; have := HLT.out; have := HSZ.out; omega, by have := HLT.out; have := HSZ.out; omega, HA2.out, hb⟩
        case measure => simp [intOf]; omega
    · have b1 : decide ((k : Int) < ls.length) = false := by simp; omega
      have b1n : decide (k < ls.length) = false := by simp; omega
      have hke : k = ls.length := by omega
      have HAL := Lib.hid (show (ls.any fun s => s.contains 10) = false by
        have h := HNO.out
        rw [hke, List.take_length] at h
        exact h)
      have HNL := Lib.hid (show n = (Tre.joined ls).length by
        have h := HN.out
        rw [hke, List.take_length] at h
        have := HJL.out
        omega)
      have HV1 := Lib.hid (show Tre.join ls = if 65536 < (Tre.joined ls).length ∨ 1024 < ls.length then ([], 10) else (Tre.joined ls, 0) by
        rw [join_def, if_neg (by rw [HAL.out]; simp [H0.out])])
      clear HNO HN hke
      by_cases hb1 : 65536 < n
      · have b2 : decide ((65536 : Int) < n) = true := by simp; omega
        have b2n : decide (65536 < n) = true := by simp; omega
        have HT := Lib.hid (show v = .tuple #[.string ⟨#[]⟩, .int .i64 10] by rw [HV.out, HV1.out, if_pos (.inl (by rw [← HNL.out]; exact hb1))]; rfl)
        clear hb1
        go_wp2_with fail
        go_ret2
        exact ⟨by rw [HT.out]; rfl, hb⟩
      have b2 : decide ((65536 : Int) < n) = false := by simp; omega
      have b2n : decide (65536 < n) = false := by simp; omega
      by_cases hb2 : 1024 < ls.length
      · have b3 : decide ((1024 : Int) < ls.length) = true := by simp; omega
        have b3n : decide (1024 < ls.length) = true := by simp; omega
        have HT := Lib.hid (show v = .tuple #[.string ⟨#[]⟩, .int .i64 10] by rw [HV.out, HV1.out, if_pos (.inr hb2)]; rfl)
        clear hb1 hb2
        go_wp2_with fail
        go_ret2
        exact ⟨by rw [HT.out]; rfl, hb⟩
      have b3 : decide ((1024 : Int) < ls.length) = false := by simp; omega
      have b3n : decide (1024 < ls.length) = false := by simp; omega
      have hjl : (Tre.joined ls).length ≤ 65536 := by rw [← HNL.out]; omega
      have HT := Lib.hid (show v = .tuple #[.string (str (Tre.joined ls)), .int .i64 0] by rw [HV.out, HV1.out, if_neg (by omega)])
      obtain ⟨g, o, rfl, hg, hx0⟩ := hA 0 (by rw [strs_len]; omega)
      have hcells : ∀ (j : Nat) x, (ls.map str)[j]? = some x → wr.cell? ⟨g, o + j, none⟩ = some (.string x) := fun j x hx => by
        have hj : j < ls.length := by
          have := (List.getElem?_eq_some_iff.1 hx).1
          simpa using this
        obtain ⟨g', o', hAe, hg', hc'⟩ := hA j (by rw [strs_len]; exact hj)
        injection hAe with hAe
        injection hAe with e1 e2
        subst e1 e2
        rw [strs_get ls j hj] at hc'
        rw [List.getElem?_map, List.getElem?_eq_getElem hj] at hx
        rw [(hb.cell (p := ⟨g, o + j, none⟩) hg).trans hc', ← Option.some.inj hx]
      have hmm : (ls.map str).map (fun s => s.data.toList) = ls := by rw [List.map_map]; exact List.map_id _
      have hcall := Tryz.strings_Join g o c (ls.map str) ⟨#[10]⟩ wr hcells (Nat.lt_of_lt_of_le hg hb.size) (by simp; omega) (by simp; omega) (by rw [hmm, show (⟨#[10]⟩ : ByteArray).data.toList = [10] from rfl, lib_join]; omega)
      rw [hmm, show (⟨#[10]⟩ : ByteArray).data.toList = [10] from rfl, lib_join, List.length_map] at hcall
      clear hcells hmm hx0 hb1 hb2
      go_wp2_with fail
      with_reducible refine hcall.mono ?_
      clear hcall
      rintro e w2 ⟨rfl, hb2⟩
      go_wp2_with fail
      go_ret2
      exact ⟨by rw [HT.out]; rfl, hb.trans (hb2.mono hb.size)⟩
end Go.Proofs.YtmmdldicafbjdaaGreatDoor.Tr
