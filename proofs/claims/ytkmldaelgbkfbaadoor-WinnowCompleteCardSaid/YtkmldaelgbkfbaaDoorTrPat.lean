/- Paths on both sides; whether a path is below another one. Condition: bytealg's MaxLen lies in its variable. -/
import Derived.Test.YtkmldaelgbkfbaaDoorTrSpl
import Derived.Shelf.Small.Wraps
namespace Go.Proofs.YtkmldaelgbkfbaaDoor.Tr
open Go.RowKit

theorem path_def (s : List UInt8) : Tre.path s = if (decide (s.length ≤ 128) && decide ((Tre.split 47 s).length ≤ 8) && (Tre.split 47 s).all Tre.part) = true then 0 else 2 := rfl
theorem all_snoc {α : Type} (p : α → Bool) (zs : List α) (k : Nat) (h : k < zs.length) : (zs.take (k + 1)).all p = ((zs.take k).all p && p zs[k]) := by
  rw [List.take_succ_eq_append_getElem h, List.all_append]; simp
theorem all_stop {α : Type} (p : α → Bool) (zs : List α) (k : Nat) (h : k < zs.length) (hp : p zs[k] = false) : zs.all p = false := by
  rw [List.all_eq_false]
  exact ⟨zs[k], List.getElem_mem h, by simp [hp]⟩
theorem strs_get (ps : List (List UInt8)) (k : Nat) (h : k < ps.length) (h' : k < (strs ps).length) : (strs ps)[k] = .string (str ps[k]) := by simp [strs]
set_option maxHeartbeats 4000000 in
set_option maxRecDepth 100000 in
theorem path_any (s : ByteArray) (w : World) (hs : s.size ≤ 1000000000) (hM : MaxAt w) :
    Calls Tryd.prog 26 #[.string s] w fun e w' => e = .returned (.int .i64 (Tre.path s.data.toList)) ∧ Below w.heap.size w w' := by
  have HV := Lib.hid (path_def s.data.toList)
  generalize Tre.path s.data.toList = v at *
  rw [size_data] at HV
  have hcnt := Tre.split_count 47 s.data.toList
  by_cases hbig : 128 < s.size
  · have b0 : decide ((128 : Int) < s.size) = true := by simp; omega
    have b0n : decide (128 < s.size) = true := by simp; omega
    have HT := Lib.hid (show v = 2 by rw [HV.out, show decide (s.size ≤ 128) = false from decide_eq_false (by omega)]; rfl)
    clear HV hcnt
    go_enter Tryd.func26, Tryd.ntmps26
    go_wp2_with fail
    go_ret
    exact ⟨ret_int HT.out.symm, Below.refl _ _⟩
  have b0 : decide ((128 : Int) < s.size) = false := by simp; omega
  have b0n : decide (128 < s.size) = false := by simp; omega
  have hc1 : ∀ w, Calls Tryd.prog 38 #[.string s, .string ⟨#[47]⟩] w fun e w' => e = .returned (.int .i64 (s.data.toList.count 47 : Nat)) ∧ w = w' := fun w => (Tryd.strings_Count_one s 47 w).mono fun e w' h => ⟨h.1, h.2.symm⟩
  have HSZ := Lib.hid (show decide (s.size ≤ 128) = true from decide_eq_true (by omega))
  by_cases h8 : 8 ≤ s.data.toList.count 47
  · have b1 : decide ((8 : Int) ≤ (s.data.toList.count 47 : Nat)) = true := decide_eq_true (by omega)
    have HT := Lib.hid (show v = 2 by rw [HV.out, HSZ.out, show decide ((Tre.split 47 s.data.toList).length ≤ 8) = false from decide_eq_false (by omega)]; rfl)
    clear HV hcnt h8
    generalize s.data.toList.count 47 = n at *
    go_enter Tryd.func26, Tryd.ntmps26
    go_wp2_with (go_at_call 38; (with_reducible refine (hc1 _).mono ?_); rintro e w' ⟨rfl, rfl⟩)
    go_ret
    exact ⟨ret_int HT.out.symm, Below.refl _ _⟩
  have b1 : decide ((8 : Int) ≤ (s.data.toList.count 47 : Nat)) = false := decide_eq_false (by omega)
  have HVP := Lib.hid (show v = if (Tre.split 47 s.data.toList).all Tre.part = true then 0 else 2 by
    rw [HV.out, HSZ.out, show decide ((Tre.split 47 s.data.toList).length ≤ 8) = true from decide_eq_true (by omega), Bool.and_self, Bool.true_and])
  have hcall := cut_any s 47 w hs hM
  have hpl := Tre.split_le 47 s.data.toList
  rw [size_data] at hpl
  have hP8 : (Tre.split 47 s.data.toList).length ≤ 8 := by omega
  clear HV HSZ hcnt h8
  generalize s.data.toList.count 47 = n at *
  generalize Tre.split 47 s.data.toList = P at *
  go_enter Tryd.func26, Tryd.ntmps26
  go_wp2_with (go_at_call 38; (with_reducible refine (hc1 _).mono ?_); rintro e w' ⟨rfl, rfl⟩)
  with_reducible refine hcall.mono ?_
  clear hcall hc1 b1
  rintro e w1 ⟨v1, rfl, hown, hb⟩
  obtain ⟨A, c, rfl, hA⟩ := owns_cells hown
  clear hown
  go_wp2_with fail
  go_loopw [16] (fun i wr => ∃ k : Nat, k ≤ P.length ∧ i = .int .i64 k ∧ (P.take k).all Tre.part = true ∧ Below w.heap.size w wr ∧ Below w1.heap.size w1 wr) (fun i _ => P.length - (intOf i).toNat)
  case atStart => exact ⟨0, by omega, rfl, by simp, hb, Below.refl _ _⟩
  case round =>
    clear hb
    obtain ⟨k, hk, rfl, hall, hb, hb1⟩ := hrel
    have HALL := Lib.hid hall
    clear hall
    by_cases hlt : k < P.length
    · have b2 : decide ((k : Int) < (P.length : Int)) = true := by simp; omega
      have b2n : decide (k < P.length) = true := by simp; omega
      obtain ⟨g, o, rfl, hg, hc0⟩ := hA k (by rw [strs_len]; exact hlt)
      have hd0 := (hb1.cell (p := ⟨g, o + k, none⟩) hg).trans hc0
      rw [strs_get P k hlt] at hd0
      have hsn := all_snoc Tre.part P k hlt
      rw [HALL.out, Bool.true_and] at hsn
      have hst := all_stop Tre.part P k hlt
      have hlen := hpl P[k] (List.getElem_mem hlt)
      have hcall := part_any (str P[k]) wr (by rw [str_size]; omega)
      rw [str_data] at hcall
      clear hc0 HALL
      generalize P[k] = p at *
      cases hp : Tre.part p with
      | true =>
        have HSN := Lib.hid (hsn.trans hp)
        rw [hp] at hcall
        clear hsn hst hp
        go_wp2_with (go_at_call 40; (with_reducible refine hcall.mono ?_); rintro e w' ⟨rfl, rfl⟩)
        go_roundw
        case rel => exact ⟨k + 1, by omega, by go_num, HSN.out, hb, hb1⟩
        case measure => simp [intOf]; omega
      | false =>
        have HT := Lib.hid (show v = 2 by rw [HVP.out, hst hp]; rfl)
        rw [hp] at hcall
        clear hsn hst hp
        go_wp2_with (go_at_call 40; (with_reducible refine hcall.mono ?_); rintro e w' ⟨rfl, rfl⟩)
        go_ret
        exact ⟨ret_int HT.out.symm, hb⟩
    · have b2 : decide ((k : Int) < (P.length : Int)) = false := by simp; omega
      have b2n : decide (k < P.length) = false := by simp; omega
      have HT := Lib.hid (show v = 0 by
        have h := HALL.out
        rw [show k = P.length by omega, List.take_length] at h
        rw [HVP.out, h]; rfl)
      clear HALL
      go_wp2_with fail
      go_ret
      exact ⟨ret_int HT.out.symm, hb⟩
end Go.Proofs.YtkmldaelgbkfbaaDoor.Tr
