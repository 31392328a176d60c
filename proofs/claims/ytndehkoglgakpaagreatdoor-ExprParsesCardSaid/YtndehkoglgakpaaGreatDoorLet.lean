/- The sorts of characters, and how many of a sort a string begins with. No condition but the string's length. -/
import Derived.Test.YtndehkoglgakpaaGreatDoorTokMore
import Derived.Test.YtndehkoglgakpaaGreatDoorRows
import Derived.WalkKit
import Derived.WalkSpells
import Derived.WalkLawsBesides
import Derived.Lib.Hide
import Derived.Deep.DeepCutAuto
import Derived.Deep.LoopGhost
namespace Go.Proofs.YtndehkoglgakpaaGreatDoor
open Go.RowKit

/-- Bytes as a string. -/
def str (l : List UInt8) : ByteArray := ⟨l.toArray⟩
theorem str_data (l : List UInt8) : (str l).data.toList = l := rfl
theorem str_app (a b : List UInt8) : str a ++ str b = str (a ++ b) := by
  apply ByteArray.ext; simp [str]
theorem str_size (l : List UInt8) : (str l).size = l.length := by show l.toArray.size = _; simp
theorem str_of (s : ByteArray) : str s.data.toList = s := by apply ByteArray.ext; simp [str]
theorem size_data (s : ByteArray) : s.data.toList.length = s.size := rfl
theorem str_inj {a b : List UInt8} (h : str a = str b) : a = b := by have := congrArg (fun x => x.data.toList) h; exact this
theorem ext_take (s : ByteArray) (a : Nat) : s.extract 0 a = str (s.data.toList.take a) := by
  rw [← str_of (s.extract 0 a)]
  congr 1
  rw [ByteArray.data_extract, Array.toList_extract]
  simp only [List.extract_eq_take_drop]
  simp
theorem ext_drop (s : ByteArray) (a : Nat) : s.extract a s.size = str (s.data.toList.drop a) := by
  rw [← str_of (s.extract a s.size)]
  congr 1
  rw [ByteArray.data_extract, Array.toList_extract]
  have h : s.size = s.data.toList.length := rfl
  rw [h]
  simp only [List.extract_eq_take_drop]
  exact List.take_of_length_le (by simp)
theorem get_s (s : ByteArray) (k : Nat) (h : k < s.size) : s.data.toList.drop k = s[k] :: s.data.toList.drop (k + 1) := by
  have hl : k < s.data.toList.length := h
  rw [List.drop_eq_getElem_cons hl]
  rfl
theorem ret_bool {a b : Bool} (h : a = b) : Ending.returned (.bool a) = .returned (.bool b) := by rw [h]
theorem ret_int {k : IntKind} {a b : Int} (h : a = b) : Ending.returned (.int k a) = .returned (.int k b) := by rw [h]

set_option maxHeartbeats 1000000 in
set_option maxRecDepth 100000 in
theorem letter_any (c : UInt8) (w : World) :
    Calls Tryz.prog 94 #[.int .i32 (c.toNat : Int)] w fun e w' => e = .returned (.bool (Tok.isLet c)) ∧ w = w' := by
  have hc := c.toNat_lt
  have HV := Lib.hid (show Tok.isLet c = decide ((97 ≤ c.toNat ∧ c.toNat ≤ 122) ∨ c.toNat = 95) from rfl)
  generalize Tok.isLet c = v at *
  rcases Nat.lt_or_ge c.toNat 97 with h1 | h1
  · by_cases h2 : c.toNat = 95
    · have q : ((c.toNat : Int) == 95) = true := by rw [beq_iff_eq]; omega
      have HT := Lib.hid (show v = true by rw [HV.out]; simp; omega)
      clear h2 HV
      go_enter Tryz.func94, Tryz.ntmps94
      go_wp2
      go_ret
      exact ⟨ret_bool (by rw [HT.out]), rfl⟩
    · have q : ((c.toNat : Int) == 95) = false := by rw [beq_eq_false_iff_ne]; omega
      have HT := Lib.hid (show v = false by rw [HV.out]; simp; omega)
      clear h2 HV
      go_enter Tryz.func94, Tryz.ntmps94
      go_wp2
      go_ret
      exact ⟨ret_bool (by rw [HT.out]), rfl⟩
  · rcases Nat.lt_or_ge 122 c.toNat with h3 | h3
    · have q2 : decide ((c.toNat : Int) ≤ 122) = false := by simp; omega
      have q : ((c.toNat : Int) == 95) = false := by rw [beq_eq_false_iff_ne]; omega
      have HT := Lib.hid (show v = false by rw [HV.out]; simp; omega)
      clear HV
      go_enter Tryz.func94, Tryz.ntmps94
      go_wp2
      go_ret
      exact ⟨ret_bool (by rw [HT.out]), rfl⟩
    · have q2 : decide ((c.toNat : Int) ≤ 122) = true := by simp; omega
      have HT := Lib.hid (show v = true by rw [HV.out]; simp; omega)
      clear HV
      go_enter Tryz.func94, Tryz.ntmps94
      go_wp2
      go_ret
      exact ⟨ret_bool (by rw [HT.out]), rfl⟩
set_option maxHeartbeats 1000000 in
set_option maxRecDepth 100000 in
theorem digit_any (c : UInt8) (w : World) :
    Calls Tryz.prog 97 #[.int .i32 (c.toNat : Int)] w fun e w' => e = .returned (.bool (Tok.isDig c)) ∧ w = w' := by
  have hc := c.toNat_lt
  have HV := Lib.hid (show Tok.isDig c = decide (48 ≤ c.toNat ∧ c.toNat ≤ 57) from rfl)
  generalize Tok.isDig c = v at *
  rcases Nat.lt_or_ge c.toNat 48 with h1 | h1
  · have HT := Lib.hid (show v = false by rw [HV.out]; simp; omega)
    clear HV
    go_enter Tryz.func97, Tryz.ntmps97
    go_wp2
    go_ret
    exact ⟨ret_bool (by rw [HT.out]), rfl⟩
  · rcases Nat.lt_or_ge 57 c.toNat with h3 | h3
    · have q2 : decide ((c.toNat : Int) ≤ 57) = false := by simp; omega
      have HT := Lib.hid (show v = false by rw [HV.out]; simp; omega)
      clear HV
      go_enter Tryz.func97, Tryz.ntmps97
      go_wp2
      go_ret
      exact ⟨ret_bool (by rw [HT.out]), rfl⟩
    · have q2 : decide ((c.toNat : Int) ≤ 57) = true := by simp; omega
      have HT := Lib.hid (show v = true by rw [HV.out]; simp; omega)
      clear HV
      go_enter Tryz.func97, Tryz.ntmps97
      go_wp2
      go_ret
      exact ⟨ret_bool (by rw [HT.out]), rfl⟩
set_option maxHeartbeats 1000000 in
set_option maxRecDepth 100000 in
theorem inName_any (c : UInt8) (w : World) :
    Calls Tryz.prog 96 #[.int .i32 (c.toNat : Int)] w fun e w' => e = .returned (.bool (Tok.isIn c)) ∧ w = w' := by
  have h1 := letter_any c w
  have h2 := digit_any c w
  rw [show Tok.isIn c = (Tok.isLet c || Tok.isDig c) from rfl]
  cases hv : Tok.isLet c
  · rw [hv] at h1
    clear hv
    go_enter Tryz.func96, Tryz.ntmps96
    go_wp2_with (first
      | (go_at_call 94; refine h1.mono ?_; rintro e w' ⟨rfl, rfl⟩)
      | (go_at_call 97; refine h2.mono ?_; rintro e w' ⟨rfl, rfl⟩))
    go_ret
    exact ⟨rfl, rfl⟩
  · rw [hv] at h1
    clear hv
    go_enter Tryz.func96, Tryz.ntmps96
    go_wp2_with (go_at_call 94; refine h1.mono ?_; rintro e w' ⟨rfl, rfl⟩)
    go_ret
    exact ⟨rfl, rfl⟩
theorem w32 (c : UInt8) : wrap32 (c.toNat : Int) = (c.toNat : Int) := by
  have := c.toNat_lt
  unfold wrap32; omega
theorem letter_at (c : UInt8) (w : World) :
    Calls Tryz.prog 94 #[.int .i32 (wrap32 (c.toNat : Int))] w fun e w' => e = .returned (.bool (Tok.isLet c)) ∧ w = w' := by rw [w32]; exact letter_any c w
theorem digit_at (c : UInt8) (w : World) :
    Calls Tryz.prog 97 #[.int .i32 (wrap32 (c.toNat : Int))] w fun e w' => e = .returned (.bool (Tok.isDig c)) ∧ w = w' := by rw [w32]; exact digit_any c w
theorem inName_at (c : UInt8) (w : World) :
    Calls Tryz.prog 96 #[.int .i32 (wrap32 (c.toNat : Int))] w fun e w' => e = .returned (.bool (Tok.isIn c)) ∧ w = w' := by rw [w32]; exact inName_any c w
theorem run_step (p : UInt8 → Bool) (l r : List UInt8) (c : UInt8) (k : Nat) (h : l.drop k = c :: r) (ha : (l.take k).all p = true) :
    (p c = true → (l.take (k + 1)).all p = true) ∧ (p c = false → Tok.run p l = k) := by
  have hk : k < l.length := by
    rcases Nat.lt_or_ge k l.length with h1 | h1
    · exact h1
    · rw [List.drop_of_length_le h1] at h; cases h
  have hl : l = l.take k ++ c :: r := by rw [← h, List.take_append_drop]
  have hlen : (l.take k).length = k := by rw [List.length_take]; omega
  refine ⟨fun hp => ?_, fun hp => ?_⟩
  · have : l.take (k + 1) = l.take k ++ [c] := by
      conv => lhs; rw [hl]
      rw [List.take_append, hlen]
      rw [List.take_of_length_le (by omega)]
      simp
    rw [this, List.all_append, ha]; simp [hp]
  · unfold Tok.run
    rw [hl, List.takeWhile_append_of_pos (by simpa using ha)]
    simp [hp, hlen]
theorem run_full (p : UInt8 → Bool) (l : List UInt8) (ha : l.all p = true) : Tok.run p l = l.length := by
  unfold Tok.run; rw [Tok.tw_all p l ha]
theorem run_le (p : UInt8 → Bool) (l : List UInt8) : Tok.run p l ≤ l.length := by unfold Tok.run; exact (List.takeWhile_prefix p).length_le
theorem run_take (p : UInt8 → Bool) (l : List UInt8) : l.take (Tok.run p l) = l.takeWhile p := (Tok.take_while_take p l).symm

set_option maxHeartbeats 2000000 in
set_option maxRecDepth 100000 in
theorem runDig_any (s : ByteArray) (w : World) (hs : s.size ≤ 1000000000) :
    Calls Tryz.prog 95 #[.string s, .func (Fn.func 97) #[] #[]] w fun e w' => e = .returned (.int .i64 (Tok.run Tok.isDig s.data.toList : Int)) ∧ w = w' := by
  go_enter Tryz.func95, Tryz.ntmps95
  go_wp2_with fail
  go_loop [8] (fun i => ∃ k : Nat, k ≤ s.size ∧ i = .int .i64 k ∧ (s.data.toList.take k).all Tok.isDig = true) (fun i => s.size - (intOf i).toNat)
  case atStart => exact ⟨0, by omega, rfl, by simp⟩
  case round =>
    obtain ⟨k, hk, rfl, ha⟩ := hrel
    by_cases hlt : k < s.size
    · have hst := run_step Tok.isDig s.data.toList _ _ k (get_s s k hlt) ha
      have HST := Lib.hid hst
      have hcall := digit_at s[k] w
      clear hst ha
      have b1 : decide ((k : Int) < (s.size : Int)) = true := by simp; omega
      cases hv : Tok.isDig s[k]
      · rw [hv] at hcall
        have HR := Lib.hid (HST.out.2 hv)
        clear HST hv
        go_wp2_with (go_at_call 97; (with_reducible refine hcall.mono ?_); rintro e w' ⟨rfl, rfl⟩)
        go_ret
        exact ⟨ret_int (by rw [HR.out]), rfl⟩
      · rw [hv] at hcall
        have HR := Lib.hid (HST.out.1 hv)
        clear HST hv
        go_wp2_with (go_at_call 97; (with_reducible refine hcall.mono ?_); rintro e w' ⟨rfl, rfl⟩)
        go_round
        case rel => exact ⟨k + 1, by omega, by go_num, HR.out⟩
        case measure => simp [intOf]; omega
    · have hks : k = s.size := by omega
      have HR := Lib.hid (show Tok.run Tok.isDig s.data.toList = s.size by
        rw [run_full _ _ (by rw [hks] at ha; rwa [List.take_of_length_le (show s.data.toList.length ≤ s.size from Nat.le_refl _)] at ha)]; rfl)
      clear ha hks
      have b1 : decide ((k : Int) < (s.size : Int)) = false := by simp; omega
      go_wp2_with fail
      go_ret
      exact ⟨ret_int (by rw [HR.out]), rfl⟩

set_option maxHeartbeats 2000000 in
set_option maxRecDepth 100000 in
theorem runIn_any (s : ByteArray) (w : World) (hs : s.size ≤ 1000000000) :
    Calls Tryz.prog 95 #[.string s, .func (Fn.func 96) #[] #[]] w fun e w' => e = .returned (.int .i64 (Tok.run Tok.isIn s.data.toList : Int)) ∧ w = w' := by
  go_enter Tryz.func95, Tryz.ntmps95
  go_wp2_with fail
  go_loop [8] (fun i => ∃ k : Nat, k ≤ s.size ∧ i = .int .i64 k ∧ (s.data.toList.take k).all Tok.isIn = true) (fun i => s.size - (intOf i).toNat)
  case atStart => exact ⟨0, by omega, rfl, by simp⟩
  case round =>
    obtain ⟨k, hk, rfl, ha⟩ := hrel
    by_cases hlt : k < s.size
    · have hst := run_step Tok.isIn s.data.toList _ _ k (get_s s k hlt) ha
      have HST := Lib.hid hst
      have hcall := inName_at s[k] w
      clear hst ha
      have b1 : decide ((k : Int) < (s.size : Int)) = true := by simp; omega
      cases hv : Tok.isIn s[k]
      · rw [hv] at hcall
        have HR := Lib.hid (HST.out.2 hv)
        clear HST hv
        go_wp2_with (go_at_call 96; (with_reducible refine hcall.mono ?_); rintro e w' ⟨rfl, rfl⟩)
        go_ret
        exact ⟨ret_int (by rw [HR.out]), rfl⟩
      · rw [hv] at hcall
        have HR := Lib.hid (HST.out.1 hv)
        clear HST hv
        go_wp2_with (go_at_call 96; (with_reducible refine hcall.mono ?_); rintro e w' ⟨rfl, rfl⟩)
        go_round
        case rel => exact ⟨k + 1, by omega, by go_num, HR.out⟩
        case measure => simp [intOf]; omega
    · have hks : k = s.size := by omega
      have HR := Lib.hid (show Tok.run Tok.isIn s.data.toList = s.size by
        rw [run_full _ _ (by rw [hks] at ha; rwa [List.take_of_length_le (show s.data.toList.length ≤ s.size from Nat.le_refl _)] at ha)]; rfl)
      clear ha hks
      have b1 : decide ((k : Int) < (s.size : Int)) = false := by simp; omega
      go_wp2_with fail
      go_ret
      exact ⟨ret_int (by rw [HR.out]), rfl⟩

end Go.Proofs.YtndehkoglgakpaaGreatDoor
