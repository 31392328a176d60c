/- Small facts on bytes and strings; name parts on both sides. No condition but the string's length. -/
import Derived.Test.YtkmldaelgbkfbaaDoorTrTre
import Derived.Test.YtkmldaelgbkfbaaDoorRows
import Derived.WalkKit
import Derived.WalkSpells
import Derived.WalkLawsBesides
import Derived.Lib.Hide
import Derived.Deep.DeepCutAuto
import Derived.Deep.LoopGhost
namespace Go.Proofs.YtkmldaelgbkfbaaDoor.Tr
open Go.RowKit

/-- Bytes as a string. -/
def str (l : List UInt8) : ByteArray := ⟨l.toArray⟩
theorem str_data (l : List UInt8) : (str l).data.toList = l := rfl
theorem str_app (a b : List UInt8) : str a ++ str b = str (a ++ b) := by
  apply ByteArray.ext; simp [str]
theorem str_size (l : List UInt8) : (str l).size = l.length := by show l.toArray.size = _; simp
theorem str_of (s : ByteArray) : str s.data.toList = s := by apply ByteArray.ext; simp [str]
theorem size_data (s : ByteArray) : s.data.toList.length = s.size := rfl
theorem str_inj {a b : List UInt8} (h : str a = str b) : a = b := by have := congrArg (fun x => x.data.toList) h; exact this
theorem ext_take (s : ByteArray) (a : Nat) : s.extract 0 a = str (s.data.toList.take a) := by
  rw [← str_of (s.extract 0 a)]
  congr 1
  rw [ByteArray.data_extract, Array.toList_extract]
  simp only [List.extract_eq_take_drop]
  simp
theorem ext_drop (s : ByteArray) (a : Nat) : s.extract a s.size = str (s.data.toList.drop a) := by
  rw [← str_of (s.extract a s.size)]
  congr 1
  rw [ByteArray.data_extract, Array.toList_extract]
  have h : s.size = s.data.toList.length := rfl
  rw [h]
  simp only [List.extract_eq_take_drop]
  exact List.take_of_length_le (by simp)
theorem ext_mid (s : ByteArray) (a b : Nat) : s.extract a b = str ((s.data.toList.drop a).take (b - a)) := by
  rw [← str_of (s.extract a b)]
  congr 1
  rw [ByteArray.data_extract, Array.toList_extract, List.extract_eq_take_drop]
theorem get_s (s : ByteArray) (k : Nat) (h : k < s.size) : s.data.toList.drop k = s[k] :: s.data.toList.drop (k + 1) := by
  have hl : k < s.data.toList.length := h
  rw [List.drop_eq_getElem_cons hl]
  rfl
theorem ret_bool {a b : Bool} (h : a = b) : Ending.returned (.bool a) = .returned (.bool b) := by rw [h]
theorem ret_int {k : IntKind} {a b : Int} (h : a = b) : Ending.returned (.int k a) = .returned (.int k b) := by rw [h]
theorem get_d (s : ByteArray) (k : Nat) (h : k < s.size) : s.data.toList[k]? = some s[k] := by
  have hl : k < s.data.toList.length := h
  rw [List.getElem?_eq_getElem hl]; rfl
theorem head_s (s : ByteArray) (h : 0 < s.size) : s.data.toList.head? = some s[0] := by
  rw [List.head?_eq_getElem?]; exact get_d s 0 h
theorem ne_list (s : ByteArray) (h : ¬ s.size = 0) : ¬ s.toList = [] := fun e => by
  rw [ByteArray.toList_eq] at e
  have := congrArg List.length e
  rw [size_data] at this
  exact h this
theorem nat_ne {c : UInt8} {k : UInt8} (h : c ≠ k) : c.toNat ≠ k.toNat := fun e => h (UInt8.toNat_inj.1 e)
theorem part_def (s : List UInt8) : Tre.part s = (decide (1 ≤ s.length ∧ s.length ≤ 32) && !(s.head? == some 46) && !(s.head? == some 45) && s.all Tre.byteOk) := rfl
theorem byte_def (c : UInt8) : Tre.byteOk c = decide ((97 ≤ c.toNat ∧ c.toNat ≤ 122) ∨ (48 ≤ c.toNat ∧ c.toNat ≤ 57) ∨ c.toNat = 46 ∨ c.toNat = 95 ∨ c.toNat = 45) := rfl
theorem all_drop (p : UInt8 → Bool) (s : ByteArray) (k : Nat) (h : k < s.size) : (s.data.toList.drop k).all p = (p s[k] && (s.data.toList.drop (k + 1)).all p) := by
  rw [get_s s k h, List.all_cons]
set_option maxHeartbeats 4000000 in
set_option maxRecDepth 100000 in
theorem part_any (s : ByteArray) (w : World) (hs : s.size ≤ 1000000000) :
    Calls Tryd.prog 40 #[.string s] w fun e w' => e = .returned (.bool (Tre.part s.data.toList)) ∧ w = w' := by
  have HV := Lib.hid (part_def s.data.toList)
  generalize Tre.part s.data.toList = v at *
  by_cases h0 : s.size = 0
  · have HT := Lib.hid (show v = false by rw [HV.out, size_data, h0]; rfl)
    have he : s = ⟨#[]⟩ := by apply ByteArray.ext; exact Array.eq_empty_of_size_eq_zero h0
    subst he
    clear HV
    go_enter Tryd.func40, Tryd.ntmps40
    go_wp2_with fail
    go_ret
    exact ⟨ret_bool (by rw [HT.out]), rfl⟩
  have h1 : 1 ≤ s.size := by omega
  have n0 : (s.size == 0) = false := by rw [beq_eq_false_iff_ne]; exact h0
  have ne := ne_list s h0
  have ni : s.toList.isEmpty = false := by rw [List.isEmpty_eq_false_iff]; exact ne
  have i1 : decide ((s.size : Int) < 1) = false := by simp; omega
  have i1n : decide (s.size < 1) = false := decide_eq_false (by omega)
  by_cases h32 : 32 < s.size
  · have b0 : decide ((32 : Int) < s.size) = true := by simp; omega
    have b0n : decide (32 < s.size) = true := by simp; omega
    have HT := Lib.hid (show v = false by rw [HV.out, size_data, show decide (1 ≤ s.size ∧ s.size ≤ 32) = false by simp; omega]; rfl)
    clear HV h0
    go_enter Tryd.func40, Tryd.ntmps40
    go_wp2_with fail
    go_ret
    exact ⟨ret_bool (by rw [HT.out]), rfl⟩
  have b0 : decide ((32 : Int) < s.size) = false := by simp; omega
  have b0n : decide (32 < s.size) = false := by simp; omega
  have h0s : 0 < s.size := h1
  have HH := Lib.hid (head_s s h0s)
  by_cases hd : s[0] = 46 ∨ s[0] = 45
  · have HT := Lib.hid (show v = false by rw [HV.out, HH.out]; rcases hd with e | e <;> rw [e] <;> simp)
    clear HV HH h0
    have hq : (s[0].toNat = 46 ∨ s[0].toNat = 45) := hd.imp (fun e => by rw [e]; rfl) (fun e => by rw [e]; rfl)
    clear hd
    generalize hc : s[0] = c at *
    rcases hq with q | q
    · have e1 : ((c.toNat : Int) == 46) = true := by rw [beq_iff_eq]; omega
      have e1n : (c.toNat == 46) = true := by rw [beq_iff_eq]; omega
      clear q
      go_enter Tryd.func40, Tryd.ntmps40
      go_wp2_with fail
      go_ret
      exact ⟨ret_bool (by rw [HT.out]), rfl⟩
    · have e1 : ((c.toNat : Int) == 46) = false := by rw [beq_eq_false_iff_ne]; omega
      have e1n : (c.toNat == 46) = false := by rw [beq_eq_false_iff_ne]; omega
      have e2 : ((c.toNat : Int) == 45) = true := by rw [beq_iff_eq]; omega
      have e2n : (c.toNat == 45) = true := by rw [beq_iff_eq]; omega
      clear q
      go_enter Tryd.func40, Tryd.ntmps40
      go_wp2_with fail
      go_ret
      exact ⟨ret_bool (by rw [HT.out]), rfl⟩
  have hd1 : s[0] ≠ 46 := fun e => hd (.inl e)
  have hd2 : s[0] ≠ 45 := fun e => hd (.inr e)
  have g1 : s[0].toNat ≠ 46 := nat_ne hd1
  have g2 : s[0].toNat ≠ 45 := nat_ne hd2
  have d1 : ((s[0].toNat : Int) == 46) = false := by rw [beq_eq_false_iff_ne]; omega
  have d2 : ((s[0].toNat : Int) == 45) = false := by rw [beq_eq_false_iff_ne]; omega
  have d1n : (s[0].toNat == 46) = false := by rw [beq_eq_false_iff_ne]; exact g1
  have d2n : (s[0].toNat == 45) = false := by rw [beq_eq_false_iff_ne]; exact g2
  have HA := Lib.hid (show v = s.data.toList.all Tre.byteOk by
    rw [HV.out, HH.out, size_data]
    have x1 : (some s[0] == some (46 : UInt8)) = false := by rw [beq_eq_false_iff_ne]; intro e; exact hd1 (Option.some.inj e)
    have x2 : (some s[0] == some (45 : UInt8)) = false := by rw [beq_eq_false_iff_ne]; intro e; exact hd2 (Option.some.inj e)
    rw [x1, x2]
    have x3 : decide (1 ≤ s.size ∧ s.size ≤ 32) = true := by simp; omega
    rw [x3]; rfl)
  have HL := Lib.hid (show s.size ≤ 32 by omega)
  clear HV HH hd hd1 hd2 g1 g2 h0 h32
  go_enter Tryd.func40, Tryd.ntmps40
  go_wp2_with fail
  go_loopw [24] (fun i wr => ∃ k : Nat, k ≤ s.size ∧ i = .int .i64 k ∧ v = (s.data.toList.drop k).all Tre.byteOk ∧ wr = w) (fun i _ => s.size - (intOf i).toNat)
  case atStart => exact ⟨0, by omega, rfl, by rw [HA.out, List.drop_zero], rfl⟩
  case round =>
    clear d1 d2 d1n d2n HA
    obtain ⟨k, hk, rfl, hv, rfl⟩ := hrel
    by_cases hlt : k < s.size
    · have b1 : decide ((k : Int) < s.size) = true := by simp; omega
      have b1n : decide (k < s.size) = true := by simp; omega
      rw [all_drop _ s k hlt] at hv
      have HVV := Lib.hid hv
      have hcl := s[k].toNat_lt
      have HB := Lib.hid (byte_def s[k])
      clear hv
      generalize hcg : s[k] = c at *
      have hsplit : (97 ≤ c.toNat ∧ c.toNat ≤ 122) ∨ (48 ≤ c.toNat ∧ c.toNat ≤ 57) ∨ (c.toNat = 46) ∨ (c.toNat = 95) ∨ (c.toNat = 45) ∨ (c.toNat < 48 ∧ c.toNat ≠ 46 ∧ c.toNat ≠ 45) ∨ (57 < c.toNat ∧ c.toNat < 97 ∧ c.toNat ≠ 95) ∨ (122 < c.toNat) := by omega
      rcases hsplit with hx | hx | hx | hx | hx | hx | hx | hx
      · have f0 : decide ((c.toNat : Int) < 97) = false := by simp; omega
        have f0n : decide (c.toNat < 97) = false := by simp; omega
        have f1 : decide ((122 : Int) < (c.toNat : Int)) = false := by simp; omega
        have f1n : decide (122 < c.toNat) = false := by simp; omega
        have f2 : decide ((c.toNat : Int) < 48) = false := by simp; omega
        have f2n : decide (c.toNat < 48) = false := by simp; omega
        have f3 : decide ((57 : Int) < (c.toNat : Int)) = true := by simp; omega
        have f3n : decide (57 < c.toNat) = true := by simp; omega
        have e46 : ((c.toNat : Int) == 46) = false := by rw [beq_eq_false_iff_ne]; omega
        have e46n : (c.toNat == 46) = false := by rw [beq_eq_false_iff_ne]; omega
        have n46 : ((c.toNat : Int) != 46) = true := by rw [bne_iff_ne]; omega
        have e95 : ((c.toNat : Int) == 95) = false := by rw [beq_eq_false_iff_ne]; omega
        have e95n : (c.toNat == 95) = false := by rw [beq_eq_false_iff_ne]; omega
        have n95 : ((c.toNat : Int) != 95) = true := by rw [bne_iff_ne]; omega
        have e45 : ((c.toNat : Int) == 45) = false := by rw [beq_eq_false_iff_ne]; omega
        have e45n : (c.toNat == 45) = false := by rw [beq_eq_false_iff_ne]; omega
        have n45 : ((c.toNat : Int) != 45) = true := by rw [bne_iff_ne]; omega
        have HN := Lib.hid (show v = (s.data.toList.drop (k + 1)).all Tre.byteOk by rw [HVV.out, HB.out]; rw [show decide ((97 ≤ c.toNat ∧ c.toNat ≤ 122) ∨ (48 ≤ c.toNat ∧ c.toNat ≤ 57) ∨ c.toNat = 46 ∨ c.toNat = 95 ∨ c.toNat = 45) = true by simp only [decide_eq_true_iff]; omega]; rfl)
        clear HVV HB hx
        go_wp2_with fail
        go_roundw
        case rel => exact ⟨k + 1, by omega, by go_num, HN.out, by trivial⟩
        case measure => simp [intOf]; omega
      · have f0 : decide ((c.toNat : Int) < 97) = true := by simp; omega
        have f0n : decide (c.toNat < 97) = true := by simp; omega
        have f1 : decide ((122 : Int) < (c.toNat : Int)) = false := by simp; omega
        have f1n : decide (122 < c.toNat) = false := by simp; omega
        have f2 : decide ((c.toNat : Int) < 48) = false := by simp; omega
        have f2n : decide (c.toNat < 48) = false := by simp; omega
        have f3 : decide ((57 : Int) < (c.toNat : Int)) = false := by simp; omega
        have f3n : decide (57 < c.toNat) = false := by simp; omega
        have e46 : ((c.toNat : Int) == 46) = false := by rw [beq_eq_false_iff_ne]; omega
        have e46n : (c.toNat == 46) = false := by rw [beq_eq_false_iff_ne]; omega
        have n46 : ((c.toNat : Int) != 46) = true := by rw [bne_iff_ne]; omega
        have e95 : ((c.toNat : Int) == 95) = false := by rw [beq_eq_false_iff_ne]; omega
        have e95n : (c.toNat == 95) = false := by rw [beq_eq_false_iff_ne]; omega
        have n95 : ((c.toNat : Int) != 95) = true := by rw [bne_iff_ne]; omega
        have e45 : ((c.toNat : Int) == 45) = false := by rw [beq_eq_false_iff_ne]; omega
        have e45n : (c.toNat == 45) = false := by rw [beq_eq_false_iff_ne]; omega
        have n45 : ((c.toNat : Int) != 45) = true := by rw [bne_iff_ne]; omega
        have HN := Lib.hid (show v = (s.data.toList.drop (k + 1)).all Tre.byteOk by rw [HVV.out, HB.out]; rw [show decide ((97 ≤ c.toNat ∧ c.toNat ≤ 122) ∨ (48 ≤ c.toNat ∧ c.toNat ≤ 57) ∨ c.toNat = 46 ∨ c.toNat = 95 ∨ c.toNat = 45) = true by simp only [decide_eq_true_iff]; omega]; rfl)
        clear HVV HB hx
        go_wp2_with fail
        go_roundw
        case rel => exact ⟨k + 1, by omega, by go_num, HN.out, by trivial⟩
        case measure => simp [intOf]; omega
      · have f0 : decide ((c.toNat : Int) < 97) = true := by simp; omega
        have f0n : decide (c.toNat < 97) = true := by simp; omega
        have f1 : decide ((122 : Int) < (c.toNat : Int)) = false := by simp; omega
        have f1n : decide (122 < c.toNat) = false := by simp; omega
        have f2 : decide ((c.toNat : Int) < 48) = true := by simp; omega
        have f2n : decide (c.toNat < 48) = true := by simp; omega
        have f3 : decide ((57 : Int) < (c.toNat : Int)) = false := by simp; omega
        have f3n : decide (57 < c.toNat) = false := by simp; omega
        have e46 : ((c.toNat : Int) == 46) = true := by rw [beq_iff_eq]; omega
        have e46n : (c.toNat == 46) = true := by rw [beq_iff_eq]; omega
        have n46 : ((c.toNat : Int) != 46) = false := by simp; omega
        have e95 : ((c.toNat : Int) == 95) = false := by rw [beq_eq_false_iff_ne]; omega
        have e95n : (c.toNat == 95) = false := by rw [beq_eq_false_iff_ne]; omega
        have n95 : ((c.toNat : Int) != 95) = true := by rw [bne_iff_ne]; omega
        have e45 : ((c.toNat : Int) == 45) = false := by rw [beq_eq_false_iff_ne]; omega
        have e45n : (c.toNat == 45) = false := by rw [beq_eq_false_iff_ne]; omega
        have n45 : ((c.toNat : Int) != 45) = true := by rw [bne_iff_ne]; omega
        have HN := Lib.hid (show v = (s.data.toList.drop (k + 1)).all Tre.byteOk by rw [HVV.out, HB.out]; rw [show decide ((97 ≤ c.toNat ∧ c.toNat ≤ 122) ∨ (48 ≤ c.toNat ∧ c.toNat ≤ 57) ∨ c.toNat = 46 ∨ c.toNat = 95 ∨ c.toNat = 45) = true by simp only [decide_eq_true_iff]; omega]; rfl)
        clear HVV HB hx
        go_wp2_with fail
        go_roundw
        case rel => exact ⟨k + 1, by omega, by go_num, HN.out, by trivial⟩
        case measure => simp [intOf]; omega
      · have f0 : decide ((c.toNat : Int) < 97) = true := by simp; omega
        have f0n : decide (c.toNat < 97) = true := by simp; omega
        have f1 : decide ((122 : Int) < (c.toNat : Int)) = false := by simp; omega
        have f1n : decide (122 < c.toNat) = false := by simp; omega
        have f2 : decide ((c.toNat : Int) < 48) = false := by simp; omega
        have f2n : decide (c.toNat < 48) = false := by simp; omega
        have f3 : decide ((57 : Int) < (c.toNat : Int)) = true := by simp; omega
        have f3n : decide (57 < c.toNat) = true := by simp; omega
        have e46 : ((c.toNat : Int) == 46) = false := by rw [beq_eq_false_iff_ne]; omega
        have e46n : (c.toNat == 46) = false := by rw [beq_eq_false_iff_ne]; omega
        have n46 : ((c.toNat : Int) != 46) = true := by rw [bne_iff_ne]; omega
        have e95 : ((c.toNat : Int) == 95) = true := by rw [beq_iff_eq]; omega
        have e95n : (c.toNat == 95) = true := by rw [beq_iff_eq]; omega
        have n95 : ((c.toNat : Int) != 95) = false := by simp; omega
        have e45 : ((c.toNat : Int) == 45) = false := by rw [beq_eq_false_iff_ne]; omega
        have e45n : (c.toNat == 45) = false := by rw [beq_eq_false_iff_ne]; omega
        have n45 : ((c.toNat : Int) != 45) = true := by rw [bne_iff_ne]; omega
        have HN := Lib.hid (show v = (s.data.toList.drop (k + 1)).all Tre.byteOk by rw [HVV.out, HB.out]; rw [show decide ((97 ≤ c.toNat ∧ c.toNat ≤ 122) ∨ (48 ≤ c.toNat ∧ c.toNat ≤ 57) ∨ c.toNat = 46 ∨ c.toNat = 95 ∨ c.toNat = 45) = true by simp only [decide_eq_true_iff]; omega]; rfl)
        clear HVV HB hx
        go_wp2_with fail
        go_roundw
        case rel => exact ⟨k + 1, by omega, by go_num, HN.out, by trivial⟩
        case measure => simp [intOf]; omega
      · have f0 : decide ((c.toNat : Int) < 97) = true := by simp; omega
        have f0n : decide (c.toNat < 97) = true := by simp; omega
        have f1 : decide ((122 : Int) < (c.toNat : Int)) = false := by simp; omega
        have f1n : decide (122 < c.toNat) = false := by simp; omega
        have f2 : decide ((c.toNat : Int) < 48) = true := by simp; omega
        have f2n : decide (c.toNat < 48) = true := by simp; omega
        have f3 : decide ((57 : Int) < (c.toNat : Int)) = false := by simp; omega
        have f3n : decide (57 < c.toNat) = false := by simp; omega
        have e46 : ((c.toNat : Int) == 46) = false := by rw [beq_eq_false_iff_ne]; omega
        have e46n : (c.toNat == 46) = false := by rw [beq_eq_false_iff_ne]; omega
        have n46 : ((c.toNat : Int) != 46) = true := by rw [bne_iff_ne]; omega
        have e95 : ((c.toNat : Int) == 95) = false := by rw [beq_eq_false_iff_ne]; omega
        have e95n : (c.toNat == 95) = false := by rw [beq_eq_false_iff_ne]; omega
        have n95 : ((c.toNat : Int) != 95) = true := by rw [bne_iff_ne]; omega
        have e45 : ((c.toNat : Int) == 45) = true := by rw [beq_iff_eq]; omega
        have e45n : (c.toNat == 45) = true := by rw [beq_iff_eq]; omega
        have n45 : ((c.toNat : Int) != 45) = false := by simp; omega
        have HN := Lib.hid (show v = (s.data.toList.drop (k + 1)).all Tre.byteOk by rw [HVV.out, HB.out]; rw [show decide ((97 ≤ c.toNat ∧ c.toNat ≤ 122) ∨ (48 ≤ c.toNat ∧ c.toNat ≤ 57) ∨ c.toNat = 46 ∨ c.toNat = 95 ∨ c.toNat = 45) = true by simp only [decide_eq_true_iff]; omega]; rfl)
        clear HVV HB hx
        go_wp2_with fail
        go_roundw
        case rel => exact ⟨k + 1, by omega, by go_num, HN.out, by trivial⟩
        case measure => simp [intOf]; omega
      · have f0 : decide ((c.toNat : Int) < 97) = true := by simp; omega
        have f0n : decide (c.toNat < 97) = true := by simp; omega
        have f1 : decide ((122 : Int) < (c.toNat : Int)) = false := by simp; omega
        have f1n : decide (122 < c.toNat) = false := by simp; omega
        have f2 : decide ((c.toNat : Int) < 48) = true := by simp; omega
        have f2n : decide (c.toNat < 48) = true := by simp; omega
        have f3 : decide ((57 : Int) < (c.toNat : Int)) = false := by simp; omega
        have f3n : decide (57 < c.toNat) = false := by simp; omega
        have e46 : ((c.toNat : Int) == 46) = false := by rw [beq_eq_false_iff_ne]; omega
        have e46n : (c.toNat == 46) = false := by rw [beq_eq_false_iff_ne]; omega
        have n46 : ((c.toNat : Int) != 46) = true := by rw [bne_iff_ne]; omega
        have e95 : ((c.toNat : Int) == 95) = false := by rw [beq_eq_false_iff_ne]; omega
        have e95n : (c.toNat == 95) = false := by rw [beq_eq_false_iff_ne]; omega
        have n95 : ((c.toNat : Int) != 95) = true := by rw [bne_iff_ne]; omega
        have e45 : ((c.toNat : Int) == 45) = false := by rw [beq_eq_false_iff_ne]; omega
        have e45n : (c.toNat == 45) = false := by rw [beq_eq_false_iff_ne]; omega
        have n45 : ((c.toNat : Int) != 45) = true := by rw [bne_iff_ne]; omega
        have HN := Lib.hid (show v = false by rw [HVV.out, HB.out]; rw [show decide ((97 ≤ c.toNat ∧ c.toNat ≤ 122) ∨ (48 ≤ c.toNat ∧ c.toNat ≤ 57) ∨ c.toNat = 46 ∨ c.toNat = 95 ∨ c.toNat = 45) = false by simp only [decide_eq_false_iff_not]; omega]; rfl)
        clear HVV HB hx
        go_wp2_with fail
        go_ret
        exact ⟨ret_bool (by rw [HN.out]), rfl⟩
      · have f0 : decide ((c.toNat : Int) < 97) = true := by simp; omega
        have f0n : decide (c.toNat < 97) = true := by simp; omega
        have f1 : decide ((122 : Int) < (c.toNat : Int)) = false := by simp; omega
        have f1n : decide (122 < c.toNat) = false := by simp; omega
        have f2 : decide ((c.toNat : Int) < 48) = false := by simp; omega
        have f2n : decide (c.toNat < 48) = false := by simp; omega
        have f3 : decide ((57 : Int) < (c.toNat : Int)) = true := by simp; omega
        have f3n : decide (57 < c.toNat) = true := by simp; omega
        have e46 : ((c.toNat : Int) == 46) = false := by rw [beq_eq_false_iff_ne]; omega
        have e46n : (c.toNat == 46) = false := by rw [beq_eq_false_iff_ne]; omega
        have n46 : ((c.toNat : Int) != 46) = true := by rw [bne_iff_ne]; omega
        have e95 : ((c.toNat : Int) == 95) = false := by rw [beq_eq_false_iff_ne]; omega
        have e95n : (c.toNat == 95) = false := by rw [beq_eq_false_iff_ne]; omega
        have n95 : ((c.toNat : Int) != 95) = true := by rw [bne_iff_ne]; omega
        have e45 : ((c.toNat : Int) == 45) = false := by rw [beq_eq_false_iff_ne]; omega
        have e45n : (c.toNat == 45) = false := by rw [beq_eq_false_iff_ne]; omega
        have n45 : ((c.toNat : Int) != 45) = true := by rw [bne_iff_ne]; omega
        have HN := Lib.hid (show v = false by rw [HVV.out, HB.out]; rw [show decide ((97 ≤ c.toNat ∧ c.toNat ≤ 122) ∨ (48 ≤ c.toNat ∧ c.toNat ≤ 57) ∨ c.toNat = 46 ∨ c.toNat = 95 ∨ c.toNat = 45) = false by simp only [decide_eq_false_iff_not]; omega]; rfl)
        clear HVV HB hx
        go_wp2_with fail
        go_ret
        exact ⟨ret_bool (by rw [HN.out]), rfl⟩
      · have f0 : decide ((c.toNat : Int) < 97) = false := by simp; omega
        have f0n : decide (c.toNat < 97) = false := by simp; omega
        have f1 : decide ((122 : Int) < (c.toNat : Int)) = true := by simp; omega
        have f1n : decide (122 < c.toNat) = true := by simp; omega
        have f2 : decide ((c.toNat : Int) < 48) = false := by simp; omega
        have f2n : decide (c.toNat < 48) = false := by simp; omega
        have f3 : decide ((57 : Int) < (c.toNat : Int)) = true := by simp; omega
        have f3n : decide (57 < c.toNat) = true := by simp; omega
        have e46 : ((c.toNat : Int) == 46) = false := by rw [beq_eq_false_iff_ne]; omega
        have e46n : (c.toNat == 46) = false := by rw [beq_eq_false_iff_ne]; omega
        have n46 : ((c.toNat : Int) != 46) = true := by rw [bne_iff_ne]; omega
        have e95 : ((c.toNat : Int) == 95) = false := by rw [beq_eq_false_iff_ne]; omega
        have e95n : (c.toNat == 95) = false := by rw [beq_eq_false_iff_ne]; omega
        have n95 : ((c.toNat : Int) != 95) = true := by rw [bne_iff_ne]; omega
        have e45 : ((c.toNat : Int) == 45) = false := by rw [beq_eq_false_iff_ne]; omega
        have e45n : (c.toNat == 45) = false := by rw [beq_eq_false_iff_ne]; omega
        have n45 : ((c.toNat : Int) != 45) = true := by rw [bne_iff_ne]; omega
        have HN := Lib.hid (show v = false by rw [HVV.out, HB.out]; rw [show decide ((97 ≤ c.toNat ∧ c.toNat ≤ 122) ∨ (48 ≤ c.toNat ∧ c.toNat ≤ 57) ∨ c.toNat = 46 ∨ c.toNat = 95 ∨ c.toNat = 45) = false by simp only [decide_eq_false_iff_not]; omega]; rfl)
        clear HVV HB hx
        go_wp2_with fail
        go_ret
        exact ⟨ret_bool (by rw [HN.out]), rfl⟩
    · have b1 : decide ((k : Int) < s.size) = false := by simp; omega
      have b1n : decide (k < s.size) = false := by simp; omega
      have HN := Lib.hid (show v = true by rw [hv, List.drop_of_length_le (by rw [size_data]; omega)]; rfl)
      clear hv
      go_wp2_with fail
      go_ret
      exact ⟨ret_bool (by rw [HN.out]), rfl⟩
end Go.Proofs.YtkmldaelgbkfbaaDoor.Tr
