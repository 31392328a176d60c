/- Small facts on bytes and strings; name parts on both sides. No condition but the string's length. -/
import Derived.Test.YtdiaejdoglccoaaTrTre
import Derived.Test.YtdiaejdoglccoaaRows
import Derived.WalkKit
import Derived.WalkSpells
import Derived.WalkLawsBesides
import Derived.Lib.Hide
import Derived.Deep.DeepCutAuto
import Derived.Deep.LoopGhost
namespace Go.Proofs.Ytdiaejdoglccoaa.Tr
open Go.RowKit

/-- Bytes as a string. -/
def str (l : List UInt8) : ByteArray := ⟨l.toArray⟩
theorem str_data (l : List UInt8) : (str l).data.toList = l := rfl
theorem str_app (a b : List UInt8) : str a ++ str b = str (a ++ b) := by
  apply ByteArray.ext; simp [str]
theorem str_size (l : List UInt8) : (str l).size = l.length := by show l.toArray.size = _; simp
theorem str_of (s : ByteArray) : str s.data.toList = s := by apply ByteArray.ext; simp [str]
theorem size_data (s : ByteArray) : s.data.toList.length = s.size := rfl
theorem str_inj {a b : List UInt8} (h : str a = str b) : a = b := by have := congrArg (fun x => x.data.toList) h; exact this
theorem ext_take (s : ByteArray) (a : Nat) : s.extract 0 a = str (s.data.toList.take a) := by
  rw [← str_of (s.extract 0 a)]
  congr 1
  rw [ByteArray.data_extract, Array.toList_extract]
  simp only [List.extract_eq_take_drop]
  simp
theorem ext_drop (s : ByteArray) (a : Nat) : s.extract a s.size = str (s.data.toList.drop a) := by
  rw [← str_of (s.extract a s.size)]
  congr 1
  rw [ByteArray.data_extract, Array.toList_extract]
  have h : s.size = s.data.toList.length := rfl
  rw [h]
  simp only [List.extract_eq_take_drop]
  exact List.take_of_length_le (by simp)
theorem ext_mid (s : ByteArray) (a b : Nat) : s.extract a b = str ((s.data.toList.drop a).take (b - a)) := by
  rw [← str_of (s.extract a b)]
  congr 1
  rw [ByteArray.data_extract, Array.toList_extract, List.extract_eq_take_drop]
theorem get_s (s : ByteArray) (k : Nat) (h : k < s.size) : s.data.toList.drop k = s[k] :: s.data.toList.drop (k + 1) := by
  have hl : k < s.data.toList.length := h
  rw [List.drop_eq_getElem_cons hl]
  rfl
theorem ret_bool {a b : Bool} (h : a = b) : Ending.returned (.bool a) = .returned (.bool b) := by rw [h]
theorem ret_int {k : IntKind} {a b : Int} (h : a = b) : Ending.returned (.int k a) = .returned (.int k b) := by rw [h]
theorem get_d (s : ByteArray) (k : Nat) (h : k < s.size) : s.data.toList[k]? = some s[k] := by
  have hl : k < s.data.toList.length := h
  rw [List.getElem?_eq_getElem hl]; rfl
theorem head_s (s : ByteArray) (h : 0 < s.size) : s.data.toList.head? = some s[0] := by
  rw [List.head?_eq_getElem?]; exact get_d s 0 h
theorem ne_list (s : ByteArray) (h : ¬ s.size = 0) : ¬ s.toList = [] := fun e => by
  rw [ByteArray.toList_eq] at e
  have := congrArg List.length e
  rw [size_data] at this
  exact h this
theorem nat_ne {c : UInt8} {k : UInt8} (h : c ≠ k) : c.toNat ≠ k.toNat := fun e => h (UInt8.toNat_inj.1 e)
theorem part_def (s : List UInt8) : Tre.part s = (decide (1 ≤ s.length ∧ s.length ≤ 32) && !(s.head? == some 46) && !(s.head? == some 45) && s.all Tre.byteOk) := rfl
theorem byte_def (c : UInt8) : Tre.byteOk c = decide ((97 ≤ c.toNat ∧ c.toNat ≤ 122) ∨ (48 ≤ c.toNat ∧ c.toNat ≤ 57) ∨ c.toNat = 46 ∨ c.toNat = 95 ∨ c.toNat = 45) := rfl
theorem all_drop (p : UInt8 → Bool) (s : ByteArray) (k : Nat) (h : k < s.size) : (s.data.toList.drop k).all p = (p s[k] && (s.data.toList.drop (k + 1)).all p) := by
  rw [get_s s k h, List.all_cons]
end Go.Proofs.Ytdiaejdoglccoaa.Tr
