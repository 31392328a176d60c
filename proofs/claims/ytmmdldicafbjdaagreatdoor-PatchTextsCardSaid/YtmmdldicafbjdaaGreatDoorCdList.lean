/- Text, and lists of numbers and of texts, return their bytes, or the error. Condition: the library's table of powers of ten lies in its variable. -/
import Derived.Test.YtmmdldicafbjdaaGreatDoorCdBld
namespace Go.Proofs.YtmmdldicafbjdaaGreatDoor.Cd
open Go.RowKit

/-- What Text returns. -/
def txtV (s : ByteArray) : Value := if 65536 < s.size then .tuple #[.string ⟨#[]⟩, .int .i64 10] else .tuple #[.string (str (Cod.txt s.data.toList)), .int .i64 0]
theorem str_of (s : ByteArray) : str s.data.toList = s := by apply ByteArray.ext; simp [str]
theorem txt_eq (s : ByteArray) : str (Lib.decDigits s.size) ++ ⟨#[58]⟩ ++ s ++ ⟨#[44]⟩ = str (Cod.txt s.data.toList) := by
  have h1 : (⟨#[58]⟩ : ByteArray) = str [58] := rfl
  have h2 : (⟨#[44]⟩ : ByteArray) = str [44] := rfl
  rw [h1, h2]
  conv => lhs; rw [← str_of s]
  rw [str_app, str_app, str_app]
  unfold Cod.txt
  rw [show s.data.toList.length = s.size from rfl, str_size]
  simp [show s.data.toList.length = s.size from rfl]
theorem txt_len (s : ByteArray) (h : s.size ≤ 65536) : (Cod.txt s.data.toList).length ≤ 70000 := by
  have := dec_len s.size (by omega)
  unfold Cod.txt
  rw [show s.data.toList.length = s.size from rfl]
  simp
  omega
theorem num_len (n : Nat) (h : n ≤ 281474976710656) : (Cod.num n).length ≤ 22 := by
  have := dec_len n (by omega)
  unfold Cod.num; simp; omega
end Go.Proofs.YtmmdldicafbjdaaGreatDoor.Cd
