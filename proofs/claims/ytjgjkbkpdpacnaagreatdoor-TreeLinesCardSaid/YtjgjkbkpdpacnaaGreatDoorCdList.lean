/- Text, and lists of numbers and of texts, return their bytes, or the error. Condition: the library's table of powers of ten lies in its variable. -/
import Derived.Test.YtjgjkbkpdpacnaaGreatDoorCdBld
namespace Go.Proofs.YtjgjkbkpdpacnaaGreatDoor.Cd
open Go.RowKit

/-- What Text returns. -/
def txtV (s : ByteArray) : Value := if 65536 < s.size then .tuple #[.string ⟨#[]⟩, .int .i64 10] else .tuple #[.string (str (Cod.txt s.data.toList)), .int .i64 0]
theorem str_of (s : ByteArray) : str s.data.toList = s := by apply ByteArray.ext; simp [str]
theorem txt_eq (s : ByteArray) : str (Lib.decDigits s.size) ++ ⟨#[58]⟩ ++ s ++ ⟨#[44]⟩ = str (Cod.txt s.data.toList) := by
  have h1 : (⟨#[58]⟩ : ByteArray) = str [58] := rfl
  have h2 : (⟨#[44]⟩ : ByteArray) = str [44] := rfl
  rw [h1, h2]
  conv => lhs; rw [← str_of s]
  rw [str_app, str_app, str_app]
  unfold Cod.txt
  rw [show s.data.toList.length = s.size from rfl, str_size]
  simp [show s.data.toList.length = s.size from rfl]
theorem txt_len (s : ByteArray) (h : s.size ≤ 65536) : (Cod.txt s.data.toList).length ≤ 70000 := by
  have := dec_len s.size (by omega)
  unfold Cod.txt
  rw [show s.data.toList.length = s.size from rfl]
  simp
  omega
theorem num_len (n : Nat) (h : n ≤ 281474976710656) : (Cod.num n).length ≤ 22 := by
  have := dec_len n (by omega)
  unfold Cod.num; simp; omega
set_option maxHeartbeats 1000000 in
set_option maxRecDepth 100000 in
theorem text_any (s : ByteArray) (w : World) (hT : Tabs w) :
    Calls Tryz.prog 104 #[.string s] w fun e w' => e = .returned (txtV s) ∧ Below w.heap.size w w' := by
  by_cases h : 65536 < s.size
  · have hv := Lib.hid (show txtV s = .tuple #[.string ⟨#[]⟩, .int .i64 10] from if_pos h)
    have d : decide ((65536 : Int) < s.size) = true := by simp; omega
    clear h
    go_enter Tryz.func104, Tryz.ntmps104
    go_wp2_with fail
    go_ret2
    exact ⟨by rw [hv.out]; rfl, Below.refl _ _⟩
  · have hv := Lib.hid (show txtV s = .tuple #[.string (str (Cod.txt s.data.toList)), .int .i64 0] from if_neg h)
    have d : decide ((65536 : Int) < s.size) = false := by simp; omega
    have hlen := dec_len s.size (by omega)
    rw [← str_size] at hlen
    have hle : s.size ≤ 65536 := by omega
    have HE := Lib.hid (txt_eq s)
    go_enter Tryz.func104, Tryz.ntmps104
    go_wp2_with fail
    refine (itoa_any s.size (by omega) _ hT).mono ?_
    rintro e w1 ⟨rfl, hb⟩
    have hl1 : (str (Lib.decDigits s.size) ++ ⟨#[58]⟩).size ≤ 22 := by
      rw [show (⟨#[58]⟩ : ByteArray) = str [58] from rfl, str_app, str_size]; simp; rw [str_size] at hlen; omega
    have hl2 : (str (Lib.decDigits s.size) ++ ⟨#[58]⟩ ++ s).size ≤ 65558 := by simp at hl1 ⊢; omega
    go_wp2_with fail
    go_ret2
    exact ⟨by rw [hv.out, ← HE.out]; rfl, hb⟩
end Go.Proofs.YtjgjkbkpdpacnaaGreatDoor.Cd
