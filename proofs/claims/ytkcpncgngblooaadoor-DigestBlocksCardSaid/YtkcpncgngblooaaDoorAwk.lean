/- The examples of the chapter, as plain facts: the digests of two strings, and their texts. No condition. -/
import Derived.Test.YtkcpncgngblooaaDoorWrite
namespace Go.Proofs.YtkcpncgngblooaaDoor
namespace Spo
open Kec
def toL (s : St) : List (BitVec 64) := (List.range 25).map s
def ofL (l : List (BitVec 64)) : St := fun i => l.getD i 0#64
def permL (l : List (BitVec 64)) : Nat → List (BitVec 64)
  | 0 => l
  | n + 1 => toL (round (ofL (permL l n)) (const n))
theorem of_to (s : St) : Same s (ofL (toL s)) := fun i hi => by unfold ofL toL; simp [hi]
theorem permL_same (s : St) (n : Nat) : Same (permN s n) (ofL (permL (toL s) n)) := by
  induction n with
  | zero => exact of_to s
  | succ n ih =>
    intro i hi
    show round (permN s n) (const n) i = ofL (toL (round (ofL (permL (toL s) n)) (const n))) i
    rw [round_congr _ _ _ ih i hi]
    exact of_to _ i hi
def sqL (l : List (BitVec 64)) : List UInt8 := (List.range 32).map fun i => UInt8.ofNat ((l.getD (i / 8) 0#64 >>> (8 * (i % 8))).toNat % 256)
theorem sq_perm (T : St) : sq (perm T) = sqL (permL (toL T) 24) := by
  unfold sq sqL
  apply List.map_congr_left
  intro i hi
  have h32 : i < 32 := by simpa using hi
  have h := permL_same T 24 (i / 8) (by omega)
  show UInt8.ofNat ((permN T 24 (i / 8) >>> (8 * (i % 8))).toNat % 256) = _
  rw [h]
  rfl
def D0 : List UInt8 := [167, 255, 198, 248, 191, 30, 215, 102, 81, 193, 71, 86, 160, 97, 214, 98, 245, 128, 255, 77, 228, 59, 73, 250, 130, 216, 10, 75, 128, 248, 67, 74]
def D3 : List UInt8 := [58, 152, 93, 167, 79, 226, 37, 178, 4, 92, 23, 45, 107, 211, 144, 189, 133, 95, 8, 110, 62, 157, 82, 91, 70, 191, 226, 69, 17, 67, 21, 50]
theorem dig_empty : dig [] = D0 := by
  unfold dig fin
  rw [sq_perm]
  decide +kernel
theorem dig_abc : dig [97, 98, 99] = D3 := by
  unfold dig fin
  rw [sq_perm]
  decide +kernel
end Spo
def strA : ByteArray := ⟨#[97, 55, 102, 102, 99, 54, 102, 56, 98, 102, 49, 101, 100, 55, 54, 54, 53, 49, 99, 49, 52, 55, 53, 54, 97, 48, 54, 49, 100, 54, 54, 50, 102, 53, 56, 48, 102, 102, 52, 100, 101, 52, 51, 98, 52, 57, 102, 97, 56, 50, 100, 56, 48, 97, 52, 98, 56, 48, 102, 56, 52, 51, 52, 97]⟩
def strB : ByteArray := ⟨#[51, 97, 57, 56, 53, 100, 97, 55, 52, 102, 101, 50, 50, 53, 98, 50, 48, 52, 53, 99, 49, 55, 50, 100, 54, 98, 100, 51, 57, 48, 98, 100, 56, 53, 53, 102, 48, 56, 54, 101, 51, 101, 57, 100, 53, 50, 53, 98, 52, 54, 98, 102, 101, 50, 52, 53, 49, 49, 52, 51, 49, 53, 51, 50]⟩
def digA : ByteArray := ⟨Spo.D0.toArray⟩
def digB : ByteArray := ⟨Spo.D3.toArray⟩
theorem digS_empty : digS ⟨#[]⟩ = digA := by
  unfold digS digA
  rw [show ((⟨#[]⟩ : ByteArray).data.toList) = [] from rfl, Spo.dig_empty]
theorem digS_abc : digS ⟨#[97, 98, 99]⟩ = digB := by
  unfold digS digB
  rw [show ((⟨#[97, 98, 99]⟩ : ByteArray).data.toList) = [97, 98, 99] from rfl, Spo.dig_abc]
theorem bytes_ext {a b : ByteArray} (h : a.data.toList = b.data.toList) : a = b := by
  cases a; cases b; exact congrArg ByteArray.mk (Array.toList_inj.1 h)
theorem hex_A : hexS digA = strA := bytes_ext (by decide +kernel)
theorem hex_B : hexS digB = strB := bytes_ext (by decide +kernel)
theorem par_B : parV strB = .tuple #[.string digB, .int .i64 0] := by
  unfold parV
  rw [if_pos (by decide +kernel), show parS strB = digB from bytes_ext (by decide +kernel)]
theorem wr_abc : Spo.sq (Spo.fin ((Spo.ab (Z, 0 % 136) (cat [⟨#[97]⟩, ⟨#[]⟩, ⟨#[98, 99]⟩])).1, (0 + (cat [⟨#[97]⟩, ⟨#[]⟩, ⟨#[98, 99]⟩]).length) % 136)) = Spo.D3 := Spo.dig_abc
end Go.Proofs.YtkcpncgngblooaaDoor
