/- The identifiers of the chapter's example, as plain facts. No condition. -/
import Derived.Test.YtinkpbobkeppiaaGreatDoorPz6
namespace Go.Proofs.YtinkpbobkeppiaaGreatDoor
namespace Dg.Spo
open Kec
def toL (s : St) : List (BitVec 64) := (List.range 25).map s
def ofL (l : List (BitVec 64)) : St := fun i => l.getD i 0#64
def permL (l : List (BitVec 64)) : Nat → List (BitVec 64)
  | 0 => l
  | n + 1 => toL (round (ofL (permL l n)) (const n))
theorem of_to (s : St) : Same s (ofL (toL s)) := fun i hi => by unfold ofL toL; simp [hi]
theorem permL_same (s : St) (n : Nat) : Same (permN s n) (ofL (permL (toL s) n)) := by
  induction n with
  | zero => exact of_to s
  | succ n ih =>
    intro i hi
    show round (permN s n) (const n) i = ofL (toL (round (ofL (permL (toL s) n)) (const n))) i
    rw [round_congr _ _ _ ih i hi]
    exact of_to _ i hi
def sqL (l : List (BitVec 64)) : List UInt8 := (List.range 32).map fun i => UInt8.ofNat ((l.getD (i / 8) 0#64 >>> (8 * (i % 8))).toNat % 256)
theorem sq_perm (T : St) : sq (perm T) = sqL (permL (toL T) 24) := by
  unfold sq sqL
  apply List.map_congr_left
  intro i hi
  have h32 : i < 32 := by simpa using hi
  have h := permL_same T 24 (i / 8) (by omega)
  show UInt8.ofNat ((permN T 24 (i / 8) >>> (8 * (i % 8))).toNat % 256) = _
  rw [h]
  rfl
end Dg.Spo
namespace Tre
def F1 : List UInt8 := [222, 153, 91, 3, 116, 159, 255, 230, 226, 164, 253, 84, 209, 196, 27, 39, 42, 5, 149, 241, 229, 5, 233, 40, 194, 48, 122, 106, 216, 222, 227, 91]
def F2 : List UInt8 := [7, 177, 136, 0, 18, 182, 81, 183, 154, 246, 100, 116, 11, 68, 135, 211, 91, 132, 121, 163, 163, 30, 230, 139, 144, 199, 243, 66, 2, 138, 99, 236]
def F0 : List UInt8 := [160, 179, 123, 139, 250, 232, 231, 19, 48, 189, 142, 39, 142, 74, 69, 202, 145, 109, 0, 71, 93, 216, 184, 94, 147, 82, 83, 52, 84, 201, 254, 200]
def DX : List UInt8 := [0, 143, 194, 218, 92, 215, 116, 27, 154, 217, 211, 53, 100, 117, 35, 250, 250, 123, 206, 161, 129, 196, 94, 191, 43, 4, 192, 180, 136, 49, 1, 8]
def RT : List UInt8 := [138, 188, 98, 64, 221, 198, 51, 145, 76, 133, 238, 22, 192, 210, 33, 106, 180, 88, 132, 182, 215, 239, 202, 116, 121, 193, 248, 86, 238, 116, 230, 234]
def E0 : List UInt8 := [205, 224, 110, 193, 129, 223, 224, 229, 209, 224, 22, 242, 202, 156, 253, 185, 231, 64, 28, 226, 28, 240, 58, 3, 179, 45, 131, 199, 6, 102, 100, 225]
theorem dF1 : Dg.Spo.dig [102, 49] = F1 := by
  unfold Dg.Spo.dig Dg.Spo.fin
  rw [Dg.Spo.sq_perm]
  decide +kernel
theorem dF2 : Dg.Spo.dig [102, 50, 10] = F2 := by
  unfold Dg.Spo.dig Dg.Spo.fin
  rw [Dg.Spo.sq_perm]
  decide +kernel
theorem dF0 : Dg.Spo.dig [102] = F0 := by
  unfold Dg.Spo.dig Dg.Spo.fin
  rw [Dg.Spo.sq_perm]
  decide +kernel
theorem dE0 : Dg.Spo.dig [100, 48, 59] = E0 := by
  unfold Dg.Spo.dig Dg.Spo.fin
  rw [Dg.Spo.sq_perm]
  decide +kernel
theorem dDX : Dg.Spo.dig [100, 50, 59, 49, 58, 120, 44, 51, 50, 58, 7, 177, 136, 0, 18, 182, 81, 183, 154, 246, 100, 116, 11, 68, 135, 211, 91, 132, 121, 163, 163, 30, 230, 139, 144, 199, 243, 66, 2, 138, 99, 236, 44] = DX := by
  unfold Dg.Spo.dig Dg.Spo.fin
  rw [Dg.Spo.sq_perm]
  decide +kernel
theorem dRT : Dg.Spo.dig [100, 54, 59, 49, 58, 97, 44, 51, 50, 58, 0, 143, 194, 218, 92, 215, 116, 27, 154, 217, 211, 53, 100, 117, 35, 250, 250, 123, 206, 161, 129, 196, 94, 191, 43, 4, 192, 180, 136, 49, 1, 8, 44, 51, 58, 97, 45, 98, 44, 51, 50, 58, 222, 153, 91, 3, 116, 159, 255, 230, 226, 164, 253, 84, 209, 196, 27, 39, 42, 5, 149, 241, 229, 5, 233, 40, 194, 48, 122, 106, 216, 222, 227, 91, 44, 49, 58, 98, 44, 51, 50, 58, 160, 179, 123, 139, 250, 232, 231, 19, 48, 189, 142, 39, 142, 74, 69, 202, 145, 109, 0, 71, 93, 216, 184, 94, 147, 82, 83, 52, 84, 201, 254, 200, 44] = RT := by
  unfold Dg.Spo.dig Dg.Spo.fin
  rw [Dg.Spo.sq_perm]
  decide +kernel
def exT : List Fl := [⟨[97, 45, 98], [49]⟩, ⟨[97, 47, 120], [50, 10]⟩, ⟨[98], []⟩]
def exU : List Fl := [⟨[97, 45, 98], [49]⟩, ⟨[97, 47, 120], [50, 10, 51]⟩, ⟨[98], []⟩]
theorem pid_nil : pid 9 [] = E0 := by
  rw [pid_succ, show namesOf [] = [] from by decide +kernel]
  exact (congrArg Dg.Spo.dig (by decide +kernel)).trans dE0
theorem pid_x : pid 8 [⟨[120], [50, 10]⟩] = DX := by
  rw [pid_succ, show namesOf [(⟨[120], [50, 10]⟩ : Fl)] = [[120]] from by decide +kernel]
  have h1 : ent 7 (group [⟨[120], [50, 10]⟩] [120]) = F2 := by
    rw [show group [(⟨[120], [50, 10]⟩ : Fl)] [120] = [⟨[], [50, 10]⟩] from by decide +kernel]
    exact dF2
  simp only [List.flatMap_cons, List.flatMap_nil, h1]
  exact (congrArg Dg.Spo.dig (by decide +kernel)).trans dDX
theorem pid_ex : pid 9 exT = RT := by
  rw [pid_succ, show namesOf exT = [[97], [97, 45, 98], [98]] from by decide +kernel]
  have h1 : ent 8 (group exT [97]) = DX := by
    rw [show group exT [97] = [⟨[120], [50, 10]⟩] from by decide +kernel]
    exact pid_x
  have h2 : ent 8 (group exT [97, 45, 98]) = F1 := by
    rw [show group exT [97, 45, 98] = [⟨[], [49]⟩] from by decide +kernel]
    exact dF1
  have h3 : ent 8 (group exT [98]) = F0 := by
    rw [show group exT [98] = [⟨[], []⟩] from by decide +kernel]
    exact dF0
  simp only [List.flatMap_cons, List.flatMap_nil, h1, h2, h3]
  exact (congrArg Dg.Spo.dig (by decide +kernel)).trans dRT
theorem ch_ex : check exT = 0 := by decide +kernel
theorem ch_eu : check exU = 0 := by decide +kernel
theorem id_nil : idR [] = (E0, 0) := by
  unfold idR
  rw [if_neg (by decide +kernel), pid_nil]
theorem id_ex : idR exT = (RT, 0) := by
  unfold idR
  rw [if_neg (by rw [ch_ex]; decide), pid_ex]
theorem ids_ne : E0 ≠ RT := by decide +kernel
theorem lines_ex : lines [120, 10] = ([[120], []], 0) := by decide +kernel
theorem repl_ex : repl exT [97, 47, 120] 1 [51] = (exU, 0) := by decide +kernel
theorem find_ex : find exU [97, 47, 120] = ([50, 10, 51], true) := by decide +kernel
theorem path_ex1 : path [97, 47, 47, 98] = 2 := by decide +kernel
theorem path_ex2 : path [97, 47, 98, 46, 115, 114, 99] = 0 := by decide +kernel
end Tre
end Go.Proofs.YtinkpbobkeppiaaGreatDoor
