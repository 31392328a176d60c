/- The examples of the chapter: what the plain functions answer. Plain. -/
import Derived.Test.YtlfgnecfabdkmaaGreatDoorPz5
namespace Go.Proofs.YtlfgnecfabdkmaaGreatDoor
open Go.RowKit Go.Deep Tr

def exT : List UInt8 := [107, 101, 101, 112, 32, 49, 10, 100, 114, 111, 112, 32, 49, 10, 97, 100, 100, 32, 50, 10, 120, 10, 121]
def exH : List Pc.Hk := [⟨1, 1, []⟩, ⟨2, 1, []⟩, ⟨3, 2, [[120], [121]]⟩]
def exI : List Pc.Hk := [⟨1, 1, []⟩, ⟨2, 2, []⟩, ⟨3, 1, [[98]]⟩]
def exM : List Pc.Hk := [⟨2, 1, []⟩, ⟨1, 2, []⟩, ⟨3, 1, [[100]]⟩]
def exB : List Pc.Hk := [⟨3, 1, [[120]]⟩, ⟨2, 1, []⟩]
def exD : List UInt8 := [97, 10, 98]
def exS : List UInt8 := [97, 10, 120, 10, 121]
theorem dec1 : Lib.decDigits 1 = [49] := by rw [Lib.decDigits, dif_pos (by omega)]; rfl
theorem dec2 : Lib.decDigits 2 = [50] := by rw [Lib.decDigits, dif_pos (by omega)]; rfl
theorem bodyH : Pc.bodyL exH = [[107, 101, 101, 112, 32, 49], [100, 114, 111, 112, 32, 49], [97, 100, 100, 32, 50], [120], [121]] := by
  simp [exH, Pc.bodyL, Pc.headL, Pc.word, dec1, dec2]
theorem bodyI : Pc.bodyL exI = [[107, 101, 101, 112, 32, 49], [100, 114, 111, 112, 32, 50], [97, 100, 100, 32, 49], [98]] := by
  simp [exI, Pc.bodyL, Pc.headL, Pc.word, dec1, dec2]
theorem bodyM : Pc.bodyL exM = [[100, 114, 111, 112, 32, 49], [107, 101, 101, 112, 32, 50], [97, 100, 100, 32, 49], [100]] := by
  simp [exM, Pc.bodyL, Pc.headL, Pc.word, dec1, dec2]
theorem bodyB : Pc.bodyL exB = [[97, 100, 100, 32, 49], [120], [100, 114, 111, 112, 32, 49]] := by
  simp [exB, Pc.bodyL, Pc.headL, Pc.word, dec1]
theorem linesH : Tre.lines exT = (Pc.bodyL exH, 0) := by rw [bodyH]; decide +kernel
theorem linesB : Tre.lines [97, 100, 100, 32, 49, 10, 120, 10, 100, 114, 111, 112, 32, 49] = (Pc.bodyL exB, 0) := by rw [bodyB]; decide +kernel
theorem validH : Pc.valid ⟨[], exH⟩ = true := by
  unfold Pc.valid Pc.printL
  rw [if_pos rfl, List.nil_append, bodyH]; decide +kernel
theorem validI : Pc.valid ⟨[], exI⟩ = true := by
  unfold Pc.valid Pc.printL
  rw [if_pos rfl, List.nil_append, bodyI]; decide +kernel
theorem validM : Pc.valid ⟨[], exM⟩ = true := by
  unfold Pc.valid Pc.printL
  rw [if_pos rfl, List.nil_append, bodyM]; decide +kernel
theorem validB : Pc.valid ⟨[], exB⟩ = false := by
  unfold Pc.valid
  rw [show Pc.shape exB = false by decide +kernel]; rfl
theorem applyH : Pc.apply ⟨[], exH⟩ exD = (exS, 0) := by
  unfold Pc.apply
  rw [validH]; decide +kernel
theorem traceH : Pc.trace ⟨[], exH⟩ 2 = ([⟨0, -1⟩, ⟨-1, 3⟩, ⟨-1, 4⟩], 0) := by
  unfold Pc.trace
  rw [validH]; decide +kernel
theorem printI : Pc.print ⟨[], exI⟩ = ([107, 101, 101, 112, 32, 49, 10, 100, 114, 111, 112, 32, 50, 10, 97, 100, 100, 32, 49, 10, 98], 0) := by
  unfold Pc.print Pc.printL
  rw [validI, if_pos rfl, if_pos rfl, List.nil_append, bodyI]; decide +kernel
theorem printM : Pc.print ⟨[], exM⟩ = ([100, 114, 111, 112, 32, 49, 10, 107, 101, 101, 112, 32, 50, 10, 97, 100, 100, 32, 49, 10, 100], 0) := by
  unfold Pc.print Pc.printL
  rw [validM, if_pos rfl, if_pos rfl, List.nil_append, bodyM]; decide +kernel
theorem costM : Pc.cost ⟨[], exM⟩ = (2, 0) := by
  unfold Pc.cost
  rw [validM]; decide +kernel
theorem keepI : Pc.keepHs [] [[97], [120], [121]] [[97], [98]] 0 0 [(0, 0)] = exI := by decide +kernel
theorem keep_plain (base : List UInt8) (a b : List (List UInt8)) (K : List (Nat × Nat)) : Pc.keeping base a b K = if Pc.valid ⟨base, Pc.keepHs [] a b 0 0 K⟩ = true then (⟨base, Pc.keepHs [] a b 0 0 K⟩, 0) else (⟨[], []⟩, 10) := rfl
theorem linS : Tre.lines exS = ([[97], [120], [121]], 0) := by decide +kernel
theorem linD : Tre.lines exD = ([[97], [98]], 0) := by decide +kernel
theorem linF : Tre.lines [97, 10, 98, 10, 99] = ([[97], [98], [99]], 0) := by decide +kernel
theorem linT : Tre.lines [98, 10, 99, 10, 100] = ([[98], [99], [100]], 0) := by decide +kernel
theorem invKH : Pc.invK (Pc.placesOf ⟨[], exH⟩) 0 = [(0, 0)] := by decide +kernel
theorem invertH : Pc.invert ⟨[], exH⟩ exD = (⟨[], exI⟩, 0) := by
  unfold Pc.invert
  rw [applyH, if_neg (by simp), if_pos rfl, linS, linD, invKH, keep_plain, keepI, validI, if_pos rfl]
theorem comM : Pc.common [[97], [98], [99]] [[98], [99], [100]] 0 0 = [(1, 0), (2, 1)] := by
  simp [Pc.common, Pc.firstEq, Pc.lcs_cons, Pc.lcs_nil]
theorem keepM : Pc.keepHs [] [[97], [98], [99]] [[98], [99], [100]] 0 0 [(1, 0), (2, 1)] = exM := by decide +kernel
theorem makeM : Pc.make [97, 10, 98, 10, 99] [98, 10, 99, 10, 100] = (⟨[], exM⟩, 0) := by
  unfold Pc.make
  rw [linF, linT, if_neg (by simp), if_neg (by simp), comM, keep_plain, keepM, validM, if_pos rfl]
theorem huH : ∀ h ∈ exH, Pc.isHunk h = true := by decide +kernel
theorem huB : ∀ h ∈ exB, Pc.isHunk h = true := by decide +kernel
theorem n9H : ∀ h ∈ exH, h.n ≤ 9 := by decide +kernel
theorem n9B : ∀ h ∈ exB, h.n ≤ 9 := by decide +kernel
end Go.Proofs.YtlfgnecfabdkmaaGreatDoor
