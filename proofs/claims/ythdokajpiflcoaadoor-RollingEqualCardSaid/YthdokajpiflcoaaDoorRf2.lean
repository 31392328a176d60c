/- The reference's codes of words, hashes, and whether words are few. No condition but the words' lengths. -/
import Derived.Test.YthdokajpiflcoaaDoorRef
import Derived.Deep.QuietTactic
import Derived.BigQuiet
namespace Go.Proofs.YthdokajpiflcoaaDoor
open Go.RowKit Go.Deep
namespace Rl
theorem below_drewN (w : World) (n : Nat) : Below w.heap.size w (w.drewN n) := ⟨rfl, rfl, rfl, Nat.le_refl _, fun _ _ => rfl⟩
set_option maxHeartbeats 4000000 in
set_option maxRecDepth 100000 in
theorem few_any (l : List Lx) (A : Option Addr) (c : Nat) (w : World) (hA : LxAt w w.heap.size A l) (hl : l.length ≤ 140737488351232) :
    Calls Tryd.prog 5 #[.slice A l.length c] w fun e w' => ∃ b, e = .returned (.bool b) ∧ (b = true → l.length ≤ 40 ∧ ∀ x ∈ l, (str x.tx).size ≤ 40) ∧ w = w' := by
  have HAA := Lib.hid hA
  clear hA
  by_cases h1 : 40 < l.length
  · have d1 : decide ((40 : Int) < (l.length : Int)) = true := decide_eq_true (by omega)
    have d1n : decide (40 < l.length) = true := decide_eq_true h1
    go_enter Tryd.func5, Tryd.ntmps5
    go_wp2_with fail
    go_ret
    exact ⟨_, rfl, (fun h => by cases h), rfl⟩
  have d1 : decide ((40 : Int) < (l.length : Int)) = false := decide_eq_false (by omega)
  have d1n : decide (40 < l.length) = false := decide_eq_false h1
  go_enter Tryd.func5, Tryd.ntmps5
  go_wp2_with fail
  go_loopw [3] (fun s3 wr => ∃ k : Nat, s3 = .int .i64 k ∧ k ≤ l.length ∧ (∀ x ∈ l.take k, (str x.tx).size ≤ 40) ∧ wr = w) (fun s3 _ => l.length - (intOf s3).toNat)
  case atStart => exact ⟨0, rfl, by omega, (fun x hx => by rw [List.take_zero] at hx; cases hx), rfl⟩
  case round =>
    obtain ⟨k, rfl, hk, hal, rfl⟩ := hrel
    have HAL := Lib.hid hal
    clear hal
    by_cases hlt : k < l.length
    · have b1 : decide ((k : Int) < (l.length : Int)) = true := decide_eq_true (by omega)
      have b1n : decide (k < l.length) = true := decide_eq_true hlt
      have y2 : (k : Int) < (l.length : Int) := by omega
      obtain ⟨g0, o, rfl, hg, hd0, _⟩ := HAA.out k hlt
      have HE := Lib.hid (show ∀ y, y ∈ l.take (k + 1) ↔ y ∈ l.take k ∨ y = l[k] from fun y => by rw [List.take_succ_eq_append_getElem hlt, List.mem_append, List.mem_singleton])
      generalize l[k] = x at *
      generalize hst : str x.tx = s at *
      have HST := Lib.hid hst
      clear hst
      by_cases h3 : 40 < s.size
      · have d3 : decide ((40 : Int) < (s.size : Int)) = true := decide_eq_true (by omega)
        have d3n : decide (40 < s.size) = true := decide_eq_true h3
        go_wp2_with fail
        go_ret
        exact ⟨_, rfl, (fun h => by cases h), rfl⟩
      have d3 : decide ((40 : Int) < (s.size : Int)) = false := decide_eq_false (by omega)
      have d3n : decide (40 < s.size) = false := decide_eq_false h3
      go_wp2_with fail
      go_roundw
      case rel => exact ⟨k + 1, by go_num, by omega, (fun y hy => by
        rcases (HE.out y).1 hy with h | h
        · exact HAL.out y h
        · rw [h, HST.out]; omega), (by first | rfl | trivial)⟩
      case measure => simp [intOf]; omega
    · have b1 : decide ((k : Int) < (l.length : Int)) = false := decide_eq_false (by omega)
      have b1n : decide (k < l.length) = false := decide_eq_false hlt
      have HL := Lib.hid h1
      have HK := Lib.hid hlt
      go_wp2_with fail
      go_ret
      exact ⟨_, rfl, (fun _ => ⟨by have := HL.out; omega, fun x hx => HAL.out x (by rw [List.take_of_length_le (by have := HK.out; omega)]; exact hx)⟩), rfl⟩
end Rl
end Go.Proofs.YthdokajpiflcoaaDoor
