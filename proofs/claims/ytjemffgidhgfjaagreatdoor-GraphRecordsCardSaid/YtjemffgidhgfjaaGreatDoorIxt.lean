/- slices.Index at texts. No condition but the length. -/
import Derived.Test.YtjemffgidhgfjaaGreatDoorEpl
namespace Go.Proofs.YtjemffgidhgfjaaGreatDoor
open Go.RowKit Go.Deep Tr

set_option maxHeartbeats 4000000 in
set_option maxRecDepth 100000 in
theorem indexSt_any (l : List (List UInt8)) (p : List UInt8) (A : Option Addr) (c : Nat) (w : World) (hA : Rk.Rc.StAt w w.heap.size A l) (hl : l.length ≤ 1000000) :
    Calls Tryz.prog 17 #[.slice A l.length c, .string (str p)] w fun e w' => e = .returned (.int .i64 (Gr.idx l p)) ∧ w' = w := by
  have HA := Lib.hid hA
  have HY := Lib.hid (fun (k : Nat) (hk : k < l.length) (hb : (l.take k).any (· == p) = false) (h : (l[k] == p) = true) => Gr.idx_some hk hb h)
  have HN := Lib.hid (fun (hb : l.any (· == p) = false) => Gr.idx_none hb)
  generalize Gr.idx l p = V at *
  clear hA
  go_enter Tryz.func17, Tryz.ntmps17
  go_wp2_with fail
  go_loopw [8] (fun s8 wr => ∃ k : Nat, s8 = .int .i64 k ∧ k ≤ l.length ∧ (l.take k).any (· == p) = false ∧ wr = w) (fun s8 _ => l.length - (intOf s8).toNat)
  case atStart => exact ⟨0, rfl, Nat.zero_le _, by simp, rfl⟩
  case round =>
    obtain ⟨k, rfl, hk, hall, hw⟩ := hrel
    have HW := Lib.hid hw
    have HAL := Lib.hid hall
    clear hall hw
    by_cases hlt : k < l.length
    · have c1 : decide ((k : Int) < (l.length : Int)) = true := decide_eq_true (by omega)
      have c1n : decide (k < l.length) = true := decide_eq_true hlt
      have y1 : (k : Int) < (l.length : Int) := by omega
      obtain ⟨g, o, rfl, hg, hc⟩ := Rk.st_cell HA.out hlt
      rw [← HW.out] at hc
      have HNO := Lib.hid (show (l[k] == p) = false → (l.take (k + 1)).any (· == p) = false from fun h => by
        rw [List.take_succ_eq_append_getElem hlt, List.any_append, HAL.out]; simp [h])
      have HYES := Lib.hid (show (l[k] == p) = true → V = (k : Int) from fun h => HY.out k hlt HAL.out h)
      generalize l[k] = t at *
      have hv : ((str p).toList == (str t).toList) = (t == p) := by rw [Rk.strL, Rk.strL, Bool.eq_iff_iff, beq_iff_eq, beq_iff_eq]; exact eq_comm
      cases he : t == p with
      | true =>
        rw [he] at hv
        have HT := Lib.hid (HYES.out he)
        clear HNO HYES he
        go_wp2_with fail
        first | go_ret3 | go_ret2 | go_ret
        exact ⟨by rw [HT.out]; rfl, HW.out⟩
      | false =>
        rw [he] at hv
        have HT := Lib.hid (HNO.out he)
        clear HNO HYES he
        go_wp2_with fail
        go_roundw
        case rel => exact ⟨k + 1, by go_num, by omega, HT.out, HW.out⟩
        case measure => simp [intOf]; omega
    · have c1 : decide ((k : Int) < (l.length : Int)) = false := decide_eq_false (by omega)
      have c1n : decide (k < l.length) = false := decide_eq_false hlt
      have HT := Lib.hid (show V = -1 from HN.out (by
        have := HAL.out
        rwa [List.take_of_length_le (by omega)] at this))
      go_wp2_with fail
      first | go_ret3 | go_ret2 | go_ret
      exact ⟨by rw [HT.out]; rfl, HW.out⟩
end Go.Proofs.YtjemffgidhgfjaaGreatDoor
