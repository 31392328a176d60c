/- The reference's Check. No condition but the lengths. -/
import Derived.Test.YtkkkiacbikbalaaGreatDoorQnd
import Derived.Test.YtkkkiacbikbalaaGreatDoorChe
namespace Go.Proofs.YtkkkiacbikbalaaGreatDoor
open Go.RowKit Go.Deep

set_option maxHeartbeats 4000000 in
set_option maxRecDepth 100000 in
theorem qcheck_any (A : Option Addr) (c : Nat) (f : List Ex.Op) (w : World) (hA : OpsAt w w.heap.size A f) (hl : f.length ≤ 1000000000) (hL : OpsLen f) :
    Calls Tryz.prog 16 #[.slice A f.length c] w fun x w' => x = .returned (.int .i64 (Ex.check f)) ∧ Below w.heap.size w w' := by
  have HV := Lib.hid (check_def f)
  generalize Ex.check f = R at *
  by_cases hbig : 256 < f.length
  · have b0 : decide ((256 : Int) < f.length) = true := by simp; omega
    have b0n : decide (256 < f.length) = true := by simp; omega
    have HT := Lib.hid (HV.out.trans (if_pos hbig))
    clear HV
    go_enter Tryz.func16, Tryz.ntmps16
    go_wp2_with fail
    go_ret
    exact ⟨by rw [HT.out]; rfl, Below.refl _ _⟩
  have b0 : decide ((256 : Int) < f.length) = false := by simp; omega
  have b0n : decide (256 < f.length) = false := by simp; omega
  have hl2 : f.length ≤ 256 := by omega
  have HR := Lib.hid (show R = Ex.chk 0 (f.drop 0) from HV.out.trans (if_neg hbig))
  clear HV hbig
  go_enter Tryz.func16, Tryz.ntmps16
  go_wp2_with fail
  go_loopw [3, 12] (fun v i wr => ∃ (k : Nat) (m : Int), k ≤ f.length ∧ 0 ≤ m ∧ m ≤ k ∧ v = .int .i64 m ∧ i = .int .i64 k ∧ R = Ex.chk m (f.drop k) ∧ Below w.heap.size w wr) (fun _ i _ => f.length - (intOf i).toNat)
  case atStart => exact ⟨0, 0, by omega, by omega, by omega, rfl, rfl, HR.out, Below.refl _ _⟩
  case round =>
    clear HR
    obtain ⟨k, m, hk, hm0, hmk, rfl, rfl, hR, hb⟩ := hrel
    have HR := Lib.hid hR
    clear hR
    by_cases hlt : k < f.length
    · have b1 : decide ((k : Int) < f.length) = true := by simp; omega
      have b1n : decide (k < f.length) = true := by simp; omega
      obtain ⟨g, o, rfl, hg, hc0, hc1, hc2⟩ := hA k hlt
      have hd0 := (hb.cell (p := ⟨g, o + k * 3, none⟩) hg).trans hc0
      have hd1 := (hb.cell (p := ⟨g, o + k * 3 + 1, none⟩) hg).trans hc1
      have hd2 := (hb.cell (p := ⟨g, o + k * 3 + 2, none⟩) hg).trans hc2
      have HD := Lib.hid (HR.out.trans (by rw [list_drop f k hlt, Ex.chk_cons]))
      obtain ⟨l1, l2, l3⟩ := hL f[k] (List.getElem_mem hlt)
      clear hc0 hc1 hc2 HR
      generalize f[k] = u at *
      have hbw := hb.alloc hb.size (.cells #[.int .i64 u.kind, .string (str u.text), .int .u32 u.n] 42)
      have hcall := qnd_any u l1 l2 l3 (wr.alloc (.cells #[.int .i64 u.kind, .string (str u.text), .int .u32 u.n] 42))
      have hlo := Ex.opr_lo l2
      cases hq : (Ex.opr u).2 with
      | false =>
        rw [show Ex.nd u = -1 from if_neg (by rw [hq]; decide)] at hcall
        have HT := Lib.hid (HD.out.trans (if_neg (fun h => by rw [hq] at h; cases h.1)))
        generalize (Ex.opr u).1 = t at *
        clear HD hq
        go_wp2_with fail
        with_reducible refine hcall.mono ?_
        clear hcall
        rintro e w2 ⟨rfl, hb2⟩
        go_wp2_with fail
        go_ret
        exact ⟨by rw [HT.out]; rfl, hbw.trans (hb2.mono hbw.size)⟩
      | true =>
        rw [show Ex.nd u = (Ex.opr u).1 from if_pos hq] at hcall
        by_cases hle : (Ex.opr u).1 ≤ m
        · have HT := Lib.hid (HD.out.trans (if_pos ⟨hq, hle⟩))
          generalize (Ex.opr u).1 = t at *
          have q1 : decide (m < t) = false := by simp; omega
          have q2 : decide (t < 0) = false := by simp; omega
          have e9 : m - t + 1 = m + (1 - t) := by omega
          clear HD hq
          go_wp2_with fail
          with_reducible refine hcall.mono ?_
          clear hcall
          rintro e w2 ⟨rfl, hb2⟩
          have hb3 := hbw.trans (hb2.mono hbw.size)
          go_wp2_with fail
          go_roundw
          case rel => exact ⟨k + 1, m + (1 - t), by omega, by omega, by omega, by go_num, by go_num, HT.out, hb3⟩
          case measure => simp [intOf]; omega
        · have HT := Lib.hid (HD.out.trans (if_neg (fun h => hle h.2)))
          generalize (Ex.opr u).1 = t at *
          have q1 : decide (m < t) = true := by simp; omega
          have q2 : decide (t < 0) = false := by simp; omega
          clear HD hq
          go_wp2_with fail
          with_reducible refine hcall.mono ?_
          clear hcall
          rintro e w2 ⟨rfl, hb2⟩
          go_wp2_with fail
          go_ret
          exact ⟨by rw [HT.out]; rfl, hbw.trans (hb2.mono hbw.size)⟩
    · have b1 : decide ((k : Int) < f.length) = false := by simp; omega
      have b1n : decide (k < f.length) = false := by simp; omega
      have HT := Lib.hid (show R = if m = 1 then 0 else 1 by rw [HR.out, List.drop_of_length_le (by omega)]; rfl)
      clear HR
      by_cases h1 : m = 1
      · have q1 : (m != 1) = false := by rw [h1]; rfl
        have HT2 := Lib.hid (HT.out.trans (if_pos h1))
        clear HT h1
        go_wp2_with fail
        go_ret
        exact ⟨by rw [HT2.out]; rfl, hb⟩
      · have q1 : (m != 1) = true := by rw [bne_iff_ne]; exact h1
        have HT2 := Lib.hid (HT.out.trans (if_neg h1))
        clear HT h1
        go_wp2_with fail
        go_ret
        exact ⟨by rw [HT2.out]; rfl, hb⟩
end Go.Proofs.YtkkkiacbikbalaaGreatDoor
