/- Two equal formulas are found equal; whether a formula is small. No condition. -/
import Derived.Test.YtndehkoglgakpaaGreatDoorVal
import Derived.Test.YtndehkoglgakpaaGreatDoorSam
namespace Go.Proofs.YtndehkoglgakpaaGreatDoor
open Go.RowKit Go.Deep

set_option maxHeartbeats 2000000 in
set_option maxRecDepth 100000 in
theorem fsame_true (A A' : Option Addr) (c c' : Nat) (ts : List Ex.Op) (w : World) (hA : OpsAt w w.heap.size A ts) (hA' : OpsAt w w.heap.size A' ts) (hl : ts.length ≤ 1000000000) :
    Calls Tryz.prog 10 #[.slice A ts.length c, .slice A' ts.length c'] w fun x w' => x = .returned (.bool true) ∧ Below w.heap.size w w' := by
  go_enter Tryz.func10, Tryz.ntmps10
  go_wp2_with fail
  go_loopw [13] (fun v wr => ∃ k : Nat, k ≤ ts.length ∧ v = .int .i64 k ∧ Below w.heap.size w wr) (fun v _ => ts.length - (intOf v).toNat)
  case atStart => exact ⟨0, by omega, rfl, Below.refl _ _⟩
  case round =>
    obtain ⟨k, hk, rfl, hb⟩ := hrel
    by_cases hlt : k < ts.length
    · obtain ⟨g, o, rfl, hg, hc0, hc1, hc2⟩ := hA k hlt
      obtain ⟨g', o', rfl, hg', hc0', hc1', hc2'⟩ := hA' k hlt
      have hd0 := (hb.cell (p := ⟨g, o + k * 3, none⟩) hg).trans hc0
      have hd1 := (hb.cell (p := ⟨g, o + k * 3 + 1, none⟩) hg).trans hc1
      have hd2 := (hb.cell (p := ⟨g, o + k * 3 + 2, none⟩) hg).trans hc2
      have hd0' := (hb.cell (p := ⟨g', o' + k * 3, none⟩) hg').trans hc0'
      have hd1' := (hb.cell (p := ⟨g', o' + k * 3 + 1, none⟩) hg').trans hc1'
      have hd2' := (hb.cell (p := ⟨g', o' + k * 3 + 2, none⟩) hg').trans hc2'
      clear hc0 hc1 hc2 hc0' hc1' hc2' hA hA'
      have hki : (k : Int) < (ts.length : Int) := by omega
      go_upto_region 6 with (fail)
      generalize ts[k] = t at *
      go_quiet (fail)
      have hb2 := below_drewN hb nq
      generalize wr.drewN nq = w2 at *
      clear hd0 hd1 hd2 hd0' hd1' hd2' hb
      go_wp2_with fail
      go_roundw
      case rel => exact ⟨k + 1, by omega, by go_num, hb2⟩
      case measure => simp [intOf]; omega
    · have hki : decide ((k : Int) < (ts.length : Int)) = false := by simp; omega
      go_wp2_with fail
      go_ret
      exact ⟨rfl, hb⟩
/-- Whether a formula is small. -/
def ffewB (ts : List Ex.Op) : Bool := ts.all (fun t => decide (t.text.length ≤ 50)) && decide (ts.length ≤ 300)
theorem ffew_of {ts : List Ex.Op} (h : ffewB ts = true) : ts.length ≤ 300 ∧ ∀ t ∈ ts, t.text.length ≤ 50 := by
  unfold ffewB at h
  simp only [Bool.and_eq_true, decide_eq_true_eq, List.all_eq_true] at h
  exact ⟨h.2, h.1⟩
set_option maxHeartbeats 2000000 in
set_option maxRecDepth 100000 in
theorem ffew_any (A : Option Addr) (c : Nat) (ts : List Ex.Op) (w : World) (hA : OpsAt w w.heap.size A ts) (hl : ts.length ≤ 9223372036854775807) :
    Calls Tryz.prog 11 #[.slice A ts.length c] w fun x w' => x = .returned (.bool (ffewB ts)) ∧ Below w.heap.size w w' := by
  have HF := Lib.hid (show ffewB ts = (ts.all (fun t => decide (t.text.length ≤ 50)) && decide (ts.length ≤ 300)) from rfl)
  generalize ffewB ts = v at *
  go_enter Tryz.func11, Tryz.ntmps11
  go_wp2_with fail
  go_loopw [7] (fun i wr => ∃ k : Nat, k ≤ ts.length ∧ i = .int .i64 k ∧ (ts.take k).all (fun t => decide (t.text.length ≤ 50)) = true ∧ Below w.heap.size w wr) (fun i _ => ts.length - (intOf i).toNat)
  case atStart => exact ⟨0, by omega, rfl, by simp, Below.refl _ _⟩
  case round =>
    obtain ⟨k, hk, rfl, hall, hb⟩ := hrel
    by_cases hlt : k < ts.length
    · have b1 : decide ((k : Int) < ts.length) = true := by simp; omega
      obtain ⟨g, o, rfl, hg, hc0, hc1, hc2⟩ := hA k hlt
      have hd0 := (hb.cell (p := ⟨g, o + k * 3, none⟩) hg).trans hc0
      have hd1 := (hb.cell (p := ⟨g, o + k * 3 + 1, none⟩) hg).trans hc1
      have hd2 := (hb.cell (p := ⟨g, o + k * 3 + 2, none⟩) hg).trans hc2
      have hsn := all_snoc (fun t : Ex.Op => decide (t.text.length ≤ 50)) ts k hlt
      rw [hall, Bool.true_and] at hsn
      have HTS := Lib.hid (str_size ts[k].text)
      clear hc0 hc1 hc2 hA hall
      generalize ts[k] = t at *
      by_cases hf : t.text.length ≤ 50
      · have HSN := Lib.hid (show (ts.take (k + 1)).all (fun t : Ex.Op => decide (t.text.length ≤ 50)) = true by rw [hsn]; simp [hf])
        have b2 : decide ((50 : Int) < ((str t.text).size : Int)) = false := by have := HTS.out; simp; omega
        have b2n : decide (50 < (str t.text).size) = false := by have := HTS.out; simp; omega
        have hbw : Below w.heap.size w (wr.alloc (.cells #[.int .i64 t.kind, .string (str t.text), .int .u32 t.n] 42)) := hb.alloc hb.size _
        clear hsn hf
        go_wp2_with fail
        go_roundw
        case rel => exact ⟨k + 1, by omega, by go_num, HSN.out, hbw⟩
        case measure => simp [intOf]; omega
      · have HV := Lib.hid (show v = false by
          rw [HF.out, all_of_take _ ts (k + 1) (by rw [hsn]; simp; omega)]; rfl)
        have b2 : decide ((50 : Int) < ((str t.text).size : Int)) = true := by have := HTS.out; simp; omega
        have b2n : decide (50 < (str t.text).size) = true := by have := HTS.out; simp; omega
        have hbw : Below w.heap.size w (wr.alloc (.cells #[.int .i64 t.kind, .string (str t.text), .int .u32 t.n] 42)) := hb.alloc hb.size _
        clear hsn hf
        go_wp2_with fail
        go_ret
        exact ⟨ret_bool (by rw [HV.out]), hbw⟩
    · have b1 : decide ((k : Int) < ts.length) = false := by simp; omega
      have hk2 : k = ts.length := by omega
      have HV := Lib.hid (show v = decide (ts.length ≤ 300) by rw [HF.out]; rw [hk2, List.take_length] at hall; rw [hall]; rfl)
      clear hall hk2 hA
      by_cases h3 : ts.length ≤ 300
      · have b2 : decide ((ts.length : Int) ≤ 300) = true := by simp; omega
        go_wp2_with fail
        go_ret
        exact ⟨ret_bool (by rw [HV.out]; simp; try omega), hb⟩
      · have b2 : decide ((ts.length : Int) ≤ 300) = false := by simp; omega
        go_wp2_with fail
        go_ret
        exact ⟨ret_bool (by rw [HV.out]; simp; try omega), hb⟩
end Go.Proofs.YtndehkoglgakpaaGreatDoor
