/- Two equal lists of tokens are found equal; whether tokens are few; the Texts of tokens. No condition. -/
import Derived.Test.YtndehkoglgakpaaGreatDoorPrn
import Derived.WalkSmall
import Derived.BigQuiet
import Derived.Deep.QuietTactic
namespace Go.Proofs.YtndehkoglgakpaaGreatDoor
open Go.RowKit

set_option maxHeartbeats 2000000 in
set_option maxRecDepth 100000 in
theorem same_true (A A' : Option Addr) (c c' : Nat) (ts : List Tok.Tk) (w : World) (hA : TksAt w w.heap.size A ts) (hA' : TksAt w w.heap.size A' ts) (hl : ts.length ≤ 1000000000) :
    Calls Tryz.prog 14 #[.slice A ts.length c, .slice A' ts.length c'] w fun x w' => x = .returned (.bool true) ∧ Below w.heap.size w w' := by
  go_enter Tryz.func14, Tryz.ntmps14
  go_wp2_with fail
  go_loopw [13] (fun v wr => ∃ k : Nat, k ≤ ts.length ∧ v = .int .i64 k ∧ Below w.heap.size w wr) (fun v _ => ts.length - (intOf v).toNat)
  case atStart => exact ⟨0, by omega, rfl, Below.refl _ _⟩
  case round =>
    obtain ⟨k, hk, rfl, hb⟩ := hrel
    by_cases hlt : k < ts.length
    · obtain ⟨g, o, rfl, hg, hc0, hc1⟩ := hA k hlt
      obtain ⟨g', o', rfl, hg', hc0', hc1'⟩ := hA' k hlt
      have hd0 := (hb.cell (p := ⟨g, o + k * 2, none⟩) hg).trans hc0
      have hd1 := (hb.cell (p := ⟨g, o + k * 2 + 1, none⟩) hg).trans hc1
      have hd0' := (hb.cell (p := ⟨g', o' + k * 2, none⟩) hg').trans hc0'
      have hd1' := (hb.cell (p := ⟨g', o' + k * 2 + 1, none⟩) hg').trans hc1'
      clear hc0 hc1 hc0' hc1' hA hA'
      have hki : (k : Int) < (ts.length : Int) := by omega
      go_upto_region 6 with (fail)
      generalize ts[k] = t at *
      go_quiet (fail)
      have hb2 := below_drewN hb nq
      generalize wr.drewN nq = w2 at *
      clear hd0 hd1 hd0' hd1' hb
      go_wp2_with fail
      go_roundw
      case rel => exact ⟨k + 1, by omega, by go_num, hb2⟩
      case measure => simp [intOf]; omega
    · have hki : decide ((k : Int) < (ts.length : Int)) = false := by simp; omega
      go_wp2_with fail
      go_ret
      exact ⟨rfl, hb⟩
/-- Whether tokens are few. -/
def fewB (ts : List Tok.Tk) : Bool := ts.all (fun t => decide (t.text.length ≤ 50)) && decide (ts.length ≤ 300)
set_option maxHeartbeats 2000000 in
set_option maxRecDepth 100000 in
theorem few_any (A : Option Addr) (c : Nat) (ts : List Tok.Tk) (w : World) (hA : TksAt w w.heap.size A ts) (hl : ts.length ≤ 9223372036854775807) :
    Calls Tryz.prog 7 #[.slice A ts.length c] w fun x w' => x = .returned (.bool (fewB ts)) ∧ Below w.heap.size w w' := by
  have HF := Lib.hid (show fewB ts = (ts.all (fun t => decide (t.text.length ≤ 50)) && decide (ts.length ≤ 300)) from rfl)
  generalize fewB ts = v at *
  go_enter Tryz.func7, Tryz.ntmps7
  go_wp2_with fail
  go_loopw [7] (fun i wr => ∃ k : Nat, k ≤ ts.length ∧ i = .int .i64 k ∧ (ts.take k).all (fun t => decide (t.text.length ≤ 50)) = true ∧ Below w.heap.size w wr) (fun i _ => ts.length - (intOf i).toNat)
  case atStart => exact ⟨0, by omega, rfl, by simp, Below.refl _ _⟩
  case round =>
    obtain ⟨k, hk, rfl, hall, hb⟩ := hrel
    by_cases hlt : k < ts.length
    · have b1 : decide ((k : Int) < ts.length) = true := by simp; omega
      obtain ⟨g, o, rfl, hg, hc0, hc1⟩ := hA k hlt
      have hd0 := (hb.cell (p := ⟨g, o + k * 2, none⟩) hg).trans hc0
      have hd1 := (hb.cell (p := ⟨g, o + k * 2 + 1, none⟩) hg).trans hc1
      have hsn := all_snoc (fun t : Tok.Tk => decide (t.text.length ≤ 50)) ts k hlt
      rw [hall, Bool.true_and] at hsn
      have HTS := Lib.hid (str_size ts[k].text)
      clear hc0 hc1 hA hall
      generalize ts[k] = t at *
      by_cases hf : t.text.length ≤ 50
      · have HSN := Lib.hid (show (ts.take (k + 1)).all (fun t : Tok.Tk => decide (t.text.length ≤ 50)) = true by rw [hsn]; simp [hf])
        have b2 : decide ((50 : Int) < ((str t.text).size : Int)) = false := by have := HTS.out; simp; omega
        have b2n : decide (50 < (str t.text).size) = false := by have := HTS.out; simp; omega
        have hbw : Below w.heap.size w (wr.alloc (.cells #[.int .i64 t.kind, .string (str t.text)] 45)) := hb.alloc hb.size _
        clear hsn hf
        go_wp2_with fail
        go_roundw
        case rel => exact ⟨k + 1, by omega, by go_num, HSN.out, hbw⟩
        case measure => simp [intOf]; omega
      · have HV := Lib.hid (show v = false by
          rw [HF.out, all_of_take _ ts (k + 1) (by rw [hsn]; simp; omega)]; rfl)
        have b2 : decide ((50 : Int) < ((str t.text).size : Int)) = true := by have := HTS.out; simp; omega
        have b2n : decide (50 < (str t.text).size) = true := by have := HTS.out; simp; omega
        have hbw : Below w.heap.size w (wr.alloc (.cells #[.int .i64 t.kind, .string (str t.text)] 45)) := hb.alloc hb.size _
        clear hsn hf
        go_wp2_with fail
        go_ret
        exact ⟨ret_bool (by rw [HV.out]), hbw⟩
    · have b1 : decide ((k : Int) < ts.length) = false := by simp; omega
      have hk2 : k = ts.length := by omega
      have HV := Lib.hid (show v = decide (ts.length ≤ 300) by rw [HF.out]; rw [hk2, List.take_length] at hall; rw [hall]; rfl)
      clear hall hk2 hA
      by_cases h3 : ts.length ≤ 300
      · have b2 : decide ((ts.length : Int) ≤ 300) = true := by simp; omega
        go_wp2_with fail
        go_ret
        exact ⟨ret_bool (by rw [HV.out]; simp; try omega), hb⟩
      · have b2 : decide ((ts.length : Int) ≤ 300) = false := by simp; omega
        go_wp2_with fail
        go_ret
        exact ⟨ret_bool (by rw [HV.out]; simp; try omega), hb⟩
/-- The Texts with a blank behind each. -/
def blankL (ts : List Tok.Tk) : List UInt8 := ts.flatMap fun t => t.text ++ [32]
theorem blankL_take (ts : List Tok.Tk) (k : Nat) (h : k < ts.length) : blankL (ts.take (k + 1)) = blankL (ts.take k) ++ (ts[k].text ++ [32]) := by
  unfold blankL
  rw [List.take_succ_eq_append_getElem h, List.flatMap_append]; simp
end Go.Proofs.YtndehkoglgakpaaGreatDoor
