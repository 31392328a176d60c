/- Two equal lists of tokens are found equal; whether tokens are few; the Texts of tokens. No condition. -/
import Derived.Test.YtlbddfaebmcckaaDoorPrn
import Derived.WalkSmall
import Derived.BigQuiet
import Derived.Deep.QuietTactic
namespace Go.Proofs.YtlbddfaebmcckaaDoor
open Go.RowKit

set_option maxHeartbeats 2000000 in
set_option maxRecDepth 100000 in
theorem same_true (A A' : Option Addr) (c c' : Nat) (ts : List Tok.Tk) (w : World) (hA : TksAt w w.heap.size A ts) (hA' : TksAt w w.heap.size A' ts) (hl : ts.length ≤ 1000000000) :
    Calls Tryd.prog 13 #[.slice A ts.length c, .slice A' ts.length c'] w fun x w' => x = .returned (.bool true) ∧ Below w.heap.size w w' := by
  go_enter Tryd.func13, Tryd.ntmps13
  go_wp2_with fail
  go_loopw [13] (fun v wr => ∃ k : Nat, k ≤ ts.length ∧ v = .int .i64 k ∧ Below w.heap.size w wr) (fun v _ => ts.length - (intOf v).toNat)
  case atStart => exact ⟨0, by omega, rfl, Below.refl _ _⟩
  case round =>
    obtain ⟨k, hk, rfl, hb⟩ := hrel
    by_cases hlt : k < ts.length
    · obtain ⟨g, o, rfl, hg, hc0, hc1⟩ := hA k hlt
      obtain ⟨g', o', rfl, hg', hc0', hc1'⟩ := hA' k hlt
      have hd0 := (hb.cell (p := ⟨g, o + k * 2, none⟩) hg).trans hc0
      have hd1 := (hb.cell (p := ⟨g, o + k * 2 + 1, none⟩) hg).trans hc1
      have hd0' := (hb.cell (p := ⟨g', o' + k * 2, none⟩) hg').trans hc0'
      have hd1' := (hb.cell (p := ⟨g', o' + k * 2 + 1, none⟩) hg').trans hc1'
      clear hc0 hc1 hc0' hc1' hA hA'
      have hki : (k : Int) < (ts.length : Int) := by omega
      go_upto_region 6 with (fail)
      generalize ts[k] = t at *
      go_quiet (fail)
      have hb2 := below_drewN hb nq
      generalize wr.drewN nq = w2 at *
      clear hd0 hd1 hd0' hd1' hb
      go_wp2_with fail
      go_roundw
      case rel => exact ⟨k + 1, by omega, by go_num, hb2⟩
      case measure => simp [intOf]; omega
    · have hki : decide ((k : Int) < (ts.length : Int)) = false := by simp; omega
      go_wp2_with fail
      go_ret
      exact ⟨rfl, hb⟩
/-- Whether tokens are few. -/
def fewB (ts : List Tok.Tk) : Bool := ts.all (fun t => decide (t.text.length ≤ 50)) && decide (ts.length ≤ 300)
set_option maxHeartbeats 2000000 in
set_option maxRecDepth 100000 in
theorem few_any (A : Option Addr) (c : Nat) (ts : List Tok.Tk) (w : World) (hA : TksAt w w.heap.size A ts) (hl : ts.length ≤ 9223372036854775807) :
    Calls Tryd.prog 14 #[.slice A ts.length c] w fun x w' => x = .returned (.bool (fewB ts)) ∧ Below w.heap.size w w' := by
  have HF := Lib.hid (show fewB ts = (ts.all (fun t => decide (t.text.length ≤ 50)) && decide (ts.length ≤ 300)) from rfl)
  generalize fewB ts = v at *
  go_enter Tryd.func14, Tryd.ntmps14
  go_wp2_with fail
  go_loopw [7] (fun i wr => ∃ k : Nat, k ≤ ts.length ∧ i = .int .i64 k ∧ (ts.take k).all (fun t => decide (t.text.length ≤ 50)) = true ∧ Below w.heap.size w wr) (fun i _ => ts.length - (intOf i).toNat)
  case atStart => exact ⟨0, by omega, rfl, by simp, Below.refl _ _⟩
  case round =>
    obtain ⟨k, hk, rfl, hall, hb⟩ := hrel
    by_cases hlt : k < ts.length
    · have b1 : decide ((k : Int) < ts.length) = true := by simp; omega
      obtain ⟨g, o, rfl, hg, hc0, hc1⟩ := hA k hlt
      have hd0 := (hb.cell (p := ⟨g, o + k * 2, none⟩) hg).trans hc0
      have hd1 := (hb.cell (p := ⟨g, o + k * 2 + 1, none⟩) hg).trans hc1
      have hsn := all_snoc (fun t : Tok.Tk => decide (t.text.length ≤ 50)) ts k hlt
      rw [hall, Bool.true_and] at hsn
      have HTS := Lib.hid (str_size ts[k].text)
      clear hc0 hc1 hA hall
      generalize ts[k] = t at *
      by_cases hf : t.text.length ≤ 50
      · have HSN := Lib.hid (show (ts.take (k + 1)).all (fun t : Tok.Tk => decide (t.text.length ≤ 50)) = true by rw [hsn]; simp [hf])
        have b2 : decide ((50 : Int) < ((str t.text).size : Int)) = false := by have := HTS.out; simp; omega
        have b2n : decide (50 < (str t.text).size) = false := by have := HTS.out; simp; omega
        have hbw : Below w.heap.size w (wr.alloc (.cells #[.int .i64 t.kind, .string (str t.text)] 39)) := hb.alloc hb.size _
        clear hsn hf
        go_wp2_with fail
        go_roundw
        case rel => exact ⟨k + 1, by omega, by go_num, HSN.out, hbw⟩
        case measure => simp [intOf]; omega
      · have HV := Lib.hid (show v = false by
          rw [HF.out, all_of_take _ ts (k + 1) (by rw [hsn]; simp; omega)]; rfl)
        have b2 : decide ((50 : Int) < ((str t.text).size : Int)) = true := by have := HTS.out; simp; omega
        have b2n : decide (50 < (str t.text).size) = true := by have := HTS.out; simp; omega
        have hbw : Below w.heap.size w (wr.alloc (.cells #[.int .i64 t.kind, .string (str t.text)] 39)) := hb.alloc hb.size _
        clear hsn hf
        go_wp2_with fail
        go_ret
        exact ⟨ret_bool (by rw [HV.out]), hbw⟩
    · have b1 : decide ((k : Int) < ts.length) = false := by simp; omega
      have hk2 : k = ts.length := by omega
      have HV := Lib.hid (show v = decide (ts.length ≤ 300) by rw [HF.out]; rw [hk2, List.take_length] at hall; rw [hall]; rfl)
      clear hall hk2 hA
      by_cases h3 : ts.length ≤ 300
      · have b2 : decide ((ts.length : Int) ≤ 300) = true := by simp; omega
        go_wp2_with fail
        go_ret
        exact ⟨ret_bool (by rw [HV.out]; simp; try omega), hb⟩
      · have b2 : decide ((ts.length : Int) ≤ 300) = false := by simp; omega
        go_wp2_with fail
        go_ret
        exact ⟨ret_bool (by rw [HV.out]; simp; try omega), hb⟩
/-- The Texts with a blank behind each. -/
def blankL (ts : List Tok.Tk) : List UInt8 := ts.flatMap fun t => t.text ++ [32]
theorem blankL_take (ts : List Tok.Tk) (k : Nat) (h : k < ts.length) : blankL (ts.take (k + 1)) = blankL (ts.take k) ++ (ts[k].text ++ [32]) := by
  unfold blankL
  rw [List.take_succ_eq_append_getElem h, List.flatMap_append]; simp
set_option maxHeartbeats 4000000 in
set_option maxRecDepth 100000 in
theorem text_any (A : Option Addr) (c : Nat) (ts : List Tok.Tk) (w : World) (hA : TksAt w w.heap.size A ts) (hl : ts.length ≤ 1000) (hlen : ∀ k (h : k < ts.length), ts[k].text.length ≤ 3000) :
    Calls Tryd.prog 23 #[.slice A ts.length c] w fun e w' => e = .returned (.string (str (blankL ts))) ∧ Below w.heap.size w w' := by
  go_enter Tryd.func23, Tryd.ntmps23
  go_wp2_with fail
  go_loopw [8] (fun i wr => ∃ (k : Nat) (p : Value), k ≤ ts.length ∧ i = .int .i64 k ∧ (p = .pointer none ∨ p = .pointer (some ⟨w.heap.size, 0, none⟩)) ∧ Bld wr w.heap.size w.heap.size p (blankL (ts.take k)) ∧ (blankL (ts.take k)).length ≤ 3001 * k ∧ Below w.heap.size w wr) (fun i _ => ts.length - (intOf i).toNat)
  case atStart => exact ⟨0, _, by omega, rfl, .inl rfl, bld_new w, by simp [blankL], (Below.refl _ _).alloc (Nat.le_refl _) _⟩
  case round =>
    obtain ⟨k, p, hk, rfl, hp, hB, hbl, hb⟩ := hrel
    by_cases hlt : k < ts.length
    · have b1 : decide ((k : Int) < ts.length) = true := by simp; omega
      obtain ⟨g, o, rfl, hg, hc0, hc1⟩ := hA k hlt
      have hd0 := (hb.cell (p := ⟨g, o + k * 2, none⟩) hg).trans hc0
      have hd1 := (hb.cell (p := ⟨g, o + k * 2 + 1, none⟩) hg).trans hc1
      have HTX := Lib.hid (blankL_take ts k hlt)
      have hlk := hlen k hlt
      have hts := str_size ts[k].text
      clear hc0 hc1 hA hlen
      generalize ts[k] = t at *
      generalize blankL (ts.take k) = X at *
      have hbw : Below w.heap.size w (wr.alloc (.cells #[.int .i64 t.kind, .string (str t.text)] 39)) := hb.alloc hb.size _
      have hB1 : Bld (wr.alloc (.cells #[.int .i64 t.kind, .string (str t.text)] 39)) w.heap.size w.heap.size p X := hB.below ((Below.refl _ _).alloc (Nat.le_refl _) _)
      have hss : (str t.text).size ≤ 3000 := by omega
      have HS := Lib.hid (show str t.text ++ ⟨#[32]⟩ = str (t.text ++ [32]) from str_app _ [32])
      clear hts hB
      go_wp2_with fail
      rw [HS.out]
      refine (writeString_any w.heap.size w.heap.size p hp X (str (t.text ++ [32])) _ hB1 (by rw [str_size]; simp; omega) hbw.size).mono ?_
      rintro e w3 ⟨rfl, hB3, hb3⟩
      rw [str_data, ← HTX.out] at hB3
      replace hbw := hbw.trans hb3
      clear hb3 hB1 hb
      go_wp2_with fail
      go_roundw
      case rel => exact ⟨k + 1, _, by omega, by go_num, .inr rfl, hB3, by rw [HTX.out]; simp; omega, hbw⟩
      case measure => simp [intOf]; omega
    · have b1 : decide ((k : Int) < ts.length) = false := by simp; omega
      have hk2 : k = ts.length := by omega
      have hB2 : Bld wr w.heap.size w.heap.size p (blankL ts) := by rw [hk2, List.take_length] at hB; exact hB
      clear hk2 hB
      go_wp2_with fail
      refine (string_any w.heap.size w.heap.size p hp _ wr hB2 hb.size).mono ?_
      rintro e w2 ⟨rfl, hb2⟩
      go_wp2_with fail
      go_ret
      exact ⟨rfl, hb.trans hb2⟩
end Go.Proofs.YtlbddfaebmcckaaDoor
