/- The law CodecTexts returns true. Condition: the library's table of powers of ten lies in its variable. -/
import Derived.Test.YthkijcombpmfeaaDoorNLaw
namespace Go.Proofs.YthkijcombpmfeaaDoor
open Go.RowKit

set_option maxHeartbeats 4000000 in
set_option maxRecDepth 100000 in
theorem texts_skip (s : ByteArray) (A : Option Addr) (c : Nat) (zs : List ByteArray) (w : World) (hT : Tabs w) (h : (100 < s.size ∧ s.size < 65534) ∨ 65538 < s.size ∨ 20 < zs.length) :
    Calls Tryd.prog 4 #[.string s, .slice A zs.length c] w fun e w' => e = .returned (.bool true) ∧ Below w.heap.size w w' := by
  have hd : (decide ((100 : Int) < s.size) = true ∧ decide ((s.size : Int) < 65534) = true) ∨ (decide ((100 : Int) < s.size) = true ∧ decide ((s.size : Int) < 65534) = false ∧ decide ((65538 : Int) < s.size) = true) ∨ (decide ((100 : Int) < s.size) = true ∧ decide ((s.size : Int) < 65534) = false ∧ decide ((65538 : Int) < s.size) = false ∧ decide ((20 : Int) < zs.length) = true) ∨ (decide ((100 : Int) < s.size) = false ∧ decide ((65538 : Int) < s.size) = false ∧ decide ((20 : Int) < zs.length) = true) := by
    simp only [decide_eq_true_iff, decide_eq_false_iff_not]; omega
  clear h
  rcases hd with ⟨d1, d2⟩ | ⟨d1, d2, d3⟩ | ⟨d1, d2, d3, d4⟩ | ⟨d1, d3, d4⟩
  all_goals
    go_enter Tryd.func4, Tryd.ntmps4
    go_wp2_with fail
    refine (awake_any w hT).mono ?_
    rintro e w1 ⟨rfl, hb1⟩
    go_wp2_with fail
    go_ret
    exact ⟨rfl, hb1⟩
set_option maxHeartbeats 8000000 in
set_option maxRecDepth 100000 in
theorem texts_main (s : ByteArray) (A : Option Addr) (c : Nat) (zs : List ByteArray) (w : World) (hT : Tabs w) (hA : CellsAt w w.heap.size A (strsOf zs)) (h : ¬ ((100 < s.size ∧ s.size < 65534) ∨ 65538 < s.size ∨ 20 < zs.length)) :
    Calls Tryd.prog 4 #[.string s, .slice A zs.length c] w fun e w' => e = .returned (.bool true) ∧ Below w.heap.size w w' := by
  obtain ⟨x, y, hxy⟩ := txtV_two s
  obtain ⟨x2, y2, hxy2⟩ := txtsV_two zs
  have HX := Lib.hid hxy
  have HX2 := Lib.hid hxy2
  have hd : (decide ((100 : Int) < s.size) = true ∧ decide ((s.size : Int) < 65534) = false) ∨ decide ((100 : Int) < s.size) = false := by
    simp only [decide_eq_true_iff, decide_eq_false_iff_not]; omega
  have d3 : decide ((65538 : Int) < s.size) = false := by simp; omega
  have d4 : decide ((20 : Int) < zs.length) = false := by simp; omega
  have hl : zs.length ≤ 20 := by omega
  clear hxy hxy2 h
  rcases hd with ⟨d1, d2⟩ | d1
  all_goals
    go_enter Tryd.func4, Tryd.ntmps4
    go_wp2_with fail
    refine (awake_any w hT).mono ?_
    rintro e w1 ⟨rfl, hb1⟩
    go_wp2_with fail
    go_loopw [37] (fun v wr => ∃ k : Nat, k ≤ zs.length ∧ v = .int .i64 k ∧ Below w.heap.size w wr) (fun v _ => zs.length - (intOf v).toNat)
    case atStart => exact ⟨0, by omega, rfl, hb1⟩
    case round =>
      clear hb1
      obtain ⟨k, hk, rfl, hb1⟩ := hrel
      by_cases hlt : k < zs.length
      · obtain ⟨g, o, rfl, hg, hc0⟩ := hA k (by simp [strsOf]; exact hlt)
        have hc : wr.cell? ⟨g, o + k, none⟩ = some (Value.string zs[k]) := by
          have := (hb1.cell (p := ⟨g, o + k, none⟩) hg).trans hc0
          simpa [strsOf] using this
        clear hc0
        cases hz : decide ((100 : Int) < zs[k].size) with
        | true =>
          go_wp2_with fail
          go_ret
          exact ⟨rfl, hb1⟩
        | false =>
          go_wp2_with fail
          go_roundw
          case rel => exact ⟨k + 1, by omega, by go_num, hb1⟩
          case measure => simp [intOf]; omega
      · go_wp2_with fail
        have hcall := text_any s wr (hT.below hb1)
        with_reducible refine hcall.mono ?_
        clear hcall
        rw [HX.out]
        rintro e w2 ⟨rfl, hb2⟩
        replace hb1 := hb1.trans (hb2.mono hb1.size)
        clear hb2
        go_wp2_with fail
        have hcall := refText_any s w2
        with_reducible refine hcall.mono ?_
        clear hcall
        rw [HX.out]
        rintro e w3 ⟨rfl, hb2⟩
        replace hb1 := hb1.trans (hb2.mono hb1.size)
        clear hb2
        go_wp2_with fail
        have hA3 : CellsAt w3 w3.heap.size A (strsOf zs) := fun i hi => by
          obtain ⟨g, o, e, hg, hc⟩ := hA i hi
          exact ⟨g, o, e, Nat.lt_of_lt_of_le hg hb1.size, (hb1.cell (p := ⟨g, o + i, none⟩) hg).trans hc⟩
        have hcall := txts_any A c zs w3 (hT.below hb1) hA3
        with_reducible refine hcall.mono ?_
        clear hcall hA3
        rw [HX2.out]
        rintro e w4 ⟨rfl, hb2⟩
        replace hb1 := hb1.trans (hb2.mono hb1.size)
        clear hb2
        go_wp2_with fail
        have hA4 : CellsAt w4 w4.heap.size A (strsOf zs) := fun i hi => by
          obtain ⟨g, o, e, hg, hc⟩ := hA i hi
          exact ⟨g, o, e, Nat.lt_of_lt_of_le hg hb1.size, (hb1.cell (p := ⟨g, o + i, none⟩) hg).trans hc⟩
        have hcall := refTexts_any A c zs w4 hA4
        with_reducible refine hcall.mono ?_
        clear hcall hA4
        rw [HX2.out]
        rintro e w5 ⟨rfl, hb2⟩
        replace hb1 := hb1.trans (hb2.mono hb1.size)
        clear hb2
        go_wp2_with fail
        go_ret
        exact ⟨rfl, hb1⟩
theorem texts_law (s : ByteArray) (A : Option Addr) (c : Nat) (zs : List ByteArray) (w : World) (hT : Tabs w) (hA : CellsAt w w.heap.size A (strsOf zs)) :
    Calls Tryd.prog 4 #[.string s, .slice A zs.length c] w fun e w' => e = .returned (.bool true) ∧ Below w.heap.size w w' := by
  by_cases h : (100 < s.size ∧ s.size < 65534) ∨ 65538 < s.size ∨ 20 < zs.length
  · exact texts_skip s A c zs w hT h
  · exact texts_main s A c zs w hT hA h
end Go.Proofs.YthkijcombpmfeaaDoor
