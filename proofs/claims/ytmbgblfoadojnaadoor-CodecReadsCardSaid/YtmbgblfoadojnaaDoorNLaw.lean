/- The laws CodecNumbers and CodecTexts return true. Condition: the library's table of powers of ten lies in its variable. -/
import Derived.Test.YtmbgblfoadojnaaDoorAwake
import Derived.Test.YtmbgblfoadojnaaDoorRefLists
namespace Go.Proofs.YtmbgblfoadojnaaDoor
open Go.RowKit

theorem numV_two (n : Int) : ∃ x y, numV n = .tuple #[.string x, .int .i64 y] := by unfold numV; split <;> exact ⟨_, _, rfl⟩
theorem txtV_two (s : ByteArray) : ∃ x y, txtV s = .tuple #[.string x, .int .i64 y] := by unfold txtV; split <;> exact ⟨_, _, rfl⟩
theorem numsV_two (zs : List Int) : ∃ x y, numsV zs = .tuple #[.string x, .int .i64 y] := by
  unfold numsV; split
  · exact ⟨_, _, rfl⟩
  · split <;> exact ⟨_, _, rfl⟩
theorem txtsV_two (zs : List ByteArray) : ∃ x y, txtsV zs = .tuple #[.string x, .int .i64 y] := by
  unfold txtsV; split
  · exact ⟨_, _, rfl⟩
  · split <;> exact ⟨_, _, rfl⟩

set_option maxHeartbeats 4000000 in
set_option maxRecDepth 100000 in
theorem numbers_skip (n : Int) (A : Option Addr) (c : Nat) (zs : List Int) (w : World) (hT : Tabs w) (h : (40 < zs.length ∧ zs.length < 1020) ∨ 1030 < zs.length) :
    Calls Tryd.prog 3 #[.int .i64 n, .slice A zs.length c] w fun e w' => e = .returned (.bool true) ∧ Below w.heap.size w w' := by
  have d1 : decide ((40 : Int) < zs.length) = true := by simp; omega
  by_cases h2 : zs.length < 1020
  · have d2 : decide ((zs.length : Int) < 1020) = true := by simp; omega
    clear h h2
    go_enter Tryd.func3, Tryd.ntmps3
    go_wp2_with fail
    refine (awake_any w hT).mono ?_
    rintro e w1 ⟨rfl, hb1⟩
    go_wp2_with fail
    go_ret
    exact ⟨rfl, hb1⟩
  · have d2 : decide ((zs.length : Int) < 1020) = false := by simp; omega
    have d3 : decide ((1030 : Int) < zs.length) = true := by simp; omega
    clear h h2
    go_enter Tryd.func3, Tryd.ntmps3
    go_wp2_with fail
    refine (awake_any w hT).mono ?_
    rintro e w1 ⟨rfl, hb1⟩
    go_wp2_with fail
    go_ret
    exact ⟨rfl, hb1⟩
set_option maxHeartbeats 4000000 in
set_option maxRecDepth 100000 in
theorem numbers_main (n : Int) (A : Option Addr) (c : Nat) (zs : List Int) (w : World) (hT : Tabs w) (hA : CellsAt w w.heap.size A (intsOf zs)) (h : ¬ ((40 < zs.length ∧ zs.length < 1020) ∨ 1030 < zs.length)) :
    Calls Tryd.prog 3 #[.int .i64 n, .slice A zs.length c] w fun e w' => e = .returned (.bool true) ∧ Below w.heap.size w w' := by
  obtain ⟨x, y, hxy⟩ := numV_two n
  obtain ⟨x2, y2, hxy2⟩ := numsV_two zs
  have HX := Lib.hid hxy
  have HX2 := Lib.hid hxy2
  have hd : (decide ((40 : Int) < zs.length) = false ∨ (decide ((40 : Int) < zs.length) = true ∧ decide ((zs.length : Int) < 1020) = false)) := by
    by_cases h1 : 40 < zs.length
    · exact .inr ⟨by simp; omega, by simp; omega⟩
    · exact .inl (by simp; omega)
  have d3 : decide ((1030 : Int) < zs.length) = false := by simp; omega
  clear hxy hxy2 h
  rcases hd with d1 | ⟨d1, d2⟩
  all_goals
    go_enter Tryd.func3, Tryd.ntmps3
    go_wp2_with fail
    refine (awake_any w hT).mono ?_
    rintro e w1 ⟨rfl, hb1⟩
    go_wp2_with fail
    have hcall := number_any n w1 (hT.below hb1)
    with_reducible refine hcall.mono ?_
    clear hcall
    rw [HX.out]
    rintro e w2 ⟨rfl, hb2⟩
    replace hb1 := hb1.trans (hb2.mono hb1.size)
    clear hb2
    go_wp2_with fail
    have hcall := refNumber_any n w2
    with_reducible refine hcall.mono ?_
    clear hcall
    rw [HX.out]
    rintro e w3 ⟨rfl, hb2⟩
    replace hb1 := hb1.trans (hb2.mono hb1.size)
    clear hb2
    go_wp2_with fail
    have hA3 : CellsAt w3 w3.heap.size A (intsOf zs) := fun i hi => by
      obtain ⟨g, o, e, hg, hc⟩ := hA i hi
      exact ⟨g, o, e, Nat.lt_of_lt_of_le hg hb1.size, (hb1.cell (p := ⟨g, o + i, none⟩) hg).trans hc⟩
    have hcall := nums_any A c zs w3 (hT.below hb1) hA3
    with_reducible refine hcall.mono ?_
    clear hcall hA3
    rw [HX2.out]
    rintro e w4 ⟨rfl, hb2⟩
    replace hb1 := hb1.trans (hb2.mono hb1.size)
    clear hb2
    go_wp2_with fail
    have hA4 : CellsAt w4 w4.heap.size A (intsOf zs) := fun i hi => by
      obtain ⟨g, o, e, hg, hc⟩ := hA i hi
      exact ⟨g, o, e, Nat.lt_of_lt_of_le hg hb1.size, (hb1.cell (p := ⟨g, o + i, none⟩) hg).trans hc⟩
    have hcall := refNumbers_any A c zs w4 hA4
    with_reducible refine hcall.mono ?_
    clear hcall hA4
    rw [HX2.out]
    rintro e w5 ⟨rfl, hb2⟩
    replace hb1 := hb1.trans (hb2.mono hb1.size)
    clear hb2
    go_wp2_with fail
    go_ret
    exact ⟨rfl, hb1⟩
theorem numbers_law (n : Int) (A : Option Addr) (c : Nat) (zs : List Int) (w : World) (hT : Tabs w) (hA : CellsAt w w.heap.size A (intsOf zs)) :
    Calls Tryd.prog 3 #[.int .i64 n, .slice A zs.length c] w fun e w' => e = .returned (.bool true) ∧ Below w.heap.size w w' := by
  by_cases h : (40 < zs.length ∧ zs.length < 1020) ∨ 1030 < zs.length
  · exact numbers_skip n A c zs w hT h
  · exact numbers_main n A c zs w hT hA h
end Go.Proofs.YtmbgblfoadojnaaDoor
