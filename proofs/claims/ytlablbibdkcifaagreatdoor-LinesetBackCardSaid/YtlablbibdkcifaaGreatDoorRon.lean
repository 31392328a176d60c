/- one (a line) of the reference. No condition but lengths. -/
import Derived.Test.YtlablbibdkcifaaGreatDoorRnu
import Derived.Test.YtlablbibdkcifaaGreatDoorPon
import Derived.Test.YtlablbibdkcifaaGreatDoorRsb
namespace Go.Proofs.YtlablbibdkcifaaGreatDoor
open Go.RowKit Go.Deep Tr

namespace Ls
theorem oneP_bad {W : List LN} (h : W.length ≠ 3) : oneP W = (4, ⟨[], 0, 0⟩) := by
  match W, h with
  | [], _ => rfl
  | [_], _ => rfl
  | [_, _], _ => rfl
  | [_, _, _], h => exact absurd rfl h
  | _ :: _ :: _ :: _ :: _, _ => rfl
end Ls
set_option maxHeartbeats 8000000 in
set_option maxRecDepth 100000 in
theorem qone_any (l : List UInt8) (hl : l.length ≤ 1000000) (w : World) :
    Calls Tryz.prog 46 #[.string (str l)] w fun e w' => e = .returned (.tuple #[spA (Ls.one l).2, .int .i64 (Ls.one l).1]) ∧ Below w.heap.size w w' := by
  have HV := Lib.hid (show Ls.one l = Ls.oneP (Tre.split 32 l) from rfl)
  generalize Ls.one l = V at *
  have hb0 : Below w.heap.size w (w.alloc (.cells #[.string ⟨#[]⟩, .int .i64 0, .int .i64 0] 32)) := (Below.refl _ _).alloc (Nat.le_refl _) _
  have hk0 := heap_alloc_new w (.cells #[.string ⟨#[]⟩, .int .i64 0, .int .i64 0] 32)
  have cc : Calls Tryz.prog 45 #[.string (str l), .int .u8 32] (w.alloc (.cells #[.string ⟨#[]⟩, .int .i64 0, .int .i64 0] 32)) (GotSs _ (Tre.split 32 (str l).data.toList)) := qcut_any 32 (str l) _ (by rw [str_size]; omega)
  rw [str_data] at cc
  have HLE := Lib.hid (Tre.split_le 32 l)
  generalize Tre.split 32 l = R at *
  go_enter Tryz.func46, Tryz.ntmps46
  go_wp2_with fail
  with_reducible refine cc.mono ?_
  clear cc
  rintro e w1 ⟨A, c, rfl, hSt, _, hn1⟩
  have hk1 := (hn1.block _ (blk_lt hk0)).trans hk0
  have hb1 := hb0.trans (hn1.mono hb0.size)
  clear hn1 hk0 hb0
  by_cases h3 : R.length = 3
  case neg =>
    have g1 : ((R.length : Int) != (3 : Int)) = true := by rw [bne_iff_ne]; omega
    have g1b : ((R.length : Int) == (3 : Int)) = false := by rw [beq_eq_false_iff_ne]; omega
    have g1n : (R.length == 3) = false := by rw [beq_eq_false_iff_ne]; exact h3
    have HT := Lib.hid (show V = (4, ⟨[], 0, 0⟩) by rw [HV.out]; exact Ls.oneP_bad h3)
    clear h3 hSt
    obtain ⟨r0, r1, r2, f0, f1, f2⟩ := keep3 hk1
    have HB := Lib.hid (((hb1.setCell (p := ⟨w.heap.size, 0, none⟩) (Nat.le_refl _) (.string ⟨#[]⟩)).setCell (p := ⟨w.heap.size, 1, none⟩) (Nat.le_refl _) (.int .i64 0)).setCell (p := ⟨w.heap.size, 2, none⟩) (Nat.le_refl _) (.int .i64 0))
    clear hk1 hb1
    go_wp2_with fail
    exact bodyPost_ret (v := .tuple #[.agg #[.string ⟨#[]⟩, .int .i64 0, .int .i64 0], .int .i64 4]) (by simp [results, Tryz.results46, go_sem, r0, r1, r2]) rfl ⟨by rw [HT.out]; rfl, HB.out⟩
  obtain ⟨p, a, b, rfl⟩ : ∃ p a b, R = [p, a, b] := by
    match R, h3 with
    | [p, a, b], _ => exact ⟨p, a, b, rfl⟩
  have hlp := HLE.out p (by simp)
  have hla := HLE.out a (by simp)
  have hlb := HLE.out b (by simp)
  obtain ⟨g, o, rfl, hg, hrow⟩ := hSt.row (by simp)
  have s0 : w1.cell? ⟨g, o, none⟩ = some (.string (str p)) := hrow 0 (by simp) 0 _ rfl
  have s1 : w1.cell? ⟨g, o + 1, none⟩ = some (.string (str a)) := hrow 1 (by simp) 0 _ rfl
  have s2 : w1.cell? ⟨g, o + 2, none⟩ = some (.string (str b)) := hrow 2 (by simp) 0 _ rfl
  have HV3 := Lib.hid (show V = Ls.one3 p a b from HV.out)
  have HSS := Lib.hid (fun (w5 : World) (h5 : Below w1.heap.size w1 w5) => (show w5.cell? ⟨g, o, none⟩ = some (.string (str p)) ∧ w5.cell? ⟨g, o + 2, none⟩ = some (.string (str b)) from ⟨(h5.cell (p := ⟨g, o, none⟩) hg).trans s0, (h5.cell (p := ⟨g, o + 2, none⟩) hg).trans s2⟩))
  clear hrow hSt h3 HV HLE s0 s2
  rw [show ([p, a, b] : List (List UInt8)).length = 3 from rfl]
  have HD2 := Lib.hid (fun w => qnumber_any (str b) w (by rw [str_size]; omega))
  have HP := Lib.hid (fun w => qPath_any (str p) w (by rw [str_size]; omega))
  have HSP := Lib.hid (fun x y w => qspan_any ⟨p, x, y⟩ w (by show p.length ≤ _; omega))
  have cc := qnumber_any (str a) w1 (by rw [str_size]; omega)
  rw [str_data] at cc
  rw [str_data] at HD2 HP
  go_wp2_with fail
  with_reducible refine cc.mono ?_
  clear cc
  rintro e w2 ⟨hx, hn2⟩
  have hB2 := hn2
  have hk2 := (hn2.block _ (blk_lt hk1)).trans hk1
  have hb2 := hb1.trans (hn2.mono hb1.size)
  clear hn2 hk1 hb1
  have s2 := (HSS.out w2 hB2).2
  rcases hx with ⟨x, hx, hx9, rfl⟩ | ⟨hx, rfl⟩
  · have HX := Lib.hid hx
    clear hx
    have cc := HD2.out w2
    go_wp2_with fail
    with_reducible refine cc.mono ?_
    clear cc
    rintro e w3 ⟨hy, hn3⟩
    have hB3 := hB2.trans (hn3.mono hB2.size)
    have hk3 := (hn3.block _ (blk_lt hk2)).trans hk2
    have hb3 := hb2.trans (hn3.mono hb2.size)
    clear hn3 hk2 hb2
    have s0 := (HSS.out w3 hB3).1
    clear hB2
    rcases hy with ⟨y, hy, hy9, rfl⟩ | ⟨hy, rfl⟩
    · have HY := Lib.hid hy
      clear hy
      have cc := HP.out w3
      cases hp : Tre.pathOk p with
      | false =>
        rw [hp] at cc
        have HT := Lib.hid (show V = (2, ⟨[], 0, 0⟩) by rw [HV3.out]; exact Ls.one3_nam HX.out HY.out hp)
        clear hp
        go_wp2_with fail
        with_reducible refine cc.mono ?_
        clear cc
        rintro e w4 ⟨rfl, rfl⟩
        obtain ⟨r0, r1, r2, f0, f1, f2⟩ := keep3 hk3
        have HB := Lib.hid (((hb3.setCell (p := ⟨w.heap.size, 0, none⟩) (Nat.le_refl _) (.string ⟨#[]⟩)).setCell (p := ⟨w.heap.size, 1, none⟩) (Nat.le_refl _) (.int .i64 0)).setCell (p := ⟨w.heap.size, 2, none⟩) (Nat.le_refl _) (.int .i64 0))
        clear hk3 hb3
        go_wp2_with fail
        exact bodyPost_ret (v := .tuple #[.agg #[.string ⟨#[]⟩, .int .i64 0, .int .i64 0], .int .i64 2]) (by simp [results, Tryz.results46, go_sem, r0, r1, r2]) rfl ⟨by rw [HT.out]; rfl, HB.out⟩
      | true =>
        rw [hp] at cc
        have HPO := Lib.hid hp
        clear hp
        go_wp2_with fail
        with_reducible refine cc.mono ?_
        clear cc
        rintro e w4 ⟨rfl, rfl⟩
        have hn4 : Below w3.heap.size w3 (w3.alloc (.cells #[.string (str p), .int .i64 (x : Int), .int .i64 (y : Int)] 32)) := (Below.refl _ _).alloc (Nat.le_refl _) _
        have hN4 := heap_alloc_new w3 (.cells #[.string (str p), .int .i64 (x : Int), .int .i64 (y : Int)] 32)
        go_upto_region 11 with (fail)
        generalize w3.alloc (.cells #[.string (str p), .int .i64 (x : Int), .int .i64 (y : Int)] 32) = w4 at *
        have hk4 := (hn4.block _ (blk_lt hk3)).trans hk3
        have hb4 := hb3.trans (hn4.mono hb3.size)
        clear hn4 hk3 hb3
        generalize w3.heap.size = q at *
        have t0 : w4.cell? ⟨q, 0, none⟩ = some (.string (str p)) := by rw [cell_of_row _ _ _ _ _ _ hN4]; rfl
        have t1 : w4.cell? ⟨q, 1, none⟩ = some (.int .i64 (x : Int)) := by rw [cell_of_row _ _ _ _ _ _ hN4]; rfl
        have t2 : w4.cell? ⟨q, 2, none⟩ = some (.int .i64 (y : Int)) := by rw [cell_of_row _ _ _ _ _ _ hN4]; rfl
        have cs := HSP.out (x : Int) (y : Int) w4
        rw [spA_def] at cs
        dsimp only at cs
        rw [HPO.out, Bool.true_and] at cs
        clear s0 s1 s2
        cases hs : Ls.isSp (x : Int) (y : Int) with
        | false =>
          rw [hs] at cs
          have HT := Lib.hid (show V = (3, ⟨[], 0, 0⟩) by rw [HV3.out]; exact Ls.one3_rng HX.out HY.out HPO.out hs)
          clear hs
          go_wp2_with fail
          with_reducible refine cs.mono ?_
          clear cs
          rintro e w5 ⟨rfl, hn5⟩
          have hk5 := (hn5.block _ (blk_lt hk4)).trans hk4
          have hb5 := hb4.trans (hn5.mono hb4.size)
          clear hn5 hk4 hb4
          clear t0 t1 t2 hN4
          obtain ⟨r0, r1, r2, f0, f1, f2⟩ := keep3 hk5
          have HB := Lib.hid (((hb5.setCell (p := ⟨w.heap.size, 0, none⟩) (Nat.le_refl _) (.string ⟨#[]⟩)).setCell (p := ⟨w.heap.size, 1, none⟩) (Nat.le_refl _) (.int .i64 0)).setCell (p := ⟨w.heap.size, 2, none⟩) (Nat.le_refl _) (.int .i64 0))
          clear hk5 hb5
          go_wp2_with fail
          exact bodyPost_ret (v := .tuple #[.agg #[.string ⟨#[]⟩, .int .i64 0, .int .i64 0], .int .i64 3]) (by simp [results, Tryz.results46, go_sem, r0, r1, r2]) rfl ⟨by rw [HT.out]; rfl, HB.out⟩
        | true =>
          rw [hs] at cs
          have HT := Lib.hid (show V = (0, ⟨p, x, y⟩) by rw [HV3.out]; exact Ls.one3_good HX.out HY.out HPO.out hs)
          clear hs
          go_wp2_with fail
          with_reducible refine cs.mono ?_
          clear cs
          rintro e w5 ⟨rfl, hn5⟩
          have hN5 := (hn5.block _ (blk_lt hN4)).trans hN4
          have hk5 := (hn5.block _ (blk_lt hk4)).trans hk4
          have hb5 := hb4.trans (hn5.mono hb4.size)
          clear hn5 hk4 hb4
          clear t0 t1 t2 hN4
          have t0 : w5.cell? ⟨q, 0, none⟩ = some (.string (str p)) := by rw [cell_of_row _ _ _ _ _ _ hN5]; rfl
          have t1 : w5.cell? ⟨q, 1, none⟩ = some (.int .i64 (x : Int)) := by rw [cell_of_row _ _ _ _ _ _ hN5]; rfl
          have t2 : w5.cell? ⟨q, 2, none⟩ = some (.int .i64 (y : Int)) := by rw [cell_of_row _ _ _ _ _ _ hN5]; rfl
          obtain ⟨r0, r1, r2, f0, f1, f2⟩ := keep3 hk5
          have HB := Lib.hid (((hb5.setCell (p := ⟨w.heap.size, 0, none⟩) (Nat.le_refl _) (.string (str p))).setCell (p := ⟨w.heap.size, 1, none⟩) (Nat.le_refl _) (.int .i64 (x : Int))).setCell (p := ⟨w.heap.size, 2, none⟩) (Nat.le_refl _) (.int .i64 (y : Int)))
          clear hk5 hb5
          go_wp2_with fail
          exact bodyPost_ret (v := .tuple #[.agg #[.string (str p), .int .i64 (x : Int), .int .i64 (y : Int)], .int .i64 0]) (by simp [results, Tryz.results46, go_sem, r0, r1, r2]) rfl ⟨by rw [HT.out]; rfl, HB.out⟩
    · have HT := Lib.hid (show V = (4, ⟨[], 0, 0⟩) by rw [HV3.out]; exact Ls.one3_bad (.inr hy))
      clear hy
      obtain ⟨r0, r1, r2, f0, f1, f2⟩ := keep3 hk3
      have HB := Lib.hid (((hb3.setCell (p := ⟨w.heap.size, 0, none⟩) (Nat.le_refl _) (.string ⟨#[]⟩)).setCell (p := ⟨w.heap.size, 1, none⟩) (Nat.le_refl _) (.int .i64 0)).setCell (p := ⟨w.heap.size, 2, none⟩) (Nat.le_refl _) (.int .i64 0))
      clear hk3 hb3
      go_wp2_with fail
      exact bodyPost_ret (v := .tuple #[.agg #[.string ⟨#[]⟩, .int .i64 0, .int .i64 0], .int .i64 4]) (by simp [results, Tryz.results46, go_sem, r0, r1, r2]) rfl ⟨by rw [HT.out]; rfl, HB.out⟩
  · have HT := Lib.hid (show V = (4, ⟨[], 0, 0⟩) by rw [HV3.out]; exact Ls.one3_bad (.inl hx))
    clear hx
    have cc := HD2.out w2
    go_wp2_with fail
    with_reducible refine cc.mono ?_
    clear cc
    rintro e w3 ⟨hy, hn3⟩
    have hk3 := (hn3.block _ (blk_lt hk2)).trans hk2
    have hb3 := hb2.trans (hn3.mono hb2.size)
    clear hn3 hk2 hb2
    rcases hy with ⟨y, hy, hy9, rfl⟩ | ⟨hy, rfl⟩
    · clear hy
      obtain ⟨r0, r1, r2, f0, f1, f2⟩ := keep3 hk3
      have HB := Lib.hid (((hb3.setCell (p := ⟨w.heap.size, 0, none⟩) (Nat.le_refl _) (.string ⟨#[]⟩)).setCell (p := ⟨w.heap.size, 1, none⟩) (Nat.le_refl _) (.int .i64 0)).setCell (p := ⟨w.heap.size, 2, none⟩) (Nat.le_refl _) (.int .i64 0))
      clear hk3 hb3
      go_wp2_with fail
      exact bodyPost_ret (v := .tuple #[.agg #[.string ⟨#[]⟩, .int .i64 0, .int .i64 0], .int .i64 4]) (by simp [results, Tryz.results46, go_sem, r0, r1, r2]) rfl ⟨by rw [HT.out]; rfl, HB.out⟩
    · clear hy
      obtain ⟨r0, r1, r2, f0, f1, f2⟩ := keep3 hk3
      have HB := Lib.hid (((hb3.setCell (p := ⟨w.heap.size, 0, none⟩) (Nat.le_refl _) (.string ⟨#[]⟩)).setCell (p := ⟨w.heap.size, 1, none⟩) (Nat.le_refl _) (.int .i64 0)).setCell (p := ⟨w.heap.size, 2, none⟩) (Nat.le_refl _) (.int .i64 0))
      clear hk3 hb3
      go_wp2_with fail
      exact bodyPost_ret (v := .tuple #[.agg #[.string ⟨#[]⟩, .int .i64 0, .int .i64 0], .int .i64 4]) (by simp [results, Tryz.results46, go_sem, r0, r1, r2]) rfl ⟨by rw [HT.out]; rfl, HB.out⟩
end Go.Proofs.YtlablbibdkcifaaGreatDoor
