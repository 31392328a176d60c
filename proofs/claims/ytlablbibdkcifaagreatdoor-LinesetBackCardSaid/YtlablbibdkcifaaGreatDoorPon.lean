/- parse (of a line) and Parse of the program. Condition: bytealg's MaxLen, the table of powers and strconv's errors lie in their variables. -/
import Derived.Test.YtlablbibdkcifaaGreatDoorDcp
import Derived.Deep.RegionHeld3
namespace Go.Proofs.YtlablbibdkcifaaGreatDoor
open Go.RowKit Go.Deep Tr

theorem keep3 {w w1 : World} {v0 v1 v2 : Value} {T : TypeId} (h : w1.heap[w.heap.size]? = some (.cells #[v0, v1, v2] T (0, 0))) :
    w1.cell? ⟨w.heap.size, 0, none⟩ = some v0 ∧ w1.cell? ⟨w.heap.size, 1, none⟩ = some v1 ∧ w1.cell? ⟨w.heap.size, 2, none⟩ = some v2 ∧ w1.frozen? ⟨w.heap.size, 0, none⟩ = false ∧ w1.frozen? ⟨w.heap.size, 1, none⟩ = false ∧ w1.frozen? ⟨w.heap.size, 2, none⟩ = false :=
  ⟨by rw [cell_of_row _ _ _ _ _ _ h]; rfl, by rw [cell_of_row _ _ _ _ _ _ h]; rfl, by rw [cell_of_row _ _ _ _ _ _ h]; rfl, frozen_of_row _ _ _ _ _ h, frozen_of_row _ _ _ _ _ h, frozen_of_row _ _ _ _ _ h⟩
namespace Ls
theorem cutL_len (c : UInt8) : ∀ l : LN, (cutL c l).length ≤ l.length ∧ (cutR c l).length ≤ l.length
  | [] => ⟨Nat.le_refl _, Nat.le_refl _⟩
  | y :: t => by
    have h := cutL_len c t
    rw [cutL, cutR]
    by_cases e : y = c
    · rw [if_pos e, if_pos e]; exact ⟨Nat.zero_le _, Nat.le_succ _⟩
    · rw [if_neg e, if_neg e, List.length_cons, List.length_cons]
      exact ⟨by omega, by omega⟩
theorem one3_syn {p a b : LN} (h : numC a = none ∨ numC b = none) : one3 p a b = (4, ⟨[], 0, 0⟩) := one3_bad h
theorem one3_nam {p a b : LN} {x y : Nat} (ha : numC a = some x) (hb : numC b = some y) (hp : Tre.pathOk p = false) : one3 p a b = (2, ⟨[], 0, 0⟩) := by
  unfold one3
  rw [ha, hb]
  exact if_neg (by rw [hp]; decide)
theorem one3_rng {p a b : LN} {x y : Nat} (ha : numC a = some x) (hb : numC b = some y) (hp : Tre.pathOk p = true) (hs : isSp x y = false) : one3 p a b = (3, ⟨[], 0, 0⟩) := by
  unfold one3
  rw [ha, hb]
  dsimp only
  rw [if_pos hp, if_neg (by rw [hs]; decide)]
theorem one3_good {p a b : LN} {x y : Nat} (ha : numC a = some x) (hb : numC b = some y) (hp : Tre.pathOk p = true) (hs : isSp x y = true) : one3 p a b = (0, ⟨p, x, y⟩) := by
  unfold one3
  rw [ha, hb]
  dsimp only
  rw [if_pos hp, if_pos hs]
end Ls
set_option maxHeartbeats 8000000 in
set_option maxRecDepth 100000 in
theorem pone_any (l : List UInt8) (hl : l.length ≤ 1000000) (w : World) (hE : ErrAt w) (hT : Cd.Tabs w) (hM : MaxAt w) :
    Calls Tryz.prog 43 #[.string (str l)] w fun e w' => e = .returned (.tuple #[spA (Ls.one l).2, .int .i64 (Ls.one l).1]) ∧ Below w.heap.size w w' := by
  have HV := Lib.hid (Ls.one_cut l)
  generalize Ls.one l = V at *
  have hb0 : Below w.heap.size w (w.alloc (.cells #[.string ⟨#[]⟩, .int .i64 0, .int .i64 0] 32)) := (Below.refl _ _).alloc (Nat.le_refl _) _
  have hk0 := heap_alloc_new w (.cells #[.string ⟨#[]⟩, .int .i64 0, .int .i64 0] 32)
  have HE := Lib.hid hE
  have HTb := Lib.hid hT
  have HM := Lib.hid hM
  have h1 := Ls.cutL_len 32 l
  have h2 := Ls.cutL_len 32 (Ls.cutR 32 l)
  have cc := cut_any 32 l (w.alloc (.cells #[.string ⟨#[]⟩, .int .i64 0, .int .i64 0] 32)) (by omega) (hM.below hb0)
  have C2 := Lib.hid (fun w (hM : MaxAt w) => cut_any 32 (Ls.cutR 32 l) w (by omega) hM)
  have HP := Lib.hid (fun w (hM : MaxAt w) => path_any (str (Ls.cutL 32 l)) w (by rw [str_size]; omega) hM)
  have HD1 := Lib.hid (fun w (hE : ErrAt w) (hT : Cd.Tabs w) => decimal_any (Ls.cutL 32 (Ls.cutR 32 l)) (by omega) w hE hT)
  have HD2 := Lib.hid (fun w (hE : ErrAt w) (hT : Cd.Tabs w) => decimal_any (Ls.cutR 32 (Ls.cutR 32 l)) (by omega) w hE hT)
  rw [show Tre.path (str (Ls.cutL 32 l)).data.toList = (if Tre.pathOk (Ls.cutL 32 l) = true then 0 else 2 : Int) from rfl] at HP
  generalize Ls.cutL 32 (Ls.cutR 32 l) = a at *
  generalize Ls.cutR 32 (Ls.cutR 32 l) = b at *
  generalize Ls.cutR 32 l = r at *
  generalize Ls.cutL 32 l = p at *
  clear hE hT hM h1 h2
  go_enter Tryz.func43, Tryz.ntmps43
  go_wp2_with fail
  with_reducible refine cc.mono ?_
  clear cc
  rintro e w1 ⟨rfl, hn1⟩
  have hk1 := (hn1.block _ (blk_lt hk0)).trans hk0
  have hb1 := hb0.trans (hn1.mono hb0.size)
  clear hn1 hk0 hb0
  have cc := C2.out w1 (HM.out.below hb1)
  go_wp2_with fail
  with_reducible refine cc.mono ?_
  clear cc
  rintro e w2 ⟨rfl, hn2⟩
  have hk2 := (hn2.block _ (blk_lt hk1)).trans hk1
  have hb2 := hb1.trans (hn2.mono hb1.size)
  clear hn2 hk1 hb1
  have cc := HD1.out w2 (HE.out.below hb2) (HTb.out.below hb2)
  go_wp2_with fail
  with_reducible refine cc.mono ?_
  clear cc
  rintro e w3 ⟨hx, hn3⟩
  have hk3 := (hn3.block _ (blk_lt hk2)).trans hk2
  have hb3 := hb2.trans (hn3.mono hb2.size)
  clear hn3 hk2 hb2
  rcases hx with ⟨x, hx, hx9, rfl⟩ | ⟨hx, rfl⟩
  · have HX := Lib.hid hx
    clear hx
    have cc := HD2.out w3 (HE.out.below hb3) (HTb.out.below hb3)
    go_wp2_with fail
    with_reducible refine cc.mono ?_
    clear cc
    rintro e w4 ⟨hy, hn4⟩
    have hk4 := (hn4.block _ (blk_lt hk3)).trans hk3
    have hb4 := hb3.trans (hn4.mono hb3.size)
    clear hn4 hk3 hb3
    rcases hy with ⟨y, hy, hy9, rfl⟩ | ⟨hy, rfl⟩
    · have HY := Lib.hid hy
      clear hy
      have cc := HP.out w4 (HM.out.below hb4)
      cases hp : Tre.pathOk p with
      | false =>
        rw [hp, if_neg (by decide)] at cc
        have HT := Lib.hid (show V = (2, ⟨[], 0, 0⟩) by rw [HV.out]; exact Ls.one3_nam HX.out HY.out hp)
        clear hp
        go_wp2_with fail
        with_reducible refine cc.mono ?_
        clear cc
        rintro e w5 ⟨rfl, hn5⟩
        have hk5 := (hn5.block _ (blk_lt hk4)).trans hk4
        have hb5 := hb4.trans (hn5.mono hb4.size)
        clear hn5 hk4 hb4
        obtain ⟨r0, r1, r2, f0, f1, f2⟩ := keep3 hk5
        have HB := Lib.hid (((hb5.setCell (p := ⟨w.heap.size, 0, none⟩) (Nat.le_refl _) (.string ⟨#[]⟩)).setCell (p := ⟨w.heap.size, 1, none⟩) (Nat.le_refl _) (.int .i64 0)).setCell (p := ⟨w.heap.size, 2, none⟩) (Nat.le_refl _) (.int .i64 0))
        clear hk5 hb5
        go_wp2_with fail
        exact bodyPost_ret (v := .tuple #[.agg #[.string ⟨#[]⟩, .int .i64 0, .int .i64 0], .int .i64 2]) (by simp [results, Tryz.results43, go_sem, r0, r1, r2]) rfl ⟨by rw [HT.out]; rfl, HB.out⟩
      | true =>
        rw [hp, if_pos rfl] at cc
        have HPO := Lib.hid hp
        clear hp
        go_wp2_with fail
        with_reducible refine cc.mono ?_
        clear cc
        rintro e w5 ⟨rfl, hn5⟩
        have hk5 := (hn5.block _ (blk_lt hk4)).trans hk4
        have hb5 := hb4.trans (hn5.mono hb4.size)
        clear hn5 hk4 hb4
        have cs := isSpan_any (x : Int) (y : Int) w5
        cases hs : Ls.isSp (x : Int) (y : Int) with
        | false =>
          rw [hs] at cs
          have HT := Lib.hid (show V = (3, ⟨[], 0, 0⟩) by rw [HV.out]; exact Ls.one3_rng HX.out HY.out HPO.out hs)
          clear hs
          go_wp2_with fail
          with_reducible refine cs.mono ?_
          clear cs
          rintro e w6 ⟨rfl, rfl⟩
          obtain ⟨r0, r1, r2, f0, f1, f2⟩ := keep3 hk5
          have HB := Lib.hid (((hb5.setCell (p := ⟨w.heap.size, 0, none⟩) (Nat.le_refl _) (.string ⟨#[]⟩)).setCell (p := ⟨w.heap.size, 1, none⟩) (Nat.le_refl _) (.int .i64 0)).setCell (p := ⟨w.heap.size, 2, none⟩) (Nat.le_refl _) (.int .i64 0))
          clear hk5 hb5
          go_wp2_with fail
          exact bodyPost_ret (v := .tuple #[.agg #[.string ⟨#[]⟩, .int .i64 0, .int .i64 0], .int .i64 3]) (by simp [results, Tryz.results43, go_sem, r0, r1, r2]) rfl ⟨by rw [HT.out]; rfl, HB.out⟩
        | true =>
          rw [hs] at cs
          have HT := Lib.hid (show V = (0, ⟨p, x, y⟩) by rw [HV.out]; exact Ls.one3_good HX.out HY.out HPO.out hs)
          clear hs
          go_wp2_with fail
          with_reducible refine cs.mono ?_
          clear cs
          rintro e w6 ⟨rfl, rfl⟩
          obtain ⟨r0, r1, r2, f0, f1, f2⟩ := keep3 hk5
          have HB := Lib.hid (((hb5.setCell (p := ⟨w.heap.size, 0, none⟩) (Nat.le_refl _) (.string (str p))).setCell (p := ⟨w.heap.size, 1, none⟩) (Nat.le_refl _) (.int .i64 (x : Int))).setCell (p := ⟨w.heap.size, 2, none⟩) (Nat.le_refl _) (.int .i64 (y : Int)))
          clear hk5 hb5
          go_wp2_with fail
          exact bodyPost_ret (v := .tuple #[.agg #[.string (str p), .int .i64 (x : Int), .int .i64 (y : Int)], .int .i64 0]) (by simp [results, Tryz.results43, go_sem, r0, r1, r2]) rfl ⟨by rw [HT.out]; rfl, HB.out⟩
    · have HT := Lib.hid (show V = (4, ⟨[], 0, 0⟩) by rw [HV.out]; exact Ls.one3_bad (.inr hy))
      clear hy
      obtain ⟨r0, r1, r2, f0, f1, f2⟩ := keep3 hk4
      have HB := Lib.hid (((hb4.setCell (p := ⟨w.heap.size, 0, none⟩) (Nat.le_refl _) (.string ⟨#[]⟩)).setCell (p := ⟨w.heap.size, 1, none⟩) (Nat.le_refl _) (.int .i64 0)).setCell (p := ⟨w.heap.size, 2, none⟩) (Nat.le_refl _) (.int .i64 0))
      clear hk4 hb4
      go_wp2_with fail
      exact bodyPost_ret (v := .tuple #[.agg #[.string ⟨#[]⟩, .int .i64 0, .int .i64 0], .int .i64 4]) (by simp [results, Tryz.results43, go_sem, r0, r1, r2]) rfl ⟨by rw [HT.out]; rfl, HB.out⟩
  · have HT := Lib.hid (show V = (4, ⟨[], 0, 0⟩) by rw [HV.out]; exact Ls.one3_bad (.inl hx))
    clear hx
    have cc := HD2.out w3 (HE.out.below hb3) (HTb.out.below hb3)
    go_wp2_with fail
    with_reducible refine cc.mono ?_
    clear cc
    rintro e w4 ⟨hy, hn4⟩
    have hk4 := (hn4.block _ (blk_lt hk3)).trans hk3
    have hb4 := hb3.trans (hn4.mono hb3.size)
    clear hn4 hk3 hb3
    rcases hy with ⟨y, hy, hy9, rfl⟩ | ⟨hy, rfl⟩
    · clear hy
      obtain ⟨r0, r1, r2, f0, f1, f2⟩ := keep3 hk4
      have HB := Lib.hid (((hb4.setCell (p := ⟨w.heap.size, 0, none⟩) (Nat.le_refl _) (.string ⟨#[]⟩)).setCell (p := ⟨w.heap.size, 1, none⟩) (Nat.le_refl _) (.int .i64 0)).setCell (p := ⟨w.heap.size, 2, none⟩) (Nat.le_refl _) (.int .i64 0))
      clear hk4 hb4
      go_wp2_with fail
      exact bodyPost_ret (v := .tuple #[.agg #[.string ⟨#[]⟩, .int .i64 0, .int .i64 0], .int .i64 4]) (by simp [results, Tryz.results43, go_sem, r0, r1, r2]) rfl ⟨by rw [HT.out]; rfl, HB.out⟩
    · clear hy
      obtain ⟨r0, r1, r2, f0, f1, f2⟩ := keep3 hk4
      have HB := Lib.hid (((hb4.setCell (p := ⟨w.heap.size, 0, none⟩) (Nat.le_refl _) (.string ⟨#[]⟩)).setCell (p := ⟨w.heap.size, 1, none⟩) (Nat.le_refl _) (.int .i64 0)).setCell (p := ⟨w.heap.size, 2, none⟩) (Nat.le_refl _) (.int .i64 0))
      clear hk4 hb4
      go_wp2_with fail
      exact bodyPost_ret (v := .tuple #[.agg #[.string ⟨#[]⟩, .int .i64 0, .int .i64 0], .int .i64 4]) (by simp [results, Tryz.results43, go_sem, r0, r1, r2]) rfl ⟨by rw [HT.out]; rfl, HB.out⟩
end Go.Proofs.YtlablbibdkcifaaGreatDoor
