/- The reference's parser: names, calls, load and in. No condition.
The reference's parser at any tokens. Condition: they are valid, and of bounded size.
The reference's Parse. Condition: tokens of bounded size.
The law ExprParses returns true. Condition: the library's error of ranges lies in its variable. -/
import Derived.Test.YtndehkoglgakpaaGreatDoorPz3
import Derived.Test.YtndehkoglgakpaaGreatDoorPz1
import Derived.Test.YtndehkoglgakpaaGreatDoorPse
import Derived.Test.YtndehkoglgakpaaGreatDoorRefT
import Derived.Test.YtndehkoglgakpaaGreatDoorFws
import Derived.Test.YtndehkoglgakpaaGreatDoorAwk
section
namespace Go.Proofs.YtndehkoglgakpaaGreatDoor
open Go.RowKit Go.Deep
set_option maxHeartbeats 8000000 in
set_option maxRecDepth 100000 in
theorem qprim_name (b : Nat) (A : Option Addr) (c : Nat) (l : List Tok.Tk) (s : Ex.St) (h0 : s.e = 0) (w : World) (hP : QS w b A c l s) (hl : l.length ≤ 1000000) (hi : s.i < l.length) (_hsd : 0 ≤ s.d) (t : List UInt8) (htt : l[s.i].text = t) (h2 : l[s.i].kind = 1)
    (ht : t.length ≤ 3000) (hun : Ex.unL t = false) (hsy : Ex.symAt l s.i [40] = false) (hl1 : t ≠ [108, 111, 97, 100]) (hl2 : t ≠ [105, 110]) (hid : Ex.idB t = true) (hso : s.out.length ≤ 1000000) (hs2 : Ex.symAt l (s.i + 1) [40] = false) :
    Calls Tryz.prog 55 #[.pointer (some ⟨b, 0, none⟩)] w (GotS w b A c l (Ex.out1 (Ex.fwdS s) ⟨2, t, 0⟩)) := by
  obtain ⟨i0, hi0, hz0, hz1, hz2⟩ := info_parts infoO
  have ce := hP.err
  have c0 := hP.tok
  have c1 := hP.at_
  have q0 : (s.e != 0) = false := by rw [h0]; rfl
  have t1 : decide ((l.length : Int) ≤ (s.i : Int)) = false := by simp; omega
  have t2 : decide (l.length ≤ s.i) = false := by simp; omega
  have hlt1 : (s.i : Int) < (l.length : Int) := by omega
  have hlt0 : 0 ≤ (s.i : Int) := by omega
  have hlt := hP.lt
  obtain ⟨g, o, rfl, hg, hk0, hk1⟩ := hP.toks s.i hi
  rw [h2] at hk0
  rw [htt] at hk1
  clear htt h2
  go_enter Tryz.func55, Tryz.ntmps55
  go_wp2_with fail
  go_quiet (fail)
  have hb := below_drewN (Below.refl w.heap.size w) nq
  have hP1 := hP.below hb
  have hF1 : Fr b b w (w.drewN nq) := Fr.of hb hlt
  have hk0q := (hb.cell (World.block_lt_of_cell? w _ hk0)).trans hk0
  have hk1q := (hb.cell (World.block_lt_of_cell? w _ hk1)).trans hk1
  generalize w.drewN nq = w1 at *
  clear hP ce c0 c1 hk0 hk1 hb
  have c0 := hP1.tok
  have c1 := hP1.at_
  have a0 := (Below.refl w1.heap.size w1).alloc (Nat.le_refl _) (.cells #[.int .i64 0, .string ⟨#[]⟩] 45)
  have d0 := (a0.cell (World.block_lt_of_cell? w1 _ c0)).trans c0
  have d1 := (a0.cell (World.block_lt_of_cell? w1 _ c1)).trans c1
  have d2 := (a0.cell (World.block_lt_of_cell? w1 _ hk0q)).trans hk0q
  have d3 := (a0.cell (World.block_lt_of_cell? w1 _ hk1q)).trans hk1q
  have hn := heap_alloc_new w1 (.cells #[.int .i64 0, .string ⟨#[]⟩] 45)
  go_wp2_with fail
  go_region
  all_goals
    have a1 : Below w1.heap.size w1 (w1.alloc (.cells #[.int .i64 1, .string (str t)] 45)).drew := ((Below.refl w1.heap.size w1).alloc (Nat.le_refl _) _).drew
    have hP2 := hP1.below a1
    have hF2 := hF1.trans (Fr.of a1 hP1.lt)
    have hm := heap_alloc_new w1 (.cells #[.int .i64 1, .string (str t)] 45)
    have hm2 : (w1.alloc (.cells #[.int .i64 1, .string (str t)] 45)).drew.heap[w1.heap.size]? = some (.cells #[.int .i64 1, .string (str t)] 45 (0, 0)) := hm
    have hbm : b < w1.heap.size := hP1.lt
    generalize (w1.alloc (.cells #[.int .i64 1, .string (str t)] 45)).drew = w2 at *
    generalize w1.heap.size = m at *
    clear d0 d1 d2 d3 hn c0 c1 hk0q hk1q hP1 hF1 hm a0 a1
    have e0 : w2.cell? ⟨m, 0, none⟩ = some (.int .i64 1) := by rw [cell_of_row _ _ _ _ _ _ hm2]; rfl
    have e1 : w2.cell? ⟨m, 1, none⟩ = some (.string (str t)) := by rw [cell_of_row _ _ _ _ _ _ hm2]; rfl
    have hU := fun w => unQ3 t w
    rw [hun] at hU
    have hs := symbol_any b _ c l s.d s.i s.e s.out [40] w2 hP2
    rw [hsy, show str [40] = (⟨#[40]⟩ : ByteArray) from rfl] at hs
    go_wp2_with (first | (go_at_call 40; (with_reducible refine (hU _).mono ?_); rintro e w' ⟨rfl, rfl⟩))
    with_reducible refine hs.mono ?_
    clear hs
    rintro x w3 ⟨rfl, m3, rfl⟩
    have hb3 := below_drewN (Below.refl w2.heap.size w2) m3
    have hP3 := hP2.below hb3
    have hF3 := hF2.trans (Fr.of hb3 hP2.lt)
    have hm3 := (hb3.block m (Array.getElem?_eq_some_iff.1 hm2).1).trans hm2
    generalize w2.drewN m3 = w3 at *
    clear hP2 hF2 hb3 hm2 e0 e1
    have e0 : w3.cell? ⟨m, 0, none⟩ = some (.int .i64 1) := by rw [cell_of_row _ _ _ _ _ _ hm3]; rfl
    have e1 : w3.cell? ⟨m, 1, none⟩ = some (.string (str t)) := by rw [cell_of_row _ _ _ _ _ _ hm3]; rfl
    have q5 := str_ne hl1
    have q6 := str_ne hl2
    have hN := nameQ3 t (by omega) w3
    rw [hid] at hN
    go_wp2_with fail
    with_reducible refine hN.mono ?_
    clear hN
    rintro x w4 ⟨rfl, hb4⟩
    have hP4 := hP3.below hb4
    have hF4 := hF3.trans (Fr.of hb4 hP3.lt)
    have hm4 := (hb4.block m (Array.getElem?_eq_some_iff.1 hm3).1).trans hm3
    clear hP3 hF3 hb4 hm3 e0 e1 q5 q6
    have c1 := hP4.at_
    have f1 := hP4.frz 1
    have hP5 := hP4.setAt ((s.i : Int) + 1) (s.i + 1) (by omega) (by omega)
    have hF5 := hF4.trans (QFr.set hP4 1 (.int .i64 ((s.i : Int) + 1)))
    have hm5 := (blk_setCell_other w4 ⟨b, 1, none⟩ (.int .i64 ((s.i : Int) + 1)) m (by show m ≠ b; omega)).trans hm4
    clear hP4 hF4 hm4
    go_wp2_with fail
    generalize w4.setCell ⟨b, 1, none⟩ (.int .i64 ((s.i : Int) + 1)) = w5 at *
    clear c1 f1
    have hs := symbol_any b _ c l s.d (s.i + 1) s.e s.out [40] w5 hP5
    rw [hs2, show str [40] = (⟨#[40]⟩ : ByteArray) from rfl] at hs
    with_reducible refine hs.mono ?_
    clear hs
    rintro x w6 ⟨rfl, m6, rfl⟩
    have hb6 := below_drewN (Below.refl w5.heap.size w5) m6
    have hP6 := hP5.below hb6
    have hF6 := hF5.trans (Fr.of hb6 hP5.lt)
    have hm6 := (hb6.block m (Array.getElem?_eq_some_iff.1 hm5).1).trans hm5
    generalize w5.drewN m6 = w6 at *
    clear hP5 hF5 hb6 hm5
    have e1 : w6.cell? ⟨m, 1, none⟩ = some (.string (str t)) := by rw [cell_of_row _ _ _ _ _ _ hm6]; rfl
    have hTk := hP6.toks
    have hhere := hP6.here
    have hltW := hP6.lt
    obtain ⟨fv, hRw, hO⟩ := hP6.row
    have c2 : w6.cell? ⟨b, 2, none⟩ = some fv := hRw.cell (show 2 < 5 by decide)
    have f2 := hRw.frozen 2
    have hne2 : some b ≠ fv.ownBlock := fun e => (own_ne hO (Nat.lt_succ_self b)).elim (fun h => by rw [h] at e; cases e) (fun h => h e.symm)
    have hmA := ((Below.refl w6.heap.size w6).alloc (Nat.le_refl _) (.cells #[.int .i64 2, .string (str t), .int .u32 0] 42))
    have HB := Lib.hid (show (w6.alloc (.cells #[.int .i64 2, .string (str t), .int .u32 0] 42)).drew.heap[w6.heap.size]? = some (.cells #[.int .i64 2, .string (str t), .int .u32 0] 42) from heap_alloc_new w6 (.cells #[.int .i64 2, .string (str t), .int .u32 0] 42))
    have e1a := (hmA.cell (World.block_lt_of_cell? w6 _ e1)).trans e1
    have c2a := (hmA.cell (World.block_lt_of_cell? w6 _ c2)).trans c2
    clear hmA hP6
    go_wp2_with fail
    go_region_law ((refine step_append_lies _ (by rfl) _ _ _ (by rfl) (b + 1) 42 i0 _ 3 32 Tryz.underlying26 hi0 hz0 hz1 hz2 rfl (by omega) fv s.out.length _ (by rfl) ((hO.alloc _).drew) ⟨w6.heap.size, 0, none⟩ 1 1 [_, _, _] (by rfl) (by rfl) (World.news_of_block (cs := #[_, _, _]) (t := 42) (fr := (0, 0)) HB.out) (by simp [Value.oneCell']) (by omega) (by unfold maxLen; omega) (by omega) (by simp; omega) (w6.heap.size + 1) (by simp) ?_; intro gg cap wN hown3 hgrow hat hlt3; have hR3 := ((hRw.alloc _).drew).of_block (hgrow.block b (by simp; omega) hne2); have f33 := hR3.frozen 2; have c33 := hR3.cell (show 2 < 5 by decide)))
    all_goals
      have hB : Fr b b w6 wN := Fr.grow (((Below.refl _ w6).alloc (Nat.le_refl _) _).drew) hgrow hO hltW
      have hfin := QA.add (out := s.out) (o := ⟨2, t, 0⟩) hR3 hown3 (hTk.below hB.low (Nat.le_refl _)) hhere
      have hbf : Fr b b w6 (wN.setCell ⟨b, 2, none⟩ (.slice (some ⟨gg, 0, none⟩) (s.out.length + 1) cap)) := hB.trans (Fr.set' wN 2 _)
      have hFz := hF6.trans hbf
      clear hR3 hown3 hB hgrow hat hlt3 hTk hRw hO HB c2 f2 c33 f33 hi0 hz0 hz1 hz2 hbf hF6 hm6
      go_wp2_with fail
      refine bodyPost_ret (results_none rfl _ _ _) rfl ?_
      exact ⟨rfl, hfin, hFz⟩
set_option maxHeartbeats 8000000 in
set_option maxRecDepth 100000 in
theorem qprim_call (b : Nat) (A : Option Addr) (c : Nat) (l : List Tok.Tk) (s : Ex.St) (h0 : s.e = 0) (w : World) (hP : QS w b A c l s) (hl : l.length ≤ 1000000) (hi : s.i < l.length) (hsd : 0 ≤ s.d) (t : List UInt8) (htt : l[s.i].text = t) (h2 : l[s.i].kind = 1)
    (ht : t.length ≤ 3000) (hun : Ex.unL t = false) (hsy : Ex.symAt l s.i [40] = false) (hl1 : t ≠ [108, 111, 97, 100]) (hl2 : t ≠ [105, 110]) (hid : Ex.idB t = true) (hs2 : Ex.symAt l (s.i + 1) [40] = true) (E v : Ex.St) (hEE : Ex.enterS (Ex.fwdS s) = E) (hvd : -1000 ≤ v.d) (hvd2 : v.d ≤ 1000) (hvo : v.out.length ≤ 3000000) (k : Nat)
    (hX : E.e = 0 → ∀ w1 : World, QS w1 b A c l E → Calls Tryz.prog 85 #[.pointer (some ⟨b, 0, none⟩)] w1 fun x w' => x = .returned (.int .u32 (k : Nat)) ∧ QS w' b A c l v ∧ Fr b b w1 w')
    (hY : E.e ≠ 0 → v = E ∧ k = 0) :
    Calls Tryz.prog 55 #[.pointer (some ⟨b, 0, none⟩)] w (GotS w b A c l (Ex.out1 (Ex.decS (Ex.expectS l [41] v)) ⟨3, t, (k : Int)⟩)) := by
  obtain ⟨i0, hi0, hz0, hz1, hz2⟩ := info_parts infoO
  have ce := hP.err
  have c0 := hP.tok
  have c1 := hP.at_
  have q0 : (s.e != 0) = false := by rw [h0]; rfl
  have t1 : decide ((l.length : Int) ≤ (s.i : Int)) = false := by simp; omega
  have t2 : decide (l.length ≤ s.i) = false := by simp; omega
  have hlt1 : (s.i : Int) < (l.length : Int) := by omega
  have hlt0 : 0 ≤ (s.i : Int) := by omega
  have hlt := hP.lt
  obtain ⟨g, o, rfl, hg, hk0, hk1⟩ := hP.toks s.i hi
  rw [h2] at hk0
  rw [htt] at hk1
  clear htt h2
  go_enter Tryz.func55, Tryz.ntmps55
  go_wp2_with fail
  go_quiet (fail)
  have hb := below_drewN (Below.refl w.heap.size w) nq
  have hP1 := hP.below hb
  have hF1 : Fr b b w (w.drewN nq) := Fr.of hb hlt
  have hk0q := (hb.cell (World.block_lt_of_cell? w _ hk0)).trans hk0
  have hk1q := (hb.cell (World.block_lt_of_cell? w _ hk1)).trans hk1
  generalize w.drewN nq = w1 at *
  clear hP ce c0 c1 hk0 hk1 hb
  have c0 := hP1.tok
  have c1 := hP1.at_
  have a0 := (Below.refl w1.heap.size w1).alloc (Nat.le_refl _) (.cells #[.int .i64 0, .string ⟨#[]⟩] 45)
  have d0 := (a0.cell (World.block_lt_of_cell? w1 _ c0)).trans c0
  have d1 := (a0.cell (World.block_lt_of_cell? w1 _ c1)).trans c1
  have d2 := (a0.cell (World.block_lt_of_cell? w1 _ hk0q)).trans hk0q
  have d3 := (a0.cell (World.block_lt_of_cell? w1 _ hk1q)).trans hk1q
  have hn := heap_alloc_new w1 (.cells #[.int .i64 0, .string ⟨#[]⟩] 45)
  go_wp2_with fail
  go_region
  all_goals
    have a1 : Below w1.heap.size w1 (w1.alloc (.cells #[.int .i64 1, .string (str t)] 45)).drew := ((Below.refl w1.heap.size w1).alloc (Nat.le_refl _) _).drew
    have hP2 := hP1.below a1
    have hF2 := hF1.trans (Fr.of a1 hP1.lt)
    have hm := heap_alloc_new w1 (.cells #[.int .i64 1, .string (str t)] 45)
    have hm2 : (w1.alloc (.cells #[.int .i64 1, .string (str t)] 45)).drew.heap[w1.heap.size]? = some (.cells #[.int .i64 1, .string (str t)] 45 (0, 0)) := hm
    have hbm : b < w1.heap.size := hP1.lt
    generalize (w1.alloc (.cells #[.int .i64 1, .string (str t)] 45)).drew = w2 at *
    generalize w1.heap.size = m at *
    clear d0 d1 d2 d3 hn c0 c1 hk0q hk1q hP1 hF1 hm a0 a1
    have e0 : w2.cell? ⟨m, 0, none⟩ = some (.int .i64 1) := by rw [cell_of_row _ _ _ _ _ _ hm2]; rfl
    have e1 : w2.cell? ⟨m, 1, none⟩ = some (.string (str t)) := by rw [cell_of_row _ _ _ _ _ _ hm2]; rfl
    have hU := fun w => unQ3 t w
    rw [hun] at hU
    have hs := symbol_any b _ c l s.d s.i s.e s.out [40] w2 hP2
    rw [hsy, show str [40] = (⟨#[40]⟩ : ByteArray) from rfl] at hs
    go_wp2_with (first | (go_at_call 40; (with_reducible refine (hU _).mono ?_); rintro e w' ⟨rfl, rfl⟩))
    with_reducible refine hs.mono ?_
    clear hs
    rintro x w3 ⟨rfl, m3, rfl⟩
    have hb3 := below_drewN (Below.refl w2.heap.size w2) m3
    have hP3 := hP2.below hb3
    have hF3 := hF2.trans (Fr.of hb3 hP2.lt)
    have hm3 := (hb3.block m (Array.getElem?_eq_some_iff.1 hm2).1).trans hm2
    generalize w2.drewN m3 = w3 at *
    clear hP2 hF2 hb3 hm2 e0 e1
    have e0 : w3.cell? ⟨m, 0, none⟩ = some (.int .i64 1) := by rw [cell_of_row _ _ _ _ _ _ hm3]; rfl
    have e1 : w3.cell? ⟨m, 1, none⟩ = some (.string (str t)) := by rw [cell_of_row _ _ _ _ _ _ hm3]; rfl
    have q5 := str_ne hl1
    have q6 := str_ne hl2
    have hN := nameQ3 t (by omega) w3
    rw [hid] at hN
    go_wp2_with fail
    with_reducible refine hN.mono ?_
    clear hN
    rintro x w4 ⟨rfl, hb4⟩
    have hP4 := hP3.below hb4
    have hF4 := hF3.trans (Fr.of hb4 hP3.lt)
    have hm4 := (hb4.block m (Array.getElem?_eq_some_iff.1 hm3).1).trans hm3
    clear hP3 hF3 hb4 hm3 e0 e1 q5 q6
    have c1 := hP4.at_
    have f1 := hP4.frz 1
    have hP5 := hP4.setAt ((s.i : Int) + 1) (s.i + 1) (by omega) (by omega)
    have hF5 := hF4.trans (QFr.set hP4 1 (.int .i64 ((s.i : Int) + 1)))
    have hm5 := (blk_setCell_other w4 ⟨b, 1, none⟩ (.int .i64 ((s.i : Int) + 1)) m (by show m ≠ b; omega)).trans hm4
    clear hP4 hF4 hm4
    go_wp2_with fail
    generalize w4.setCell ⟨b, 1, none⟩ (.int .i64 ((s.i : Int) + 1)) = w5 at *
    clear c1 f1
    have hs := symbol_any b _ c l s.d (s.i + 1) s.e s.out [40] w5 hP5
    rw [hs2, show str [40] = (⟨#[40]⟩ : ByteArray) from rfl] at hs
    with_reducible refine hs.mono ?_
    clear hs
    rintro x w6 ⟨rfl, m6, rfl⟩
    have hb6 := below_drewN (Below.refl w5.heap.size w5) m6
    have hP6 := hP5.below hb6
    have hF6 := hF5.trans (Fr.of hb6 hP5.lt)
    have hm6 := (hb6.block m (Array.getElem?_eq_some_iff.1 hm5).1).trans hm5
    generalize w5.drewN m6 = w6 at *
    clear hP5 hF5 hb6 hm5
    have hE := qenter_any b _ c l (Ex.fwdS s) (Ex.symAt_lt hs2) hl (by show -1000 ≤ s.d; omega) w6 hP6
    rw [hEE] at hE
    clear hP6 hEE
    go_wp2_with fail
    with_reducible refine hE.mono ?_
    clear hE
    rintro x w7 ⟨rfl, hP7, hF7⟩
    have hF8 := hF6.trans hF7
    have hm7 := hF7.kept m _ _ _ (by omega) (by omega) (by decide) (by decide) hm6
    clear hF6 hF7 hm6
    have ce := hP7.err
    by_cases hEe : E.e = 0
    · have q3 : (E.e == 0) = true := by rw [hEe]; rfl
      have hcall := hX hEe w7 hP7
      clear hX hY hP7 hEe
      go_wp2_with fail
      with_reducible refine hcall.mono ?_
      clear hcall
      rintro x w8 ⟨rfl, hP8, hF12⟩
      have hF13 := hF8.trans hF12
      have hm8 := hF12.kept m _ _ _ (by omega) (by omega) (by decide) (by decide) hm7
      clear hF8 hF12 hm7 ce q3
      have hE := qexpect_any b _ c l [41] v hl w8 hP8
      rw [show str [41] = (⟨#[41]⟩ : ByteArray) from rfl] at hE
      have hvx := Ex.expectS_d l [41] v
      have hvy := Ex.expectS_out l [41] v
      generalize Ex.expectS l [41] v = v2 at *
      have hd1 : -1000 ≤ v2.d := by rw [hvx]; exact hvd
      have hd2 : v2.d ≤ 1000 := by rw [hvx]; exact hvd2
      have hd3 : v2.out.length ≤ 3000000 := by rw [hvy]; exact hvo
      clear hP8 hvx hvd hvd2 hvy hvo
      go_wp2_with fail
      with_reducible refine hE.mono ?_
      clear hE
      rintro x w9 ⟨rfl, hP9, hF9⟩
      have hF10 := hF13.trans hF9
      have hm9 := hF9.kept m _ _ _ (by omega) (by omega) (by decide) (by decide) hm8
      have c3 := hP9.dep
      have f3 := hP9.frz 3
      have hP10 := hP9.setDep (v2.d - 1)
      have hF11 := hF10.trans (QFr.set hP9 3 (.int .i64 (v2.d - 1)))
      have hm10 := (blk_setCell_other w9 ⟨b, 3, none⟩ (.int .i64 (v2.d - 1)) m (by show m ≠ b; omega)).trans hm9
      clear hP9 hF13 hF9 hF10 hm9 hm8
      go_upto_region 41 with (fail)
      generalize w9.setCell ⟨b, 3, none⟩ (.int .i64 (v2.d - 1)) = w10 at *
      clear c3 f3
      have e1 : w10.cell? ⟨m, 1, none⟩ = some (.string (str t)) := by rw [cell_of_row _ _ _ _ _ _ hm10]; rfl
      have hTk := hP10.toks
      have hhere := hP10.here
      have hltW := hP10.lt
      obtain ⟨fv, hRw, hO⟩ := hP10.row
      have c2 : w10.cell? ⟨b, 2, none⟩ = some fv := hRw.cell (show 2 < 5 by decide)
      have f2 := hRw.frozen 2
      have hne2 : some b ≠ fv.ownBlock := fun e => (own_ne hO (Nat.lt_succ_self b)).elim (fun h => by rw [h] at e; cases e) (fun h => h e.symm)
      have hmA := ((Below.refl w10.heap.size w10).alloc (Nat.le_refl _) (.cells #[.int .i64 3, .string (str t), .int .u32 (k : Int)] 42))
      have HB := Lib.hid (show (w10.alloc (.cells #[.int .i64 3, .string (str t), .int .u32 (k : Int)] 42)).drew.heap[w10.heap.size]? = some (.cells #[.int .i64 3, .string (str t), .int .u32 (k : Int)] 42) from heap_alloc_new w10 (.cells #[.int .i64 3, .string (str t), .int .u32 (k : Int)] 42))
      have e1a := (hmA.cell (World.block_lt_of_cell? w10 _ e1)).trans e1
      have c2a := (hmA.cell (World.block_lt_of_cell? w10 _ c2)).trans c2
      clear hmA hP10
      go_wp2_with fail
      go_region_law ((refine step_append_lies _ (by rfl) _ _ _ (by rfl) (b + 1) 42 i0 _ 3 32 Tryz.underlying26 hi0 hz0 hz1 hz2 rfl (by omega) fv v2.out.length _ (by rfl) ((hO.alloc _).drew) ⟨w10.heap.size, 0, none⟩ 1 1 [_, _, _] (by rfl) (by rfl) (World.news_of_block (cs := #[_, _, _]) (t := 42) (fr := (0, 0)) HB.out) (by simp [Value.oneCell']) (by omega) (by unfold maxLen; omega) (by omega) (by simp; omega) (w10.heap.size + 1) (by simp) ?_; intro gg cap wN hown3 hgrow hat hlt3; have hR3 := ((hRw.alloc _).drew).of_block (hgrow.block b (by simp; omega) hne2); have f33 := hR3.frozen 2; have c33 := hR3.cell (show 2 < 5 by decide)))
      all_goals
        have hB : Fr b b w10 wN := Fr.grow (((Below.refl _ w10).alloc (Nat.le_refl _) _).drew) hgrow hO hltW
        have hfin := QA.add (out := v2.out) (o := ⟨3, t, (k : Int)⟩) hR3 hown3 (hTk.below hB.low (Nat.le_refl _)) hhere
        have hbf : Fr b b w10 (wN.setCell ⟨b, 2, none⟩ (.slice (some ⟨gg, 0, none⟩) (v2.out.length + 1) cap)) := hB.trans (Fr.set' wN 2 _)
        have hFz := hF11.trans hbf
        clear hR3 hown3 hB hgrow hat hlt3 hTk hRw hO HB c2 f2 c33 f33 hi0 hz0 hz1 hz2 hbf hF11 hm10
        go_wp2_with fail
        refine bodyPost_ret (results_none rfl _ _ _) rfl ?_
        exact ⟨rfl, hfin, hFz⟩
    · obtain ⟨rfl, rfl⟩ := hY hEe
      have q3 : (v.e == 0) = false := by rw [beq_eq_false_iff_ne]; exact hEe
      clear hX hY hEe
      have hE := qexpect_any b _ c l [41] v hl w7 hP7
      rw [show str [41] = (⟨#[41]⟩ : ByteArray) from rfl] at hE
      have hvx := Ex.expectS_d l [41] v
      have hvy := Ex.expectS_out l [41] v
      generalize Ex.expectS l [41] v = v2 at *
      have hd1 : -1000 ≤ v2.d := by rw [hvx]; exact hvd
      have hd2 : v2.d ≤ 1000 := by rw [hvx]; exact hvd2
      have hd3 : v2.out.length ≤ 3000000 := by rw [hvy]; exact hvo
      clear hP7 hvx hvd hvd2 hvy hvo
      go_wp2_with fail
      with_reducible refine hE.mono ?_
      clear hE
      rintro x w9 ⟨rfl, hP9, hF9⟩
      have hF10 := hF8.trans hF9
      have hm9 := hF9.kept m _ _ _ (by omega) (by omega) (by decide) (by decide) hm7
      have c3 := hP9.dep
      have f3 := hP9.frz 3
      have hP10 := hP9.setDep (v2.d - 1)
      have hF11 := hF10.trans (QFr.set hP9 3 (.int .i64 (v2.d - 1)))
      have hm10 := (blk_setCell_other w9 ⟨b, 3, none⟩ (.int .i64 (v2.d - 1)) m (by show m ≠ b; omega)).trans hm9
      clear hP9 hF8 hF9 hF10 hm9 hm7
      go_upto_region 41 with (fail)
      generalize w9.setCell ⟨b, 3, none⟩ (.int .i64 (v2.d - 1)) = w10 at *
      clear c3 f3
      have e1 : w10.cell? ⟨m, 1, none⟩ = some (.string (str t)) := by rw [cell_of_row _ _ _ _ _ _ hm10]; rfl
      have hTk := hP10.toks
      have hhere := hP10.here
      have hltW := hP10.lt
      obtain ⟨fv, hRw, hO⟩ := hP10.row
      have c2 : w10.cell? ⟨b, 2, none⟩ = some fv := hRw.cell (show 2 < 5 by decide)
      have f2 := hRw.frozen 2
      have hne2 : some b ≠ fv.ownBlock := fun e => (own_ne hO (Nat.lt_succ_self b)).elim (fun h => by rw [h] at e; cases e) (fun h => h e.symm)
      have hmA := ((Below.refl w10.heap.size w10).alloc (Nat.le_refl _) (.cells #[.int .i64 3, .string (str t), .int .u32 0] 42))
      have HB := Lib.hid (show (w10.alloc (.cells #[.int .i64 3, .string (str t), .int .u32 0] 42)).drew.heap[w10.heap.size]? = some (.cells #[.int .i64 3, .string (str t), .int .u32 0] 42) from heap_alloc_new w10 (.cells #[.int .i64 3, .string (str t), .int .u32 0] 42))
      have e1a := (hmA.cell (World.block_lt_of_cell? w10 _ e1)).trans e1
      have c2a := (hmA.cell (World.block_lt_of_cell? w10 _ c2)).trans c2
      clear hmA hP10
      go_wp2_with fail
      go_region_law ((refine step_append_lies _ (by rfl) _ _ _ (by rfl) (b + 1) 42 i0 _ 3 32 Tryz.underlying26 hi0 hz0 hz1 hz2 rfl (by omega) fv v2.out.length _ (by rfl) ((hO.alloc _).drew) ⟨w10.heap.size, 0, none⟩ 1 1 [_, _, _] (by rfl) (by rfl) (World.news_of_block (cs := #[_, _, _]) (t := 42) (fr := (0, 0)) HB.out) (by simp [Value.oneCell']) (by omega) (by unfold maxLen; omega) (by omega) (by simp; omega) (w10.heap.size + 1) (by simp) ?_; intro gg cap wN hown3 hgrow hat hlt3; have hR3 := ((hRw.alloc _).drew).of_block (hgrow.block b (by simp; omega) hne2); have f33 := hR3.frozen 2; have c33 := hR3.cell (show 2 < 5 by decide)))
      all_goals
        have hB : Fr b b w10 wN := Fr.grow (((Below.refl _ w10).alloc (Nat.le_refl _) _).drew) hgrow hO hltW
        have hfin := QA.add (out := v2.out) (o := ⟨3, t, 0⟩) hR3 hown3 (hTk.below hB.low (Nat.le_refl _)) hhere
        have hbf : Fr b b w10 (wN.setCell ⟨b, 2, none⟩ (.slice (some ⟨gg, 0, none⟩) (v2.out.length + 1) cap)) := hB.trans (Fr.set' wN 2 _)
        have hFz := hF11.trans hbf
        clear hR3 hown3 hB hgrow hat hlt3 hTk hRw hO HB c2 f2 c33 f33 hi0 hz0 hz1 hz2 hbf hF11 hm10
        go_wp2_with fail
        refine bodyPost_ret (results_none rfl _ _ _) rfl ?_
        exact ⟨rfl, hfin, hFz⟩
set_option maxHeartbeats 8000000 in
set_option maxRecDepth 100000 in
theorem qprim_load (b : Nat) (A : Option Addr) (c : Nat) (l : List Tok.Tk) (s : Ex.St) (h0 : s.e = 0) (w : World) (hP : QS w b A c l s) (hl : l.length ≤ 1000000) (hi : s.i < l.length) (hsd : 0 ≤ s.d) (t : List UInt8) (htt : l[s.i].text = t) (h2 : l[s.i].kind = 1)
    (_ht : t.length ≤ 3000) (hun : Ex.unL t = false) (hsy : Ex.symAt l s.i [40] = false) (hl1 : t = [108, 111, 97, 100]) (hs2 : Ex.symAt l (s.i + 1) [40] = true) (E : Ex.St) (hEE : Ex.enterS (Ex.fwdS s) = E) (v : Ex.St) (hvd : -1000 ≤ v.d) (hvd2 : v.d ≤ 1000) (hvo : v.out.length ≤ 3000000)
    (hX : ∀ w1 : World, QS w1 b A c l E → Calls Tryz.prog 28 #[.pointer (some ⟨b, 0, none⟩), .int .i64 1] w1 (GotS w1 b A c l v)) :
    Calls Tryz.prog 55 #[.pointer (some ⟨b, 0, none⟩)] w (GotS w b A c l (Ex.decS (Ex.expectS l [41] (Ex.out1 v ⟨4, [], 0⟩)))) := by
  obtain ⟨i0, hi0, hz0, hz1, hz2⟩ := info_parts infoO
  have ce := hP.err
  have c0 := hP.tok
  have c1 := hP.at_
  have q0 : (s.e != 0) = false := by rw [h0]; rfl
  have t1 : decide ((l.length : Int) ≤ (s.i : Int)) = false := by simp; omega
  have t2 : decide (l.length ≤ s.i) = false := by simp; omega
  have hlt1 : (s.i : Int) < (l.length : Int) := by omega
  have hlt0 : 0 ≤ (s.i : Int) := by omega
  have hlt := hP.lt
  have HL1 := Lib.hid hl1
  clear hl1
  obtain ⟨g, o, rfl, hg, hk0, hk1⟩ := hP.toks s.i hi
  rw [h2] at hk0
  rw [htt] at hk1
  clear htt h2
  go_enter Tryz.func55, Tryz.ntmps55
  go_wp2_with fail
  go_quiet (fail)
  have hb := below_drewN (Below.refl w.heap.size w) nq
  have hP1 := hP.below hb
  have hF1 : Fr b b w (w.drewN nq) := Fr.of hb hlt
  have hk0q := (hb.cell (World.block_lt_of_cell? w _ hk0)).trans hk0
  have hk1q := (hb.cell (World.block_lt_of_cell? w _ hk1)).trans hk1
  generalize w.drewN nq = w1 at *
  clear hP ce c0 c1 hk0 hk1 hb
  have c0 := hP1.tok
  have c1 := hP1.at_
  have a0 := (Below.refl w1.heap.size w1).alloc (Nat.le_refl _) (.cells #[.int .i64 0, .string ⟨#[]⟩] 45)
  have d0 := (a0.cell (World.block_lt_of_cell? w1 _ c0)).trans c0
  have d1 := (a0.cell (World.block_lt_of_cell? w1 _ c1)).trans c1
  have d2 := (a0.cell (World.block_lt_of_cell? w1 _ hk0q)).trans hk0q
  have d3 := (a0.cell (World.block_lt_of_cell? w1 _ hk1q)).trans hk1q
  have hn := heap_alloc_new w1 (.cells #[.int .i64 0, .string ⟨#[]⟩] 45)
  go_wp2_with fail
  go_region
  all_goals
    have a1 : Below w1.heap.size w1 (w1.alloc (.cells #[.int .i64 1, .string (str t)] 45)).drew := ((Below.refl w1.heap.size w1).alloc (Nat.le_refl _) _).drew
    have hP2 := hP1.below a1
    have hF2 := hF1.trans (Fr.of a1 hP1.lt)
    have hm := heap_alloc_new w1 (.cells #[.int .i64 1, .string (str t)] 45)
    have hm2 : (w1.alloc (.cells #[.int .i64 1, .string (str t)] 45)).drew.heap[w1.heap.size]? = some (.cells #[.int .i64 1, .string (str t)] 45 (0, 0)) := hm
    have hbm : b < w1.heap.size := hP1.lt
    generalize (w1.alloc (.cells #[.int .i64 1, .string (str t)] 45)).drew = w2 at *
    generalize w1.heap.size = m at *
    clear d0 d1 d2 d3 hn c0 c1 hk0q hk1q hP1 hF1 hm a0 a1
    have e0 : w2.cell? ⟨m, 0, none⟩ = some (.int .i64 1) := by rw [cell_of_row _ _ _ _ _ _ hm2]; rfl
    have e1 : w2.cell? ⟨m, 1, none⟩ = some (.string (str t)) := by rw [cell_of_row _ _ _ _ _ _ hm2]; rfl
    have hU := fun w => unQ3 t w
    rw [hun] at hU
    have hs := symbol_any b _ c l s.d s.i s.e s.out [40] w2 hP2
    rw [hsy, show str [40] = (⟨#[40]⟩ : ByteArray) from rfl] at hs
    go_wp2_with (first | (go_at_call 40; (with_reducible refine (hU _).mono ?_); rintro e w' ⟨rfl, rfl⟩))
    with_reducible refine hs.mono ?_
    clear hs
    rintro x w3 ⟨rfl, m3, rfl⟩
    have hb3 := below_drewN (Below.refl w2.heap.size w2) m3
    have hP3 := hP2.below hb3
    have hF3 := hF2.trans (Fr.of hb3 hP2.lt)
    have hm3 := (hb3.block m (Array.getElem?_eq_some_iff.1 hm2).1).trans hm2
    generalize w2.drewN m3 = w3 at *
    clear hP2 hF2 hb3 hm2 e0 e1
    have e0 : w3.cell? ⟨m, 0, none⟩ = some (.int .i64 1) := by rw [cell_of_row _ _ _ _ _ _ hm3]; rfl
    have e1 : w3.cell? ⟨m, 1, none⟩ = some (.string (str t)) := by rw [cell_of_row _ _ _ _ _ _ hm3]; rfl
    have q5 := str_eq HL1.out
    have hP4 := hP3
    have hF4 := hF3
    have hm4 := hm3
    generalize w3 = w4 at *
    clear hP3 hF3 hm3
    have c1 := hP4.at_
    have f1 := hP4.frz 1
    have hP5 := hP4.setAt ((s.i : Int) + 1) (s.i + 1) (by omega) (by omega)
    have hF5 := hF4.trans (QFr.set hP4 1 (.int .i64 ((s.i : Int) + 1)))
    have hm5 := (blk_setCell_other w4 ⟨b, 1, none⟩ (.int .i64 ((s.i : Int) + 1)) m (by show m ≠ b; omega)).trans hm4
    clear hP4 hF4 hm4
    go_wp2_with fail
    generalize w4.setCell ⟨b, 1, none⟩ (.int .i64 ((s.i : Int) + 1)) = w5 at *
    clear c1 f1
    have hs := symbol_any b _ c l s.d (s.i + 1) s.e s.out [40] w5 hP5
    rw [hs2, show str [40] = (⟨#[40]⟩ : ByteArray) from rfl] at hs
    with_reducible refine hs.mono ?_
    clear hs
    rintro x w6 ⟨rfl, m6, rfl⟩
    have hb6 := below_drewN (Below.refl w5.heap.size w5) m6
    have hP6 := hP5.below hb6
    have hF6 := hF5.trans (Fr.of hb6 hP5.lt)
    have hm6 := (hb6.block m (Array.getElem?_eq_some_iff.1 hm5).1).trans hm5
    generalize w5.drewN m6 = w6 at *
    clear hP5 hF5 hb6 hm5
    have hE := qenter_any b _ c l (Ex.fwdS s) (Ex.symAt_lt hs2) hl (by show -1000 ≤ s.d; omega) w6 hP6
    rw [hEE] at hE
    clear hP6 hEE
    go_wp2_with fail
    with_reducible refine hE.mono ?_
    clear hE
    rintro x w7 ⟨rfl, hP7, hF7⟩
    have hF8 := hF6.trans hF7
    have hm7 := hF7.kept m _ _ _ (by omega) (by omega) (by decide) (by decide) hm6
    have e1 : w7.cell? ⟨m, 1, none⟩ = some (.string (str t)) := by rw [cell_of_row _ _ _ _ _ _ hm7]; rfl
    clear hF6 hF7 hm6 hm7
    have hcall := hX w7 hP7
    clear hX hP7
    go_wp2_with fail
    with_reducible refine hcall.mono ?_
    clear hcall
    rintro x w8 ⟨rfl, hP8, hF12⟩
    have hF13 := hF8.trans hF12
    clear hF8 hF12 e1 q5
    have hTk := hP8.toks
    have hhere := hP8.here
    obtain ⟨fv, hRw, hO⟩ := hP8.row
    have c2 : w8.cell? ⟨b, 2, none⟩ = some fv := hRw.cell (show 2 < 5 by decide)
    have f2 := hRw.frozen 2
    have hne2 : some b ≠ fv.ownBlock := fun e => (own_ne hO (Nat.lt_succ_self b)).elim (fun h => by rw [h] at e; cases e) (fun h => h e.symm)
    have HB := Lib.hid (heap_alloc_new w8 (.cells #[.int .i64 4, .string ⟨#[]⟩, .int .u32 0] 42))
    have hltW := hP8.lt
    clear hP8
    go_wp2_with (at_builtin; refine wpList_append_lies _ (by rfl) _ _ _ (by rfl) (b + 1) 42 i0 _ 3 32 Tryz.underlying26 hi0 hz0 hz1 hz2 rfl (by omega) fv v.out.length _ (by rfl) (hO.alloc _) ⟨w8.heap.size, 0, none⟩ 1 1 [_, _, _] (by rfl) (by rfl) (World.news_of_block (cs := #[_, _, _]) (t := 42) (fr := (0, 0)) HB.out) (by simp [Value.oneCell']) (by omega) (by unfold maxLen; omega) (by omega) (by simp; omega) (w8.heap.size + 1) (by simp) ?_; intro gg cap wN hown3 hgrow hat hlt3; have hR3 := (hRw.alloc _).of_block (hgrow.block b (by simp; omega) hne2); have f33 := hR3.frozen 2; have c33 := hR3.cell (show 2 < 5 by decide))
    have hB : Fr b b w8 wN := Fr.grow ((Below.refl _ w8).alloc (Nat.le_refl _) _) hgrow hO hltW
    have hfin : QS (wN.setCell ⟨b, 2, none⟩ (.slice (some ⟨gg, 0, none⟩) (v.out.length + 1) cap)) b _ c l (Ex.out1 v ⟨4, [], 0⟩) := QA.add (out := v.out) (o := ⟨4, [], 0⟩) hR3 hown3 (hTk.below hB.low (Nat.le_refl _)) hhere
    have hbf : Fr b b w8 (wN.setCell ⟨b, 2, none⟩ (.slice (some ⟨gg, 0, none⟩) (v.out.length + 1) cap)) := hB.trans (Fr.set' wN 2 _)
    have hF20 := hF13.trans hbf
    generalize wN.setCell ⟨b, 2, none⟩ (.slice (some ⟨gg, 0, none⟩) (v.out.length + 1) cap) = w20 at *
    clear hR3 hown3 hB hgrow hat hlt3 hTk hRw hO HB c2 f2 c33 f33 hi0 hz0 hz1 hz2 hbf hF13
    have hE := qexpect_any b _ c l [41] (Ex.out1 v ⟨4, [], 0⟩) hl w20 hfin
    rw [show str [41] = (⟨#[41]⟩ : ByteArray) from rfl] at hE
    have hvx := Ex.expectS_d l [41] (Ex.out1 v ⟨4, [], 0⟩)
    have hvy : (Ex.out1 v ⟨4, [], 0⟩).d = v.d := rfl
    generalize Ex.expectS l [41] (Ex.out1 v ⟨4, [], 0⟩) = v2 at *
    have hd1 : -1000 ≤ v2.d := by rw [hvx, hvy]; exact hvd
    have hd2 : v2.d ≤ 1000 := by rw [hvx, hvy]; exact hvd2
    clear hfin hvx hvy hvd hvd2
    with_reducible refine hE.mono ?_
    clear hE
    rintro x w21 ⟨rfl, hP21, hF21⟩
    have hF22 := hF20.trans hF21
    have c3 := hP21.dep
    have f3 := hP21.frz 3
    have hP23 := hP21.setDep (v2.d - 1)
    have hF23 := hF22.trans (QFr.set hP21 3 (.int .i64 (v2.d - 1)))
    clear hP21 hF20 hF21 hF22
    go_wp2_with fail
    refine bodyPost_ret (results_none rfl _ _ _) rfl ?_
    exact ⟨rfl, hP23, hF23⟩
set_option maxHeartbeats 8000000 in
set_option maxRecDepth 100000 in
theorem qprim_in (b : Nat) (A : Option Addr) (c : Nat) (l : List Tok.Tk) (s : Ex.St) (h0 : s.e = 0) (w : World) (hP : QS w b A c l s) (hl : l.length ≤ 1000000) (hi : s.i < l.length) (hsd : 0 ≤ s.d) (t : List UInt8) (htt : l[s.i].text = t) (h2 : l[s.i].kind = 1)
    (_ht : t.length ≤ 3000) (hun : Ex.unL t = false) (hsy : Ex.symAt l s.i [40] = false) (hl1 : t = [105, 110]) (hs2 : Ex.symAt l (s.i + 1) [40] = true) (v : Ex.St) (hEE : Ex.enterS (Ex.fwdS s) = v) (hvd : -1000 ≤ v.d) (hvd2 : v.d ≤ 1000) (hvo : v.out.length ≤ 3000000) :
    Calls Tryz.prog 55 #[.pointer (some ⟨b, 0, none⟩)] w (GotS w b A c l (Ex.decS (Ex.expectS l [41] (Ex.out1 v ⟨5, [], 0⟩)))) := by
  obtain ⟨i0, hi0, hz0, hz1, hz2⟩ := info_parts infoO
  have ce := hP.err
  have c0 := hP.tok
  have c1 := hP.at_
  have q0 : (s.e != 0) = false := by rw [h0]; rfl
  have t1 : decide ((l.length : Int) ≤ (s.i : Int)) = false := by simp; omega
  have t2 : decide (l.length ≤ s.i) = false := by simp; omega
  have hlt1 : (s.i : Int) < (l.length : Int) := by omega
  have hlt0 : 0 ≤ (s.i : Int) := by omega
  have hlt := hP.lt
  have HL1 := Lib.hid hl1
  clear hl1
  obtain ⟨g, o, rfl, hg, hk0, hk1⟩ := hP.toks s.i hi
  rw [h2] at hk0
  rw [htt] at hk1
  clear htt h2
  go_enter Tryz.func55, Tryz.ntmps55
  go_wp2_with fail
  go_quiet (fail)
  have hb := below_drewN (Below.refl w.heap.size w) nq
  have hP1 := hP.below hb
  have hF1 : Fr b b w (w.drewN nq) := Fr.of hb hlt
  have hk0q := (hb.cell (World.block_lt_of_cell? w _ hk0)).trans hk0
  have hk1q := (hb.cell (World.block_lt_of_cell? w _ hk1)).trans hk1
  generalize w.drewN nq = w1 at *
  clear hP ce c0 c1 hk0 hk1 hb
  have c0 := hP1.tok
  have c1 := hP1.at_
  have a0 := (Below.refl w1.heap.size w1).alloc (Nat.le_refl _) (.cells #[.int .i64 0, .string ⟨#[]⟩] 45)
  have d0 := (a0.cell (World.block_lt_of_cell? w1 _ c0)).trans c0
  have d1 := (a0.cell (World.block_lt_of_cell? w1 _ c1)).trans c1
  have d2 := (a0.cell (World.block_lt_of_cell? w1 _ hk0q)).trans hk0q
  have d3 := (a0.cell (World.block_lt_of_cell? w1 _ hk1q)).trans hk1q
  have hn := heap_alloc_new w1 (.cells #[.int .i64 0, .string ⟨#[]⟩] 45)
  go_wp2_with fail
  go_region
  all_goals
    have a1 : Below w1.heap.size w1 (w1.alloc (.cells #[.int .i64 1, .string (str t)] 45)).drew := ((Below.refl w1.heap.size w1).alloc (Nat.le_refl _) _).drew
    have hP2 := hP1.below a1
    have hF2 := hF1.trans (Fr.of a1 hP1.lt)
    have hm := heap_alloc_new w1 (.cells #[.int .i64 1, .string (str t)] 45)
    have hm2 : (w1.alloc (.cells #[.int .i64 1, .string (str t)] 45)).drew.heap[w1.heap.size]? = some (.cells #[.int .i64 1, .string (str t)] 45 (0, 0)) := hm
    have hbm : b < w1.heap.size := hP1.lt
    generalize (w1.alloc (.cells #[.int .i64 1, .string (str t)] 45)).drew = w2 at *
    generalize w1.heap.size = m at *
    clear d0 d1 d2 d3 hn c0 c1 hk0q hk1q hP1 hF1 hm a0 a1
    have e0 : w2.cell? ⟨m, 0, none⟩ = some (.int .i64 1) := by rw [cell_of_row _ _ _ _ _ _ hm2]; rfl
    have e1 : w2.cell? ⟨m, 1, none⟩ = some (.string (str t)) := by rw [cell_of_row _ _ _ _ _ _ hm2]; rfl
    have hU := fun w => unQ3 t w
    rw [hun] at hU
    have hs := symbol_any b _ c l s.d s.i s.e s.out [40] w2 hP2
    rw [hsy, show str [40] = (⟨#[40]⟩ : ByteArray) from rfl] at hs
    go_wp2_with (first | (go_at_call 40; (with_reducible refine (hU _).mono ?_); rintro e w' ⟨rfl, rfl⟩))
    with_reducible refine hs.mono ?_
    clear hs
    rintro x w3 ⟨rfl, m3, rfl⟩
    have hb3 := below_drewN (Below.refl w2.heap.size w2) m3
    have hP3 := hP2.below hb3
    have hF3 := hF2.trans (Fr.of hb3 hP2.lt)
    have hm3 := (hb3.block m (Array.getElem?_eq_some_iff.1 hm2).1).trans hm2
    generalize w2.drewN m3 = w3 at *
    clear hP2 hF2 hb3 hm2 e0 e1
    have e0 : w3.cell? ⟨m, 0, none⟩ = some (.int .i64 1) := by rw [cell_of_row _ _ _ _ _ _ hm3]; rfl
    have e1 : w3.cell? ⟨m, 1, none⟩ = some (.string (str t)) := by rw [cell_of_row _ _ _ _ _ _ hm3]; rfl
    have q6 := str_eq HL1.out
    have q5 := str_ne (u := [108, 111, 97, 100]) (by rw [HL1.out]; decide : t ≠ [108, 111, 97, 100])
    have hP4 := hP3
    have hF4 := hF3
    have hm4 := hm3
    generalize w3 = w4 at *
    clear hP3 hF3 hm3
    have c1 := hP4.at_
    have f1 := hP4.frz 1
    have hP5 := hP4.setAt ((s.i : Int) + 1) (s.i + 1) (by omega) (by omega)
    have hF5 := hF4.trans (QFr.set hP4 1 (.int .i64 ((s.i : Int) + 1)))
    have hm5 := (blk_setCell_other w4 ⟨b, 1, none⟩ (.int .i64 ((s.i : Int) + 1)) m (by show m ≠ b; omega)).trans hm4
    clear hP4 hF4 hm4
    go_wp2_with fail
    generalize w4.setCell ⟨b, 1, none⟩ (.int .i64 ((s.i : Int) + 1)) = w5 at *
    clear c1 f1
    have hs := symbol_any b _ c l s.d (s.i + 1) s.e s.out [40] w5 hP5
    rw [hs2, show str [40] = (⟨#[40]⟩ : ByteArray) from rfl] at hs
    with_reducible refine hs.mono ?_
    clear hs
    rintro x w6 ⟨rfl, m6, rfl⟩
    have hb6 := below_drewN (Below.refl w5.heap.size w5) m6
    have hP6 := hP5.below hb6
    have hF6 := hF5.trans (Fr.of hb6 hP5.lt)
    have hm6 := (hb6.block m (Array.getElem?_eq_some_iff.1 hm5).1).trans hm5
    generalize w5.drewN m6 = w6 at *
    clear hP5 hF5 hb6 hm5
    have hE := qenter_any b _ c l (Ex.fwdS s) (Ex.symAt_lt hs2) hl (by show -1000 ≤ s.d; omega) w6 hP6
    rw [hEE] at hE
    clear hP6 hEE
    go_wp2_with fail
    with_reducible refine hE.mono ?_
    clear hE
    rintro x w7 ⟨rfl, hP7, hF7⟩
    have hF8 := hF6.trans hF7
    have hm7 := hF7.kept m _ _ _ (by omega) (by omega) (by decide) (by decide) hm6
    have e1 : w7.cell? ⟨m, 1, none⟩ = some (.string (str t)) := by rw [cell_of_row _ _ _ _ _ _ hm7]; rfl
    clear hF6 hF7 hm6 hm7
    have hTk := hP7.toks
    have hhere := hP7.here
    obtain ⟨fv, hRw, hO⟩ := hP7.row
    have c2 : w7.cell? ⟨b, 2, none⟩ = some fv := hRw.cell (show 2 < 5 by decide)
    have f2 := hRw.frozen 2
    have hne2 : some b ≠ fv.ownBlock := fun e => (own_ne hO (Nat.lt_succ_self b)).elim (fun h => by rw [h] at e; cases e) (fun h => h e.symm)
    have HB := Lib.hid (heap_alloc_new w7 (.cells #[.int .i64 5, .string ⟨#[]⟩, .int .u32 0] 42))
    have hltW := hP7.lt
    clear hP7
    go_wp2_with (at_builtin; refine wpList_append_lies _ (by rfl) _ _ _ (by rfl) (b + 1) 42 i0 _ 3 32 Tryz.underlying26 hi0 hz0 hz1 hz2 rfl (by omega) fv v.out.length _ (by rfl) (hO.alloc _) ⟨w7.heap.size, 0, none⟩ 1 1 [_, _, _] (by rfl) (by rfl) (World.news_of_block (cs := #[_, _, _]) (t := 42) (fr := (0, 0)) HB.out) (by simp [Value.oneCell']) (by omega) (by unfold maxLen; omega) (by omega) (by simp; omega) (w7.heap.size + 1) (by simp) ?_; intro gg cap wN hown3 hgrow hat hlt3; have hR3 := (hRw.alloc _).of_block (hgrow.block b (by simp; omega) hne2); have f33 := hR3.frozen 2; have c33 := hR3.cell (show 2 < 5 by decide))
    have hB : Fr b b w7 wN := Fr.grow ((Below.refl _ w7).alloc (Nat.le_refl _) _) hgrow hO hltW
    have hfin : QS (wN.setCell ⟨b, 2, none⟩ (.slice (some ⟨gg, 0, none⟩) (v.out.length + 1) cap)) b _ c l (Ex.out1 v ⟨5, [], 0⟩) := QA.add (out := v.out) (o := ⟨5, [], 0⟩) hR3 hown3 (hTk.below hB.low (Nat.le_refl _)) hhere
    have hbf : Fr b b w7 (wN.setCell ⟨b, 2, none⟩ (.slice (some ⟨gg, 0, none⟩) (v.out.length + 1) cap)) := hB.trans (Fr.set' wN 2 _)
    have hF20 := hF8.trans hbf
    generalize wN.setCell ⟨b, 2, none⟩ (.slice (some ⟨gg, 0, none⟩) (v.out.length + 1) cap) = w20 at *
    clear hR3 hown3 hB hgrow hat hlt3 hTk hRw hO HB c2 f2 c33 f33 hi0 hz0 hz1 hz2 hbf hF8
    have hE := qexpect_any b _ c l [41] (Ex.out1 v ⟨5, [], 0⟩) hl w20 hfin
    rw [show str [41] = (⟨#[41]⟩ : ByteArray) from rfl] at hE
    have hvx := Ex.expectS_d l [41] (Ex.out1 v ⟨5, [], 0⟩)
    have hvy : (Ex.out1 v ⟨5, [], 0⟩).d = v.d := rfl
    generalize Ex.expectS l [41] (Ex.out1 v ⟨5, [], 0⟩) = v2 at *
    have hd1 : -1000 ≤ v2.d := by rw [hvx, hvy]; exact hvd
    have hd2 : v2.d ≤ 1000 := by rw [hvx, hvy]; exact hvd2
    clear hfin hvx hvy hvd hvd2
    with_reducible refine hE.mono ?_
    clear hE
    rintro x w21 ⟨rfl, hP21, hF21⟩
    have hF22 := hF20.trans hF21
    have c3 := hP21.dep
    have f3 := hP21.frz 3
    have hP23 := hP21.setDep (v2.d - 1)
    have hF23 := hF22.trans (QFr.set hP21 3 (.int .i64 (v2.d - 1)))
    clear hP21 hF20 hF21 hF22
    go_wp2_with fail
    refine bodyPost_ret (results_none rfl _ _ _) rfl ?_
    exact ⟨rfl, hP23, hF23⟩
set_option maxHeartbeats 8000000 in
set_option maxRecDepth 100000 in
theorem qprim_load0 (b : Nat) (A : Option Addr) (c : Nat) (l : List Tok.Tk) (s : Ex.St) (h0 : s.e = 0) (w : World) (hP : QS w b A c l s) (hl : l.length ≤ 1000000) (hi : s.i < l.length) (_hsd : 0 ≤ s.d) (t : List UInt8) (htt : l[s.i].text = t) (h2 : l[s.i].kind = 1)
    (_ht : t.length ≤ 3000) (hun : Ex.unL t = false) (hsy : Ex.symAt l s.i [40] = false) (hl1 : t = [108, 111, 97, 100]) (hs2 : Ex.symAt l (s.i + 1) [40] = false) :
    Calls Tryz.prog 55 #[.pointer (some ⟨b, 0, none⟩)] w (GotS w b A c l (⟨s.d, s.i + 1, 4, s.out⟩)) := by
  obtain ⟨i0, hi0, hz0, hz1, hz2⟩ := info_parts infoO
  have ce := hP.err
  have c0 := hP.tok
  have c1 := hP.at_
  have q0 : (s.e != 0) = false := by rw [h0]; rfl
  have t1 : decide ((l.length : Int) ≤ (s.i : Int)) = false := by simp; omega
  have t2 : decide (l.length ≤ s.i) = false := by simp; omega
  have hlt1 : (s.i : Int) < (l.length : Int) := by omega
  have hlt0 : 0 ≤ (s.i : Int) := by omega
  have hlt := hP.lt
  have HL1 := Lib.hid hl1
  clear hl1
  obtain ⟨g, o, rfl, hg, hk0, hk1⟩ := hP.toks s.i hi
  rw [h2] at hk0
  rw [htt] at hk1
  clear htt h2
  go_enter Tryz.func55, Tryz.ntmps55
  go_wp2_with fail
  go_quiet (fail)
  have hb := below_drewN (Below.refl w.heap.size w) nq
  have hP1 := hP.below hb
  have hF1 : Fr b b w (w.drewN nq) := Fr.of hb hlt
  have hk0q := (hb.cell (World.block_lt_of_cell? w _ hk0)).trans hk0
  have hk1q := (hb.cell (World.block_lt_of_cell? w _ hk1)).trans hk1
  generalize w.drewN nq = w1 at *
  clear hP ce c0 c1 hk0 hk1 hb
  have c0 := hP1.tok
  have c1 := hP1.at_
  have a0 := (Below.refl w1.heap.size w1).alloc (Nat.le_refl _) (.cells #[.int .i64 0, .string ⟨#[]⟩] 45)
  have d0 := (a0.cell (World.block_lt_of_cell? w1 _ c0)).trans c0
  have d1 := (a0.cell (World.block_lt_of_cell? w1 _ c1)).trans c1
  have d2 := (a0.cell (World.block_lt_of_cell? w1 _ hk0q)).trans hk0q
  have d3 := (a0.cell (World.block_lt_of_cell? w1 _ hk1q)).trans hk1q
  have hn := heap_alloc_new w1 (.cells #[.int .i64 0, .string ⟨#[]⟩] 45)
  go_wp2_with fail
  go_region
  all_goals
    have a1 : Below w1.heap.size w1 (w1.alloc (.cells #[.int .i64 1, .string (str t)] 45)).drew := ((Below.refl w1.heap.size w1).alloc (Nat.le_refl _) _).drew
    have hP2 := hP1.below a1
    have hF2 := hF1.trans (Fr.of a1 hP1.lt)
    have hm := heap_alloc_new w1 (.cells #[.int .i64 1, .string (str t)] 45)
    have hm2 : (w1.alloc (.cells #[.int .i64 1, .string (str t)] 45)).drew.heap[w1.heap.size]? = some (.cells #[.int .i64 1, .string (str t)] 45 (0, 0)) := hm
    have hbm : b < w1.heap.size := hP1.lt
    generalize (w1.alloc (.cells #[.int .i64 1, .string (str t)] 45)).drew = w2 at *
    generalize w1.heap.size = m at *
    clear d0 d1 d2 d3 hn c0 c1 hk0q hk1q hP1 hF1 hm a0 a1
    have e0 : w2.cell? ⟨m, 0, none⟩ = some (.int .i64 1) := by rw [cell_of_row _ _ _ _ _ _ hm2]; rfl
    have e1 : w2.cell? ⟨m, 1, none⟩ = some (.string (str t)) := by rw [cell_of_row _ _ _ _ _ _ hm2]; rfl
    have hU := fun w => unQ3 t w
    rw [hun] at hU
    have hs := symbol_any b _ c l s.d s.i s.e s.out [40] w2 hP2
    rw [hsy, show str [40] = (⟨#[40]⟩ : ByteArray) from rfl] at hs
    go_wp2_with (first | (go_at_call 40; (with_reducible refine (hU _).mono ?_); rintro e w' ⟨rfl, rfl⟩))
    with_reducible refine hs.mono ?_
    clear hs
    rintro x w3 ⟨rfl, m3, rfl⟩
    have hb3 := below_drewN (Below.refl w2.heap.size w2) m3
    have hP3 := hP2.below hb3
    have hF3 := hF2.trans (Fr.of hb3 hP2.lt)
    have hm3 := (hb3.block m (Array.getElem?_eq_some_iff.1 hm2).1).trans hm2
    generalize w2.drewN m3 = w3 at *
    clear hP2 hF2 hb3 hm2 e0 e1
    have e0 : w3.cell? ⟨m, 0, none⟩ = some (.int .i64 1) := by rw [cell_of_row _ _ _ _ _ _ hm3]; rfl
    have e1 : w3.cell? ⟨m, 1, none⟩ = some (.string (str t)) := by rw [cell_of_row _ _ _ _ _ _ hm3]; rfl
    have q5 := str_eq HL1.out
    have hP4 := hP3
    have hF4 := hF3
    have hm4 := hm3
    generalize w3 = w4 at *
    clear hP3 hF3 hm3
    have c1 := hP4.at_
    have f1 := hP4.frz 1
    have hP5 := hP4.setAt ((s.i : Int) + 1) (s.i + 1) (by omega) (by omega)
    have hF5 := hF4.trans (QFr.set hP4 1 (.int .i64 ((s.i : Int) + 1)))
    have hm5 := (blk_setCell_other w4 ⟨b, 1, none⟩ (.int .i64 ((s.i : Int) + 1)) m (by show m ≠ b; omega)).trans hm4
    clear hP4 hF4 hm4
    go_wp2_with fail
    generalize w4.setCell ⟨b, 1, none⟩ (.int .i64 ((s.i : Int) + 1)) = w5 at *
    clear c1 f1
    have hs := symbol_any b _ c l s.d (s.i + 1) s.e s.out [40] w5 hP5
    rw [hs2, show str [40] = (⟨#[40]⟩ : ByteArray) from rfl] at hs
    with_reducible refine hs.mono ?_
    clear hs
    rintro x w6 ⟨rfl, m6, rfl⟩
    have hb6 := below_drewN (Below.refl w5.heap.size w5) m6
    have hP6 := hP5.below hb6
    have hF6 := hF5.trans (Fr.of hb6 hP5.lt)
    have hm6 := (hb6.block m (Array.getElem?_eq_some_iff.1 hm5).1).trans hm5
    generalize w5.drewN m6 = w6 at *
    clear hP5 hF5 hb6 hm5
    have hP7 : QA w6 b (some ⟨g, o, none⟩) c l s.d (s.i + 1) 0 s.out := by have := hP6; rw [h0] at this; exact this
    have hE := fail_ok b _ c l s.d (s.i + 1) s.out 4 w6 hP7
    clear hP6 hP7
    go_wp2_with fail
    with_reducible refine hE.mono ?_
    clear hE
    rintro x w8 ⟨rfl, hP8, hF8⟩
    go_wp2_with fail
    refine bodyPost_ret (results_none rfl _ _ _) rfl ?_
    exact ⟨rfl, hP8, hF6.trans hF8⟩
set_option maxHeartbeats 8000000 in
set_option maxRecDepth 100000 in
theorem qprim_in0 (b : Nat) (A : Option Addr) (c : Nat) (l : List Tok.Tk) (s : Ex.St) (h0 : s.e = 0) (w : World) (hP : QS w b A c l s) (hl : l.length ≤ 1000000) (hi : s.i < l.length) (_hsd : 0 ≤ s.d) (t : List UInt8) (htt : l[s.i].text = t) (h2 : l[s.i].kind = 1)
    (_ht : t.length ≤ 3000) (hun : Ex.unL t = false) (hsy : Ex.symAt l s.i [40] = false) (hl1 : t = [105, 110]) (hs2 : Ex.symAt l (s.i + 1) [40] = false) :
    Calls Tryz.prog 55 #[.pointer (some ⟨b, 0, none⟩)] w (GotS w b A c l (⟨s.d, s.i + 1, 4, s.out⟩)) := by
  obtain ⟨i0, hi0, hz0, hz1, hz2⟩ := info_parts infoO
  have ce := hP.err
  have c0 := hP.tok
  have c1 := hP.at_
  have q0 : (s.e != 0) = false := by rw [h0]; rfl
  have t1 : decide ((l.length : Int) ≤ (s.i : Int)) = false := by simp; omega
  have t2 : decide (l.length ≤ s.i) = false := by simp; omega
  have hlt1 : (s.i : Int) < (l.length : Int) := by omega
  have hlt0 : 0 ≤ (s.i : Int) := by omega
  have hlt := hP.lt
  have HL1 := Lib.hid hl1
  clear hl1
  obtain ⟨g, o, rfl, hg, hk0, hk1⟩ := hP.toks s.i hi
  rw [h2] at hk0
  rw [htt] at hk1
  clear htt h2
  go_enter Tryz.func55, Tryz.ntmps55
  go_wp2_with fail
  go_quiet (fail)
  have hb := below_drewN (Below.refl w.heap.size w) nq
  have hP1 := hP.below hb
  have hF1 : Fr b b w (w.drewN nq) := Fr.of hb hlt
  have hk0q := (hb.cell (World.block_lt_of_cell? w _ hk0)).trans hk0
  have hk1q := (hb.cell (World.block_lt_of_cell? w _ hk1)).trans hk1
  generalize w.drewN nq = w1 at *
  clear hP ce c0 c1 hk0 hk1 hb
  have c0 := hP1.tok
  have c1 := hP1.at_
  have a0 := (Below.refl w1.heap.size w1).alloc (Nat.le_refl _) (.cells #[.int .i64 0, .string ⟨#[]⟩] 45)
  have d0 := (a0.cell (World.block_lt_of_cell? w1 _ c0)).trans c0
  have d1 := (a0.cell (World.block_lt_of_cell? w1 _ c1)).trans c1
  have d2 := (a0.cell (World.block_lt_of_cell? w1 _ hk0q)).trans hk0q
  have d3 := (a0.cell (World.block_lt_of_cell? w1 _ hk1q)).trans hk1q
  have hn := heap_alloc_new w1 (.cells #[.int .i64 0, .string ⟨#[]⟩] 45)
  go_wp2_with fail
  go_region
  all_goals
    have a1 : Below w1.heap.size w1 (w1.alloc (.cells #[.int .i64 1, .string (str t)] 45)).drew := ((Below.refl w1.heap.size w1).alloc (Nat.le_refl _) _).drew
    have hP2 := hP1.below a1
    have hF2 := hF1.trans (Fr.of a1 hP1.lt)
    have hm := heap_alloc_new w1 (.cells #[.int .i64 1, .string (str t)] 45)
    have hm2 : (w1.alloc (.cells #[.int .i64 1, .string (str t)] 45)).drew.heap[w1.heap.size]? = some (.cells #[.int .i64 1, .string (str t)] 45 (0, 0)) := hm
    have hbm : b < w1.heap.size := hP1.lt
    generalize (w1.alloc (.cells #[.int .i64 1, .string (str t)] 45)).drew = w2 at *
    generalize w1.heap.size = m at *
    clear d0 d1 d2 d3 hn c0 c1 hk0q hk1q hP1 hF1 hm a0 a1
    have e0 : w2.cell? ⟨m, 0, none⟩ = some (.int .i64 1) := by rw [cell_of_row _ _ _ _ _ _ hm2]; rfl
    have e1 : w2.cell? ⟨m, 1, none⟩ = some (.string (str t)) := by rw [cell_of_row _ _ _ _ _ _ hm2]; rfl
    have hU := fun w => unQ3 t w
    rw [hun] at hU
    have hs := symbol_any b _ c l s.d s.i s.e s.out [40] w2 hP2
    rw [hsy, show str [40] = (⟨#[40]⟩ : ByteArray) from rfl] at hs
    go_wp2_with (first | (go_at_call 40; (with_reducible refine (hU _).mono ?_); rintro e w' ⟨rfl, rfl⟩))
    with_reducible refine hs.mono ?_
    clear hs
    rintro x w3 ⟨rfl, m3, rfl⟩
    have hb3 := below_drewN (Below.refl w2.heap.size w2) m3
    have hP3 := hP2.below hb3
    have hF3 := hF2.trans (Fr.of hb3 hP2.lt)
    have hm3 := (hb3.block m (Array.getElem?_eq_some_iff.1 hm2).1).trans hm2
    generalize w2.drewN m3 = w3 at *
    clear hP2 hF2 hb3 hm2 e0 e1
    have e0 : w3.cell? ⟨m, 0, none⟩ = some (.int .i64 1) := by rw [cell_of_row _ _ _ _ _ _ hm3]; rfl
    have e1 : w3.cell? ⟨m, 1, none⟩ = some (.string (str t)) := by rw [cell_of_row _ _ _ _ _ _ hm3]; rfl
    have q6 := str_eq HL1.out
    have q5 := str_ne (u := [108, 111, 97, 100]) (by rw [HL1.out]; decide : t ≠ [108, 111, 97, 100])
    have hP4 := hP3
    have hF4 := hF3
    have hm4 := hm3
    generalize w3 = w4 at *
    clear hP3 hF3 hm3
    have c1 := hP4.at_
    have f1 := hP4.frz 1
    have hP5 := hP4.setAt ((s.i : Int) + 1) (s.i + 1) (by omega) (by omega)
    have hF5 := hF4.trans (QFr.set hP4 1 (.int .i64 ((s.i : Int) + 1)))
    have hm5 := (blk_setCell_other w4 ⟨b, 1, none⟩ (.int .i64 ((s.i : Int) + 1)) m (by show m ≠ b; omega)).trans hm4
    clear hP4 hF4 hm4
    go_wp2_with fail
    generalize w4.setCell ⟨b, 1, none⟩ (.int .i64 ((s.i : Int) + 1)) = w5 at *
    clear c1 f1
    have hs := symbol_any b _ c l s.d (s.i + 1) s.e s.out [40] w5 hP5
    rw [hs2, show str [40] = (⟨#[40]⟩ : ByteArray) from rfl] at hs
    with_reducible refine hs.mono ?_
    clear hs
    rintro x w6 ⟨rfl, m6, rfl⟩
    have hb6 := below_drewN (Below.refl w5.heap.size w5) m6
    have hP6 := hP5.below hb6
    have hF6 := hF5.trans (Fr.of hb6 hP5.lt)
    have hm6 := (hb6.block m (Array.getElem?_eq_some_iff.1 hm5).1).trans hm5
    generalize w5.drewN m6 = w6 at *
    clear hP5 hF5 hb6 hm5
    have hP7 : QA w6 b (some ⟨g, o, none⟩) c l s.d (s.i + 1) 0 s.out := by have := hP6; rw [h0] at this; exact this
    have hE := fail_ok b _ c l s.d (s.i + 1) s.out 4 w6 hP7
    clear hP6 hP7
    go_wp2_with fail
    with_reducible refine hE.mono ?_
    clear hE
    rintro x w8 ⟨rfl, hP8, hF8⟩
    go_wp2_with fail
    refine bodyPost_ret (results_none rfl _ _ _) rfl ?_
    exact ⟨rfl, hP8, hF6.trans hF8⟩
end Go.Proofs.YtndehkoglgakpaaGreatDoor
end
section
namespace Go.Proofs.YtndehkoglgakpaaGreatDoor
open Go.RowKit Go.Deep
theorem Ex.Fit.fwd {s : Ex.St} (h : Ex.Fit s) : Ex.Fit (Ex.fwdS s) := ⟨h.d0, h.d1, by have := h.room; show s.out.length ≤ s.i + 1; omega⟩
theorem Ex.same_keeps (l : List Tok.Tk) : Ex.Keeps l 0 (fun s => s) := ⟨fun _ _ hi => Ex.Step.refl hi, fun _ _ => rfl⟩
theorem Ex.symAt_kind {l : List Tok.Tk} {i : Nat} {t : List UInt8} (hi : i < l.length) (h : l[i].kind ≠ 3) : Ex.symAt l i t = false := by
  unfold Ex.symAt; rw [dif_pos hi]
  have : (l[i].kind == 3) = false := by rw [beq_eq_false_iff_ne]; exact h
  rw [this, Bool.false_and]
section
variable (b : Nat) (A : Option Addr) (c : Nat) (l : List Tok.Tk) (hv : l.all Tok.valid = true) (hl : l.length ≤ 1000000) (hlen : ∀ k (h : k < l.length), l[k].text.length ≤ 3000)
  (P L : Ex.St → Ex.St) (hKP : Ex.Keeps l 0 P) (hKL : Ex.Keeps l 0 L)
  (hP' : ∀ (u : Ex.St) (w' : World), u.e = 0 → Ex.Fit u → (P u).e ≠ 99 → QS w' b A c l u → Calls Tryz.prog 55 #[.pointer (some ⟨b, 0, none⟩)] w' (GotS w' b A c l (P u)))
  (hL' : ∀ (u : Ex.St) (w' : World), u.e = 0 → Ex.Fit u → (L u).e ≠ 99 → QS w' b A c l u → Calls Tryz.prog 28 #[.pointer (some ⟨b, 0, none⟩), .int .i64 1] w' (GotS w' b A c l (L u)))
include hKP hP' in
theorem qprim_x (u : Ex.St) (w' : World) (hF : u.e = 0 → Ex.Fit u) (hn : (P u).e ≠ 99) (h : QS w' b A c l u) : Calls Tryz.prog 55 #[.pointer (some ⟨b, 0, none⟩)] w' (GotS w' b A c l (P u)) := by
  by_cases h0 : u.e = 0
  · exact hP' u w' h0 (hF h0) hn h
  · rw [hKP.2 u h0]; exact qprim_bad b A c l u h0 w' h
include hKL hL' in
theorem qlev_x (u : Ex.St) (w' : World) (hF : u.e = 0 → Ex.Fit u) (hn : (L u).e ≠ 99) (h : QS w' b A c l u) : Calls Tryz.prog 28 #[.pointer (some ⟨b, 0, none⟩), .int .i64 1] w' (GotS w' b A c l (L u)) := by
  by_cases h0 : u.e = 0
  · exact hL' u w' h0 (hF h0) hn h
  · rw [hKL.2 u h0]; exact qlevel_bad b A c l u h0 10 1 rfl (by decide) w' h
include hv hl hlen hKP hKL hP' hL' in
theorem qprim_any (s : Ex.St) (w : World) (h0 : s.e = 0) (hF : Ex.Fit s) (hn : (Ex.primS l P L s).e ≠ 99) (hP : QS w b A c l s) :
    Calls Tryz.prog 55 #[.pointer (some ⟨b, 0, none⟩)] w (GotS w b A c l (Ex.primS l P L s)) := by
  have hso : s.out.length ≤ 1000000 := by have := hF.room; have := hP.here; omega
  by_cases hi : s.i < l.length
  · have hu := List.all_eq_true.1 hv _ (List.getElem_mem hi)
    have ht := hlen _ hi
    rcases Ex.valid_kind hu with ⟨hk, hnm, hs⟩ | ⟨hk, hnm, hs, hno⟩ | ⟨hk, hs⟩
    · obtain ⟨_, hun, _, _, _⟩ := Ex.name_lev hs
      have hsy : Ex.symAt l s.i [40] = false := Ex.symAt_kind hi (by rw [hk]; decide)
      have n2 : ¬ (l[s.i].kind = 2) := by rw [hk]; decide
      have n3 : ¬ (l[s.i].kind = 3 ∧ Ex.unL l[s.i].text = true) := by rw [hk]; exact fun h => absurd h.1 (by decide)
      have n4 : ¬ (Ex.symAt l s.i [40] = true) := by rw [hsy]; decide
      by_cases hl1 : l[s.i].text = [108, 111, 97, 100]
      · cases hs2 : Ex.symAt l (s.i + 1) [40] with
        | true =>
          have hE : Ex.primS l P L s = Ex.out1 (Ex.parS l L (Ex.fwdS s)) ⟨4, [], 0⟩ := by
            unfold Ex.primS; rw [dif_pos hi, if_neg n2, if_neg n3, if_neg n4, if_pos ⟨hk, hl1⟩, if_pos hs2]
          rw [hE] at hn ⊢
          have hn' := Ex.parS_e l L (Ex.fwdS s) hn
          have hB := Ex.Fit.left hKL hF.fwd h0 (Ex.symAt_lt hs2)
          have hX := qprim_load b A c l s h0 w hP hl hi hF.d0 _ rfl hk ht hun hsy hl1 hs2 (Ex.enterS (Ex.fwdS s)) rfl (L (Ex.enterS (Ex.fwdS s))) hB.1 hB.2.1 (by have := hB.2.2; omega) (fun w1 h1 => qlev_x b A c l L hKL hL' _ w1 (fun e => hF.fwd.enter e h0) hn' h1)
          rw [Ex.expectS_out1] at hX
          exact hX
        | false =>
          have hE : Ex.primS l P L s = Ex.failS (Ex.fwdS s) 4 := by
            unfold Ex.primS; rw [dif_pos hi, if_neg n2, if_neg n3, if_neg n4, if_pos ⟨hk, hl1⟩, if_neg (by rw [hs2]; decide)]
          have hE2 : Ex.failS (Ex.fwdS s) 4 = ⟨s.d, s.i + 1, 4, s.out⟩ := if_pos h0
          rw [hE, hE2]
          exact qprim_load0 b A c l s h0 w hP hl hi hF.d0 _ rfl hk ht hun hsy hl1 hs2
      · have n5 : ¬ (l[s.i].kind = 1 ∧ l[s.i].text = [108, 111, 97, 100]) := fun h => hl1 h.2
        by_cases hl2 : l[s.i].text = [105, 110]
        · cases hs2 : Ex.symAt l (s.i + 1) [40] with
          | true =>
            have hE : Ex.primS l P L s = Ex.out1 (Ex.parS l (fun s => s) (Ex.fwdS s)) ⟨5, [], 0⟩ := by
              unfold Ex.primS; rw [dif_pos hi, if_neg n2, if_neg n3, if_neg n4, if_neg n5, if_pos ⟨hk, hl2⟩, if_pos hs2]
            rw [hE]
            have hB := Ex.Fit.left (Ex.same_keeps l) hF.fwd h0 (Ex.symAt_lt hs2)
            have hX := qprim_in b A c l s h0 w hP hl hi hF.d0 _ rfl hk ht hun hsy hl2 hs2 (Ex.enterS (Ex.fwdS s)) rfl hB.1 hB.2.1 (by have := hB.2.2; omega)
            rw [Ex.expectS_out1] at hX
            exact hX
          | false =>
            have hE : Ex.primS l P L s = Ex.failS (Ex.fwdS s) 4 := by
              unfold Ex.primS; rw [dif_pos hi, if_neg n2, if_neg n3, if_neg n4, if_neg n5, if_pos ⟨hk, hl2⟩, if_neg (by rw [hs2]; decide)]
            have hE2 : Ex.failS (Ex.fwdS s) 4 = ⟨s.d, s.i + 1, 4, s.out⟩ := if_pos h0
            rw [hE, hE2]
            exact qprim_in0 b A c l s h0 w hP hl hi hF.d0 _ rfl hk ht hun hsy hl2 hs2
        · have n6 : ¬ (l[s.i].kind = 1 ∧ l[s.i].text = [105, 110]) := fun h => hl2 h.2
          cases hid : Ex.idB l[s.i].text with
          | true =>
            have hE : Ex.primS l P L s = Ex.callS l L l[s.i].text (Ex.fwdS s) := by
              unfold Ex.primS; rw [dif_pos hi, if_neg n2, if_neg n3, if_neg n4, if_neg n5, if_neg n6, if_pos ⟨hk, hid⟩]
            cases hs2 : Ex.symAt l (s.i + 1) [40] with
            | true =>
              have hE2 : Ex.callS l L l[s.i].text (Ex.fwdS s) = Ex.out1 (Ex.parS l (fun s => (Ex.allS l L s).2) (Ex.fwdS s)) ⟨3, l[s.i].text, (Ex.allS l L (Ex.enterS (Ex.fwdS s))).1⟩ := if_pos hs2
              rw [hE, hE2] at hn ⊢
              have hn' := Ex.parS_e l (fun s => (Ex.allS l L s).2) (Ex.fwdS s) hn
              have hB := Ex.Fit.left (Ex.all_keeps hKL) hF.fwd h0 (Ex.symAt_lt hs2)
              exact qprim_call b A c l s h0 w hP hl hi hF.d0 _ rfl hk ht hun hsy hl1 hl2 hid hs2 (Ex.enterS (Ex.fwdS s)) (Ex.allS l L (Ex.enterS (Ex.fwdS s))).2 rfl hB.1 hB.2.1 (by have := hB.2.2; omega) (Ex.allS l L (Ex.enterS (Ex.fwdS s))).1
                (fun hE0 w1 h1 => qargs_any b A c l _ hE0 w1 h1 hl L hKL hn' fun u w' hu0 hSt hne hPu => hL' u w' hu0 ((hF.fwd.enter hE0 h0).step hSt hu0) hne hPu)
                (fun hE0 => by unfold Ex.allS; rw [if_neg hE0]; exact ⟨rfl, rfl⟩)
            | false =>
              have hE2 : Ex.callS l L l[s.i].text (Ex.fwdS s) = Ex.out1 (Ex.fwdS s) ⟨2, l[s.i].text, 0⟩ := if_neg (by show ¬ Ex.symAt l (s.i + 1) [40] = true; rw [hs2]; decide)
              rw [hE, hE2]
              exact qprim_name b A c l s h0 w hP hl hi hF.d0 _ rfl hk ht hun hsy hl1 hl2 hid hso hs2
          | false =>
            have hE : Ex.primS l P L s = Ex.failS s 4 := by
              unfold Ex.primS; rw [dif_pos hi, if_neg n2, if_neg n3, if_neg n4, if_neg n5, if_neg n6, if_neg (fun h => by rw [hid] at h; cases h.2)]
            have hE2 : Ex.failS s 4 = ⟨s.d, s.i, 4, s.out⟩ := if_pos h0
            rw [hE, hE2]
            exact qprim_kw b A c l s h0 w hP hl hi hF.d0 _ rfl hk ht hun hsy hl1 hl2 hid
    · have hE : Ex.primS l P L s = Ex.out1 (Ex.fwdS s) ⟨1, [], (Tok.number l[s.i].text).1⟩ := by
        unfold Ex.primS; rw [dif_pos hi, if_pos hk]
      rw [hE]
      exact qprim_num b A c l s h0 w hP hl hso hi ht hk
    · have n2 : ¬ (l[s.i].kind = 2) := by rw [hk]; decide
      cases hun : Ex.unL l[s.i].text with
      | true =>
        have hE : Ex.primS l P L s = Ex.out1 (Ex.decS (P (Ex.enterS s))) ⟨6, l[s.i].text, 0⟩ := by
          unfold Ex.primS; rw [dif_pos hi, if_neg n2, if_pos ⟨hk, hun⟩]
        rw [hE] at hn ⊢
        have hB := Ex.Fit.left hKP hF h0 hi
        exact qprim_un b A c l s h0 w hP hl hi hF.d0 _ rfl hk hun (P (Ex.enterS s)) hB.1 hB.2.1 (by have := hB.2.2; omega) (fun w1 h1 => qprim_x b A c l P hKP hP' _ w1 (fun e => hF.enter e h0) hn h1)
      | false =>
        have n3 : ¬ (l[s.i].kind = 3 ∧ Ex.unL l[s.i].text = true) := fun h => by rw [hun] at h; cases h.2
        cases hsy : Ex.symAt l s.i [40] with
        | true =>
          have hE : Ex.primS l P L s = Ex.parS l L s := by
            unfold Ex.primS; rw [dif_pos hi, if_neg n2, if_neg n3, if_pos hsy]
          rw [hE] at hn ⊢
          have hn' := Ex.parS_e l L s hn
          have hB := Ex.Fit.left hKL hF h0 hi
          exact qprim_par b A c l s h0 w hP hl hi hF.d0 _ rfl hk hun hsy (L (Ex.enterS s)) hB.1 hB.2.1 (fun w1 h1 => qlev_x b A c l L hKL hL' _ w1 (fun e => hF.enter e h0) hn' h1)
        | false =>
          have hx : ∀ p : Prop, ¬ (l[s.i].kind = 1 ∧ p) := fun p h => by rw [hk] at h; exact absurd h.1 (by decide)
          have hE : Ex.primS l P L s = Ex.failS s 4 := by
            unfold Ex.primS; rw [dif_pos hi, if_neg n2, if_neg n3, if_neg (by rw [hsy]; decide), if_neg (hx _), if_neg (hx _), if_neg (hx _)]
          have hE2 : Ex.failS s 4 = ⟨s.d, s.i, 4, s.out⟩ := if_pos h0
          rw [hE, hE2]
          exact qprim_sym b A c l s h0 w hP hl hi hF.d0 _ rfl hk hun hsy
  · have hE : Ex.primS l P L s = Ex.failS s 4 := by unfold Ex.primS; rw [dif_neg hi]
    rw [hE]
    exact qprim_end b A c l s h0 w hP hi
end
theorem Ex.levS_succ (l : List Tok.Tk) (k n : Nat) (s : Ex.St) (h0 : s.e = 0) : Ex.levS l (k + 1) n s = if n < 11 then Ex.loopS l n (Ex.levS l k (n + 1)) (l.length + 1) (Ex.levS l k (n + 1) s) else Ex.primS l (Ex.levS l k 11) (Ex.levS l k 1) s := by
  rw [Ex.levS, if_pos h0]
theorem qlev_any (b : Nat) (A : Option Addr) (c : Nat) (l : List Tok.Tk) (hv : l.all Tok.valid = true) (hl : l.length ≤ 1000000) (hlen : ∀ k (h : k < l.length), l[k].text.length ≤ 3000) : ∀ k : Nat,
    (∀ (n : Nat) (s : Ex.St) (w : World), 1 ≤ n → n ≤ 11 → s.e = 0 → Ex.Fit s → (Ex.levS l k n s).e ≠ 99 → QS w b A c l s → Calls Tryz.prog 28 #[.pointer (some ⟨b, 0, none⟩), .int .i64 (n : Int)] w (GotS w b A c l (Ex.levS l k n s))) ∧
    (∀ (s : Ex.St) (w : World), s.e = 0 → Ex.Fit s → (Ex.levS l k 11 s).e ≠ 99 → QS w b A c l s → Calls Tryz.prog 55 #[.pointer (some ⟨b, 0, none⟩)] w (GotS w b A c l (Ex.levS l k 11 s)))
  | 0 => ⟨fun n s w _ _ h0 _ hn _ => absurd (by rw [Ex.levS, if_pos h0]) hn, fun s w h0 _ hn _ => absurd (by rw [Ex.levS, if_pos h0]) hn⟩
  | k + 1 => by
    have ih := qlev_any b A c l hv hl hlen k
    have hprim : ∀ (s : Ex.St) (w : World), s.e = 0 → Ex.Fit s → (Ex.levS l (k + 1) 11 s).e ≠ 99 → QS w b A c l s → Calls Tryz.prog 55 #[.pointer (some ⟨b, 0, none⟩)] w (GotS w b A c l (Ex.levS l (k + 1) 11 s)) := fun s w h0 hF hn hP => by
      rw [Ex.levS_succ l k 11 s h0, if_neg (by decide)] at hn ⊢
      exact qprim_any b A c l hv hl hlen (Ex.levS l k 11) (Ex.levS l k 1) (Ex.lev_keeps l k 11 (by decide)) (Ex.lev_keeps l k 1 (by decide)) ih.2 (fun u w' a1 a2 a3 a4 => ih.1 1 u w' (by decide) (by decide) a1 a2 a3 a4) s w h0 hF hn hP
    refine ⟨fun n s w h1 h2 h0 hF hn hP => ?_, hprim⟩
    by_cases h11 : n < 11
    · rw [Ex.levS_succ l k n s h0, if_pos h11] at hn ⊢
      refine qlevel_any b A c l hv s h0 (by have := hF.room; have := hP.here; omega) w hP hl n h1 (by omega) (Ex.levS l k (n + 1)) (Ex.lev_keeps l k (n + 1) (by omega)) hn fun u w' hu0 hSt hne hPu => ?_
      have h := ih.1 (n + 1) u w' (by omega) (by omega) hu0 (hF.step hSt hu0) hne hPu
      rw [show ((n + 1 : Nat) : Int) = (n : Int) + 1 from by omega] at h
      exact h
    · obtain rfl : n = 11 := by omega
      exact qlevel_last b A c l _ w (hprim s w h0 hF hn hP)
end Go.Proofs.YtndehkoglgakpaaGreatDoor
end
section
namespace Go.Proofs.YtndehkoglgakpaaGreatDoor
open Go.RowKit Go.Deep
theorem printed_snd (l : List Tok.Tk) : (Tok.printed l).2 = if 256 < l.length then 10 else if l.all Tok.valid = true then 0 else 1 := by
  unfold Tok.printed; split
  · rfl
  · split <;> rfl
theorem parse_long {l : List Tok.Tk} (h : 256 < l.length) : Ex.parse l = ([], 10) := by
  have h1 : (Tok.printed l).2 = 10 := by rw [printed_snd, if_pos h]
  rw [parse_def, h1, if_pos (by decide)]
theorem parse_odd {l : List Tok.Tk} (h : ¬ 256 < l.length) (hv : ¬ l.all Tok.valid = true) : Ex.parse l = ([], 1) := by
  have h1 : (Tok.printed l).2 = 1 := by rw [printed_snd, if_neg h, if_neg hv]
  rw [parse_def, h1, if_pos (by decide)]
theorem parse_valid {l : List Tok.Tk} (h : ¬ 256 < l.length) (hv : l.all Tok.valid = true) : Ex.parse l = (let s := Ex.levS l (l.length * 12 + 12) 1 ⟨0, 0, 0, []⟩; if s.e ≠ 0 then ([], s.e) else if s.i < l.length then ([], 4) else (s.out, 0)) ∧ (Ex.levS l (l.length * 12 + 12) 1 ⟨0, 0, 0, []⟩).e ≠ 99 := by
  have h1 : (Tok.printed l).2 = 0 := by rw [printed_snd, if_neg h, if_pos hv]
  have hn := Ex.lev_nf l (l.length * 12 + 12) 1 0 (by decide) (by decide) (by omega) 0 0 [] (Nat.le_refl _)
  have hA := (Ex.lev_agree hv (l.length * 12 + 12) 1).1 0 0 [] hn
  rw [parse_def, h1, if_neg (fun h => h rfl)]
  dsimp only
  generalize Ex.lev l (l.length * 12 + 12) 1 0 0 [] = r at *
  obtain ⟨hA1, hA2⟩ := hA
  change (Ex.levS l (l.length * 12 + 12) 1 ⟨0, 0, 0, []⟩).e = r.e at hA1
  change r.e = 0 → Ex.levS l (l.length * 12 + 12) 1 ⟨0, 0, 0, []⟩ = _ at hA2
  generalize Ex.levS l (l.length * 12 + 12) 1 ⟨0, 0, 0, []⟩ = s at *
  refine ⟨?_, by rw [hA1]; exact hn⟩
  by_cases h0 : r.e = 0
  · have hs := hA2 h0
    rw [if_neg (fun h => h h0), hs]
    dsimp only
    rw [if_neg (show ¬ ((0 : Int) ≠ 0) from fun c => c rfl)]
  · rw [if_pos h0, if_pos (by rw [hA1]; exact h0), hA1]
set_option maxHeartbeats 4000000 in
set_option maxRecDepth 100000 in
theorem qparse_any (A : Option Addr) (c : Nat) (l : List Tok.Tk) (w : World) (hA : TksAt w w.heap.size A l) (hl : l.length ≤ 1000000) (hlen : ∀ k (h : k < l.length), l[k].text.length ≤ 3000) :
    Calls Tryz.prog 9 #[.slice A l.length c] w (GotF w (Ex.parse l)) := by
  by_cases h256 : 256 < l.length
  · have HR := Lib.hid (parse_long h256)
    have b0 : decide ((256 : Int) < (l.length : Int)) = true := by simp; omega
    have b1 : decide (256 < l.length) = true := by simp; omega
    generalize Ex.parse l = R at *
    clear h256
    go_enter Tryz.func9, Tryz.ntmps9
    go_wp2_with fail
    go_ret2
    rw [HR.out]
    exact ⟨_, rfl, World.ownsRow_nil _ _ _ _, Below.refl _ _⟩
  · have b0 : decide ((256 : Int) < (l.length : Int)) = false := by simp; omega
    have b1 : decide (256 < l.length) = false := by simp; omega
    have hall := qAllValid_any A c l w hA (by omega) hlen
    by_cases hv : l.all Tok.valid = true
    · obtain ⟨hR, hn⟩ := parse_valid h256 hv
      have HR := Lib.hid hR
      rw [hv] at hall
      generalize Ex.parse l = R at *
      clear h256 hR
      go_enter Tryz.func9, Tryz.ntmps9
      go_wp2_with fail
      with_reducible refine hall.mono ?_
      clear hall
      rintro x w1 ⟨rfl, hb1⟩
      have hT1 := hA.below hb1 (Nat.le_refl _)
      have hb2 : Below w.heap.size w (w1.alloc (.cells #[.slice A l.length c, .int .i64 0, .slice none 0 0, .int .i64 0, .int .i64 0] 56)) := hb1.alloc hb1.size _
      have hR1 : (w1.alloc (.cells #[.slice A l.length c, .int .i64 0, .slice none 0 0, .int .i64 0, .int .i64 0] 56)).rowIs w1.heap.size 56 5 (qpV (.slice A l.length c) (.slice none 0 0) 0 0 0) := by
        refine World.rowIs_alloc w1 _ _ _ fun k hk => ?_
        have hk : k < 5 := hk
        have : k = 0 ∨ k = 1 ∨ k = 2 ∨ k = 3 ∨ k = 4 := by omega
        rcases this with rfl | rfl | rfl | rfl | rfl <;> rfl
      have hbw := hb1.size
      go_upto_region 6 with (fail)
      obtain ⟨b, hbb⟩ : ∃ b, b = w1.heap.size := ⟨_, rfl⟩
      rw [← hbb] at hR1 hbw ⊢
      have hP2 : QA (w1.alloc (.cells #[.slice A l.length c, .int .i64 0, .slice none 0 0, .int .i64 0, .int .i64 0] 56)) b A c l 0 0 0 [] := by
        refine ⟨⟨_, hR1, World.ownsRow_nil _ _ _ _⟩, ?_, Nat.zero_le _⟩
        intro i hi
        obtain ⟨g, o, e, hg, hx⟩ := (hA.below hb2 (Nat.le_refl _)) i hi
        exact ⟨g, o, e, by omega, hx⟩
      generalize w1.alloc (.cells #[.slice A l.length c, .int .i64 0, .slice none 0 0, .int .i64 0, .int .i64 0] 56) = w2 at *
      clear hR1 hb1 hT1 hbb
      have hcall := (qlev_any b A c l hv hl hlen (l.length * 12 + 12)).1 1 ⟨0, 0, 0, []⟩ w2 (by decide) (by decide) rfl ⟨by decide, by decide, by decide⟩ hn hP2
      rw [show ((1 : Nat) : Int) = 1 from rfl] at hcall
      generalize Ex.levS l (l.length * 12 + 12) 1 ⟨0, 0, 0, []⟩ = s at *
      clear hP2 hn hv hA
      go_wp2_with fail
      with_reducible refine hcall.mono ?_
      clear hcall
      rintro x w3 ⟨rfl, hP3, hF3⟩
      have hb3 := hb2.trans (hF3.low.mono hbw)
      clear hF3 hb2
      have ce := hP3.err
      have c1 := hP3.at_
      by_cases h0 : s.e = 0
      · have q3 : (s.e == 0) = true := by rw [h0]; rfl
        have HR2 := Lib.hid (HR.out.trans (if_neg (fun h => h h0)))
        by_cases hi : s.i < l.length
        · have HR3 := Lib.hid (HR2.out.trans (if_pos hi))
          have t1 : decide ((s.i : Int) < (l.length : Int)) = true := by simp; omega
          have t2 : decide (s.i < l.length) = true := by simp; omega
          have hcall := fail_ok b A c l s.d s.i s.out 4 w3 (by have := hP3; unfold QS at this; rw [h0] at this; exact this)
          clear HR HR2 hP3 h0
          go_wp2_with fail
          with_reducible refine hcall.mono ?_
          clear hcall
          rintro x w4 ⟨rfl, hP4, hF4⟩
          have hb4 := hb3.trans (hF4.low.mono hbw)
          have ce := hP4.err
          clear hF4 hb3 q3 c1 t1 t2
          go_wp2_with fail
          go_quiet (fail)
          go_wp2_with fail
          go_ret2
          rw [HR3.out]
          exact ⟨_, rfl, World.ownsRow_nil _ _ _ _, below_drewN hb4 _⟩
        · have HR3 := Lib.hid (HR2.out.trans (if_neg hi))
          have t1 : decide ((s.i : Int) < (l.length : Int)) = false := by simp; omega
          have t2 : decide (s.i < l.length) = false := by simp; omega
          have q4 : (s.e != 0) = false := by rw [h0]; rfl
          obtain ⟨fv, hRr, hO⟩ := hP3.row
          have c2 : w3.cell? ⟨b, 2, none⟩ = some fv := hRr.cell (show 2 < 5 by decide)
          have hO2 := hO.mono (base' := w.heap.size) (by omega)
          clear hO HR HR2 hP3 hRr h0
          go_wp2_with fail
          go_ret2
          rw [HR3.out]
          exact ⟨_, rfl, hO2, hb3⟩
      · have q3 : (s.e == 0) = false := by rw [beq_eq_false_iff_ne]; exact h0
        have q4 : (s.e != 0) = true := by rw [bne_iff_ne]; exact h0
        have HR2 := Lib.hid (HR.out.trans (if_pos h0))
        clear h0 HR hP3
        go_wp2_with fail
        go_quiet (fail)
        go_wp2_with fail
        go_ret2
        rw [HR2.out]
        exact ⟨_, rfl, World.ownsRow_nil _ _ _ _, below_drewN hb3 _⟩
    · have HR := Lib.hid (parse_odd h256 hv)
      rw [show l.all Tok.valid = false by cases hq : l.all Tok.valid; rfl; exact absurd hq hv] at hall
      generalize Ex.parse l = R at *
      clear h256 hv
      go_enter Tryz.func9, Tryz.ntmps9
      go_wp2_with fail
      with_reducible refine hall.mono ?_
      clear hall
      rintro x w1 ⟨rfl, hb1⟩
      go_wp2_with fail
      go_ret2
      rw [HR.out]
      exact ⟨_, rfl, World.ownsRow_nil _ _ _ _, hb1⟩
end Go.Proofs.YtndehkoglgakpaaGreatDoor
end
section
namespace Go.Proofs.YtndehkoglgakpaaGreatDoor
open Go.RowKit Go.Deep

theorem parse_room (l : List Tok.Tk) : (Ex.parse l).1.length ≤ l.length := by
  by_cases h256 : 256 < l.length
  · rw [parse_long h256]; simp
  · by_cases hv : l.all Tok.valid = true
    · obtain ⟨hR, _⟩ := parse_valid h256 hv
      have hS := (Ex.lev_keeps l (l.length * 12 + 12) 1 (by decide)).1 ⟨0, 0, 0, []⟩ rfl (Nat.zero_le _)
      rw [hR]
      dsimp only
      generalize Ex.levS l (l.length * 12 + 12) 1 ⟨0, 0, 0, []⟩ = s at *
      have h1 := hS.top
      split
      · simp
      · rename_i h0
        have h2 := hS.ok (by simpa using h0)
        simp only [List.length_nil, Nat.add_zero, Nat.zero_add] at h2
        split
        · simp
        · dsimp only; omega
    · rw [parse_odd h256 hv]; simp
theorem few_parts {ts : List Tok.Tk} (h : fewB ts = true) : ts.length ≤ 300 ∧ ∀ k (h : k < ts.length), ts[k].text.length ≤ 50 := by
  unfold fewB at h
  rw [Bool.and_eq_true] at h
  obtain ⟨h1, h2⟩ := h
  exact ⟨of_decide_eq_true h2, fun k hk => of_decide_eq_true (List.all_eq_true.1 h1 _ (List.getElem_mem hk))⟩
set_option maxHeartbeats 4000000 in
set_option maxRecDepth 100000 in
theorem parses_law (A : Option Addr) (c : Nat) (l : List Tok.Tk) (w : World) (hE : Errs w) (hA : TksAt w w.heap.size A l) (hl : l.length ≤ 9223372036854775807) :
    Calls Tryz.prog 3 #[.slice A l.length c] w fun e w' => e = .returned (.bool true) ∧ Below w.heap.size w w' := by
  go_enter Tryz.func3, Tryz.ntmps3
  go_wp2_with fail
  refine (awake_any w hE).mono ?_
  rintro e w1 ⟨rfl, hb⟩
  have hA1 := hA.next hb
  have hfew := few_any A c l w1 hA1 hl
  cases hf : fewB l with
  | false =>
    rw [hf] at hfew
    clear hf
    go_wp2_with fail
    with_reducible refine hfew.mono ?_
    clear hfew
    rintro e w2 ⟨rfl, hb2⟩
    go_wp2_with fail
    go_ret
    exact ⟨rfl, hb.trans (hb2.mono hb.size)⟩
  | true =>
    rw [hf] at hfew
    obtain ⟨h3, h5⟩ := few_parts hf
    have hlen : ∀ k (h : k < l.length), l[k].text.length ≤ 3000 := fun k hk => by have := h5 k hk; omega
    clear hf h5
    go_wp2_with fail
    with_reducible refine hfew.mono ?_
    clear hfew
    rintro e w2 ⟨rfl, hb2⟩
    replace hb2 := hb.trans (hb2.mono hb.size)
    have hp := parse_any A c l w2 (hA.next hb2) (by omega) hlen (hE.below hb2)
    have hq : ∀ W, Below w.heap.size w W → Calls Tryz.prog 9 #[.slice A l.length c] W (GotF W (Ex.parse l)) := fun W h => qparse_any A c l W (hA.next h) (by omega) hlen
    have hplen := parse_room l
    unfold GotF at hp hq
    generalize Ex.parse l = R at *
    obtain ⟨f, e0⟩ := R
    dsimp only at hp hq hplen
    go_wp2_with fail
    with_reducible refine hp.mono ?_
    clear hp
    rintro e w3 ⟨v3, rfl, hO3, hb3⟩
    obtain ⟨A3, c3, rfl, hA3, _, _⟩ := owns_ops hO3
    replace hb3 := hb2.trans (hb3.mono hb2.size)
    have hp := hq w3 hb3
    clear hq
    go_wp2_with fail
    with_reducible refine hp.mono ?_
    clear hp
    rintro e w4 ⟨v4, rfl, hO4, hb4⟩
    obtain ⟨A4, c4, rfl, hA4, _, _⟩ := owns_ops hO4
    have hA34 := hA3.next hb4
    replace hb4 := hb3.trans (hb4.mono hb3.size)
    have hsame := fsame_true A3 A4 c3 c4 f w4 hA34 hA4 (by omega)
    have r1 : (e0 == e0) = true := by simp
    go_wp2_with (first
      | (go_at_call 10; with_reducible refine hsame.mono ?_; clear hsame; rintro e w5 ⟨rfl, hb5⟩; have hb5' := hb4.trans (hb5.mono hb4.size)))
    go_ret
    exact ⟨rfl, hb5'⟩
end Go.Proofs.YtndehkoglgakpaaGreatDoor
end
