/- The reference's parser: what stands between operations. No condition.
The reference's parser: a number. No condition.
The reference's parser: unary operations and parentheses. No condition.
The reference's parser: names. No condition. -/
import Derived.Test.YtndehkoglgakpaaGreatDoorPz2
section
namespace Go.Proofs.YtndehkoglgakpaaGreatDoor
open Go.RowKit Go.Deep
set_option maxHeartbeats 4000000 in
set_option maxRecDepth 100000 in
theorem qprim_end (b : Nat) (A : Option Addr) (c : Nat) (l : List Tok.Tk) (s : Ex.St) (h0 : s.e = 0) (w : World) (hP : QS w b A c l s) (hi : ¬ s.i < l.length) :
    Calls Tryz.prog 55 #[.pointer (some ⟨b, 0, none⟩)] w (GotS w b A c l (Ex.failS s 4)) := by
  have HV := Lib.hid (show Ex.failS s 4 = ⟨s.d, s.i, 4, s.out⟩ from if_pos h0)
  generalize Ex.failS s 4 = R at *
  have hP0 : QA w b A c l s.d s.i 0 s.out := by have := hP; unfold QS at this; rw [h0] at this; exact this
  have ce := hP0.err
  have c0 := hP0.tok
  have c1 := hP0.at_
  have t1 : decide ((l.length : Int) ≤ (s.i : Int)) = true := by simp; omega
  have t2 : decide (l.length ≤ s.i) = true := by simp; omega
  have hlt := hP0.lt
  have hcall := fun w' (h : QA w' b A c l s.d s.i 0 s.out) => fail_ok b A c l s.d s.i s.out 4 w' h
  clear hP
  go_enter Tryz.func55, Tryz.ntmps55
  go_wp2_with fail
  go_quiet (fail)
  have hb := below_drewN (Below.refl w.heap.size w) nq
  have hP1 := hP0.below hb
  have hF1 : Fr b b w (w.drewN nq) := Fr.of hb hlt
  have hcall := hcall _ hP1
  clear hP0 ce c0 c1
  go_wp2_with fail
  with_reducible refine hcall.mono ?_
  clear hcall
  rintro x w2 ⟨rfl, hP2, hF2⟩
  go_wp2_with fail
  refine bodyPost_ret (results_none rfl _ _ _) rfl ?_
  rw [HV.out]
  exact ⟨rfl, hP2, hF1.trans hF2⟩
end Go.Proofs.YtndehkoglgakpaaGreatDoor
end
section
namespace Go.Proofs.YtndehkoglgakpaaGreatDoor
open Go.RowKit Go.Deep
set_option maxHeartbeats 8000000 in
set_option maxRecDepth 100000 in
theorem qprim_num (b : Nat) (A : Option Addr) (c : Nat) (l : List Tok.Tk) (s : Ex.St) (h0 : s.e = 0) (w : World) (hP : QS w b A c l s) (hl : l.length ≤ 1000000) (hso : s.out.length ≤ 1000000) (hi : s.i < l.length) (ht : l[s.i].text.length ≤ 3000) (h2 : l[s.i].kind = 2) :
    Calls Tryz.prog 55 #[.pointer (some ⟨b, 0, none⟩)] w (GotS w b A c l (Ex.out1 (Ex.fwdS s) ⟨1, [], (Tok.number l[s.i].text).1⟩)) := by
  obtain ⟨i0, hi0, hz0, hz1, hz2⟩ := info_parts infoO
  have ce := hP.err
  have c0 := hP.tok
  have c1 := hP.at_
  have q0 : (s.e != 0) = false := by rw [h0]; rfl
  have t1 : decide ((l.length : Int) ≤ (s.i : Int)) = false := by simp; omega
  have t2 : decide (l.length ≤ s.i) = false := by simp; omega
  have hlt1 : (s.i : Int) < (l.length : Int) := by omega
  have hlt0 : 0 ≤ (s.i : Int) := by omega
  have hlt := hP.lt
  obtain ⟨g, o, rfl, hg, hk0, hk1⟩ := hP.toks s.i hi
  rw [h2] at hk0
  generalize l[s.i].text = t at *
  go_enter Tryz.func55, Tryz.ntmps55
  go_wp2_with fail
  go_quiet (fail)
  have hb := below_drewN (Below.refl w.heap.size w) nq
  have hP1 := hP.below hb
  have hF1 : Fr b b w (w.drewN nq) := Fr.of hb hlt
  have hk0q := (hb.cell (World.block_lt_of_cell? w _ hk0)).trans hk0
  have hk1q := (hb.cell (World.block_lt_of_cell? w _ hk1)).trans hk1
  generalize w.drewN nq = w1 at *
  clear hP ce c0 c1 hk0 hk1 hb
  have c0 := hP1.tok
  have c1 := hP1.at_
  have a0 := (Below.refl w1.heap.size w1).alloc (Nat.le_refl _) (.cells #[.int .i64 0, .string ⟨#[]⟩] 45)
  have d0 := (a0.cell (World.block_lt_of_cell? w1 _ c0)).trans c0
  have d1 := (a0.cell (World.block_lt_of_cell? w1 _ c1)).trans c1
  have d2 := (a0.cell (World.block_lt_of_cell? w1 _ hk0q)).trans hk0q
  have d3 := (a0.cell (World.block_lt_of_cell? w1 _ hk1q)).trans hk1q
  have hn := heap_alloc_new w1 (.cells #[.int .i64 0, .string ⟨#[]⟩] 45)
  go_wp2_with fail
  go_region
  all_goals
    have a1 : Below w1.heap.size w1 (w1.alloc (.cells #[.int .i64 2, .string (str t)] 45)).drew := ((Below.refl w1.heap.size w1).alloc (Nat.le_refl _) _).drew
    have hP2 := hP1.below a1
    have hF2 := hF1.trans (Fr.of a1 hP1.lt)
    have hm := heap_alloc_new w1 (.cells #[.int .i64 2, .string (str t)] 45)
    have hm2 : (w1.alloc (.cells #[.int .i64 2, .string (str t)] 45)).drew.heap[w1.heap.size]? = some (.cells #[.int .i64 2, .string (str t)] 45 (0, 0)) := hm
    have hbm : b < w1.heap.size := hP1.lt
    generalize (w1.alloc (.cells #[.int .i64 2, .string (str t)] 45)).drew = w2 at *
    generalize w1.heap.size = m at *
    clear d0 d1 d2 d3 hn c0 c1 hk0q hk1q hP1 hF1 hm a0 a1
    have e0 : w2.cell? ⟨m, 0, none⟩ = some (.int .i64 2) := by rw [cell_of_row _ _ _ _ _ _ hm2]; rfl
    have e1 : w2.cell? ⟨m, 1, none⟩ = some (.string (str t)) := by rw [cell_of_row _ _ _ _ _ _ hm2]; rfl
    have hU := fun w => unQ3 t w
    have hN := qNumber_any (str t) w2 (by rw [str_size]; omega)
    unfold numV at hN
    rw [show (str t).data.toList = t from by simp [str]] at hN
    generalize (Tok.number t).1 = N at *
    generalize (Tok.number t).2 = E at *
    go_wp2_with (go_at_call 40; (with_reducible refine (hU _).mono ?_); rintro e w' ⟨rfl, rfl⟩)
    with_reducible refine hN.mono ?_
    rintro x w3 ⟨rfl, rfl⟩
    have hTk := hP2.toks
    have hhere := hP2.here
    obtain ⟨fv, hRw, hO⟩ := hP2.row
    have c2 : w2.cell? ⟨b, 2, none⟩ = some fv := hRw.cell (show 2 < 5 by decide)
    have f2 := hRw.frozen 2
    have hne2 : some b ≠ fv.ownBlock := fun e => (own_ne hO (Nat.lt_succ_self b)).elim (fun h => by rw [h] at e; cases e) (fun h => h e.symm)
    have HB := Lib.hid (heap_alloc_new w2 (.cells #[.int .i64 1, .string ⟨#[]⟩, .int .u32 (N : Int)] 42))
    have hlt2 := hP2.lt
    clear hP2 hU hN e0 e1
    go_upto_region 9 with (at_builtin; refine wpList_append_lies _ (by rfl) _ _ _ (by rfl) (b + 1) 42 i0 _ 3 32 Tryz.underlying26 hi0 hz0 hz1 hz2 rfl (by omega) fv s.out.length _ (by rfl) (hO.alloc _) ⟨w2.heap.size, 0, none⟩ 1 1 [_, _, _] (by rfl) (by rfl) (World.news_of_block (cs := #[_, _, _]) (t := 42) (fr := (0, 0)) HB.out) (by simp [Value.oneCell']) (by omega) (by unfold maxLen; omega) (by omega) (by simp; omega) (w2.heap.size + 1) (by simp) ?_; intro gg cap w6 hown3 hgrow hat hlt3; have hR3 := (hRw.alloc _).of_block (hgrow.block b (by simp; omega) hne2); have f33 := hR3.frozen 2; have c33 := hR3.cell (show 2 < 5 by decide))
    have hB : Fr b b w2 w6 := Fr.grow ((Below.refl _ w2).alloc (Nat.le_refl _) _) hgrow hO hlt2
    have hfin := QA.add (out := s.out) (o := ⟨1, [], (N : Int)⟩) hR3 hown3 (hTk.below hB.low (Nat.le_refl _)) hhere
    have hbf : Fr b b w2 (w6.setCell ⟨b, 2, none⟩ (.slice (some ⟨gg, 0, none⟩) (s.out.length + 1) cap)) := hB.trans (Fr.set' w6 2 _)
    have hF9 := hF2.trans hbf
    generalize w6.setCell ⟨b, 2, none⟩ (.slice (some ⟨gg, 0, none⟩) (s.out.length + 1) cap) = w7 at *
    clear hR3 hown3 hB hgrow hat hlt3 hTk hRw hO HB c2 f2 c33 f33 hi0 hz0 hz1 hz2 hbf hF2 hm2
    have c1 := hfin.at_
    have f1 := hfin.frz 1
    have hP8 := hfin.setAt ((s.i : Int) + 1) (s.i + 1) (by omega) (by omega)
    have hF8 := hF9.trans (QFr.set hfin 1 (.int .i64 ((s.i : Int) + 1)))
    clear hfin hF9
    go_wp2_with fail
    refine bodyPost_ret (results_none rfl _ _ _) rfl ?_
    exact ⟨rfl, hP8, hF8⟩
end Go.Proofs.YtndehkoglgakpaaGreatDoor
end
section
namespace Go.Proofs.YtndehkoglgakpaaGreatDoor
open Go.RowKit Go.Deep
theorem qenter_any (b : Nat) (A : Option Addr) (c : Nat) (l : List Tok.Tk) (s : Ex.St) (hi : s.i < l.length) (hl : l.length ≤ 1000000) (hd : -1000 ≤ s.d) (w : World) (hP : QS w b A c l s) :
    Calls Tryz.prog 82 #[.pointer (some ⟨b, 0, none⟩)] w (GotS w b A c l (Ex.enterS s)) := by
  by_cases h0 : s.e = 0
  · have hP0 : QA w b A c l s.d s.i 0 s.out := by have := hP; unfold QS at this; rw [h0] at this; exact this
    unfold Ex.enterS
    rw [if_pos h0]
    by_cases h25 : 25 ≤ s.d
    · rw [if_pos h25]
      exact enter_deep b A c l s.d h25 s.i s.out w hP0
    · rw [if_neg h25, h0]
      exact enter_ok b A c l s.d (by omega) (by omega) s.i hi hl s.out w hP0
  · have hE : Ex.enterS s = s := if_neg h0
    rw [hE]
    exact (enter_bad b A c l s.d s.i s.e h0 s.out w hP).mono fun x w' h => ⟨h.1, by rw [h.2]; exact hP, by rw [h.2]; exact Fr.refl b b w⟩
theorem qexpect_any (b : Nat) (A : Option Addr) (c : Nat) (l : List Tok.Tk) (t : List UInt8) (s : Ex.St) (hl : l.length ≤ 1000000) (w : World) (hP : QS w b A c l s) :
    Calls Tryz.prog 84 #[.pointer (some ⟨b, 0, none⟩), .string (str t)] w (GotS w b A c l (Ex.expectS l t s)) := by
  by_cases h0 : s.e = 0
  · have hP0 : QA w b A c l s.d s.i 0 s.out := by have := hP; unfold QS at this; rw [h0] at this; exact this
    have h := expect_ok b A c l s.d s.i hl s.out t w hP0
    unfold Ex.expectS
    rw [if_pos h0]
    by_cases hs : Ex.symAt l s.i t = true
    · rw [if_pos hs] at h ⊢
      rw [if_pos hs] at h
      unfold Ex.fwdS
      rw [h0]
      exact h
    · rw [if_neg hs] at h ⊢
      rw [if_neg hs] at h
      exact h
  · have hE : Ex.expectS l t s = s := if_neg h0
    rw [hE]
    exact (expect_bad b A c l s.d s.i s.e h0 s.out (str t) w hP).mono fun x w' h => ⟨h.1, by rw [h.2]; exact hP, by rw [h.2]; exact Fr.refl b b w⟩
theorem Ex.expectS_d (l : List Tok.Tk) (t : List UInt8) (s : Ex.St) : (Ex.expectS l t s).d = s.d := by
  unfold Ex.expectS; split
  · split <;> rfl
  · rfl
theorem Ex.expectS_out (l : List Tok.Tk) (t : List UInt8) (s : Ex.St) : (Ex.expectS l t s).out = s.out := by
  unfold Ex.expectS; split
  · split <;> rfl
  · rfl
set_option maxHeartbeats 8000000 in
set_option maxRecDepth 100000 in
theorem qprim_un (b : Nat) (A : Option Addr) (c : Nat) (l : List Tok.Tk) (s : Ex.St) (h0 : s.e = 0) (w : World) (hP : QS w b A c l s) (hl : l.length ≤ 1000000) (hi : s.i < l.length) (hsd : 0 ≤ s.d) (t : List UInt8) (htt : l[s.i].text = t) (h2 : l[s.i].kind = 3)
    (hun : Ex.unL t = true) (v : Ex.St) (hvd : -1000 ≤ v.d) (hvd2 : v.d ≤ 1000) (hvo : v.out.length ≤ 3000000)
    (hX : ∀ w1 : World, QS w1 b A c l (Ex.enterS s) → Calls Tryz.prog 55 #[.pointer (some ⟨b, 0, none⟩)] w1 (GotS w1 b A c l v)) :
    Calls Tryz.prog 55 #[.pointer (some ⟨b, 0, none⟩)] w (GotS w b A c l (Ex.out1 (Ex.decS v) ⟨6, t, 0⟩)) := by
  obtain ⟨i0, hi0, hz0, hz1, hz2⟩ := info_parts infoO
  have ce := hP.err
  have c0 := hP.tok
  have c1 := hP.at_
  have q0 : (s.e != 0) = false := by rw [h0]; rfl
  have t1 : decide ((l.length : Int) ≤ (s.i : Int)) = false := by simp; omega
  have t2 : decide (l.length ≤ s.i) = false := by simp; omega
  have hlt1 : (s.i : Int) < (l.length : Int) := by omega
  have hlt0 : 0 ≤ (s.i : Int) := by omega
  have hlt := hP.lt
  obtain ⟨g, o, rfl, hg, hk0, hk1⟩ := hP.toks s.i hi
  rw [h2] at hk0
  rw [htt] at hk1
  clear htt h2
  go_enter Tryz.func55, Tryz.ntmps55
  go_wp2_with fail
  go_quiet (fail)
  have hb := below_drewN (Below.refl w.heap.size w) nq
  have hP1 := hP.below hb
  have hF1 : Fr b b w (w.drewN nq) := Fr.of hb hlt
  have hk0q := (hb.cell (World.block_lt_of_cell? w _ hk0)).trans hk0
  have hk1q := (hb.cell (World.block_lt_of_cell? w _ hk1)).trans hk1
  generalize w.drewN nq = w1 at *
  clear hP ce c0 c1 hk0 hk1 hb
  have c0 := hP1.tok
  have c1 := hP1.at_
  have a0 := (Below.refl w1.heap.size w1).alloc (Nat.le_refl _) (.cells #[.int .i64 0, .string ⟨#[]⟩] 45)
  have d0 := (a0.cell (World.block_lt_of_cell? w1 _ c0)).trans c0
  have d1 := (a0.cell (World.block_lt_of_cell? w1 _ c1)).trans c1
  have d2 := (a0.cell (World.block_lt_of_cell? w1 _ hk0q)).trans hk0q
  have d3 := (a0.cell (World.block_lt_of_cell? w1 _ hk1q)).trans hk1q
  have hn := heap_alloc_new w1 (.cells #[.int .i64 0, .string ⟨#[]⟩] 45)
  go_wp2_with fail
  go_region
  all_goals
    have a1 : Below w1.heap.size w1 (w1.alloc (.cells #[.int .i64 3, .string (str t)] 45)).drew := ((Below.refl w1.heap.size w1).alloc (Nat.le_refl _) _).drew
    have hP2 := hP1.below a1
    have hF2 := hF1.trans (Fr.of a1 hP1.lt)
    have hm := heap_alloc_new w1 (.cells #[.int .i64 3, .string (str t)] 45)
    have hm2 : (w1.alloc (.cells #[.int .i64 3, .string (str t)] 45)).drew.heap[w1.heap.size]? = some (.cells #[.int .i64 3, .string (str t)] 45 (0, 0)) := hm
    have hbm : b < w1.heap.size := hP1.lt
    generalize (w1.alloc (.cells #[.int .i64 3, .string (str t)] 45)).drew = w2 at *
    generalize w1.heap.size = m at *
    clear d0 d1 d2 d3 hn c0 c1 hk0q hk1q hP1 hF1 hm a0 a1
    have e0 : w2.cell? ⟨m, 0, none⟩ = some (.int .i64 3) := by rw [cell_of_row _ _ _ _ _ _ hm2]; rfl
    have e1 : w2.cell? ⟨m, 1, none⟩ = some (.string (str t)) := by rw [cell_of_row _ _ _ _ _ _ hm2]; rfl
    have hU := fun w => unQ3 t w
    rw [hun] at hU
    have hE := qenter_any b _ c l s hi hl (by omega) w2 hP2
    clear hP2
    go_wp2_with (first | (go_at_call 40; (with_reducible refine (hU _).mono ?_); rintro e w' ⟨rfl, rfl⟩))
    with_reducible refine hE.mono ?_
    clear hE
    rintro x w3 ⟨rfl, hP3, hF3⟩
    have hcall := hX w3 hP3
    clear hX hP3 e0 e1
    go_wp2_with fail
    with_reducible refine hcall.mono ?_
    clear hcall
    rintro x w4 ⟨rfl, hP4, hF4⟩
    have hm4 := hF4.kept m _ _ _ (by omega) (by omega) (by decide) (by decide) (hF3.kept m _ _ _ (by omega) (by omega) (by decide) (by decide) hm2)
    have hF5 := (hF2.trans hF3).trans hF4
    clear hF2 hF3 hF4 hm2
    have c3 := hP4.dep
    have f3 := hP4.frz 3
    have hP6 := hP4.setDep (v.d - 1)
    have hF6 := hF5.trans (QFr.set hP4 3 (.int .i64 (v.d - 1)))
    have hm6 := (blk_setCell_other w4 ⟨b, 3, none⟩ (.int .i64 (v.d - 1)) m (by show m ≠ b; omega)).trans hm4
    clear hP4 hF5 hm4
    go_upto_region 14 with (fail)
    generalize w4.setCell ⟨b, 3, none⟩ (.int .i64 (v.d - 1)) = w6 at *
    clear c3 f3
    have e1 : w6.cell? ⟨m, 1, none⟩ = some (.string (str t)) := by rw [cell_of_row _ _ _ _ _ _ hm6]; rfl
    have hTk := hP6.toks
    have hhere := hP6.here
    have hlt6 := hP6.lt
    obtain ⟨fv, hRw, hO⟩ := hP6.row
    have c2 : w6.cell? ⟨b, 2, none⟩ = some fv := hRw.cell (show 2 < 5 by decide)
    have f2 := hRw.frozen 2
    have hne2 : some b ≠ fv.ownBlock := fun e => (own_ne hO (Nat.lt_succ_self b)).elim (fun h => by rw [h] at e; cases e) (fun h => h e.symm)
    have hm7 := ((Below.refl w6.heap.size w6).alloc (Nat.le_refl _) (.cells #[.int .i64 6, .string (str t), .int .u32 0] 42))
    have HB := Lib.hid (show (w6.alloc (.cells #[.int .i64 6, .string (str t), .int .u32 0] 42)).drew.heap[w6.heap.size]? = some (.cells #[.int .i64 6, .string (str t), .int .u32 0] 42) from heap_alloc_new w6 (.cells #[.int .i64 6, .string (str t), .int .u32 0] 42))
    have e1a := (hm7.cell (World.block_lt_of_cell? w6 _ e1)).trans e1
    have c2a := (hm7.cell (World.block_lt_of_cell? w6 _ c2)).trans c2
    clear hm7 hP6
    go_wp2_with fail
    go_region_law ((refine step_append_lies _ (by rfl) _ _ _ (by rfl) (b + 1) 42 i0 _ 3 32 Tryz.underlying26 hi0 hz0 hz1 hz2 rfl (by omega) fv v.out.length _ (by rfl) ((hO.alloc _).drew) ⟨w6.heap.size, 0, none⟩ 1 1 [_, _, _] (by rfl) (by rfl) (World.news_of_block (cs := #[_, _, _]) (t := 42) (fr := (0, 0)) HB.out) (by simp [Value.oneCell']) (by omega) (by unfold maxLen; omega) (by omega) (by simp; omega) (w6.heap.size + 1) (by simp) ?_; intro gg cap w7 hown3 hgrow hat hlt3; have hR3 := ((hRw.alloc _).drew).of_block (hgrow.block b (by simp; omega) hne2); have f33 := hR3.frozen 2; have c33 := hR3.cell (show 2 < 5 by decide)))
    all_goals
      have hB : Fr b b w6 w7 := Fr.grow (((Below.refl _ w6).alloc (Nat.le_refl _) _).drew) hgrow hO hlt6
      have hfin := QA.add (out := v.out) (o := ⟨6, t, 0⟩) hR3 hown3 (hTk.below hB.low (Nat.le_refl _)) hhere
      have hbf : Fr b b w6 (w7.setCell ⟨b, 2, none⟩ (.slice (some ⟨gg, 0, none⟩) (v.out.length + 1) cap)) := hB.trans (Fr.set' w7 2 _)
      have hF9 := hF6.trans hbf
      clear hR3 hown3 hB hgrow hat hlt3 hTk hRw hO HB c2 f2 c33 f33 hi0 hz0 hz1 hz2 hbf hF6 hm6
      go_wp2_with fail
      refine bodyPost_ret (results_none rfl _ _ _) rfl ?_
      exact ⟨rfl, hfin, hF9⟩
set_option maxHeartbeats 8000000 in
set_option maxRecDepth 100000 in
theorem qprim_par (b : Nat) (A : Option Addr) (c : Nat) (l : List Tok.Tk) (s : Ex.St) (h0 : s.e = 0) (w : World) (hP : QS w b A c l s) (hl : l.length ≤ 1000000) (hi : s.i < l.length) (hsd : 0 ≤ s.d) (t : List UInt8) (htt : l[s.i].text = t) (h2 : l[s.i].kind = 3)
    (hun : Ex.unL t = false) (hsy : Ex.symAt l s.i [40] = true) (v : Ex.St) (hvd : -1000 ≤ v.d) (hvd2 : v.d ≤ 1000)
    (hX : ∀ w1 : World, QS w1 b A c l (Ex.enterS s) → Calls Tryz.prog 28 #[.pointer (some ⟨b, 0, none⟩), .int .i64 1] w1 (GotS w1 b A c l v)) :
    Calls Tryz.prog 55 #[.pointer (some ⟨b, 0, none⟩)] w (GotS w b A c l (Ex.decS (Ex.expectS l [41] v))) := by
  obtain ⟨i0, hi0, hz0, hz1, hz2⟩ := info_parts infoO
  have ce := hP.err
  have c0 := hP.tok
  have c1 := hP.at_
  have q0 : (s.e != 0) = false := by rw [h0]; rfl
  have t1 : decide ((l.length : Int) ≤ (s.i : Int)) = false := by simp; omega
  have t2 : decide (l.length ≤ s.i) = false := by simp; omega
  have hlt1 : (s.i : Int) < (l.length : Int) := by omega
  have hlt0 : 0 ≤ (s.i : Int) := by omega
  have hlt := hP.lt
  obtain ⟨g, o, rfl, hg, hk0, hk1⟩ := hP.toks s.i hi
  rw [h2] at hk0
  rw [htt] at hk1
  clear htt h2
  go_enter Tryz.func55, Tryz.ntmps55
  go_wp2_with fail
  go_quiet (fail)
  have hb := below_drewN (Below.refl w.heap.size w) nq
  have hP1 := hP.below hb
  have hF1 : Fr b b w (w.drewN nq) := Fr.of hb hlt
  have hk0q := (hb.cell (World.block_lt_of_cell? w _ hk0)).trans hk0
  have hk1q := (hb.cell (World.block_lt_of_cell? w _ hk1)).trans hk1
  generalize w.drewN nq = w1 at *
  clear hP ce c0 c1 hk0 hk1 hb
  have c0 := hP1.tok
  have c1 := hP1.at_
  have a0 := (Below.refl w1.heap.size w1).alloc (Nat.le_refl _) (.cells #[.int .i64 0, .string ⟨#[]⟩] 45)
  have d0 := (a0.cell (World.block_lt_of_cell? w1 _ c0)).trans c0
  have d1 := (a0.cell (World.block_lt_of_cell? w1 _ c1)).trans c1
  have d2 := (a0.cell (World.block_lt_of_cell? w1 _ hk0q)).trans hk0q
  have d3 := (a0.cell (World.block_lt_of_cell? w1 _ hk1q)).trans hk1q
  have hn := heap_alloc_new w1 (.cells #[.int .i64 0, .string ⟨#[]⟩] 45)
  go_wp2_with fail
  go_region
  all_goals
    have a1 : Below w1.heap.size w1 (w1.alloc (.cells #[.int .i64 3, .string (str t)] 45)).drew := ((Below.refl w1.heap.size w1).alloc (Nat.le_refl _) _).drew
    have hP2 := hP1.below a1
    have hF2 := hF1.trans (Fr.of a1 hP1.lt)
    have hm := heap_alloc_new w1 (.cells #[.int .i64 3, .string (str t)] 45)
    have hm2 : (w1.alloc (.cells #[.int .i64 3, .string (str t)] 45)).drew.heap[w1.heap.size]? = some (.cells #[.int .i64 3, .string (str t)] 45 (0, 0)) := hm
    have hbm : b < w1.heap.size := hP1.lt
    generalize (w1.alloc (.cells #[.int .i64 3, .string (str t)] 45)).drew = w2 at *
    generalize w1.heap.size = m at *
    clear d0 d1 d2 d3 hn c0 c1 hk0q hk1q hP1 hF1 hm a0 a1
    have e0 : w2.cell? ⟨m, 0, none⟩ = some (.int .i64 3) := by rw [cell_of_row _ _ _ _ _ _ hm2]; rfl
    have e1 : w2.cell? ⟨m, 1, none⟩ = some (.string (str t)) := by rw [cell_of_row _ _ _ _ _ _ hm2]; rfl
    have hU := fun w => unQ3 t w
    rw [hun] at hU
    have hs := symbol_any b _ c l s.d s.i s.e s.out [40] w2 hP2
    rw [hsy, show str [40] = (⟨#[40]⟩ : ByteArray) from rfl] at hs
    go_wp2_with (first | (go_at_call 40; (with_reducible refine (hU _).mono ?_); rintro e w' ⟨rfl, rfl⟩))
    with_reducible refine hs.mono ?_
    clear hs
    rintro x w3 ⟨rfl, m3, rfl⟩
    have hb3 := below_drewN (Below.refl w2.heap.size w2) m3
    have hP3 := hP2.below hb3
    have hF3 := hF2.trans (Fr.of hb3 hP2.lt)
    generalize w2.drewN m3 = w3 at *
    clear hP2 hF2 hb3 e0 e1 hm2
    have hE := qenter_any b _ c l s hi hl (by omega) w3 hP3
    clear hP3
    go_wp2_with fail
    with_reducible refine hE.mono ?_
    clear hE
    rintro x w4 ⟨rfl, hP4, hF4⟩
    have hcall := hX w4 hP4
    have hF5 := hF3.trans hF4
    clear hX hP4 hF3 hF4
    go_wp2_with fail
    with_reducible refine hcall.mono ?_
    clear hcall
    rintro x w5 ⟨rfl, hP5, hF6⟩
    have hF7 := hF5.trans hF6
    have hE := qexpect_any b _ c l [41] v hl w5 hP5
    rw [show str [41] = (⟨#[41]⟩ : ByteArray) from rfl] at hE
    have hvx := Ex.expectS_d l [41] v
    generalize Ex.expectS l [41] v = v2 at *
    have hd1 : -1000 ≤ v2.d := by rw [hvx]; exact hvd
    have hd2 : v2.d ≤ 1000 := by rw [hvx]; exact hvd2
    clear hP5 hF5 hF6 hvx hvd hvd2
    go_wp2_with fail
    with_reducible refine hE.mono ?_
    clear hE
    rintro x w6 ⟨rfl, hP6, hF8⟩
    have hF9 := hF7.trans hF8
    have c3 := hP6.dep
    have f3 := hP6.frz 3
    have hP9 := hP6.setDep (v2.d - 1)
    have hF10 := hF9.trans (QFr.set hP6 3 (.int .i64 (v2.d - 1)))
    clear hP6 hF7 hF8 hF9
    go_wp2_with fail
    refine bodyPost_ret (results_none rfl _ _ _) rfl ?_
    exact ⟨rfl, hP9, hF10⟩
set_option maxHeartbeats 8000000 in
set_option maxRecDepth 100000 in
theorem qprim_sym (b : Nat) (A : Option Addr) (c : Nat) (l : List Tok.Tk) (s : Ex.St) (h0 : s.e = 0) (w : World) (hP : QS w b A c l s) (_hl : l.length ≤ 1000000) (hi : s.i < l.length) (_hsd : 0 ≤ s.d) (t : List UInt8) (htt : l[s.i].text = t) (h2 : l[s.i].kind = 3)
    (hun : Ex.unL t = false) (hsy : Ex.symAt l s.i [40] = false) :
    Calls Tryz.prog 55 #[.pointer (some ⟨b, 0, none⟩)] w (GotS w b A c l (⟨s.d, s.i, 4, s.out⟩)) := by
  obtain ⟨i0, hi0, hz0, hz1, hz2⟩ := info_parts infoO
  have ce := hP.err
  have c0 := hP.tok
  have c1 := hP.at_
  have q0 : (s.e != 0) = false := by rw [h0]; rfl
  have t1 : decide ((l.length : Int) ≤ (s.i : Int)) = false := by simp; omega
  have t2 : decide (l.length ≤ s.i) = false := by simp; omega
  have hlt1 : (s.i : Int) < (l.length : Int) := by omega
  have hlt0 : 0 ≤ (s.i : Int) := by omega
  have hlt := hP.lt
  obtain ⟨g, o, rfl, hg, hk0, hk1⟩ := hP.toks s.i hi
  rw [h2] at hk0
  rw [htt] at hk1
  clear htt h2
  go_enter Tryz.func55, Tryz.ntmps55
  go_wp2_with fail
  go_quiet (fail)
  have hb := below_drewN (Below.refl w.heap.size w) nq
  have hP1 := hP.below hb
  have hF1 : Fr b b w (w.drewN nq) := Fr.of hb hlt
  have hk0q := (hb.cell (World.block_lt_of_cell? w _ hk0)).trans hk0
  have hk1q := (hb.cell (World.block_lt_of_cell? w _ hk1)).trans hk1
  generalize w.drewN nq = w1 at *
  clear hP ce c0 c1 hk0 hk1 hb
  have c0 := hP1.tok
  have c1 := hP1.at_
  have a0 := (Below.refl w1.heap.size w1).alloc (Nat.le_refl _) (.cells #[.int .i64 0, .string ⟨#[]⟩] 45)
  have d0 := (a0.cell (World.block_lt_of_cell? w1 _ c0)).trans c0
  have d1 := (a0.cell (World.block_lt_of_cell? w1 _ c1)).trans c1
  have d2 := (a0.cell (World.block_lt_of_cell? w1 _ hk0q)).trans hk0q
  have d3 := (a0.cell (World.block_lt_of_cell? w1 _ hk1q)).trans hk1q
  have hn := heap_alloc_new w1 (.cells #[.int .i64 0, .string ⟨#[]⟩] 45)
  go_wp2_with fail
  go_region
  all_goals
    have a1 : Below w1.heap.size w1 (w1.alloc (.cells #[.int .i64 3, .string (str t)] 45)).drew := ((Below.refl w1.heap.size w1).alloc (Nat.le_refl _) _).drew
    have hP2 := hP1.below a1
    have hF2 := hF1.trans (Fr.of a1 hP1.lt)
    have hm := heap_alloc_new w1 (.cells #[.int .i64 3, .string (str t)] 45)
    have hm2 : (w1.alloc (.cells #[.int .i64 3, .string (str t)] 45)).drew.heap[w1.heap.size]? = some (.cells #[.int .i64 3, .string (str t)] 45 (0, 0)) := hm
    have hbm : b < w1.heap.size := hP1.lt
    generalize (w1.alloc (.cells #[.int .i64 3, .string (str t)] 45)).drew = w2 at *
    generalize w1.heap.size = m at *
    clear d0 d1 d2 d3 hn c0 c1 hk0q hk1q hP1 hF1 hm a0 a1
    have e0 : w2.cell? ⟨m, 0, none⟩ = some (.int .i64 3) := by rw [cell_of_row _ _ _ _ _ _ hm2]; rfl
    have e1 : w2.cell? ⟨m, 1, none⟩ = some (.string (str t)) := by rw [cell_of_row _ _ _ _ _ _ hm2]; rfl
    have hU := fun w => unQ3 t w
    rw [hun] at hU
    have hs := symbol_any b _ c l s.d s.i s.e s.out [40] w2 hP2
    rw [hsy, show str [40] = (⟨#[40]⟩ : ByteArray) from rfl] at hs
    go_wp2_with (first | (go_at_call 40; (with_reducible refine (hU _).mono ?_); rintro e w' ⟨rfl, rfl⟩))
    with_reducible refine hs.mono ?_
    clear hs
    rintro x w3 ⟨rfl, m3, rfl⟩
    have hb3 := below_drewN (Below.refl w2.heap.size w2) m3
    have hP3 := hP2.below hb3
    have hF3 := hF2.trans (Fr.of hb3 hP2.lt)
    have e0 := (hb3.cell (World.block_lt_of_cell? w2 _ e0)).trans e0
    have e1 := (hb3.cell (World.block_lt_of_cell? w2 _ e1)).trans e1
    generalize w2.drewN m3 = w3 at *
    clear hP2 hF2 hb3 hm2
    have hP4 : QA w3 b (some ⟨g, o, none⟩) c l s.d s.i 0 s.out := by have := hP3; unfold QS at this; rw [h0] at this; exact this
    have hE := fail_ok b _ c l s.d s.i s.out 4 w3 hP4
    clear hP3 hP4
    go_wp2_with fail
    with_reducible refine hE.mono ?_
    clear hE
    rintro x w4 ⟨rfl, hP5, hF5⟩
    go_wp2_with fail
    refine bodyPost_ret (results_none rfl _ _ _) rfl ?_
    exact ⟨rfl, hP5, hF3.trans hF5⟩
end Go.Proofs.YtndehkoglgakpaaGreatDoor
end
section
namespace Go.Proofs.YtndehkoglgakpaaGreatDoor
open Go.RowKit Go.Deep
set_option maxHeartbeats 8000000 in
set_option maxRecDepth 100000 in
theorem qprim_kw (b : Nat) (A : Option Addr) (c : Nat) (l : List Tok.Tk) (s : Ex.St) (h0 : s.e = 0) (w : World) (hP : QS w b A c l s) (_hl : l.length ≤ 1000000) (hi : s.i < l.length) (_hsd : 0 ≤ s.d) (t : List UInt8) (htt : l[s.i].text = t) (h2 : l[s.i].kind = 1)
    (ht : t.length ≤ 3000) (hun : Ex.unL t = false) (hsy : Ex.symAt l s.i [40] = false) (hl1 : t ≠ [108, 111, 97, 100]) (hl2 : t ≠ [105, 110]) (hid : Ex.idB t = false) :
    Calls Tryz.prog 55 #[.pointer (some ⟨b, 0, none⟩)] w (GotS w b A c l (⟨s.d, s.i, 4, s.out⟩)) := by
  obtain ⟨i0, hi0, hz0, hz1, hz2⟩ := info_parts infoO
  have ce := hP.err
  have c0 := hP.tok
  have c1 := hP.at_
  have q0 : (s.e != 0) = false := by rw [h0]; rfl
  have t1 : decide ((l.length : Int) ≤ (s.i : Int)) = false := by simp; omega
  have t2 : decide (l.length ≤ s.i) = false := by simp; omega
  have hlt1 : (s.i : Int) < (l.length : Int) := by omega
  have hlt0 : 0 ≤ (s.i : Int) := by omega
  have hlt := hP.lt
  obtain ⟨g, o, rfl, hg, hk0, hk1⟩ := hP.toks s.i hi
  rw [h2] at hk0
  rw [htt] at hk1
  clear htt h2
  go_enter Tryz.func55, Tryz.ntmps55
  go_wp2_with fail
  go_quiet (fail)
  have hb := below_drewN (Below.refl w.heap.size w) nq
  have hP1 := hP.below hb
  have hF1 : Fr b b w (w.drewN nq) := Fr.of hb hlt
  have hk0q := (hb.cell (World.block_lt_of_cell? w _ hk0)).trans hk0
  have hk1q := (hb.cell (World.block_lt_of_cell? w _ hk1)).trans hk1
  generalize w.drewN nq = w1 at *
  clear hP ce c0 c1 hk0 hk1 hb
  have c0 := hP1.tok
  have c1 := hP1.at_
  have a0 := (Below.refl w1.heap.size w1).alloc (Nat.le_refl _) (.cells #[.int .i64 0, .string ⟨#[]⟩] 45)
  have d0 := (a0.cell (World.block_lt_of_cell? w1 _ c0)).trans c0
  have d1 := (a0.cell (World.block_lt_of_cell? w1 _ c1)).trans c1
  have d2 := (a0.cell (World.block_lt_of_cell? w1 _ hk0q)).trans hk0q
  have d3 := (a0.cell (World.block_lt_of_cell? w1 _ hk1q)).trans hk1q
  have hn := heap_alloc_new w1 (.cells #[.int .i64 0, .string ⟨#[]⟩] 45)
  go_wp2_with fail
  go_region
  all_goals
    have a1 : Below w1.heap.size w1 (w1.alloc (.cells #[.int .i64 1, .string (str t)] 45)).drew := ((Below.refl w1.heap.size w1).alloc (Nat.le_refl _) _).drew
    have hP2 := hP1.below a1
    have hF2 := hF1.trans (Fr.of a1 hP1.lt)
    have hm := heap_alloc_new w1 (.cells #[.int .i64 1, .string (str t)] 45)
    have hm2 : (w1.alloc (.cells #[.int .i64 1, .string (str t)] 45)).drew.heap[w1.heap.size]? = some (.cells #[.int .i64 1, .string (str t)] 45 (0, 0)) := hm
    have hbm : b < w1.heap.size := hP1.lt
    generalize (w1.alloc (.cells #[.int .i64 1, .string (str t)] 45)).drew = w2 at *
    generalize w1.heap.size = m at *
    clear d0 d1 d2 d3 hn c0 c1 hk0q hk1q hP1 hF1 hm a0 a1
    have e0 : w2.cell? ⟨m, 0, none⟩ = some (.int .i64 1) := by rw [cell_of_row _ _ _ _ _ _ hm2]; rfl
    have e1 : w2.cell? ⟨m, 1, none⟩ = some (.string (str t)) := by rw [cell_of_row _ _ _ _ _ _ hm2]; rfl
    have hU := fun w => unQ3 t w
    rw [hun] at hU
    have hs := symbol_any b _ c l s.d s.i s.e s.out [40] w2 hP2
    rw [hsy, show str [40] = (⟨#[40]⟩ : ByteArray) from rfl] at hs
    go_wp2_with (first | (go_at_call 40; (with_reducible refine (hU _).mono ?_); rintro e w' ⟨rfl, rfl⟩))
    with_reducible refine hs.mono ?_
    clear hs
    rintro x w3 ⟨rfl, m3, rfl⟩
    have hb3 := below_drewN (Below.refl w2.heap.size w2) m3
    have hP3 := hP2.below hb3
    have hF3 := hF2.trans (Fr.of hb3 hP2.lt)
    have hm3 := (hb3.block m (Array.getElem?_eq_some_iff.1 hm2).1).trans hm2
    generalize w2.drewN m3 = w3 at *
    clear hP2 hF2 hb3 hm2 e0 e1
    have e0 : w3.cell? ⟨m, 0, none⟩ = some (.int .i64 1) := by rw [cell_of_row _ _ _ _ _ _ hm3]; rfl
    have e1 : w3.cell? ⟨m, 1, none⟩ = some (.string (str t)) := by rw [cell_of_row _ _ _ _ _ _ hm3]; rfl
    have q5 := str_ne hl1
    have q6 := str_ne hl2
    have hN := nameQ3 t (by omega) w3
    rw [hid] at hN
    go_wp2_with fail
    with_reducible refine hN.mono ?_
    clear hN
    rintro x w4 ⟨rfl, hb4⟩
    have hP4 : QA w4 b (some ⟨g, o, none⟩) c l s.d s.i 0 s.out := by have := hP3.below hb4; rw [h0] at this; exact this
    have hF4 := hF3.trans (Fr.of hb4 hP3.lt)
    have hE := fail_ok b _ c l s.d s.i s.out 4 w4 hP4
    clear hP3 hP4 hb4 hF3
    go_wp2_with fail
    with_reducible refine hE.mono ?_
    clear hE
    rintro x w5 ⟨rfl, hP5, hF5⟩
    go_wp2_with fail
    refine bodyPost_ret (results_none rfl _ _ _) rfl ?_
    exact ⟨rfl, hP5, hF4.trans hF5⟩
end Go.Proofs.YtndehkoglgakpaaGreatDoor
end
