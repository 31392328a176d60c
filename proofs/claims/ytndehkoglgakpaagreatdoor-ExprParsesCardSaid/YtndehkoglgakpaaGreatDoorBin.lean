/- The parser's levels of binary operations. No condition. -/
import Derived.Test.YtndehkoglgakpaaGreatDoorNmd
import Derived.Deep.RegionWith
import Derived.Deep.QuietTactic
import Derived.BigQuiet
import Derived.WalkSmall
namespace Go.Proofs.YtndehkoglgakpaaGreatDoor
open Go.RowKit Go.Deep

/-- Where a parser is. -/
def atw (b : Nat) (w : World) : Nat := match w.cell? ⟨b, 1, none⟩ with | some (.int _ x) => x.toNat | _ => 0
theorem atw_eq {w : World} {b : Nat} {A : Option Addr} {c : Nat} {l : List Tok.Tk} {d i s : Nat} {out : List Ex.Op} (h : PA w b A c l d i s out) : atw b w = i := by
  unfold atw; rw [h.at_]; rfl
theorem levQ (s : ByteArray) (w : World) : Calls Tryz.prog 48 #[.string s] w fun e w' => e = .returned (.int .i64 (Ex.levL s.toList : Nat)) ∧ w' = w := (levelOf_any s w).mono fun _ _ h => ⟨h.1, h.2.symm⟩
set_option maxHeartbeats 8000000 in
set_option maxRecDepth 100000 in
theorem binary_any (b : Nat) (A : Option Addr) (c : Nat) (l : List Tok.Tk) (d i s : Nat) (out : List Ex.Op) (w : World) (hP : PA w b A c l d i s out) (hl : l.length ≤ 1000000) (n : Nat) (hn1 : 1 ≤ n) (hn2 : n ≤ 10)
    (f : Nat) (cap : Value) (hcf : ∀ w, (callFunc f #[cap]).run Tryz.prog w = .ok (.enter f #[cap]) w) (hV : levV b (n + 1) = .func (Fn.func f) #[cap] #[]) (g : Ex.Pr) (hg : Ex.Fwd g)
    (hG : ∀ (i' s' : Nat) (out' : List Ex.Op) (w' : World), i ≤ i' → PA w' b A c l d i' s' out' → Calls Tryz.prog f #[cap] w' (Got w' b A c l d s' (g d i' out'))) :
    Calls Tryz.prog 24 #[.agg #[.pointer (some ⟨b, 0, none⟩), .int .i64 (n : Int)]] w (Got w b A c l d s (Ex.bins l n g d (l.length + 1) (g d i out))) := by
  have hlt := hP.lt
  have hP0 := hP.alloc (.cells #[.pointer (some ⟨b, 0, none⟩), .int .i64 (n : Int)] 54)
  have hg0 := heap_alloc_new w (.cells #[.pointer (some ⟨b, 0, none⟩), .int .i64 (n : Int)] 54)
  have hF0 : Fr b b w (w.alloc (.cells #[.pointer (some ⟨b, 0, none⟩), .int .i64 (n : Int)] 54)) := Fr.alloc w hlt _
  go_enter Tryz.func24, Tryz.ntmps24
  go_wp2_with fail
  obtain ⟨q, hq⟩ : ∃ q, q = w.heap.size := ⟨_, rfl⟩
  rw [← hq] at hg0 hlt
  rw [← hq]
  generalize w.alloc (.cells #[.pointer (some ⟨b, 0, none⟩), .int .i64 (n : Int)] 54) = w0 at *
  clear hq hP
  have hqb : q ≠ b := by omega
  have c0 : w0.cell? ⟨q, 0, none⟩ = some (.pointer (some ⟨b, 0, none⟩)) := by rw [cell_of_row _ _ _ _ _ _ hg0]; rfl
  have c1 : w0.cell? ⟨q, 1, none⟩ = some (.int .i64 (n : Int)) := by rw [cell_of_row _ _ _ _ _ _ hg0]; rfl
  have c2 := hP0.lv (n + 1) (by omega) (by omega)
  rw [hV] at c2
  have e1 : IntKind.i64.wrap ((n : Int) + 1) = (n : Int) + 1 := by rw [IntKind.wrap_i64]; omega
  have e2 : 0 ≤ (n : Int) + 1 := by omega
  have e3 : (n : Int) + 1 < 12 := by omega
  have e4 : ((n : Int) + 1).toNat = n + 1 := by omega
  go_region
  all_goals
    have hcall := hG i s out w0.drew (Nat.le_refl _) hP0.drew
    have hfw := hg d i out
    generalize g d i out = r0 at *
    obtain ⟨R, hR⟩ : ∃ R, R = Ex.bins l n g d (l.length + 1) r0 := ⟨_, rfl⟩
    have HR := Lib.hid hR
    have HRF := Lib.hid hR.symm
    clear hR
    clear e1 e2 e3 e4 c0 c1 c2 hV hP0
    go_wp2_with fail
    with_reducible refine hcall.mono ?_
    clear hcall
    rintro x w1 ⟨rfl, hP1, hF1⟩
    have hF01 : Fr b b w0 w1 := (Fr.of (Below.refl _ w0).drew (Nat.lt_of_lt_of_le hlt (by have := (Array.getElem?_eq_some_iff.1 hg0).1; omega))).trans hF1
    clear hF1
    go_wp2_with fail
    go_loopw [4] (fun v wr => ∃ (j : Nat) (r : Ex.Rs), v = .int .i64 r.e ∧ R = Ex.bins l n g d j r ∧ l.length + 1 ≤ j + r.i ∧ i ≤ r.i ∧ PA wr b A c l d r.i (sl r.e s) r.out ∧ Fr b b w0 wr) (fun _ wr => l.length - atw b wr)
    case atStart => exact ⟨l.length + 1, r0, rfl, HR.out, by omega, hfw, hP1, hF01⟩
    case round =>
      clear HR hP1 hF01 hfw
      obtain ⟨j, r, rfl, hR, hj, hir, hPr, hFr⟩ := hrel
      have hij := hPr.here
      obtain ⟨j', rfl⟩ : ∃ j', j = j' + 1 := ⟨j - 1, by omega⟩
      have HR := Lib.hid (hR.trans (Ex.bins_succ l n g d j' r))
      clear hR
      have hgr := hFr.kept q _ _ _ hqb hqb (by decide) (by decide) hg0
      have c0 : wr.cell? ⟨q, 0, none⟩ = some (.pointer (some ⟨b, 0, none⟩)) := by rw [cell_of_row _ _ _ _ _ _ hgr]; rfl
      have c1 : wr.cell? ⟨q, 1, none⟩ = some (.int .i64 (n : Int)) := by rw [cell_of_row _ _ _ _ _ _ hgr]; rfl
      have hM := Lib.hid (atw_eq hPr)
      by_cases hr : r.e = 0
      · have q3 : (r.e == 0) = true := by rw [hr]; rfl
        have HR0 := Lib.hid hr
        have hnx := fun w' (h : PA w' b A c l d r.i (sl r.e s) r.out) => next_any b A c l d r.i (sl r.e s) r.out w' h
        have hnq := fun m => nextQ_any b A c l d r.i (sl r.e s) r.out (wr.drewN m) (hPr.drewN m)
        by_cases ht : Ex.levL (Ex.nxt l r.i) = n
        · have HT := Lib.hid (HR.out.trans (if_pos ⟨hr, ht⟩))
          have hne : Ex.nxt l r.i ≠ [] := fun e => by rw [e] at ht; have : n = 0 := ht.symm; omega
          have hi4 := nxt_lt hne
          have q4 : (((Ex.levL (str (Ex.nxt l r.i)).toList : Nat) : Int) == (n : Int)) = true := by rw [str_list, ht]; simp
          have q5 : (Ex.levL (str (Ex.nxt l r.i)).toList == n) = true := by rw [str_list, ht]; simp
          clear HR hr ht hne
          generalize Ex.nxt l r.i = t at *
          go_wp2_with fail
          go_quiet (first | (go_at_call 49; exact Calls.quiet_of (hnq _)) | (go_at_call 48; exact Calls.quiet_of_same (levQ _ _)))
          have hPq := hPr.drewN nq
          have hFq : Fr b b w0 (wr.drewN nq) := hFr.trans (Fr.of (below_drewN (Below.refl _ wr) nq) hPr.lt)
          have hgq : (wr.drewN nq).heap[q]? = some (.cells #[.pointer (some ⟨b, 0, none⟩), .int .i64 (n : Int)] 54 (0, 0)) := hgr
          generalize wr.drewN nq = w2 at *
          clear hPr hFr hgr c0 c1 q3 q4 q5 hnq
          have c0 : w2.cell? ⟨q, 0, none⟩ = some (.pointer (some ⟨b, 0, none⟩)) := by rw [cell_of_row _ _ _ _ _ _ hgq]; rfl
          have hcall := hnx w2 hPq
          clear hnx
          go_wp2_with fail
          with_reducible refine hcall.mono ?_
          clear hcall
          rintro x w3 ⟨rfl, hb3⟩
          have hP3 := hPq.below hb3
          have hF3 := hFq.trans (Fr.of (m := b) hb3 hPq.lt)
          have hg3 := (hb3.block q (Array.getElem?_eq_some_iff.1 hgq).1).trans hgq
          clear hb3 hPq hFq hgq c0
          have c0 : w3.cell? ⟨q, 0, none⟩ = some (.pointer (some ⟨b, 0, none⟩)) := by rw [cell_of_row _ _ _ _ _ _ hg3]; rfl
          have c1 := hP3.at_
          have f1 := hP3.frz 1
          have e1 : IntKind.i64.wrap ((r.i : Int) + 1) = (r.i : Int) + 1 := by rw [IntKind.wrap_i64]; omega
          have hP4 := hP3.setAt ((r.i : Int) + 1) (r.i + 1) (s + 1) (by omega) (by omega) (by have := hP3.room; rw [HR0.out, sl_ok] at this; omega)
          have hF4 := hF3.trans (Fr.set hP3 1 (.int .i64 ((r.i : Int) + 1)))
          have hg4 := (blk_setCell_other w3 ⟨b, 1, none⟩ (.int .i64 ((r.i : Int) + 1)) q hqb).trans hg3
          go_upto_region 6 with (fail)
          generalize w3.setCell ⟨b, 1, none⟩ (.int .i64 ((r.i : Int) + 1)) = w4 at *
          clear hP3 hF3 hg3 c0 c1 f1 e1
          have c0 : w4.cell? ⟨q, 0, none⟩ = some (.pointer (some ⟨b, 0, none⟩)) := by rw [cell_of_row _ _ _ _ _ _ hg4]; rfl
          have hcall := hG (r.i + 1) (s + 1) r.out w4.drew (by omega) hP4.drew
          have hfw := hg d (r.i + 1) r.out
          have hF5 := hF4.trans (Fr.of (m := b) (Below.refl _ w4).drew hP4.lt)
          have hg5 : w4.drew.heap[q]? = some (.cells #[.pointer (some ⟨b, 0, none⟩), .int .i64 (n : Int)] 54 (0, 0)) := hg4
          have hii := Ex.then_i (g d (r.i + 1) r.out) ⟨7, t, 0⟩
          have hth := fun w' (h : PA w' b A c l d (g d (r.i + 1) r.out).i (sl (g d (r.i + 1) r.out).e (s + 1)) (g d (r.i + 1) r.out).out) => then_any b A c l d s (g d (r.i + 1) r.out) ⟨7, t, 0⟩ ⟨7, t, 0⟩ (fun _ => rfl) w' h hl
          dsimp only at hth
          generalize g d (r.i + 1) r.out = r1 at *
          generalize Ex.then_ r1 ⟨7, t, 0⟩ = r2 at *
          have HII := Lib.hid hii
          clear hii hP4 hF4 hg4
          go_region_with (first | ((with_reducible refine hcall.mono ?_); rintro x w6 ⟨rfl, hP6, hF6⟩; have hg6 := hF6.kept q _ _ _ hqb hqb (by decide) (by decide) hg5; have c6 : w6.cell? ⟨q, 0, none⟩ = some (.pointer (some ⟨b, 0, none⟩)) := by (rw [cell_of_row _ _ _ _ _ _ hg6]; rfl)) | (go_at_call 50; (with_reducible refine (hth _ hP6).mono ?_); rintro x w7 ⟨rfl, hP7, hF7⟩))
          all_goals
            have hF9 := (hF5.trans hF6).trans hF7
            clear hF5 hF6 hF7 hcall hth c0 c6 hg5 hg6 hP6
            go_wp2_with fail
            go_roundw
            case rel => ((repeat apply Exists.intro); exact ⟨⟨j', r2, rfl, HT.out, by have := HII.out; omega, by have := HII.out; omega, hP7, hF9⟩, rfl⟩)
            case measure => rw [atw_eq hP7, hM.out]; have := HII.out; omega
        · have HT := Lib.hid (HR.out.trans (if_neg (fun h => ht h.2)))
          have q4 : (((Ex.levL (str (Ex.nxt l r.i)).toList : Nat) : Int) == (n : Int)) = false := by rw [str_list, beq_eq_false_iff_ne]; omega
          have q5 : (Ex.levL (str (Ex.nxt l r.i)).toList == n) = false := by rw [str_list, beq_eq_false_iff_ne]; exact ht
          clear HR hr ht hnx
          generalize Ex.nxt l r.i = t at *
          go_wp2_with fail
          go_quiet (first | (go_at_call 49; exact Calls.quiet_of (hnq _)) | (go_at_call 48; exact Calls.quiet_of_same (levQ _ _)))
          have hF9 := hF0.trans (hFr.trans (Fr.of (below_drewN (Below.refl _ wr) nq) hPr.lt))
          have hP9 := hPr.drewN nq
          clear hPr hFr hgr c0 c1 q3 q4 q5 hnq
          go_wp2_with fail
          go_ret
          rw [HRF.out, HT.out]
          exact ⟨rfl, hP9, hF9⟩
      · have q3 : (r.e == 0) = false := by rw [beq_eq_false_iff_ne]; exact hr
        have HT := Lib.hid (HR.out.trans (if_neg (fun h => hr h.1)))
        clear HR hr
        go_wp2_with fail
        go_quiet (fail)
        have hF9 := hF0.trans (hFr.trans (Fr.of (below_drewN (Below.refl _ wr) nq) hPr.lt))
        have hP9 := hPr.drewN nq
        clear hPr hFr hgr c0 c1 q3
        go_wp2_with fail
        go_ret
        rw [HRF.out, HT.out]
        exact ⟨rfl, hP9, hF9⟩
end Go.Proofs.YtndehkoglgakpaaGreatDoor
