/- Gates. No condition but the lengths. -/
import Derived.Test.YtdiaejdoglccoaaGat
namespace Go.Proofs.Ytdiaejdoglccoaa
open Go.RowKit Go.Deep Tr

namespace Gr
/-- There is a chain between two nodes of a valid graph. -/
def Led (g : Gph) (f t : Int) : Prop := chk g = 0 ∧ isN g f = true ∧ isN g t = true ∧ ∃ k, Wk (row false g.es) [t] (-1) k f.toNat
theorem chn_ok {g : Gph} {f t : Int} {l : List Int} (h : Chn g f t l true) : Led g f t := by
  unfold Chn at h
  by_cases hc : chk g = 0 ∧ isN g f = true ∧ isN g t = true
  · rw [if_pos hc] at h
    obtain ⟨L, hL, h⟩ := h
    by_cases h0 : 0 ≤ L f.toNat
    · exact ⟨hc.1, hc.2.1, hc.2.2, _, hL.snd _ h0⟩
    · rw [if_neg h0] at h; cases h.1
  · rw [if_neg hc] at h; cases h.1
theorem chn_no {g : Gph} {f t : Int} {l : List Int} (h : Chn g f t l false) : ¬ Led g f t := by
  rintro ⟨h1, h2, h3, k, hk⟩
  unfold Chn at h
  rw [if_pos ⟨h1, h2, h3⟩] at h
  obtain ⟨L, hL, h⟩ := h
  rw [if_pos (hL.all k _ hk).1] at h
  cases h.1
/-- What Gates finds. -/
def Gts (g : Gph) (f t : Int) (l : List Int) : Prop := (Led g f t → ∃ p : Nat → Bool, (∀ m, p m = true ↔ ¬ ∃ k, Wk (row true g.es) [f] (m : Int) k t.toNat) ∧ l = chs p g.ns.length) ∧ (¬ Led g f t → l = [])
theorem isN_lt {g : Gph} {a : Int} (h : isN g a = true) : 0 ≤ a ∧ a < (g.ns.length : Int) := by
  unfold isN at h
  rwa [Bool.and_eq_true, decide_eq_true_eq, decide_eq_true_eq] at h
end Gr
def GotG (w : World) (g : Gph) (f t : Int) : Ending → World → Prop := fun e w' => ∃ v, e = .returned v ∧ ∃ l, Gr.Gts g f t l ∧ w'.ownsRow w.heap.size 3 1 v l.length (Gr.insV l) ∧ Below w.heap.size w w'
set_option maxHeartbeats 16000000 in
set_option maxRecDepth 100000 in
theorem gates_any (g : Gph) (f t : Int) (A B : Option Addr) (c d : Nat) (w : World) (hA : GrAt w A B g) :
    Calls Try.prog 22 #[grV A B c d g, .int .i64 f, .int .i64 t] w (GotG w g f t) := by
  obtain ⟨W, hW⟩ : ∃ W, W = ((w.alloc (grO A B c d g)).alloc (.cells #[.int .i64 f] 3)).alloc (.cells #[.int .i64 t] 3) := ⟨_, rfl⟩
  have hb0 : Below w.heap.size w W := by rw [hW]; exact (((Below.refl _ _).alloc (Nat.le_refl _) _).alloc (by simp) _).alloc (by simp; omega) _
  have hG : W.heap[w.heap.size]? = some (grO A B c d g) := by
    rw [hW]
    exact (blk_alloc_lt _ _ _ (by simp; omega)).trans ((blk_alloc_lt _ _ _ (by simp)).trans (heap_alloc_new w _))
  have hF : W.heap[w.heap.size + 1]? = some (.cells #[.int .i64 f] 3 (0, 0)) := by
    have h := heap_alloc_new (w.alloc (grO A B c d g)) (.cells #[.int .i64 f] 3)
    rw [show (w.alloc (grO A B c d g)).heap.size = w.heap.size + 1 by simp] at h
    rw [hW]
    exact (blk_alloc_lt _ _ _ (by simp)).trans h
  have hT : W.heap[w.heap.size + 2]? = some (.cells #[.int .i64 t] 3 (0, 0)) := by
    have h := heap_alloc_new ((w.alloc (grO A B c d g)).alloc (.cells #[.int .i64 f] 3)) (.cells #[.int .i64 t] 3)
    rw [show ((w.alloc (grO A B c d g)).alloc (.cells #[.int .i64 f] 3)).heap.size = w.heap.size + 2 by simp] at h
    rw [hW]
    exact h
  obtain ⟨q0, q1⟩ := gb_cells hG
  have qf : W.cell? ⟨w.heap.size + 1, 0, none⟩ = some (.int .i64 f) := by rw [cell_of_row _ _ _ _ _ _ hF]; rfl
  have qt : W.cell? ⟨w.heap.size + 2, 0, none⟩ = some (.int .i64 t) := by rw [cell_of_row _ _ _ _ _ _ hT]; rfl
  have HA := Lib.hid hA
  have cc := chain_any g f t A B c d W (hA.next hb0)
  clear hA
  go_enter Try.func22, Try.ntmps22
  go_upto_region 1 with (fail)
  rw [← hW]
  clear hW
  go_wp2_with fail
  with_reducible refine cc.mono ?_
  clear cc
  rintro e w1 ⟨v1, ok, rfl, l1, hC, _, hb1⟩
  have hG1 := (hb1.block _ (blk_lt hG)).trans hG
  have hF1 := (hb1.block _ (blk_lt hF)).trans hF
  have hT1 := (hb1.block _ (blk_lt hT)).trans hT
  have hb01 := hb0.trans (hb1.mono hb0.size)
  clear hb1 hb0 hG hF hT q0 q1 qf qt
  cases ok with
  | false =>
    have HR := Lib.hid (show Gr.Gts g f t [] from ⟨fun h => absurd h (Gr.chn_no hC), fun _ => rfl⟩)
    clear hC hG1 hF1 hT1
    go_wp2_with fail
    first | go_ret3 | go_ret2 | go_ret
    exact ⟨_, rfl, [], HR.out, World.ownsRow_nil _ _ _ _, hb01⟩
  | true =>
  have hLed := Gr.chn_ok hC
  have HOk := Lib.hid (Gr.chk_ok hLed.1)
  have h1 := Gr.isN_lt hLed.2.1
  have h2 := Gr.isN_lt hLed.2.2.1
  have HLed := Lib.hid hLed
  clear hC hLed
  obtain ⟨fn, rfl⟩ : ∃ n : Nat, f = (n : Int) := ⟨f.toNat, by omega⟩
  obtain ⟨tn, rfl⟩ : ∃ n : Nat, t = (n : Int) := ⟨t.toNat, by omega⟩
  have hfl : fn < g.ns.length := by omega
  have htl : tn < g.ns.length := by omega
  clear h1 h2
  have cw := ways_forward g A B c d w1 (HA.out.next hb01) HOk.out.nl HOk.out.el (HOk.out.ed true)
  obtain ⟨q0, q1⟩ := gb_cells hG1
  go_wp2_with fail
  with_reducible refine cw.mono ?_
  clear cw
  rintro e w3 ⟨g0, rfl, hWs, hb3⟩
  have hG3 := (hb3.block _ (blk_lt hG1)).trans hG1
  have hF3 := (hb3.block _ (blk_lt hF1)).trans hF1
  have hT3 := (hb3.block _ (blk_lt hT1)).trans hT1
  have hb03 := hb01.trans (hb3.mono hb01.size)
  clear hb3 hb01 hG1 hF1 hT1 q0 q1
  have hb4 : Below w3.heap.size w3 (w3.alloc (.cells #[.slice (some ⟨g0, 0, none⟩) g.ns.length g.ns.length] 48)) := (Below.refl _ _).alloc (Nat.le_refl _) _
  have hX := heap_alloc_new w3 (.cells #[.slice (some ⟨g0, 0, none⟩) g.ns.length g.ns.length] 48)
  have hG4 := (hb4.block _ (blk_lt hG3)).trans hG3
  have hb04 := hb03.trans (hb4.mono hb03.size)
  have ch := chooseGat_any g A B c d w3.heap.size (w.heap.size + 1) (w.heap.size + 2) g0 fn tn _ _ (w3.alloc (.cells #[.slice (some ⟨g0, 0, none⟩) g.ns.length g.ns.length] 48)) HOk.out.nl ⟨hX, (hb4.block _ (blk_lt hF3)).trans hF3, (hb4.block _ (blk_lt hT3)).trans hT3, hWs.next hb4⟩ hfl htl (HOk.out.rows true)
  obtain ⟨q0, q1⟩ := gb_cells hG4
  clear hb4 hX hG3 hF3 hT3 hWs hb03
  go_wp2_with fail
  with_reducible refine ch.mono ?_
  clear ch
  rintro e w6 ⟨v, rfl, hown, hb6⟩
  have HO := Lib.hid (own_mono hown hb04.size)
  have HB := Lib.hid (hb04.trans (hb6.mono hb04.size))
  have HR := Lib.hid (show Gr.Gts g (fn : Int) (tn : Int) _ from ⟨fun _ => ⟨_, fun m => by rw [Int.toNat_natCast]; exact @decide_eq_true_iff _ (Classical.propDecidable _), rfl⟩, fun h => absurd HLed.out h⟩)
  clear hown hb6 hb04 hG4 q0 q1
  go_wp2_with fail
  first | go_ret3 | go_ret2 | go_ret
  exact ⟨_, rfl, _, HR.out, HO.out, HB.out⟩
end Go.Proofs.Ytdiaejdoglccoaa
