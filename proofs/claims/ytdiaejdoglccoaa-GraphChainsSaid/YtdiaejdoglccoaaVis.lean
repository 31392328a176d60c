/- The closure of lengths. No condition but the lengths. -/
import Derived.Test.YtdiaejdoglccoaaQue
namespace Go.Proofs.Ytdiaejdoglccoaa
open Go.RowKit Go.Deep Tr

namespace Gr
def visL (c : Int) (L : Nat → Int) (m : Nat) (len : Int) : Nat → Int := if L m < 0 ∧ (m : Int) ≠ c then fun j => if j = m then len else L j else L
def visQ (c : Int) (L : Nat → Int) (q : List Int) (m : Nat) : List Int := if L m < 0 ∧ (m : Int) ≠ c then q ++ [(m : Int)] else q
end Gr
/-- The variables of lengths where they lie: the labels, the closed node, the queue. -/
structure VAt (w : World) (B lb cb qb gl n : Nat) (c : Int) (L : Nat → Int) (q : List Int) : Prop where
  ex : ∃ v, w.heap[qb]? = some (.cells #[v] 29 (0, 0)) ∧ QAt w B v q ∧ v.ownBlock ≠ some gl ∧ v.ownBlock ≠ some cb
  lv : w.heap[lb]? = some (.cells #[.slice (some ⟨gl, 0, none⟩) n n] 29 (0, 0))
  cv : w.heap[cb]? = some (.cells #[.int .i64 c] 3 (0, 0))
  row : w.rowIs gl 3 n (fun i => .int .i64 (L i))
  ne1 : cb ≠ gl
  ne2 : lb ≠ qb
  b1 : B ≤ qb
  b2 : B ≤ gl
theorem VAt.same {w w' : World} {B lb cb qb gl n : Nat} {c : Int} {L : Nat → Int} {q : List Int} (h : VAt w B lb cb qb gl n c L q) (hb : ∀ g, g < w.heap.size → w'.heap[g]? = w.heap[g]?) : VAt w' B lb cb qb gl n c L q := by
  obtain ⟨⟨v, h1, h2, h3, h4⟩, h5, h6, h7, h8, h9, h10, h11⟩ := h
  exact ⟨⟨v, (hb _ (blk_lt h1)).trans h1, h2.same fun g hg => hb g (h2.lt g hg).1, h3, h4⟩, (hb _ (blk_lt h5)).trans h5, (hb _ (blk_lt h6)).trans h6, h7.of_block (hb _ h7.lt), h8, h9, h10, h11⟩
/-- A label is stored. -/
theorem VAt.label {w : World} {B lb cb qb gl n : Nat} {c : Int} {L : Nat → Int} {q : List Int} (h : VAt w B lb cb qb gl n c L q) (m : Nat) (x : Int) : VAt (w.setCell ⟨gl, m, none⟩ (.int .i64 x)) B lb cb qb gl n c (fun j => if j = m then x else L j) q := by
  obtain ⟨⟨v, h1, h2, h3, h4⟩, h5, h6, h7, h8, h9, h10, h11⟩ := h
  obtain ⟨cs, hr, _⟩ := id h7
  have o : ∀ k, k ≠ gl → (w.setCell ⟨gl, m, none⟩ (.int .i64 x)).heap[k]? = w.heap[k]? := fun k hk => heap_setCell_other w ⟨gl, m, none⟩ k _ hk
  refine ⟨⟨v, (o qb (kind_ne h1 hr (by decide))).trans h1, h2.same fun g hg => o g (fun e => h3 (by rw [hg, e])), h3, h4⟩, (o lb (kind_ne h5 hr (by decide))).trans h5, (o cb h8).trans h6, (h7.set m _).congr fun j _ => ?_, h8, h9, h10, h11⟩
  by_cases e : j = m
  · simp [e]
  · simp [e]
/-- The queue has grown and is stored. -/
theorem VAt.push {w w6 : World} {B lb cb qb gl n : Nat} {c : Int} {L : Nat → Int} {q q' : List Int} {v v' : Value} (h : VAt w B lb cb qb gl n c L q) (hv : w.heap[qb]? = some (.cells #[v] 29 (0, 0))) (hq : QAt w6 B v' q') (hg : w.grownBy w6 v.ownBlock) (hat : ∀ g, v'.ownBlock = some g → v.ownBlock = some g ∨ w.heap.size ≤ g) :
    VAt (w6.setCell ⟨qb, 0, none⟩ v') B lb cb qb gl n c L q' ∧ w6.heap[qb]? = some (.cells #[v] 29 (0, 0)) ∧ w6.heap[lb]? = some (.cells #[.slice (some ⟨gl, 0, none⟩) n n] 29 (0, 0)) := by
  obtain ⟨⟨v2, h1, h2, h3, h4⟩, h5, h6, h7, h8, h9, h10, h11⟩ := h
  rw [hv] at h1
  simp only [Option.some.injEq, Obj.cells.injEq, Array.mk.injEq, List.cons.injEq, and_true] at h1
  subst h1
  have k : ∀ (g : Nat) (c' : Array Value), w.heap[g]? = some (.cells c' 29 (0, 0)) → w6.heap[g]? = w.heap[g]? := fun g c' hx => hg.block g (blk_lt hx) fun e => by
    obtain ⟨_, _, cur, hc⟩ := h2.lt g e.symm
    exact kind_ne hx hc (by decide) rfl
  have q6 := (k qb _ hv).trans hv
  have l6 := (k lb _ h5).trans h5
  have c6 := (hg.block cb (blk_lt h6) (fun e => h4 e.symm)).trans h6
  have r6 := h7.of_block (hg.block gl h7.lt (fun e => h3 e.symm))
  obtain ⟨cs, hr, _⟩ := id r6
  have o : ∀ g, g ≠ qb → (w6.setCell ⟨qb, 0, none⟩ v').heap[g]? = w6.heap[g]? := fun g hk => heap_setCell_other w6 ⟨qb, 0, none⟩ g _ hk
  refine ⟨⟨⟨v', heap_setCell_same w6 qb 0 _ _ v' q6, hq.same fun g hg2 => o g (fun e => ?_), fun e => ?_, fun e => ?_⟩, (o lb h9).trans l6, (o cb (kind_ne c6 q6 (by decide))).trans c6, r6.of_block (o gl (kind_ne hr q6 (by decide))), h8, h9, h10, h11⟩, q6, l6⟩
  · subst e
    obtain ⟨_, _, cur, hc⟩ := hq.lt g hg2
    exact kind_ne q6 hc (by decide) rfl
  · rcases hat gl e with h | h
    · exact h3 h
    · have := h7.lt; omega
  · rcases hat cb e with h | h
    · exact h4 h
    · have := blk_lt h6; omega
set_option maxHeartbeats 4000000 in
set_option maxRecDepth 100000 in
theorem visit_any (m : Nat) (x : Int) (B lb cb qb gl n : Nat) (c : Int) (L : Nat → Int) (q : List Int) (w : World) (hm : m < n) (h : VAt w B lb cb qb gl n c L q) (hq : q.length ≤ 100000) (hB : B ≤ w.heap.size) :
    Calls Try.prog 57 #[.int .i64 m, .int .i64 x, .pointer (some ⟨lb, 0, none⟩), .pointer (some ⟨cb, 0, none⟩), .pointer (some ⟨qb, 0, none⟩)] w fun e w' => e = .returned (.tuple #[]) ∧ VAt w' B lb cb qb gl n c (Gr.visL c L m x) (Gr.visQ c L q m) ∧ Below B w w' := by
  obtain ⟨i0, hi0, hz0, hz1, hz2⟩ := info_parts infoIn
  have y1 : (m : Int) < (n : Int) := by omega
  obtain ⟨v, hqv, hqa, hn1, hn2⟩ := h.ex
  have e1 : w.cell? ⟨lb, 0, none⟩ = some (.slice (some ⟨gl, 0, none⟩) n n) := by rw [cell_of_row _ _ _ _ _ _ h.lv]; rfl
  have e2 : w.cell? ⟨cb, 0, none⟩ = some (.int .i64 c) := by rw [cell_of_row _ _ _ _ _ _ h.cv]; rfl
  have e3 : w.cell? ⟨gl, m, none⟩ = some (.int .i64 (L m)) := h.row.cell hm
  have f3 : w.frozen? ⟨gl, m, none⟩ = false := h.row.frozen m
  have HL := Lib.hid (show Gr.visL c L m x = if L m < 0 ∧ (m : Int) ≠ c then fun j => if j = m then x else L j else L from rfl)
  have HQ := Lib.hid (show Gr.visQ c L q m = if L m < 0 ∧ (m : Int) ≠ c then q ++ [(m : Int)] else q from rfl)
  generalize Gr.visL c L m x = L' at *
  generalize Gr.visQ c L q m = q' at *
  have H := Lib.hid h
  have hVL := h.label m x
  clear h
  by_cases hneg : L m < 0
  · have d1 : decide (L m < 0) = true := decide_eq_true hneg
    by_cases hc : (m : Int) = c
    · have d2 : ((m : Int) != c) = false := by rw [hc]; simp
      have HT := Lib.hid (show L' = L ∧ q' = q from ⟨by rw [HL.out, if_neg (fun h => h.2 hc)], by rw [HQ.out, if_neg (fun h => h.2 hc)]⟩)
      clear HL HQ hVL hc hneg hqv hqa hn1 hn2
      go_enter Try.func57, Try.ntmps57
      go_wp2_with fail
      go_end0
      exact ⟨rfl, by rw [HT.out.1, HT.out.2]; exact H.out, Below.refl _ _⟩
    · have d2 : ((m : Int) != c) = true := by rw [bne_iff_ne]; exact hc
      have HT := Lib.hid (show (L' = fun j => if j = m then x else L j) ∧ q' = q ++ [(m : Int)] from ⟨by rw [HL.out, if_pos ⟨hneg, hc⟩], by rw [HQ.out, if_pos ⟨hneg, hc⟩]⟩)
      have hb1 : Below B w (w.setCell ⟨gl, m, none⟩ (.int .i64 x)) := (Below.refl _ _).setCell (p := ⟨gl, m, none⟩) H.out.b2 _
      clear HL HQ hc hneg hqv hqa hn1 hn2
      obtain ⟨v, hqv, hqa, hn1, hn2⟩ := hVL.ex
      have e4 : (w.setCell ⟨gl, m, none⟩ (.int .i64 x)).cell? ⟨qb, 0, none⟩ = some v := by rw [cell_of_row _ _ _ _ _ _ hqv]; rfl
      go_enter Try.func57, Try.ntmps57
      go_upto_region 2 with (fail)
      generalize w.setCell ⟨gl, m, none⟩ (.int .i64 x) = w1 at *
      clear e1 e2 e3 f3
      have hVA := Lib.hid (hVL.same fun g hg => blk_alloc_lt w1 (.cells #[.int .i64 m] 3) g hg)
      have hqv5 := (blk_alloc_lt w1 (.cells #[.int .i64 m] 3) _ (blk_lt hqv)).trans hqv
      have hqa5 := hqa.same fun g hg => blk_alloc_lt w1 (.cells #[.int .i64 m] 3) g (hqa.lt g hg).1
      have hb5 := hb1.alloc (Nat.le_trans hB hb1.size) (.cells #[.int .i64 m] 3)
      have hnw := heap_alloc_new w1 (.cells #[.int .i64 m] 3)
      have hcn : (w1.alloc (.cells #[.int .i64 m] 3)).cell? ⟨w1.heap.size, 0, none⟩ = some (.int .i64 m) := by rw [cell_of_row _ _ _ _ _ _ hnw]; rfl
      have hsz := Nat.le_trans hB hb5.size
      have HVB := Lib.hid hVL.b1
      have HQL := Lib.hid hqa5.lt
      clear hVL hqv hqa hn1 hn2 hb1 hnw
      have HB5 := Lib.hid hb5
      clear hb5
      go_wp2_with (at_builtin; refine wpList_append_q (by rfl) _ _ 29 (by rfl) B i0 Try.underlying29 hi0 hz0 hz1 hz2 v q (by rfl) hqa5 ⟨w1.heap.size, 0, none⟩ m (by rfl) hcn hq hsz ?_; intro v6 w6 hq6 hg6 hat6; obtain ⟨ao6, cap6, hv6, _⟩ := hq6.ex; subst hv6; rw [show (q ++ [(m : Int)]).length = q.length + 1 by simp] at hq6 hat6; obtain ⟨V6, q6, l6⟩ := hVA.out.push hqv5 hq6 hg6 hat6; have c6 : w6.cell? ⟨qb, 0, none⟩ = some v := (by rw [cell_of_row _ _ _ _ _ _ q6]; rfl); have f6 := frozen_of_row w6 qb 0 _ _ q6; have HV6 := Lib.hid V6; have HB6 := Lib.hid (show Below B w (w6.setCell ⟨qb, 0, none⟩ (.slice ao6 (q.length + 1) cap6)) from (HB5.out.trans ⟨hg6.os, hg6.tape, hg6.output, hg6.size, fun k hk => hg6.block k (by omega) (fun e => by have := (HQL.out k e.symm).2.1; omega)⟩).setCell (p := ⟨qb, 0, none⟩) HVB.out _); clear V6 q6 l6 hq6 hg6 hat6)
      go_wp2_with fail
      go_end0
      exact ⟨rfl, by rw [HT.out.1, HT.out.2]; exact HV6.out, HB6.out⟩
  · have d1 : decide (L m < 0) = false := decide_eq_false hneg
    have HT := Lib.hid (show L' = L ∧ q' = q from ⟨by rw [HL.out, if_neg (fun h => hneg h.1)], by rw [HQ.out, if_neg (fun h => hneg h.1)]⟩)
    clear HL HQ hVL hneg hqv hqa hn1 hn2
    go_enter Try.func57, Try.ntmps57
    go_wp2_with fail
    go_end0
    exact ⟨rfl, by rw [HT.out.1, HT.out.2]; exact H.out, Below.refl _ _⟩
end Go.Proofs.Ytdiaejdoglccoaa
