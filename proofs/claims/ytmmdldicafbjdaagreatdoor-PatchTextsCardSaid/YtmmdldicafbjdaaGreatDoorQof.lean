/- The patch that keeps the lines of some pairs, of the reference. No condition but the lengths. -/
import Derived.Test.YtmmdldicafbjdaaGreatDoorKee
import Derived.Test.YtmmdldicafbjdaaGreatDoorPm1
import Derived.Deep.RegionHeld3
namespace Go.Proofs.YtmmdldicafbjdaaGreatDoor
open Go.RowKit Go.Deep Tr

theorem own_none (w : World) (B : Nat) (hB : B ≤ w.heap.size) (T : TypeId) (size : Nat) : (w.alloc (.cells #[] T)).ownsRow B T size (.slice (some ⟨w.heap.size, 0, none⟩) 0 0) 0 [] :=
  ⟨by simp, .inr ⟨w.heap.size, 0, #[], rfl, hB, heap_alloc_new w _, Nat.le_refl _, by unfold maxLen; omega, by simp, by simp⟩⟩
/-- What Of has by now. -/
structure Cb (w : World) (B pb r0 : Nat) (base : List UInt8) (l : List Hc) (v : Value) : Prop where
  pat : w.heap[pb]? = some (.cells #[.string (str base), v] 24 (0, 0))
  res : w.heap[r0]? = some (.cells #[.string ⟨#[]⟩, .slice none 0 0] 24 (0, 0))
  row : w.ownsRow B 47 3 v l.length (hcsV l)
  lns : ∀ x ∈ l, LnS w x
  lop : B ≤ pb
  ner : r0 ≠ pb
theorem Cb.next {w w' : World} {B pb r0 : Nat} {base : List UInt8} {l : List Hc} {v : Value} (h : Cb w B pb r0 base l v) (hb : Below w.heap.size w w') : Cb w' B pb r0 base l v :=
  ⟨(hb.block _ (blk_lt h.pat)).trans h.pat, (hb.block _ (blk_lt h.res)).trans h.res, owns_below h.row hb, fun x hx => (h.lns x hx).keep (KeptS.of hb), h.lop, h.ner⟩
theorem Cb.add {w W w6 : World} {B pb r0 : Nat} {base : List UInt8} {l : List Hc} (x : Hc) {v : Value} {gg cap : Nat} (h : Cb w B pb r0 base l v) (hb : Below w.heap.size w W) (hB : B ≤ w.heap.size)
    (h6 : w6.ownsRow B 47 3 (.slice (some ⟨gg, 0, none⟩) (l.length + 1) cap) (l.length + 1) (hcsV (l ++ [x]))) (hg : W.grownBy w6 v.ownBlock) (hx : LnS W x) :
    Cb (w6.setCell ⟨pb, 1, none⟩ (.slice (some ⟨gg, 0, none⟩) (l.length + 1) cap)) B pb r0 base (l ++ [x]) (.slice (some ⟨gg, 0, none⟩) (l.length + 1) cap) ∧ Below B w (w6.setCell ⟨pb, 1, none⟩ (.slice (some ⟨gg, 0, none⟩) (l.length + 1) cap)) ∧ w6.cell? ⟨pb, 1, none⟩ = some v ∧ w6.frozen? ⟨pb, 1, none⟩ = false ∧ KeptS w (w6.setCell ⟨pb, 1, none⟩ (.slice (some ⟨gg, 0, none⟩) (l.length + 1) cap)) := by
  have ho := owns_below h.row hb
  have hpW := (hb.block _ (blk_lt h.pat)).trans h.pat
  have hrW := (hb.block _ (blk_lt h.res)).trans h.res
  have p6 := blk_grown0 hpW hg (own_far ho hpW (by decide))
  have r6 := blk_grown0 hrW hg (own_far ho hrW (by decide))
  have k1 : KeptS W w6 := KeptS.grown hg ho
  have k6 : KeptS w w6 := (KeptS.of hb).trans k1
  have k7 : KeptS w6 (w6.setCell ⟨pb, 1, none⟩ (.slice (some ⟨gg, 0, none⟩) (l.length + 1) cap)) := KeptS.set p6 (.inr rfl)
  have B6 : Below B w w6 := (hb.mono hB).trans ⟨hg.os, hg.tape, hg.output, hg.size, fun k hk => hg.block k (by have := hb.size; omega) (fun e => by have := (ho.lt k e.symm).1; omega)⟩
  refine ⟨⟨heap_setCell_same w6 pb 1 _ _ _ p6, (blk_setCell_other _ _ _ _ (show r0 ≠ pb from h.ner)).trans r6, ?_, fun z hz => ?_, h.lop, h.ner⟩, B6.setCell (p := ⟨pb, 1, none⟩) h.lop _, by rw [cell_of_row _ _ _ _ _ _ p6]; rfl, frozen_of_row w6 pb 1 _ _ p6, k6.trans k7⟩
  · rw [List.length_append, List.length_singleton]
    refine h6.kept (row := some pb) ⟨rfl, rfl, rfl, by simp, fun k _ hk => heap_setCell_other w6 ⟨pb, 1, none⟩ k _ (fun e => hk (by rw [e]))⟩ (.inr ?_)
    exact own_far h6 p6 (by decide)
  · rcases List.mem_append.1 hz with hz | hz
    · exact (h.lns z hz).keep (k6.trans k7)
    · rw [List.mem_singleton.1 hz]
      exact hx.keep (k1.trans k7)
theorem Cb.hsT {w : World} {B pb r0 : Nat} {base : List UInt8} {l : List Hc} {v : Value} (h : Cb w B pb r0 base l v) : ∃ A c, v = .slice A (l.map (·.h)).length c ∧ HsT w A (l.map (·.h)) := by
  rcases h.row.2 with ⟨rfl, h0⟩ | ⟨g, cap, cur, rfl, hb, hg, h1, h2, _, ht⟩
  · have : l = [] := List.length_eq_zero_iff.1 h0
    subst this
    exact ⟨none, 0, rfl, fun k hk => by simp at hk⟩
  · refine ⟨some ⟨g, 0, none⟩, cap, by rw [List.length_map], fun k hk => ?_⟩
    have hk' : k < l.length := by simpa using hk
    refine ⟨g, 0, cur, (0, 0), l[k], rfl, hg, by rw [List.getElem_map], fun i u hu => ?_, h.lns l[k] (List.getElem_mem hk')⟩
    have hi : i < 3 := (List.getElem?_eq_some_iff.1 hu).1
    have e := hcsV_at l k i hk' hi
    rw [← ht, List.getElem?_take, if_pos (by omega), hu] at e
    rw [Nat.zero_add, ← Array.getElem?_toList]; exact e
theorem Cb.last {w : World} {B pb r0 : Nat} {base : List UInt8} {l : List Hc} {x : Hc} {v : Value} (h : Cb w B pb r0 base (l ++ [x]) v) : ∃ g cap, v = .slice (some ⟨g, 0, none⟩) (l.length + 1) cap ∧ g < w.heap.size ∧ (∀ i u, (hcV x)[i]? = some u → w.cell? ⟨g, l.length * 3 + i, none⟩ = some u) ∧ (∀ j, w.frozen? ⟨g, j, none⟩ = false) := by
  have hr := h.row
  have hl : (l ++ [x]).length = l.length + 1 := by simp
  rcases hr.2 with ⟨_, h0⟩ | ⟨g, cap, cur, rfl, hb, hg, h1, h2, _, _⟩
  · omega
  · refine ⟨g, cap, by rw [hl], (Array.getElem?_eq_some_iff.1 hg).1, fun i u hu => ?_, fun j => hr.frozenAt j⟩
    have hi : i < 3 := (List.getElem?_eq_some_iff.1 hu).1
    rw [hr.cellAt _ (by rw [hl]; omega), hcsV_last, hu]
theorem Cb.set {w : World} {B pb r0 : Nat} {base : List UInt8} {l : List Hc} {x : Hc} {n g cap : Nat} (h : Cb w B pb r0 base (l ++ [x]) (.slice (some ⟨g, 0, none⟩) n cap)) (i : Nat) (u : Value) (y : Hc) (he : (hcV x).set i u = hcV y) (hy : LnS w y) :
    Cb (w.setCell ⟨g, l.length * 3 + i, none⟩ u) B pb r0 base (l ++ [y]) (.slice (some ⟨g, 0, none⟩) n cap) ∧ Below B w (w.setCell ⟨g, l.length * 3 + i, none⟩ u) ∧ KeptS w (w.setCell ⟨g, l.length * 3 + i, none⟩ u) := by
  have ho := h.row
  have hn : n = (l ++ [x]).length := by
    rcases ho.2 with ⟨e, _⟩ | ⟨g', cap', cur, e, _⟩
    · cases e
    · injection e
  subst hn
  obtain ⟨cs, hgb⟩ : ∃ cs, w.heap[g]? = some (.cells cs 47 (0, 0)) := by
    rcases ho.2 with ⟨e, _⟩ | ⟨g', cap', cur, e, _, hg, _⟩
    · cases e
    · injection e with e1
      injection e1 with e1
      injection e1 with e1
      subst e1
      exact ⟨cur, hg⟩
  have hgB : B ≤ g := (ho.lt g rfl).1
  have hst := ho.stored (l.length * 3 + i) u
  have hk : KeptS w (w.setCell ⟨g, l.length * 3 + i, none⟩ u) := KeptS.set hgb (.inl rfl)
  have ne : ∀ q cs', w.heap[q]? = some (.cells cs' 24 (0, 0)) → q ≠ g := fun q cs' hq e => by
    rw [e, hgb] at hq
    simp only [Option.some.injEq, Obj.cells.injEq] at hq
    exact absurd hq.2.1 (by decide)
  refine ⟨⟨(blk_setCell_other _ _ _ _ (show pb ≠ g from ne _ _ h.pat)).trans h.pat, (blk_setCell_other _ _ _ _ (show r0 ≠ g from ne _ _ h.res)).trans h.res, ?_, fun z hz => ?_, h.lop, h.ner⟩, (Below.refl B w).setCell (p := ⟨g, l.length * 3 + i, none⟩) hgB _, hk⟩
  · have h1 := hst.1
    rw [hcsV_set, he, ← hcsV_one y, ← hcsV_app] at h1
    rw [show (l ++ [y]).length = (l ++ [x]).length by simp]
    exact h1
  · rcases List.mem_append.1 hz with hz | hz
    · exact (h.lns z (List.mem_append_left _ hz)).keep hk
    · rw [List.mem_singleton.1 hz]; exact hy.keep hk
/-- What returns a patch alone. -/
def GotOf (w : World) (R : Pc.Pa) : Ending → World → Prop := fun e w' => ∃ A c, e = .returned (paV R A c) ∧ HsT w' A R.hs ∧ Below w.heap.size w w'
def dropH (d : Nat) : List Pc.Hk := if d = 0 then [] else [⟨2, (d : Int), []⟩]
theorem pend_def (d : Nat) (ls : List (List UInt8)) : Pc.pend d ls = dropH d ++ (if ls = [] then [] else [⟨3, (ls.length : Int), ls⟩]) := rfl
/-- The hunk as it is laid. -/
def ofO (Y j gg cap : Nat) : Obj := .cells #[.int .i64 3, .int .i64 ((Y : Int) - (j : Int)), .slice (some ⟨gg, 0, none⟩) (Y - j) cap] 47
theorem ofO_def (Y j gg cap : Nat) : ofO Y j gg cap = .cells #[.int .i64 3, .int .i64 ((Y : Int) - (j : Int)), .slice (some ⟨gg, 0, none⟩) (Y - j) cap] 47 := rfl
/-- Behind the lines' copy. -/
structure OfI (w wc w6 : World) (q Y j gg cap : Nat) (base : List UInt8) (l1 : List Hc) (v1 : Value) (seg : List (List UInt8)) : Prop where
  b6 : Below wc.heap.size wc w6
  c6 : Cb w6 w.heap.size (w.heap.size + 1) w.heap.size base l1 v1
  p16 : w6.cell? ⟨w.heap.size + 1, 1, none⟩ = some v1
  e16 : w6.cell? ⟨q, 1, none⟩ = some (.int .i64 (Y : Int))
  pW : (w6.alloc (.cells #[.int .i64 3, .int .i64 ((Y : Int) - (j : Int)), .slice (some ⟨gg, 0, none⟩) (Y - j) cap] 47)).cell? ⟨w.heap.size + 1, 1, none⟩ = some v1
  eW : (w6.alloc (.cells #[.int .i64 3, .int .i64 ((Y : Int) - (j : Int)), .slice (some ⟨gg, 0, none⟩) (Y - j) cap] 47)).cell? ⟨q, 1, none⟩ = some (.int .i64 (Y : Int))
  size : w.heap.size ≤ w6.heap.size
  own : w6.ownsRow wc.heap.size 9 1 (.slice (some ⟨gg, 0, none⟩) (0 + (Y - j)) cap) (0 + (Y - j)) ([] ++ strs seg)
end Go.Proofs.YtmmdldicafbjdaaGreatDoor
