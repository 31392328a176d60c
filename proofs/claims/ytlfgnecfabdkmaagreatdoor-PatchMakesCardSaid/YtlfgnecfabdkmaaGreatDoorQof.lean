/- The patch that keeps the lines of some pairs, of the reference. No condition but the lengths. -/
import Derived.Test.YtlfgnecfabdkmaaGreatDoorKee
import Derived.Test.YtlfgnecfabdkmaaGreatDoorInv
import Derived.Deep.RegionHeld3
namespace Go.Proofs.YtlfgnecfabdkmaaGreatDoor
open Go.RowKit Go.Deep Tr

theorem own_none (w : World) (B : Nat) (hB : B ≤ w.heap.size) (T : TypeId) (size : Nat) : (w.alloc (.cells #[] T)).ownsRow B T size (.slice (some ⟨w.heap.size, 0, none⟩) 0 0) 0 [] :=
  ⟨by simp, .inr ⟨w.heap.size, 0, #[], rfl, hB, heap_alloc_new w _, Nat.le_refl _, by unfold maxLen; omega, by simp, by simp⟩⟩
/-- What Of has by now. -/
structure Cb (w : World) (B pb r0 : Nat) (base : List UInt8) (l : List Hc) (v : Value) : Prop where
  pat : w.heap[pb]? = some (.cells #[.string (str base), v] 24 (0, 0))
  res : w.heap[r0]? = some (.cells #[.string ⟨#[]⟩, .slice none 0 0] 24 (0, 0))
  row : w.ownsRow B 54 3 v l.length (hcsV l)
  lns : ∀ x ∈ l, LnS w x
  lop : B ≤ pb
  ner : r0 ≠ pb
theorem Cb.next {w w' : World} {B pb r0 : Nat} {base : List UInt8} {l : List Hc} {v : Value} (h : Cb w B pb r0 base l v) (hb : Below w.heap.size w w') : Cb w' B pb r0 base l v :=
  ⟨(hb.block _ (blk_lt h.pat)).trans h.pat, (hb.block _ (blk_lt h.res)).trans h.res, owns_below h.row hb, fun x hx => (h.lns x hx).keep (KeptS.of hb), h.lop, h.ner⟩
theorem Cb.add {w W w6 : World} {B pb r0 : Nat} {base : List UInt8} {l : List Hc} (x : Hc) {v : Value} {gg cap : Nat} (h : Cb w B pb r0 base l v) (hb : Below w.heap.size w W) (hB : B ≤ w.heap.size)
    (h6 : w6.ownsRow B 54 3 (.slice (some ⟨gg, 0, none⟩) (l.length + 1) cap) (l.length + 1) (hcsV (l ++ [x]))) (hg : W.grownBy w6 v.ownBlock) (hx : LnS W x) :
    Cb (w6.setCell ⟨pb, 1, none⟩ (.slice (some ⟨gg, 0, none⟩) (l.length + 1) cap)) B pb r0 base (l ++ [x]) (.slice (some ⟨gg, 0, none⟩) (l.length + 1) cap) ∧ Below B w (w6.setCell ⟨pb, 1, none⟩ (.slice (some ⟨gg, 0, none⟩) (l.length + 1) cap)) ∧ w6.cell? ⟨pb, 1, none⟩ = some v ∧ w6.frozen? ⟨pb, 1, none⟩ = false ∧ KeptS w (w6.setCell ⟨pb, 1, none⟩ (.slice (some ⟨gg, 0, none⟩) (l.length + 1) cap)) := by
  have ho := owns_below h.row hb
  have hpW := (hb.block _ (blk_lt h.pat)).trans h.pat
  have hrW := (hb.block _ (blk_lt h.res)).trans h.res
  have p6 := blk_grown0 hpW hg (own_far ho hpW (by decide))
  have r6 := blk_grown0 hrW hg (own_far ho hrW (by decide))
  have k1 : KeptS W w6 := KeptS.grown hg ho
  have k6 : KeptS w w6 := (KeptS.of hb).trans k1
  have k7 : KeptS w6 (w6.setCell ⟨pb, 1, none⟩ (.slice (some ⟨gg, 0, none⟩) (l.length + 1) cap)) := KeptS.set p6 (.inr rfl)
  have B6 : Below B w w6 := (hb.mono hB).trans ⟨hg.os, hg.tape, hg.output, hg.size, fun k hk => hg.block k (by have := hb.size; omega) (fun e => by have := (ho.lt k e.symm).1; omega)⟩
  refine ⟨⟨heap_setCell_same w6 pb 1 _ _ _ p6, (blk_setCell_other _ _ _ _ (show r0 ≠ pb from h.ner)).trans r6, ?_, fun z hz => ?_, h.lop, h.ner⟩, B6.setCell (p := ⟨pb, 1, none⟩) h.lop _, by rw [cell_of_row _ _ _ _ _ _ p6]; rfl, frozen_of_row w6 pb 1 _ _ p6, k6.trans k7⟩
  · rw [List.length_append, List.length_singleton]
    refine h6.kept (row := some pb) ⟨rfl, rfl, rfl, by simp, fun k _ hk => heap_setCell_other w6 ⟨pb, 1, none⟩ k _ (fun e => hk (by rw [e]))⟩ (.inr ?_)
    exact own_far h6 p6 (by decide)
  · rcases List.mem_append.1 hz with hz | hz
    · exact (h.lns z hz).keep (k6.trans k7)
    · rw [List.mem_singleton.1 hz]
      exact hx.keep (k1.trans k7)
theorem Cb.hsT {w : World} {B pb r0 : Nat} {base : List UInt8} {l : List Hc} {v : Value} (h : Cb w B pb r0 base l v) : ∃ A c, v = .slice A (l.map (·.h)).length c ∧ HsT w A (l.map (·.h)) := by
  rcases h.row.2 with ⟨rfl, h0⟩ | ⟨g, cap, cur, rfl, hb, hg, h1, h2, _, ht⟩
  · have : l = [] := List.length_eq_zero_iff.1 h0
    subst this
    exact ⟨none, 0, rfl, fun k hk => by simp at hk⟩
  · refine ⟨some ⟨g, 0, none⟩, cap, by rw [List.length_map], fun k hk => ?_⟩
    have hk' : k < l.length := by simpa using hk
    refine ⟨g, 0, cur, (0, 0), l[k], rfl, hg, by rw [List.getElem_map], fun i u hu => ?_, h.lns l[k] (List.getElem_mem hk')⟩
    have hi : i < 3 := (List.getElem?_eq_some_iff.1 hu).1
    have e := hcsV_at l k i hk' hi
    rw [← ht, List.getElem?_take, if_pos (by omega), hu] at e
    rw [Nat.zero_add, ← Array.getElem?_toList]; exact e
theorem Cb.last {w : World} {B pb r0 : Nat} {base : List UInt8} {l : List Hc} {x : Hc} {v : Value} (h : Cb w B pb r0 base (l ++ [x]) v) : ∃ g cap, v = .slice (some ⟨g, 0, none⟩) (l.length + 1) cap ∧ g < w.heap.size ∧ (∀ i u, (hcV x)[i]? = some u → w.cell? ⟨g, l.length * 3 + i, none⟩ = some u) ∧ (∀ j, w.frozen? ⟨g, j, none⟩ = false) := by
  have hr := h.row
  have hl : (l ++ [x]).length = l.length + 1 := by simp
  rcases hr.2 with ⟨_, h0⟩ | ⟨g, cap, cur, rfl, hb, hg, h1, h2, _, _⟩
  · omega
  · refine ⟨g, cap, by rw [hl], (Array.getElem?_eq_some_iff.1 hg).1, fun i u hu => ?_, fun j => hr.frozenAt j⟩
    have hi : i < 3 := (List.getElem?_eq_some_iff.1 hu).1
    rw [hr.cellAt _ (by rw [hl]; omega), hcsV_last, hu]
theorem Cb.set {w : World} {B pb r0 : Nat} {base : List UInt8} {l : List Hc} {x : Hc} {n g cap : Nat} (h : Cb w B pb r0 base (l ++ [x]) (.slice (some ⟨g, 0, none⟩) n cap)) (i : Nat) (u : Value) (y : Hc) (he : (hcV x).set i u = hcV y) (hy : LnS w y) :
    Cb (w.setCell ⟨g, l.length * 3 + i, none⟩ u) B pb r0 base (l ++ [y]) (.slice (some ⟨g, 0, none⟩) n cap) ∧ Below B w (w.setCell ⟨g, l.length * 3 + i, none⟩ u) ∧ KeptS w (w.setCell ⟨g, l.length * 3 + i, none⟩ u) := by
  have ho := h.row
  have hn : n = (l ++ [x]).length := by
    rcases ho.2 with ⟨e, _⟩ | ⟨g', cap', cur, e, _⟩
    · cases e
    · injection e
  subst hn
  obtain ⟨cs, hgb⟩ : ∃ cs, w.heap[g]? = some (.cells cs 54 (0, 0)) := by
    rcases ho.2 with ⟨e, _⟩ | ⟨g', cap', cur, e, _, hg, _⟩
    · cases e
    · injection e with e1
      injection e1 with e1
      injection e1 with e1
      subst e1
      exact ⟨cur, hg⟩
  have hgB : B ≤ g := (ho.lt g rfl).1
  have hst := ho.stored (l.length * 3 + i) u
  have hk : KeptS w (w.setCell ⟨g, l.length * 3 + i, none⟩ u) := KeptS.set hgb (.inl rfl)
  have ne : ∀ q cs', w.heap[q]? = some (.cells cs' 24 (0, 0)) → q ≠ g := fun q cs' hq e => by
    rw [e, hgb] at hq
    simp only [Option.some.injEq, Obj.cells.injEq] at hq
    exact absurd hq.2.1 (by decide)
  refine ⟨⟨(blk_setCell_other _ _ _ _ (show pb ≠ g from ne _ _ h.pat)).trans h.pat, (blk_setCell_other _ _ _ _ (show r0 ≠ g from ne _ _ h.res)).trans h.res, ?_, fun z hz => ?_, h.lop, h.ner⟩, (Below.refl B w).setCell (p := ⟨g, l.length * 3 + i, none⟩) hgB _, hk⟩
  · have h1 := hst.1
    rw [hcsV_set, he, ← hcsV_one y, ← hcsV_app] at h1
    rw [show (l ++ [y]).length = (l ++ [x]).length by simp]
    exact h1
  · rcases List.mem_append.1 hz with hz | hz
    · exact (h.lns z (List.mem_append_left _ hz)).keep hk
    · rw [List.mem_singleton.1 hz]; exact hy.keep hk
/-- What returns a patch alone. -/
def GotOf (w : World) (R : Pc.Pa) : Ending → World → Prop := fun e w' => ∃ A c, e = .returned (paV R A c) ∧ HsT w' A R.hs ∧ Below w.heap.size w w'
def dropH (d : Nat) : List Pc.Hk := if d = 0 then [] else [⟨2, (d : Int), []⟩]
theorem pend_def (d : Nat) (ls : List (List UInt8)) : Pc.pend d ls = dropH d ++ (if ls = [] then [] else [⟨3, (ls.length : Int), ls⟩]) := rfl
/-- In front of the hunk that adds lines. -/
structure OfP (w wc : World) (q X Y i j k : Nat) (base : List UInt8) (l l1 : List Hc) (v1 : Value) (PD : List Pc.Hk) (seg : List (List UInt8)) : Prop where
  c : Cb wc w.heap.size (w.heap.size + 1) w.heap.size base l1 v1
  m : l1.map (·.h) = l.map (·.h) ++ dropH (X - i)
  blk : wc.heap[q]? = some (.cells #[.int .i64 (X : Int), .int .i64 (Y : Int)] 79 (0, 0))
  b : Below w.heap.size w wc
  len : l1.length ≤ l.length + 1
  n : ∀ x ∈ l1, 0 ≤ x.h.n ∧ x.h.n ≤ 1024 + (k : Int)
  sgl : seg.length = Y - j
  pd : PD = dropH (X - i) ++ [⟨3, (Y : Int) - (j : Int), seg⟩]
  jy : j < Y
  y : Y ≤ 1024
/-- The hunk as it is laid. -/
def ofO (Y j gg cap : Nat) : Obj := .cells #[.int .i64 3, .int .i64 ((Y : Int) - (j : Int)), .slice (some ⟨gg, 0, none⟩) (Y - j) cap] 54
theorem ofO_def (Y j gg cap : Nat) : ofO Y j gg cap = .cells #[.int .i64 3, .int .i64 ((Y : Int) - (j : Int)), .slice (some ⟨gg, 0, none⟩) (Y - j) cap] 54 := rfl
/-- Behind the lines' copy. -/
structure OfI (w wc w6 : World) (q Y j gg cap : Nat) (base : List UInt8) (l1 : List Hc) (v1 : Value) (seg : List (List UInt8)) : Prop where
  b6 : Below wc.heap.size wc w6
  c6 : Cb w6 w.heap.size (w.heap.size + 1) w.heap.size base l1 v1
  p16 : w6.cell? ⟨w.heap.size + 1, 1, none⟩ = some v1
  e16 : w6.cell? ⟨q, 1, none⟩ = some (.int .i64 (Y : Int))
  pW : (w6.alloc (.cells #[.int .i64 3, .int .i64 ((Y : Int) - (j : Int)), .slice (some ⟨gg, 0, none⟩) (Y - j) cap] 54)).cell? ⟨w.heap.size + 1, 1, none⟩ = some v1
  eW : (w6.alloc (.cells #[.int .i64 3, .int .i64 ((Y : Int) - (j : Int)), .slice (some ⟨gg, 0, none⟩) (Y - j) cap] 54)).cell? ⟨q, 1, none⟩ = some (.int .i64 (Y : Int))
  size : w.heap.size ≤ w6.heap.size
  own : w6.ownsRow wc.heap.size 9 1 (.slice (some ⟨gg, 0, none⟩) (0 + (Y - j)) cap) (0 + (Y - j)) ([] ++ strs seg)
theorem ofI_of {w wc w6 : World} {q X Y i j k gg cap : Nat} {base : List UInt8} {l l1 : List Hc} {v1 : Value} {PD : List Pc.Hk} {seg : List (List UInt8)} (h : OfP w wc q X Y i j k base l l1 v1 PD seg)
    (hown6 : w6.ownsRow wc.heap.size 9 1 (.slice (some ⟨gg, 0, none⟩) (0 + (Y - j)) cap) (0 + (Y - j)) ([] ++ strs seg)) (hgrow : (wc.drew.alloc (.cells #[] 9)).grownBy w6 (some wc.heap.size)) : OfI w wc w6 q Y j gg cap base l1 v1 seg := by
  have hb6 : Below wc.heap.size wc w6 := grown_own0 ((Below.refl wc.heap.size wc).drew.alloc (Nat.le_refl _) _) hgrow (fun kk hk => (by cases hk; exact Nat.le_refl _))
  have hC6 := h.c.next hb6
  have hbW := (Below.refl w6.heap.size w6).alloc (Nat.le_refl _) (.cells #[.int .i64 3, .int .i64 ((Y : Int) - (j : Int)), .slice (some ⟨gg, 0, none⟩) (Y - j) cap] 54)
  have hpW := (hbW.block _ (blk_lt hC6.pat)).trans hC6.pat
  have hq6 := (hb6.block _ (blk_lt h.blk)).trans h.blk
  exact ⟨hb6, hC6, by rw [cell_of_row _ _ _ _ _ _ hC6.pat]; rfl, by rw [cell_of_row _ _ _ _ _ _ hq6]; rfl, by rw [cell_of_row _ _ _ _ _ _ hpW]; rfl, by rw [cell_of_row _ _ _ _ _ _ ((hbW.block _ (blk_lt hq6)).trans hq6)]; rfl, Nat.le_trans h.b.size hb6.size, hown6⟩
theorem ofO_of {w wc w6 w7 : World} {q X Y i j k gg cap gg7 cap7 : Nat} {base : List UInt8} {l l1 : List Hc} {v1 : Value} {PD : List Pc.Hk} {seg : List (List UInt8)} (h : OfP w wc q X Y i j k base l l1 v1 PD seg) (hI : OfI w wc w6 q Y j gg cap base l1 v1 seg)
    (hown7 : w7.ownsRow w.heap.size 54 3 (.slice (some ⟨gg7, 0, none⟩) (l1.length + 1) cap7) (l1.length + 1) (hcsV l1 ++ [.int .i64 3, .int .i64 ((Y : Int) - (j : Int)), .slice (some ⟨gg, 0, none⟩) (Y - j) cap]))
    (hgrow7 : (w6.alloc (.cells #[.int .i64 3, .int .i64 ((Y : Int) - (j : Int)), .slice (some ⟨gg, 0, none⟩) (Y - j) cap] 54)).grownBy w7 v1.ownBlock) :
    w7.cell? ⟨w.heap.size + 1, 1, none⟩ = some v1 ∧ w7.frozen? ⟨w.heap.size + 1, 1, none⟩ = false ∧ w7.cell? ⟨q, 1, none⟩ = some (.int .i64 (Y : Int)) ∧ (w7.setCell ⟨w.heap.size + 1, 1, none⟩ (.slice (some ⟨gg7, 0, none⟩) (l1.length + 1) cap7)).cell? ⟨q, 1, none⟩ = some (.int .i64 (Y : Int)) ∧ ∃ (l2 : List Hc) (v2 : Value), Cb (w7.setCell ⟨w.heap.size + 1, 1, none⟩ (.slice (some ⟨gg7, 0, none⟩) (l1.length + 1) cap7)) w.heap.size (w.heap.size + 1) w.heap.size base l2 v2 ∧ l2.map (·.h) = l.map (·.h) ++ PD ∧ (w7.setCell ⟨w.heap.size + 1, 1, none⟩ (.slice (some ⟨gg7, 0, none⟩) (l1.length + 1) cap7)).heap[q]? = some (.cells #[.int .i64 (X : Int), .int .i64 (Y : Int)] 79 (0, 0)) ∧ Below w.heap.size w (w7.setCell ⟨w.heap.size + 1, 1, none⟩ (.slice (some ⟨gg7, 0, none⟩) (l1.length + 1) cap7)) ∧ l2.length ≤ l.length + 2 ∧ ∀ x ∈ l2, 0 ≤ x.h.n ∧ x.h.n ≤ 1024 + (k : Int) := by
  have hbW := (Below.refl w6.heap.size w6).alloc (Nat.le_refl _) (.cells #[.int .i64 3, .int .i64 ((Y : Int) - (j : Int)), .slice (some ⟨gg, 0, none⟩) (Y - j) cap] 54)
  have hown6 := hI.own
  rw [Nat.zero_add, List.nil_append, ← h.sgl] at hown6
  obtain ⟨A9, c9, he9, hln9⟩ := own_lns hown6
  injection he9 with he9 _ he9c
  subst he9 he9c
  have hx7 : w7.ownsRow w.heap.size 54 3 (.slice (some ⟨gg7, 0, none⟩) (l1.length + 1) cap7) (l1.length + 1) (hcsV (l1 ++ [⟨⟨3, (Y : Int) - (j : Int), seg⟩, some ⟨gg, 0, none⟩, cap⟩])) := by
    rw [hcsV_app, hcsV_one]
    unfold hcV
    rw [h.sgl]
    exact hown7
  obtain ⟨z1, z2, z3, z4, z5⟩ := hI.c6.add (W := w6.alloc (.cells #[.int .i64 3, .int .i64 ((Y : Int) - (j : Int)), .slice (some ⟨gg, 0, none⟩) (Y - j) cap] 54)) ⟨⟨3, (Y : Int) - (j : Int), seg⟩, some ⟨gg, 0, none⟩, cap⟩ hbW hI.size hx7 hgrow7 ((hln9 _ _).keep (KeptS.of hbW))
  have z6 := z5 _ _ _ _ ((hI.b6.block _ (blk_lt h.blk)).trans h.blk) (by decide) (by decide)
  have hne : q ≠ w.heap.size + 1 := fun e => by
    have h1 := h.blk
    have h2 := h.c.pat
    rw [e, h2] at h1
    simp only [Option.some.injEq, Obj.cells.injEq] at h1
    exact absurd h1.2.1 (by decide)
  have z7 : (w7.setCell ⟨w.heap.size + 1, 1, none⟩ (.slice (some ⟨gg7, 0, none⟩) (l1.length + 1) cap7)).cell? ⟨q, 1, none⟩ = some (.int .i64 (Y : Int)) := by rw [cell_of_row _ _ _ _ _ _ z6]; rfl
  refine ⟨z3, z4, (World.cell?_setCell_far w7 ⟨w.heap.size + 1, 1, none⟩ ⟨q, 1, none⟩ _ (Ne.symm hne)).symm.trans z7, z7, _, _, z1, by rw [List.map_append, h.m, h.pd, List.append_assoc]; rfl, z6, (h.b.trans (hI.b6.mono h.b.size)).trans z2, by have := h.len; simp; omega, fun x hx => ?_⟩
  rcases List.mem_append.1 hx with hx | hx
  · exact h.n x hx
  · have := h.jy; have := h.y
    rw [List.mem_singleton.1 hx]; show 0 ≤ (Y : Int) - j ∧ (Y : Int) - j ≤ _; omega
set_option maxHeartbeats 16000000 in
set_option maxRecDepth 100000 in
theorem qOf_any (base : List UInt8) (a b : List (List UInt8)) (K : List (Nat × Nat)) (AK A' : Option Addr) (cK c' : Nat) (w : World) (hK : PrAt w w.heap.size AK K) (hb' : CellsAt w w.heap.size A' (strs b)) (hM : Pc.Mat a b 0 0 K) (ha : a.length ≤ 1024) (hbl : b.length ≤ 1024) (hKl : K.length ≤ 1024) (hc' : b.length ≤ c') (hcm : c' ≤ maxLen) :
    Calls Tryz.prog 57 #[.string (str base), .int .i64 (a.length : Int), .slice AK K.length cK, .slice A' b.length c'] w (GotOf w ⟨base, Pc.keepHs [] a b 0 0 K⟩) := by
  have HR := Lib.hid (show Pc.keepHs [] a b 0 0 K = Pc.keepHs (([] : List Hc).map (·.h)) a b 0 0 (K.drop 0) from rfl)
  generalize Pc.keepHs [] a b 0 0 K = R at *
  obtain ⟨i0, hi0, hz0, hz1, hz2⟩ := info_parts infoS
  obtain ⟨ih, hih, hzh0, hzh1, hzh2⟩ := info_parts infoH
  have hb1 : Below w.heap.size w (w.alloc (.cells #[.string ⟨#[]⟩, .slice none 0 0] 24)) := (Below.refl _ _).alloc (Nat.le_refl _) _
  have hr1 := heap_alloc_new w (.cells #[.string ⟨#[]⟩, .slice none 0 0] 24)
  have hb2 : Below w.heap.size w ((w.alloc (.cells #[.string ⟨#[]⟩, .slice none 0 0] 24)).alloc (.cells #[.string (str base), .slice none 0 0] 24)) := hb1.alloc hb1.size _
  have hp2 := heap_alloc_new (w.alloc (.cells #[.string ⟨#[]⟩, .slice none 0 0] 24)) (.cells #[.string (str base), .slice none 0 0] 24)
  rw [show (w.alloc (.cells #[.string ⟨#[]⟩, .slice none 0 0] 24)).heap.size = w.heap.size + 1 by simp] at hp2
  have hr2 := (blk_alloc_lt (w.alloc (.cells #[.string ⟨#[]⟩, .slice none 0 0] 24)) (.cells #[.string (str base), .slice none 0 0] 24) w.heap.size (by simp)).trans hr1
  have HC0 := Lib.hid (show Cb ((w.alloc (.cells #[.string ⟨#[]⟩, .slice none 0 0] 24)).alloc (.cells #[.string (str base), .slice none 0 0] 24)) w.heap.size (w.heap.size + 1) w.heap.size base [] (.slice none 0 0) from ⟨hp2, hr2, World.ownsRow_nil _ _ _ _, fun x hx => by simp at hx, Nat.le_succ _, by omega⟩)
  have HB2 := Lib.hid hb2
  have HKA := Lib.hid hK
  have HBA := Lib.hid hb'
  have HM := Lib.hid (show Pc.Mat a b 0 0 (K.drop 0) from hM)
  clear hb1 hr1 hb2 hp2 hr2 hK hb' hM
  go_enter Tryz.func57, Tryz.ntmps57
  go_wp2_with fail
  generalize (w.alloc (.cells #[.string ⟨#[]⟩, .slice none 0 0] 24)).alloc (.cells #[.string (str base), .slice none 0 0] 24) = W at *
  go_loopw [10, 11, 12] (fun s10 s11 s12 wr => ∃ (k i j : Nat) (l : List Hc) (v : Value), s12 = .int .i64 k ∧ s10 = .int .i64 i ∧ s11 = .int .i64 j ∧ Cb wr w.heap.size (w.heap.size + 1) w.heap.size base l v ∧ Below w.heap.size w wr ∧ l.length ≤ 3 * k ∧ i ≤ 1025 ∧ j ≤ 1025 ∧ (∀ x ∈ l, 0 ≤ x.h.n ∧ x.h.n ≤ 1024 + (k : Int)) ∧ ((k ≤ K.length ∧ i ≤ a.length ∧ j ≤ b.length ∧ (∀ x, (l.map (·.h)).getLast? = some x → x.kind = 1) ∧ R = Pc.keepHs (l.map (·.h)) a b i j (K.drop k) ∧ Pc.Mat a b i j (K.drop k)) ∨ (k = K.length + 1 ∧ l.map (·.h) = R))) (fun _ _ s12 _ => K.length + 1 - (intOf s12).toNat)
  case atStart => exact ⟨0, 0, 0, [], .slice none 0 0, rfl, rfl, rfl, HC0.out, HB2.out, by simp, by omega, by omega, by simp, .inl ⟨by omega, by omega, by omega, by simp, HR.out, HM.out⟩⟩
  case round =>
    clear HC0 HB2 HR HM
    obtain ⟨k, i, j, l, v, rfl, rfl, rfl, hC, hb, hll, hi5, hj5, hn, hcase⟩ := hrel
    have HN := Lib.hid hn
    have HC := Lib.hid hC
    clear hn
    rcases hcase with ⟨hkK, hia, hjb, hlast, hR, hM⟩ | ⟨hkK, hR⟩
    · have HLA := Lib.hid hlast
      have HR := Lib.hid hR
      have HM := Lib.hid hM
      have b1 : decide ((k : Int) ≤ K.length) = true := decide_eq_true (by omega)
      have b1n : decide (k ≤ K.length) = true := decide_eq_true hkK
      have hbw := hb.alloc hb.size (.cells #[.int .i64 (a.length : Int), .int .i64 (b.length : Int)] 79)
      have hnew := heap_alloc_new wr (.cells #[.int .i64 (a.length : Int), .int .i64 (b.length : Int)] 79)
      have hbr : Below wr.heap.size wr (wr.alloc (.cells #[.int .i64 (a.length : Int), .int .i64 (b.length : Int)] 79)) := (Below.refl _ _).alloc (Nat.le_refl _) _
      clear hlast hR hM hC
      go_upto_if 30 with (fail)
      have HNW := Lib.hid hnew
      have HBR := Lib.hid hbr
      have f0 := frozen_of_row _ _ 0 _ _ hnew
      have f1 := frozen_of_row _ _ 1 _ _ hnew
      have e0 : (wr.alloc (.cells #[.int .i64 (a.length : Int), .int .i64 (b.length : Int)] 79)).cell? ⟨wr.heap.size, 0, none⟩ = some (.int .i64 (a.length : Int)) := by rw [cell_of_row _ _ _ _ _ _ hnew]; rfl
      have e1 : (wr.alloc (.cells #[.int .i64 (a.length : Int), .int .i64 (b.length : Int)] 79)).cell? ⟨wr.heap.size, 1, none⟩ = some (.int .i64 (b.length : Int)) := by rw [cell_of_row _ _ _ _ _ _ hnew]; rfl
      have HWR := Lib.hid (show w.heap.size ≤ wr.heap.size from hb.size)
      clear hnew hbr
      generalize wr.alloc (.cells #[.int .i64 (a.length : Int), .int .i64 (b.length : Int)] 79) = w3 at *
      generalize hq : wr.heap.size = q at *
      have HQ := Lib.hid hq
      clear hq
      go_cut [] (fun wx => ∃ X Y : Nat, wx.heap[q]? = some (.cells #[.int .i64 (X : Int), .int .i64 (Y : Int)] 79 (0, 0)) ∧ Below q wr wx ∧ ((∃ h : k < K.length, K[k] = (X, Y)) ∨ (k = K.length ∧ X = a.length ∧ Y = b.length)))
      case first =>
        by_cases hlt : k < K.length
        · have b2 : decide ((k : Int) < K.length) = true := decide_eq_true (by omega)
          have b2n : decide (k < K.length) = true := decide_eq_true hlt
          obtain ⟨g, o, rfl, hg, h0, h1⟩ := HKA.out k hlt
          have d0 := (hbw.cell (p := ⟨g, o + k * 2, none⟩) hg).trans h0
          have d1 := (hbw.cell (p := ⟨g, o + k * 2 + 1, none⟩) hg).trans h1
          obtain ⟨X, Y, hxy⟩ : ∃ X Y, K[k] = (X, Y) := ⟨_, _, rfl⟩
          rw [hxy] at d0 d1
          dsimp only at d0 d1
          have HXY := Lib.hid (show ∃ h : k < K.length, K[k] = (X, Y) from ⟨hlt, hxy⟩)
          clear h0 h1 hxy
          go_wp2_with fail
          go_meet
          refine ⟨X, Y, ?_, ?_, .inl HXY.out⟩
          · exact heap_setCell_same _ q 1 _ _ _ (heap_setCell_same _ q 0 _ _ _ HNW.out)
          · exact (HBR.out.setCell (p := ⟨q, 0, none⟩) (Nat.le_refl _) _).setCell (p := ⟨q, 1, none⟩) (Nat.le_refl _) _
        · have b2 : decide ((k : Int) < K.length) = false := decide_eq_false (by omega)
          have b2n : decide (k < K.length) = false := decide_eq_false hlt
          go_wp2_with fail
          go_meet
          exact ⟨a.length, b.length, HNW.out, HBR.out, .inr ⟨by omega, rfl, rfl⟩⟩
      case rest =>
      obtain ⟨X, Y, hblk, hbx, hXY⟩ := hcut
      have hXY2 : i ≤ X ∧ X ≤ a.length ∧ j ≤ Y ∧ Y ≤ b.length := by
        rcases hXY with ⟨h, e⟩ | ⟨_, e1, e2⟩
        · have hm := HM.out
          rw [List.drop_eq_getElem_cons h, e] at hm
          obtain ⟨m1, m2, m3, m4, _⟩ := Pc.mat_tail hm
          omega
        · omega
      obtain ⟨x1, x2, x3, x4⟩ := hXY2
      have HXY := Lib.hid hXY
      have hCx := HC.out.next (w' := wc) (by rw [HQ.out]; exact hbx)
      have hbwx : Below w.heap.size w wc := hb.trans (hbx.mono HWR.out)
      have HBX := Lib.hid hbx
      clear hbw f0 f1 e0 e1 HNW HBR hb HC hXY hbx
      have e0 : wc.cell? ⟨q, 0, none⟩ = some (.int .i64 (X : Int)) := by rw [cell_of_row _ _ _ _ _ _ hblk]; rfl
      have p1 : wc.cell? ⟨w.heap.size + 1, 1, none⟩ = some v := by rw [cell_of_row _ _ _ _ _ _ hCx.pat]; rfl
      have hWs := hbwx.size
      have HBK := Lib.hid hblk
      clear hblk
      go_upto_if 38 with (fail)
      go_cut [] (fun wx => ∃ (l1 : List Hc) (v1 : Value), Cb wx w.heap.size (w.heap.size + 1) w.heap.size base l1 v1 ∧ l1.map (·.h) = l.map (·.h) ++ dropH (X - i) ∧ wx.heap[q]? = some (.cells #[.int .i64 (X : Int), .int .i64 (Y : Int)] 79 (0, 0)) ∧ Below w.heap.size w wx ∧ l1.length ≤ l.length + 1 ∧ ∀ x ∈ l1, 0 ≤ x.h.n ∧ x.h.n ≤ 1024 + (k : Int))
      case first =>
        by_cases hix : i < X
        · have b2 : decide ((i : Int) < (X : Int)) = true := decide_eq_true (by omega)
          have b2n : decide (i < X) = true := decide_eq_true hix
          have HD := Lib.hid (show dropH (X - i) = [⟨2, (X : Int) - (i : Int), []⟩] by unfold dropH; rw [if_neg (by omega), show ((X - i : Nat) : Int) = (X : Int) - (i : Int) by omega])
          go_wp2_with (at_builtin; refine wpList_append_lies _ (by rfl) _ _ 22 (by rfl) w.heap.size 54 ih _ 3 40 Tryz.underlying22 hih hzh0 hzh1 hzh2 rfl (by omega) v l.length _ (by rfl) (hCx.row.alloc _) ⟨wc.heap.size, 0, none⟩ 1 1 [_, _, _] (by rfl) (by rfl) (World.news_of_block (cs := #[_, _, _]) (t := 54) (fr := (0, 0)) (heap_alloc_new wc _)) (by simp [Value.oneCell']) (by omega) (by unfold maxLen; omega) (by omega) (by simp; omega) (wc.heap.size + 1) (by simp) ?_; intro gg cap w6 hown6 hgrow hat hlt6; obtain ⟨z1, z2, z3, z4, z5⟩ := hCx.add (W := wc.alloc _) ⟨⟨2, (X : Int) - (i : Int), []⟩, none, 0⟩ ((Below.refl _ _).alloc (Nat.le_refl _) _) hbwx.size (by rw [hcsV_app, hcsV_one]; exact hown6) hgrow ⟨Nat.le_refl _, Nat.zero_le _, .inl rfl⟩)
          go_meet
          refine ⟨_, _, z1, by rw [List.map_append, HD.out]; rfl, z5 _ _ _ _ HBK.out (by decide) (by decide), hbwx.trans z2, by simp, fun x hx => ?_⟩
          rcases List.mem_append.1 hx with hx | hx
          · exact HN.out x hx
          · rw [List.mem_singleton.1 hx]; show 0 ≤ (X : Int) - i ∧ (X : Int) - i ≤ _; omega
        · have b2 : decide ((i : Int) < (X : Int)) = false := decide_eq_false (by omega)
          have b2n : decide (i < X) = false := decide_eq_false hix
          go_wp2_with fail
          go_meet
          exact ⟨l, v, hCx, by unfold dropH; rw [if_pos (by omega), List.append_nil], HBK.out, hbwx, by omega, HN.out⟩
      case rest =>
      clear hCx e0 p1 HBK HN hbwx hWs
      obtain ⟨l1, v1, hC1, hm1, hblk, hbw1, hl1, hn1⟩ := hcut
      have e1 : wc.cell? ⟨q, 1, none⟩ = some (.int .i64 (Y : Int)) := by rw [cell_of_row _ _ _ _ _ _ hblk]; rfl
      have p1 : wc.cell? ⟨w.heap.size + 1, 1, none⟩ = some v1 := by rw [cell_of_row _ _ _ _ _ _ hC1.pat]; rfl
      have hWs := hbw1.size
      have HBK := Lib.hid hblk
      have HN1 := Lib.hid hn1
      clear hblk hn1
      go_upto_if 52 with (fail)
      go_cut [] (fun wx => ∃ (l2 : List Hc) (v2 : Value), Cb wx w.heap.size (w.heap.size + 1) w.heap.size base l2 v2 ∧ l2.map (·.h) = l.map (·.h) ++ Pc.pend (X - i) ((b.take Y).drop j) ∧ wx.heap[q]? = some (.cells #[.int .i64 (X : Int), .int .i64 (Y : Int)] 79 (0, 0)) ∧ Below w.heap.size w wx ∧ l2.length ≤ l.length + 2 ∧ ∀ x ∈ l2, 0 ≤ x.h.n ∧ x.h.n ≤ 1024 + (k : Int))
      case first =>
        have hsl : ((b.take Y).drop j).length = Y - j := by rw [List.length_drop, List.length_take]; omega
        by_cases hjy : j < Y
        · have b2 : decide ((j : Int) < (Y : Int)) = true := decide_eq_true (by omega)
          have b2n : decide (j < Y) = true := decide_eq_true hjy
          obtain ⟨g2, o2, rfl, hg2, hcell⟩ := cells_row HBA.out (by rw [strs_len]; omega)
          have HPD := Lib.hid (show Pc.pend (X - i) ((b.take Y).drop j) = dropH (X - i) ++ [⟨3, (Y : Int) - (j : Int), (b.take Y).drop j⟩] by
            rw [pend_def, if_neg (fun e => by rw [e] at hsl; simp at hsl; omega), hsl, show ((Y - j : Nat) : Int) = (Y : Int) - (j : Int) by omega])
          have HSG := Lib.hid (show ∀ jj u, (strs ((b.take Y).drop j))[jj]? = some u → (strs b)[j + jj]? = some u from fun jj u h => by
            unfold strs at h ⊢
            rw [List.getElem?_map] at h ⊢
            rw [List.getElem?_drop, List.getElem?_take] at h
            split at h
            · exact h
            · simp at h)
          have wr1 : IntKind.i64.wrap ((Y : Int) - (j : Int)) = (Y : Int) - (j : Int) := IntWalk.i64_in _ (by omega)
          have hcj : ¬ c' = j := by omega
          have hcj2 : ¬ (c' : Int) = (j : Int) := by omega
          have y1 : (j : Int) ≤ (Y : Int) := by omega
          have y2 : (Y : Int) ≤ (c' : Int) := by omega
          have y3 : (0 : Int) ≤ (j : Int) := by omega
          have y4 : (0 : Int) ≤ (Y : Int) := by omega
          have hsl2 := hsl
          have HCW := Lib.hid (fun jj u h => (hbw1.drew.alloc (o := (.cells #[] 9)) (by have := hbw1.size; exact this)).cell (p := ⟨g2, o2 + jj, none⟩) hg2 |>.trans (hcell jj u h))
          have hba : Below wc.heap.size wc (wc.alloc (.cells #[] 9)) := (Below.refl _ _).alloc (Nat.le_refl _) _
          have ea1 : (wc.alloc (.cells #[] 9)).cell? ⟨q, 1, none⟩ = some (.int .i64 (Y : Int)) := (hba.cell (p := ⟨q, 1, none⟩) (blk_lt HBK.out)).trans e1
          have pa1 : (wc.alloc (.cells #[] 9)).cell? ⟨w.heap.size + 1, 1, none⟩ = some v1 := (hba.cell (p := ⟨w.heap.size + 1, 1, none⟩) (blk_lt hC1.pat)).trans p1
          generalize Pc.pend (X - i) ((b.take Y).drop j) = PD at *
          generalize (b.take Y).drop j = seg at *
          have HIN := Lib.hid (show OfP w wc q X Y i j k base l l1 v1 PD seg from ⟨hC1, hm1, HBK.out, hbw1, hl1, HN1.out, hsl2, HPD.out, hjy, by omega⟩)
          clear hC1 hm1 hba
          go_upto_region 12 with (fail)
          refine wp_region_held_drew (S := (fun w' : World => w'.cell? ⟨q, 1, none⟩ = some (.int .i64 (Y : Int)))) (by kernel_rfl) e1 (fun hHeld => ?_)
          refine wpAnyH_take (i := 0) (oi := _) (v := ?v1) rfl (by kernel_rfl) (by kernel_rfl) (by kernel_rfl) (fun _ _ _ h => h) (Or.inl ⟨by rfl, ?hy1⟩) (by assumption) ?rest1
          case hy1 =>
            intro w hSw
            try dsimp only at hSw
            go_simp
            try with_reducible rfl
          try simp only [Act.put]
          refine wpAnyH_take (i := 2) (oi := _) (v := ?v2) rfl (by kernel_rfl) (by kernel_rfl) (by kernel_rfl) (fun _ _ _ h => h) (Or.inl ⟨by rfl, ?hy2⟩) (by assumption) ?rest2
          case hy2 =>
            intro w hSw
            try dsimp only at hSw
            go_simp
            try with_reducible rfl
          try simp only [Act.put]
          refine wpAnyH_take (i := 3) (oi := _) (v := ?v3) rfl (by kernel_rfl) (by kernel_rfl) (by kernel_rfl) (fun _ _ _ h => h) (Or.inl ⟨by rfl, ?hy3⟩) (by assumption) ?rest3
          case hy3 =>
            intro w hSw
            try dsimp only at hSw
            go_simp
            try with_reducible rfl
          try simp only [Act.put]
          refine wpAnyH_take (i := 4) (oi := _) (v := ?v4) rfl (by kernel_rfl) (by kernel_rfl) (by kernel_rfl) (fun _ _ _ h => h) (Or.inl ⟨by rfl, ?hy4⟩) (by assumption) ?rest4
          case hy4 =>
            intro w hSw
            try dsimp only at hSw
            go_simp
            try with_reducible rfl
          try simp only [Act.put]
          refine wpAnyH_take (i := 5) (oi := _) (v := ?v5) rfl (by kernel_rfl) (by kernel_rfl) (by kernel_rfl) (fun _ _ _ h => h) (Or.inl ⟨by rfl, ?hy5⟩) (by assumption) ?rest5
          case hy5 =>
            intro w hSw
            try dsimp only at hSw
            go_simp
            try with_reducible rfl
          try simp only [Act.put]
          refine wpAnyH_take (i := 7) (oi := _) (v := ?v6) rfl (by kernel_rfl) (by kernel_rfl) (by kernel_rfl) (fun _ _ _ h => h) (Or.inl ⟨by rfl, ?hy6⟩) (by assumption) ?rest6
          case hy6 =>
            intro w hSw
            try dsimp only at hSw
            go_simp
            try with_reducible rfl
          try simp only [Act.put]
          refine wpAnyH_take (i := 8) (oi := _) (v := ?v7) rfl (by kernel_rfl) (by kernel_rfl) (by kernel_rfl) (fun _ _ _ h => h) (Or.inl ⟨by rfl, ?hy7⟩) (by assumption) ?rest7
          case hy7 =>
            intro w hSw
            try dsimp only at hSw
            go_simp
            try with_reducible rfl
          try simp only [Act.put]
          refine wpAnyH_take (i := 9) (oi := _) (v := ?v8) rfl (by kernel_rfl) (by kernel_rfl) (by kernel_rfl) (fun _ _ _ h => h) (Or.inl ⟨by rfl, ?hy8⟩) (by assumption) ?rest8
          case hy8 =>
            intro w hSw
            try dsimp only at hSw
            go_simp
            try with_reducible rfl
          try simp only [Act.put]
          refine wpAnyH_take (i := 10) (oi := _) (v := ?v9) rfl (by kernel_rfl) (by kernel_rfl) (by kernel_rfl) (fun _ _ _ h => h) (Or.inl ⟨by rfl, ?hy9⟩) (by assumption) ?rest9
          case hy9 =>
            intro w hSw
            try dsimp only at hSw
            go_simp
            try with_reducible rfl
          try simp only [Act.put]
          refine wpAnyH_take (i := 11) (oi := _) (v := ?v10) rfl (by kernel_rfl) (by kernel_rfl) (by kernel_rfl) (fun _ _ _ h => h) (Or.inl ⟨by rfl, ?hy10⟩) (by assumption) ?rest10
          case hy10 =>
            intro w hSw
            try dsimp only at hSw
            go_simp
            try with_reducible rfl
          try simp only [Act.put]
          refine wpAnyH_ready (rs := [1, 6]) (by kernel_rfl) (by simp) ?_
          refine AllReadyH.cons (o := _) rfl (fun K hK => ?_) ?_
          · skip
            go_simp
            refine hK.out _ _ e1 (fun hHeld => ?_)
            clear hK K
            try simp only [Act.put]
            refine wpAnyH_ready (rs := [6]) (by kernel_rfl) (by simp) ?_
            refine AllReadyH.cons (o := _) rfl (fun K hK => ?_) AllReadyH.nil
            go_simp
            refine hK.out _ _ ea1 (fun hHeld => ?_)
            clear hK K
            try simp only [Act.put]
            refine wpAnyH_ready (rs := [12]) (by kernel_rfl) (by simp) ?_
            refine AllReadyH.cons (o := _) rfl (fun K hK => ?_) AllReadyH.nil
            refine step_append_lies _ (by rfl) _ _ _ (by rfl) wc.heap.size 9 i0 _ 1 16 Tryz.underlying50 hi0 hz0 hz1 hz2 rfl (by omega) (.slice (some ⟨wc.heap.size, 0, none⟩) 0 0) 0 [] (by rfl) (own_none wc.drew wc.heap.size (Nat.le_refl _) 9 1) ⟨g2, o2 + j, none⟩ (Y - j) (c' - j) (strs seg) (by rfl) (by rw [strs_len, hsl, Nat.mul_one]) (fun jj u hj => by rw [addr_addS, Nat.add_assoc]; exact HCW.out _ u (HSG.out jj u hj)) (strs_one _) (by omega) (by unfold maxLen at *; omega) (by omega) (by simp) (wc.heap.size + 1) (by simp) ?_
            intro gg cap w6 hown6 hgrow hat hlt6
            have hI := ofI_of HIN.out hown6 hgrow
            have p16 := hI.p16
            have e16 := hI.e16
            have eW1 := hI.eW
            have hws6 := hI.size
            have pW1 := hI.pW
            clear hown6 hgrow hat hlt6
            refine hK.out _ _ e16 (fun hHeld => ?_)
            clear hK K
            try simp only [Act.put]
            refine wpAnyH_take (i := 13) (oi := _) (v := ?v11) rfl (by kernel_rfl) (by kernel_rfl) (by kernel_rfl) (fun _ _ _ h => h) (Or.inl ⟨by rfl, ?hy11⟩) (by assumption) ?rest11
            case hy11 =>
              intro w hSw
              try dsimp only at hSw
              go_simp
              try with_reducible rfl
            try simp only [Act.put]
            refine wpAnyH_ready (rs := [14]) (by kernel_rfl) (by simp) ?_
            refine AllReadyH.cons (o := _) rfl (fun K hK => ?_) AllReadyH.nil
            go_simp
            refine hK.out _ _ eW1 (fun hHeld => ?_)
            clear hK K
            try simp only [Act.put]
            refine wpAnyH_ready (rs := [15]) (by kernel_rfl) (by simp) ?_
            refine AllReadyH.cons (o := _) rfl (fun K hK => ?_) AllReadyH.nil
            refine step_append_lies _ (by rfl) _ _ _ (by rfl) w.heap.size 54 ih _ 3 40 Tryz.underlying22 hih hzh0 hzh1 hzh2 rfl (by omega) v1 l1.length _ (by rfl) (hI.c6.row.alloc _) ⟨w6.heap.size, 0, none⟩ 1 1 [_, _, _] (by rfl) (by rfl) (World.news_of_block (cs := #[_, _, _]) (t := 54) (fr := (0, 0)) (heap_alloc_new w6 _)) (by simp [Value.oneCell']) (by omega) (by unfold maxLen; omega) (by omega) (by simp; omega) (w6.heap.size + 1) (by simp) ?_
            intro gg7 cap7 w7 hown7 hgrow7 hat7 hlt7
            have hO := ofO_of HIN.out hI hown7 hgrow7
            have p17 := hO.1
            have f17 := hO.2.1
            have e17 := hO.2.2.1
            clear hown7 hgrow7 hat7 hlt7
            refine hK.out _ _ e17 (fun hHeld => ?_)
            clear hK K
            try simp only [Act.put]
            refine wpAnyH_take (i := 16) (oi := _) (v := ?v12) rfl (by kernel_rfl) (by kernel_rfl) (by kernel_rfl) (fun _ _ _ h => h) (Or.inl ⟨by rfl, ?hy12⟩) (by assumption) ?rest12
            case hy12 =>
              intro w hSw
              try dsimp only at hSw
              go_simp
              try with_reducible rfl
            try simp only [Act.put]
            refine wpAnyH_ready (rs := [17]) (by kernel_rfl) (by simp) ?_
            refine AllReadyH.cons (o := _) rfl (fun K hK => ?_) AllReadyH.nil
            go_simp
            refine hK.out _ _ hO.2.2.2.1 (fun hHeld => ?_)
            clear hK K
            try simp only [Act.put]
            refine wpAnyH_done (by kernel_rfl) ?_ _
            go_wp2_with fail
            go_meet
            exact hO.2.2.2.2
          refine AllReadyH.cons (o := _) rfl (fun K hK => ?_) AllReadyH.nil
          go_simp
          refine hK.out _ _ ea1 (fun hHeld => ?_)
          clear hK K
          try simp only [Act.put]
          refine wpAnyH_ready (rs := [1, 12]) (by kernel_rfl) (by simp) ?_
          refine AllReadyH.cons (o := _) rfl (fun K hK => ?_) ?_
          · skip
            go_simp
            refine hK.out _ _ ea1 (fun hHeld => ?_)
            clear hK K
            try simp only [Act.put]
            refine wpAnyH_ready (rs := [12]) (by kernel_rfl) (by simp) ?_
            refine AllReadyH.cons (o := _) rfl (fun K hK => ?_) AllReadyH.nil
            refine step_append_lies _ (by rfl) _ _ _ (by rfl) wc.heap.size 9 i0 _ 1 16 Tryz.underlying50 hi0 hz0 hz1 hz2 rfl (by omega) (.slice (some ⟨wc.heap.size, 0, none⟩) 0 0) 0 [] (by rfl) (own_none wc.drew wc.heap.size (Nat.le_refl _) 9 1) ⟨g2, o2 + j, none⟩ (Y - j) (c' - j) (strs seg) (by rfl) (by rw [strs_len, hsl, Nat.mul_one]) (fun jj u hj => by rw [addr_addS, Nat.add_assoc]; exact HCW.out _ u (HSG.out jj u hj)) (strs_one _) (by omega) (by unfold maxLen at *; omega) (by omega) (by simp) (wc.heap.size + 1) (by simp) ?_
            intro gg cap w6 hown6 hgrow hat hlt6
            have hI := ofI_of HIN.out hown6 hgrow
            have p16 := hI.p16
            have e16 := hI.e16
            have eW1 := hI.eW
            have hws6 := hI.size
            have pW1 := hI.pW
            clear hown6 hgrow hat hlt6
            refine hK.out _ _ e16 (fun hHeld => ?_)
            clear hK K
            try simp only [Act.put]
            refine wpAnyH_take (i := 13) (oi := _) (v := ?v13) rfl (by kernel_rfl) (by kernel_rfl) (by kernel_rfl) (fun _ _ _ h => h) (Or.inl ⟨by rfl, ?hy13⟩) (by assumption) ?rest13
            case hy13 =>
              intro w hSw
              try dsimp only at hSw
              go_simp
              try with_reducible rfl
            try simp only [Act.put]
            refine wpAnyH_ready (rs := [14]) (by kernel_rfl) (by simp) ?_
            refine AllReadyH.cons (o := _) rfl (fun K hK => ?_) AllReadyH.nil
            go_simp
            refine hK.out _ _ eW1 (fun hHeld => ?_)
            clear hK K
            try simp only [Act.put]
            refine wpAnyH_ready (rs := [15]) (by kernel_rfl) (by simp) ?_
            refine AllReadyH.cons (o := _) rfl (fun K hK => ?_) AllReadyH.nil
            refine step_append_lies _ (by rfl) _ _ _ (by rfl) w.heap.size 54 ih _ 3 40 Tryz.underlying22 hih hzh0 hzh1 hzh2 rfl (by omega) v1 l1.length _ (by rfl) (hI.c6.row.alloc _) ⟨w6.heap.size, 0, none⟩ 1 1 [_, _, _] (by rfl) (by rfl) (World.news_of_block (cs := #[_, _, _]) (t := 54) (fr := (0, 0)) (heap_alloc_new w6 _)) (by simp [Value.oneCell']) (by omega) (by unfold maxLen; omega) (by omega) (by simp; omega) (w6.heap.size + 1) (by simp) ?_
            intro gg7 cap7 w7 hown7 hgrow7 hat7 hlt7
            have hO := ofO_of HIN.out hI hown7 hgrow7
            have p17 := hO.1
            have f17 := hO.2.1
            have e17 := hO.2.2.1
            clear hown7 hgrow7 hat7 hlt7
            refine hK.out _ _ e17 (fun hHeld => ?_)
            clear hK K
            try simp only [Act.put]
            refine wpAnyH_take (i := 16) (oi := _) (v := ?v14) rfl (by kernel_rfl) (by kernel_rfl) (by kernel_rfl) (fun _ _ _ h => h) (Or.inl ⟨by rfl, ?hy14⟩) (by assumption) ?rest14
            case hy14 =>
              intro w hSw
              try dsimp only at hSw
              go_simp
              try with_reducible rfl
            try simp only [Act.put]
            refine wpAnyH_ready (rs := [17]) (by kernel_rfl) (by simp) ?_
            refine AllReadyH.cons (o := _) rfl (fun K hK => ?_) AllReadyH.nil
            go_simp
            refine hK.out _ _ hO.2.2.2.1 (fun hHeld => ?_)
            clear hK K
            try simp only [Act.put]
            refine wpAnyH_done (by kernel_rfl) ?_ _
            go_wp2_with fail
            go_meet
            exact hO.2.2.2.2
          refine AllReadyH.cons (o := _) rfl (fun K hK => ?_) AllReadyH.nil
          refine step_append_lies _ (by rfl) _ _ _ (by rfl) wc.heap.size 9 i0 _ 1 16 Tryz.underlying50 hi0 hz0 hz1 hz2 rfl (by omega) (.slice (some ⟨wc.heap.size, 0, none⟩) 0 0) 0 [] (by rfl) (own_none wc.drew wc.heap.size (Nat.le_refl _) 9 1) ⟨g2, o2 + j, none⟩ (Y - j) (c' - j) (strs seg) (by rfl) (by rw [strs_len, hsl, Nat.mul_one]) (fun jj u hj => by rw [addr_addS, Nat.add_assoc]; exact HCW.out _ u (HSG.out jj u hj)) (strs_one _) (by omega) (by unfold maxLen at *; omega) (by omega) (by simp) (wc.heap.size + 1) (by simp) ?_
          intro gg cap w6 hown6 hgrow hat hlt6
          have hI := ofI_of HIN.out hown6 hgrow
          have p16 := hI.p16
          have e16 := hI.e16
          have eW1 := hI.eW
          have hws6 := hI.size
          have pW1 := hI.pW
          clear hown6 hgrow hat hlt6
          refine hK.out _ _ e16 (fun hHeld => ?_)
          clear hK K
          try simp only [Act.put]
          refine wpAnyH_take (i := 13) (oi := _) (v := ?v15) rfl (by kernel_rfl) (by kernel_rfl) (by kernel_rfl) (fun _ _ _ h => h) (Or.inl ⟨by rfl, ?hy15⟩) (by assumption) ?rest15
          case hy15 =>
            intro w hSw
            try dsimp only at hSw
            go_simp
            try with_reducible rfl
          try simp only [Act.put]
          refine wpAnyH_ready (rs := [1, 14]) (by kernel_rfl) (by simp) ?_
          refine AllReadyH.cons (o := _) rfl (fun K hK => ?_) ?_
          · skip
            go_simp
            refine hK.out _ _ e16 (fun hHeld => ?_)
            clear hK K
            try simp only [Act.put]
            refine wpAnyH_ready (rs := [14]) (by kernel_rfl) (by simp) ?_
            refine AllReadyH.cons (o := _) rfl (fun K hK => ?_) AllReadyH.nil
            go_simp
            refine hK.out _ _ eW1 (fun hHeld => ?_)
            clear hK K
            try simp only [Act.put]
            refine wpAnyH_ready (rs := [15]) (by kernel_rfl) (by simp) ?_
            refine AllReadyH.cons (o := _) rfl (fun K hK => ?_) AllReadyH.nil
            refine step_append_lies _ (by rfl) _ _ _ (by rfl) w.heap.size 54 ih _ 3 40 Tryz.underlying22 hih hzh0 hzh1 hzh2 rfl (by omega) v1 l1.length _ (by rfl) (hI.c6.row.alloc _) ⟨w6.heap.size, 0, none⟩ 1 1 [_, _, _] (by rfl) (by rfl) (World.news_of_block (cs := #[_, _, _]) (t := 54) (fr := (0, 0)) (heap_alloc_new w6 _)) (by simp [Value.oneCell']) (by omega) (by unfold maxLen; omega) (by omega) (by simp; omega) (w6.heap.size + 1) (by simp) ?_
            intro gg7 cap7 w7 hown7 hgrow7 hat7 hlt7
            have hO := ofO_of HIN.out hI hown7 hgrow7
            have p17 := hO.1
            have f17 := hO.2.1
            have e17 := hO.2.2.1
            clear hown7 hgrow7 hat7 hlt7
            refine hK.out _ _ e17 (fun hHeld => ?_)
            clear hK K
            try simp only [Act.put]
            refine wpAnyH_take (i := 16) (oi := _) (v := ?v16) rfl (by kernel_rfl) (by kernel_rfl) (by kernel_rfl) (fun _ _ _ h => h) (Or.inl ⟨by rfl, ?hy16⟩) (by assumption) ?rest16
            case hy16 =>
              intro w hSw
              try dsimp only at hSw
              go_simp
              try with_reducible rfl
            try simp only [Act.put]
            refine wpAnyH_ready (rs := [17]) (by kernel_rfl) (by simp) ?_
            refine AllReadyH.cons (o := _) rfl (fun K hK => ?_) AllReadyH.nil
            go_simp
            refine hK.out _ _ hO.2.2.2.1 (fun hHeld => ?_)
            clear hK K
            try simp only [Act.put]
            refine wpAnyH_done (by kernel_rfl) ?_ _
            go_wp2_with fail
            go_meet
            exact hO.2.2.2.2
          refine AllReadyH.cons (o := _) rfl (fun K hK => ?_) AllReadyH.nil
          go_simp
          refine hK.out _ _ eW1 (fun hHeld => ?_)
          clear hK K
          try simp only [Act.put]
          refine wpAnyH_ready (rs := [1]) (by kernel_rfl) (by simp) ?_
          refine AllReadyH.cons (o := _) rfl (fun K hK => ?_) AllReadyH.nil
          go_simp
          refine hK.out _ _ eW1 (fun hHeld => ?_)
          clear hK K
          try simp only [Act.put]
          refine wpAnyH_ready (rs := [15]) (by kernel_rfl) (by simp) ?_
          refine AllReadyH.cons (o := _) rfl (fun K hK => ?_) AllReadyH.nil
          refine step_append_lies _ (by rfl) _ _ _ (by rfl) w.heap.size 54 ih _ 3 40 Tryz.underlying22 hih hzh0 hzh1 hzh2 rfl (by omega) v1 l1.length _ (by rfl) (hI.c6.row.alloc _) ⟨w6.heap.size, 0, none⟩ 1 1 [_, _, _] (by rfl) (by rfl) (World.news_of_block (cs := #[_, _, _]) (t := 54) (fr := (0, 0)) (heap_alloc_new w6 _)) (by simp [Value.oneCell']) (by omega) (by unfold maxLen; omega) (by omega) (by simp; omega) (w6.heap.size + 1) (by simp) ?_
          intro gg7 cap7 w7 hown7 hgrow7 hat7 hlt7
          have hO := ofO_of HIN.out hI hown7 hgrow7
          have p17 := hO.1
          have f17 := hO.2.1
          have e17 := hO.2.2.1
          clear hown7 hgrow7 hat7 hlt7
          refine hK.out _ _ e17 (fun hHeld => ?_)
          clear hK K
          try simp only [Act.put]
          refine wpAnyH_take (i := 16) (oi := _) (v := ?v17) rfl (by kernel_rfl) (by kernel_rfl) (by kernel_rfl) (fun _ _ _ h => h) (Or.inl ⟨by rfl, ?hy17⟩) (by assumption) ?rest17
          case hy17 =>
            intro w hSw
            try dsimp only at hSw
            go_simp
            try with_reducible rfl
          try simp only [Act.put]
          refine wpAnyH_ready (rs := [17]) (by kernel_rfl) (by simp) ?_
          refine AllReadyH.cons (o := _) rfl (fun K hK => ?_) AllReadyH.nil
          go_simp
          refine hK.out _ _ hO.2.2.2.1 (fun hHeld => ?_)
          clear hK K
          try simp only [Act.put]
          refine wpAnyH_done (by kernel_rfl) ?_ _
          go_wp2_with fail
          go_meet
          exact hO.2.2.2.2
        · have b2 : decide ((j : Int) < (Y : Int)) = false := decide_eq_false (by omega)
          have b2n : decide (j < Y) = false := decide_eq_false hjy
          have HS0 := Lib.hid (show Pc.pend (X - i) ((b.take Y).drop j) = dropH (X - i) by
            rw [pend_def, if_pos (List.length_eq_zero_iff.1 (by omega)), List.append_nil])
          clear hsl
          go_wp2_with fail
          go_meet
          exact ⟨l1, v1, hC1, by rw [HS0.out]; exact hm1, HBK.out, hbw1, by omega, HN1.out⟩
      case rest =>
      clear hC1 e1 p1 HBK HN1 hbw1 hWs hm1 hl1
      obtain ⟨l2, v2, hC2, hm2, hblk, hbw2, hl2, hn2⟩ := hcut
      have e0 : wc.cell? ⟨q, 0, none⟩ = some (.int .i64 (X : Int)) := by rw [cell_of_row _ _ _ _ _ _ hblk]; rfl
      have e1 : wc.cell? ⟨q, 1, none⟩ = some (.int .i64 (Y : Int)) := by rw [cell_of_row _ _ _ _ _ _ hblk]; rfl
      have p1 : wc.cell? ⟨w.heap.size + 1, 1, none⟩ = some v2 := by rw [cell_of_row _ _ _ _ _ _ hC2.pat]; rfl
      have hWs := hbw2.size
      have hxr : (X : Int) ≤ 1024 := by omega
      have hyr : (Y : Int) ≤ 1024 := by omega
      by_cases hlt : k < K.length
      · have b3 : decide ((k : Int) < K.length) = true := decide_eq_true (by omega)
        have b3n : decide (k < K.length) = true := decide_eq_true hlt
        have HK := Lib.hid (show K.drop k = (X, Y) :: K.drop (k + 1) by
          rcases HXY.out with ⟨h, e⟩ | ⟨e, _⟩
          · rw [List.drop_eq_getElem_cons h, e]
          · omega)
        have hM := HM.out
        rw [HK.out] at hM
        obtain ⟨_, _, m3, m4, _, m6⟩ := Pc.mat_tail hM
        have HM6 := Lib.hid m6
        have HR6 := Lib.hid (show R = Pc.keepHs (Pc.take (l2.map (·.h)) 1 [a[X]]) a b (X + 1) (Y + 1) (K.drop (k + 1)) by
          rw [HR.out, HK.out, keepHs_cons, Pc.take_pend _ _ _ HLA.out, Pc.seg_one a X m3, hm2, show ((a.take X).drop i).length = X - i by rw [List.length_drop, List.length_take]; omega])
        have HC2 := Lib.hid hC2
        have HN2 := Lib.hid hn2
        have HBK := Lib.hid hblk
        clear hM m6 hC2 hn2 hm2 hblk
        rcases List.eq_nil_or_concat l2 with hl | ⟨l3, x, hl⟩
        · subst hl
          obtain ⟨A2, c2, hv2, _⟩ := HC2.out.hsT
          rw [show ((([] : List Hc).map (·.h)).length) = 0 from rfl] at hv2
          subst hv2
          have HTK := Lib.hid (show Pc.take (([] : List Hc).map (·.h)) 1 [a[X]] = [⟨1, 1, []⟩] from rfl)
          go_wp2_with (at_builtin; refine wpList_append_lies _ (by rfl) _ _ 22 (by rfl) w.heap.size 54 ih _ 3 40 Tryz.underlying22 hih hzh0 hzh1 hzh2 rfl (by omega) (.slice A2 0 c2) 0 _ (by rfl) (HC2.out.row.alloc _) ⟨wc.heap.size, 0, none⟩ 1 1 [_, _, _] (by rfl) (by rfl) (World.news_of_block (cs := #[_, _, _]) (t := 54) (fr := (0, 0)) (heap_alloc_new wc _)) (by simp [Value.oneCell']) (by omega) (by unfold maxLen; omega) (by omega) (by simp; omega) (wc.heap.size + 1) (by simp) ?_; intro gg cap w6 hown6 hgrow hat hlt6; obtain ⟨z1, z2, z3, z4, z5⟩ := HC2.out.add (W := wc.alloc _) ⟨⟨1, 1, []⟩, none, 0⟩ ((Below.refl _ _).alloc (Nat.le_refl _) _) hbw2.size (by rw [hcsV_app, hcsV_one]; exact hown6) hgrow ⟨Nat.le_refl _, Nat.zero_le _, .inl rfl⟩; have hq7 := z5 _ _ _ _ HBK.out (by decide) (by decide))
          clear z3 z4 z5 hown6 hgrow hat hlt6
          replace z1 : Cb (w6.setCell ⟨w.heap.size + 1, 1, none⟩ (.slice (some ⟨gg, 0, none⟩) 1 cap)) w.heap.size (w.heap.size + 1) w.heap.size base [⟨⟨1, 1, []⟩, none, 0⟩] (.slice (some ⟨gg, 0, none⟩) 1 cap) := z1
          replace z2 : Below w.heap.size wc (w6.setCell ⟨w.heap.size + 1, 1, none⟩ (.slice (some ⟨gg, 0, none⟩) 1 cap)) := z2
          replace hq7 : (w6.setCell ⟨w.heap.size + 1, 1, none⟩ (.slice (some ⟨gg, 0, none⟩) 1 cap)).heap[q]? = _ := hq7
          generalize w6.setCell ⟨w.heap.size + 1, 1, none⟩ (.slice (some ⟨gg, 0, none⟩) 1 cap) = w9 at *
          have e0 : w9.cell? ⟨q, 0, none⟩ = some (.int .i64 (X : Int)) := by rw [cell_of_row _ _ _ _ _ _ hq7]; rfl
          have e1 : w9.cell? ⟨q, 1, none⟩ = some (.int .i64 (Y : Int)) := by rw [cell_of_row _ _ _ _ _ _ hq7]; rfl
          have hb9 := hbw2.trans z2
          have HZ1 := Lib.hid z1
          clear z1 z2 hq7 hbw2 p1
          go_wp2_with fail
          go_quiet (fail)
          have hb4 := below_drewN hb9 nq
          have hC4 := HZ1.out.next (below_drewN (Below.refl _ _) nq)
          clear e0 e1 hb9 HZ1
          go_wp2_with fail
          go_roundw
          case rel => exact ⟨k + 1, X + 1, Y + 1, _, _, by go_num, by go_num, by go_num, hC4, hb4, by simp; omega, by omega, by omega, fun z hz => by rw [List.mem_singleton.1 hz]; show (0 : Int) ≤ 1 ∧ (1 : Int) ≤ _; omega, .inl ⟨by omega, by omega, by omega, fun z hz => by simp at hz; rw [← hz], by rw [HR6.out, HTK.out]; rfl, HM6.out⟩⟩
          case measure => simp [intOf]; omega
        · rw [List.concat_eq_append] at hl
          subst hl
          obtain ⟨g, cap2, hv2, hg2, hcl, hfr⟩ := HC2.out.last
          subst hv2
          have hlk : (l3 ++ [x]).length = l3.length + 1 := by simp
          have hl3 : l3.length ≤ 3 * k + 1 := by omega
          have t0 := hcl 0 _ rfl
          have t1 := hcl 1 _ rfl
          rw [Nat.add_zero] at t0
          have hf1 := hfr (l3.length * 3 + 1)
          have hxn := HN2.out x (by simp)
          have y0 : decide ((0 : Int) ≤ (l3.length : Int)) = true := decide_eq_true (by omega)
          have y1 : (l3.length : Int) < (l3.length : Int) + 1 := by omega
          by_cases hk1 : x.h.kind = 1
          · have HTK := Lib.hid (show Pc.take ((l3 ++ [x]).map (·.h)) 1 [a[X]] = List.map (·.h) (l3 ++ [(⟨⟨x.h.kind, x.h.n + 1, x.h.ls⟩, x.A, x.c⟩ : Hc)]) by
              rw [List.map_append, List.map_append, List.map_singleton, Pc.take_same _ _ _ _ (by simp) hk1]
              rfl)
            have y2 : (x.h.kind == 1) = true := beq_iff_eq.2 hk1
            have HK1 := Lib.hid hk1
            obtain ⟨s1, s2, s3⟩ := HC2.out.set 1 (.int .i64 (x.h.n + 1)) ⟨⟨x.h.kind, x.h.n + 1, x.h.ls⟩, x.A, x.c⟩ rfl (by
              have := HC2.out.lns x (by simp)
              exact ⟨this.cap, this.max, this.at_⟩)
            have hq7 := s3 _ _ _ _ HBK.out (by decide) (by decide)
            clear hcl hfr
            go_upto_region 16 with (fail)
            go_region
            replace s1 := s1.next (w' := (wc.setCell ⟨g, l3.length * 3 + 1, none⟩ (.int .i64 (x.h.n + 1))).drew) (Below.refl _ _).drew
            replace s2 := s2.drew
            replace hq7 : (wc.setCell ⟨g, l3.length * 3 + 1, none⟩ (.int .i64 (x.h.n + 1))).drew.heap[q]? = _ := hq7
            clear s3 t0 t1 hf1
            have z1 := s1
            have z2 := s2
            clear s1 s2
            generalize (wc.setCell ⟨g, l3.length * 3 + 1, none⟩ (.int .i64 (x.h.n + 1))).drew = w9 at *
            have e0 : w9.cell? ⟨q, 0, none⟩ = some (.int .i64 (X : Int)) := by rw [cell_of_row _ _ _ _ _ _ hq7]; rfl
            have e1 : w9.cell? ⟨q, 1, none⟩ = some (.int .i64 (Y : Int)) := by rw [cell_of_row _ _ _ _ _ _ hq7]; rfl
            have hb9 := hbw2.trans z2
            have HZ1 := Lib.hid z1
            clear z1 z2 hq7 hbw2 p1
            go_wp2_with fail
            go_quiet (fail)
            have hb4 := below_drewN hb9 nq
            have hC4 := HZ1.out.next (below_drewN (Below.refl _ _) nq)
            clear e0 e1 hb9 HZ1
            go_wp2_with fail
            go_roundw
            case rel => exact ⟨k + 1, X + 1, Y + 1, _, _, by go_num, by go_num, by go_num, hC4, hb4, by simp; omega, by omega, by omega, fun z hz => by
              rcases List.mem_append.1 hz with hz | hz
              · have := HN2.out z (List.mem_append_left _ hz); omega
              · rw [List.mem_singleton.1 hz]; show 0 ≤ x.h.n + 1 ∧ x.h.n + 1 ≤ _; omega, .inl ⟨by omega, by omega, by omega, fun z hz => by simp at hz; rw [← hz]; exact HK1.out, by rw [HR6.out, HTK.out], HM6.out⟩⟩
            case measure => simp [intOf]; omega
          · have HTK := Lib.hid (show Pc.take ((l3 ++ [x]).map (·.h)) 1 [a[X]] = (l3 ++ [x]).map (·.h) ++ [⟨1, 1, []⟩] by
              rw [List.map_append, List.map_singleton, Pc.take_new _ _ _ (by simp) (fun z hz => by simp at hz; rw [← hz]; exact hk1)]
              rfl)
            have y2 : (x.h.kind == 1) = false := beq_eq_false_iff_ne.2 hk1
            clear hcl hfr
            go_wp2_with (at_builtin; refine wpList_append_lies _ (by rfl) _ _ 22 (by rfl) w.heap.size 54 ih _ 3 40 Tryz.underlying22 hih hzh0 hzh1 hzh2 rfl (by omega) (.slice (some ⟨g, 0, none⟩) (l3.length + 1) cap2) (l3 ++ [x]).length _ (by first | rfl | (rw [hlk]; rfl)) (HC2.out.row.alloc _) ⟨wc.heap.size, 0, none⟩ 1 1 [_, _, _] (by rfl) (by rfl) (World.news_of_block (cs := #[_, _, _]) (t := 54) (fr := (0, 0)) (heap_alloc_new wc _)) (by simp [Value.oneCell']) (by omega) (by unfold maxLen; omega) (by omega) (by simp; omega) (wc.heap.size + 1) (by simp) ?_; intro gg cap w6 hown6 hgrow hat hlt6; obtain ⟨z1, z2, z3, z4, z5⟩ := HC2.out.add (W := wc.alloc _) ⟨⟨1, 1, []⟩, none, 0⟩ ((Below.refl _ _).alloc (Nat.le_refl _) _) hbw2.size (by rw [hcsV_app, hcsV_one]; exact hown6) hgrow ⟨Nat.le_refl _, Nat.zero_le _, .inl rfl⟩; have hq7 := z5 _ _ _ _ HBK.out (by decide) (by decide))
            clear z3 z4 z5 hown6 hgrow hat hlt6 t0 t1 hf1
            rw [hlk] at z1 z2 hq7
            generalize w6.setCell ⟨w.heap.size + 1, 1, none⟩ (.slice (some ⟨gg, 0, none⟩) (l3.length + 1 + 1) cap) = w9 at *
            have e0 : w9.cell? ⟨q, 0, none⟩ = some (.int .i64 (X : Int)) := by rw [cell_of_row _ _ _ _ _ _ hq7]; rfl
            have e1 : w9.cell? ⟨q, 1, none⟩ = some (.int .i64 (Y : Int)) := by rw [cell_of_row _ _ _ _ _ _ hq7]; rfl
            have hb9 := hbw2.trans z2
            have HZ1 := Lib.hid z1
            clear z1 z2 hq7 hbw2 p1
            go_wp2_with fail
            go_quiet (fail)
            have hb4 := below_drewN hb9 nq
            have hC4 := HZ1.out.next (below_drewN (Below.refl _ _) nq)
            clear e0 e1 hb9 HZ1
            go_wp2_with fail
            go_roundw
            case rel => exact ⟨k + 1, X + 1, Y + 1, _, _, by go_num, by go_num, by go_num, hC4, hb4, by simp; omega, by omega, by omega, fun z hz => by
              rcases List.mem_append.1 hz with hz | hz
              · have := HN2.out z hz; omega
              · rw [List.mem_singleton.1 hz]; show (0 : Int) ≤ 1 ∧ (1 : Int) ≤ _; omega, .inl ⟨by omega, by omega, by omega, fun z hz => by simp at hz; rw [← hz], by rw [HR6.out, HTK.out]; simp, HM6.out⟩⟩
            case measure => simp [intOf]; omega
      · have b3 : decide ((k : Int) < K.length) = false := decide_eq_false (by omega)
        have b3n : decide (k < K.length) = false := decide_eq_false hlt
        have hkk : k = K.length := by omega
        have HE := Lib.hid (show l2.map (·.h) = R by
          rcases HXY.out with ⟨h, _⟩ | ⟨_, e1, e2⟩
          · exact absurd h hlt
          · rw [HR.out, hm2, hkk, List.drop_length, keepHs_nil, Pc.take_pend _ _ _ HLA.out, e1, e2, List.take_length, List.length_drop])
        have HC2 := Lib.hid hC2
        have HN2 := Lib.hid hn2
        clear hC2 hm2 hblk hn2
        go_wp2_with fail
        go_quiet (fail)
        have hb4 := below_drewN hbw2 nq
        have hC4 : Cb (wc.drewN nq) w.heap.size (w.heap.size + 1) w.heap.size base l2 v2 := HC2.out.next (below_drewN (Below.refl _ _) nq)
        clear e0 e1 p1 hbw2 HC2
        go_wp2_with fail
        go_roundw
        case rel => exact ⟨k + 1, X + 1, Y + 1, l2, v2, by go_num, by go_num, by go_num, hC4, hb4, by omega, by omega, by omega, fun x hx => by have := HN2.out x hx; omega, .inr ⟨by omega, HE.out⟩⟩
        case measure => simp [intOf]; omega
    · have b1 : decide ((k : Int) ≤ K.length) = false := decide_eq_false (by omega)
      have b1n : decide (k ≤ K.length) = false := decide_eq_false (by omega)
      obtain ⟨A9, c9, rfl, hHT⟩ := HC.out.hsT
      have hpat := HC.out.pat
      have hres := HC.out.res
      have p0 : wr.cell? ⟨w.heap.size + 1, 0, none⟩ = some (.string (str base)) := by rw [cell_of_row _ _ _ _ _ _ hpat]; rfl
      rw [List.length_map] at hpat
      have p1 : wr.cell? ⟨w.heap.size + 1, 1, none⟩ = some (.slice A9 l.length c9) := by rw [cell_of_row _ _ _ _ _ _ hpat]; rfl
      obtain ⟨z1, z2, r0, r1, f0, f1⟩ := fin_patch (.string (str base)) (.slice A9 l.length c9) (Nat.le_refl _) hres hb hHT
      have Q1 := Lib.hid z1
      have Q2 := Lib.hid z2
      have HLR := Lib.hid hR
      clear z1 z2 hHT hpat hres hb hR HC HN
      go_wp2_with fail
      refine bodyPost_ret (v := .agg #[.string (str base), .slice A9 l.length c9]) (by simp [results, Tryz.results57, go_sem, r0, r1]) rfl ⟨A9, c9, by rw [paV_def, ← HLR.out, List.length_map], ?_, Q2.out⟩
      show HsT _ A9 R
      rw [← HLR.out]
      exact Q1.out
end Go.Proofs.YtlfgnecfabdkmaaGreatDoor
