/- The function that takes lines into the hunks of a patch. No condition but the lengths. -/
import Derived.Test.YtmmdldicafbjdaaGreatDoorOwn
import Derived.Test.YtmmdldicafbjdaaGreatDoorKps
import Derived.Deep.OwnRows
import Derived.Deep.RegionLaw
import Derived.Laws.OwnMore
namespace Go.Proofs.YtmmdldicafbjdaaGreatDoor
open Go.RowKit Go.Deep Tr

/-- A hunk, and where its lines lie. -/
structure Hc where
  h : Pc.Hk
  A : Option Addr
  c : Nat
def hcV (x : Hc) : List Value := [.int .i64 x.h.kind, .int .i64 x.h.n, .slice x.A x.h.ls.length x.c]
def hcsV (l : List Hc) : List Value := l.flatMap hcV
theorem hcsV_app (a b : List Hc) : hcsV (a ++ b) = hcsV a ++ hcsV b := by simp [hcsV]
theorem hcsV_len (l : List Hc) : (hcsV l).length = l.length * 3 := by
  induction l with
  | nil => rfl
  | cons x t ih =>
    have : hcsV (x :: t) = hcV x ++ hcsV t := rfl
    rw [this, List.length_append, ih, List.length_cons]
    show 3 + t.length * 3 = _
    omega
theorem hcsV_one (x : Hc) : hcsV [x] = hcV x := by simp [hcsV]
theorem hcsV_last (l : List Hc) (x : Hc) (i : Nat) : (hcsV (l ++ [x]))[l.length * 3 + i]? = (hcV x)[i]? := by
  rw [hcsV_app, hcsV_one, List.getElem?_append_right (by rw [hcsV_len]; omega), hcsV_len]
  congr 1; omega
theorem hcsV_set (l : List Hc) (x : Hc) (i : Nat) (u : Value) : (hcsV (l ++ [x])).set (l.length * 3 + i) u = hcsV l ++ (hcV x).set i u := by
  rw [hcsV_app, hcsV_one, List.set_append_right _ _ (by rw [hcsV_len]; omega), hcsV_len]
  congr 2; omega
theorem hcsV_at : ∀ (l : List Hc) (k i : Nat) (h : k < l.length), i < 3 → (hcsV l)[k * 3 + i]? = (hcV l[k])[i]?
  | x :: t, 0, i, _, hi => by
    have : hcsV (x :: t) = hcV x ++ hcsV t := rfl
    rw [this, List.getElem?_append_left (by show 0 * 3 + i < 3; omega)]
    simp
  | x :: t, k + 1, i, h, hi => by
    have e : hcsV (x :: t) = hcV x ++ hcsV t := rfl
    rw [e, List.getElem?_append_right (by show 3 ≤ _; omega)]
    have := hcsV_at t k i (by simpa using h) hi
    rw [show (k + 1) * 3 + i - (hcV x).length = k * 3 + i by show (k + 1) * 3 + i - 3 = _; omega, this]
    simp
/-- The lines of a hunk lie in a block of strings. -/
structure LnS (w : World) (x : Hc) : Prop where
  cap : x.h.ls.length ≤ x.c
  max : x.c ≤ maxLen
  at_ : x.h.ls = [] ∨ ∃ g o cs fr, x.A = some ⟨g, o, none⟩ ∧ w.heap[g]? = some (.cells cs 9 fr) ∧ ∀ j (h : j < x.h.ls.length), cs[o + j]? = some (.string (str x.h.ls[j]))
/-- Blocks that are no hunks and no patch stay. -/
def KeptS (w w' : World) : Prop := ∀ (q : Nat) (cs : Array Value) (t : TypeId) (fr : Nat × Nat), w.heap[q]? = some (Obj.cells cs t fr) → t ≠ 47 → t ≠ 24 → w'.heap[q]? = some (Obj.cells cs t fr)
theorem KeptS.refl (w : World) : KeptS w w := fun _ _ _ _ h _ _ => h
theorem KeptS.trans {a b c : World} (h : KeptS a b) (k : KeptS b c) : KeptS a c := fun q cs t fr e h1 h2 => k q cs t fr (h q cs t fr e h1 h2) h1 h2
theorem KeptS.of {w w' : World} (h : Below w.heap.size w w') : KeptS w w' := fun q _ _ _ e _ _ => (h.block q (blk_lt e)).trans e
theorem KeptS.set {w : World} {b i : Nat} {u : Value} {cs : Array Value} {t : TypeId} {fr : Nat × Nat} (hb : w.heap[b]? = some (.cells cs t fr)) (ht : t = 47 ∨ t = 24) : KeptS w (w.setCell ⟨b, i, none⟩ u) := fun q cs' t' fr' e h1 h2 => by
  rw [blk_setCell_other _ _ _ _ (show q ≠ b from fun h => by
    subst h
    rw [hb] at e
    simp only [Option.some.injEq, Obj.cells.injEq] at e
    rcases ht with ht | ht
    · exact h1 (e.2.1.symm.trans ht)
    · exact h2 (e.2.1.symm.trans ht))]
  exact e
theorem LnS.keep {w w' : World} {x : Hc} (h : LnS w x) (k : KeptS w w') : LnS w' x := by
  refine ⟨h.cap, h.max, ?_⟩
  rcases h.at_ with e | ⟨g, o, cs, fr, e1, e2, e3⟩
  · exact .inl e
  · exact .inr ⟨g, o, cs, fr, e1, k g cs _ fr e2 (by decide) (by decide), e3⟩
/-- What the function has by now: the row of hunks is v. -/
structure Cl (w : World) (B bx pb : Nat) (base : List UInt8) (l : List Hc) (v : Value) : Prop where
  box : w.heap[bx]? = some (.cells #[.pointer (some ⟨pb, 0, none⟩)] 101 (0, 0))
  pat : w.heap[pb]? = some (.cells #[.string (str base), v] 24 (0, 0))
  row : w.ownsRow B 47 3 v l.length (hcsV l)
  nil : l = [] → v = .slice none 0 0
  lns : ∀ x ∈ l, LnS w x
  lop : B ≤ pb
  lob : B ≤ bx
theorem Cl.next {w w' : World} {B bx pb : Nat} {base : List UInt8} {l : List Hc} {v : Value} (h : Cl w B bx pb base l v) (hb : Below w.heap.size w w') : Cl w' B bx pb base l v :=
  ⟨(hb.block _ (blk_lt h.box)).trans h.box, (hb.block _ (blk_lt h.pat)).trans h.pat, owns_below h.row hb, h.nil, fun x hx => (h.lns x hx).keep (KeptS.of hb), h.lop, h.lob⟩
theorem Cl.last {w : World} {B bx pb : Nat} {base : List UInt8} {l : List Hc} {x : Hc} {v : Value} (h : Cl w B bx pb base (l ++ [x]) v) : ∃ g cap, v = .slice (some ⟨g, 0, none⟩) (l.length + 1) cap ∧ g < w.heap.size ∧ w.cell? ⟨bx, 0, none⟩ = some (.pointer (some ⟨pb, 0, none⟩)) ∧ w.cell? ⟨pb, 1, none⟩ = some v ∧ (∀ i u, (hcV x)[i]? = some u → w.cell? ⟨g, l.length * 3 + i, none⟩ = some u) ∧ (∀ j, w.frozen? ⟨g, j, none⟩ = false) := by
  have hr := h.row
  have hl : (l ++ [x]).length = l.length + 1 := by simp
  rcases hr.2 with ⟨_, h0⟩ | ⟨g, cap, cur, rfl, hb, hg, h1, h2, _, _⟩
  · omega
  · refine ⟨g, cap, by rw [hl], (Array.getElem?_eq_some_iff.1 hg).1, by rw [cell_of_row _ _ _ _ _ _ h.box]; rfl, by rw [cell_of_row _ _ _ _ _ _ h.pat]; rfl, fun i u hu => ?_, fun j => hr.frozenAt j⟩
    have hi : i < 3 := (List.getElem?_eq_some_iff.1 hu).1
    rw [hr.cellAt _ (by rw [hl]; omega), hcsV_last, hu]
theorem infoH : (Tryz.prog.info? 47).map (fun i => (i.zero, i.size, i.bytes)) = some (some (.agg #[.int .i64 0, .int .i64 0, .slice none 0 0]), 3, 40) := by kernel_rfl
theorem blk_alloc_drew {w : World} {q : Nat} {x o : Obj} (h : w.heap[q]? = some x) : (w.alloc o).drew.heap[q]? = some x := by
  show (w.alloc o).heap[q]? = _
  rw [blk_alloc_lt w o q (blk_lt h)]; exact h
theorem KeptS.grown {w w' : World} {B n size : Nat} {v : Value} {xs : List Value} (hg : w.grownBy w' v.ownBlock) (ho : w.ownsRow B 47 size v n xs) : KeptS w w' := fun _ _ _ _ h h1 _ => blk_grown0 h hg (own_far ho h h1)
/-- A field of the last hunk is stored. -/
theorem Cl.set {w : World} {B bx pb : Nat} {base : List UInt8} {l : List Hc} {x : Hc} {n g cap : Nat} (h : Cl w B bx pb base (l ++ [x]) (.slice (some ⟨g, 0, none⟩) n cap)) (i : Nat) (u : Value) (y : Hc) (he : (hcV x).set i u = hcV y) (hy : LnS w y) :
    Cl (w.setCell ⟨g, l.length * 3 + i, none⟩ u) B bx pb base (l ++ [y]) (.slice (some ⟨g, 0, none⟩) n cap) ∧ Below B w (w.setCell ⟨g, l.length * 3 + i, none⟩ u) ∧ KeptS w (w.setCell ⟨g, l.length * 3 + i, none⟩ u) := by
  have ho := h.row
  have hn : n = (l ++ [x]).length := by
    rcases ho.2 with ⟨e, _⟩ | ⟨g', cap', cur, e, _⟩
    · cases e
    · injection e
  subst hn
  obtain ⟨cs, hgb⟩ : ∃ cs, w.heap[g]? = some (.cells cs 47 (0, 0)) := by
    rcases ho.2 with ⟨e, _⟩ | ⟨g', cap', cur, e, _, hg, _⟩
    · cases e
    · injection e with e1
      injection e1 with e1
      injection e1 with e1
      subst e1
      exact ⟨cur, hg⟩
  have hgB : B ≤ g := (ho.lt g rfl).1
  have hst := ho.stored (l.length * 3 + i) u
  have hk : KeptS w (w.setCell ⟨g, l.length * 3 + i, none⟩ u) := KeptS.set hgb (.inl rfl)
  have nb : bx ≠ g := fun e => by
    have := h.box
    rw [e, hgb] at this
    simp only [Option.some.injEq, Obj.cells.injEq] at this
    exact absurd this.2.1 (by decide)
  have np : pb ≠ g := fun e => by
    have := h.pat
    rw [e, hgb] at this
    simp only [Option.some.injEq, Obj.cells.injEq] at this
    exact absurd this.2.1 (by decide)
  refine ⟨⟨(blk_setCell_other _ _ _ _ (show bx ≠ g from nb)).trans h.box, (blk_setCell_other _ _ _ _ (show pb ≠ g from np)).trans h.pat, ?_, fun e => by simp at e, fun z hz => ?_, h.lop, h.lob⟩, (Below.refl B w).setCell (p := ⟨g, l.length * 3 + i, none⟩) hgB _, hk⟩
  · have h1 := hst.1
    rw [hcsV_set, he, ← hcsV_one y, ← hcsV_app] at h1
    rw [show (l ++ [y]).length = (l ++ [x]).length by simp]
    exact h1
  · rcases List.mem_append.1 hz with hz | hz
    · exact (h.lns z (List.mem_append_left _ hz)).keep hk
    · rw [List.mem_singleton.1 hz]; exact hy.keep hk
/-- A new hunk is appended, and stored. -/
theorem Cl.add {w W w6 : World} {B bx pb : Nat} {base : List UInt8} {l : List Hc} (x : Hc) {v : Value} {gg cap : Nat} (h : Cl w B bx pb base l v) (hb : Below w.heap.size w W) (hB : B ≤ w.heap.size)
    (h6 : w6.ownsRow B 47 3 (.slice (some ⟨gg, 0, none⟩) (l.length + 1) cap) (l.length + 1) (hcsV (l ++ [x]))) (hg : W.grownBy w6 v.ownBlock) (hx : x.h.ls = []) (hc : x.c = 0) :
    Cl (w6.setCell ⟨pb, 1, none⟩ (.slice (some ⟨gg, 0, none⟩) (l.length + 1) cap)) B bx pb base (l ++ [x]) (.slice (some ⟨gg, 0, none⟩) (l.length + 1) cap) ∧ Below B w (w6.setCell ⟨pb, 1, none⟩ (.slice (some ⟨gg, 0, none⟩) (l.length + 1) cap)) ∧ KeptS w (w6.setCell ⟨pb, 1, none⟩ (.slice (some ⟨gg, 0, none⟩) (l.length + 1) cap)) := by
  have ho := owns_below h.row hb
  have hbW := (hb.block _ (blk_lt h.box)).trans h.box
  have hpW := (hb.block _ (blk_lt h.pat)).trans h.pat
  have b6 := blk_grown0 hbW hg (own_far ho hbW (by decide))
  have p6 := blk_grown0 hpW hg (own_far ho hpW (by decide))
  have nbp : bx ≠ pb := fun e => by
    have := h.box
    rw [e, h.pat] at this
    simp only [Option.some.injEq, Obj.cells.injEq] at this
    exact absurd this.2.1 (by decide)
  have k6 : KeptS w w6 := (KeptS.of hb).trans (KeptS.grown hg ho)
  have k7 : KeptS w6 (w6.setCell ⟨pb, 1, none⟩ (.slice (some ⟨gg, 0, none⟩) (l.length + 1) cap)) := KeptS.set p6 (.inr rfl)
  have B6 : Below B w w6 := (hb.mono hB).trans ⟨hg.os, hg.tape, hg.output, hg.size, fun k hk => hg.block k (by have := hb.size; omega) (fun e => by have := (ho.lt k e.symm).1; omega)⟩
  refine ⟨⟨(blk_setCell_other _ _ _ _ (show bx ≠ pb from nbp)).trans b6, heap_setCell_same w6 pb 1 _ _ _ p6, ?_, fun e => by simp at e, fun z hz => ?_, h.lop, h.lob⟩, B6.setCell (p := ⟨pb, 1, none⟩) h.lop _, k6.trans k7⟩
  · rw [List.length_append, List.length_singleton]
    refine h6.kept (row := some pb) ⟨rfl, rfl, rfl, by simp, fun k _ hk => heap_setCell_other w6 ⟨pb, 1, none⟩ k _ (fun e => hk (by rw [e]))⟩ (.inr ?_)
    exact own_far h6 p6 (by decide)
  · rcases List.mem_append.1 hz with hz | hz
    · exact (h.lns z hz).keep (k6.trans k7)
    · rw [List.mem_singleton.1 hz]
      exact ⟨by rw [hx, hc]; exact Nat.le_refl _, by rw [hc]; exact Nat.zero_le _, .inl hx⟩
theorem take_newC (l : List Hc) (k : Int) (ls : List (List UInt8)) (hl : ls ≠ []) (h : ∀ x, l.getLast? = some x → x.h.kind ≠ k) : Pc.take (l.map (·.h)) k ls = l.map (·.h) ++ [Pc.addTo k ls ⟨k, 0, []⟩] := by
  refine Pc.take_new _ k ls hl fun x hx => ?_
  rw [List.getLast?_map] at hx
  obtain ⟨y, hy, rfl⟩ := Option.map_eq_some_iff.1 hx
  exact h y hy
theorem add_facts {w w6 : World} {B bx pb : Nat} {base : List UInt8} {l : List Hc} {v : Value} {o : Obj} (h : Cl w B bx pb base l v) (hg : (w.alloc o).drew.grownBy w6 v.ownBlock) :
    w6.cell? ⟨bx, 0, none⟩ = some (.pointer (some ⟨pb, 0, none⟩)) ∧ w6.cell? ⟨pb, 1, none⟩ = some v ∧ w6.frozen? ⟨pb, 1, none⟩ = false := by
  have e1 : (w.alloc o).drew.heap[bx]? = some _ := blk_alloc_drew h.box
  have e2 : (w.alloc o).drew.heap[pb]? = some _ := blk_alloc_drew h.pat
  have ho2 : (w.alloc o).drew.ownsRow B 47 3 v l.length (hcsV l) := (h.row.alloc o).drew
  have x6 := blk_grown0 e1 hg (own_far ho2 e1 (by decide))
  have p6 := blk_grown0 e2 hg (own_far ho2 e2 (by decide))
  exact ⟨by rw [cell_of_row _ _ _ _ _ _ x6]; rfl, by rw [cell_of_row _ _ _ _ _ _ p6]; rfl, frozen_of_row w6 pb 1 _ _ p6⟩
/-- A row of strings of the call's own, as the lines of a hunk. -/
theorem own_lns {w : World} {B : Nat} {v : Value} {ls : List (List UInt8)} (h : w.ownsRow B 9 1 v ls.length (strs ls)) : ∃ A c, v = .slice A ls.length c ∧ ∀ k n, LnS w ⟨⟨k, n, ls⟩, A, c⟩ := by
  rcases h.2 with ⟨rfl, h0⟩ | ⟨g, cap, cur, rfl, hb, hg, h1, h2, h3, h4⟩
  · have : ls = [] := List.length_eq_zero_iff.1 h0
    subst this
    exact ⟨none, 0, rfl, fun _ _ => ⟨Nat.le_refl _, Nat.zero_le _, .inl rfl⟩⟩
  · refine ⟨some ⟨g, 0, none⟩, cap, rfl, fun _ _ => ⟨h1, h2, .inr ⟨g, 0, cur, (0, 0), rfl, hg, fun j hj => ?_⟩⟩⟩
    have hj' : j < ls.length := hj
    have h5 := congrArg (fun x => x[j]?) h4
    simp only [Nat.mul_one, List.getElem?_take, if_pos hj'] at h5
    rw [Nat.zero_add, ← Array.getElem?_toList, h5]
    simp [strs, hj']
/-- What the function does. -/
def GotC (w : World) (B bx pb : Nat) (base : List UInt8) (l : List Hc) (k : Int) (ls : List (List UInt8)) : Ending → World → Prop := fun e w' => e = .returned (.tuple #[]) ∧ ∃ l' v', Cl w' B bx pb base l' v' ∧ l'.map (·.h) = Pc.take (l.map (·.h)) k ls ∧ Below B w w' ∧ KeptS w w'
set_option maxHeartbeats 2000000 in
set_option maxRecDepth 100000 in
theorem col_none (B bx pb : Nat) (base : List UInt8) (l : List Hc) (v : Value) (k : Int) (A : Option Addr) (c : Nat) (w : World) (hC : Cl w B bx pb base l v) :
    Calls Tryz.prog 76 #[.int .i64 k, .slice A 0 c, .pointer (some ⟨bx, 0, none⟩)] w (GotC w B bx pb base l k []) := by
  have HC := Lib.hid hC
  clear hC
  go_enter Tryz.func76, Tryz.ntmps76
  go_wp2_with fail
  go_end0
  exact ⟨rfl, l, v, HC.out, (Pc.take_nil _ _).symm, Below.refl _ _, KeptS.refl _⟩
set_option maxHeartbeats 8000000 in
set_option maxRecDepth 100000 in
theorem col_first (B bx pb : Nat) (base : List UInt8) (v : Value) (k : Int) (A : Option Addr) (c : Nat) (ls : List (List UInt8)) (w : World) (hC : Cl w B bx pb base [] v) (hB : B ≤ w.heap.size) (hL : k = 3 → CellsAt w B A (strs ls)) (hl0 : ls ≠ []) (hl1 : ls.length ≤ 1024) :
    Calls Tryz.prog 76 #[.int .i64 k, .slice A ls.length c, .pointer (some ⟨bx, 0, none⟩)] w (GotC w B bx pb base [] k ls) := by
  have hlp : 1 ≤ ls.length := List.length_pos_iff.2 hl0
  have n0 : ((ls.length : Int) == 0) = false := by rw [beq_eq_false_iff_ne]; omega
  have n0n : (ls.length == 0) = false := by rw [beq_eq_false_iff_ne]; omega
  obtain ⟨i0, hi0, hz0, hz1, hz2⟩ := info_parts infoH
  have hbl := blk_lt hC.box
  have hpl := blk_lt hC.pat
  obtain rfl := hC.nil rfl
  have c0 : w.cell? ⟨bx, 0, none⟩ = some (.pointer (some ⟨pb, 0, none⟩)) := by rw [cell_of_row _ _ _ _ _ _ hC.box]; rfl
  have c1 : w.cell? ⟨pb, 1, none⟩ = some (.slice none 0 0) := by rw [cell_of_row _ _ _ _ _ _ hC.pat]; rfl
  have HBN := Lib.hid (show (w.alloc (.cells #[.int .i64 k, .int .i64 0, .slice none 0 0] 47)).drew.heap[w.heap.size]? = some (.cells #[.int .i64 k, .int .i64 0, .slice none 0 0] 47 (0, 0)) from heap_alloc_new w _)
  have HTK := Lib.hid (take_newC [] k ls hl0 (fun x h => by simp at h))
  have HC := Lib.hid hC
  have HRO := Lib.hid (show w.ownsRow B 47 3 (.slice none 0 0) 0 (hcsV []) by have h := hC.row; exact h)
  clear hC
  go_enter Tryz.func76, Tryz.ntmps76
  go_upto_region 3 with (fail)
  go_cut [] (fun wx => ∃ v', Cl wx B bx pb base ([] ++ [⟨⟨k, 0, []⟩, none, 0⟩]) v' ∧ Below B w wx ∧ KeptS w wx)
  case first =>
    go_region_law (refine step_append_lies _ (by rfl) _ _ _ (by rfl) B 47 i0 _ 3 40 Tryz.underlying22 hi0 hz0 hz1 hz2 rfl (by omega) (.slice none 0 0) 0 _ (by rfl) ((HRO.out.alloc _).drew) ⟨w.heap.size, 0, none⟩ 1 1 [_, _, _] (by rfl) (by rfl) (World.news_of_block (cs := #[_, _, _]) (t := 47) (fr := (0, 0)) HBN.out) (by simp [Value.oneCell']) (by omega) (by unfold maxLen; omega) (by omega) (by simp; omega) (w.heap.size + 1) (by simp) ?_; intro gg cap w6 hown6 hgrow hat hlt6; obtain ⟨c06, c16, f6⟩ := add_facts HC.out hgrow)
    all_goals
      go_wp2_with fail
      go_meet
      have hcl : ([] : List Hc).length = 0 := by simp
      have h6 : w6.ownsRow B 47 3 (.slice (some ⟨gg, 0, none⟩) (([] : List Hc).length + 1) cap) (([] : List Hc).length + 1) (hcsV ([] ++ [⟨⟨k, 0, []⟩, none, 0⟩])) := by rw [hcsV_app, hcsV_one, hcl]; exact hown6
      have hfin := HC.out.add (W := (w.alloc (.cells #[.int .i64 k, .int .i64 0, .slice none 0 0] 47)).drew) ⟨⟨k, 0, []⟩, none, 0⟩ (((Below.refl _ _).alloc (Nat.le_refl _) _).drew) hB h6 hgrow rfl rfl
      rw [hcl] at hfin
      exact ⟨_, by first | exact hfin.1 | simpa using hfin.1, by first | exact hfin.2.1 | simpa using hfin.2.1, by first | exact hfin.2.2 | simpa using hfin.2.2⟩
  case rest =>
  obtain ⟨v', hX, hbc, hkc⟩ := hcut
  obtain ⟨g, cap, rfl, hgl, d0, d1, dd, df⟩ := hX.last
  have hcl : ([] : List Hc).length = 0 := by simp
  rw [hcl] at d1 dd hX
  have d2 : wc.cell? ⟨g, 1, none⟩ = some (.int .i64 0) := dd 1 _ rfl
  have f2 := df (1)
  clear hgl
  by_cases hk3 : k = 3
  · subst hk3
    obtain ⟨s1, s2, s3⟩ := hX.set 1 (.int .i64 (ls.length : Int)) ⟨⟨3, (ls.length : Int), []⟩, none, 0⟩ rfl ⟨Nat.le_refl _, Nat.zero_le _, .inl rfl⟩
    rw [hcl] at s1 s2 s3
    have d8 : (wc.setCell ⟨g, 1, none⟩ (.int .i64 (ls.length : Int))).cell? ⟨g, 2, none⟩ = some (.slice none 0 0) := by
      obtain ⟨g8, cap8, e8, _, _, _, dd8, _⟩ := s1.last
      injection e8 with e8
      injection e8 with e8
      injection e8 with e8
      subst e8
      rw [hcl] at dd8
      exact dd8 2 _ rfl
    have hB8 : B ≤ (wc.setCell ⟨g, 1, none⟩ (.int .i64 (ls.length : Int))).heap.size := Nat.le_trans hB (hbc.trans s2).size
    have hA8 : CellsAt (wc.setCell ⟨g, 1, none⟩ (.int .i64 (ls.length : Int))) (wc.setCell ⟨g, 1, none⟩ (.int .i64 (ls.length : Int))).heap.size A (strs ls) := fun i hi => by
      obtain ⟨g', o', e, hg, hc⟩ := (hL rfl).below (hbc.trans s2) (Nat.le_refl _) i hi
      exact ⟨g', o', e, Nat.lt_of_lt_of_le hg hB8, hc⟩
    obtain ⟨v9, w9, hrun, hown9, hgrow9⟩ := app_strs 45 _ _ (.slice none 0 0) [] ls (World.ownsRow_nil _ _ _ _) A c hA8 (Nat.le_refl _) (by simp; omega)
    rw [List.nil_append] at hown9
    obtain ⟨A9, c9, rfl, hln⟩ := own_lns hown9
    have hb89 := grown_own0 (Below.refl _ _) hgrow9 (fun q hq => by cases hq)
    have s9 := s1.next hb89
    obtain ⟨g9, cap9, e9, _, _, _, dd9, df9⟩ := s9.last
    injection e9 with e9
    injection e9 with e9
    injection e9 with e9
    subst e9
    rw [hcl] at dd9
    have d9 : w9.cell? ⟨g, 2, none⟩ = some (.slice none 0 0) := dd9 2 _ rfl
    have f9 := df9 (2)
    obtain ⟨t1, t2, t3⟩ := s9.set 2 (.slice A9 ls.length c9) ⟨⟨3, (ls.length : Int), ls⟩, A9, c9⟩ rfl (hln _ _)
    rw [hcl] at t1 t2 t3
    have T1 := Lib.hid t1
    have T2 := Lib.hid (hbc.trans (s2.trans ((hb89.mono hB8).trans t2)))
    have T3 := Lib.hid (hkc.trans (s3.trans ((KeptS.of hb89).trans t3)))
    clear t1 t2 t3 s1 s2 s3 s9 hX hbc hkc dd dd9 df9 hb89 hgrow9 hown9 hln hA8 hL hB8 df
    go_wp2_with (at_builtin; refine Lib.wpList_append_run _ rfl _ _ _ _ rfl _ _ rfl rfl _ _ hrun ?_)
    go_end0
    exact ⟨rfl, _, _, T1.out, by rw [HTK.out]; simp [Pc.addTo], T2.out, T3.out⟩
  · obtain ⟨s1, s2, s3⟩ := hX.set 1 (.int .i64 (ls.length : Int)) ⟨⟨k, (ls.length : Int), []⟩, none, 0⟩ rfl ⟨Nat.le_refl _, Nat.zero_le _, .inl rfl⟩
    rw [hcl] at s1 s2 s3
    have b3 : (k == 3) = false := by rw [beq_eq_false_iff_ne]; exact hk3
    have HK3 := Lib.hid hk3
    have T1 := Lib.hid s1
    have T2 := Lib.hid (hbc.trans s2)
    have T3 := Lib.hid (hkc.trans s3)
    clear s1 s2 s3 hX hbc hkc dd df hL hk3
    go_wp2_with fail
    go_end0
    exact ⟨rfl, _, _, T1.out, by rw [HTK.out]; simp [Pc.addTo, HK3.out], T2.out, T3.out⟩
set_option maxHeartbeats 8000000 in
set_option maxRecDepth 100000 in
theorem col_new (B bx pb : Nat) (base : List UInt8) (l1 : List Hc) (y0 : Hc) (v : Value) (k : Int) (A : Option Addr) (c : Nat) (ls : List (List UInt8)) (w : World) (hC : Cl w B bx pb base (l1 ++ [y0]) v) (hB : B ≤ w.heap.size) (hL : k = 3 → CellsAt w B A (strs ls)) (hl0 : ls ≠ []) (hl1 : ls.length ≤ 1024) (hne : y0.h.kind ≠ k) (hll : l1.length + 1 ≤ 1000000) :
    Calls Tryz.prog 76 #[.int .i64 k, .slice A ls.length c, .pointer (some ⟨bx, 0, none⟩)] w (GotC w B bx pb base (l1 ++ [y0]) k ls) := by
  have hlp : 1 ≤ ls.length := List.length_pos_iff.2 hl0
  have n0 : ((ls.length : Int) == 0) = false := by rw [beq_eq_false_iff_ne]; omega
  have n0n : (ls.length == 0) = false := by rw [beq_eq_false_iff_ne]; omega
  obtain ⟨i0, hi0, hz0, hz1, hz2⟩ := info_parts infoH
  have hbl := blk_lt hC.box
  have hpl := blk_lt hC.pat
  obtain ⟨g0, cap0, rfl, hg0, c0, c1, cc, _⟩ := hC.last
  have ck : w.cell? ⟨g0, l1.length * 3, none⟩ = some (.int .i64 y0.h.kind) := cc 0 _ rfl
  have b4 : (y0.h.kind != k) = true := by rw [bne_iff_ne]; exact hne
  clear cc
  have HBN := Lib.hid (show (w.alloc (.cells #[.int .i64 k, .int .i64 0, .slice none 0 0] 47)).drew.heap[w.heap.size]? = some (.cells #[.int .i64 k, .int .i64 0, .slice none 0 0] 47 (0, 0)) from heap_alloc_new w _)
  have HTK := Lib.hid (take_newC (l1 ++ [y0]) k ls hl0 (fun x h => by rw [List.getLast?_append] at h; simp at h; rw [← h]; exact hne))
  have HC := Lib.hid hC
  have HRO := Lib.hid (show w.ownsRow B 47 3 (.slice (some ⟨g0, 0, none⟩) (l1.length + 1) cap0) (l1.length + 1) (hcsV (l1 ++ [y0])) by have h := hC.row; rw [show (l1 ++ [y0]).length = l1.length + 1 by simp] at h; exact h)
  clear hC
  go_enter Tryz.func76, Tryz.ntmps76
  go_upto_region 3 with (fail)
  go_cut [] (fun wx => ∃ v', Cl wx B bx pb base ((l1 ++ [y0]) ++ [⟨⟨k, 0, []⟩, none, 0⟩]) v' ∧ Below B w wx ∧ KeptS w wx)
  case first =>
    go_region_law (refine step_append_lies _ (by rfl) _ _ _ (by rfl) B 47 i0 _ 3 40 Tryz.underlying22 hi0 hz0 hz1 hz2 rfl (by omega) (.slice (some ⟨g0, 0, none⟩) (l1.length + 1) cap0) (l1.length + 1) _ (by rfl) ((HRO.out.alloc _).drew) ⟨w.heap.size, 0, none⟩ 1 1 [_, _, _] (by rfl) (by rfl) (World.news_of_block (cs := #[_, _, _]) (t := 47) (fr := (0, 0)) HBN.out) (by simp [Value.oneCell']) (by omega) (by unfold maxLen; omega) (by omega) (by simp; omega) (w.heap.size + 1) (by simp) ?_; intro gg cap w6 hown6 hgrow hat hlt6; obtain ⟨c06, c16, f6⟩ := add_facts HC.out hgrow)
    all_goals
      go_wp2_with fail
      go_meet
      have hcl : ((l1 ++ [y0]) : List Hc).length = (l1.length + 1) := by simp
      have h6 : w6.ownsRow B 47 3 (.slice (some ⟨gg, 0, none⟩) (((l1 ++ [y0]) : List Hc).length + 1) cap) (((l1 ++ [y0]) : List Hc).length + 1) (hcsV ((l1 ++ [y0]) ++ [⟨⟨k, 0, []⟩, none, 0⟩])) := by rw [hcsV_app, hcsV_one, hcl]; exact hown6
      have hfin := HC.out.add (W := (w.alloc (.cells #[.int .i64 k, .int .i64 0, .slice none 0 0] 47)).drew) ⟨⟨k, 0, []⟩, none, 0⟩ (((Below.refl _ _).alloc (Nat.le_refl _) _).drew) hB h6 hgrow rfl rfl
      rw [hcl] at hfin
      exact ⟨_, by first | exact hfin.1 | simpa using hfin.1, by first | exact hfin.2.1 | simpa using hfin.2.1, by first | exact hfin.2.2 | simpa using hfin.2.2⟩
  case rest =>
  obtain ⟨v', hX, hbc, hkc⟩ := hcut
  obtain ⟨g, cap, rfl, hgl, d0, d1, dd, df⟩ := hX.last
  have hcl : ((l1 ++ [y0]) : List Hc).length = (l1.length + 1) := by simp
  rw [hcl] at d1 dd hX
  have d2 : wc.cell? ⟨g, (l1.length + 1) * 3 + 1, none⟩ = some (.int .i64 0) := dd 1 _ rfl
  have f2 := df ((l1.length + 1) * 3 + 1)
  clear hgl
  by_cases hk3 : k = 3
  · subst hk3
    obtain ⟨s1, s2, s3⟩ := hX.set 1 (.int .i64 (ls.length : Int)) ⟨⟨3, (ls.length : Int), []⟩, none, 0⟩ rfl ⟨Nat.le_refl _, Nat.zero_le _, .inl rfl⟩
    rw [hcl] at s1 s2 s3
    have d8 : (wc.setCell ⟨g, (l1.length + 1) * 3 + 1, none⟩ (.int .i64 (ls.length : Int))).cell? ⟨g, (l1.length + 1) * 3 + 2, none⟩ = some (.slice none 0 0) := by
      obtain ⟨g8, cap8, e8, _, _, _, dd8, _⟩ := s1.last
      injection e8 with e8
      injection e8 with e8
      injection e8 with e8
      subst e8
      rw [hcl] at dd8
      exact dd8 2 _ rfl
    have hB8 : B ≤ (wc.setCell ⟨g, (l1.length + 1) * 3 + 1, none⟩ (.int .i64 (ls.length : Int))).heap.size := Nat.le_trans hB (hbc.trans s2).size
    have hA8 : CellsAt (wc.setCell ⟨g, (l1.length + 1) * 3 + 1, none⟩ (.int .i64 (ls.length : Int))) (wc.setCell ⟨g, (l1.length + 1) * 3 + 1, none⟩ (.int .i64 (ls.length : Int))).heap.size A (strs ls) := fun i hi => by
      obtain ⟨g', o', e, hg, hc⟩ := (hL rfl).below (hbc.trans s2) (Nat.le_refl _) i hi
      exact ⟨g', o', e, Nat.lt_of_lt_of_le hg hB8, hc⟩
    obtain ⟨v9, w9, hrun, hown9, hgrow9⟩ := app_strs 45 _ _ (.slice none 0 0) [] ls (World.ownsRow_nil _ _ _ _) A c hA8 (Nat.le_refl _) (by simp; omega)
    rw [List.nil_append] at hown9
    obtain ⟨A9, c9, rfl, hln⟩ := own_lns hown9
    have hb89 := grown_own0 (Below.refl _ _) hgrow9 (fun q hq => by cases hq)
    have s9 := s1.next hb89
    obtain ⟨g9, cap9, e9, _, _, _, dd9, df9⟩ := s9.last
    injection e9 with e9
    injection e9 with e9
    injection e9 with e9
    subst e9
    rw [hcl] at dd9
    have d9 : w9.cell? ⟨g, (l1.length + 1) * 3 + 2, none⟩ = some (.slice none 0 0) := dd9 2 _ rfl
    have f9 := df9 ((l1.length + 1) * 3 + 2)
    obtain ⟨t1, t2, t3⟩ := s9.set 2 (.slice A9 ls.length c9) ⟨⟨3, (ls.length : Int), ls⟩, A9, c9⟩ rfl (hln _ _)
    rw [hcl] at t1 t2 t3
    have T1 := Lib.hid t1
    have T2 := Lib.hid (hbc.trans (s2.trans ((hb89.mono hB8).trans t2)))
    have T3 := Lib.hid (hkc.trans (s3.trans ((KeptS.of hb89).trans t3)))
    clear t1 t2 t3 s1 s2 s3 s9 hX hbc hkc dd dd9 df9 hb89 hgrow9 hown9 hln hA8 hL hB8 df
    go_wp2_with (at_builtin; refine Lib.wpList_append_run _ rfl _ _ _ _ rfl _ _ rfl rfl _ _ hrun ?_)
    go_end0
    exact ⟨rfl, _, _, T1.out, by rw [HTK.out]; simp [Pc.addTo], T2.out, T3.out⟩
  · obtain ⟨s1, s2, s3⟩ := hX.set 1 (.int .i64 (ls.length : Int)) ⟨⟨k, (ls.length : Int), []⟩, none, 0⟩ rfl ⟨Nat.le_refl _, Nat.zero_le _, .inl rfl⟩
    rw [hcl] at s1 s2 s3
    have b3 : (k == 3) = false := by rw [beq_eq_false_iff_ne]; exact hk3
    have HK3 := Lib.hid hk3
    have T1 := Lib.hid s1
    have T2 := Lib.hid (hbc.trans s2)
    have T3 := Lib.hid (hkc.trans s3)
    clear s1 s2 s3 hX hbc hkc dd df hL hk3
    go_wp2_with fail
    go_end0
    exact ⟨rfl, _, _, T1.out, by rw [HTK.out]; simp [Pc.addTo, HK3.out], T2.out, T3.out⟩
set_option maxHeartbeats 8000000 in
set_option maxRecDepth 100000 in
theorem col_same (B bx pb : Nat) (base : List UInt8) (l0 : List Hc) (x : Hc) (v : Value) (k : Int) (A : Option Addr) (c : Nat) (ls : List (List UInt8)) (w : World) (hC : Cl w B bx pb base (l0 ++ [x]) v) (hL : k = 3 → CellsAt w B A (strs ls)) (hl0 : ls ≠ []) (hl1 : ls.length ≤ 1024) (hkk : k = x.h.kind) (hk3 : x.h.kind ≠ 3) (hxn : 0 ≤ x.h.n ∧ x.h.n ≤ 1000000000) (hll : l0.length + 1 ≤ 1000000) :
    Calls Tryz.prog 76 #[.int .i64 k, .slice A ls.length c, .pointer (some ⟨bx, 0, none⟩)] w (GotC w B bx pb base (l0 ++ [x]) k ls) := by
  have hlp : 1 ≤ ls.length := List.length_pos_iff.2 hl0
  have n0 : ((ls.length : Int) == 0) = false := by rw [beq_eq_false_iff_ne]; omega
  have n0n : (ls.length == 0) = false := by rw [beq_eq_false_iff_ne]; omega
  have hbl := blk_lt hC.box
  have hpl := blk_lt hC.pat
  obtain ⟨hx0, hx1⟩ := hxn
  subst hkk
  obtain ⟨g, cap, rfl, hgl, d0, d1, dd, df⟩ := hC.last
  have hcl : (l0 ++ [x] : List Hc).length = l0.length + 1 := by simp
  have dk : w.cell? ⟨g, l0.length * 3, none⟩ = some (.int .i64 x.h.kind) := dd 0 _ rfl
  have d2 : w.cell? ⟨g, l0.length * 3 + 1, none⟩ = some (.int .i64 x.h.n) := dd 1 _ rfl
  have f2 := df (l0.length * 3 + 1)
  have b4 : (x.h.kind != x.h.kind) = false := by simp
  have b3 : (x.h.kind == 3) = false := by rw [beq_eq_false_iff_ne]; exact hk3
  have HK3 := Lib.hid hk3
  have HTK := Lib.hid (show Pc.take ((l0 ++ [x]).map (·.h)) x.h.kind ls = l0.map (·.h) ++ [Pc.addTo x.h.kind ls x.h] by rw [List.map_append]; exact Pc.take_same _ _ _ _ hl0 rfl)
  obtain ⟨s1, s2, s3⟩ := hC.set 1 (.int .i64 (x.h.n + (ls.length : Int))) ⟨⟨x.h.kind, x.h.n + (ls.length : Int), x.h.ls⟩, x.A, x.c⟩ rfl ⟨(hC.lns x (by simp)).cap, (hC.lns x (by simp)).max, (hC.lns x (by simp)).at_⟩
  have T1 := Lib.hid s1
  have T2 := Lib.hid s2
  have T3 := Lib.hid s3
  clear s1 s2 s3 dd df hk3 hC hcl
  go_enter Tryz.func76, Tryz.ntmps76
  go_wp2_with fail
  go_end0
  exact ⟨rfl, _, _, T1.out, by rw [HTK.out]; simp [Pc.addTo, HK3.out], T2.out, T3.out⟩
theorem col_any (B bx pb : Nat) (base : List UInt8) (l : List Hc) (v : Value) (k : Int) (A : Option Addr) (c : Nat) (ls : List (List UInt8)) (w : World) (hC : Cl w B bx pb base l v) (hB : B ≤ w.heap.size) (hL : k = 3 → CellsAt w B A (strs ls)) (hl1 : ls.length ≤ 1024) (hn : ∀ x ∈ l, 0 ≤ x.h.n ∧ x.h.n ≤ 1000000000) (hk : k = 3 → ∀ x, l.getLast? = some x → x.h.kind ≠ 3) (hll : l.length ≤ 1000000) :
    Calls Tryz.prog 76 #[.int .i64 k, .slice A ls.length c, .pointer (some ⟨bx, 0, none⟩)] w (GotC w B bx pb base l k ls) := by
  by_cases h0 : ls = []
  · subst h0
    exact col_none B bx pb base l v k A c w hC
  · rcases List.eq_nil_or_concat l with rfl | ⟨l0, x, rfl⟩
    · exact col_first B bx pb base v k A c ls w hC hB hL h0 hl1
    · rw [List.concat_eq_append] at *
      by_cases e : x.h.kind = k
      · exact col_same B bx pb base l0 x v k A c ls w hC hL h0 hl1 e.symm (fun h => hk (e.symm.trans h) x (by simp) h) (hn x (by simp)) (by simpa using hll)
      · exact col_new B bx pb base l0 x v k A c ls w hC hB hL h0 hl1 e (by simpa using hll)
end Go.Proofs.YtmmdldicafbjdaaGreatDoor
