/- Words of the program, at any text. Condition: bytealg's MaxLen, the table of powers and strconv's errors lie in their variables. -/
import Derived.Test.YtenaohnginikhaaDoorNwd
namespace Go.Proofs.YtenaohnginikhaaDoor
open Go.RowKit Go.Deep Tr Rg
attribute [local go_sem] Oper.semAt_some
namespace Nm
theorem results_cell_row2 {P : Program} {fn : Func} {p u : Tmp} {ty : TypeId} (h : fn.results = #[.cell p ty, .tmp u]) (tmps : Array Value) (w : World) (g : Nat) (t : TypeId) (cs : Array Value) (fr : Nat × Nat) (d : TypeDesc)
    (hp : tmps.getD p undef = .pointer (some ⟨g, 0, none⟩)) (hg : w.heap[g]? = some (.cells cs t fr))
    (hu : P.underlying ty = some d) (hd : (match d with | .struct _ | .array _ _ => true | _ => false) = true) (hi : (P.info? ty).map (·.size) = some cs.size) :
    (results fn tmps).run P w = .ok (.tuple #[.agg cs, tmps.getD u undef]) w := by
  rw [results_cell_tmp h, hp]
  simp [asAddr, run_loadVar_row w g t ty cs fr d hg hu hd hi]
theorem leaves_nil {F : Fence} {n : Nat} {P : Program} {fn : Func} {tmps : Array Value} {R : Ending → World → Prop} {w : World} {v : Value} (h : (results fn tmps).run P w = .ok v w) (hR : R (.returned v) w) : LeavesInM F n P fn tmps R [] .returning w := ⟨v, h, hR⟩
theorem leaves_one {F : Fence} {n : Nat} {P : Program} {fn : Func} {tmps : Array Value} {R : Ending → World → Prop} {w : World} (D : Nat) (hD : w.heap[D]? = some (.deferred (some []))) (h : LeavesInM F n P fn tmps R [] .returning (w.putObj D (.deferred none))) : LeavesInM F n P fn tmps R [{ target := .collected D, args := #[] }] .returning w := ⟨by simp, .inl ⟨D, _, rfl, run_takeDeferred hD, h⟩⟩
theorem own_lx {w : World} {B e : Nat} {v : Value} {l : List Lx} (h : w.ownsRow B e 2 v l.length (lxsV l)) : ∃ A c, v = .slice A l.length c ∧ l.length ≤ c ∧ c ≤ maxLen ∧ LxAt w w.heap.size A l := by
  obtain ⟨A, c, rfl, h1, h2, h3⟩ := Ls.own_el lxV 2 (fun _ => rfl) h
  refine ⟨A, c, rfl, h1, h2, fun j hj => ?_⟩
  obtain ⟨g, o, e, hg, hc⟩ := h3 j hj
  exact ⟨g, o, e, hg, by simpa using hc 0 _ rfl, hc 1 _ rfl⟩
/-- What the range keeps. -/
def Iw (w : World) (tb : Nat) (p : List UInt8) (a b : Bool) (d : List UInt8) (i : Nat) (W : World) : Prop := ∃ (k : Nat) (O : List Lx) (v : Value), Wk w tb p a b i k O v W ∧ k ≤ 9999 ∧ wrd a b d = O ++ wl a b i k ((Tre.split 10 d).drop i)
theorem fin_round {w : World} {tb D : Nat} {p : List UInt8} {a b : Bool} {d : List UInt8} {i k : Nat} {O : List Lx} {v : Value} {W W5 : World} {act : Act} (hD : D = tb + 6) (hk : Wk w tb p a b i k O v W5) (hr : Rnd tb W W5) (h9 : k ≤ 9999) (hw : wrd a b d = O ++ wl a b (i + 1) k ((Tre.split 10 d).drop (i + 1))) :
    GoesOn (Iw w tb p a b d) D i [tb + 3, tb + 3 + 1, tb + 3 + 2] W .normal act (W5.setCell ⟨tb + 1, 0, none⟩ (.int .i64 ((i : Int) + 1))) := by
  have h1 := hk.setNr (i + 1)
  rw [show ((i + 1 : Nat) : Int) = (i : Int) + 1 by omega] at h1
  have h2 : Rnd tb W (W5.setCell ⟨tb + 1, 0, none⟩ (.int .i64 ((i : Int) + 1))) := hr.trans (Rnd.set (i := 0) (.inr (.inl rfl)) _)
  subst hD
  refine ⟨rfl, ⟨k, O, v, h1, h9, hw⟩, h2.2 _ (by omega) (by omega) (by omega) (by omega), h2.2 _ (by omega) (by omega) (by omega) (by omega), fun q hq => ?_⟩
  have : tb + 3 ≤ q ∧ q < tb + 8 := by simp at hq; omega
  exact h2.2 _ (by omega) (by omega) (by omega) (by omega)
theorem isW_pos {x : List UInt8} (h : isW x = true) : 0 < x.length := by
  cases x with
  | nil => cases h
  | cons c r => simp
theorem lxsV_snoc (l : List Lx) (x : Lx) : lxsV (l ++ [x]) = lxsV l ++ [.string (str x.tx), .int .i64 x.ln] := by unfold lxsV; rw [List.flatMap_append]; rfl
theorem infoLx : (Tryd.prog.info? 41).map (fun i => (i.zero, i.size, i.bytes)) = some (some (.agg #[.string ⟨#[]⟩, .int .i64 0]), 2, 24) := by kernel_rfl
theorem Wk.facts {w : World} {tb : Nat} {p : List UInt8} {a b : Bool} {i k : Nat} {O : List Lx} {v : Value} {W X : World} (h : Wk w tb p a b i k O v W) (hX : Below W.heap.size W X) :
    (X.cell? ⟨w.heap.size, 0, none⟩ = some (.bool a) ∧ X.cell? ⟨w.heap.size + 1, 0, none⟩ = some (.bool b) ∧ X.cell? ⟨tb + 1, 0, none⟩ = some (.int .i64 (i : Int))) ∧ X.cell? ⟨tb, 1, none⟩ = some v := by
  have g := h.next hX
  exact ⟨⟨one_cell g.nm, one_cell g.nu, one_cell g.nr⟩, (cells2 g.tx).2⟩
theorem Wk.low6 {w : World} {tb : Nat} {p : List UInt8} {a b : Bool} {i k : Nat} {O : List Lx} {v : Value} {W X W6 : World} (h : Wk w tb p a b i k O v W) (hX : Below W.heap.size W X) (hg : X.grownBy W6 v.ownBlock) : ∀ q, q < tb + 3 → W6.heap[q]? = W.heap[q]? := fun q hq => by
  have hs := blk_lt h.nt
  have := hX.size
  refine (hg.block q (by omega) (fun e => ?_)).trans (hX.block q (by omega))
  have := (h.row.lt q e.symm).1
  omega
theorem Wk.grown6 {w : World} {tb : Nat} {p : List UInt8} {a b : Bool} {i k : Nat} {O : List Lx} {v : Value} {W X W6 : World} (h : Wk w tb p a b i k O v W) (hX : Below W.heap.size W X) (hg : X.grownBy W6 v.ownBlock) :
    (W6.cell? ⟨w.heap.size, 0, none⟩ = some (.bool a) ∧ W6.cell? ⟨w.heap.size + 1, 0, none⟩ = some (.bool b) ∧ W6.cell? ⟨tb + 1, 0, none⟩ = some (.int .i64 (i : Int))) ∧ W6.cell? ⟨tb, 1, none⟩ = some v ∧ W6.frozen? ⟨tb, 1, none⟩ = false := by
  have hl := h.low6 hX hg
  have h1 := h.lo
  exact ⟨⟨one_cell ((hl _ (by omega)).trans h.nm), one_cell ((hl _ (by omega)).trans h.nu), one_cell ((hl _ (by omega)).trans h.nr)⟩, (cells2 ((hl _ (by omega)).trans h.tx)).2, frozen_of_row _ _ _ _ _ ((hl _ (by omega)).trans h.tx)⟩
theorem Wk.keep7 {w : World} {tb : Nat} {p : List UInt8} {a b : Bool} {i k : Nat} {O : List Lx} {v : Value} {W X W6 : World} (h : Wk w tb p a b i k O v W) (hX : Below W.heap.size W X) (hg : X.grownBy W6 v.ownBlock) (u : Value) :
    ((W6.setCell ⟨tb, 1, none⟩ u).cell? ⟨w.heap.size, 0, none⟩ = some (.bool a) ∧ (W6.setCell ⟨tb, 1, none⟩ u).cell? ⟨w.heap.size + 1, 0, none⟩ = some (.bool b) ∧ (W6.setCell ⟨tb, 1, none⟩ u).cell? ⟨tb + 1, 0, none⟩ = some (.int .i64 (i : Int))) := by
  have hl := h.low6 hX hg
  have h1 := h.lo
  have hs : ∀ r, r ≠ tb → (W6.setCell ⟨tb, 1, none⟩ u).heap[r]? = W6.heap[r]? := fun r hr => Below.heap_setCell _ ⟨tb, 1, none⟩ _ _ hr
  exact ⟨one_cell ((hs _ (by omega)).trans ((hl _ (by omega)).trans h.nm)), one_cell ((hs _ (by omega)).trans ((hl _ (by omega)).trans h.nu)), one_cell ((hs _ (by omega)).trans ((hl _ (by omega)).trans h.nr))⟩
/-- Strings elsewhere stay. -/
theorem Wk.app_keep {w : World} {tb : Nat} {p : List UInt8} {a b : Bool} {i k : Nat} {O : List Lx} {v : Value} {W X W6 : World} {A : Option Addr} {L : List (List UInt8)} (h : Wk w tb p a b i k O v W) (hA : Ls.StAt W W.heap.size A L) (hkd : ∀ g o, A = some ⟨g, o, none⟩ → ∃ cs fr, W.heap[g]? = some (.cells cs 9 fr)) (hX : Below W.heap.size W X) (hg : X.grownBy W6 v.ownBlock) (u : Value) :
    Ls.StAt (W6.setCell ⟨tb, 1, none⟩ u) (W6.setCell ⟨tb, 1, none⟩ u).heap.size A L ∧ ∀ g o, A = some ⟨g, o, none⟩ → ∃ cs fr, (W6.setCell ⟨tb, 1, none⟩ u).heap[g]? = some (.cells cs 9 fr) := by
  have hs := hX.size
  have hblk : ∀ g o, A = some ⟨g, o, none⟩ → (W6.setCell ⟨tb, 1, none⟩ u).heap[g]? = W.heap[g]? := fun g o e => by
    obtain ⟨cs, fr, h5⟩ := hkd g o e
    have hgl := blk_lt h5
    have n1 : g ≠ tb := fun e2 => by
      have := h.tx
      rw [← e2, h5] at this
      simp only [Option.some.injEq, Obj.cells.injEq] at this
      exact absurd this.2.1 (by decide)
    refine (Below.heap_setCell _ ⟨tb, 1, none⟩ _ _ n1).trans ((hg.block g (by omega) (fun e2 => ?_)).trans (hX.block g hgl))
    obtain ⟨c', fz, h6⟩ := Lib.ownsRow_kind h.row g e2.symm
    rw [h5] at h6
    simp only [Option.some.injEq, Obj.cells.injEq] at h6
    exact absurd h6.2.1 (by decide)
  refine ⟨fun j hj => ?_, fun g o e => ?_⟩
  · obtain ⟨g, o, e, hgl, hc⟩ := hA j hj
    refine ⟨g, o, e, ?_, fun i' u' hu => ?_⟩
    · have h6 := hg.size
      simp; omega
    · have := hc i' u' hu
      unfold World.cell? at this ⊢
      rw [hblk g o e]
      exact this
  · obtain ⟨cs, fr, h5⟩ := hkd g o e
    exact ⟨cs, fr, (hblk g o e).trans h5⟩
theorem infoTx : (Tryd.prog.info? 25).map (·.size) = some 2 := by kernel_rfl
theorem set2_row {w : World} {q : Nat} {a b u v : Value} {T : TypeId} {z : Nat × Nat} (h : w.heap[q]? = some (.cells #[a, b] T z)) : ((w.setCell ⟨q, 0, none⟩ u).setCell ⟨q, 1, none⟩ v).heap[q]? = some (.cells #[u, v] T z) := by simp [World.setCell, Array.getElem?_modify, h]
theorem set2_below {w W : World} {q : Nat} {u v : Value} (hb : Below w.heap.size w W) (hq : w.heap.size ≤ q) : Below w.heap.size w ((W.setCell ⟨q, 0, none⟩ u).setCell ⟨q, 1, none⟩ v) := (hb.setCell (p := ⟨q, 0, none⟩) hq _).setCell (p := ⟨q, 1, none⟩) hq _
theorem ret_tx {w W : World} {t : Txt} {E : Int} {q : Nat} {A : Option Addr} {c : Nat} {tmps : Array Value} (hq : W.heap[q]? = some (.cells #[.string (str t.pth), .slice A t.ws.length c] 25 (0, 0))) (hp : tmps.getD 8 undef = .pointer (some ⟨q, 0, none⟩)) (he : tmps.getD 9 undef = .int .i64 E)
    (hA : TxAt W A t) (hc : t.ws.length ≤ c) (hb : Below w.heap.size w W) : LeavesInM Fence.wide 3 Tryd.prog Tryd.f11 tmps (GotTx w t E) [] .returning W :=
  leaves_nil (results_cell_row2 rfl tmps W q _ _ _ _ hp hq Tryd.underlying25 rfl infoTx) ⟨A, c, by rw [he], hA, hc, hb⟩
set_option maxHeartbeats 16000000 in
set_option maxRecDepth 100000 in
theorem words_in (p d : List UInt8) (a b : Bool) (w : World) (hp : p.length ≤ 1000000000) (hd : d.length ≤ 1000000000) (hM : MaxAt w) (hE : ErrAt w) (hT : Cd.Tabs w) :
    CallsIn Fence.wide 3 Tryd.prog 11 #[.string (str p), .string (str d), .bool a, .bool b] w (GotTx w (wrT p a b d) (wrE p a b d)) := by
  obtain ⟨iL, hiL, hzL0, hzL1, hzL2⟩ := info_parts infoLx
  have HWE := Lib.hid (show wrE p a b d = if Tre.path p = 0 then (if (Tre.lines d).2 = 0 then (if 8192 < (wrd a b d).length then 10 else 0) else (Tre.lines d).2) else 2 from rfl)
  have HWT := Lib.hid (show wrT p a b d = if wrE p a b d = 0 then ⟨p, wrd a b d⟩ else ⟨[], []⟩ from rfl)
  generalize wrT p a b d = T at *
  generalize wrE p a b d = E at *
  obtain ⟨W1, hW1⟩ : ∃ W1, W1 = ((w.alloc (.cells #[.bool a] 4)).alloc (.cells #[.bool b] 4)).alloc (.cells #[.string ⟨#[]⟩, .slice none 0 0] 25) := ⟨_, rfl⟩
  have hb1 : Below w.heap.size w W1 := by rw [hW1]; exact ((Below.refl _ w).alloc (Nat.le_refl _) _).alloc (by simp) _ |>.alloc (by simp; omega) _
  have x0 : W1.heap[w.heap.size]? = some (.cells #[.bool a] 4 (0, 0)) := by
    rw [hW1]; exact (Below.heap_alloc _ _ _ (by simp; omega)).trans ((Below.heap_alloc _ _ _ (by simp)).trans (heap_alloc_new w _))
  have x1 : W1.heap[w.heap.size + 1]? = some (.cells #[.bool b] 4 (0, 0)) := by
    rw [hW1]; refine (Below.heap_alloc _ _ _ (by simp)).trans ?_
    have := heap_alloc_new (w.alloc (.cells #[.bool a] 4)) (.cells #[.bool b] 4)
    rwa [World.size_alloc] at this
  have x2 : W1.heap[w.heap.size + 2]? = some (.cells #[.string ⟨#[]⟩, .slice none 0 0] 25 (0, 0)) := by
    rw [hW1]
    have := heap_alloc_new ((w.alloc (.cells #[.bool a] 4)).alloc (.cells #[.bool b] 4)) (.cells #[.string ⟨#[]⟩, .slice none 0 0] 25)
    rwa [World.size_alloc, World.size_alloc] at this
  have c1 : CallsIn Fence.wide 2 Tryd.prog 25 #[.string (str p)] W1 fun e w' => e = .returned (.int .i64 (Tre.path p)) ∧ Below W1.heap.size W1 w' := callsIn_wide.2 (path_any (str p) W1 (by rw [str_size]; exact hp) (hM.below hb1))
  have hpp := path_02 p
  have HM := Lib.hid hM
  have HE := Lib.hid hE
  have HT := Lib.hid hT
  have HB1 := Lib.hid hb1
  clear hM hE hT hb1
  generalize hpe : Tre.path p = pe at *
  refine callsIn_of_wp_marks Tryd.func11 rfl trivial ?_
  simp only [Tryd.ntmps11, List.size_toArray, List.length_cons, List.length_nil, Nat.reduceAdd, Nat.reduceSub, Array.replicate_succ, Array.replicate_zero, List.push_toArray, List.append_toArray, List.nil_append, List.cons_append]
  gi_wp2_with (refine ⟨trivial, ?_⟩; gi_at_call 25)
  rw [← hW1]
  refine c1.mono ?_
  rintro e w2 ⟨rfl, hb2⟩
  have y0 := (hb2.block _ (blk_lt x0)).trans x0
  have y1 := (hb2.block _ (blk_lt x1)).trans x1
  have y2 := (hb2.block _ (blk_lt x2)).trans x2
  have hs1 : w.heap.size + 3 ≤ w2.heap.size := by have := blk_lt y2; omega
  have HB2 := Lib.hid (HB1.out.trans (hb2.mono HB1.out.size))
  clear c1 hb2 x0 x1 x2 hW1
  have r0 := (cells2 y2).1
  have r1 := (cells2 y2).2
  have f0 : w2.frozen? ⟨w.heap.size + 2, 0, none⟩ = false := frozen_of_row _ _ _ _ _ y2
  have f1 : w2.frozen? ⟨w.heap.size + 2, 1, none⟩ = false := frozen_of_row _ _ _ _ _ y2
  rcases hpp with rfl | rfl
  case inr =>
    have HEE := Lib.hid (show E = 2 by rw [HWE.out]; rfl)
    have HTT := Lib.hid (show T = ⟨[], []⟩ by rw [HWT.out, HEE.out]; rfl)
    have HY := Lib.hid y2
    clear y0 y1 y2
    gi_wp2
    refine ret_tx (q := w.heap.size + 1 + 1) (t := T) (A := none) (c := 0) (by rw [HTT.out]; exact set2_row HY.out) rfl (by rw [HEE.out]; rfl) (by rw [HTT.out]; exact tx_nil _) (by rw [HTT.out]; exact Nat.le_refl _) (set2_below HB2.out (by omega))
  have c2 : CallsIn Fence.wide 2 Tryd.prog 26 #[.string (str d)] w2 (GotL w2 (Tre.lines d)) := callsIn_wide.2 (lines_any (str d) w2 (by rw [str_size]; exact hd) (HM.out.below HB2.out))
  have HL := Lib.hid (show Tre.lines d = if 65536 < d.length ∨ 1024 < (Tre.split 10 d).length then ([], 10) else (Tre.split 10 d, 0) from rfl)
  by_cases hbig : 65536 < d.length ∨ 1024 < (Tre.split 10 d).length
  · have hL2 : Tre.lines d = ([], 10) := HL.out.trans (if_pos hbig)
    rw [hL2] at c2
    have HEE := Lib.hid (show E = 10 by rw [HWE.out, hL2]; rfl)
    have HTT := Lib.hid (show T = ⟨[], []⟩ by rw [HWT.out, HEE.out]; rfl)
    clear hbig hL2 HL
    gi_wp2_with (refine ⟨trivial, ?_⟩; gi_at_call 26)
    refine c2.mono ?_
    rintro e w3 ⟨v3, rfl, _, hb3⟩
    have y2' := (hb3.block _ (blk_lt y2)).trans y2
    have r0 := (cells2 y2').1
    have r1 := (cells2 y2').2
    have f0 : w3.frozen? ⟨w.heap.size + 2, 0, none⟩ = false := frozen_of_row _ _ _ _ _ y2'
    have f1 : w3.frozen? ⟨w.heap.size + 2, 1, none⟩ = false := frozen_of_row _ _ _ _ _ y2'
    have HB3 := Lib.hid (HB2.out.trans (hb3.mono HB2.out.size))
    have HY := Lib.hid y2'
    clear c2 hb3 y0 y1 y2 y2'
    gi_wp2
    refine ret_tx (q := w.heap.size + 1 + 1) (t := T) (A := none) (c := 0) (by rw [HTT.out]; exact set2_row HY.out) rfl (by rw [HEE.out]; rfl) (by rw [HTT.out]; exact tx_nil _) (by rw [HTT.out]; exact Nat.le_refl _) (set2_below HB3.out (by omega))
  have hL2 : Tre.lines d = (Tre.split 10 d, 0) := HL.out.trans (if_neg hbig)
  rw [hL2] at c2
  have HEE := Lib.hid (show E = if 8192 < (wrd a b d).length then 10 else 0 by rw [HWE.out, hL2]; rfl)
  have hdl : d.length ≤ 65536 := by omega
  have hsl : (Tre.split 10 d).length ≤ 1024 := by omega
  clear hbig hL2 HL HWE
  gi_wp2_with (refine ⟨trivial, ?_⟩; gi_at_call 26)
  refine c2.mono ?_
  rintro e w3 ⟨v3, rfl, _, hb3⟩
  have z0 := (hb3.block _ (blk_lt y0)).trans y0
  have z1 := (hb3.block _ (blk_lt y1)).trans y1
  have z2 := (hb3.block _ (blk_lt y2)).trans y2
  have HB3 := Lib.hid (HB2.out.trans (hb3.mono HB2.out.size))
  have hs3 : w.heap.size + 3 ≤ w3.heap.size := by have := blk_lt z2; omega
  have HZ0 := Lib.hid z0
  have HZ1 := Lib.hid z1
  have HZ2 := Lib.hid z2
  clear c2 hb3 y0 y1 y2 r0 r1 f0 f1 z0 z1 z2 hs1
  obtain ⟨V3, hV3⟩ : ∃ V3, V3 = ((w3.alloc (.cells #[.string (str p), .slice none 0 0] 25)).alloc (.cells #[.int .i64 0] 3)).alloc (.cells #[.int .i64 0] 3) := ⟨_, rfl⟩
  have hVs : V3.heap.size = w3.heap.size + 3 := by rw [hV3]; simp
  have hVb : Below w3.heap.size w3 V3 := by rw [hV3]; exact ((Below.refl _ w3).alloc (Nat.le_refl _) _).alloc (by simp) _ |>.alloc (by simp; omega) _
  have t0 : V3.heap[w3.heap.size]? = some (.cells #[.string (str p), .slice none 0 0] 25 (0, 0)) := by
    rw [hV3]; exact (Below.heap_alloc _ _ _ (by simp; omega)).trans ((Below.heap_alloc _ _ _ (by simp)).trans (heap_alloc_new w3 _))
  have t1 : V3.heap[w3.heap.size + 1]? = some (.cells #[.int .i64 0] 3 (0, 0)) := by
    rw [hV3]; refine (Below.heap_alloc _ _ _ (by simp)).trans ?_
    have := heap_alloc_new (w3.alloc (.cells #[.string (str p), .slice none 0 0] 25)) (.cells #[.int .i64 0] 3)
    rwa [World.size_alloc] at this
  have t2 : V3.heap[w3.heap.size + 2]? = some (.cells #[.int .i64 0] 3 (0, 0)) := by
    rw [hV3]
    have := heap_alloc_new ((w3.alloc (.cells #[.string (str p), .slice none 0 0] 25)).alloc (.cells #[.int .i64 0] 3)) (.cells #[.int .i64 0] 3)
    rwa [World.size_alloc, World.size_alloc] at this
  have c3 : CallsIn Fence.wide 2 Tryd.prog 27 #[.string (str d), .string ⟨#[10]⟩] V3 fun e w' => e = .returned (seqV V3.heap.size) ∧ w' = sqW V3 (str d) := callsIn_wide.2 (splitSeq_any (str d) V3)
  have hsq := sq_at V3 (str d)
  have hSs : (sqW V3 (str d)).heap.size = w3.heap.size + 6 := by unfold sqW; simp [hVs]
  have hSb : Below V3.heap.size V3 (sqW V3 (str d)) := by unfold sqW; exact ((Below.refl _ V3).alloc (Nat.le_refl _) _).alloc (by simp) _ |>.alloc (by simp; omega) _
  rw [hVs] at c3 hsq hSb
  have hk3 : Wk w w3.heap.size p a b 0 0 [] (.slice none 0 0) V3 := ⟨(hVb.block _ (by omega)).trans HZ0.out, (hVb.block _ (by omega)).trans HZ1.out, (hVb.block _ (by omega)).trans HZ2.out, t0, t1, t2, World.ownsRow_nil _ _ _ _, HB3.out.trans (hVb.mono HB3.out.size), hs3⟩
  have HK0 := Lib.hid (hk3.next (W' := sqW V3 (str d)) (by rw [hVs]; exact hSb))
  clear hk3
  have HSQ := Lib.hid hsq
  have HVS := Lib.hid hVs
  clear hsq hSb t0 t1 t2 hVb hVs HZ0 HZ1 HZ2
  gi_wp2_with (refine ⟨trivial, ?_⟩; gi_at_call 27)
  rw [← hV3]
  refine c3.mono ?_
  rintro e w4 ⟨rfl, rfl⟩
  clear c3 hV3
  gi_wp2
  refine each_wpIn (gf := 67) (lb := #[.pointer (some ⟨w3.heap.size + 3 + 1, 0, none⟩), .pointer (some ⟨w3.heap.size + 3, 0, none⟩), .pointer (some ⟨w3.heap.size + 3 + 2, 0, none⟩)]) rfl (enters_of Tryd.func67 (by kernel_rfl) rfl) (fun _ => rfl)
    (seq_each (w3.heap.size + 3) (str d) (by rw [str_size]; omega)) (fun q hq => by rw [hSs]; simp at hq; omega)
    (fun W1 h => ⟨(h _ (by rw [hSs]; omega)).trans HSQ.out.1, (h _ (by rw [hSs]; omega)).trans HSQ.out.2.1, (h _ (by rw [hSs]; omega)).trans HSQ.out.2.2⟩)
    (Iw w w3.heap.size p a b d)
    ?hIp ?hIs ?h0 (fun i => { tmps := #[.string (str p), .string (str d), .bool a, .bool b, undef, undef, .pointer (some ⟨w.heap.size, 0, none⟩), .pointer (some ⟨w.heap.size + 1, 0, none⟩), .pointer (some ⟨w.heap.size + 1 + 1, 0, none⟩), .int .i64 0, v3, .int .i64 0, .pointer (some ⟨w3.heap.size, 0, none⟩), .pointer (some ⟨w3.heap.size + 1, 0, none⟩), .pointer (some ⟨w3.heap.size + 1 + 1, 0, none⟩), .string (str ((Tre.split 10 d).getD i [])), undef, undef, undef, undef, undef, .string (str p), .int .i64 0, .bool false, undef, .tuple #[v3, .int .i64 0], .string (str d), .tuple #[v3, .int .i64 0], v3, .int .i64 0, .int .i64 0, .bool false, undef, undef, .string (str p), .agg #[.string (str p), .slice none 0 0], .string (str d), seqV (w3.heap.size + 3), .string (str ((Tre.split 10 d).getD i [])), undef, undef, undef, undef, undef, undef, undef, undef, undef, undef, undef, undef, undef, undef, undef, undef, undef, undef, undef, undef, undef, undef, undef, undef, undef, undef, undef, undef, undef, undef, undef, undef, undef, undef, undef, undef, undef, undef, undef, undef, undef], defers := [] }) ?assign ?body ?done
  case hIp =>
    rintro i A q o o' ⟨k, O, v, h1, h9, h2⟩ hq ho hc
    exact ⟨k, O, v, h1.putObj (by rw [hSs] at hq; omega) ho hc, h9, h2⟩
  case hIs =>
    rintro i A u q ⟨k, O, v, h1, h9, h2⟩ hq
    have : w3.heap.size + 3 ≤ q ∧ q < w3.heap.size + 8 := by simp at hq; omega
    exact ⟨k, O, v, h1.setSeq this.1 this.2, h9, h2⟩
  case h0 =>
    intro o1 o2
    exact ⟨0, [], _, HK0.out.next (((Below.refl _ _).alloc (Nat.le_refl _) _).alloc (by simp) _), by omega, by rw [List.drop_zero]; rfl⟩
  case assign =>
    intro l i W K hK
    gi_wp2
    exact hK
  case body =>
    rintro i W hi ⟨k, O, v, hk, hk9, hw⟩ hsz
    rw [hSs] at hsz
    rw [str_data] at hi
    obtain ⟨l, hl⟩ : ∃ l, l = (Tre.split 10 d).getD i [] := ⟨_, rfl⟩
    rw [← hl]
    have hge : (Tre.split 10 d).getD i [] = (Tre.split 10 d)[i] := by rw [List.getD_eq_getElem?_getD, List.getElem?_eq_getElem hi]; rfl
    have hdr : (Tre.split 10 d).drop i = l :: (Tre.split 10 d).drop (i + 1) := by rw [hl, hge]; exact List.drop_eq_getElem_cons hi
    have hll : l.length ≤ 65536 := by
      have h1 : l ∈ Tre.split 10 d := by rw [hl, hge]; exact List.getElem_mem hi
      have := byt_mem h1
      have := lines_byt d
      omega
    rw [hdr] at hw
    have hi2 : i < 1024 := by omega
    have c1 := divide_any (str l) W (by rw [str_size]; omega)
    rw [str_data] at c1
    have HW := Lib.hid hw
    have HSS := Lib.hid hSs
    clear hl hge hdr hw hi
    gi_wp2_with (refine ⟨trivial, rfl, ?_⟩; gi_at_call 28)
    refine (CallsIn.inRound _ (callsIn_wide.2 c1)).mono ?_
    rintro e w1 ⟨A1, c1', rfl, hA1, hkd1, hb1⟩
    have hk1 := hk.next hb1
    have hr1 : Rnd w3.heap.size W w1 := Rnd.of (by omega) hb1
    have hsz1 : w3.heap.size + 8 ≤ w1.heap.size := by have := hb1.size; omega
    clear c1 hb1 hk
    have c2 := note_any (div l) A1 c1' w1 hA1 (by have := div_len l; omega) (fun x hx => by have := (div_ok l x hx).2; omega) (HE.out.below hk1.bel) (HT.out.below hk1.bel)
    gi_wp2_with (refine ⟨trivial, rfl, ?_⟩; gi_at_call 29)
    refine (CallsIn.inRound _ (callsIn_wide.2 c2)).mono ?_
    rintro e w4 ⟨hor, hb4⟩
    have hk4 := hk1.next hb4
    have hr4 := hr1.trans (Rnd.of hsz1 hb4)
    have hA4 := hA1.next hb4
    have hkd4 : ∀ g o, A1 = some ⟨g, o, none⟩ → ∃ cs fr, w4.heap[g]? = some (.cells cs 9 fr) := fun g o h => by
      obtain ⟨cs, fr, h5⟩ := hkd1 g o h
      exact ⟨cs, fr, (hb4.block g (blk_lt h5)).trans h5⟩
    have hsz4 : w3.heap.size + 8 ≤ w4.heap.size := by have := hb4.size; omega
    clear c2 hb4 hk1 hr1 hA1 hkd1 hsz1
    have nr4 := one_cell hk4.nr
    have nt4 := one_cell hk4.nt
    have fr4 := one_frozen hk4.nr
    have ft4 := one_frozen hk4.nt
    have w1i : IntKind.i64.wrap ((i : Int) + 1) = (i : Int) + 1 := IntWalk.i64_in _ (by omega)
    by_cases hk0 : 0 < k
    · have b1 : decide ((0 : Int) < (k : Int)) = true := decide_eq_true (by omega)
      have b1n : decide (0 < k) = true := decide_eq_true hk0
      obtain ⟨k', rfl⟩ : ∃ k', k = k' + 1 := ⟨k - 1, by omega⟩
      have w1k : IntKind.i64.wrap (((k' + 1 : Nat) : Int) - 1) = (k' : Int) := by rw [show ((k' + 1 : Nat) : Int) - 1 = (k' : Int) by omega]; exact IntWalk.i64_in _ (by omega)
      have HKX := Lib.hid (hk4.setNt k')
      have HRX := Lib.hid (hr4.trans (Rnd.set (i := 0) (.inr (.inr rfl)) (.int .i64 (k' : Int))))
      have HW2 := Lib.hid (show wrd a b d = O ++ wl a b (i + 1) k' ((Tre.split 10 d).drop (i + 1)) by rw [HW.out, wl_in])
      have nr5 := one_cell HKX.out.nr
      have fr5 := one_frozen HKX.out.nr
      clear hk4 hr4 hA4 hkd4 HW
      rcases hor with ⟨n, hn, hn9, rfl⟩ | ⟨hn, rfl⟩
      all_goals
        clear hn
        gi_wp2
        exact fin_round HSS.out HKX.out HRX.out (by omega) HW2.out
    obtain rfl : k = 0 := by omega
    rcases hor with ⟨n, hn, hn9, rfl⟩ | ⟨hn, rfl⟩
    · have HKX := Lib.hid (hk4.setNt n)
      have HRX := Lib.hid (hr4.trans (Rnd.set (i := 0) (.inr (.inr rfl)) (.int .i64 (n : Int))))
      have HW2 := Lib.hid (show wrd a b d = O ++ wl a b (i + 1) n ((Tre.split 10 d).drop (i + 1)) by rw [HW.out, wl_note a b i _ hn])
      have nr5 := one_cell HKX.out.nr
      have fr5 := one_frozen HKX.out.nr
      clear hk4 hr4 hA4 hkd4 HW hn
      gi_wp2
      exact fin_round HSS.out HKX.out HRX.out hn9 HW2.out
    have HW2 := Lib.hid (show wrd a b d = (O ++ (div l).map (fun x => (⟨cls a b x, (i : Int)⟩ : Lx))) ++ wl a b (i + 1) 0 ((Tre.split 10 d).drop (i + 1)) by rw [HW.out, wl_line a b i _ hn, List.append_assoc])
    have HDO := Lib.hid (fun x hx => div_ok l x hx)
    have HOL := Lib.hid (show O.length + (div l).length ≤ 65536 by
      have h1 := wrd_len a b d
      rw [HW.out, wl_line a b i _ hn, List.length_append, List.length_append, List.length_map] at h1
      omega)
    clear HW hn
    generalize div l = L at *
    have HK0 := Lib.hid hk4
    have HR0 := Lib.hid hr4
    have HA0 := Lib.hid hA4
    have HKD0 := Lib.hid hkd4
    clear hk4 hr4 hA4 hkd4 nr4 nt4 fr4 ft4
    have nt4 := one_cell HK0.out.nt
    gi_wp2
    clear nt4
    gi_loopw [48] (fun s48 wr => ∃ (j : Nat) (v : Value), s48 = .int .i64 j ∧ j ≤ L.length ∧ Wk w w3.heap.size p a b i 0 (O ++ (L.take j).map (fun x => (⟨cls a b x, (i : Int)⟩ : Lx))) v wr ∧ Rnd w3.heap.size W wr ∧ Ls.StAt wr wr.heap.size A1 L ∧ (∀ g o, A1 = some ⟨g, o, none⟩ → ∃ cs fr, wr.heap[g]? = some (.cells cs 9 fr)) ∧ w3.heap.size + 8 ≤ wr.heap.size) (fun s48 _ => L.length - (intOf s48).toNat)
    case atStart => exact ⟨0, v, rfl, Nat.zero_le _, by rw [List.take_zero]; simpa using HK0.out, HR0.out, HA0.out, HKD0.out, hsz4⟩
    case round =>
      clear HK0 HR0 HA0 HKD0
      obtain ⟨j, v4, rfl, hj, hk4, hr4, hA4, hkd4, hZ⟩ := hrel
      have hLb : L.length ≤ 65536 := by have := HOL.out; omega
      by_cases hlt : j < L.length
      · have b1 : decide ((j : Int) < (L.length : Int)) = true := decide_eq_true (by omega)
        have b1n : decide (j < L.length) = true := decide_eq_true hlt
        have y1 : (j : Int) < (L.length : Int) := by omega
        obtain ⟨g, o, rfl, hg, hc⟩ := hA4 j hlt
        have hx := HDO.out L[j] (List.getElem_mem hlt)
        have d0 : wr.cell? ⟨g, o + j, none⟩ = some (.string (str L[j])) := by simpa using hc 0 _ rfl
        have HA := Lib.hid hA4
        have HKD := Lib.hid hkd4
        have HRD := Lib.hid hr4
        have hOl : (O ++ (L.take j).map (fun x => (⟨cls a b x, (i : Int)⟩ : Lx))).length ≤ 65536 := by
          have := HOL.out
          rw [List.length_append, List.length_map, List.length_take]; omega
        obtain ⟨x, hxx⟩ : ∃ x, x = L[j] := ⟨_, rfl⟩
        rw [← hxx] at d0 hx
        have HXX := Lib.hid hxx
        have HXP := Lib.hid (show 0 < x.length from isW_pos hx.1)
        obtain ⟨O4, hO4⟩ : ∃ O4, O4 = O ++ (L.take j).map (fun x => (⟨cls a b x, (i : Int)⟩ : Lx)) := ⟨_, rfl⟩
        rw [← hO4] at hk4 hOl
        have HO4 := Lib.hid hO4
        clear hc hA4 hkd4 hr4 hx hxx hO4
        obtain ⟨A4, c4, rfl, hc4, hm4, -⟩ := own_lx hk4.row
        have HF := Lib.hid (fun (X : World) (hX : Below wr.heap.size wr X) => hk4.facts hX)
        have HROW := Lib.hid (fun (X : World) (hX : Below wr.heap.size wr X) => (hk4.next hX).row)
        have B0 : Below wr.heap.size wr wr.drew := (Below.refl _ _).drew
        gi_wp2
        refine region_round (S := (fun w' : World => w'.cell? ⟨w.heap.size, 0, none⟩ = some (.bool a) ∧ w'.cell? ⟨w.heap.size + 1, 0, none⟩ = some (.bool b) ∧ w'.cell? ⟨w3.heap.size + 1, 0, none⟩ = some (.int .i64 (i : Int)))) (by kernel_rfl) (by kernel_rfl) (fun h => by obtain ⟨_, _, h⟩ := h; cases (And.left (a := Exit.outgrown = Exit.normal) h)) (HF.out _ B0).1 (fun hHeld => ?_)
        refine wpAnyH_take (i := 0) (oi := _) (v := ?v1) rfl (by kernel_rfl) (by kernel_rfl) (by kernel_rfl) (fun _ _ _ h => h) (Or.inl ⟨by rfl, ?hy1⟩) (by assumption) ?rest1
        case hy1 =>
          intro w hSw
          try dsimp only at hSw
          go_simp
          try with_reducible rfl
        try simp only [Act.put]
        refine wpAnyH_take (i := 2) (oi := _) (v := ?v2) rfl (by kernel_rfl) (by kernel_rfl) (by kernel_rfl) (fun _ _ _ h => h) (Or.inl ⟨by rfl, ?hy2⟩) (by assumption) ?rest2
        case hy2 =>
          intro w hSw
          try dsimp only at hSw
          go_simp
          try with_reducible rfl
        try simp only [Act.put]
        refine wpAnyH_take (i := 3) (oi := _) (v := ?v3) rfl (by kernel_rfl) (by kernel_rfl) (by kernel_rfl) (fun _ _ _ h => h) (Or.inl ⟨by rfl, ?hy3⟩) (by assumption) ?rest3
        case hy3 =>
          intro w hSw
          try dsimp only at hSw
          go_simp
          try with_reducible rfl
        try simp only [Act.put]
        refine wpAnyH_take (i := 4) (oi := _) (v := ?v4) rfl (by kernel_rfl) (by kernel_rfl) (by kernel_rfl) (fun _ _ _ h => h) (Or.inl ⟨by rfl, ?hy4⟩) (by assumption) ?rest4
        case hy4 =>
          intro w hSw
          try dsimp only at hSw
          go_simp
          try with_reducible rfl
        try simp only [Act.put]
        refine wpAnyH_take (i := 6) (oi := _) (v := ?v5) rfl (by kernel_rfl) (by kernel_rfl) (by kernel_rfl) (fun _ _ _ h => h) (Or.inl ⟨by rfl, ?hy5⟩) (by assumption) ?rest5
        case hy5 =>
          intro w hSw
          try dsimp only at hSw
          go_simp
          try with_reducible rfl
        try simp only [Act.put]
        refine wpAnyH_ready (rs := [1, 5]) (by kernel_rfl) (by simp) ?_
        refine AllReadyH.cons (o := _) rfl (fun K hK => ?_) ?_
        · skip
          have u10 := (HF.out _ B0).2
          go_simp
          refine hK.out _ _ (HF.out _ B0).1 (fun hHeld => ?_)
          clear hK K
          try simp only [Act.put]
          refine wpAnyH_ready (rs := [5]) (by kernel_rfl) (by simp) ?_
          refine AllReadyH.cons (o := _) rfl (fun K hK => ?_) AllReadyH.nil
          go_simp
          have cc := class_any (str x) a b wr.drew (by rw [str_size]; exact HXP.out)
          rw [str_data] at cc
          go_at_call 30
          with_reducible refine cc.mono ?_
          clear cc
          rintro e w5 ⟨rfl, hb5⟩
          have B1 : Below wr.heap.size wr w5 := B0.trans hb5
          have u15 := (HF.out w5 B1).2
          refine hK.out _ _ (HF.out _ B1).1 (fun hHeld => ?_)
          clear hK K
          try simp only [Act.put]
          refine wpAnyH_take (i := 7) (oi := _) (v := ?v6) rfl (by kernel_rfl) (by kernel_rfl) (by kernel_rfl) (fun _ _ _ h => h) (Or.inl ⟨by rfl, ?hy6⟩) (by assumption) ?rest6
          case hy6 =>
            intro w hSw
            try dsimp only at hSw
            go_simp
            try with_reducible rfl
          try simp only [Act.put]
          refine wpAnyH_ready (rs := [8]) (by kernel_rfl) (by simp) ?_
          refine AllReadyH.cons (o := _) rfl (fun K hK => ?_) AllReadyH.nil
          go_simp
          refine hK.out _ _ (HF.out _ (B1.alloc B1.size _)).1 (fun hHeld => ?_)
          clear hK K
          try simp only [Act.put]
          refine wpAnyH_ready (rs := [9]) (by kernel_rfl) (by simp) ?_
          refine AllReadyH.cons (o := _) rfl (fun K hK => ?_) AllReadyH.nil
          refine step_append_lies _ (by rfl) _ _ _ (by rfl) (w3.heap.size + 8) 41 iL _ 2 24 Tryd.underlying23 hiL hzL0 hzL1 hzL2 rfl (by omega) (.slice A4 O4.length c4) O4.length _ (by rfl) (((HROW.out w5 B1)).alloc _) ⟨w5.heap.size, 0, none⟩ 1 1 [_, _] (by rfl) (by rfl) (World.news_of_block (cs := #[_, _]) (t := 41) (fr := (0, 0)) (heap_alloc_new w5 _)) (by simp [Value.oneCell']) (by omega) (by unfold maxLen; omega) (by omega) (by have := B1.size; simp; omega) (w5.heap.size + 1) (by simp) ?_
          intro gg cap w6 hown6 hgrow hat hlt6
          have hg6 := hk4.grown6 (B1.alloc B1.size _) hgrow
          have u6 := hg6.2.1
          have fr6 := hg6.2.2
          have S6 := hg6.1
          refine hK.out _ _ S6 (fun hHeld => ?_)
          clear hK K
          try simp only [Act.put]
          refine wpAnyH_take (i := 10) (oi := _) (v := ?v7) rfl (by kernel_rfl) (by kernel_rfl) (by kernel_rfl) (fun _ _ _ h => h) (Or.inl ⟨by rfl, ?hy7⟩) (by assumption) ?rest7
          case hy7 =>
            intro w hSw
            try dsimp only at hSw
            go_simp
            try with_reducible rfl
          try simp only [Act.put]
          refine wpAnyH_ready (rs := [11]) (by kernel_rfl) (by simp) ?_
          refine AllReadyH.cons (o := _) rfl (fun K hK => ?_) AllReadyH.nil
          go_simp
          have hS7 := hk4.keep7 (B1.alloc B1.size _) hgrow (.slice (some ⟨gg, 0, none⟩) (O4.length + 1) cap)
          refine hK.out _ _ hS7 (fun hHeld => ?_)
          clear hK K
          try simp only [Act.put]
          refine wpAnyH_done (by kernel_rfl) ?_ _
          try simp only [List.setIfInBounds_toArray, List.set_cons_zero, List.set_cons_succ]
          have HN4 := Lib.hid (Wk.app (O' := O4 ++ [⟨cls a b x, (i : Int)⟩]) hk4 (B1.alloc B1.size _) hgrow (by rw [lxsV_snoc, List.length_append, List.length_singleton]; exact hown6))
          have HR4 := Lib.hid (HRD.out.trans ((Rnd.of (by omega) (B1.alloc B1.size _)).trans ((Rnd.app (by have := B1.size; simp; omega) hgrow (fun g hg => (hk4.row.lt g hg).1)).trans (Rnd.set (i := 1) (.inl rfl) (.slice (some ⟨gg, 0, none⟩) (O4.length + 1) cap)))))
          have HA4 := Lib.hid (hk4.app_keep (A := some ⟨g, o, none⟩) HA.out (fun g o h => HKD.out g o h) (B1.alloc B1.size _) hgrow (.slice (some ⟨gg, 0, none⟩) (O4.length + 1) cap))
          have HZ4 := Lib.hid (show wr.heap.size ≤ (w6.setCell ⟨w3.heap.size, 1, none⟩ (.slice (some ⟨gg, 0, none⟩) (O4.length + 1) cap)).heap.size by have h1 := hgrow.size; have h2 := B1.size; simp at h1 ⊢; omega)
          clear hown6 hgrow hat hlt6 hg6 u6 fr6 S6 B1 hb5
          gi_wp2
          go_roundw
          case rel =>
            exact ⟨j + 1, _, by go_num, by omega, by rw [List.take_succ_eq_append_getElem hlt, ← HXX.out, List.map_append, List.map_singleton, ← List.append_assoc, ← HO4.out]; exact HN4.out, HR4.out, HA4.out.1, HA4.out.2, Nat.le_trans hZ HZ4.out⟩
          case measure => simp [intOf]; omega
        refine AllReadyH.cons (o := _) rfl (fun K hK => ?_) AllReadyH.nil
        go_simp
        have cc := class_any (str x) a b wr.drew (by rw [str_size]; exact HXP.out)
        rw [str_data] at cc
        go_at_call 30
        with_reducible refine cc.mono ?_
        clear cc
        rintro e w5 ⟨rfl, hb5⟩
        have B1 : Below wr.heap.size wr w5 := B0.trans hb5
        have u15 := (HF.out w5 B1).2
        refine hK.out _ _ (HF.out _ B1).1 (fun hHeld => ?_)
        clear hK K
        try simp only [Act.put]
        refine wpAnyH_take (i := 7) (oi := _) (v := ?v8) rfl (by kernel_rfl) (by kernel_rfl) (by kernel_rfl) (fun _ _ _ h => h) (Or.inl ⟨by rfl, ?hy8⟩) (by assumption) ?rest8
        case hy8 =>
          intro w hSw
          try dsimp only at hSw
          go_simp
          try with_reducible rfl
        try simp only [Act.put]
        refine wpAnyH_ready (rs := [1, 8]) (by kernel_rfl) (by simp) ?_
        refine AllReadyH.cons (o := _) rfl (fun K hK => ?_) ?_
        · skip
          go_simp
          refine hK.out _ _ (HF.out _ B1).1 (fun hHeld => ?_)
          clear hK K
          try simp only [Act.put]
          refine wpAnyH_ready (rs := [8]) (by kernel_rfl) (by simp) ?_
          refine AllReadyH.cons (o := _) rfl (fun K hK => ?_) AllReadyH.nil
          go_simp
          refine hK.out _ _ (HF.out _ (B1.alloc B1.size _)).1 (fun hHeld => ?_)
          clear hK K
          try simp only [Act.put]
          refine wpAnyH_ready (rs := [9]) (by kernel_rfl) (by simp) ?_
          refine AllReadyH.cons (o := _) rfl (fun K hK => ?_) AllReadyH.nil
          refine step_append_lies _ (by rfl) _ _ _ (by rfl) (w3.heap.size + 8) 41 iL _ 2 24 Tryd.underlying23 hiL hzL0 hzL1 hzL2 rfl (by omega) (.slice A4 O4.length c4) O4.length _ (by rfl) (((HROW.out w5 B1)).alloc _) ⟨w5.heap.size, 0, none⟩ 1 1 [_, _] (by rfl) (by rfl) (World.news_of_block (cs := #[_, _]) (t := 41) (fr := (0, 0)) (heap_alloc_new w5 _)) (by simp [Value.oneCell']) (by omega) (by unfold maxLen; omega) (by omega) (by have := B1.size; simp; omega) (w5.heap.size + 1) (by simp) ?_
          intro gg cap w6 hown6 hgrow hat hlt6
          have hg6 := hk4.grown6 (B1.alloc B1.size _) hgrow
          have u6 := hg6.2.1
          have fr6 := hg6.2.2
          have S6 := hg6.1
          refine hK.out _ _ S6 (fun hHeld => ?_)
          clear hK K
          try simp only [Act.put]
          refine wpAnyH_take (i := 10) (oi := _) (v := ?v9) rfl (by kernel_rfl) (by kernel_rfl) (by kernel_rfl) (fun _ _ _ h => h) (Or.inl ⟨by rfl, ?hy9⟩) (by assumption) ?rest9
          case hy9 =>
            intro w hSw
            try dsimp only at hSw
            go_simp
            try with_reducible rfl
          try simp only [Act.put]
          refine wpAnyH_ready (rs := [11]) (by kernel_rfl) (by simp) ?_
          refine AllReadyH.cons (o := _) rfl (fun K hK => ?_) AllReadyH.nil
          go_simp
          have hS7 := hk4.keep7 (B1.alloc B1.size _) hgrow (.slice (some ⟨gg, 0, none⟩) (O4.length + 1) cap)
          refine hK.out _ _ hS7 (fun hHeld => ?_)
          clear hK K
          try simp only [Act.put]
          refine wpAnyH_done (by kernel_rfl) ?_ _
          try simp only [List.setIfInBounds_toArray, List.set_cons_zero, List.set_cons_succ]
          have HN4 := Lib.hid (Wk.app (O' := O4 ++ [⟨cls a b x, (i : Int)⟩]) hk4 (B1.alloc B1.size _) hgrow (by rw [lxsV_snoc, List.length_append, List.length_singleton]; exact hown6))
          have HR4 := Lib.hid (HRD.out.trans ((Rnd.of (by omega) (B1.alloc B1.size _)).trans ((Rnd.app (by have := B1.size; simp; omega) hgrow (fun g hg => (hk4.row.lt g hg).1)).trans (Rnd.set (i := 1) (.inl rfl) (.slice (some ⟨gg, 0, none⟩) (O4.length + 1) cap)))))
          have HA4 := Lib.hid (hk4.app_keep (A := some ⟨g, o, none⟩) HA.out (fun g o h => HKD.out g o h) (B1.alloc B1.size _) hgrow (.slice (some ⟨gg, 0, none⟩) (O4.length + 1) cap))
          have HZ4 := Lib.hid (show wr.heap.size ≤ (w6.setCell ⟨w3.heap.size, 1, none⟩ (.slice (some ⟨gg, 0, none⟩) (O4.length + 1) cap)).heap.size by have h1 := hgrow.size; have h2 := B1.size; simp at h1 ⊢; omega)
          clear hown6 hgrow hat hlt6 hg6 u6 fr6 S6 B1 hb5
          gi_wp2
          go_roundw
          case rel =>
            exact ⟨j + 1, _, by go_num, by omega, by rw [List.take_succ_eq_append_getElem hlt, ← HXX.out, List.map_append, List.map_singleton, ← List.append_assoc, ← HO4.out]; exact HN4.out, HR4.out, HA4.out.1, HA4.out.2, Nat.le_trans hZ HZ4.out⟩
          case measure => simp [intOf]; omega
        refine AllReadyH.cons (o := _) rfl (fun K hK => ?_) AllReadyH.nil
        go_simp
        refine hK.out _ _ (HF.out _ (B1.alloc B1.size _)).1 (fun hHeld => ?_)
        clear hK K
        try simp only [Act.put]
        refine wpAnyH_ready (rs := [1]) (by kernel_rfl) (by simp) ?_
        refine AllReadyH.cons (o := _) rfl (fun K hK => ?_) AllReadyH.nil
        have u12 := (HF.out _ (B1.alloc B1.size (.cells #[.string (str (cls a b x)), .int .i64 (i : Int)] 41))).2
        go_simp
        refine hK.out _ _ (HF.out _ (B1.alloc B1.size _)).1 (fun hHeld => ?_)
        clear hK K
        try simp only [Act.put]
        refine wpAnyH_ready (rs := [9]) (by kernel_rfl) (by simp) ?_
        refine AllReadyH.cons (o := _) rfl (fun K hK => ?_) AllReadyH.nil
        refine step_append_lies _ (by rfl) _ _ _ (by rfl) (w3.heap.size + 8) 41 iL _ 2 24 Tryd.underlying23 hiL hzL0 hzL1 hzL2 rfl (by omega) (.slice A4 O4.length c4) O4.length _ (by rfl) (((HROW.out w5 B1)).alloc _) ⟨w5.heap.size, 0, none⟩ 1 1 [_, _] (by rfl) (by rfl) (World.news_of_block (cs := #[_, _]) (t := 41) (fr := (0, 0)) (heap_alloc_new w5 _)) (by simp [Value.oneCell']) (by omega) (by unfold maxLen; omega) (by omega) (by have := B1.size; simp; omega) (w5.heap.size + 1) (by simp) ?_
        intro gg cap w6 hown6 hgrow hat hlt6
        have hg6 := hk4.grown6 (B1.alloc B1.size _) hgrow
        have u6 := hg6.2.1
        have fr6 := hg6.2.2
        have S6 := hg6.1
        refine hK.out _ _ S6 (fun hHeld => ?_)
        clear hK K
        try simp only [Act.put]
        refine wpAnyH_take (i := 10) (oi := _) (v := ?v10) rfl (by kernel_rfl) (by kernel_rfl) (by kernel_rfl) (fun _ _ _ h => h) (Or.inl ⟨by rfl, ?hy10⟩) (by assumption) ?rest10
        case hy10 =>
          intro w hSw
          try dsimp only at hSw
          go_simp
          try with_reducible rfl
        try simp only [Act.put]
        refine wpAnyH_ready (rs := [11]) (by kernel_rfl) (by simp) ?_
        refine AllReadyH.cons (o := _) rfl (fun K hK => ?_) AllReadyH.nil
        go_simp
        have hS7 := hk4.keep7 (B1.alloc B1.size _) hgrow (.slice (some ⟨gg, 0, none⟩) (O4.length + 1) cap)
        refine hK.out _ _ hS7 (fun hHeld => ?_)
        clear hK K
        try simp only [Act.put]
        refine wpAnyH_done (by kernel_rfl) ?_ _
        try simp only [List.setIfInBounds_toArray, List.set_cons_zero, List.set_cons_succ]
        have HN4 := Lib.hid (Wk.app (O' := O4 ++ [⟨cls a b x, (i : Int)⟩]) hk4 (B1.alloc B1.size _) hgrow (by rw [lxsV_snoc, List.length_append, List.length_singleton]; exact hown6))
        have HR4 := Lib.hid (HRD.out.trans ((Rnd.of (by omega) (B1.alloc B1.size _)).trans ((Rnd.app (by have := B1.size; simp; omega) hgrow (fun g hg => (hk4.row.lt g hg).1)).trans (Rnd.set (i := 1) (.inl rfl) (.slice (some ⟨gg, 0, none⟩) (O4.length + 1) cap)))))
        have HA4 := Lib.hid (hk4.app_keep (A := some ⟨g, o, none⟩) HA.out (fun g o h => HKD.out g o h) (B1.alloc B1.size _) hgrow (.slice (some ⟨gg, 0, none⟩) (O4.length + 1) cap))
        have HZ4 := Lib.hid (show wr.heap.size ≤ (w6.setCell ⟨w3.heap.size, 1, none⟩ (.slice (some ⟨gg, 0, none⟩) (O4.length + 1) cap)).heap.size by have h1 := hgrow.size; have h2 := B1.size; simp at h1 ⊢; omega)
        clear hown6 hgrow hat hlt6 hg6 u6 fr6 S6 B1 hb5
        gi_wp2
        go_roundw
        case rel =>
          exact ⟨j + 1, _, by go_num, by omega, by rw [List.take_succ_eq_append_getElem hlt, ← HXX.out, List.map_append, List.map_singleton, ← List.append_assoc, ← HO4.out]; exact HN4.out, HR4.out, HA4.out.1, HA4.out.2, Nat.le_trans hZ HZ4.out⟩
        case measure => simp [intOf]; omega
      · have b1 : decide ((j : Int) < (L.length : Int)) = false := decide_eq_false (by omega)
        have b1n : decide (j < L.length) = false := decide_eq_false hlt
        rw [List.take_of_length_le (by omega)] at hk4
        have HKX := Lib.hid hk4
        have HRX := Lib.hid hr4
        have nr5 := one_cell hk4.nr
        have fr5 := one_frozen hk4.nr
        clear hk4 hr4 hA4 hkd4
        gi_wp2
        exact fin_round HSS.out HKX.out HRX.out (by omega) HW2.out
  case done =>
    rintro W ⟨k, O, v, hk, -, hw⟩ hD
    rw [hSs] at hD
    rw [List.drop_of_length_le (by rw [str_data]; exact Nat.le_refl _), wl_nil, List.append_nil] at hw
    obtain ⟨A, c, rfl, hc1, hc2, -⟩ := own_lx hk.row
    have u0 := (cells2 hk.tx).1
    have u1 := (cells2 hk.tx).2
    have r0 := (cells2 hk.rs).1
    have r1 := (cells2 hk.rs).2
    have f0 : W.frozen? ⟨w.heap.size + 2, 0, none⟩ = false := frozen_of_row _ _ _ _ _ hk.rs
    have f1 : W.frozen? ⟨w.heap.size + 2, 1, none⟩ = false := frozen_of_row _ _ _ _ _ hk.rs
    have HK := Lib.hid hk
    have HD := Lib.hid hD
    have HS := Lib.hid hSs
    have hlo := hk.lo
    -- behind the stores and the turn of the block of the rounds
    have FIN := Lib.hid (fun (x y : Value) => (show ∃ V, V = ((W.setCell ⟨w.heap.size + 1 + 1, 0, none⟩ x).setCell ⟨w.heap.size + 1 + 1, 1, none⟩ y) ∧ V.heap[w3.heap.size + 6]? = some (.deferred (some [])) ∧ (V.putObj (w3.heap.size + 6) (.deferred none)).heap[w.heap.size + 1 + 1]? = some (.cells #[x, y] 25 (0, 0)) ∧ (V.putObj (w3.heap.size + 6) (.deferred none)).ownsRow (w3.heap.size + 8) 41 2 (.slice A O.length c) O.length (lxsV O) ∧ Below w.heap.size w (V.putObj (w3.heap.size + 6) (.deferred none)) from by
      refine ⟨_, rfl, ?_, ?_, ?_, ?_⟩
      · exact (Below.heap_setCell _ ⟨w.heap.size + 1 + 1, 1, none⟩ _ _ (show w3.heap.size + 6 ≠ w.heap.size + 1 + 1 by omega)).trans ((Below.heap_setCell _ ⟨w.heap.size + 1 + 1, 0, none⟩ _ _ (show w3.heap.size + 6 ≠ w.heap.size + 1 + 1 by omega)).trans hD)
      · exact (World.putObj_heap_other (by omega)).trans (set2_row hk.rs)
      · refine own_same hk.row fun g hg => ?_
        have := (hk.row.lt g hg).1
        exact (World.putObj_heap_other (by omega)).trans ((Below.heap_setCell _ ⟨w.heap.size + 1 + 1, 1, none⟩ _ _ (show g ≠ w.heap.size + 1 + 1 by omega)).trans (Below.heap_setCell _ ⟨w.heap.size + 1 + 1, 0, none⟩ _ _ (show g ≠ w.heap.size + 1 + 1 by omega)))
      · exact (set2_below hk.bel (by omega)).trans ((Below.refl w.heap.size _).grown (grownBy_putObj' _ (w3.heap.size + 6) _) (by simp; exact hk.bel.size) (fun k e => by cases e; omega))))
    by_cases hbig : 8192 < O.length
    · have b1 : decide ((8192 : Int) < (O.length : Int)) = true := decide_eq_true (by omega)
      have b1n : decide (8192 < O.length) = true := decide_eq_true hbig
      have HE2 := Lib.hid (show E = 10 by rw [HEE.out, hw, if_pos hbig])
      have HTT := Lib.hid (show T = ⟨[], []⟩ by rw [HWT.out, HE2.out]; rfl)
      clear hw hbig hk hD hSs hlo
      gi_wp2
      obtain ⟨V, hV, v1, v2, v3', v4⟩ := FIN.out (.string ⟨#[]⟩) (.slice none 0 0)
      rw [← hV, HS.out]
      refine leaves_one _ v1 (ret_tx (q := w.heap.size + 1 + 1) (t := T) (A := none) (c := 0) (by rw [HTT.out]; exact v2) rfl (by rw [HE2.out]; rfl) (by rw [HTT.out]; exact tx_nil _) (by rw [HTT.out]; exact Nat.le_refl _) v4)
    · have b1 : decide ((8192 : Int) < (O.length : Int)) = false := decide_eq_false (by omega)
      have b1n : decide (8192 < O.length) = false := decide_eq_false hbig
      have HE2 := Lib.hid (show E = 0 by rw [HEE.out, hw, if_neg hbig])
      have HTT := Lib.hid (show T = ⟨p, O⟩ by rw [HWT.out, HE2.out, if_pos rfl, hw])
      have HSH := Lib.hid (show Sht O from fun x hx => by
        rw [← hw] at hx
        have := wl_sht a b _ 0 0 (Nat.le_trans (lines_byt d) (by omega)) x hx
        omega)
      have HOL := Lib.hid (show O.length ≤ 8192 by omega)
      clear hw hbig hk hD hSs hlo
      gi_wp2
      obtain ⟨V, hV, v1, v2, v3', v4⟩ := FIN.out (.string (str p)) (.slice A O.length c)
      rw [← hV, HS.out]
      obtain ⟨A', c', e', -, -, hlx⟩ := own_lx v3'
      cases e'
      refine leaves_one _ v1 (ret_tx (q := w.heap.size + 1 + 1) (t := T) (A := A) (c := c) (by rw [HTT.out]; exact v2) rfl (by rw [HE2.out]; rfl) (by rw [HTT.out]; exact ⟨hlx, HSH.out, hp, Nat.le_trans HOL.out (by decide)⟩) (by rw [HTT.out]; exact hc1) v4)
end Nm
end Go.Proofs.YtenaohnginikhaaDoor
