/- Words of the reference. No condition but the lengths. -/
import Derived.Test.YtenaohnginikhaaDoorNww
namespace Go.Proofs.YtenaohnginikhaaDoor
open Go.RowKit Go.Deep Tr
namespace Nm
/-- A list of strings elsewhere. -/
abbrev Kd (w : World) (A : Option Addr) : Prop := ∀ g o, A = some ⟨g, o, none⟩ → ∃ cs fr, w.heap[g]? = some (.cells cs 9 fr)
abbrev Far (w w' : World) (A : Option Addr) : Prop := ∀ g o, A = some ⟨g, o, none⟩ → w'.heap[g]? = w.heap[g]?
theorem far_keep {w w' : World} {A : Option Addr} {L : List (List UInt8)} (hA : Ls.StAt w w.heap.size A L) (hk : Kd w A) (hf : Far w w' A) (hs : w.heap.size ≤ w'.heap.size) : Ls.StAt w' w'.heap.size A L ∧ Kd w' A := by
  refine ⟨fun j hj => ?_, fun g o e => ?_⟩
  · obtain ⟨g, o, e, hgl, hc⟩ := hA j hj
    refine ⟨g, o, e, by omega, fun i' u' hu => ?_⟩
    have := hc i' u' hu
    unfold World.cell? at this ⊢
    rw [hf g o e]
    exact this
  · obtain ⟨cs, fr, h5⟩ := hk g o e
    exact ⟨cs, fr, (hf g o e).trans h5⟩
theorem kd_below {w w' : World} {A : Option Addr} (hk : Kd w A) (hb : Below w.heap.size w w') : Kd w' A := fun g o e => by
  obtain ⟨cs, fr, h5⟩ := hk g o e
  exact ⟨cs, fr, (hb.block g (blk_lt h5)).trans h5⟩
/-- What lies in memory between two lines: the words so far are O. -/
structure Wq (w : World) (tb : Nat) (p : List UInt8) (O : List Lx) (v : Value) (W : World) : Prop where
  rs : W.heap[w.heap.size]? = some (.cells #[.string ⟨#[]⟩, .slice none 0 0] 25 (0, 0))
  tx : W.heap[tb]? = some (.cells #[.string (str p), v] 25 (0, 0))
  row : W.ownsRow (tb + 1) 41 2 v O.length (lxsV O)
  bel : Below w.heap.size w W
  lo : w.heap.size + 1 ≤ tb
theorem Wq.next {w : World} {tb : Nat} {p : List UInt8} {O : List Lx} {v : Value} {W W' : World} (h : Wq w tb p O v W) (hb : Below W.heap.size W W') : Wq w tb p O v W' :=
  ⟨(hb.block _ (blk_lt h.rs)).trans h.rs, (hb.block _ (blk_lt h.tx)).trans h.tx, own_same h.row fun g hg => by
    obtain ⟨c, fz, h5⟩ := Lib.ownsRow_kind h.row g hg
    exact hb.block g (blk_lt h5), h.bel.trans (hb.mono h.bel.size), h.lo⟩
theorem Wq.low6 {w : World} {tb : Nat} {p : List UInt8} {O : List Lx} {v : Value} {W X W6 : World} (h : Wq w tb p O v W) (hX : Below W.heap.size W X) (hg : X.grownBy W6 v.ownBlock) : ∀ q, q < tb + 1 → W6.heap[q]? = W.heap[q]? := fun q hq => by
  have hs := blk_lt h.tx
  have := hX.size
  refine (hg.block q (by omega) (fun e => ?_)).trans (hX.block q (by omega))
  have := (h.row.lt q e.symm).1
  omega
theorem Wq.grown6 {w : World} {tb : Nat} {p : List UInt8} {O : List Lx} {v : Value} {W X W6 : World} (h : Wq w tb p O v W) (hX : Below W.heap.size W X) (hg : X.grownBy W6 v.ownBlock) : W6.cell? ⟨tb, 1, none⟩ = some v ∧ W6.frozen? ⟨tb, 1, none⟩ = false := by
  have hl := h.low6 hX hg
  exact ⟨(cells2 ((hl _ (by omega)).trans h.tx)).2, frozen_of_row _ _ _ _ _ ((hl _ (by omega)).trans h.tx)⟩
theorem Wq.app {w : World} {tb : Nat} {p : List UInt8} {O O' : List Lx} {v v' : Value} {W X W6 : World} (h : Wq w tb p O v W) (hX : Below W.heap.size W X) (hg : X.grownBy W6 v.ownBlock) (ho : W6.ownsRow (tb + 1) 41 2 v' O'.length (lxsV O')) : Wq w tb p O' v' (W6.setCell ⟨tb, 1, none⟩ v') := by
  have hl := h.low6 hX hg
  have h1 := h.lo
  have hk : ∀ r, r ≠ tb → (W6.setCell ⟨tb, 1, none⟩ v').heap[r]? = W6.heap[r]? := fun r hr => Below.heap_setCell _ ⟨tb, 1, none⟩ _ _ hr
  have hXk := h.next hX
  have hb6 : Below w.heap.size w W6 := hXk.bel.trans ⟨hg.os, hg.tape, hg.output, hg.size, fun q hq => hg.block q (by have := hXk.bel.size; omega) (fun e => by have := (hXk.row.lt q e.symm).1; omega)⟩
  exact ⟨(hk _ (by omega)).trans ((hl _ (by omega)).trans h.rs), heap_setCell2 ((hl _ (by omega)).trans h.tx), own_same ho fun g hg => hk g (by have := (ho.lt g hg).1; omega), hb6.setCell (p := ⟨tb, 1, none⟩) (show w.heap.size ≤ tb by omega) _, h.lo⟩
theorem Wq.far6 {w : World} {tb : Nat} {p : List UInt8} {O : List Lx} {v : Value} {W X W6 : World} {A : Option Addr} (h : Wq w tb p O v W) (hk : Kd W A) (hX : Below W.heap.size W X) (hg : X.grownBy W6 v.ownBlock) : Far W W6 A := fun g o e => by
  obtain ⟨cs, fr, h5⟩ := hk g o e
  have hgl := blk_lt h5
  have hs := hX.size
  refine (hg.block g (by omega) (fun e2 => ?_)).trans (hX.block g hgl)
  obtain ⟨c', fz, h6⟩ := Lib.ownsRow_kind h.row g e2.symm
  rw [h5] at h6
  simp only [Option.some.injEq, Obj.cells.injEq] at h6
  exact absurd h6.2.1 (by decide)
theorem Wq.far7 {w : World} {tb : Nat} {p : List UInt8} {O : List Lx} {v : Value} {W X W6 : World} {A : Option Addr} (h : Wq w tb p O v W) (hk : Kd W A) (hX : Below W.heap.size W X) (hg : X.grownBy W6 v.ownBlock) (u : Value) : Far W (W6.setCell ⟨tb, 1, none⟩ u) A := fun g o e => by
  obtain ⟨cs, fr, h5⟩ := hk g o e
  refine (Below.heap_setCell _ ⟨tb, 1, none⟩ _ _ (show g ≠ tb from fun e2 => ?_)).trans (h.far6 hk hX hg g o e)
  have := h.tx
  rw [← e2, h5] at this
  simp only [Option.some.injEq, Obj.cells.injEq] at this
  exact absurd this.2.1 (by decide)
theorem Wq.facts {w : World} {tb : Nat} {p : List UInt8} {O : List Lx} {v : Value} {W X : World} (h : Wq w tb p O v W) (hX : Below W.heap.size W X) : X.cell? ⟨tb, 1, none⟩ = some v := (cells2 (h.next hX).tx).2
theorem ret_txq {w W : World} {t : Txt} {E : Int} {q : Nat} {A : Option Addr} {c : Nat} {a : Act} (hq : W.heap[q]? = some (.cells #[.string (str t.pth), .slice A t.ws.length c] 25 (0, 0))) (hp : a.tmps.getD 8 undef = .pointer (some ⟨q, 0, none⟩)) (he : a.tmps.getD 9 undef = .int .i64 E) (hd : a.defers = [])
    (hA : TxAt W A t) (hc : t.ws.length ≤ c) (hb : Below w.heap.size w W) : bodyPost Tryd.prog Tryd.f12 (GotTx w t E) .ret a W :=
  bodyPost_ret (results_cell_row2 rfl a.tmps W q _ _ _ _ hp hq Tryd.underlying25 rfl infoTx) hd ⟨A, c, by rw [he], hA, hc, hb⟩
set_option maxHeartbeats 16000000 in
set_option maxRecDepth 100000 in
theorem qwords_any (p d : List UInt8) (a b : Bool) (w : World) (hp : p.length ≤ 1000000000) (hd : d.length ≤ 1000000) :
    Calls Tryd.prog 12 #[.string (str p), .string (str d), .bool a, .bool b] w (GotTx w (wrT p a b d) (wrE p a b d)) := by
  obtain ⟨iL, hiL, hzL0, hzL1, hzL2⟩ := info_parts infoLx
  have HWE := Lib.hid (show wrE p a b d = if Tre.path p = 0 then (if (Tre.lines d).2 = 0 then (if 8192 < (wrd a b d).length then 10 else 0) else (Tre.lines d).2) else 2 from rfl)
  have HWT := Lib.hid (show wrT p a b d = if wrE p a b d = 0 then ⟨p, wrd a b d⟩ else ⟨[], []⟩ from rfl)
  generalize wrT p a b d = T at *
  generalize wrE p a b d = E at *
  obtain ⟨W1, hW1⟩ : ∃ W1, W1 = w.alloc (.cells #[.string ⟨#[]⟩, .slice none 0 0] 25) := ⟨_, rfl⟩
  have hb1 : Below w.heap.size w W1 := by rw [hW1]; exact (Below.refl _ w).alloc (Nat.le_refl _) _
  have x0 : W1.heap[w.heap.size]? = some (.cells #[.string ⟨#[]⟩, .slice none 0 0] 25 (0, 0)) := by rw [hW1]; exact heap_alloc_new w _
  have c1 := qPath_any (str p) W1 (by rw [str_size]; exact hp)
  rw [str_data] at c1
  have HPT := Lib.hid (show Tre.path p = if Tre.pathOk p = true then 0 else 2 from rfl)
  have HB1 := Lib.hid hb1
  clear hb1
  have r0 := (cells2 x0).1
  have r1 := (cells2 x0).2
  have f0 : W1.frozen? ⟨w.heap.size, 0, none⟩ = false := frozen_of_row _ _ _ _ _ x0
  have f1 : W1.frozen? ⟨w.heap.size, 1, none⟩ = false := frozen_of_row _ _ _ _ _ x0
  generalize Tre.pathOk p = po at *
  go_enter Tryd.func12, Tryd.ntmps12
  go_wp2_with fail
  rw [← hW1]
  (with_reducible refine c1.mono ?_); rintro e w1 ⟨rfl, rfl⟩
  clear c1 hW1
  cases po with
  | false =>
    have HEE := Lib.hid (show E = 2 by rw [HWE.out, HPT.out]; rfl)
    have HTT := Lib.hid (show T = ⟨[], []⟩ by rw [HWT.out, HEE.out]; rfl)
    have HX := Lib.hid x0
    clear x0
    go_wp2_with fail
    exact ret_txq (q := w.heap.size) (t := T) (A := none) (c := 0) (by rw [HTT.out]; exact set2_row HX.out) rfl (by rw [HEE.out]; rfl) rfl (by rw [HTT.out]; exact tx_nil _) (by rw [HTT.out]; exact Nat.le_refl _) (set2_below HB1.out (Nat.le_refl _))
  | true =>
  have HP0 := Lib.hid (show Tre.path p = 0 by rw [HPT.out]; rfl)
  have c2 : Calls Tryd.prog 32 #[.string (str d), .int .u8 10] W1 (GotSs W1 (Tre.split 10 d)) := qcut_any 10 (str d) W1 (by rw [str_size]; exact hd)
  have hsd := str_size d
  have HL := Lib.hid (show Tre.lines d = if 65536 < d.length ∨ 1024 < (Tre.split 10 d).length then ([], 10) else (Tre.split 10 d, 0) from rfl)
  have hll := lines_len d
  go_wp2_with fail
  (with_reducible refine c2.mono ?_); rintro e w2 ⟨A1, c1', rfl, hA1, hkd1, hb2⟩
  clear c2
  have y0 := (hb2.block _ (blk_lt x0)).trans x0
  have HB2 := Lib.hid (HB1.out.trans (hb2.mono HB1.out.size))
  clear hb2 x0 r0 r1 f0 f1
  have r0 := (cells2 y0).1
  have r1 := (cells2 y0).2
  have f0 : w2.frozen? ⟨w.heap.size, 0, none⟩ = false := frozen_of_row _ _ _ _ _ y0
  have f1 : w2.frozen? ⟨w.heap.size, 1, none⟩ = false := frozen_of_row _ _ _ _ _ y0
  by_cases hb65 : 65536 < d.length
  · have b1 : decide ((65536 : Int) < (d.length : Int)) = true := decide_eq_true (by omega)
    have b1n : decide (65536 < d.length) = true := decide_eq_true hb65
    have b2 : decide ((65536 : Int) < ((str d).size : Int)) = true := decide_eq_true (by omega)
    have b2n : decide (65536 < (str d).size) = true := decide_eq_true (by omega)
    have hL2 : Tre.lines d = ([], 10) := HL.out.trans (if_pos (.inl hb65))
    have HEE := Lib.hid (show E = 10 by rw [HWE.out, HP0.out, hL2]; rfl)
    have HTT := Lib.hid (show T = ⟨[], []⟩ by rw [HWT.out, HEE.out]; rfl)
    have HX := Lib.hid y0
    clear y0 hL2 hA1 hkd1
    go_wp2_with fail
    exact ret_txq (q := w.heap.size) (t := T) (A := none) (c := 0) (by rw [HTT.out]; exact set2_row HX.out) rfl (by rw [HEE.out]; rfl) rfl (by rw [HTT.out]; exact tx_nil _) (by rw [HTT.out]; exact Nat.le_refl _) (set2_below HB2.out (Nat.le_refl _))
  by_cases hb1k : 1024 < (Tre.split 10 d).length
  · have b1 : decide ((65536 : Int) < (d.length : Int)) = false := decide_eq_false (by omega)
    have b1n : decide (65536 < d.length) = false := decide_eq_false hb65
    have b2 : decide ((65536 : Int) < ((str d).size : Int)) = false := decide_eq_false (by omega)
    have b2n : decide (65536 < (str d).size) = false := decide_eq_false (by omega)
    have b3 : decide ((1024 : Int) < ((Tre.split 10 d).length : Int)) = true := decide_eq_true (by omega)
    have b3n : decide (1024 < (Tre.split 10 d).length) = true := decide_eq_true hb1k
    have hL2 : Tre.lines d = ([], 10) := HL.out.trans (if_pos (.inr hb1k))
    have HEE := Lib.hid (show E = 10 by rw [HWE.out, HP0.out, hL2]; rfl)
    have HTT := Lib.hid (show T = ⟨[], []⟩ by rw [HWT.out, HEE.out]; rfl)
    have HX := Lib.hid y0
    clear y0 hL2 hA1 hkd1
    go_wp2_with fail
    exact ret_txq (q := w.heap.size) (t := T) (A := none) (c := 0) (by rw [HTT.out]; exact set2_row HX.out) rfl (by rw [HEE.out]; rfl) rfl (by rw [HTT.out]; exact tx_nil _) (by rw [HTT.out]; exact Nat.le_refl _) (set2_below HB2.out (Nat.le_refl _))
  have b1 : decide ((65536 : Int) < (d.length : Int)) = false := decide_eq_false (by omega)
  have b1n : decide (65536 < d.length) = false := decide_eq_false hb65
  have b2 : decide ((65536 : Int) < ((str d).size : Int)) = false := decide_eq_false (by omega)
  have b2n : decide (65536 < (str d).size) = false := decide_eq_false (by omega)
  have b3 : decide ((1024 : Int) < ((Tre.split 10 d).length : Int)) = false := decide_eq_false (by omega)
  have b3n : decide (1024 < (Tre.split 10 d).length) = false := decide_eq_false hb1k
  have hL2 : Tre.lines d = (Tre.split 10 d, 0) := HL.out.trans (if_neg (by omega))
  have HEE := Lib.hid (show E = if 8192 < (wrd a b d).length then 10 else 0 by rw [HWE.out, HP0.out, hL2]; rfl)
  have hdl : d.length ≤ 65536 := by omega
  have hsl : (Tre.split 10 d).length ≤ 1024 := by omega
  have HBL := Lib.hid (lines_byt d)
  have HWR := Lib.hid (show wrd a b d = [] ++ wl a b 0 0 ((Tre.split 10 d).drop 0) from rfl)
  have HWL := Lib.hid (wrd_len a b d)
  have HSH := Lib.hid (wl_sht a b (Tre.split 10 d) 0 0 (Nat.le_trans (lines_byt d) (by omega)))
  rw [show wl a b 0 0 (Tre.split 10 d) = wrd a b d from rfl] at HSH
  generalize wrd a b d = WR at *
  clear hL2 HL HWE HPT HP0 hb65 hb1k hll
  generalize Tre.split 10 d = LS at *
  have hbW : Below w2.heap.size w2 (w2.alloc (.cells #[.string (str p), .slice none 0 0] 25)) := (Below.refl _ _).alloc (Nat.le_refl _) _
  have HK0 := Lib.hid (show Wq w w2.heap.size p [] (.slice none 0 0) (w2.alloc (.cells #[.string (str p), .slice none 0 0] 25)) from
    ⟨(hbW.block _ (blk_lt y0)).trans y0, heap_alloc_new w2 _, World.ownsRow_nil _ _ _ _, HB2.out.trans (hbW.mono HB2.out.size), blk_lt y0⟩)
  have HA0 := Lib.hid (hA1.next hbW)
  have HD0 := Lib.hid (kd_below hkd1 hbW)
  have hw2 : w.heap.size + 1 ≤ w2.heap.size := blk_lt y0
  clear hA1 hkd1 y0 r0 r1 f0 f1 hbW
  go_wp2_with fail
  go_loopw [12] (fun s12 wr => ∃ (i : Nat) (O : List Lx) (v : Value), s12 = .int .i64 i ∧ i ≤ 20000 ∧ Wq w w2.heap.size p O v wr ∧ WR = O ++ wl a b i 0 (LS.drop i) ∧ Ls.StAt wr wr.heap.size A1 LS ∧ Kd wr A1 ∧ w2.heap.size + 1 ≤ wr.heap.size) (fun s12 _ => LS.length - (intOf s12).toNat)
  case atStart => exact ⟨0, [], _, rfl, by omega, HK0.out, HWR.out, HA0.out, HD0.out, by simp⟩
  case round =>
    clear HK0 HWR HA0 HD0
    obtain ⟨i, O, v, rfl, hi, hk, hw, hA1, hkd1, hZ0⟩ := hrel
    by_cases hlt0 : i < LS.length
    case neg =>
      have b4 : decide ((i : Int) < (LS.length : Int)) = false := decide_eq_false (by omega)
      have b4n : decide (i < LS.length) = false := decide_eq_false hlt0
      rw [List.drop_of_length_le (by omega), wl_nil, List.append_nil] at hw
      obtain ⟨A, c, rfl, hc1, hc2, -⟩ := own_lx hk.row
      have u0 := (cells2 hk.tx).1
      have u1 := (cells2 hk.tx).2
      have r0 := (cells2 hk.rs).1
      have r1 := (cells2 hk.rs).2
      have f0 : wr.frozen? ⟨w.heap.size, 0, none⟩ = false := frozen_of_row _ _ _ _ _ hk.rs
      have f1 : wr.frozen? ⟨w.heap.size, 1, none⟩ = false := frozen_of_row _ _ _ _ _ hk.rs
      have hlo := hk.lo
      have FIN := Lib.hid (fun (x y : Value) => (show ∃ V, V = ((wr.setCell ⟨w.heap.size, 0, none⟩ x).setCell ⟨w.heap.size, 1, none⟩ y) ∧ V.heap[w.heap.size]? = some (.cells #[x, y] 25 (0, 0)) ∧ V.ownsRow (w2.heap.size + 1) 41 2 (.slice A O.length c) O.length (lxsV O) ∧ Below w.heap.size w V from by
        refine ⟨_, rfl, set2_row hk.rs, ?_, set2_below hk.bel (Nat.le_refl _)⟩
        refine own_same hk.row fun g hg => ?_
        have := (hk.row.lt g hg).1
        exact (Below.heap_setCell _ ⟨w.heap.size, 1, none⟩ _ _ (show g ≠ w.heap.size by omega)).trans (Below.heap_setCell _ ⟨w.heap.size, 0, none⟩ _ _ (show g ≠ w.heap.size by omega))))
      by_cases hbig : 8192 < O.length
      · have b5 : decide ((8192 : Int) < (O.length : Int)) = true := decide_eq_true (by omega)
        have b5n : decide (8192 < O.length) = true := decide_eq_true hbig
        have HE2 := Lib.hid (show E = 10 by rw [HEE.out, hw, if_pos hbig])
        have HTT := Lib.hid (show T = ⟨[], []⟩ by rw [HWT.out, HE2.out]; rfl)
        clear hw hbig hk hlo hA1 hkd1
        go_wp2_with fail
        obtain ⟨V, hV, v2, v3', v4⟩ := FIN.out (.string ⟨#[]⟩) (.slice none 0 0)
        rw [← hV]
        exact ret_txq (q := w.heap.size) (t := T) (A := none) (c := 0) (by rw [HTT.out]; exact v2) rfl (by rw [HE2.out]; rfl) rfl (by rw [HTT.out]; exact tx_nil _) (by rw [HTT.out]; exact Nat.le_refl _) v4
      · have b5 : decide ((8192 : Int) < (O.length : Int)) = false := decide_eq_false (by omega)
        have b5n : decide (8192 < O.length) = false := decide_eq_false hbig
        have HE2 := Lib.hid (show E = 0 by rw [HEE.out, hw, if_neg hbig])
        have HTT := Lib.hid (show T = ⟨p, O⟩ by rw [HWT.out, HE2.out, if_pos rfl, hw])
        have HSH2 := Lib.hid (show Sht O from fun x hx => by
          have := HSH.out x (by rw [hw]; exact hx)
          omega)
        have HOL := Lib.hid (show O.length ≤ 8192 by omega)
        clear hw hbig hk hlo hA1 hkd1
        go_wp2_with fail
        obtain ⟨V, hV, v2, v3', v4⟩ := FIN.out (.string (str p)) (.slice A O.length c)
        rw [← hV]
        obtain ⟨A', c', e', -, -, hlx⟩ := own_lx v3'
        cases e'
        exact ret_txq (q := w.heap.size) (t := T) (A := A) (c := c) (by rw [HTT.out]; exact v2) rfl (by rw [HE2.out]; rfl) rfl (by rw [HTT.out]; exact ⟨hlx, HSH2.out, hp, Nat.le_trans HOL.out (by decide)⟩) (by rw [HTT.out]; exact hc1) v4
    have b4 : decide ((i : Int) < (LS.length : Int)) = true := decide_eq_true (by omega)
    have b4n : decide (i < LS.length) = true := decide_eq_true hlt0
    have y4 : (i : Int) < (LS.length : Int) := by omega
    obtain ⟨g1, o1, e1, hg1, hcl⟩ := hA1 i hlt0
    have d1 : wr.cell? ⟨g1, o1 + i, none⟩ = some (.string (str LS[i])) := by simpa using hcl 0 _ rfl
    obtain ⟨l, hl⟩ : ∃ l, l = LS[i] := ⟨_, rfl⟩
    have hdr : LS.drop i = l :: LS.drop (i + 1) := by rw [hl]; exact List.drop_eq_getElem_cons hlt0
    have hlb : l.length ≤ 65536 := by
      have := byt_mem (show l ∈ LS from by rw [hl]; exact List.getElem_mem hlt0)
      have := HBL.out
      omega
    rw [← hl] at d1
    rw [hdr] at hw
    have HW := Lib.hid hw
    have hi2 : i < 1024 := by omega
    have cs := qsplit_any (str l) wr (by rw [str_size]; omega)
    rw [str_data] at cs
    have HE1 := Lib.hid e1
    rw [show A1 = some ⟨g1, o1, none⟩ from e1]
    clear hw hdr hl hcl
    go_wp2_with fail
    (with_reducible refine cs.mono ?_); rintro e w4 ⟨A2, c2', rfl, hA2, hkd2, hb4⟩
    have hk4 := hk.next hb4
    have hA14 := hA1.next hb4
    have hkd14 := kd_below hkd1 hb4
    have hZ4 : w2.heap.size + 1 ≤ w4.heap.size := Nat.le_trans hZ0 hb4.size
    clear cs hb4 hk hA1 hkd1
    have cn := qnote_any (div l) A2 c2' w4 hA2 (by have := div_len l; omega) (fun x hx => by have := (div_ok l x hx).2; omega)
    go_wp2_with fail
    (with_reducible refine cn.mono ?_); rintro e w7 ⟨hor, hb7⟩
    have hk7 := hk4.next hb7
    have hA17 := hA14.next hb7
    have hkd17 := kd_below hkd14 hb7
    have hA27 := hA2.next hb7
    have hkd27 := kd_below hkd2 hb7
    have hZ7 : w2.heap.size + 1 ≤ w7.heap.size := Nat.le_trans hZ4 hb7.size
    clear cn hb7 hk4 hA14 hkd14 hA2 hkd2
    rcases hor with ⟨n, hn, hn9, rfl⟩ | ⟨hn, rfl⟩
    · have HK7 := Lib.hid hk7
      have HA17 := Lib.hid hA17
      have HD17 := Lib.hid hkd17
      have HW2 := Lib.hid (show WR = O ++ wl a b (i + n + 1) 0 (LS.drop (i + n + 1)) by
        rw [HW.out, wl_note a b i _ hn, wl_skip, List.drop_drop, show i + 1 + n = i + n + 1 by omega])
      clear hk7 hA17 hkd17 hA27 hkd27 hn HW
      go_wp2_with fail
      go_roundw
      case rel => exact ⟨i + n + 1, O, v, by go_num, by omega, HK7.out, HW2.out, by rw [← HE1.out]; exact HA17.out, by rw [← HE1.out]; exact HD17.out, hZ7⟩
      case measure => simp [intOf]; omega
    have HW2 := Lib.hid (show WR = (O ++ (div l).map (fun x => (⟨cls a b x, (i : Int)⟩ : Lx))) ++ wl a b (i + 1) 0 (LS.drop (i + 1)) by rw [HW.out, wl_line a b i _ hn, List.append_assoc])
    have HDO := Lib.hid (fun x hx => div_ok l x hx)
    have HOL := Lib.hid (show O.length + (div l).length ≤ 65536 by
      have h1 := HWL.out
      rw [HW.out, wl_line a b i _ hn, List.length_append, List.length_append, List.length_map] at h1
      omega)
    clear HW hn
    generalize div l = L at *
    have HK0 := Lib.hid hk7
    have HA0 := Lib.hid hA27
    have HKD0 := Lib.hid hkd27
    have HC0 := Lib.hid hA17
    have HKC0 := Lib.hid hkd17
    clear hk7 hA27 hkd27 hA17 hkd17
    go_wp2_with fail
    go_loopw [16] (fun s16 wr => ∃ (k : Nat) (v : Value), s16 = .int .i64 k ∧ k ≤ L.length ∧ Wq w w2.heap.size p (O ++ (L.take k).map (fun x => (⟨cls a b x, (i : Int)⟩ : Lx))) v wr ∧ Ls.StAt wr wr.heap.size A2 L ∧ Kd wr A2 ∧ Ls.StAt wr wr.heap.size A1 LS ∧ Kd wr A1 ∧ w2.heap.size + 1 ≤ wr.heap.size) (fun s16 _ => L.length - (intOf s16).toNat)
    case atStart => exact ⟨0, v, rfl, Nat.zero_le _, by rw [List.take_zero]; simpa using HK0.out, HA0.out, HKD0.out, HC0.out, HKC0.out, hZ7⟩
    case round =>
      clear HK0 HA0 HKD0 HC0 HKC0
      obtain ⟨k, v4, rfl, hj, hk4, hA4, hkd4, hC4, hkc4, hZ⟩ := hrel
      have hLb : L.length ≤ 65536 := by have := HOL.out; omega
      by_cases hlt : k < L.length
      · have b1 : decide ((k : Int) < (L.length : Int)) = true := decide_eq_true (by omega)
        have b1n : decide (k < L.length) = true := decide_eq_true hlt
        have y1 : (k : Int) < (L.length : Int) := by omega
        obtain ⟨g, o, rfl, hg, hc⟩ := hA4 k hlt
        have hx := HDO.out L[k] (List.getElem_mem hlt)
        have d0 : wr.cell? ⟨g, o + k, none⟩ = some (.string (str L[k])) := by simpa using hc 0 _ rfl
        have HA := Lib.hid hA4
        have HKD := Lib.hid hkd4
        have HC := Lib.hid hC4
        have HKC := Lib.hid hkc4
        have hOl : (O ++ (L.take k).map (fun x => (⟨cls a b x, (i : Int)⟩ : Lx))).length ≤ 65536 := by
          have := HOL.out
          rw [List.length_append, List.length_map, List.length_take]; omega
        obtain ⟨x, hxx⟩ : ∃ x, x = L[k] := ⟨_, rfl⟩
        rw [← hxx] at d0 hx
        have HXX := Lib.hid hxx
        have HXP := Lib.hid (show 0 < x.length from isW_pos hx.1)
        obtain ⟨O4, hO4⟩ : ∃ O4, O4 = O ++ (L.take k).map (fun x => (⟨cls a b x, (i : Int)⟩ : Lx)) := ⟨_, rfl⟩
        rw [← hO4] at hk4 hOl
        have HO4 := Lib.hid hO4
        have HST := Lib.hid (fun (X : World) (hf : Far wr X (some ⟨g, o, none⟩)) => (show X.cell? ⟨g, o + k, none⟩ = some (.string (str x)) from by
          have := d0
          unfold World.cell? at this ⊢
          rw [hf g o rfl]
          exact this))
        clear hc hA4 hkd4 hC4 hkc4 hx hxx hO4
        obtain ⟨A4, c4, rfl, hc4, hm4, -⟩ := own_lx hk4.row
        have HF := Lib.hid (fun (X : World) (hX : Below wr.heap.size wr X) => (show X.cell? ⟨g, o + k, none⟩ = some (.string (str x)) ∧ X.cell? ⟨w2.heap.size, 1, none⟩ = some (.slice A4 O4.length c4) from ⟨HST.out X (fun g' o' e => by cases e; exact hX.block _ hg), hk4.facts hX⟩))
        have HROW := Lib.hid (fun (X : World) (hX : Below wr.heap.size wr X) => (hk4.next hX).row)
        have B0 : Below wr.heap.size wr wr.drew := (Below.refl _ _).drew
        go_upto_region 17 with (fail)
        refine wp_region_held_drew (S := (fun w' : World => w'.cell? ⟨g, o + k, none⟩ = some (.string (str x)))) (by kernel_rfl) (HF.out _ B0).1 (fun hHeld => ?_)
        refine wpAnyH_take (i := 0) (oi := _) (v := ?v1) rfl (by kernel_rfl) (by kernel_rfl) (by kernel_rfl) (fun _ _ _ h => h) (Or.inl ⟨by rfl, ?hy1⟩) (by assumption) ?rest1
        case hy1 =>
          intro w hSw
          try dsimp only at hSw
          go_simp
          try with_reducible rfl
        try simp only [Act.put]
        refine wpAnyH_take (i := 2) (oi := _) (v := ?v2) rfl (by kernel_rfl) (by kernel_rfl) (by kernel_rfl) (fun _ _ _ h => h) (Or.inl ⟨by rfl, ?hy2⟩) (by assumption) ?rest2
        case hy2 =>
          intro w hSw
          try dsimp only at hSw
          go_simp
          try with_reducible rfl
        try simp only [Act.put]
        refine wpAnyH_take (i := 3) (oi := _) (v := ?v3) rfl (by kernel_rfl) (by kernel_rfl) (by kernel_rfl) (fun _ _ _ h => h) (Or.inl ⟨by rfl, ?hy3⟩) (by assumption) ?rest3
        case hy3 =>
          intro w hSw
          try dsimp only at hSw
          go_simp
          try with_reducible rfl
        try simp only [Act.put]
        refine wpAnyH_take (i := 4) (oi := _) (v := ?v4) rfl (by kernel_rfl) (by kernel_rfl) (by kernel_rfl) (fun _ _ _ h => h) (Or.inl ⟨by rfl, ?hy4⟩) (by assumption) ?rest4
        case hy4 =>
          intro w hSw
          try dsimp only at hSw
          go_simp
          try with_reducible rfl
        try simp only [Act.put]
        refine wpAnyH_take (i := 5) (oi := _) (v := ?v5) rfl (by kernel_rfl) (by kernel_rfl) (by kernel_rfl) (fun _ _ _ h => h) (Or.inl ⟨by rfl, ?hy5⟩) (by assumption) ?rest5
        case hy5 =>
          intro w hSw
          try dsimp only at hSw
          go_simp
          try with_reducible rfl
        try simp only [Act.put]
        refine wpAnyH_take (i := 6) (oi := _) (v := ?v6) rfl (by kernel_rfl) (by kernel_rfl) (by kernel_rfl) (fun _ _ _ h => h) (Or.inl ⟨by rfl, ?hy6⟩) (by assumption) ?rest6
        case hy6 =>
          intro w hSw
          try dsimp only at hSw
          go_simp
          try with_reducible rfl
        try simp only [Act.put]
        refine wpAnyH_take (i := 7) (oi := _) (v := ?v7) rfl (by kernel_rfl) (by kernel_rfl) (by kernel_rfl) (fun _ _ _ h => h) (Or.inl ⟨by rfl, ?hy7⟩) (by assumption) ?rest7
        case hy7 =>
          intro w hSw
          try dsimp only at hSw
          go_simp
          try with_reducible rfl
        try simp only [Act.put]
        refine wpAnyH_take (i := 9) (oi := _) (v := ?v8) rfl (by kernel_rfl) (by kernel_rfl) (by kernel_rfl) (fun _ _ _ h => h) (Or.inl ⟨by rfl, ?hy8⟩) (by assumption) ?rest8
        case hy8 =>
          intro w hSw
          try dsimp only at hSw
          go_simp
          try with_reducible rfl
        try simp only [Act.put]
        refine wpAnyH_ready (rs := [1, 8]) (by kernel_rfl) (by simp) ?_
        refine AllReadyH.cons (o := _) rfl (fun K hK => ?_) ?_
        · skip
          have u10 := (HF.out _ B0).2
          go_simp
          refine hK.out _ _ (HF.out _ B0).1 (fun hHeld => ?_)
          clear hK K
          try simp only [Act.put]
          refine wpAnyH_ready (rs := [8]) (by kernel_rfl) (by simp) ?_
          refine AllReadyH.cons (o := _) rfl (fun K hK => ?_) AllReadyH.nil
          go_simp
          have cc := qclass_any (str x) a b wr.drew (by rw [str_size]; exact HXP.out)
          rw [str_data] at cc
          go_at_call 35
          with_reducible refine cc.mono ?_
          clear cc
          rintro e w5 ⟨rfl, hb5⟩
          have B1 : Below wr.heap.size wr w5 := B0.trans hb5
          have u15 := (HF.out w5 B1).2
          refine hK.out _ _ (HF.out _ B1).1 (fun hHeld => ?_)
          clear hK K
          try simp only [Act.put]
          refine wpAnyH_take (i := 10) (oi := _) (v := ?v9) rfl (by kernel_rfl) (by kernel_rfl) (by kernel_rfl) (fun _ _ _ h => h) (Or.inl ⟨by rfl, ?hy9⟩) (by assumption) ?rest9
          case hy9 =>
            intro w hSw
            try dsimp only at hSw
            go_simp
            try with_reducible rfl
          try simp only [Act.put]
          refine wpAnyH_ready (rs := [11]) (by kernel_rfl) (by simp) ?_
          refine AllReadyH.cons (o := _) rfl (fun K hK => ?_) AllReadyH.nil
          go_simp
          refine hK.out _ _ (HF.out _ (B1.alloc B1.size _)).1 (fun hHeld => ?_)
          clear hK K
          try simp only [Act.put]
          refine wpAnyH_ready (rs := [12]) (by kernel_rfl) (by simp) ?_
          refine AllReadyH.cons (o := _) rfl (fun K hK => ?_) AllReadyH.nil
          refine step_append_lies _ (by rfl) _ _ _ (by rfl) (w2.heap.size + 1) 41 iL _ 2 24 Tryd.underlying23 hiL hzL0 hzL1 hzL2 rfl (by omega) (.slice A4 O4.length c4) O4.length _ (by rfl) ((HROW.out w5 B1).alloc _) ⟨w5.heap.size, 0, none⟩ 1 1 [_, _] (by rfl) (by rfl) (World.news_of_block (cs := #[_, _]) (t := 41) (fr := (0, 0)) (heap_alloc_new w5 _)) (by simp [Value.oneCell']) (by omega) (by unfold maxLen; omega) (by omega) (by have := B1.size; simp; omega) (w5.heap.size + 1) (by simp) ?_
          intro gg cap w6 hown6 hgrow hat hlt6
          have hg6 := hk4.grown6 (B1.alloc B1.size _) hgrow
          have u6 := hg6.1
          have fr6 := hg6.2
          have S6 := HST.out w6 (hk4.far6 HKD.out (B1.alloc B1.size _) hgrow)
          refine hK.out _ _ S6 (fun hHeld => ?_)
          clear hK K
          try simp only [Act.put]
          refine wpAnyH_take (i := 13) (oi := _) (v := ?v10) rfl (by kernel_rfl) (by kernel_rfl) (by kernel_rfl) (fun _ _ _ h => h) (Or.inl ⟨by rfl, ?hy10⟩) (by assumption) ?rest10
          case hy10 =>
            intro w hSw
            try dsimp only at hSw
            go_simp
            try with_reducible rfl
          try simp only [Act.put]
          refine wpAnyH_ready (rs := [14]) (by kernel_rfl) (by simp) ?_
          refine AllReadyH.cons (o := _) rfl (fun K hK => ?_) AllReadyH.nil
          go_simp
          have hS7 := HST.out _ (hk4.far7 HKD.out (B1.alloc B1.size _) hgrow (.slice (some ⟨gg, 0, none⟩) (O4.length + 1) cap))
          refine hK.out _ _ hS7 (fun hHeld => ?_)
          clear hK K
          try simp only [Act.put]
          refine wpAnyH_done (by kernel_rfl) ?_ _
          try simp only [List.setIfInBounds_toArray, List.set_cons_zero, List.set_cons_succ]
          have HN4 := Lib.hid (Wq.app (O' := O4 ++ [⟨cls a b x, (i : Int)⟩]) hk4 (B1.alloc B1.size _) hgrow (by rw [lxsV_snoc, List.length_append, List.length_singleton]; exact hown6))
          have HA4 := Lib.hid (far_keep HA.out HKD.out (hk4.far7 HKD.out (B1.alloc B1.size _) hgrow (.slice (some ⟨gg, 0, none⟩) (O4.length + 1) cap)) (by have h1 := hgrow.size; have h2 := B1.size; simp at h1 ⊢; omega))
          have HC4 := Lib.hid (far_keep HC.out HKC.out (hk4.far7 HKC.out (B1.alloc B1.size _) hgrow (.slice (some ⟨gg, 0, none⟩) (O4.length + 1) cap)) (by have h1 := hgrow.size; have h2 := B1.size; simp at h1 ⊢; omega))
          have HZ4 := Lib.hid (show wr.heap.size ≤ (w6.setCell ⟨w2.heap.size, 1, none⟩ (.slice (some ⟨gg, 0, none⟩) (O4.length + 1) cap)).heap.size by have h1 := hgrow.size; have h2 := B1.size; simp at h1 ⊢; omega)
          clear hown6 hgrow hat hlt6 hg6 u6 fr6 S6 B1 hb5
          go_wp2_with fail
          go_roundw
          case rel =>
            exact ⟨k + 1, _, by go_num, by omega, by rw [List.take_succ_eq_append_getElem hlt, ← HXX.out, List.map_append, List.map_singleton, ← List.append_assoc, ← HO4.out]; exact HN4.out, HA4.out.1, HA4.out.2, HC4.out.1, HC4.out.2, Nat.le_trans hZ HZ4.out⟩
          case measure => simp [intOf]; omega
        refine AllReadyH.cons (o := _) rfl (fun K hK => ?_) AllReadyH.nil
        go_simp
        have cc := qclass_any (str x) a b wr.drew (by rw [str_size]; exact HXP.out)
        rw [str_data] at cc
        go_at_call 35
        with_reducible refine cc.mono ?_
        clear cc
        rintro e w5 ⟨rfl, hb5⟩
        have B1 : Below wr.heap.size wr w5 := B0.trans hb5
        have u15 := (HF.out w5 B1).2
        refine hK.out _ _ (HF.out _ B1).1 (fun hHeld => ?_)
        clear hK K
        try simp only [Act.put]
        refine wpAnyH_take (i := 10) (oi := _) (v := ?v11) rfl (by kernel_rfl) (by kernel_rfl) (by kernel_rfl) (fun _ _ _ h => h) (Or.inl ⟨by rfl, ?hy11⟩) (by assumption) ?rest11
        case hy11 =>
          intro w hSw
          try dsimp only at hSw
          go_simp
          try with_reducible rfl
        try simp only [Act.put]
        refine wpAnyH_ready (rs := [1, 11]) (by kernel_rfl) (by simp) ?_
        refine AllReadyH.cons (o := _) rfl (fun K hK => ?_) ?_
        · skip
          go_simp
          refine hK.out _ _ (HF.out _ B1).1 (fun hHeld => ?_)
          clear hK K
          try simp only [Act.put]
          refine wpAnyH_ready (rs := [11]) (by kernel_rfl) (by simp) ?_
          refine AllReadyH.cons (o := _) rfl (fun K hK => ?_) AllReadyH.nil
          go_simp
          refine hK.out _ _ (HF.out _ (B1.alloc B1.size _)).1 (fun hHeld => ?_)
          clear hK K
          try simp only [Act.put]
          refine wpAnyH_ready (rs := [12]) (by kernel_rfl) (by simp) ?_
          refine AllReadyH.cons (o := _) rfl (fun K hK => ?_) AllReadyH.nil
          refine step_append_lies _ (by rfl) _ _ _ (by rfl) (w2.heap.size + 1) 41 iL _ 2 24 Tryd.underlying23 hiL hzL0 hzL1 hzL2 rfl (by omega) (.slice A4 O4.length c4) O4.length _ (by rfl) ((HROW.out w5 B1).alloc _) ⟨w5.heap.size, 0, none⟩ 1 1 [_, _] (by rfl) (by rfl) (World.news_of_block (cs := #[_, _]) (t := 41) (fr := (0, 0)) (heap_alloc_new w5 _)) (by simp [Value.oneCell']) (by omega) (by unfold maxLen; omega) (by omega) (by have := B1.size; simp; omega) (w5.heap.size + 1) (by simp) ?_
          intro gg cap w6 hown6 hgrow hat hlt6
          have hg6 := hk4.grown6 (B1.alloc B1.size _) hgrow
          have u6 := hg6.1
          have fr6 := hg6.2
          have S6 := HST.out w6 (hk4.far6 HKD.out (B1.alloc B1.size _) hgrow)
          refine hK.out _ _ S6 (fun hHeld => ?_)
          clear hK K
          try simp only [Act.put]
          refine wpAnyH_take (i := 13) (oi := _) (v := ?v12) rfl (by kernel_rfl) (by kernel_rfl) (by kernel_rfl) (fun _ _ _ h => h) (Or.inl ⟨by rfl, ?hy12⟩) (by assumption) ?rest12
          case hy12 =>
            intro w hSw
            try dsimp only at hSw
            go_simp
            try with_reducible rfl
          try simp only [Act.put]
          refine wpAnyH_ready (rs := [14]) (by kernel_rfl) (by simp) ?_
          refine AllReadyH.cons (o := _) rfl (fun K hK => ?_) AllReadyH.nil
          go_simp
          have hS7 := HST.out _ (hk4.far7 HKD.out (B1.alloc B1.size _) hgrow (.slice (some ⟨gg, 0, none⟩) (O4.length + 1) cap))
          refine hK.out _ _ hS7 (fun hHeld => ?_)
          clear hK K
          try simp only [Act.put]
          refine wpAnyH_done (by kernel_rfl) ?_ _
          try simp only [List.setIfInBounds_toArray, List.set_cons_zero, List.set_cons_succ]
          have HN4 := Lib.hid (Wq.app (O' := O4 ++ [⟨cls a b x, (i : Int)⟩]) hk4 (B1.alloc B1.size _) hgrow (by rw [lxsV_snoc, List.length_append, List.length_singleton]; exact hown6))
          have HA4 := Lib.hid (far_keep HA.out HKD.out (hk4.far7 HKD.out (B1.alloc B1.size _) hgrow (.slice (some ⟨gg, 0, none⟩) (O4.length + 1) cap)) (by have h1 := hgrow.size; have h2 := B1.size; simp at h1 ⊢; omega))
          have HC4 := Lib.hid (far_keep HC.out HKC.out (hk4.far7 HKC.out (B1.alloc B1.size _) hgrow (.slice (some ⟨gg, 0, none⟩) (O4.length + 1) cap)) (by have h1 := hgrow.size; have h2 := B1.size; simp at h1 ⊢; omega))
          have HZ4 := Lib.hid (show wr.heap.size ≤ (w6.setCell ⟨w2.heap.size, 1, none⟩ (.slice (some ⟨gg, 0, none⟩) (O4.length + 1) cap)).heap.size by have h1 := hgrow.size; have h2 := B1.size; simp at h1 ⊢; omega)
          clear hown6 hgrow hat hlt6 hg6 u6 fr6 S6 B1 hb5
          go_wp2_with fail
          go_roundw
          case rel =>
            exact ⟨k + 1, _, by go_num, by omega, by rw [List.take_succ_eq_append_getElem hlt, ← HXX.out, List.map_append, List.map_singleton, ← List.append_assoc, ← HO4.out]; exact HN4.out, HA4.out.1, HA4.out.2, HC4.out.1, HC4.out.2, Nat.le_trans hZ HZ4.out⟩
          case measure => simp [intOf]; omega
        refine AllReadyH.cons (o := _) rfl (fun K hK => ?_) AllReadyH.nil
        go_simp
        refine hK.out _ _ (HF.out _ (B1.alloc B1.size _)).1 (fun hHeld => ?_)
        clear hK K
        try simp only [Act.put]
        refine wpAnyH_ready (rs := [1]) (by kernel_rfl) (by simp) ?_
        refine AllReadyH.cons (o := _) rfl (fun K hK => ?_) AllReadyH.nil
        have u12 := (HF.out _ (B1.alloc B1.size (.cells #[.string (str (cls a b x)), .int .i64 (i : Int)] 41))).2
        go_simp
        refine hK.out _ _ (HF.out _ (B1.alloc B1.size _)).1 (fun hHeld => ?_)
        clear hK K
        try simp only [Act.put]
        refine wpAnyH_ready (rs := [12]) (by kernel_rfl) (by simp) ?_
        refine AllReadyH.cons (o := _) rfl (fun K hK => ?_) AllReadyH.nil
        refine step_append_lies _ (by rfl) _ _ _ (by rfl) (w2.heap.size + 1) 41 iL _ 2 24 Tryd.underlying23 hiL hzL0 hzL1 hzL2 rfl (by omega) (.slice A4 O4.length c4) O4.length _ (by rfl) ((HROW.out w5 B1).alloc _) ⟨w5.heap.size, 0, none⟩ 1 1 [_, _] (by rfl) (by rfl) (World.news_of_block (cs := #[_, _]) (t := 41) (fr := (0, 0)) (heap_alloc_new w5 _)) (by simp [Value.oneCell']) (by omega) (by unfold maxLen; omega) (by omega) (by have := B1.size; simp; omega) (w5.heap.size + 1) (by simp) ?_
        intro gg cap w6 hown6 hgrow hat hlt6
        have hg6 := hk4.grown6 (B1.alloc B1.size _) hgrow
        have u6 := hg6.1
        have fr6 := hg6.2
        have S6 := HST.out w6 (hk4.far6 HKD.out (B1.alloc B1.size _) hgrow)
        refine hK.out _ _ S6 (fun hHeld => ?_)
        clear hK K
        try simp only [Act.put]
        refine wpAnyH_take (i := 13) (oi := _) (v := ?v13) rfl (by kernel_rfl) (by kernel_rfl) (by kernel_rfl) (fun _ _ _ h => h) (Or.inl ⟨by rfl, ?hy13⟩) (by assumption) ?rest13
        case hy13 =>
          intro w hSw
          try dsimp only at hSw
          go_simp
          try with_reducible rfl
        try simp only [Act.put]
        refine wpAnyH_ready (rs := [14]) (by kernel_rfl) (by simp) ?_
        refine AllReadyH.cons (o := _) rfl (fun K hK => ?_) AllReadyH.nil
        go_simp
        have hS7 := HST.out _ (hk4.far7 HKD.out (B1.alloc B1.size _) hgrow (.slice (some ⟨gg, 0, none⟩) (O4.length + 1) cap))
        refine hK.out _ _ hS7 (fun hHeld => ?_)
        clear hK K
        try simp only [Act.put]
        refine wpAnyH_done (by kernel_rfl) ?_ _
        try simp only [List.setIfInBounds_toArray, List.set_cons_zero, List.set_cons_succ]
        have HN4 := Lib.hid (Wq.app (O' := O4 ++ [⟨cls a b x, (i : Int)⟩]) hk4 (B1.alloc B1.size _) hgrow (by rw [lxsV_snoc, List.length_append, List.length_singleton]; exact hown6))
        have HA4 := Lib.hid (far_keep HA.out HKD.out (hk4.far7 HKD.out (B1.alloc B1.size _) hgrow (.slice (some ⟨gg, 0, none⟩) (O4.length + 1) cap)) (by have h1 := hgrow.size; have h2 := B1.size; simp at h1 ⊢; omega))
        have HC4 := Lib.hid (far_keep HC.out HKC.out (hk4.far7 HKC.out (B1.alloc B1.size _) hgrow (.slice (some ⟨gg, 0, none⟩) (O4.length + 1) cap)) (by have h1 := hgrow.size; have h2 := B1.size; simp at h1 ⊢; omega))
        have HZ4 := Lib.hid (show wr.heap.size ≤ (w6.setCell ⟨w2.heap.size, 1, none⟩ (.slice (some ⟨gg, 0, none⟩) (O4.length + 1) cap)).heap.size by have h1 := hgrow.size; have h2 := B1.size; simp at h1 ⊢; omega)
        clear hown6 hgrow hat hlt6 hg6 u6 fr6 S6 B1 hb5
        go_wp2_with fail
        go_roundw
        case rel =>
          exact ⟨k + 1, _, by go_num, by omega, by rw [List.take_succ_eq_append_getElem hlt, ← HXX.out, List.map_append, List.map_singleton, ← List.append_assoc, ← HO4.out]; exact HN4.out, HA4.out.1, HA4.out.2, HC4.out.1, HC4.out.2, Nat.le_trans hZ HZ4.out⟩
        case measure => simp [intOf]; omega
      · have b1 : decide ((k : Int) < (L.length : Int)) = false := decide_eq_false (by omega)
        have b1n : decide (k < L.length) = false := decide_eq_false hlt
        rw [List.take_of_length_le (by omega)] at hk4
        have HKX := Lib.hid hk4
        have HC := Lib.hid hC4
        have HKC := Lib.hid hkc4
        clear hk4 hA4 hkd4 hC4 hkc4
        go_wp2_with fail
        go_roundw
        case rel => exact ⟨i + 1, _, v4, by go_num, by omega, HKX.out, HW2.out, by first | exact HC.out | (rw [← HE1.out]; exact HC.out), by first | exact HKC.out | (rw [← HE1.out]; exact HKC.out), hZ⟩
        case measure => simp [intOf]; omega
end Nm
end Go.Proofs.YtenaohnginikhaaDoor
