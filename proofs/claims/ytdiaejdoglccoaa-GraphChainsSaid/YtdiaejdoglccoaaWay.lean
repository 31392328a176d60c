/- ways: for each node the nodes behind it, in either direction. No condition but the lengths; the ends of edges are nodes. -/
import Derived.Test.YtdiaejdoglccoaaChk
import Derived.Lib.OwnKind
import Derived.Deep.AppendLies
namespace Go.Proofs.Ytdiaejdoglccoaa
open Go.RowKit Go.Deep Tr

namespace Gr
def eA (fw : Bool) (x : Ed) : Int := if fw then x.src else x.dst
def eB (fw : Bool) (x : Ed) : Int := if fw then x.dst else x.src
/-- The nodes behind a node, in the order of the edges. -/
def row (fw : Bool) (E : List Ed) (i : Nat) : List Int := (E.filter fun x => eA fw x == (i : Int)).map (eB fw)
theorem row_app (fw : Bool) (E : List Ed) (x : Ed) (i : Nat) (h : eA fw x = (i : Int)) (r : Nat) : row fw (E ++ [x]) r = if r = i then row fw E i ++ [eB fw x] else row fw E r := by
  unfold row
  rw [List.filter_append, List.map_append]
  by_cases e : r = i
  · subst e
    rw [if_pos rfl]
    congr 1
    rw [List.filter_cons_of_pos (by simp [h])]
    simp
  · rw [if_neg e, List.filter_cons_of_neg (by simp [h]; omega)]
    simp
theorem row_len (fw : Bool) (E : List Ed) (i : Nat) : (row fw E i).length ≤ E.length := by
  unfold row
  rw [List.length_map]
  exact List.length_filter_le _ _
end Gr
theorem own_same {w w' : World} {B e size n : Nat} {v : Value} {xs : List Value} (h : w.ownsRow B e size v n xs) (hb : ∀ g, v.ownBlock = some g → w'.heap[g]? = w.heap[g]?) : w'.ownsRow B e size v n xs := by
  rcases h with ⟨h1, ⟨rfl, h2⟩ | ⟨g, cap, cur, rfl, h2, h3, h4⟩⟩
  · exact ⟨h1, .inl ⟨rfl, h2⟩⟩
  · exact ⟨h1, .inr ⟨g, cap, cur, rfl, h2, (hb g rfl).trans h3, h4⟩⟩
theorem kind_ne {w : World} {q g : Nat} {c c' : Array Value} {T T' : TypeId} {f f' : Nat × Nat} (h : w.heap[q]? = some (.cells c T f)) (h' : w.heap[g]? = some (.cells c' T' f')) (hT : T ≠ T') : q ≠ g := fun e => by
  subst e
  rw [h] at h'
  simp only [Option.some.injEq, Obj.cells.injEq] at h'
  exact hT h'.2.1
theorem below_grown {B e size n : Nat} {w W w6 : World} {v : Value} {xs : List Value} (hb : Below B w W) (hB : B ≤ W.heap.size) (ho : W.ownsRow B e size v n xs) (hg : W.grownBy w6 v.ownBlock) : Below B w w6 :=
  hb.trans ⟨hg.os, hg.tape, hg.output, hg.size, fun k hk => hg.block k (by omega) (fun e => by have := (ho.lt k e.symm).1; omega)⟩
/-- A list of lists of numbers of the call's own: R r at place r. -/
structure Ws (w : World) (B g0 n : Nat) (R : Nat → List Int) : Prop where
  ex : ∃ V : Nat → Value, w.rowIs g0 29 n V ∧ (∀ r, r < n → w.ownsRow B 3 1 (V r) (R r).length (Gr.insV (R r))) ∧ ∀ r s, r < n → s < n → r ≠ s → ∀ g, (V r).ownBlock = some g → (V s).ownBlock = some g → False
  lo : B ≤ g0
theorem Ws.lt {w : World} {B g0 n : Nat} {R : Nat → List Int} (h : Ws w B g0 n R) : g0 < w.heap.size := by
  obtain ⟨⟨V, h1, _⟩, _⟩ := h
  exact h1.lt
theorem Ws.same {w w' : World} {B g0 n : Nat} {R : Nat → List Int} (h : Ws w B g0 n R) (hb : ∀ q, q < w.heap.size → w'.heap[q]? = w.heap[q]?) : Ws w' B g0 n R := by
  obtain ⟨⟨V, h1, h2, h3⟩, h4⟩ := h
  exact ⟨⟨V, h1.of_block (hb _ h1.lt), fun r hr => own_same (h2 r hr) fun g hg => by
    obtain ⟨c, fz, h5⟩ := Lib.ownsRow_kind (h2 r hr) g hg
    exact hb g (blk_lt h5), h3⟩, h4⟩
theorem Ws.next {w w' : World} {B g0 n : Nat} {R : Nat → List Int} (h : Ws w B g0 n R) (hb : Below w.heap.size w w') : Ws w' B g0 n R := h.same fun q hq => hb.block q hq
theorem Ws.congr {w : World} {B g0 n : Nat} {R R' : Nat → List Int} (h : Ws w B g0 n R) (e : ∀ r, r < n → R r = R' r) : Ws w B g0 n R' := by
  obtain ⟨⟨V, h1, h2, h3⟩, h4⟩ := h
  exact ⟨⟨V, h1, fun r hr => by rw [← e r hr]; exact h2 r hr, h3⟩, h4⟩
theorem Ws.made (w : World) (B n : Nat) (hB : B ≤ w.heap.size) : Ws (w.alloc (.cells (madeCells #[.slice none 0 0] n) 29)) B w.heap.size n fun _ => [] :=
  ⟨⟨fun _ => .slice none 0 0, World.rowIs_made w (.slice none 0 0) n 29, fun r hr => ⟨rfl, .inl ⟨rfl, rfl⟩⟩, fun r s _ _ _ g hg => by simp [Value.ownBlock] at hg⟩, hB⟩
/-- A row, and what appending to it leaves. -/
theorem Ws.take {w : World} {B g0 n i : Nat} {R : Nat → List Int} (h : Ws w B g0 n R) (hi : i < n) : ∃ v, w.cell? ⟨g0, i, none⟩ = some v ∧ w.ownsRow B 3 1 v (R i).length (Gr.insV (R i)) ∧
    ∀ (gg cap : Nat) (w6 : World) (t : Int), w6.ownsRow B 3 1 (.slice (some ⟨gg, 0, none⟩) ((R i).length + 1) cap) ((R i).length + 1) (Gr.insV (R i) ++ [.int .i64 t]) → w.grownBy w6 v.ownBlock → (v.ownBlock = some gg ∨ gg = w.heap.size) →
      w6.cell? ⟨g0, i, none⟩ = some v ∧ w6.frozen? ⟨g0, i, none⟩ = false ∧ Ws (w6.setCell ⟨g0, i, none⟩ (.slice (some ⟨gg, 0, none⟩) ((R i).length + 1) cap)) B g0 n fun r => if r = i then R i ++ [t] else R r := by
  obtain ⟨⟨V, h1, h2, h3⟩, h4⟩ := h
  refine ⟨V i, h1.cell hi, h2 i hi, fun gg cap w6 t hown hg hat => ?_⟩
  have hk0 : w6.heap[g0]? = w.heap[g0]? := hg.block g0 h1.lt fun hx => by
    obtain ⟨c, fz, h5⟩ := Lib.ownsRow_kind (h2 i hi) g0 hx.symm
    obtain ⟨c', h6, _⟩ := h1
    exact kind_ne h6 h5 (by decide) rfl
  have h16 := h1.of_block hk0
  obtain ⟨cg, fg, h7⟩ := Lib.ownsRow_kind hown gg rfl
  have hne : gg ≠ g0 := by
    obtain ⟨c', h6, _⟩ := h16
    exact kind_ne h7 h6 (by decide)
  refine ⟨h16.cell hi, h16.frozen i, ⟨⟨_, h16.set i _, fun r hr => ?_, fun r s hr hs hrs g e1 e2 => ?_⟩, h4⟩⟩
  · by_cases e : r = i
    · subst e
      simp only [if_true]
      rw [List.length_append, List.length_singleton, Gr.insV_app, Gr.insV_one]
      exact own_same hown fun g hg2 => by
        simp only [Value.ownBlock, Option.some.injEq] at hg2
        subst hg2
        exact heap_setCell_other _ ⟨g0, r, none⟩ _ _ hne
    · simp only [e, if_false]
      exact own_same (h2 r hr) fun g hg2 => by
        obtain ⟨c, fz, h5⟩ := Lib.ownsRow_kind (h2 r hr) g hg2
        have hgg : g ≠ g0 := by
          obtain ⟨c', h6, _⟩ := h1
          exact kind_ne h5 h6 (by decide)
        rw [heap_setCell_other _ ⟨g0, i, none⟩ _ _ hgg]
        exact hg.block g (blk_lt h5) fun hx => h3 r i hr hi e g hg2 hx.symm
  · have key : ∀ s, s < n → s ≠ i → (V s).ownBlock = some gg → False := fun s hs hsi hx => by
      rcases hat with ha | ha
      · exact h3 s i hs hi hsi gg hx ha
      · obtain ⟨c, fz, h5⟩ := Lib.ownsRow_kind (h2 s hs) gg hx
        have := blk_lt h5
        omega
    by_cases er : r = i
    · have es : s ≠ i := fun h => hrs (er.trans h.symm)
      simp only [er, es, if_true, if_false, Value.ownBlock, Option.some.injEq] at e1 e2
      subst e1
      exact key s hs es e2
    · by_cases es : s = i
      · simp only [er, es, if_true, if_false, Value.ownBlock, Option.some.injEq] at e1 e2
        subst e2
        exact key r hr er e1
      · simp only [er, es, if_false] at e1 e2
        exact h3 r s hr hs hrs g e1 e2
set_option maxHeartbeats 8000000 in
set_option maxRecDepth 100000 in
theorem ways_forward (g : Gph) (A B : Option Addr) (c d : Nat) (w : World) (hA : GrAt w A B g) (hn : g.ns.length ≤ 1024) (he : g.es.length ≤ 1024) (hE : ∀ x ∈ g.es, 0 ≤ Gr.eA true x ∧ Gr.eA true x < (g.ns.length : Int)) :
    Calls Try.prog 34 #[grV A B c d g, .func (.func 30) #[] #[]] w fun e w' => ∃ g0, e = .returned (.slice (some ⟨g0, 0, none⟩) g.ns.length g.ns.length) ∧ Ws w' w.heap.size g0 g.ns.length (Gr.row true g.es) ∧ Below w.heap.size w w' := by
  obtain ⟨i0, hi0, hz0, hz1, hz2⟩ := info_parts infoIn
  obtain ⟨j0, hj0, hj1, hj2, hj3⟩ := info_parts infoIns
  have hmk : ∀ w' : World, (Instr.makeSlice 48 (.int .i64 (g.ns.length : Int)) (.int .i64 (g.ns.length : Int))).run Try.prog w' = .ok (.slice (some ⟨w'.heap.size, 0, none⟩) g.ns.length g.ns.length) (w'.alloc (.cells (madeCells #[.slice none 0 0] g.ns.length) 29)) := fun w' =>
    run_make_row (P := Try.prog) 48 29 j0 (.slice none 0 0) Try.underlying48 hj0 hj1 hj2 rfl .i64 .i64 g.ns.length (by rw [hj3]; omega) (by omega) w'
  have HA := Lib.hid hA
  have hb0 : Below w.heap.size w (w.alloc (grO A B c d g)) := (Below.refl _ _).alloc (Nat.le_refl _) _
  have hG := heap_alloc_new w (grO A B c d g)
  obtain ⟨W, hW⟩ : ∃ W, W = w.alloc (grO A B c d g) := ⟨_, rfl⟩
  rw [← hW] at hb0 hG
  obtain ⟨q0, q1⟩ := gb_cells hG
  have hM := Ws.made W w.heap.size g.ns.length hb0.size
  have hb1 := hb0.alloc hb0.size (.cells (madeCells #[.slice none 0 0] g.ns.length) 29)
  have hG1 := (blk_alloc_lt W (.cells (madeCells #[.slice none 0 0] g.ns.length) 29) _ (blk_lt hG)).trans hG
  have HE := Lib.hid hE
  clear hA hE
  go_enter Try.func34, Try.ntmps34
  go_upto_region 1 with (fail)
  rw [← hW]
  clear hW
  go_upto_region 2 with (fail)
  generalize W.alloc (.cells (madeCells #[.slice none 0 0] g.ns.length) 29) = W1 at *
  generalize W.heap.size = g0 at *
  clear q0 q1 hG hb0
  obtain ⟨q0, q1⟩ := gb_cells hG1
  clear hG1 hmk
  go_wp2_with fail
  clear q0 q1
  go_loopw [17] (fun s17 wr => ∃ k : Nat, s17 = .int .i64 k ∧ k ≤ g.es.length ∧ Ws wr w.heap.size g0 g.ns.length (Gr.row true (g.es.take k)) ∧ Below w.heap.size w wr) (fun s17 _ => g.es.length - (intOf s17).toNat)
  case atStart => exact ⟨0, rfl, by omega, hM, hb1⟩
  case round =>
    clear hM hb1
    obtain ⟨k, rfl, hk, hWs, hb⟩ := hrel
    by_cases hlt : k < g.es.length
    · have b1 : decide ((k : Int) < (g.es.length : Int)) = true := decide_eq_true (by omega)
      have b1n : decide (k < g.es.length) = true := decide_eq_true hlt
      have y2 : (k : Int) < (g.es.length : Int) := by omega
      obtain ⟨gb, o, rfl, hg, hc⟩ := HA.out.es k hlt
      have hd0 := (hb.cell (p := ⟨gb, o + k * 3, none⟩) hg).trans (hc 0 _ rfl)
      have hd1 := (hb.cell (p := ⟨gb, o + k * 3 + 1, none⟩) hg).trans (hc 1 _ rfl)
      have hd2 := (hb.cell (p := ⟨gb, o + k * 3 + 2, none⟩) hg).trans (hc 2 _ rfl)
      clear hc
      have hEk := HE.out g.es[k] (List.getElem_mem hlt)
      have HRW := Lib.hid (fun (i : Nat) (h : Gr.eA true g.es[k] = (i : Int)) (r : Nat) => (Gr.row_app true (g.es.take k) g.es[k] i h r))
      rw [← List.take_succ_eq_append_getElem hlt] at HRW
      generalize g.es[k] = x at *
      have hrl := fun i => Gr.row_len true (g.es.take k) i
      have htl : (g.es.take k).length = k := by rw [List.length_take]; omega
      have cc := forward_any x (wr.alloc (edO x))
      rw [edA_def] at cc
      have hba := hb.alloc hb.size (edO x)
      have hWa := hWs.same fun q hq => blk_alloc_lt wr (edO x) q hq
      clear hb hWs
      go_upto_region 5 with (fail)
      generalize hwa : wr.alloc (edO x) = wa at *
      have hxn := heap_alloc_new wr (edO x)
      rw [hwa] at hxn
      have e0 : wa.cell? ⟨wr.heap.size, 0, none⟩ = some (.int .i64 x.src) := by rw [cell_of_row _ _ _ _ _ _ hxn]; rfl
      have e1 : wa.cell? ⟨wr.heap.size, 1, none⟩ = some (.int .i64 x.dst) := by rw [cell_of_row _ _ _ _ _ _ hxn]; rfl
      have e2 : wa.cell? ⟨wr.heap.size, 2, none⟩ = some (.int .i64 x.stp) := by rw [cell_of_row _ _ _ _ _ _ hxn]; rfl
      clear hxn hd0 hd1 hd2
      go_wp2_with fail
      with_reducible refine cc.mono ?_
      clear cc
      rintro e w4 ⟨rfl, hb4⟩
      have hb04 := hba.trans (hb4.mono hba.size)
      have hW4 := hWa.next hb4
      clear hba hWa hb4 e0 e1 e2 hwa
      obtain ⟨i, hi⟩ : ∃ i : Nat, x.src = (i : Int) := ⟨x.src.toNat, by have h1 : 0 ≤ x.src := hEk.1; omega⟩
      have HR := Lib.hid (HRW.out i hi)
      have hin : i < g.ns.length := by have h1 : x.src < (g.ns.length : Int) := hEk.2; omega
      have y3 : (i : Int) < (g.ns.length : Int) := by omega
      rw [hi]
      clear hEk HRW hi
      have hrli := hrl i
      rw [htl] at hrli
      have hbA : Below w4.heap.size w4 (w4.alloc (.cells #[.int .i64 x.dst] 3)) := (Below.refl _ _).alloc (Nat.le_refl _) _
      have hW5 := hW4.next hbA
      have hg0 := hW4.lt
      obtain ⟨v, hcv, hov, hstep⟩ := hW5.take hin
      have hcv4 := (hbA.cell (p := ⟨g0, i, none⟩) hg0).symm.trans hcv
      have hb05 := hb04.alloc hb04.size (.cells #[.int .i64 x.dst] 3)
      have hlo := hW5.lo
      generalize hR : Gr.row true (g.es.take k) = R at *
      have HBB := Lib.hid (fun (w6 : World) (hg : (w4.alloc (.cells #[.int .i64 x.dst] 3)).grownBy w6 v.ownBlock) (u : Value) => ((below_grown hb05 hb05.size hov hg).setCell (p := ⟨g0, i, none⟩) hlo u))
      have HST := Lib.hid hstep
      have hsz5 := hb05.size
      clear hstep hbA hW4 hW5 hcv hb04 hb05 hrl htl hR hlo
      generalize hrn : (R i).length = rn at *
      go_wp2_with (at_builtin; refine wpList_append_lies _ (by rfl) _ _ 29 (by rfl) w.heap.size 3 i0 _ 1 8 Try.underlying29 hi0 hz0 hz1 hz2 rfl (by omega) v rn _ (by rfl) hov ⟨w4.heap.size, 0, none⟩ 1 1 [_] (by rfl) (by rfl) (World.news_of_block (cs := #[_]) (t := 3) (fr := (0, 0)) (heap_alloc_new w4 _)) (by simp [Value.oneCell']) (by omega) (by unfold maxLen; omega) (by omega) hsz5 _ rfl ?_; intro gg cap w6 hown6 hgrow hat hlt6; obtain ⟨c6, f6, hW6⟩ := HST.out gg cap w6 x.dst hown6 hgrow hat; have hb6 := HBB.out w6 hgrow (.slice (some ⟨gg, 0, none⟩) (rn + 1) cap); have HW6 := Lib.hid hW6; have HB6 := Lib.hid hb6; clear hW6 hb6 hgrow hat hown6)
      go_wp2_with fail
      go_roundw
      case rel => exact ⟨k + 1, by go_num, by omega, HW6.out.congr fun r hr => (HR.out r).symm, HB6.out⟩
      case measure => simp [intOf]; omega
    · have b1 : decide ((k : Int) < (g.es.length : Int)) = false := decide_eq_false (by omega)
      have b1n : decide (k < g.es.length) = false := decide_eq_false hlt
      have HW := Lib.hid (show Ws wr w.heap.size g0 g.ns.length (Gr.row true g.es) by rwa [List.take_of_length_le (by omega)] at hWs)
      have HB := Lib.hid hb
      clear hb hWs
      go_wp2_with fail
      go_ret
      exact ⟨g0, rfl, HW.out, HB.out⟩
set_option maxHeartbeats 8000000 in
set_option maxRecDepth 100000 in
theorem ways_backward (g : Gph) (A B : Option Addr) (c d : Nat) (w : World) (hA : GrAt w A B g) (hn : g.ns.length ≤ 1024) (he : g.es.length ≤ 1024) (hE : ∀ x ∈ g.es, 0 ≤ Gr.eA false x ∧ Gr.eA false x < (g.ns.length : Int)) :
    Calls Try.prog 34 #[grV A B c d g, .func (.func 33) #[] #[]] w fun e w' => ∃ g0, e = .returned (.slice (some ⟨g0, 0, none⟩) g.ns.length g.ns.length) ∧ Ws w' w.heap.size g0 g.ns.length (Gr.row false g.es) ∧ Below w.heap.size w w' := by
  obtain ⟨i0, hi0, hz0, hz1, hz2⟩ := info_parts infoIn
  obtain ⟨j0, hj0, hj1, hj2, hj3⟩ := info_parts infoIns
  have hmk : ∀ w' : World, (Instr.makeSlice 48 (.int .i64 (g.ns.length : Int)) (.int .i64 (g.ns.length : Int))).run Try.prog w' = .ok (.slice (some ⟨w'.heap.size, 0, none⟩) g.ns.length g.ns.length) (w'.alloc (.cells (madeCells #[.slice none 0 0] g.ns.length) 29)) := fun w' =>
    run_make_row (P := Try.prog) 48 29 j0 (.slice none 0 0) Try.underlying48 hj0 hj1 hj2 rfl .i64 .i64 g.ns.length (by rw [hj3]; omega) (by omega) w'
  have HA := Lib.hid hA
  have hb0 : Below w.heap.size w (w.alloc (grO A B c d g)) := (Below.refl _ _).alloc (Nat.le_refl _) _
  have hG := heap_alloc_new w (grO A B c d g)
  obtain ⟨W, hW⟩ : ∃ W, W = w.alloc (grO A B c d g) := ⟨_, rfl⟩
  rw [← hW] at hb0 hG
  obtain ⟨q0, q1⟩ := gb_cells hG
  have hM := Ws.made W w.heap.size g.ns.length hb0.size
  have hb1 := hb0.alloc hb0.size (.cells (madeCells #[.slice none 0 0] g.ns.length) 29)
  have hG1 := (blk_alloc_lt W (.cells (madeCells #[.slice none 0 0] g.ns.length) 29) _ (blk_lt hG)).trans hG
  have HE := Lib.hid hE
  clear hA hE
  go_enter Try.func34, Try.ntmps34
  go_upto_region 1 with (fail)
  rw [← hW]
  clear hW
  go_upto_region 2 with (fail)
  generalize W.alloc (.cells (madeCells #[.slice none 0 0] g.ns.length) 29) = W1 at *
  generalize W.heap.size = g0 at *
  clear q0 q1 hG hb0
  obtain ⟨q0, q1⟩ := gb_cells hG1
  clear hG1 hmk
  go_wp2_with fail
  clear q0 q1
  go_loopw [17] (fun s17 wr => ∃ k : Nat, s17 = .int .i64 k ∧ k ≤ g.es.length ∧ Ws wr w.heap.size g0 g.ns.length (Gr.row false (g.es.take k)) ∧ Below w.heap.size w wr) (fun s17 _ => g.es.length - (intOf s17).toNat)
  case atStart => exact ⟨0, rfl, by omega, hM, hb1⟩
  case round =>
    clear hM hb1
    obtain ⟨k, rfl, hk, hWs, hb⟩ := hrel
    by_cases hlt : k < g.es.length
    · have b1 : decide ((k : Int) < (g.es.length : Int)) = true := decide_eq_true (by omega)
      have b1n : decide (k < g.es.length) = true := decide_eq_true hlt
      have y2 : (k : Int) < (g.es.length : Int) := by omega
      obtain ⟨gb, o, rfl, hg, hc⟩ := HA.out.es k hlt
      have hd0 := (hb.cell (p := ⟨gb, o + k * 3, none⟩) hg).trans (hc 0 _ rfl)
      have hd1 := (hb.cell (p := ⟨gb, o + k * 3 + 1, none⟩) hg).trans (hc 1 _ rfl)
      have hd2 := (hb.cell (p := ⟨gb, o + k * 3 + 2, none⟩) hg).trans (hc 2 _ rfl)
      clear hc
      have hEk := HE.out g.es[k] (List.getElem_mem hlt)
      have HRW := Lib.hid (fun (i : Nat) (h : Gr.eA false g.es[k] = (i : Int)) (r : Nat) => (Gr.row_app false (g.es.take k) g.es[k] i h r))
      rw [← List.take_succ_eq_append_getElem hlt] at HRW
      generalize g.es[k] = x at *
      have hrl := fun i => Gr.row_len false (g.es.take k) i
      have htl : (g.es.take k).length = k := by rw [List.length_take]; omega
      have cc := backward_any x (wr.alloc (edO x))
      rw [edA_def] at cc
      have hba := hb.alloc hb.size (edO x)
      have hWa := hWs.same fun q hq => blk_alloc_lt wr (edO x) q hq
      clear hb hWs
      go_upto_region 5 with (fail)
      generalize hwa : wr.alloc (edO x) = wa at *
      have hxn := heap_alloc_new wr (edO x)
      rw [hwa] at hxn
      have e0 : wa.cell? ⟨wr.heap.size, 0, none⟩ = some (.int .i64 x.src) := by rw [cell_of_row _ _ _ _ _ _ hxn]; rfl
      have e1 : wa.cell? ⟨wr.heap.size, 1, none⟩ = some (.int .i64 x.dst) := by rw [cell_of_row _ _ _ _ _ _ hxn]; rfl
      have e2 : wa.cell? ⟨wr.heap.size, 2, none⟩ = some (.int .i64 x.stp) := by rw [cell_of_row _ _ _ _ _ _ hxn]; rfl
      clear hxn hd0 hd1 hd2
      go_wp2_with fail
      with_reducible refine cc.mono ?_
      clear cc
      rintro e w4 ⟨rfl, hb4⟩
      have hb04 := hba.trans (hb4.mono hba.size)
      have hW4 := hWa.next hb4
      clear hba hWa hb4 e0 e1 e2 hwa
      obtain ⟨i, hi⟩ : ∃ i : Nat, x.dst = (i : Int) := ⟨x.dst.toNat, by have h1 : 0 ≤ x.dst := hEk.1; omega⟩
      have HR := Lib.hid (HRW.out i hi)
      have hin : i < g.ns.length := by have h1 : x.dst < (g.ns.length : Int) := hEk.2; omega
      have y3 : (i : Int) < (g.ns.length : Int) := by omega
      rw [hi]
      clear hEk HRW hi
      have hrli := hrl i
      rw [htl] at hrli
      have hbA : Below w4.heap.size w4 (w4.alloc (.cells #[.int .i64 x.src] 3)) := (Below.refl _ _).alloc (Nat.le_refl _) _
      have hW5 := hW4.next hbA
      have hg0 := hW4.lt
      obtain ⟨v, hcv, hov, hstep⟩ := hW5.take hin
      have hcv4 := (hbA.cell (p := ⟨g0, i, none⟩) hg0).symm.trans hcv
      have hb05 := hb04.alloc hb04.size (.cells #[.int .i64 x.src] 3)
      have hlo := hW5.lo
      generalize hR : Gr.row false (g.es.take k) = R at *
      have HBB := Lib.hid (fun (w6 : World) (hg : (w4.alloc (.cells #[.int .i64 x.src] 3)).grownBy w6 v.ownBlock) (u : Value) => ((below_grown hb05 hb05.size hov hg).setCell (p := ⟨g0, i, none⟩) hlo u))
      have HST := Lib.hid hstep
      have hsz5 := hb05.size
      clear hstep hbA hW4 hW5 hcv hb04 hb05 hrl htl hR hlo
      generalize hrn : (R i).length = rn at *
      go_wp2_with (at_builtin; refine wpList_append_lies _ (by rfl) _ _ 29 (by rfl) w.heap.size 3 i0 _ 1 8 Try.underlying29 hi0 hz0 hz1 hz2 rfl (by omega) v rn _ (by rfl) hov ⟨w4.heap.size, 0, none⟩ 1 1 [_] (by rfl) (by rfl) (World.news_of_block (cs := #[_]) (t := 3) (fr := (0, 0)) (heap_alloc_new w4 _)) (by simp [Value.oneCell']) (by omega) (by unfold maxLen; omega) (by omega) hsz5 _ rfl ?_; intro gg cap w6 hown6 hgrow hat hlt6; obtain ⟨c6, f6, hW6⟩ := HST.out gg cap w6 x.src hown6 hgrow hat; have hb6 := HBB.out w6 hgrow (.slice (some ⟨gg, 0, none⟩) (rn + 1) cap); have HW6 := Lib.hid hW6; have HB6 := Lib.hid hb6; clear hW6 hb6 hgrow hat hown6)
      go_wp2_with fail
      go_roundw
      case rel => exact ⟨k + 1, by go_num, by omega, HW6.out.congr fun r hr => (HR.out r).symm, HB6.out⟩
      case measure => simp [intOf]; omega
    · have b1 : decide ((k : Int) < (g.es.length : Int)) = false := decide_eq_false (by omega)
      have b1n : decide (k < g.es.length) = false := decide_eq_false hlt
      have HW := Lib.hid (show Ws wr w.heap.size g0 g.ns.length (Gr.row false g.es) by rwa [List.take_of_length_le (by omega)] at hWs)
      have HB := Lib.hid hb
      clear hb hWs
      go_wp2_with fail
      go_ret
      exact ⟨g0, rfl, HW.out, HB.out⟩
end Go.Proofs.Ytdiaejdoglccoaa
