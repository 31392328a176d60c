/- Gates' closure. No condition but the lengths.
Gates. No condition but the lengths.
Order. No condition but the lengths.
Depths. No condition but the lengths. -/
import Derived.Test.YtjemffgidhgfjaaGreatDoorChn
import Derived.Deep.RegionHeld3
import Derived.Test.YtjemffgidhgfjaaGreatDoorEqi
section
namespace Go.Proofs.YtjemffgidhgfjaaGreatDoor
open Go.RowKit Go.Deep Tr

/-- One number where it lies. -/
theorem in_one {w : World} {g : Nat} {x : Int} (h : w.heap[g]? = some (.cells #[.int .i64 x] 3 (0, 0))) : Gr.InAt w w.heap.size (some ⟨g, 0, none⟩) [x] := fun j hj => by
  obtain rfl : j = 0 := by simpa using hj
  refine ⟨_, _, rfl, blk_lt h, fun i u hu => ?_⟩
  cases i with
  | zero =>
    simp only [List.getElem_cons_zero, Gr.inV, List.getElem?_cons_zero, Option.some.injEq] at hu
    subst hu
    rw [cell_of_row _ _ _ _ _ _ h]; rfl
  | succ i => simp [Gr.inV] at hu
/-- The variables of Gates' closure. -/
structure GaAt (w : World) (xb fb tb g0 n f t B0 : Nat) (R : Nat → List Int) : Prop where
  xv : w.heap[xb]? = some (.cells #[.slice (some ⟨g0, 0, none⟩) n n] 86 (0, 0))
  fv : w.heap[fb]? = some (.cells #[.int .i64 f] 3 (0, 0))
  tv : w.heap[tb]? = some (.cells #[.int .i64 t] 3 (0, 0))
  ws : Ws w B0 g0 n R
theorem GaAt.next {w w' : World} {xb fb tb g0 n f t B0 : Nat} {R : Nat → List Int} (h : GaAt w xb fb tb g0 n f t B0 R) (hb : Below w.heap.size w w') : GaAt w' xb fb tb g0 n f t B0 R :=
  ⟨(hb.block _ (blk_lt h.xv)).trans h.xv, (hb.block _ (blk_lt h.fv)).trans h.fv, (hb.block _ (blk_lt h.tv)).trans h.tv, h.ws.next hb⟩
set_option maxHeartbeats 8000000 in
set_option maxRecDepth 100000 in
theorem gat_any (m xb fb tb g0 n f t B0 : Nat) (R : Nat → List Int) (w : World) (h : GaAt w xb fb tb g0 n f t B0 R) (hn : n ≤ 1024) (hf : f < n) (ht : t < n) (hR : ∀ i, i < n → (R i).length ≤ 100000 ∧ ∀ x ∈ R i, ∃ b : Nat, x = (b : Int) ∧ b < n) :
    Calls Tryz.prog 66 #[.int .i64 m, .pointer (some ⟨xb, 0, none⟩), .pointer (some ⟨fb, 0, none⟩), .pointer (some ⟨tb, 0, none⟩)] w fun e w' => ∃ b, e = .returned (.bool b) ∧ (b = true ↔ ¬ ∃ k, Gr.Wk R [(f : Int)] (m : Int) k t) ∧ Below w.heap.size w w' := by
  have e0 : w.cell? ⟨xb, 0, none⟩ = some (.slice (some ⟨g0, 0, none⟩) n n) := by rw [cell_of_row _ _ _ _ _ _ h.xv]; rfl
  have e1 : w.cell? ⟨fb, 0, none⟩ = some (.int .i64 f) := by rw [cell_of_row _ _ _ _ _ _ h.fv]; rfl
  have e2 : w.cell? ⟨tb, 0, none⟩ = some (.int .i64 t) := by rw [cell_of_row _ _ _ _ _ _ h.tv]; rfl
  obtain ⟨W, hW⟩ : ∃ W, W = (w.alloc (.cells #[.int .i64 (f : Int)] 3)).drew := ⟨_, rfl⟩
  have hbA : Below w.heap.size w W := by rw [hW]; exact ((Below.refl _ _).alloc (Nat.le_refl _) _).drew
  have hnw : W.heap[w.heap.size]? = some (.cells #[.int .i64 (f : Int)] 3 (0, 0)) := by rw [hW]; exact heap_alloc_new w _
  have hA := h.next hbA
  have s00 : W.cell? ⟨xb, 0, none⟩ = some (.slice (some ⟨g0, 0, none⟩) n n) := by rw [cell_of_row _ _ _ _ _ _ hA.xv]; rfl
  have s01 : W.cell? ⟨fb, 0, none⟩ = some (.int .i64 f) := by rw [cell_of_row _ _ _ _ _ _ hA.fv]; rfl
  have s02 : W.cell? ⟨tb, 0, none⟩ = some (.int .i64 t) := by rw [cell_of_row _ _ _ _ _ _ hA.tv]; rfl
  have cl := lengths_any n g0 _ _ (some ⟨w.heap.size, 0, none⟩) [(f : Int)] 1 (m : Int) W hA.ws (in_one hnw) hn (by simp) (fun x hx => ⟨f, by simpa using hx, hf⟩) hR
  rw [List.length_singleton] at cl
  have s10 : (w.drew.alloc (.cells #[.int .i64 (f : Int)] 3)).cell? ⟨xb, 0, none⟩ = some (.slice (some ⟨g0, 0, none⟩) n n) := by rw [hW] at s00; exact s00
  have s11 : (w.drew.alloc (.cells #[.int .i64 (f : Int)] 3)).cell? ⟨fb, 0, none⟩ = some (.int .i64 f) := by rw [hW] at s01; exact s01
  have s12 : (w.drew.alloc (.cells #[.int .i64 (f : Int)] 3)).cell? ⟨tb, 0, none⟩ = some (.int .i64 t) := by rw [hW] at s02; exact s02
  have s20 : (w.alloc (.cells #[.int .i64 (f : Int)] 3)).cell? ⟨xb, 0, none⟩ = some (.slice (some ⟨g0, 0, none⟩) n n) := s10
  have s21 : (w.alloc (.cells #[.int .i64 (f : Int)] 3)).cell? ⟨fb, 0, none⟩ = some (.int .i64 f) := s11
  have s22 : (w.alloc (.cells #[.int .i64 (f : Int)] 3)).cell? ⟨tb, 0, none⟩ = some (.int .i64 t) := s12
  have HA := Lib.hid hA
  have HB := Lib.hid hbA
  have y1 : (t : Int) < (n : Int) := by omega
  clear h hA hnw hR hbA
  go_enter Tryz.func66, Tryz.ntmps66
  go_upto_region 1 with (fail)
  go_region_with (go_at_call 61; rw [← hW]; (with_reducible refine cl.mono ?_); rintro e w5 ⟨gl, rfl, L, hrl, hLab, _, _, hb5⟩; have hN5 := HA.out.next hb5; have s50 : w5.cell? ⟨xb, 0, none⟩ = some (.slice (some ⟨g0, 0, none⟩) n n) := (by rw [cell_of_row _ _ _ _ _ _ hN5.xv]; rfl); have s51 : w5.cell? ⟨fb, 0, none⟩ = some (.int .i64 f) := (by rw [cell_of_row _ _ _ _ _ _ hN5.fv]; rfl); have s52 : w5.cell? ⟨tb, 0, none⟩ = some (.int .i64 t) := (by rw [cell_of_row _ _ _ _ _ _ hN5.tv]; rfl); have c5 : w5.cell? ⟨gl, t, none⟩ = some (.int .i64 (L t)) := hrl.cell ht; have HQ := Lib.hid (show decide (L t < 0) = true ↔ ¬ ∃ k, Gr.Wk R [(f : Int)] (m : Int) k t from (by rw [← Gr.lab_iff hLab t, decide_eq_true_eq, decide_eq_true_eq]; omega)); have HB5 := Lib.hid (HB.out.trans (hb5.mono HB.out.size)); clear hb5 hN5 hLab hrl)
  all_goals
    generalize hd : decide (L t < 0) = b at *
    go_wp2_with fail
    go_ret
    exact ⟨b, by first | rfl | rw [hd], HQ.out, HB5.out⟩
theorem gatD_any (m xb fb tb g0 n f t B0 : Nat) (R : Nat → List Int) (w : World) (h : GaAt w xb fb tb g0 n f t B0 R) (hn : n ≤ 1024) (hf : f < n) (ht : t < n) (hR : ∀ i, i < n → (R i).length ≤ 100000 ∧ ∀ x ∈ R i, ∃ b : Nat, x = (b : Int) ∧ b < n) :
    Calls Tryz.prog 66 #[.int .i64 m, .pointer (some ⟨xb, 0, none⟩), .pointer (some ⟨fb, 0, none⟩), .pointer (some ⟨tb, 0, none⟩)] w fun e w' => e = .returned (.bool (@decide (¬ ∃ j, Gr.Wk R [(f : Int)] (m : Int) j t) (Classical.propDecidable _))) ∧ Below w.heap.size w w' := by
  refine (gat_any m xb fb tb g0 n f t B0 R w h hn hf ht hR).mono ?_
  rintro e w' ⟨b, rfl, hiff, hb⟩
  refine ⟨?_, hb⟩
  refine congrArg (fun x => Ending.returned (.bool x)) ?_
  rw [Bool.eq_iff_iff]
  exact hiff.trans (@decide_eq_true_iff _ (Classical.propDecidable _)).symm
set_option maxHeartbeats 8000000 in
set_option maxRecDepth 100000 in
theorem chooseGat_any (g : Gph) (A B : Option Addr) (c d : Nat) (xb fb tb g0 f t B0 : Nat) (R : Nat → List Int) (w : World) (hn : g.ns.length ≤ 1024) (hG1 : GaAt w xb fb tb g0 g.ns.length f t B0 R) (hf : f < g.ns.length) (ht : t < g.ns.length) (hR : ∀ i, i < g.ns.length → (R i).length ≤ 100000 ∧ ∀ x ∈ R i, ∃ b : Nat, x = (b : Int) ∧ b < g.ns.length) :
    Calls Tryz.prog 65 #[grV A B c d g, .func (.func 66) #[] #[.pointer (some ⟨xb, 0, none⟩), .pointer (some ⟨fb, 0, none⟩), .pointer (some ⟨tb, 0, none⟩)]] w (GotIn w (Gr.chs (fun m => @decide (¬ ∃ j, Gr.Wk R [(f : Int)] (m : Int) j t) (Classical.propDecidable _)) g.ns.length)) := by
  obtain ⟨i0, hi0, hz0, hz1, hz2⟩ := info_parts infoIn
  have HGa := Lib.hid hG1
  have HRR := Lib.hid hR
  clear hG1 hR
  have hb0 : Below w.heap.size w (w.alloc (grO A B c d g)) := (Below.refl _ _).alloc (Nat.le_refl _) _
  have hG := heap_alloc_new w (grO A B c d g)
  obtain ⟨W, hW⟩ : ∃ W, W = w.alloc (grO A B c d g) := ⟨_, rfl⟩
  rw [← hW] at hb0 hG
  obtain ⟨q0, q1⟩ := gb_cells hG
  go_enter Tryz.func65, Tryz.ntmps65
  go_upto_region 2 with (fail)
  rw [← hW]
  clear hW
  go_wp2_with fail
  clear q0 q1 hG
  go_loopw [5, 10] (fun s5 s10 wr => ∃ k : Nat, s10 = .int .i64 k ∧ k ≤ g.ns.length ∧ wr.ownsRow w.heap.size 3 1 s5 (Gr.chs (fun m => @decide (¬ ∃ j, Gr.Wk R [(f : Int)] (m : Int) j t) (Classical.propDecidable _)) k).length (Gr.insV (Gr.chs (fun m => @decide (¬ ∃ j, Gr.Wk R [(f : Int)] (m : Int) j t) (Classical.propDecidable _)) k)) ∧ Below w.heap.size w wr) (fun _ s10 _ => g.ns.length - (intOf s10).toNat)
  case atStart => exact ⟨0, rfl, by omega, World.ownsRow_nil _ _ _ _, hb0⟩
  case round =>
    clear hb0
    obtain ⟨k, rfl, hk, hown, hb⟩ := hrel
    have hcl := Gr.chs_len (fun m => @decide (¬ ∃ j, Gr.Wk R [(f : Int)] (m : Int) j t) (Classical.propDecidable _)) k
    by_cases hlt : k < g.ns.length
    · have b1 : decide ((k : Int) < (g.ns.length : Int)) = true := decide_eq_true (by omega)
      have b1n : decide (k < g.ns.length) = true := decide_eq_true hlt
      have cc := gatD_any k xb fb tb g0 g.ns.length f t B0 R wr (HGa.out.next hb) hn hf ht HRR.out
      have HT := Lib.hid (Gr.chs_succ (fun m => @decide (¬ ∃ j, Gr.Wk R [(f : Int)] (m : Int) j t) (Classical.propDecidable _)) k)
      generalize hv : (@decide (¬ ∃ j, Gr.Wk R [(f : Int)] (k : Int) j t) (Classical.propDecidable _) : Bool) = v at *
      generalize Gr.chs (fun m => @decide (¬ ∃ j, Gr.Wk R [(f : Int)] (m : Int) j t) (Classical.propDecidable _)) k = T at *
      cases v with
      | false =>
        have HT' := Lib.hid (show Gr.chs (fun m => @decide (¬ ∃ j, Gr.Wk R [(f : Int)] (m : Int) j t) (Classical.propDecidable _)) (k + 1) = T from HT.out)
        clear HT hv
        go_wp2_with fail
        with_reducible refine cc.mono ?_
        clear cc
        rintro e w4 ⟨rfl, hb4⟩
        have HO := Lib.hid (own_below hown hb4)
        have HB := Lib.hid (hb.trans (hb4.mono hb.size))
        clear hown hb hb4
        go_wp2_with fail
        go_roundw
        case rel => exact ⟨k + 1, by go_num, by omega, by rw [HT'.out]; exact HO.out, HB.out⟩
        case measure => simp [intOf]; omega
      | true =>
        have HT' := Lib.hid (show Gr.chs (fun m => @decide (¬ ∃ j, Gr.Wk R [(f : Int)] (m : Int) j t) (Classical.propDecidable _)) (k + 1) = T ++ [(k : Int)] from HT.out)
        clear HT hv
        go_wp2_with fail
        with_reducible refine cc.mono ?_
        clear cc
        rintro e w4 ⟨rfl, hb4⟩
        have hown4 := own_below hown hb4
        have hb04 := hb.trans (hb4.mono hb.size)
        clear hown hb hb4
        have hsz := hb04.size
        go_wp2_with (at_builtin; refine wpList_append_own_wide _ (by rfl) _ _ 38 (by rfl) w.heap.size 3 i0 _ 1 8 Tryz.underlying38 hi0 hz0 hz1 hz2 rfl (by omega) _ T.length _ (by rfl) (hown4.alloc _) ⟨w4.heap.size, 0, none⟩ 1 1 [_] (by rfl) (by rfl) (World.news_of_block (cs := #[_]) (t := 3) (fr := (0, 0)) (heap_alloc_new w4 _)) (by simp [Value.oneCell']) (by unfold maxLen; omega) (by omega) (by simp; omega) ?_; intro v6 w6 hown6 hgrow6 _)
        have HO := Lib.hid hown6
        have HB := Lib.hid (below_grown (hb04.alloc hsz _) (by simp; omega) (hown4.alloc _) hgrow6)
        clear hown6 hgrow6 hown4 hb04
        go_wp2_with fail
        go_roundw
        case rel => exact ⟨k + 1, by go_num, by omega, by rw [HT'.out, List.length_append, List.length_singleton, Gr.insV_app, Gr.insV_one]; exact HO.out, HB.out⟩
        case measure => simp [intOf]; omega
    · have b1 : decide ((k : Int) < (g.ns.length : Int)) = false := decide_eq_false (by omega)
      have b1n : decide (k < g.ns.length) = false := decide_eq_false hlt
      have hkn : k = g.ns.length := by omega
      have HO := Lib.hid hown
      have HB := Lib.hid hb
      have HK := Lib.hid hkn
      clear hown hb hkn
      go_wp2_with fail
      go_ret
      exact ⟨_, rfl, by rw [← HK.out]; exact HO.out, HB.out⟩
end Go.Proofs.YtjemffgidhgfjaaGreatDoor
end
section
namespace Go.Proofs.YtjemffgidhgfjaaGreatDoor
open Go.RowKit Go.Deep Tr

namespace Gr
/-- There is a chain between two nodes of a valid graph. -/
def Led (g : Gph) (f t : Int) : Prop := chk g = 0 ∧ isN g f = true ∧ isN g t = true ∧ ∃ k, Wk (row false g.es) [t] (-1) k f.toNat
theorem chn_ok {g : Gph} {f t : Int} {l : List Int} (h : Chn g f t l true) : Led g f t := by
  unfold Chn at h
  by_cases hc : chk g = 0 ∧ isN g f = true ∧ isN g t = true
  · rw [if_pos hc] at h
    obtain ⟨L, hL, h⟩ := h
    by_cases h0 : 0 ≤ L f.toNat
    · exact ⟨hc.1, hc.2.1, hc.2.2, _, hL.snd _ h0⟩
    · rw [if_neg h0] at h; cases h.1
  · rw [if_neg hc] at h; cases h.1
theorem chn_no {g : Gph} {f t : Int} {l : List Int} (h : Chn g f t l false) : ¬ Led g f t := by
  rintro ⟨h1, h2, h3, k, hk⟩
  unfold Chn at h
  rw [if_pos ⟨h1, h2, h3⟩] at h
  obtain ⟨L, hL, h⟩ := h
  rw [if_pos (hL.all k _ hk).1] at h
  cases h.1
/-- What Gates finds. -/
def Gts (g : Gph) (f t : Int) (l : List Int) : Prop := (Led g f t → ∃ p : Nat → Bool, (∀ m, p m = true ↔ ¬ ∃ k, Wk (row true g.es) [f] (m : Int) k t.toNat) ∧ l = chs p g.ns.length) ∧ (¬ Led g f t → l = [])
theorem isN_lt {g : Gph} {a : Int} (h : isN g a = true) : 0 ≤ a ∧ a < (g.ns.length : Int) := by
  unfold isN at h
  rwa [Bool.and_eq_true, decide_eq_true_eq, decide_eq_true_eq] at h
end Gr
def GotG (w : World) (g : Gph) (f t : Int) : Ending → World → Prop := fun e w' => ∃ v, e = .returned v ∧ ∃ l, Gr.Gts g f t l ∧ w'.ownsRow w.heap.size 3 1 v l.length (Gr.insV l) ∧ Below w.heap.size w w'
set_option maxHeartbeats 16000000 in
set_option maxRecDepth 100000 in
theorem gates_any (g : Gph) (f t : Int) (A B : Option Addr) (c d : Nat) (w : World) (hA : GrAt w A B g) :
    Calls Tryz.prog 26 #[grV A B c d g, .int .i64 f, .int .i64 t] w (GotG w g f t) := by
  obtain ⟨W, hW⟩ : ∃ W, W = ((w.alloc (grO A B c d g)).alloc (.cells #[.int .i64 f] 3)).alloc (.cells #[.int .i64 t] 3) := ⟨_, rfl⟩
  have hb0 : Below w.heap.size w W := by rw [hW]; exact (((Below.refl _ _).alloc (Nat.le_refl _) _).alloc (by simp) _).alloc (by simp; omega) _
  have hG : W.heap[w.heap.size]? = some (grO A B c d g) := by
    rw [hW]
    exact (blk_alloc_lt _ _ _ (by simp; omega)).trans ((blk_alloc_lt _ _ _ (by simp)).trans (heap_alloc_new w _))
  have hF : W.heap[w.heap.size + 1]? = some (.cells #[.int .i64 f] 3 (0, 0)) := by
    have h := heap_alloc_new (w.alloc (grO A B c d g)) (.cells #[.int .i64 f] 3)
    rw [show (w.alloc (grO A B c d g)).heap.size = w.heap.size + 1 by simp] at h
    rw [hW]
    exact (blk_alloc_lt _ _ _ (by simp)).trans h
  have hT : W.heap[w.heap.size + 2]? = some (.cells #[.int .i64 t] 3 (0, 0)) := by
    have h := heap_alloc_new ((w.alloc (grO A B c d g)).alloc (.cells #[.int .i64 f] 3)) (.cells #[.int .i64 t] 3)
    rw [show ((w.alloc (grO A B c d g)).alloc (.cells #[.int .i64 f] 3)).heap.size = w.heap.size + 2 by simp] at h
    rw [hW]
    exact h
  obtain ⟨q0, q1⟩ := gb_cells hG
  have qf : W.cell? ⟨w.heap.size + 1, 0, none⟩ = some (.int .i64 f) := by rw [cell_of_row _ _ _ _ _ _ hF]; rfl
  have qt : W.cell? ⟨w.heap.size + 2, 0, none⟩ = some (.int .i64 t) := by rw [cell_of_row _ _ _ _ _ _ hT]; rfl
  have HA := Lib.hid hA
  have cc := chain_any g f t A B c d W (hA.next hb0)
  clear hA
  go_enter Tryz.func26, Tryz.ntmps26
  go_upto_region 1 with (fail)
  rw [← hW]
  clear hW
  go_wp2_with fail
  with_reducible refine cc.mono ?_
  clear cc
  rintro e w1 ⟨v1, ok, rfl, l1, hC, _, hb1⟩
  have hG1 := (hb1.block _ (blk_lt hG)).trans hG
  have hF1 := (hb1.block _ (blk_lt hF)).trans hF
  have hT1 := (hb1.block _ (blk_lt hT)).trans hT
  have hb01 := hb0.trans (hb1.mono hb0.size)
  clear hb1 hb0 hG hF hT q0 q1 qf qt
  cases ok with
  | false =>
    have HR := Lib.hid (show Gr.Gts g f t [] from ⟨fun h => absurd h (Gr.chn_no hC), fun _ => rfl⟩)
    clear hC hG1 hF1 hT1
    go_wp2_with fail
    first | go_ret3 | go_ret2 | go_ret
    exact ⟨_, rfl, [], HR.out, World.ownsRow_nil _ _ _ _, hb01⟩
  | true =>
  have hLed := Gr.chn_ok hC
  have HOk := Lib.hid (Gr.chk_ok hLed.1)
  have h1 := Gr.isN_lt hLed.2.1
  have h2 := Gr.isN_lt hLed.2.2.1
  have HLed := Lib.hid hLed
  clear hC hLed
  obtain ⟨fn, rfl⟩ : ∃ n : Nat, f = (n : Int) := ⟨f.toNat, by omega⟩
  obtain ⟨tn, rfl⟩ : ∃ n : Nat, t = (n : Int) := ⟨t.toNat, by omega⟩
  have hfl : fn < g.ns.length := by omega
  have htl : tn < g.ns.length := by omega
  clear h1 h2
  have cw := ways_forward g A B c d w1 (HA.out.next hb01) HOk.out.nl HOk.out.el (HOk.out.ed true)
  obtain ⟨q0, q1⟩ := gb_cells hG1
  go_wp2_with fail
  with_reducible refine cw.mono ?_
  clear cw
  rintro e w3 ⟨g0, rfl, hWs, hb3⟩
  have hG3 := (hb3.block _ (blk_lt hG1)).trans hG1
  have hF3 := (hb3.block _ (blk_lt hF1)).trans hF1
  have hT3 := (hb3.block _ (blk_lt hT1)).trans hT1
  have hb03 := hb01.trans (hb3.mono hb01.size)
  clear hb3 hb01 hG1 hF1 hT1 q0 q1
  have hb4 : Below w3.heap.size w3 (w3.alloc (.cells #[.slice (some ⟨g0, 0, none⟩) g.ns.length g.ns.length] 86)) := (Below.refl _ _).alloc (Nat.le_refl _) _
  have hX := heap_alloc_new w3 (.cells #[.slice (some ⟨g0, 0, none⟩) g.ns.length g.ns.length] 86)
  have hG4 := (hb4.block _ (blk_lt hG3)).trans hG3
  have hb04 := hb03.trans (hb4.mono hb03.size)
  have ch := chooseGat_any g A B c d w3.heap.size (w.heap.size + 1) (w.heap.size + 2) g0 fn tn _ _ (w3.alloc (.cells #[.slice (some ⟨g0, 0, none⟩) g.ns.length g.ns.length] 86)) HOk.out.nl ⟨hX, (hb4.block _ (blk_lt hF3)).trans hF3, (hb4.block _ (blk_lt hT3)).trans hT3, hWs.next hb4⟩ hfl htl (HOk.out.rows true)
  obtain ⟨q0, q1⟩ := gb_cells hG4
  clear hb4 hX hG3 hF3 hT3 hWs hb03
  go_wp2_with fail
  with_reducible refine ch.mono ?_
  clear ch
  rintro e w6 ⟨v, rfl, hown, hb6⟩
  have HO := Lib.hid (own_mono hown hb04.size)
  have HB := Lib.hid (hb04.trans (hb6.mono hb04.size))
  have HR := Lib.hid (show Gr.Gts g (fn : Int) (tn : Int) _ from ⟨fun _ => ⟨_, fun m => by rw [Int.toNat_natCast]; exact @decide_eq_true_iff _ (Classical.propDecidable _), rfl⟩, fun h => absurd HLed.out h⟩)
  clear hown hb6 hb04 hG4 q0 q1
  go_wp2_with fail
  first | go_ret3 | go_ret2 | go_ret
  exact ⟨_, rfl, _, HR.out, HO.out, HB.out⟩
end Go.Proofs.YtjemffgidhgfjaaGreatDoor
end
section
namespace Go.Proofs.YtjemffgidhgfjaaGreatDoor
open Go.RowKit Go.Deep Tr

namespace Gr
def nats (o : List Nat) : List Int := o.map fun n : Nat => (n : Int)
theorem nats_len (o : List Nat) : (nats o).length = o.length := List.length_map ..
theorem nats_app (o : List Nat) (n : Nat) : nats (o ++ [n]) = nats o ++ [(n : Int)] := by unfold nats; rw [List.map_append]; rfl
/-- What Order finds. -/
def Odr (g : Gph) (l : List Int) (e : Int) : Prop :=
  if chk g = 0 then (∀ o, kahn g.es g.ns.length g.ns.length [] = some o → l = nats o ∧ e = 0) ∧ (kahn g.es g.ns.length g.ns.length [] = none → l = [] ∧ e = 12) else l = [] ∧ e = 1
theorem find_none {E : List Ed} {N : Nat} {o : List Nat} (h : (List.range N).find? (rdy E o) = none) : ∀ m, m < N → rdy E o m = false := fun m hm => by
  rw [List.find?_eq_none] at h
  simpa using h m (List.mem_range.2 hm)
theorem find_some {E : List Ed} {N n : Nat} {o : List Nat} (h : (List.range N).find? (rdy E o) = some n) : n < N ∧ rdy E o n = true ∧ ∀ m, m < n → rdy E o m = false := by
  rw [List.find?_range_eq_some] at h
  exact ⟨by simpa using h.2.1, h.1, fun m hm => by simpa using h.2.2 m hm⟩
end Gr
/-- Two results: a list and an error. -/
def GotO (w : World) (Q : List Int → Int → Prop) : Ending → World → Prop := fun e w' => ∃ v ec, e = .returned (.tuple #[v, .int .i64 ec]) ∧ ∃ l, Q l ec ∧ w'.ownsRow w.heap.size 3 1 v l.length (Gr.insV l) ∧ Below w.heap.size w w'
set_option maxHeartbeats 16000000 in
set_option maxRecDepth 100000 in
theorem order_any (g : Gph) (A B : Option Addr) (c d : Nat) (w : World) (hA : GrAt w A B g) :
    Calls Tryz.prog 14 #[grV A B c d g] w (GotO w (Gr.Odr g)) := by
  obtain ⟨i0, hi0, hz0, hz1, hz2⟩ := info_parts infoIn
  have hb0 : Below w.heap.size w (w.alloc (grO A B c d g)) := (Below.refl _ _).alloc (Nat.le_refl _) _
  have hG := heap_alloc_new w (grO A B c d g)
  obtain ⟨W, hW⟩ : ∃ W, W = w.alloc (grO A B c d g) := ⟨_, rfl⟩
  rw [← hW] at hb0 hG
  obtain ⟨q0, q1⟩ := gb_cells hG
  have HA := Lib.hid hA
  have c1 := check_any g A B c d W (hA.next hb0)
  have HC := Lib.hid (fun (h : Gr.chk g = 0) => Gr.chk_ok h)
  have HN := Lib.hid (show ¬ Gr.chk g = 0 → Gr.Odr g [] 1 from fun h => by unfold Gr.Odr; rw [if_neg h]; exact ⟨rfl, rfl⟩)
  have HL := Lib.hid (show Gr.chk g = 0 → Gr.kahn g.es g.ns.length g.ns.length [] = none → Gr.Odr g [] 12 from fun h h2 => by unfold Gr.Odr; rw [if_pos h]; exact ⟨fun o ho => (by rw [h2] at ho; cases ho), fun _ => ⟨rfl, rfl⟩⟩)
  have HY := Lib.hid (show Gr.chk g = 0 → ∀ o, Gr.kahn g.es g.ns.length g.ns.length [] = some o → Gr.Odr g (Gr.nats o) 0 from fun h o h2 => by unfold Gr.Odr; rw [if_pos h]; exact ⟨fun o' ho => by rw [h2] at ho; injection ho with ho; subst ho; exact ⟨rfl, rfl⟩, fun hn => by rw [h2] at hn; cases hn⟩)
  clear hA
  go_enter Tryz.func14, Tryz.ntmps14
  go_upto_region 1 with (fail)
  rw [← hW]
  clear hW
  generalize Gr.chk g = z at *
  go_wp2_with fail
  with_reducible refine c1.mono ?_
  clear c1
  rintro e w1 ⟨rfl, hb1⟩
  have hG1 := (hb1.block w.heap.size (blk_lt hG)).trans hG
  have hb01 := hb0.trans (hb1.mono hb0.size)
  clear hb1 hb0 hG q0 q1
  by_cases hz : z = 0
  case neg =>
    have z1 : (z != 0) = true := by rw [bne_iff_ne]; exact hz
    have z2 : (z == 0) = false := by rw [beq_eq_false_iff_ne]; exact hz
    have HT := Lib.hid (HN.out hz)
    clear HN HC HY HL hz hG1
    go_wp2_with fail
    first | go_ret3 | go_ret2 | go_ret
    exact ⟨_, _, rfl, [], HT.out, World.ownsRow_nil _ _ _ _, hb01⟩
  have z1 : (z != 0) = false := by rw [hz]; rfl
  have z2 : (z == 0) = true := by rw [hz]; rfl
  have HOk := Lib.hid (HC.out hz)
  have HL2 := Lib.hid (HL.out hz)
  have HY2 := Lib.hid (HY.out hz)
  obtain ⟨q0, q1⟩ := gb_cells hG1
  have cw := ways_forward g A B c d w1 (HA.out.next hb01) HOk.out.nl HOk.out.el (HOk.out.ed true)
  clear HN HC HY HL hz
  go_wp2_with fail
  with_reducible refine cw.mono ?_
  clear cw
  rintro e w3 ⟨g0, rfl, hWs, hb3⟩
  have hG3 := (hb3.block w.heap.size (blk_lt hG1)).trans hG1
  have hb03 := hb01.trans (hb3.mono hb01.size)
  clear hb3 hb01 hG1 q0 q1
  have hnl := HOk.out.nl
  have hel := HOk.out.el
  have hmk : ∀ w' : World, (Instr.makeSlice 38 (.int .i64 (g.ns.length : Int)) (.int .i64 (g.ns.length : Int))).run Tryz.prog w' = .ok (.slice (some ⟨w'.heap.size, 0, none⟩) g.ns.length g.ns.length) (w'.alloc (.cells (madeCells #[.int .i64 0] g.ns.length) 3)) := fun w' =>
    run_make_row (P := Tryz.prog) 38 3 i0 (.int .i64 0) Tryz.underlying38 hi0 hz0 hz1 rfl .i64 .i64 g.ns.length (by rw [hz2]; omega) (by omega) w'
  have hr4 := World.rowIs_made w3 (.int .i64 0) g.ns.length 3
  have hb4 : Below w3.heap.size w3 (w3.alloc (.cells (madeCells #[.int .i64 0] g.ns.length) 3)) := (Below.refl _ _).alloc (Nat.le_refl _) _
  have hG4 := (hb4.block _ (blk_lt hG3)).trans hG3
  obtain ⟨q0, q1⟩ := gb_cells hG3
  go_upto_region 5 with (fail)
  generalize w3.alloc (.cells (madeCells #[.int .i64 0] g.ns.length) 3) = w4 at *
  obtain ⟨gw, hgw⟩ : ∃ x, x = w3.heap.size := ⟨_, rfl⟩
  rw [← hgw] at hr4 hb4 ⊢
  have HGW := Lib.hid hgw
  have HWs := Lib.hid hWs
  have HB03 := Lib.hid hb03
  have HG3 := Lib.hid hG3
  clear hgw hmk q0 q1 hWs hb03 hG3
  obtain ⟨q0, q1⟩ := gb_cells hG4
  clear hG4
  go_wp2_with fail
  clear q0 q1
  go_loopw [24] (fun s24 wr => ∃ k : Nat, s24 = .int .i64 k ∧ k ≤ g.es.length ∧ wr.rowIs gw 3 g.ns.length (fun m => .int .i64 (Gr.cnt (g.es.take k) [] m : Int)) ∧ Below gw w3 wr) (fun s24 _ => g.es.length - (intOf s24).toNat)
  case atStart => exact ⟨0, rfl, by omega, hr4, hb4⟩
  case round =>
    clear hr4 hb4
    obtain ⟨k, rfl, hk, hrow, hb⟩ := hrel
    have hbw : Below w.heap.size w wr := HB03.out.trans ((show Below w3.heap.size w3 wr by rw [← HGW.out]; exact hb).mono HB03.out.size)
    by_cases hlt : k < g.es.length
    · have b1 : decide ((k : Int) < (g.es.length : Int)) = true := decide_eq_true (by omega)
      have b1n : decide (k < g.es.length) = true := decide_eq_true hlt
      have y2 : (k : Int) < (g.es.length : Int) := by omega
      obtain ⟨gb, oo, rfl, hg, hc⟩ := HA.out.es k hlt
      have hd0 := (hbw.cell (p := ⟨gb, oo + k * 3, none⟩) hg).trans (hc 0 _ rfl)
      have hd1 := (hbw.cell (p := ⟨gb, oo + k * 3 + 1, none⟩) hg).trans (hc 1 _ rfl)
      have hd2 := (hbw.cell (p := ⟨gb, oo + k * 3 + 2, none⟩) hg).trans (hc 2 _ rfl)
      have hdst := HOk.out.ed false g.es[k] (List.getElem_mem hlt)
      have hca := fun m => Gr.cnt_app (g.es.take k) g.es[k] [] m
      rw [← List.take_succ_eq_append_getElem hlt] at hca
      have hcl := fun m => Nat.le_trans (Gr.cnt_le (g.es.take k) [] m) (show (g.es.take k).length ≤ 1024 by rw [List.length_take]; omega)
      have hd1' : g.es[k].dst = Gr.eA false g.es[k] := rfl
      obtain ⟨i, hi⟩ : ∃ i : Nat, g.es[k].dst = (i : Int) := ⟨g.es[k].dst.toNat, by omega⟩
      have hin : i < g.ns.length := by omega
      have HCA := Lib.hid (show ∀ m, Gr.cnt (g.es.take (k + 1)) [] m = if m = i then Gr.cnt (g.es.take k) [] i + 1 else Gr.cnt (g.es.take k) [] m from fun m => by
        rw [hca m, hi]
        by_cases e : m = i
        · rw [if_pos e, if_pos (by simp [e]), e]
        · rw [if_neg e, if_neg (by simp; omega)]; rfl)
      have HG := Lib.hid hg
      clear hc hca hdst hg hd1'
      generalize g.es[k] = x at *
      obtain ⟨xs, xd, xp⟩ := x
      dsimp only [] at hi
      subst hi
      generalize Gr.cnt (g.es.take k) [] = C at *
      have hcli := hcl i
      have hwr : IntKind.i64.wrap ((C i : Int) + 1) = (C i : Int) + 1 := IntWalk.i64_in _ (by omega)
      have y3 : (i : Int) < (g.ns.length : Int) := by omega
      have hra := hrow.alloc (edO ⟨xs, (i : Int), xp⟩)
      have hba := hb.alloc (show gw ≤ wr.heap.size by rw [HGW.out]; exact hb.size) (edO ⟨xs, (i : Int), xp⟩)
      clear hcl hbw
      go_upto_region 8 with (fail)
      have hxn := heap_alloc_new wr (edO ⟨xs, (i : Int), xp⟩)
      have e0 : (wr.alloc (edO ⟨xs, (i : Int), xp⟩)).cell? ⟨wr.heap.size, 1, none⟩ = some (.int .i64 i) := by rw [cell_of_row _ _ _ _ _ _ hxn]; rfl
      dsimp only [edO] at hra hba e0 ⊢
      generalize wr.alloc (.cells #[.int .i64 xs, .int .i64 (i : Int), .int .i64 xp] 56) = wa at *
      have e1 : wa.cell? ⟨gw, i, none⟩ = some (.int .i64 (C i : Int)) := hra.cell hin
      have e2 := hra.frozen i
      have HS := Lib.hid (hra.set i (.int .i64 ((C i : Int) + 1)))
      have HB := Lib.hid (hba.setCell (p := ⟨gw, i, none⟩) (Nat.le_refl _) (.int .i64 ((C i : Int) + 1)))
      clear hxn hra hba hrow hb hd0 hd1 hd2
      go_wp2_with fail
      go_roundw
      case rel => exact ⟨k + 1, by go_num, by omega, HS.out.congr fun m hm => by
        rw [HCA.out m]
        by_cases e : m = i
        · rw [if_pos e, if_pos e]; rfl
        · rw [if_neg e, if_neg e], HB.out⟩
      case measure => simp [intOf]; omega
    · have b1 : decide ((k : Int) < (g.es.length : Int)) = false := decide_eq_false (by omega)
      have b1n : decide (k < g.es.length) = false := decide_eq_false hlt
      rw [List.take_of_length_le (by omega)] at hrow
      have hG5 := (hb.block w.heap.size (by rw [HGW.out]; exact blk_lt HG3.out)).trans HG3.out
      obtain ⟨q0, q1⟩ := gb_cells hG5
      obtain ⟨Bc, hBc⟩ : ∃ x, x = wr.heap.size := ⟨_, rfl⟩
      have HBc := Lib.hid (show gw < Bc ∧ wr.heap.size = Bc ∧ w.heap.size ≤ gw from ⟨by rw [hBc]; exact hrow.lt, hBc.symm, by rw [HGW.out]; exact HB03.out.size⟩)
      clear hBc hG5 hbw
      obtain ⟨w5, rfl⟩ : ∃ x : World, x = wr := ⟨_, rfl⟩
      go_wp2_with fail
      clear q0 q1
      go_loopw [8, 39] (fun s8 s39 wr => ∃ (k : Nat) (o : List Nat) (V : Nat → Int), s39 = .int .i64 k ∧ k ≤ g.ns.length ∧ o.length = k ∧ Gr.kahn g.es g.ns.length g.ns.length [] = Gr.kahn g.es g.ns.length (g.ns.length - k) o ∧ Gr.Wts g.es g.ns.length o V ∧ wr.rowIs gw 3 g.ns.length (fun m => .int .i64 (V m)) ∧ wr.ownsRow Bc 3 1 s8 o.length (Gr.insV (Gr.nats o)) ∧ Below gw w3 wr ∧ Bc ≤ wr.heap.size) (fun _ s39 _ => g.ns.length - (intOf s39).toNat)
      case atStart => exact ⟨0, [], _, rfl, by omega, rfl, by rw [Nat.sub_zero], Gr.Wts.init, hrow, World.ownsRow_nil _ _ _ _, hb, by rw [HBc.out.2.1]; exact Nat.le_refl _⟩
      case round =>
        clear hrow hb
        obtain ⟨k, o, V, rfl, hk, hol, hka, hWt, hrow, hown, hb, hsz⟩ := hrel
        by_cases hlt : k < g.ns.length
        · have b2 : decide ((k : Int) < (g.ns.length : Int)) = true := decide_eq_true (by omega)
          have b2n : decide (k < g.ns.length) = true := decide_eq_true hlt
          have hks : Gr.kahn g.es g.ns.length (g.ns.length - k) o = Gr.kahn g.es g.ns.length ((g.ns.length - (k + 1)) + 1) o := by rw [show g.ns.length - k = g.ns.length - (k + 1) + 1 by omega]
          rcases hf : (List.range g.ns.length).find? (Gr.rdy g.es o) with _ | m
          · have hno := Gr.find_none hf
            have ci := indexMiss_any g.ns.length gw V wr hrow (by omega) (fun j hj hv => by
              have := (hWt.zero hj).1 hv
              rw [hno j hj] at this; cases this)
            have HR := Lib.hid (HL2.out (hka.trans (hks.trans (Gr.kahn_none hno))))
            have HB := Lib.hid (HB03.out.trans ((show Below w3.heap.size w3 wr by rw [← HGW.out]; exact hb).mono HB03.out.size))
            clear hf hno hks hka hWt hrow hown hb hol hsz
            go_wp2_with fail
            with_reducible refine ci.mono ?_
            clear ci
            rintro e w9 ⟨rfl, rfl⟩
            go_wp2_with fail
            first | go_ret3 | go_ret2 | go_ret
            exact ⟨_, _, rfl, [], HR.out, World.ownsRow_nil _ _ _ _, HB.out⟩
          · obtain ⟨hm, hrd, hfst⟩ := Gr.find_some hf
            have ci := indexHit_any g.ns.length gw m V wr hrow (by omega) hm ((hWt.zero hm).2 hrd) (fun j hj hv => by
              have := (hWt.zero (by omega)).1 hv
              rw [hfst j hj] at this; cases this)
            have HKA := Lib.hid (hka.trans (hks.trans (Gr.kahn_some hm hrd hfst)))
            have HTK := Lib.hid (fun i (hi : i < g.ns.length) => hWt.taken (n := m) hi)
            have HDN := Lib.hid (fun j (hj : ¬ j < (Gr.row true g.es m).length) => hWt.done hm hrd (fun x hx => (HOk.out.ed true x hx).1) hj)
            have y5 : (m : Int) < (g.ns.length : Int) := by omega
            have d5 : decide ((m : Int) < 0) = false := decide_eq_false (by omega)
            have HOL := Lib.hid hol
            have e5 : wr.cell? ⟨gw, m, none⟩ = some (.int .i64 (V m)) := hrow.cell hm
            have f5 := hrow.frozen m
            have hr6 := (hrow.set m (.int .i64 (-1))).congr (g := fun i => .int .i64 (Gr.wjt g.es o m 0 i)) fun i hi => by
              rw [← HTK.out i hi]
              by_cases e : i = m
              · rw [if_pos e, if_pos e]
              · rw [if_neg e, if_neg e]
            have hb6 := hb.setCell (p := ⟨gw, m, none⟩) (Nat.le_refl _) (.int .i64 (-1))
            have ho6 : (wr.setCell ⟨gw, m, none⟩ (.int .i64 (-1))).ownsRow Bc 3 1 _ o.length (Gr.insV (Gr.nats o)) := own_same hown fun q hq => heap_setCell_other wr ⟨gw, m, none⟩ q _ (show q ≠ gw by have := (hown.lt q hq).1; have := HBc.out.1; omega)
            have hs6 : Bc ≤ (wr.setCell ⟨gw, m, none⟩ (.int .i64 (-1))).heap.size := by simpa using hsz
            clear hf hrd hfst hks hka hWt hrow hown hb hsz
            go_wp2_with fail
            with_reducible refine ci.mono ?_
            clear ci
            rintro e w9 ⟨rfl, hw9⟩
            rw [hw9]
            clear hw9 w9
            go_upto_region 17 with (fail)
            generalize wr.setCell ⟨gw, m, none⟩ (.int .i64 (-1)) = w6 at *
            clear e5 f5
            have hoa := ho6.alloc (.cells #[.int .i64 m] 3)
            have hra := hr6.alloc (.cells #[.int .i64 m] 3)
            have hba := hb6.alloc (show gw ≤ w6.heap.size by rw [HGW.out]; exact hb6.size) (.cells #[.int .i64 m] 3)
            have hsa : Bc ≤ (w6.alloc (.cells #[.int .i64 m] 3)).heap.size := by simp; omega
            have hox : o.length ≤ 100000 := by omega
            obtain ⟨Ar, cr, hcr3, hat3⟩ := HWs.out.read hm
            have HG0 := Lib.hid (show g0 < gw by rw [HGW.out]; exact HWs.out.lt)
            have HC3 := Lib.hid hcr3
            have HAT := Lib.hid hat3
            have HOA := Lib.hid hoa
            have HRA := Lib.hid hra
            have HBA := Lib.hid hba
            clear hol hoa hra hba ho6 hr6 hb6 hcr3 hat3
            have HLT := Lib.hid hlt
            have HRB := Lib.hid ((HOk.out.rows true) m hm)
            have hrl := HRB.out.1
            go_wp2_with (at_builtin; refine wpList_append_own_wide _ (by rfl) _ _ 38 (by rfl) Bc 3 i0 _ 1 8 Tryz.underlying38 hi0 hz0 hz1 hz2 rfl (by omega) _ o.length _ (by rfl) HOA.out ⟨w6.heap.size, 0, none⟩ 1 1 [_] (by rfl) (by rfl) (World.news_of_block (cs := #[_]) (t := 3) (fr := (0, 0)) (heap_alloc_new w6 _)) (by simp [Value.oneCell']) (by unfold maxLen; omega) (by omega) hsa ?_; intro v7 w7 hown7 hgrow7 _; have HB7 := Lib.hid (below_grown HBA.out (show gw ≤ _ by rw [HGW.out]; exact HBA.out.size) (own_mono HOA.out (Nat.le_of_lt HBc.out.1)) hgrow7); have HR7 := Lib.hid (HRA.out.of_block (grown_below HOA.out hgrow7 HBc.out.1 HRA.out.lt)); have hcr := (HB7.out.cell (p := ⟨g0, m, none⟩) HG0.out).trans HC3.out; have HS7 := Lib.hid (Nat.le_trans hsa hgrow7.size); have HO7 := Lib.hid hown7; clear hgrow7 hown7)
            clear hsa hs6 hcr
            obtain ⟨wo7, rfl⟩ : ∃ x : World, x = w7 := ⟨_, rfl⟩
            go_loopw [57] (fun s57 wr => ∃ j : Nat, s57 = .int .i64 j ∧ j ≤ (Gr.row true g.es m).length ∧ wr.rowIs gw 3 g.ns.length (fun i => .int .i64 (Gr.wjt g.es o m j i)) ∧ wr.ownsRow Bc 3 1 v7 (o.length + 1) (Gr.insV (Gr.nats o) ++ [.int .i64 m]) ∧ Below gw w3 wr ∧ Bc ≤ wr.heap.size) (fun s57 _ => (Gr.row true g.es m).length - (intOf s57).toNat)
            case atStart => exact ⟨0, rfl, by omega, HR7.out, HO7.out, HB7.out, HS7.out⟩
            case round =>
              obtain ⟨j, rfl, hj, hrow, hown, hb, hsz⟩ := hrel
              by_cases hlt2 : j < (Gr.row true g.es m).length
              · have b3 : decide ((j : Int) < ((Gr.row true g.es m).length : Int)) = true := decide_eq_true (by omega)
                have b3n : decide (j < (Gr.row true g.es m).length) = true := decide_eq_true hlt2
                have y4 : (j : Int) < ((Gr.row true g.es m).length : Int) := by omega
                obtain ⟨g', o', rfl, hg', hc'⟩ := in_cell HAT.out hlt2
                have d1 := (hb.cell (p := ⟨g', o' + j, none⟩) (by rw [HGW.out]; exact hg')).trans hc'
                obtain ⟨b, hbb, hbn⟩ := HRB.out.2 _ (List.getElem_mem hlt2)
                rw [hbb] at d1
                have y6 : (b : Int) < (g.ns.length : Int) := by omega
                have e8 : wr.cell? ⟨gw, b, none⟩ = some (.int .i64 (Gr.wjt g.es o m j b)) := hrow.cell hbn
                have f8 := hrow.frozen b
                have hbd := Gr.wjt_bd g.es o m j b
                have HS := Lib.hid ((hrow.set b (.int .i64 (Gr.wjt g.es o m j b - 1))).congr (g := fun i => .int .i64 (Gr.wjt g.es o m (j + 1) i)) fun i hi => by
                  rw [← Gr.wjt_step hlt2 hbb i]
                  by_cases e : i = b
                  · rw [if_pos e, if_pos e, e]
                  · rw [if_neg e, if_neg e])
                have HO := Lib.hid (show (wr.setCell ⟨gw, b, none⟩ (.int .i64 (Gr.wjt g.es o m j b - 1))).ownsRow Bc 3 1 v7 (o.length + 1) (Gr.insV (Gr.nats o) ++ [.int .i64 m]) from own_same hown fun q hq => heap_setCell_other wr ⟨gw, b, none⟩ q _ (show q ≠ gw by have := (hown.lt q hq).1; have := HBc.out.1; omega))
                have HB := Lib.hid (hb.setCell (p := ⟨gw, b, none⟩) (Nat.le_refl _) (.int .i64 (Gr.wjt g.es o m j b - 1)))
                have HZ := Lib.hid (show Bc ≤ (wr.setCell ⟨gw, b, none⟩ (.int .i64 (Gr.wjt g.es o m j b - 1))).heap.size by simpa using hsz)
                generalize Gr.wjt g.es o m j b = vv at *
                have hwr : IntKind.i64.wrap (vv - 1) = vv - 1 := IntWalk.i64_in _ (by omega)
                clear hrow hown hb hc' hg' hbb hsz hbd
                go_wp2_with fail
                go_roundw
                case rel => exact ⟨j + 1, by go_num, by omega, HS.out, HO.out, HB.out, HZ.out⟩
                case measure => simp [intOf]; omega
              · have b3 : decide ((j : Int) < ((Gr.row true g.es m).length : Int)) = false := decide_eq_false (by omega)
                have b3n : decide (j < (Gr.row true g.es m).length) = false := decide_eq_false hlt2
                have HS := Lib.hid hrow
                have HO := Lib.hid hown
                have HB := Lib.hid hb
                have HZ := Lib.hid hsz
                have HW := Lib.hid (HDN.out j hlt2)
                clear hrow hown hb hsz
                go_wp2_with fail
                go_roundw
                case rel => exact ⟨k + 1, o ++ [m], _, by go_num, by have := HLT.out; omega, by rw [List.length_append, HOL.out]; rfl, HKA.out, HW.out, HS.out, by rw [List.length_append, List.length_singleton, Gr.nats_app, Gr.insV_app, Gr.insV_one]; exact HO.out, HB.out, HZ.out⟩
                case measure => have := HLT.out; simp [intOf]; omega
        · have b2 : decide ((k : Int) < (g.ns.length : Int)) = false := decide_eq_false (by omega)
          have b2n : decide (k < g.ns.length) = false := decide_eq_false hlt
          have HR := Lib.hid (HY2.out o (hka.trans (by rw [show g.ns.length - k = 0 by omega]; rfl)))
          have HO := Lib.hid (own_mono hown (show w.heap.size ≤ Bc by have := HBc.out; omega))
          have HB := Lib.hid (HB03.out.trans ((show Below w3.heap.size w3 wr by rw [← HGW.out]; exact hb).mono HB03.out.size))
          clear hka hWt hrow hown hb hol hsz
          go_wp2_with fail
          first | go_ret3 | go_ret2 | go_ret
          exact ⟨_, _, rfl, Gr.nats o, HR.out, by rw [Gr.nats_len]; exact HO.out, HB.out⟩
end Go.Proofs.YtjemffgidhgfjaaGreatDoor
end
section
namespace Go.Proofs.YtjemffgidhgfjaaGreatDoor
open Go.RowKit Go.Deep Tr

namespace Gr
/-- What Depths finds. -/
def Dps (g : Gph) (l : List Int) (e : Int) : Prop :=
  if chk g = 0 then (∀ o, kahn g.es g.ns.length g.ns.length [] = some o → l = (List.range g.ns.length).map (dps g.es o) ∧ e = 0) ∧ (kahn g.es g.ns.length g.ns.length [] = none → l = [] ∧ e = 12) else l = [] ∧ e = 1
theorem odr_no {g : Gph} {l : List Int} {e : Int} (h : Odr g l e) (he : ¬ e = 0) : Dps g [] e := by
  unfold Odr at h
  unfold Dps
  by_cases hc : chk g = 0
  · rw [if_pos hc] at h ⊢
    exact ⟨fun o ho => absurd (h.1 o ho).2 he, fun hn => ⟨rfl, (h.2 hn).2⟩⟩
  · rw [if_neg hc] at h ⊢
    exact ⟨rfl, h.2⟩
theorem odr_yes {g : Gph} {l : List Int} {e : Int} (h : Odr g l e) (he : e = 0) : chk g = 0 ∧ ∃ o, kahn g.es g.ns.length g.ns.length [] = some o ∧ l = nats o := by
  unfold Odr at h
  by_cases hc : chk g = 0
  · rw [if_pos hc] at h
    cases hk : kahn g.es g.ns.length g.ns.length [] with
    | none => have := (h.2 hk).2; omega
    | some o => exact ⟨hc, o, rfl, (h.1 o hk).1⟩
  · rw [if_neg hc] at h
    have := h.2; omega
theorem dps_of {g : Gph} {o : List Nat} (h : chk g = 0) (hk : kahn g.es g.ns.length g.ns.length [] = some o) : Dps g ((List.range g.ns.length).map (dps g.es o)) 0 := by
  unfold Dps
  rw [if_pos h]
  exact ⟨fun o' ho => by rw [hk] at ho; injection ho with ho; rw [ho]; exact ⟨rfl, rfl⟩, fun hn => by rw [hk] at hn; cases hn⟩
end Gr
/-- A row of numbers of the call's own as a list where it lies. -/
theorem row_in {w : World} {g n : Nat} {W : Nat → Int} (h : w.rowIs g 3 n (fun i => .int .i64 (W i))) : Gr.InAt w w.heap.size (some ⟨g, 0, none⟩) ((List.range n).map W) := fun j hj => by
  have hj' : j < n := by simpa using hj
  refine ⟨g, 0, rfl, h.lt, fun i u hu => ?_⟩
  cases i with
  | zero =>
    simp only [Gr.inV, List.getElem_map, List.getElem_range, List.getElem?_cons_zero, Option.some.injEq] at hu
    subst hu
    rw [Nat.mul_one, Nat.zero_add, Nat.add_zero]
    exact h.cell hj'
  | succ i => simp [Gr.inV] at hu
/-- Two results: a list to read and an error. -/
def GotD (w : World) (Q : List Int → Int → Prop) : Ending → World → Prop := fun e w' => ∃ (A : Option Addr) (c : Nat) (l : List Int) (ec : Int), e = .returned (.tuple #[.slice A l.length c, .int .i64 ec]) ∧ Q l ec ∧ Gr.InAt w' w'.heap.size A l ∧ Below w.heap.size w w'
set_option maxHeartbeats 16000000 in
set_option maxRecDepth 100000 in
theorem depths_any (g : Gph) (A B : Option Addr) (c d : Nat) (w : World) (hA : GrAt w A B g) :
    Calls Tryz.prog 25 #[grV A B c d g] w (GotD w (Gr.Dps g)) := by
  obtain ⟨i0, hi0, hz0, hz1, hz2⟩ := info_parts infoIn
  have hb0 : Below w.heap.size w (w.alloc (grO A B c d g)) := (Below.refl _ _).alloc (Nat.le_refl _) _
  have hG := heap_alloc_new w (grO A B c d g)
  obtain ⟨W, hW⟩ : ∃ W, W = w.alloc (grO A B c d g) := ⟨_, rfl⟩
  rw [← hW] at hb0 hG
  obtain ⟨q0, q1⟩ := gb_cells hG
  have HA := Lib.hid hA
  have c1 := order_any g A B c d W (hA.next hb0)
  clear hA
  go_enter Tryz.func25, Tryz.ntmps25
  go_upto_region 1 with (fail)
  rw [← hW]
  clear hW
  go_wp2_with fail
  with_reducible refine c1.mono ?_
  clear c1
  rintro e w1 ⟨v, ec, rfl, l, hQ, hown, hb1⟩
  have hG1 := (hb1.block w.heap.size (blk_lt hG)).trans hG
  have hb01 := hb0.trans (hb1.mono hb0.size)
  clear hb1 hb0 hG q0 q1
  by_cases hz : ec = 0
  case neg =>
    have z1 : (ec != 0) = true := by rw [bne_iff_ne]; exact hz
    have z2 : (ec == 0) = false := by rw [beq_eq_false_iff_ne]; exact hz
    have HT := Lib.hid (Gr.odr_no hQ hz)
    clear hz hG1 hown hQ
    go_wp2_with fail
    first | go_ret3 | go_ret2 | go_ret
    exact ⟨none, 0, [], ec, rfl, HT.out, Gr.ElAt.nil _ _ _ _ _, hb01⟩
  have z1 : (ec != 0) = false := by rw [hz]; rfl
  have z2 : (ec == 0) = true := by rw [hz]; rfl
  obtain ⟨hchk, o, hka, rfl⟩ := Gr.odr_yes hQ hz
  have HOk := Lib.hid (Gr.chk_ok hchk)
  have HR := Lib.hid (Gr.dps_of hchk hka)
  have HTp := Lib.hid (Gr.kahn_ok hka)
  obtain ⟨Ao, co, rfl, _, _, hat⟩ := Gr.own_el Gr.inV 1 Gr.inV_len hown
  have HAT := Lib.hid hat
  obtain ⟨q0, q1⟩ := gb_cells hG1
  have cw := ways_forward g A B c d w1 (HA.out.next hb01) HOk.out.nl HOk.out.el (HOk.out.ed true)
  rw [Gr.nats_len]
  have HNM := Lib.hid HTp.out.len
  have HB01 := Lib.hid hb01
  clear hz hQ hown hat hka hchk
  go_wp2_with fail
  with_reducible refine cw.mono ?_
  clear cw
  rintro e w3 ⟨g0, rfl, hWs, hb3⟩
  have hG3 := (hb3.block w.heap.size (blk_lt hG1)).trans hG1
  have HB13 := Lib.hid hb3
  clear hb3 hb01 hG1 q0 q1
  have hnl := HOk.out.nl
  have hel := HOk.out.el
  have hmk : ∀ w' : World, (Instr.makeSlice 38 (.int .i64 (g.ns.length : Int)) (.int .i64 (g.ns.length : Int))).run Tryz.prog w' = .ok (.slice (some ⟨w'.heap.size, 0, none⟩) g.ns.length g.ns.length) (w'.alloc (.cells (madeCells #[.int .i64 0] g.ns.length) 3)) := fun w' =>
    run_make_row (P := Tryz.prog) 38 3 i0 (.int .i64 0) Tryz.underlying38 hi0 hz0 hz1 rfl .i64 .i64 g.ns.length (by rw [hz2]; omega) (by omega) w'
  have hr4 := World.rowIs_made w3 (.int .i64 0) g.ns.length 3
  have hb4 : Below w3.heap.size w3 (w3.alloc (.cells (madeCells #[.int .i64 0] g.ns.length) 3)) := (Below.refl _ _).alloc (Nat.le_refl _) _
  obtain ⟨q0, q1⟩ := gb_cells hG3
  go_upto_region 6 with (fail)
  generalize w3.alloc (.cells (madeCells #[.int .i64 0] g.ns.length) 3) = w4 at *
  obtain ⟨gw, hgw⟩ : ∃ x, x = w3.heap.size := ⟨_, rfl⟩
  rw [← hgw] at hr4 hb4 ⊢
  have HGW := Lib.hid hgw
  have HWs := Lib.hid hWs
  clear hgw hmk q0 q1 hWs hG3
  obtain ⟨N, hN⟩ : ∃ N, o.length = N := ⟨_, rfl⟩
  rw [hN] at HNM ⊢
  have HN := Lib.hid hN
  clear hN
  obtain ⟨M, hM⟩ : ∃ M, g.ns.length = M := ⟨_, rfl⟩
  rw [hM] at HNM hnl hr4 ⊢
  have HM := Lib.hid hM
  have hNl : N ≤ 1024 := by rw [HNM.out]; exact hnl
  clear hM
  go_wp2_with fail
  go_loopw [28] (fun s28 wr => ∃ k : Nat, s28 = .int .i64 k ∧ k ≤ N ∧ wr.rowIs gw 3 M (fun m => .int .i64 (Gr.dps g.es (o.take k) m)) ∧ Below gw w3 wr) (fun s28 _ => N - (intOf s28).toNat)
  case atStart => exact ⟨0, rfl, by omega, hr4, hb4⟩
  case round =>
    clear hr4 hb4
    obtain ⟨k, rfl, hk, hrow, hb⟩ := hrel
    by_cases hlt : k < N
    · have b1 : decide ((k : Int) < (N : Int)) = true := decide_eq_true (by omega)
      have b1n : decide (k < N) = true := decide_eq_true hlt
      have y2 : (k : Int) < (N : Int) := by omega
      have hko : k < o.length := by rw [HN.out]; exact hlt
      have hb1w : Below w1.heap.size w1 wr := HB13.out.trans ((show Below w3.heap.size w3 wr by rw [← HGW.out]; exact hb).mono HB13.out.size)
      obtain ⟨go, oo, rfl, hgo, hco⟩ := in_cell HAT.out (k := k) (by rw [Gr.nats_len]; exact hko)
      have d1 := (hb1w.cell (p := ⟨go, oo + k, none⟩) hgo).trans hco
      rw [show (Gr.nats o)[k]'(by rw [Gr.nats_len]; exact hko) = ((o[k] : Nat) : Int) by simp [Gr.nats]] at d1
      have hm : o[k] < g.ns.length := HTp.out.lt _ (List.getElem_mem hko)
      have HST := Lib.hid (Gr.dps_step g.es o k hko)
      have hbd := fun i => Gr.dps_bd g.es o k i
      have hkE : k * g.es.length ≤ 1048576 := Nat.le_trans (Nat.mul_le_mul (show k ≤ 1024 by omega) hel) (by omega)
      generalize o[k] = m at *
      generalize Gr.dps g.es (o.take k) = D at *
      obtain ⟨Ar, cr, hcr3, hat3⟩ := HWs.out.read hm
      have hg0 : g0 < gw := by rw [HGW.out]; exact HWs.out.lt
      have d2 := (hb.cell (p := ⟨g0, m, none⟩) hg0).trans hcr3
      have HRT := Lib.hid hat3
      have HRB := Lib.hid ((HOk.out.rows true) m hm)
      have hrl := HRB.out.1
      have hml : m < M := by rw [← HM.out]; exact hm
      have y5 : (m : Int) < (M : Int) := by omega
      have HBD := Lib.hid hbd
      have HKE := Lib.hid hkE
      have HLT := Lib.hid hlt
      clear hb1w hgo hco hm hcr3 hat3 hg0 hbd hkE
      have hr0 := hrow
      have hb0 := hb
      clear hrow hb
      go_wp2_with fail
      clear d1 d2
      obtain ⟨wo7, rfl⟩ : ∃ x : World, x = wr := ⟨_, rfl⟩
      go_loopw [37] (fun s37 wr => ∃ j : Nat, s37 = .int .i64 j ∧ j ≤ (Gr.row true g.es m).length ∧ wr.rowIs gw 3 M (fun i => .int .i64 (Gr.pshs m D ((Gr.row true g.es m).take j) i)) ∧ Below gw w3 wr) (fun s37 _ => (Gr.row true g.es m).length - (intOf s37).toNat)
      case atStart => exact ⟨0, rfl, by omega, hr0, hb0⟩
      case round =>
        clear hr0 hb0
        obtain ⟨j, rfl, hj, hrow, hb⟩ := hrel
        by_cases hlt2 : j < (Gr.row true g.es m).length
        · have b3 : decide ((j : Int) < ((Gr.row true g.es m).length : Int)) = true := decide_eq_true (by omega)
          have b3n : decide (j < (Gr.row true g.es m).length) = true := decide_eq_true hlt2
          have y4 : (j : Int) < ((Gr.row true g.es m).length : Int) := by omega
          obtain ⟨g', o', rfl, hg', hc'⟩ := in_cell HRT.out hlt2
          have d1 := (hb.cell (p := ⟨g', o' + j, none⟩) (by rw [HGW.out]; exact hg')).trans hc'
          obtain ⟨b, hbb, hbn⟩ := HRB.out.2 _ (List.getElem_mem hlt2)
          rw [hbb] at d1
          rw [HM.out] at hbn
          have y6 : (b : Int) < (M : Int) := by omega
          have HPS := Lib.hid (Gr.pshs_step m D (Gr.row true g.es m) j hlt2)
          have hbd2 := Gr.pshs_bd (n := m) ((Gr.row true g.es m).take j) HBD.out m
          have hbd3 : ((Gr.row true g.es m).take j).length ≤ 100000 := by rw [List.length_take]; omega
          have hke := HKE.out
          rw [hbb] at HPS
          generalize Gr.pshs m D ((Gr.row true g.es m).take j) = D2 at *
          have hwr : IntKind.i64.wrap (D2 m + 1) = D2 m + 1 := IntWalk.i64_in _ (by omega)
          have e8 : wr.cell? ⟨gw, b, none⟩ = some (.int .i64 (D2 b)) := hrow.cell hbn
          have e9 : wr.cell? ⟨gw, m, none⟩ = some (.int .i64 (D2 m)) := hrow.cell hml
          have f8 := hrow.frozen b
          have HRW := Lib.hid hrow
          have HB := Lib.hid hb
          clear hrow hb hc' hg' hbb hbd2 hbd3 hke
          go_upto_region 12 with (fail)
          clear d1
          go_region
          all_goals
            go_wp2_with fail
            refine ⟨⟨j + 1, by go_num, by omega, ?_, (HB.out.setCell (p := ⟨gw, b, none⟩) (Nat.le_refl _) _).drew⟩, by simp [intOf]; omega⟩
            refine World.rowIs.of_block ((HRW.out.set b (.int .i64 (max (D2 b) (D2 m + 1)))).congr fun i hi => ?_) rfl
            rw [HPS.out]
            unfold Gr.psh
            rw [Int.toNat_natCast]
            by_cases e : i = b
            · rw [if_pos e, if_pos e]
            · rw [if_neg e, if_neg e]
        · have b3 : decide ((j : Int) < ((Gr.row true g.es m).length : Int)) = false := decide_eq_false (by omega)
          have b3n : decide (j < (Gr.row true g.es m).length) = false := decide_eq_false hlt2
          rw [List.take_of_length_le (by omega)] at hrow
          have HS := Lib.hid hrow
          have HB := Lib.hid hb
          clear hrow hb
          go_wp2_with fail
          go_roundw
          case rel => exact ⟨k + 1, by go_num, by have := HLT.out; omega, by rw [HST.out]; exact HS.out, HB.out⟩
          case measure => have := HLT.out; simp [intOf]; omega
    · have b1 : decide ((k : Int) < (N : Int)) = false := decide_eq_false (by omega)
      have b1n : decide (k < N) = false := decide_eq_false hlt
      rw [List.take_of_length_le (by rw [HN.out]; omega)] at hrow
      have HI := Lib.hid (row_in hrow)
      have HB := Lib.hid (HB01.out.trans ((HB13.out.trans ((show Below w3.heap.size w3 wr by rw [← HGW.out]; exact hb).mono HB13.out.size)).mono HB01.out.size))
      clear hrow hb
      go_wp2_with fail
      first | go_ret3 | go_ret2 | go_ret
      exact ⟨some ⟨gw, 0, none⟩, M, (List.range M).map (Gr.dps g.es o), 0, (by rw [List.length_map, List.length_range]; rfl), by rw [← HM.out]; exact HR.out, HI.out, HB.out⟩
end Go.Proofs.YtjemffgidhgfjaaGreatDoor
end
