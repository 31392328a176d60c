/- Gates' closure. No condition but the lengths. -/
import Derived.Test.YtdiaejdoglccoaaChn
import Derived.Deep.RegionHeld3
namespace Go.Proofs.Ytdiaejdoglccoaa
open Go.RowKit Go.Deep Tr

/-- One number where it lies. -/
theorem in_one {w : World} {g : Nat} {x : Int} (h : w.heap[g]? = some (.cells #[.int .i64 x] 3 (0, 0))) : Gr.InAt w w.heap.size (some ⟨g, 0, none⟩) [x] := fun j hj => by
  obtain rfl : j = 0 := by simpa using hj
  refine ⟨_, _, rfl, blk_lt h, fun i u hu => ?_⟩
  cases i with
  | zero =>
    simp only [List.getElem_cons_zero, Gr.inV, List.getElem?_cons_zero, Option.some.injEq] at hu
    subst hu
    rw [cell_of_row _ _ _ _ _ _ h]; rfl
  | succ i => simp [Gr.inV] at hu
/-- The variables of Gates' closure. -/
structure GaAt (w : World) (xb fb tb g0 n f t B0 : Nat) (R : Nat → List Int) : Prop where
  xv : w.heap[xb]? = some (.cells #[.slice (some ⟨g0, 0, none⟩) n n] 48 (0, 0))
  fv : w.heap[fb]? = some (.cells #[.int .i64 f] 3 (0, 0))
  tv : w.heap[tb]? = some (.cells #[.int .i64 t] 3 (0, 0))
  ws : Ws w B0 g0 n R
theorem GaAt.next {w w' : World} {xb fb tb g0 n f t B0 : Nat} {R : Nat → List Int} (h : GaAt w xb fb tb g0 n f t B0 R) (hb : Below w.heap.size w w') : GaAt w' xb fb tb g0 n f t B0 R :=
  ⟨(hb.block _ (blk_lt h.xv)).trans h.xv, (hb.block _ (blk_lt h.fv)).trans h.fv, (hb.block _ (blk_lt h.tv)).trans h.tv, h.ws.next hb⟩
set_option maxHeartbeats 8000000 in
set_option maxRecDepth 100000 in
theorem gat_any (m xb fb tb g0 n f t B0 : Nat) (R : Nat → List Int) (w : World) (h : GaAt w xb fb tb g0 n f t B0 R) (hn : n ≤ 1024) (hf : f < n) (ht : t < n) (hR : ∀ i, i < n → (R i).length ≤ 100000 ∧ ∀ x ∈ R i, ∃ b : Nat, x = (b : Int) ∧ b < n) :
    Calls Try.prog 44 #[.int .i64 m, .pointer (some ⟨xb, 0, none⟩), .pointer (some ⟨fb, 0, none⟩), .pointer (some ⟨tb, 0, none⟩)] w fun e w' => ∃ b, e = .returned (.bool b) ∧ (b = true ↔ ¬ ∃ k, Gr.Wk R [(f : Int)] (m : Int) k t) ∧ Below w.heap.size w w' := by
  have e0 : w.cell? ⟨xb, 0, none⟩ = some (.slice (some ⟨g0, 0, none⟩) n n) := by rw [cell_of_row _ _ _ _ _ _ h.xv]; rfl
  have e1 : w.cell? ⟨fb, 0, none⟩ = some (.int .i64 f) := by rw [cell_of_row _ _ _ _ _ _ h.fv]; rfl
  have e2 : w.cell? ⟨tb, 0, none⟩ = some (.int .i64 t) := by rw [cell_of_row _ _ _ _ _ _ h.tv]; rfl
  obtain ⟨W, hW⟩ : ∃ W, W = (w.alloc (.cells #[.int .i64 (f : Int)] 3)).drew := ⟨_, rfl⟩
  have hbA : Below w.heap.size w W := by rw [hW]; exact ((Below.refl _ _).alloc (Nat.le_refl _) _).drew
  have hnw : W.heap[w.heap.size]? = some (.cells #[.int .i64 (f : Int)] 3 (0, 0)) := by rw [hW]; exact heap_alloc_new w _
  have hA := h.next hbA
  have s00 : W.cell? ⟨xb, 0, none⟩ = some (.slice (some ⟨g0, 0, none⟩) n n) := by rw [cell_of_row _ _ _ _ _ _ hA.xv]; rfl
  have s01 : W.cell? ⟨fb, 0, none⟩ = some (.int .i64 f) := by rw [cell_of_row _ _ _ _ _ _ hA.fv]; rfl
  have s02 : W.cell? ⟨tb, 0, none⟩ = some (.int .i64 t) := by rw [cell_of_row _ _ _ _ _ _ hA.tv]; rfl
  have cl := lengths_any n g0 _ _ (some ⟨w.heap.size, 0, none⟩) [(f : Int)] 1 (m : Int) W hA.ws (in_one hnw) hn (by simp) (fun x hx => ⟨f, by simpa using hx, hf⟩) hR
  rw [List.length_singleton] at cl
  have s10 : (w.drew.alloc (.cells #[.int .i64 (f : Int)] 3)).cell? ⟨xb, 0, none⟩ = some (.slice (some ⟨g0, 0, none⟩) n n) := by rw [hW] at s00; exact s00
  have s11 : (w.drew.alloc (.cells #[.int .i64 (f : Int)] 3)).cell? ⟨fb, 0, none⟩ = some (.int .i64 f) := by rw [hW] at s01; exact s01
  have s12 : (w.drew.alloc (.cells #[.int .i64 (f : Int)] 3)).cell? ⟨tb, 0, none⟩ = some (.int .i64 t) := by rw [hW] at s02; exact s02
  have s20 : (w.alloc (.cells #[.int .i64 (f : Int)] 3)).cell? ⟨xb, 0, none⟩ = some (.slice (some ⟨g0, 0, none⟩) n n) := s10
  have s21 : (w.alloc (.cells #[.int .i64 (f : Int)] 3)).cell? ⟨fb, 0, none⟩ = some (.int .i64 f) := s11
  have s22 : (w.alloc (.cells #[.int .i64 (f : Int)] 3)).cell? ⟨tb, 0, none⟩ = some (.int .i64 t) := s12
  have HA := Lib.hid hA
  have HB := Lib.hid hbA
  have y1 : (t : Int) < (n : Int) := by omega
  clear h hA hnw hR hbA
  go_enter Try.func44, Try.ntmps44
  go_upto_region 1 with (fail)
  go_region_with (go_at_call 39; rw [← hW]; (with_reducible refine cl.mono ?_); rintro e w5 ⟨gl, rfl, L, hrl, hLab, _, _, hb5⟩; have hN5 := HA.out.next hb5; have s50 : w5.cell? ⟨xb, 0, none⟩ = some (.slice (some ⟨g0, 0, none⟩) n n) := (by rw [cell_of_row _ _ _ _ _ _ hN5.xv]; rfl); have s51 : w5.cell? ⟨fb, 0, none⟩ = some (.int .i64 f) := (by rw [cell_of_row _ _ _ _ _ _ hN5.fv]; rfl); have s52 : w5.cell? ⟨tb, 0, none⟩ = some (.int .i64 t) := (by rw [cell_of_row _ _ _ _ _ _ hN5.tv]; rfl); have c5 : w5.cell? ⟨gl, t, none⟩ = some (.int .i64 (L t)) := hrl.cell ht; have HQ := Lib.hid (show decide (L t < 0) = true ↔ ¬ ∃ k, Gr.Wk R [(f : Int)] (m : Int) k t from (by rw [← Gr.lab_iff hLab t, decide_eq_true_eq, decide_eq_true_eq]; omega)); have HB5 := Lib.hid (HB.out.trans (hb5.mono HB.out.size)); clear hb5 hN5 hLab hrl)
  all_goals
    generalize hd : decide (L t < 0) = b at *
    go_wp2_with fail
    go_ret
    exact ⟨b, by first | rfl | rw [hd], HQ.out, HB5.out⟩
theorem gatD_any (m xb fb tb g0 n f t B0 : Nat) (R : Nat → List Int) (w : World) (h : GaAt w xb fb tb g0 n f t B0 R) (hn : n ≤ 1024) (hf : f < n) (ht : t < n) (hR : ∀ i, i < n → (R i).length ≤ 100000 ∧ ∀ x ∈ R i, ∃ b : Nat, x = (b : Int) ∧ b < n) :
    Calls Try.prog 44 #[.int .i64 m, .pointer (some ⟨xb, 0, none⟩), .pointer (some ⟨fb, 0, none⟩), .pointer (some ⟨tb, 0, none⟩)] w fun e w' => e = .returned (.bool (@decide (¬ ∃ j, Gr.Wk R [(f : Int)] (m : Int) j t) (Classical.propDecidable _))) ∧ Below w.heap.size w w' := by
  refine (gat_any m xb fb tb g0 n f t B0 R w h hn hf ht hR).mono ?_
  rintro e w' ⟨b, rfl, hiff, hb⟩
  refine ⟨?_, hb⟩
  refine congrArg (fun x => Ending.returned (.bool x)) ?_
  rw [Bool.eq_iff_iff]
  exact hiff.trans (@decide_eq_true_iff _ (Classical.propDecidable _)).symm
set_option maxHeartbeats 8000000 in
set_option maxRecDepth 100000 in
theorem chooseGat_any (g : Gph) (A B : Option Addr) (c d : Nat) (xb fb tb g0 f t B0 : Nat) (R : Nat → List Int) (w : World) (hn : g.ns.length ≤ 1024) (hG1 : GaAt w xb fb tb g0 g.ns.length f t B0 R) (hf : f < g.ns.length) (ht : t < g.ns.length) (hR : ∀ i, i < g.ns.length → (R i).length ≤ 100000 ∧ ∀ x ∈ R i, ∃ b : Nat, x = (b : Int) ∧ b < g.ns.length) :
    Calls Try.prog 43 #[grV A B c d g, .func (.func 44) #[] #[.pointer (some ⟨xb, 0, none⟩), .pointer (some ⟨fb, 0, none⟩), .pointer (some ⟨tb, 0, none⟩)]] w (GotIn w (Gr.chs (fun m => @decide (¬ ∃ j, Gr.Wk R [(f : Int)] (m : Int) j t) (Classical.propDecidable _)) g.ns.length)) := by
  obtain ⟨i0, hi0, hz0, hz1, hz2⟩ := info_parts infoIn
  have HGa := Lib.hid hG1
  have HRR := Lib.hid hR
  clear hG1 hR
  have hb0 : Below w.heap.size w (w.alloc (grO A B c d g)) := (Below.refl _ _).alloc (Nat.le_refl _) _
  have hG := heap_alloc_new w (grO A B c d g)
  obtain ⟨W, hW⟩ : ∃ W, W = w.alloc (grO A B c d g) := ⟨_, rfl⟩
  rw [← hW] at hb0 hG
  obtain ⟨q0, q1⟩ := gb_cells hG
  go_enter Try.func43, Try.ntmps43
  go_upto_region 2 with (fail)
  rw [← hW]
  clear hW
  go_wp2_with fail
  clear q0 q1 hG
  go_loopw [5, 10] (fun s5 s10 wr => ∃ k : Nat, s10 = .int .i64 k ∧ k ≤ g.ns.length ∧ wr.ownsRow w.heap.size 3 1 s5 (Gr.chs (fun m => @decide (¬ ∃ j, Gr.Wk R [(f : Int)] (m : Int) j t) (Classical.propDecidable _)) k).length (Gr.insV (Gr.chs (fun m => @decide (¬ ∃ j, Gr.Wk R [(f : Int)] (m : Int) j t) (Classical.propDecidable _)) k)) ∧ Below w.heap.size w wr) (fun _ s10 _ => g.ns.length - (intOf s10).toNat)
  case atStart => exact ⟨0, rfl, by omega, World.ownsRow_nil _ _ _ _, hb0⟩
  case round =>
    clear hb0
    obtain ⟨k, rfl, hk, hown, hb⟩ := hrel
    have hcl := Gr.chs_len (fun m => @decide (¬ ∃ j, Gr.Wk R [(f : Int)] (m : Int) j t) (Classical.propDecidable _)) k
    by_cases hlt : k < g.ns.length
    · have b1 : decide ((k : Int) < (g.ns.length : Int)) = true := decide_eq_true (by omega)
      have b1n : decide (k < g.ns.length) = true := decide_eq_true hlt
      have cc := gatD_any k xb fb tb g0 g.ns.length f t B0 R wr (HGa.out.next hb) hn hf ht HRR.out
      have HT := Lib.hid (Gr.chs_succ (fun m => @decide (¬ ∃ j, Gr.Wk R [(f : Int)] (m : Int) j t) (Classical.propDecidable _)) k)
      generalize hv : (@decide (¬ ∃ j, Gr.Wk R [(f : Int)] (k : Int) j t) (Classical.propDecidable _) : Bool) = v at *
      generalize Gr.chs (fun m => @decide (¬ ∃ j, Gr.Wk R [(f : Int)] (m : Int) j t) (Classical.propDecidable _)) k = T at *
      cases v with
      | false =>
        have HT' := Lib.hid (show Gr.chs (fun m => @decide (¬ ∃ j, Gr.Wk R [(f : Int)] (m : Int) j t) (Classical.propDecidable _)) (k + 1) = T from HT.out)
        clear HT hv
        go_wp2_with fail
        with_reducible refine cc.mono ?_
        clear cc
        rintro e w4 ⟨rfl, hb4⟩
        have HO := Lib.hid (own_below hown hb4)
        have HB := Lib.hid (hb.trans (hb4.mono hb.size))
        clear hown hb hb4
        go_wp2_with fail
        go_roundw
        case rel => exact ⟨k + 1, by go_num, by omega, by rw [HT'.out]; exact HO.out, HB.out⟩
        case measure => simp [intOf]; omega
      | true =>
        have HT' := Lib.hid (show Gr.chs (fun m => @decide (¬ ∃ j, Gr.Wk R [(f : Int)] (m : Int) j t) (Classical.propDecidable _)) (k + 1) = T ++ [(k : Int)] from HT.out)
        clear HT hv
        go_wp2_with fail
        with_reducible refine cc.mono ?_
        clear cc
        rintro e w4 ⟨rfl, hb4⟩
        have hown4 := own_below hown hb4
        have hb04 := hb.trans (hb4.mono hb.size)
        clear hown hb hb4
        have hsz := hb04.size
        go_wp2_with (at_builtin; refine wpList_append_own_wide _ (by rfl) _ _ 29 (by rfl) w.heap.size 3 i0 _ 1 8 Try.underlying29 hi0 hz0 hz1 hz2 rfl (by omega) _ T.length _ (by rfl) (hown4.alloc _) ⟨w4.heap.size, 0, none⟩ 1 1 [_] (by rfl) (by rfl) (World.news_of_block (cs := #[_]) (t := 3) (fr := (0, 0)) (heap_alloc_new w4 _)) (by simp [Value.oneCell']) (by unfold maxLen; omega) (by omega) (by simp; omega) ?_; intro v6 w6 hown6 hgrow6 _)
        have HO := Lib.hid hown6
        have HB := Lib.hid (below_grown (hb04.alloc hsz _) (by simp; omega) (hown4.alloc _) hgrow6)
        clear hown6 hgrow6 hown4 hb04
        go_wp2_with fail
        go_roundw
        case rel => exact ⟨k + 1, by go_num, by omega, by rw [HT'.out, List.length_append, List.length_singleton, Gr.insV_app, Gr.insV_one]; exact HO.out, HB.out⟩
        case measure => simp [intOf]; omega
    · have b1 : decide ((k : Int) < (g.ns.length : Int)) = false := decide_eq_false (by omega)
      have b1n : decide (k < g.ns.length) = false := decide_eq_false hlt
      have hkn : k = g.ns.length := by omega
      have HO := Lib.hid hown
      have HB := Lib.hid hb
      have HK := Lib.hid hkn
      clear hown hb hkn
      go_wp2_with fail
      go_ret
      exact ⟨_, rfl, by rw [← HK.out]; exact HO.out, HB.out⟩
end Go.Proofs.Ytdiaejdoglccoaa
