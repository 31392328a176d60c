/- The reference's Gates. No condition but the lengths. -/
import Derived.Test.YtdiaejdoglccoaaQch
namespace Go.Proofs.Ytdiaejdoglccoaa
open Go.RowKit Go.Deep Tr

namespace Gr
theorem less_bk {g : Gph} {i f t : Nat} (ht : t ≠ i) : (∃ k, Wk (row false g.es) [(t : Int)] (i : Int) k f) ↔ f = t ∨ Tc (less g i).es f t := by
  constructor
  · rintro ⟨k, hk⟩
    induction hk with
    | start s hs hc => left; rw [List.mem_singleton] at hs; omega
    | step k a b hw hm hc ih =>
      obtain ⟨y, hy, h1, h2⟩ := row_mem hm
      have e1 : y.dst = (a : Int) := h1
      have e2 : y.src = (b : Int) := h2.symm
      have ha : a ≠ i := by
        cases hw with
        | start _ hs hc => omega
        | step _ _ _ _ _ hc => omega
      have hy2 : y ∈ (less g i).es := List.mem_filter.2 ⟨hy, off_iff.2 ⟨by omega, by omega⟩⟩
      right
      rcases ih with rfl | h
      · exact .one y _ _ hy2 e2 e1
      · exact .cons y _ _ _ hy2 e2 e1 h
  · rintro (rfl | h)
    · exact ⟨0, .start f (by simp) (by omega)⟩
    · induction h with
      | one x a b hx ha hb =>
        obtain ⟨hx, ho⟩ := List.mem_filter.1 hx
        have ho := off_iff.1 ho
        exact ⟨1, .step 0 b a (.start b (by simp) (by omega)) (by rw [← ha]; exact mem_row (fw := false) hx hb) (by omega)⟩
      | cons x a b c hx ha hb _ ih =>
        obtain ⟨k, hk⟩ := ih ht
        obtain ⟨hx, ho⟩ := List.mem_filter.1 hx
        have ho := off_iff.1 ho
        exact ⟨k + 1, .step k b a hk (by rw [← ha]; exact mem_row (fw := false) hx hb) (by omega)⟩
/-- What the reference asks of a gate. -/
def gtq (g : Gph) (f t m : Nat) : Prop := m = f ∨ m = t ∨ ¬ ∃ k, Wk (row false g.es) [(t : Int)] (m : Int) k f
theorem gtq_iff {g : Gph} {f t m : Nat} : (¬ ∃ k, Wk (row true g.es) [(f : Int)] (m : Int) k t) ↔ gtq g f t m := by
  unfold gtq
  by_cases e1 : m = f
  · subst e1
    refine ⟨fun _ => .inl rfl, fun _ => ?_⟩
    rintro ⟨k, hk⟩
    have : ∀ {k j : Nat}, Wk (row true g.es) [(m : Int)] (m : Int) k j → False := by
      intro k j hw
      induction hw with
      | start s hs hc => rw [List.mem_singleton] at hs; exact hc hs
      | step k a b _ _ _ ih => exact ih
    exact this hk
  · by_cases e2 : m = t
    · subst e2
      refine ⟨fun _ => .inr (.inl rfl), fun _ => ?_⟩
      rintro ⟨k, hk⟩
      cases hk with
      | start _ _ hc => exact hc rfl
      | step _ _ _ _ _ hc => exact hc rfl
    · rw [less_led (fun e => e1 e.symm), less_bk (fun e => e2 e.symm)]
      exact ⟨fun h => .inr (.inr h), fun h => (h.resolve_left e1).resolve_left e2⟩
/-- What the reference's Gates find. -/
def GtQ (g : Gph) (f t : Int) (l : List Int) : Prop := (Led g f t → ∃ p : Nat → Bool, (∀ m, m < g.ns.length → (p m = true ↔ gtq g f.toNat t.toNat m)) ∧ l = chs p g.ns.length) ∧ (¬ Led g f t → l = [])
theorem gts_gtq {g : Gph} {f t : Int} {l l' : List Int} (h : Gts g f t l) (h' : GtQ g f t l') : l = l' := by
  by_cases hl : Led g f t
  · obtain ⟨p, hp, rfl⟩ := h.1 hl
    obtain ⟨p', hp', rfl⟩ := h'.1 hl
    have h1 := isN_lt hl.2.1
    refine chs_congr _ fun m hm => ?_
    rw [Bool.eq_iff_iff, hp m, hp' m hm, ← gtq_iff, show ((f.toNat : Nat) : Int) = f by omega]
  · rw [h.2 hl, h'.2 hl]
end Gr
set_option maxHeartbeats 16000000 in
set_option maxRecDepth 100000 in
theorem qgates_any (g : Gph) (f t : Int) (A B : Option Addr) (c d : Nat) (w : World) (hA : GrAt w A B g) :
    Calls Try.prog 23 #[grV A B c d g, .int .i64 f, .int .i64 t] w fun e w' => ∃ v, e = .returned v ∧ ∃ l, Gr.GtQ g f t l ∧ w'.ownsRow w.heap.size 3 1 v l.length (Gr.insV l) ∧ Below w.heap.size w w' := by
  obtain ⟨i0, hi0, hz0, hz1, hz2⟩ := info_parts infoIn
  have hb0 : Below w.heap.size w (w.alloc (grO A B c d g)) := (Below.refl _ _).alloc (Nat.le_refl _) _
  have hG := heap_alloc_new w (grO A B c d g)
  obtain ⟨W0, hW0⟩ : ∃ W, W = w.alloc (grO A B c d g) := ⟨_, rfl⟩
  rw [← hW0] at hb0 hG
  obtain ⟨W, hW⟩ : ∃ W, W = W0.alloc (.cells #[] 3) := ⟨_, rfl⟩
  have hb1 : Below w.heap.size w W := by rw [hW]; exact hb0.alloc hb0.size _
  have hG1 : W.heap[w.heap.size]? = some (grO A B c d g) := by rw [hW]; exact (blk_alloc_lt W0 _ _ (blk_lt hG)).trans hG
  have HOE := Lib.hid (show W.ownsRow w.heap.size 3 1 (.slice (some ⟨W0.heap.size, 0, none⟩) 0 0) 0 [] by rw [hW]; exact own_empty W0 _ hb0.size _ _)
  have HA := Lib.hid hA
  have c1 := qright_any g f A B c d W (hA.next hb1)
  have c2 := fun w' (h : GrAt w' A B g) => qright_any g t A B c d w' h
  have HRF := Lib.hid (show (decide (Gr.chk g = 0) && Gr.isN g f) = true → Gr.chk g = 0 ∧ Gr.isN g f = true from fun h => by rwa [Bool.and_eq_true, decide_eq_true_eq] at h)
  have HRT := Lib.hid (show (decide (Gr.chk g = 0) && Gr.isN g t) = true → Gr.chk g = 0 ∧ Gr.isN g t = true from fun h => by rwa [Bool.and_eq_true, decide_eq_true_eq] at h)
  have HRF2 := Lib.hid (show (decide (Gr.chk g = 0) && Gr.isN g f) = false → Gr.GtQ g f t [] from fun h => ⟨fun h2 => (by rw [decide_eq_true h2.1, h2.2.1] at h; cases h), fun _ => rfl⟩)
  have HRT2 := Lib.hid (show (decide (Gr.chk g = 0) && Gr.isN g t) = false → Gr.GtQ g f t [] from fun h => ⟨fun h2 => (by rw [decide_eq_true h2.1, h2.2.2.1] at h; cases h), fun _ => rfl⟩)
  obtain ⟨q0, q1⟩ := gb_cells hG1
  have HG1 := Lib.hid hG1
  have HB1 := Lib.hid hb1
  clear hA hb0 hG hb1 hG1
  generalize (decide (Gr.chk g = 0) && Gr.isN g f) = r1 at *
  generalize (decide (Gr.chk g = 0) && Gr.isN g t) = r2 at *
  go_enter Try.func23, Try.ntmps23
  go_upto_region 1 with (fail)
  rw [← hW0]
  clear hW0
  go_upto_region 2 with (fail)
  rw [← hW]
  clear hW
  generalize W0.heap.size = eb at *
  go_wp2_with fail
  with_reducible refine c1.mono ?_
  clear c1 q0 q1
  rintro e w2 ⟨rfl, hb2⟩
  have HG2 := Lib.hid ((hb2.block _ (blk_lt HG1.out)).trans HG1.out)
  have HB2 := Lib.hid (HB1.out.trans (hb2.mono HB1.out.size))
  have HO2 := Lib.hid (own_below HOE.out hb2)
  clear hb2 HG1 HB1 HOE
  cases r1 with
  | false =>
    have HT := Lib.hid (HRF2.out (by first | rfl | trivial))
    clear HRF HRT HRF2 HRT2 c2
    go_wp2_with fail
    go_ret
    exact ⟨_, rfl, [], HT.out, HO2.out, HB2.out⟩
  | true =>
  have c2 := c2 w2 (HA.out.next HB2.out)
  obtain ⟨q0, q1⟩ := gb_cells HG2.out
  go_wp2_with fail
  with_reducible refine c2.mono ?_
  clear c2 q0 q1
  rintro e w3 ⟨rfl, hb3⟩
  have HG3 := Lib.hid ((hb3.block _ (blk_lt HG2.out)).trans HG2.out)
  have HB3 := Lib.hid (HB2.out.trans (hb3.mono HB2.out.size))
  have HO3 := Lib.hid (own_below HO2.out hb3)
  clear hb3 HG2 HB2 HO2
  cases r2 with
  | false =>
    have HT := Lib.hid (HRT2.out (by first | rfl | trivial))
    clear HRF HRT HRF2 HRT2
    go_wp2_with fail
    go_ret
    exact ⟨_, rfl, [], HT.out, HO3.out, HB3.out⟩
  | true =>
  have HCF := Lib.hid (HRF.out (by first | rfl | trivial))
  have HCT := Lib.hid (HRT.out (by first | rfl | trivial))
  have HOk := Lib.hid (Gr.chk_ok HCF.out.1)
  have hf := Gr.isN_lt HCF.out.2
  have ht := Gr.isN_lt HCT.out.2
  obtain ⟨fn, rfl⟩ : ∃ n : Nat, f = (n : Int) := ⟨f.toNat, by omega⟩
  obtain ⟨tn, rfl⟩ : ∃ n : Nat, t = (n : Int) := ⟨t.toNat, by omega⟩
  have hfl : fn < g.ns.length := by omega
  have htl : tn < g.ns.length := by omega
  have hnl := HOk.out.nl
  have y1 : (fn : Int) < (g.ns.length : Int) := by omega
  clear hf ht HRF HRT HRF2 HRT2
  have c3 := qdist_any g tn (-1) A B c d w3 (HA.out.next HB3.out) HOk.out htl
  obtain ⟨q0, q1⟩ := gb_cells HG3.out
  go_wp2_with fail
  with_reducible refine c3.mono ?_
  clear c3 q0 q1
  rintro e w5 ⟨gl, rfl, L, hrow, hL, _, hb5⟩
  have HG5 := Lib.hid ((hb5.block _ (blk_lt HG3.out)).trans HG3.out)
  have HB5 := Lib.hid (HB3.out.trans (hb5.mono HB3.out.size))
  have HO5 := Lib.hid (own_below HO3.out hb5)
  have HLd := Lib.hid (show 0 ≤ L fn ↔ Gr.Led g (fn : Int) (tn : Int) by
    rw [← decide_eq_true_eq (p := 0 ≤ L fn), Gr.lab_iff hL fn]
    exact ⟨fun h => ⟨HCF.out.1, HCF.out.2, HCT.out.2, by rwa [Int.toNat_natCast]⟩, fun h => by have := h.2.2.2; rwa [Int.toNat_natCast] at this⟩)
  have e0 : w5.cell? ⟨gl, fn, none⟩ = some (.int .i64 (L fn)) := hrow.cell hfl
  clear hb5 hL hrow HG3 HB3 HO3
  by_cases hneg : L fn < 0
  · have d1 : decide (L fn < 0) = true := decide_eq_true hneg
    have HT := Lib.hid (show Gr.GtQ g (fn : Int) (tn : Int) [] from ⟨fun h => (by have := HLd.out.2 h; omega), fun _ => rfl⟩)
    clear hneg
    go_wp2_with fail
    go_ret
    exact ⟨_, rfl, [], HT.out, HO5.out, HB5.out⟩
  have d1 : decide (L fn < 0) = false := decide_eq_false hneg
  have HLed := Lib.hid (HLd.out.1 (by omega))
  have HPD := Lib.hid (show ∃ p : Nat → Bool, ∀ m, p m = true ↔ Gr.gtq g fn tn m from ⟨fun m => @decide (Gr.gtq g fn tn m) (Classical.propDecidable _), fun m => @decide_eq_true_iff _ (Classical.propDecidable _)⟩)
  obtain ⟨p, hp⟩ := HPD.out
  have HP := Lib.hid hp
  have HR := Lib.hid (show Gr.GtQ g (fn : Int) (tn : Int) (Gr.chs p g.ns.length) from ⟨fun _ => ⟨p, fun m _ => (by rw [Int.toNat_natCast, Int.toNat_natCast]; exact hp m), rfl⟩, fun h => absurd HLed.out h⟩)
  clear hp HPD HLd hneg
  obtain ⟨q0, q1⟩ := gb_cells HG5.out
  go_wp2_with fail
  clear q0 q1 d1 e0
  go_loopw [7, 8] (fun s7 s8 wr => ∃ k : Nat, s8 = .int .i64 k ∧ k ≤ g.ns.length ∧ wr.ownsRow w.heap.size 3 1 s7 (Gr.chs p k).length (Gr.insV (Gr.chs p k)) ∧ wr.heap[w.heap.size]? = some (grO A B c d g) ∧ Below w.heap.size w wr) (fun _ s8 _ => g.ns.length - (intOf s8).toNat)
  case atStart => exact ⟨0, rfl, by omega, HO5.out, HG5.out, HB5.out⟩
  case round =>
    obtain ⟨k, rfl, hk, hown, hG, hb⟩ := hrel
    have hcl := Gr.chs_len p k
    obtain ⟨q0, q1⟩ := gb_cells hG
    by_cases hlt : k < g.ns.length
    · have b1 : decide ((k : Int) < (g.ns.length : Int)) = true := decide_eq_true (by omega)
      have b1n : decide (k < g.ns.length) = true := decide_eq_true hlt
      have HT := Lib.hid (Gr.chs_succ p k)
      have HPK := Lib.hid (HP.out k)
      have HG := Lib.hid hG
      have HB := Lib.hid hb
      have HO := Lib.hid hown
      generalize Gr.chs p k = T at *
      clear hG hb hown
      by_cases e1 : k = fn
      · have x1 : ((k : Int) == (fn : Int)) = true := by rw [e1]; simp
        have HPV := Lib.hid (show p k = true from HPK.out.2 (.inl e1))
        clear e1 HPK
        have HT' := Lib.hid (show Gr.chs p (k + 1) = T ++ [(k : Int)] by rw [HT.out, HPV.out]; rfl)
        have hsz := HB.out.size
        have HG5 := Lib.hid ((blk_alloc_lt wr (.cells #[.int .i64 k] 3) _ (blk_lt HG.out)).trans HG.out)
        clear HT HPV
        go_wp2_with (at_builtin; refine wpList_append_own_wide _ (by rfl) _ _ 29 (by rfl) w.heap.size 3 i0 _ 1 8 Try.underlying29 hi0 hz0 hz1 hz2 rfl (by omega) _ T.length _ (by rfl) (HO.out.alloc _) ⟨wr.heap.size, 0, none⟩ 1 1 [_] (by rfl) (by rfl) (World.news_of_block (cs := #[_]) (t := 3) (fr := (0, 0)) (heap_alloc_new wr _)) (by simp [Value.oneCell']) (by unfold maxLen; omega) (by omega) (by simp; omega) ?_; intro v6 w6 hown6 hgrow6 _)
        have HO6 := Lib.hid hown6
        have HB6 := Lib.hid (below_grown (HB.out.alloc hsz _) (by simp; omega) (HO.out.alloc _) hgrow6)
        have HG6 := Lib.hid (show w6.heap[w.heap.size]? = some (grO A B c d g) by
          rw [hgrow6.block w.heap.size (blk_lt HG5.out) (fun hx => by
            obtain ⟨c', fz, hx2⟩ := Lib.ownsRow_kind (HO.out.alloc (.cells #[.int .i64 k] 3)) _ hx.symm
            exact kind_ne HG5.out hx2 (by decide) rfl)]
          exact HG5.out)
        clear hown6 hgrow6
        go_wp2_with fail
        go_roundw
        case rel => exact ⟨k + 1, by go_num, by omega, by rw [HT'.out, List.length_append, List.length_singleton, Gr.insV_app, Gr.insV_one]; exact HO6.out, HG6.out, HB6.out⟩
        case measure => simp [intOf]; omega
      have x1 : ((k : Int) == (fn : Int)) = false := by rw [beq_eq_false_iff_ne]; omega
      by_cases e2 : k = tn
      · have x2 : ((k : Int) == (tn : Int)) = true := by rw [e2]; simp
        have HPV := Lib.hid (show p k = true from HPK.out.2 (.inr (.inl e2)))
        clear e1 e2 HPK
        have HT' := Lib.hid (show Gr.chs p (k + 1) = T ++ [(k : Int)] by rw [HT.out, HPV.out]; rfl)
        have hsz := HB.out.size
        have HG5 := Lib.hid ((blk_alloc_lt wr (.cells #[.int .i64 k] 3) _ (blk_lt HG.out)).trans HG.out)
        clear HT HPV
        go_wp2_with (at_builtin; refine wpList_append_own_wide _ (by rfl) _ _ 29 (by rfl) w.heap.size 3 i0 _ 1 8 Try.underlying29 hi0 hz0 hz1 hz2 rfl (by omega) _ T.length _ (by rfl) (HO.out.alloc _) ⟨wr.heap.size, 0, none⟩ 1 1 [_] (by rfl) (by rfl) (World.news_of_block (cs := #[_]) (t := 3) (fr := (0, 0)) (heap_alloc_new wr _)) (by simp [Value.oneCell']) (by unfold maxLen; omega) (by omega) (by simp; omega) ?_; intro v6 w6 hown6 hgrow6 _)
        have HO6 := Lib.hid hown6
        have HB6 := Lib.hid (below_grown (HB.out.alloc hsz _) (by simp; omega) (HO.out.alloc _) hgrow6)
        have HG6 := Lib.hid (show w6.heap[w.heap.size]? = some (grO A B c d g) by
          rw [hgrow6.block w.heap.size (blk_lt HG5.out) (fun hx => by
            obtain ⟨c', fz, hx2⟩ := Lib.ownsRow_kind (HO.out.alloc (.cells #[.int .i64 k] 3)) _ hx.symm
            exact kind_ne HG5.out hx2 (by decide) rfl)]
          exact HG5.out)
        clear hown6 hgrow6
        go_wp2_with fail
        go_roundw
        case rel => exact ⟨k + 1, by go_num, by omega, by rw [HT'.out, List.length_append, List.length_singleton, Gr.insV_app, Gr.insV_one]; exact HO6.out, HG6.out, HB6.out⟩
        case measure => simp [intOf]; omega
      have x2 : ((k : Int) == (tn : Int)) = false := by rw [beq_eq_false_iff_ne]; omega
      have cc := qdist_any g tn (k : Int) A B c d wr (HA.out.next HB.out) HOk.out htl
      have HNE := Lib.hid (And.intro e1 e2)
      clear e1 e2
      go_wp2_with fail
      with_reducible refine cc.mono ?_
      clear cc q0 q1
      rintro e w4 ⟨gk, rfl, L2, hrow, hL, _, hb4⟩
      have HB4 := Lib.hid (HB.out.trans (hb4.mono HB.out.size))
      have HG4 := Lib.hid ((hb4.block _ (blk_lt HG.out)).trans HG.out)
      have HO4 := Lib.hid (own_below HO.out hb4)
      have HPK2 := Lib.hid (show p k = true ↔ L2 fn < 0 by
        rw [HPK.out]
        unfold Gr.gtq
        rw [← Gr.lab_iff hL fn, decide_eq_true_eq]
        constructor
        · intro h
          have := (h.resolve_left HNE.out.1).resolve_left HNE.out.2
          omega
        · intro h
          right; right; omega)
      have e3 : w4.cell? ⟨gk, fn, none⟩ = some (.int .i64 (L2 fn)) := hrow.cell hfl
      clear hb4 hrow hL HB HG HO HPK HNE
      by_cases hn2 : L2 fn < 0
      · have d2 : decide (L2 fn < 0) = true := decide_eq_true hn2
        have HPV := Lib.hid (HPK2.out.2 hn2)
        clear hn2 HPK2
        go_upto_region 8 with (fail)
        clear e3 d2
        have HT' := Lib.hid (show Gr.chs p (k + 1) = T ++ [(k : Int)] by rw [HT.out, HPV.out]; rfl)
        have hsz := HB4.out.size
        have HG5 := Lib.hid ((blk_alloc_lt w4 (.cells #[.int .i64 k] 3) _ (blk_lt HG4.out)).trans HG4.out)
        clear HT HPV
        go_wp2_with (at_builtin; refine wpList_append_own_wide _ (by rfl) _ _ 29 (by rfl) w.heap.size 3 i0 _ 1 8 Try.underlying29 hi0 hz0 hz1 hz2 rfl (by omega) _ T.length _ (by rfl) (HO4.out.alloc _) ⟨w4.heap.size, 0, none⟩ 1 1 [_] (by rfl) (by rfl) (World.news_of_block (cs := #[_]) (t := 3) (fr := (0, 0)) (heap_alloc_new w4 _)) (by simp [Value.oneCell']) (by unfold maxLen; omega) (by omega) (by simp; omega) ?_; intro v6 w6 hown6 hgrow6 _)
        have HO6 := Lib.hid hown6
        have HB6 := Lib.hid (below_grown (HB4.out.alloc hsz _) (by simp; omega) (HO4.out.alloc _) hgrow6)
        have HG6 := Lib.hid (show w6.heap[w.heap.size]? = some (grO A B c d g) by
          rw [hgrow6.block w.heap.size (blk_lt HG5.out) (fun hx => by
            obtain ⟨c', fz, hx2⟩ := Lib.ownsRow_kind (HO4.out.alloc (.cells #[.int .i64 k] 3)) _ hx.symm
            exact kind_ne HG5.out hx2 (by decide) rfl)]
          exact HG5.out)
        clear hown6 hgrow6
        go_wp2_with fail
        go_roundw
        case rel => exact ⟨k + 1, by go_num, by omega, by rw [HT'.out, List.length_append, List.length_singleton, Gr.insV_app, Gr.insV_one]; exact HO6.out, HG6.out, HB6.out⟩
        case measure => simp [intOf]; omega
      · have d2 : decide (L2 fn < 0) = false := decide_eq_false hn2
        have HPV := Lib.hid (show p k = false by
          cases hv : p k with
          | false => rfl
          | true => exact absurd (HPK2.out.1 hv) hn2)
        have HT' := Lib.hid (show Gr.chs p (k + 1) = T by rw [HT.out, HPV.out]; rfl)
        clear hn2 HPK2 HT HPV
        go_wp2_with fail
        go_roundw
        case rel => exact ⟨k + 1, by go_num, by omega, by rw [HT'.out]; exact HO4.out, HG4.out, HB4.out⟩
        case measure => simp [intOf]; omega
    · have b1 : decide ((k : Int) < (g.ns.length : Int)) = false := decide_eq_false (by omega)
      have b1n : decide (k < g.ns.length) = false := decide_eq_false hlt
      have hkn : k = g.ns.length := by omega
      have HO := Lib.hid hown
      have HB := Lib.hid hb
      have HK := Lib.hid hkn
      clear hown hb hkn hG
      go_wp2_with fail
      go_ret
      exact ⟨_, rfl, _, HR.out, by rw [← HK.out]; exact HO.out, HB.out⟩
end Go.Proofs.Ytdiaejdoglccoaa
