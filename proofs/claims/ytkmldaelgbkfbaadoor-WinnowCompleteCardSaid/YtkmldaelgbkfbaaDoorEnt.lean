/- Select's function literal: a further position among the candidates. No condition but the lengths. -/
import Derived.Test.YtkmldaelgbkfbaaDoorWel
namespace Go.Proofs.YtkmldaelgbkfbaaDoor
open Go.RowKit Go.Deep
namespace Wn
def ints (l : List Nat) : List Int := l.map fun n : Nat => (n : Int)
theorem ints_len (l : List Nat) : (ints l).length = l.length := by unfold ints; rw [List.length_map]
theorem ints_app (a b : List Nat) : ints (a ++ b) = ints a ++ ints b := by unfold ints; rw [List.map_append]
theorem ints_take (l : List Nat) (m : Nat) : ints (l.take m) = (ints l).take m := by unfold ints; rw [List.map_take]
theorem ints_get (l : List Nat) (i : Nat) (h : i < l.length) : (ints l)[i]'(by rw [ints_len]; exact h) = (l[i] : Int) := by unfold ints; rw [List.getElem_map]
/-- Nothing has turned but a variable and the block of the list that it held. -/
structure Tn (w w' : World) (cb : Nat) (v : Value) : Prop where
  os : w'.os = w.os
  tape : w'.tape = w.tape
  output : w'.output = w.output
  size : w.heap.size ≤ w'.heap.size
  block : ∀ k, k < w.heap.size → k ≠ cb → v.ownBlock ≠ some k → w'.heap[k]? = w.heap[k]?
set_option maxHeartbeats 8000000 in
set_option maxRecDepth 100000 in
theorem enter_any (l : List Int) (A : Option Addr) (c lo n B lb cb : Nat) (v : Value) (w : World) (hl : w.heap[lb]? = some (.cells #[.slice A l.length c] 47 (0, 0))) (hc : w.heap[cb]? = some (.cells #[v] 47 (0, 0)))
    (hA : Gr.InAt w B A l) (hq : QAt w B v (ints (cnd l lo n))) (hlo : lo ≤ n) (hn : n < l.length) (hlen : l.length ≤ 100000) (hne : lb ≠ cb) (hB : B ≤ w.heap.size) (hBc : B ≤ cb) :
    Calls Tryd.prog 32 #[.int .i64 n, .pointer (some ⟨cb, 0, none⟩), .pointer (some ⟨lb, 0, none⟩)] w fun e w' => e = .returned (.tuple #[]) ∧ ∃ v', w'.heap[cb]? = some (.cells #[v'] 47 (0, 0)) ∧ QAt w' B v' (ints (cnd l lo (n + 1))) ∧ Tn w w' cb v ∧ (∀ g, v'.ownBlock = some g → v.ownBlock = some g ∨ w.heap.size ≤ g) := by
  obtain ⟨i0, hi0, hz0, hz1, hz2⟩ := info_parts infoIn
  have HEN := Lib.hid (fun m => cnd_enter l lo n m hlo)
  have hcl := cnd_len l lo n
  have HLT := Lib.hid (show ∀ i, (h : i < (cnd l lo n).length) → (cnd l lo n)[i] < n from fun i h => (mem_cnd.1 (List.getElem_mem h)).1)
  have HAA := Lib.hid hA
  have HN := Lib.hid hn
  have HVB := Lib.hid (show ∀ g, v.ownBlock = some g → g ≠ cb from fun g hg e => by
    obtain ⟨_, _, cur, h3⟩ := hq.lt g hg
    exact kind_ne h3 hc (by decide) e)
  have HCB := Lib.hid (blk_lt hc)
  have HNE := Lib.hid hne
  have HLL := Lib.hid (blk_lt hl)
  generalize cnd l lo (n + 1) = r at *
  generalize cnd l lo n = q at *
  have HQ := Lib.hid hq
  have HC := Lib.hid hc
  have HL := Lib.hid hl
  have HB := Lib.hid hB
  have HBC := Lib.hid hBc
  clear hq hc hl hA hn hne hB hBc
  go_enter Tryd.func32, Tryd.ntmps32
  go_wp2_with fail
  go_loopg [] q.length (fun gk wr => ∃ (m : Nat) (u : Value), m = gk ∧ m ≤ q.length ∧ wr.heap[cb]? = some (.cells #[u] 47 (0, 0)) ∧ QAt wr B u (ints (q.take m)) ∧ Tn w wr cb v ∧ u.ownBlock = v.ownBlock ∧ (∀ i, m ≤ i → (hi : i < q.length) → l.getD n 0 ≤ l.getD q[i] 0))
  case atStart => exact ⟨q.length, v, rfl, Nat.le_refl _, HC.out, by rw [List.take_length]; exact HQ.out, ⟨rfl, rfl, rfl, Nat.le_refl _, fun _ _ _ _ => rfl⟩, rfl, fun i h1 h2 => by omega⟩
  case round =>
    obtain ⟨m, u, rfl, hm, hcr, hqr, htn, hob, hge⟩ := hrel
    have l0 : wr.cell? ⟨lb, 0, none⟩ = some (.slice A l.length c) := by
      rw [cell_of_row _ _ _ _ _ _ ((htn.block lb HLL.out HNE.out fun e => ?_).trans HL.out)]
      · rfl
      · obtain ⟨_, _, cur, h3⟩ := HQ.out.lt lb e
        exact kind_ne h3 HL.out (by decide) rfl
    obtain ⟨gl, ol, hAe, hgl, hcl1⟩ := HAA.out.row (by have := HN.out; omega)
    have hlr : ∀ j (h : j < l.length), wr.cell? ⟨gl, ol + j, none⟩ = some (.int .i64 (l.getD j 0)) := fun j h => by
      have h1 := hcl1 j h 0 _ rfl
      rw [Nat.mul_one] at h1
      rw [List.getD_eq_getElem?_getD, List.getElem?_eq_getElem h]
      have hb := htn.block gl (by have := HB.out; omega) (by have := HBC.out; omega) (fun e => by have := (HQ.out.lt gl e).2.1; omega)
      show wr.cell? ⟨gl, ol + j, none⟩ = _
      unfold World.cell? at h1 ⊢
      rw [hb]
      exact h1
    subst hAe
    by_cases h0 : m = 0
    · subst h0
      have hR := HEN.out 0 hm hge (.inl rfl)
      obtain ⟨ao, cap, hu, hz, hcm, hlc, hblk⟩ := hqr.ex
      rw [ints_len, List.length_take, Nat.min_eq_left hm] at hu hlc
      have e9 : wr.cell? ⟨cb, 0, none⟩ = some (.slice ao 0 cap) := by rw [cell_of_row _ _ _ _ _ _ hcr, hu]; rfl
      skip
      go_wp2_with fail
      go_region
      go_upto_region 2 with (fail)
      obtain ⟨w1, hw1⟩ : ∃ w1, w1 = wr.drew := ⟨_, rfl⟩
      have hcr1 : w1.heap[cb]? = some (.cells #[u] 47 (0, 0)) := by rw [hw1]; exact hcr
      have hqr1 : QAt w1 B u (ints (q.take 0)) := by rw [hw1]; exact hqr.same fun _ _ => rfl
      have htn1 : Tn w w1 cb v := by rw [hw1]; exact ⟨htn.os, htn.tape, htn.output, htn.size, htn.block⟩
      rw [← hw1]
      clear hcr hqr htn
      have hcr := hcr1
      have hqr := hqr1
      have htn := htn1
      clear hcr1 hqr1 htn1
      clear e9 l0 hlr 
      have hcr5 := (blk_alloc_lt w1 (.cells #[.int .i64 n] 3) _ (blk_lt hcr)).trans hcr
      have hqa5 := hqr.same fun g hg => blk_alloc_lt w1 (.cells #[.int .i64 n] 3) g (hqr.lt g hg).1
      have hnw := heap_alloc_new w1 (.cells #[.int .i64 n] 3)
      have hcn : (w1.alloc (.cells #[.int .i64 n] 3)).cell? ⟨w1.heap.size, 0, none⟩ = some (.int .i64 n) := by rw [cell_of_row _ _ _ _ _ _ hnw]; rfl
      have hszw : (w1.alloc (.cells #[.int .i64 n] 3)).heap.size = w1.heap.size + 1 := by simp
      have hsz : B ≤ (w1.alloc (.cells #[.int .i64 n] 3)).heap.size := by have := HB.out; have := htn.size; omega
      have e9 : w1.cell? ⟨cb, 0, none⟩ = some (.slice ao 0 cap) := by rw [cell_of_row _ _ _ _ _ _ hcr, hu]; rfl
      have hql : (ints (q.take 0)).length ≤ 100000 := by rw [ints_len, List.length_take]; have := HN.out; omega
      have hbl : ∀ k, k < w1.heap.size → (w1.alloc (.cells #[.int .i64 n] 3)).heap[k]? = w1.heap[k]? := fun k hk => blk_alloc_lt w1 _ k hk
      rw [show (Value.slice ao 0 cap) = u from hu.symm] at e9
      have HZ := Lib.hid hszw
      have HTN := Lib.hid htn
      have HCR := Lib.hid hcr5
      have HBL := Lib.hid hbl
      have HR := Lib.hid hR
      have HU := Lib.hid hu
      have HOB := Lib.hid hob
      clear hw1 hcr hqr htn hcr5 hnw hszw hbl hob hz hblk hR hge hlc hcm
      subst hu
      go_wp2_with (at_builtin; refine wpList_append_q (by rfl) _ _ 47 (by rfl) B i0 Tryd.underlying47 hi0 hz0 hz1 hz2 _ _ (by rfl) hqa5 ⟨w1.heap.size, 0, none⟩ n (by rfl) hcn hql hsz ?_; intro v6 w6 hq6 hg6 hat6; obtain ⟨ao6, n6, cap6, rfl⟩ : ∃ ao6 n6 cap6, v6 = Value.slice ao6 n6 cap6 := (by obtain ⟨a, c, e, _⟩ := hq6.ex; exact ⟨a, _, c, e⟩); have q6 := (hg6.block cb (by rw [HZ.out]; have := HTN.out.size; have := HCB.out; omega) (fun e => HVB.out cb (HOB.out.symm.trans e.symm) rfl)).trans HCR.out; have c6 : w6.cell? ⟨cb, 0, none⟩ = some (.slice ao 0 cap) := (by rw [cell_of_row _ _ _ _ _ _ q6]; rfl); have f6 := frozen_of_row w6 cb 0 _ _ q6; have HS6 := Lib.hid (heap_setCell_same w6 cb 0 _ _ (.slice ao6 n6 cap6) q6); have HG6 := Lib.hid hg6; have HA6 := Lib.hid hat6; have HQQ := Lib.hid hq6; clear hq6 hg6 hat6 q6)
      go_wp2_with fail
      go_end0
      refine ⟨rfl, _, HS6.out, ?_, ⟨?_, ?_, ?_, ?_, ?_⟩, ?_⟩
      · rw [← HR.out, ints_app]
        exact HQQ.out.same fun g hg => heap_setCell_other w6 ⟨cb, 0, none⟩ g _ (fun e => by
          rcases HA6.out g hg with h | h
          · exact HVB.out g (HOB.out.symm.trans h) e
          · rw [HZ.out] at h; have := HTN.out.size; have := HCB.out; have e2 : g = cb := e; omega)
      · exact HG6.out.os.trans HTN.out.os
      · exact HG6.out.tape.trans HTN.out.tape
      · exact HG6.out.output.trans HTN.out.output
      · have := HG6.out.size; rw [HZ.out] at this; have := HTN.out.size
        simp
        omega
      · intro k hk h1 h2
        have hk1 : k < w1.heap.size := by have := HTN.out.size; omega
        exact (heap_setCell_other w6 ⟨cb, 0, none⟩ k _ h1).trans ((HG6.out.block k (by rw [HZ.out]; omega) (fun e => h2 (HOB.out.symm.trans e.symm))).trans ((HBL.out k hk1).trans (HTN.out.block k hk h1 h2)))
      · intro g hg
        rcases HA6.out g hg with h | h
        · exact .inl (HOB.out.symm.trans h)
        · right; rw [HZ.out] at h; have := HTN.out.size; omega
    · obtain ⟨m, rfl⟩ : ∃ k, m = k + 1 := ⟨m - 1, by omega⟩
      have b0 : decide ((0 : Int) < ((m + 1 : Nat) : Int)) = true := decide_eq_true (by omega)
      have hmq : m < q.length := by omega
      have hx := HLT.out m hmq
      have hex : ∃ g o cap, u = .slice (some ⟨g, o, none⟩) (m + 1) cap ∧ m + 1 ≤ cap ∧ wr.cell? ⟨g, o + m, none⟩ = some (.int .i64 (q[m] : Int)) ∧ QAt wr B (.slice (some ⟨g, o, none⟩) m cap) (ints (q.take m)) := by
        have hl1 : (ints (q.take (m + 1))).length = m + 1 := by rw [ints_len, List.length_take]; omega
        obtain ⟨g, o, cap, h1, h2, _, _, _, h3, h4⟩ := hqr.cut (by omega)
        rw [hl1] at h1 h2
        refine ⟨g, o, cap, h1, h2, ?_, ?_⟩
        · rw [h3 m (by omega), ints_get _ _ (by rw [List.length_take]; omega), List.getElem_take]
        · have := h4 m (by omega)
          rwa [← ints_take, List.take_take, Nat.min_eq_left (by omega)] at this
      have hs : ∀ i, m ≤ i → (hi : i < q.length) → l.getD n 0 ≤ l.getD q[m] 0 → l.getD n 0 ≤ l.getD q[i] 0 := fun i h1 h2 h3 => by
        by_cases e : i = m
        · subst e; exact h3
        · exact hge i (by omega) h2
      have hen := HEN.out (m + 1) hm hge
      simp only [Nat.add_sub_cancel] at hen
      by_cases hle : l.getD n 0 ≤ l.getD q[m] 0
      · have hge2 : ∀ i, m ≤ i → (hi : i < q.length) → l.getD n 0 ≤ l.getD q[i] 0 := fun i h1 h2 => hs i h1 h2 hle
        obtain ⟨g, o, cap, rfl, hcap, hcm, hqm⟩ := hex
        have e9 : wr.cell? ⟨cb, 0, none⟩ = some (.slice (some ⟨g, o, none⟩) (m + 1) cap) := by rw [cell_of_row _ _ _ _ _ _ hcr]; rfl
        have f9 := frozen_of_row wr cb 0 _ _ hcr
        have hln := hlr n HN.out
        have hlx := hlr q[m] (by have := HN.out; omega)
        have d1 : decide (l.getD n 0 ≤ l.getD q[m] 0) = true := decide_eq_true hle
        have y2 : (q[m] : Int) < (l.length : Int) := by have := HN.out; omega
        have y3 : (n : Int) < (l.length : Int) := by have := HN.out; omega
        have HST := Lib.hid (heap_setCell_same wr cb 0 _ _ (.slice (some ⟨g, o, none⟩) m cap) hcr)
        have HQM := Lib.hid (hqm.same fun g' hg' => heap_setCell_other wr ⟨cb, 0, none⟩ g' (.slice (some ⟨g, o, none⟩) m cap) (fun e => HVB.out g' (hob.symm.trans hg') e))
        have HTN := Lib.hid (show Tn w (wr.setCell ⟨cb, 0, none⟩ (.slice (some ⟨g, o, none⟩) m cap)) cb v from ⟨htn.os, htn.tape, htn.output, by simpa using htn.size, fun k hk h1 h2 => (heap_setCell_other wr ⟨cb, 0, none⟩ k _ h1).trans (htn.block k hk h1 h2)⟩)
        have HOB := Lib.hid hob
        have HG2 := Lib.hid hge2
        generalize q[m] = x at *
        generalize l.getD n 0 = zn at *
        generalize l.getD x 0 = zx at *
        have x1 : IntKind.i64.wrap (((m + 1 : Nat) : Int) - 1) = (m : Int) := by rw [IntKind.wrap_i64]; omega
        have x2 : (m : Int) < ((m + 1 : Nat) : Int) := by omega
        have x3 : (m : Int) ≤ (cap : Int) := by omega
        clear hcr hqr htn hob hge hge2 hs hen hle hqm hlr HEN HLT
        go_wp2_with fail
        go_region
        go_wp2_with fail
        go_roundg m
        case measure => omega
        case rel => exact ⟨m, _, rfl, by omega, HST.out, HQM.out.same fun _ _ => rfl, ⟨HTN.out.os, HTN.out.tape, HTN.out.output, HTN.out.size, HTN.out.block⟩, HOB.out, HG2.out⟩
      · have hR := hen (.inr ⟨hmq, by omega⟩)
        obtain ⟨g0, o0, cap0, hu0, hcap0, hcm0, _⟩ := hex
        have e8 : wr.cell? ⟨cb, 0, none⟩ = some (.slice (some ⟨g0, o0, none⟩) (m + 1) cap0) := by rw [cell_of_row _ _ _ _ _ _ hcr, hu0]; rfl
        have hln := hlr n HN.out
        have hlx := hlr q[m] (by have := HN.out; omega)
        have d1 : decide (l.getD n 0 ≤ l.getD q[m] 0) = false := decide_eq_false hle
        have y2 : (q[m] : Int) < (l.length : Int) := by have := HN.out; omega
        have y3 : (n : Int) < (l.length : Int) := by have := HN.out; omega
        have x1 : IntKind.i64.wrap (((m + 1 : Nat) : Int) - 1) = (m : Int) := by rw [IntKind.wrap_i64]; omega
        have x2 : (m : Int) < ((m + 1 : Nat) : Int) := by omega
        clear hen hs hle HEN HLT
        obtain ⟨zz, hzz⟩ : ∃ zz, zz = m + 1 := ⟨_, rfl⟩
        have HM1 := Lib.hid hzz
        generalize hqx : q[m] = x at *
        clear hqx hx
        generalize l.getD n 0 = zn at *
        generalize l.getD x 0 = zx at *
        obtain ⟨ao, cap, hu, hz, hcm, hlc, hblk⟩ := hqr.ex
        rw [ints_len, List.length_take, Nat.min_eq_left hm] at hu hlc
        have e9 : wr.cell? ⟨cb, 0, none⟩ = some (.slice ao (m + 1) cap) := by rw [cell_of_row _ _ _ _ _ _ hcr, hu]; rfl
        skip
        go_wp2_with fail
        go_region
        go_upto_region 2 with (fail)
        obtain ⟨w1, hw1⟩ : ∃ w1, w1 = wr.drew := ⟨_, rfl⟩
        have hcr1 : w1.heap[cb]? = some (.cells #[u] 47 (0, 0)) := by rw [hw1]; exact hcr
        have hqr1 : QAt w1 B u (ints (q.take (m + 1))) := by rw [hw1]; exact hqr.same fun _ _ => rfl
        have htn1 : Tn w w1 cb v := by rw [hw1]; exact ⟨htn.os, htn.tape, htn.output, htn.size, htn.block⟩
        rw [← hw1]
        clear hcr hqr htn
        have hcr := hcr1
        have hqr := hqr1
        have htn := htn1
        clear hcr1 hqr1 htn1
        clear e9 l0 hlr b0 d1 y2 y3 x1 x2 hln hlx e8 hcm0 hu0 hcap0 hmq
        have hcr5 := (blk_alloc_lt w1 (.cells #[.int .i64 n] 3) _ (blk_lt hcr)).trans hcr
        have hqa5 := hqr.same fun g hg => blk_alloc_lt w1 (.cells #[.int .i64 n] 3) g (hqr.lt g hg).1
        have hnw := heap_alloc_new w1 (.cells #[.int .i64 n] 3)
        have hcn : (w1.alloc (.cells #[.int .i64 n] 3)).cell? ⟨w1.heap.size, 0, none⟩ = some (.int .i64 n) := by rw [cell_of_row _ _ _ _ _ _ hnw]; rfl
        have hszw : (w1.alloc (.cells #[.int .i64 n] 3)).heap.size = w1.heap.size + 1 := by simp
        have hsz : B ≤ (w1.alloc (.cells #[.int .i64 n] 3)).heap.size := by have := HB.out; have := htn.size; omega
        have e9 : w1.cell? ⟨cb, 0, none⟩ = some (.slice ao (m + 1) cap) := by rw [cell_of_row _ _ _ _ _ _ hcr, hu]; rfl
        have hql : (ints (q.take (m + 1))).length ≤ 100000 := by rw [ints_len, List.length_take]; have := HN.out; omega
        have hbl : ∀ k, k < w1.heap.size → (w1.alloc (.cells #[.int .i64 n] 3)).heap[k]? = w1.heap[k]? := fun k hk => blk_alloc_lt w1 _ k hk
        rw [show (Value.slice ao (m + 1) cap) = u from hu.symm] at e9
        have HZ := Lib.hid hszw
        have HTN := Lib.hid htn
        have HCR := Lib.hid hcr5
        have HBL := Lib.hid hbl
        have HR := Lib.hid hR
        have HU := Lib.hid hu
        have HOB := Lib.hid hob
        clear hw1 hcr hqr htn hcr5 hnw hszw hbl hob hz hblk hR hge hlc hcm
        subst hu
        go_wp2_with (at_builtin; refine wpList_append_q (by rfl) _ _ 47 (by rfl) B i0 Tryd.underlying47 hi0 hz0 hz1 hz2 _ _ (by rfl) hqa5 ⟨w1.heap.size, 0, none⟩ n (by rfl) hcn hql hsz ?_; intro v6 w6 hq6 hg6 hat6; obtain ⟨ao6, n6, cap6, rfl⟩ : ∃ ao6 n6 cap6, v6 = Value.slice ao6 n6 cap6 := (by obtain ⟨a, c, e, _⟩ := hq6.ex; exact ⟨a, _, c, e⟩); have q6 := (hg6.block cb (by rw [HZ.out]; have := HTN.out.size; have := HCB.out; omega) (fun e => HVB.out cb (HOB.out.symm.trans e.symm) rfl)).trans HCR.out; have c6 : w6.cell? ⟨cb, 0, none⟩ = some (.slice ao (m + 1) cap) := (by rw [cell_of_row _ _ _ _ _ _ q6]; rfl); have f6 := frozen_of_row w6 cb 0 _ _ q6; have HS6 := Lib.hid (heap_setCell_same w6 cb 0 _ _ (.slice ao6 n6 cap6) q6); have HG6 := Lib.hid hg6; have HA6 := Lib.hid hat6; have HQQ := Lib.hid hq6; clear hq6 hg6 hat6 q6)
        go_wp2_with fail
        go_end0
        refine ⟨rfl, _, HS6.out, ?_, ⟨?_, ?_, ?_, ?_, ?_⟩, ?_⟩
        · rw [← HR.out, ints_app]
          exact HQQ.out.same fun g hg => heap_setCell_other w6 ⟨cb, 0, none⟩ g _ (fun e => by
            rcases HA6.out g hg with h | h
            · exact HVB.out g (HOB.out.symm.trans h) e
            · rw [HZ.out] at h; have := HTN.out.size; have := HCB.out; have e2 : g = cb := e; omega)
        · exact HG6.out.os.trans HTN.out.os
        · exact HG6.out.tape.trans HTN.out.tape
        · exact HG6.out.output.trans HTN.out.output
        · have := HG6.out.size; rw [HZ.out] at this; have := HTN.out.size
          simp
          omega
        · intro k hk h1 h2
          have hk1 : k < w1.heap.size := by have := HTN.out.size; omega
          exact (heap_setCell_other w6 ⟨cb, 0, none⟩ k _ h1).trans ((HG6.out.block k (by rw [HZ.out]; omega) (fun e => h2 (HOB.out.symm.trans e.symm))).trans ((HBL.out k hk1).trans (HTN.out.block k hk h1 h2)))
        · intro g hg
          rcases HA6.out g hg with h | h
          · exact .inl (HOB.out.symm.trans h)
          · right; rw [HZ.out] at h; have := HTN.out.size; omega
end Wn
end Go.Proofs.YtkmldaelgbkfbaaDoor
