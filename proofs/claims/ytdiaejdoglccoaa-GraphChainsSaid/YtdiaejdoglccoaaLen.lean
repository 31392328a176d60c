/- lengths. No condition but the lengths; the starts and the nodes behind nodes are nodes. -/
import Derived.Test.YtdiaejdoglccoaaBfs
import Derived.Deep.LoopGhost
namespace Go.Proofs.Ytdiaejdoglccoaa
open Go.RowKit Go.Deep Tr

namespace Gr
theorem vis_cnt {c : Int} {L : Nat → Int} {q : List Int} {n b : Nat} {x : Int} (hb : b < n) (hx : 0 ≤ x) : (visQ c L q b).length + ng (visL c L b x) n = q.length + ng L n := by
  unfold visL visQ
  by_cases hc : L b < 0 ∧ (b : Int) ≠ c
  · rw [if_pos hc, if_pos hc, List.length_append, List.length_singleton]
    have := ng_set L b x hx hc.1 n hb
    omega
  · rw [if_neg hc, if_neg hc]
/-- Labels are not greater than the number of nodes that have one. -/
def Bd (L : Nat → Int) (n : Nat) : Prop := ∀ m, L m + (ng L n : Int) ≤ (n : Int)
theorem Bd.init (n : Nat) : Bd (fun _ => -1) n := fun m => by have := ng_le (fun _ => -1) n; show (-1 : Int) + _ ≤ _; omega
theorem Bd.vis {c : Int} {L : Nat → Int} {n b : Nat} {x : Int} (h : Bd L n) (hb : b < n) (hx : 0 ≤ x) (hxn : x + (ng L n : Int) ≤ (n : Int) + 1) : Bd (visL c L b x) n := by
  unfold visL
  by_cases hc : L b < 0 ∧ (b : Int) ≠ c
  · rw [if_pos hc]
    have hn := ng_set L b x hx hc.1 n hb
    intro m
    show (if m = b then x else L m) + _ ≤ _
    have := h m
    split <;> omega
  · rw [if_neg hc]; exact h
end Gr
/-- The queue loses its first element. -/
theorem VAt.pop {w : World} {B lb cb qb gl n : Nat} {c : Int} {L : Nat → Int} {q t : List Int} {v v' : Value} (h : VAt w B lb cb qb gl n c L q) (hv : w.heap[qb]? = some (.cells #[v] 29 (0, 0))) (hq : QAt w B v' t) (he : v'.ownBlock = v.ownBlock) : VAt (w.setCell ⟨qb, 0, none⟩ v') B lb cb qb gl n c L t :=
  (h.push hv hq ⟨rfl, rfl, rfl, Nat.le_refl _, fun _ _ _ => rfl⟩ (fun g hg => .inl (by rw [← he]; exact hg))).1
/-- A row of a list of lists. -/
theorem Ws.read {w : World} {B g0 n : Nat} {R : Nat → List Int} (h : Ws w B g0 n R) {r : Nat} (hr : r < n) : ∃ A c, w.cell? ⟨g0, r, none⟩ = some (.slice A (R r).length c) ∧ Gr.InAt w w.heap.size A (R r) := by
  obtain ⟨⟨V, h1, h2, _⟩, _⟩ := h
  obtain ⟨A, c, hv, _, _, hat⟩ := Gr.own_el Gr.inV 1 Gr.inV_len (h2 r hr)
  exact ⟨A, c, by rw [h1.cell hr, hv], hat⟩
theorem in_cell {w : World} {B : Nat} {A : Option Addr} {l : List Int} (h : Gr.InAt w B A l) {k : Nat} (hk : k < l.length) : ∃ g o, A = some ⟨g, o, none⟩ ∧ g < B ∧ w.cell? ⟨g, o + k, none⟩ = some (.int .i64 l[k]) := by
  obtain ⟨g, o, e, hg, hc⟩ := h k hk
  have := hc 0 _ rfl
  rw [Nat.mul_one] at this
  exact ⟨g, o, e, hg, this⟩
set_option maxHeartbeats 16000000 in
set_option maxRecDepth 100000 in
theorem lengths_any (n g0 B0 : Nat) (R : Nat → List Int) (A : Option Addr) (S : List Int) (cS : Nat) (c : Int) (w : World) (hW : Ws w B0 g0 n R) (hA : Gr.InAt w w.heap.size A S) (hn : n ≤ 1024) (hSl : S.length ≤ 100000)
    (hS : ∀ x ∈ S, ∃ b : Nat, x = (b : Int) ∧ b < n) (hR : ∀ i, i < n → (R i).length ≤ 100000 ∧ ∀ x ∈ R i, ∃ b : Nat, x = (b : Int) ∧ b < n) :
    Calls Try.prog 39 #[.slice (some ⟨g0, 0, none⟩) n n, .slice A S.length cS, .int .i64 c] w fun e w' => ∃ gl, e = .returned (.slice (some ⟨gl, 0, none⟩) n n) ∧ ∃ L : Nat → Int, w'.rowIs gl 3 n (fun i => .int .i64 (L i)) ∧ Gr.Lab R S c L ∧ Gr.Bd L n ∧ w.heap.size ≤ gl ∧ Below w.heap.size w w' := by
  obtain ⟨i0, hi0, hz0, hz1, hz2⟩ := info_parts infoIn
  have hmk : ∀ w' : World, (Instr.makeSlice 29 (.int .i64 (n : Int)) (.int .i64 (n : Int))).run Try.prog w' = .ok (.slice (some ⟨w'.heap.size, 0, none⟩) n n) (w'.alloc (.cells (madeCells #[.int .i64 0] n) 3)) := fun w' =>
    run_make_row (P := Try.prog) 29 3 i0 (.int .i64 0) Try.underlying29 hi0 hz0 hz1 rfl .i64 .i64 n (by rw [hz2]; omega) (by omega) w'
  have HW := Lib.hid hW
  have HA := Lib.hid hA
  have HS := Lib.hid hS
  have HR := Lib.hid hR
  have hb0 : Below w.heap.size w (w.alloc (.cells #[.int .i64 c] 3)) := (Below.refl _ _).alloc (Nat.le_refl _) _
  have hc0 := heap_alloc_new w (.cells #[.int .i64 c] 3)
  clear hW hA hS hR
  go_enter Try.func39, Try.ntmps39
  go_upto_region 1 with (fail)
  have hs0 : (w.alloc (.cells #[.int .i64 c] 3)).heap.size = w.heap.size + 1 := by simp
  generalize hw0 : w.alloc (.cells #[.int .i64 c] 3) = w0 at *
  have hr1 := World.rowIs_made w0 (.int .i64 0) n 3
  have hb1 := hb0.alloc hb0.size (.cells (madeCells #[.int .i64 0] n) 3)
  have hc1 := (blk_alloc_lt w0 (.cells (madeCells #[.int .i64 0] n) 3) _ (blk_lt hc0)).trans hc0
  have hs1 : (w0.alloc (.cells (madeCells #[.int .i64 0] n) 3)).heap.size = w.heap.size + 2 := by simp [hs0]
  have hr2 := hr1.alloc (.cells #[.slice (some ⟨w0.heap.size, 0, none⟩) n n] 29)
  have hb2 := hb1.alloc hb1.size (.cells #[.slice (some ⟨w0.heap.size, 0, none⟩) n n] 29)
  have hc2 := (blk_alloc_lt _ (.cells #[.slice (some ⟨w0.heap.size, 0, none⟩) n n] 29) _ (blk_lt hc1)).trans hc1
  have hl2 := heap_alloc_new (w0.alloc (.cells (madeCells #[.int .i64 0] n) 3)) (.cells #[.slice (some ⟨w0.heap.size, 0, none⟩) n n] 29)
  have hs2 : ((w0.alloc (.cells (madeCells #[.int .i64 0] n) 3)).alloc (.cells #[.slice (some ⟨w0.heap.size, 0, none⟩) n n] 29)).heap.size = w.heap.size + 3 := by simp [hs0]
  rw [hs1] at hl2
  rw [hs0] at hr2 hb2 hc2 hl2 hs2
  clear hb0 hc0 hb1 hc1 hr1 hs1
  go_upto_region 2 with (fail)
  generalize (w0.alloc (.cells (madeCells #[.int .i64 0] n) 3)).alloc (.cells #[.slice (some ⟨w.heap.size + 1, 0, none⟩) n n] 29) = w2 at *
  clear hmk hs0 hw0
  obtain ⟨B, hB⟩ : ∃ x, x = w.heap.size := ⟨_, rfl⟩
  rw [← hB] at hr2 hb2 hc2 hl2 hs2 ⊢
  have HBw := Lib.hid hB
  clear hB
  obtain ⟨gl, hgl⟩ : ∃ x, x = B + 1 := ⟨_, rfl⟩
  obtain ⟨lb, hlb⟩ : ∃ x, x = B + 2 := ⟨_, rfl⟩
  obtain ⟨qb, hqb⟩ : ∃ x, x = B + 3 := ⟨_, rfl⟩
  rw [← hlb, ← hgl] at hl2
  rw [← hgl] at hr2
  rw [← hqb] at hs2
  rw [← hlb, ← hgl]
  have HN := Lib.hid (show gl = B + 1 ∧ lb = B + 2 ∧ qb = B + 3 from ⟨hgl, hlb, hqb⟩)
  clear hgl hlb hqb
  go_wp2_with fail
  go_loopw [21] (fun s21 wr => ∃ k : Nat, s21 = .int .i64 k ∧ k ≤ n ∧ wr.rowIs gl 3 n (fun i => .int .i64 (if i < k then -1 else 0)) ∧ wr.heap[B]? = some (.cells #[.int .i64 c] 3 (0, 0)) ∧ wr.heap[lb]? = some (.cells #[.slice (some ⟨gl, 0, none⟩) n n] 29 (0, 0)) ∧ wr.heap.size = qb ∧ Below B w wr) (fun s21 _ => n - (intOf s21).toNat)
  case atStart => exact ⟨0, rfl, by omega, hr2.congr fun i _ => by simp, hc2, hl2, hs2, hb2⟩
  case round =>
    clear hr2 hb2 hc2 hl2 hs2
    obtain ⟨k, rfl, hk, hrow, hc, hl, hs, hb⟩ := hrel
    by_cases hlt : k < n
    · have b1 : decide ((k : Int) < (n : Int)) = true := decide_eq_true (by omega)
      have b1n : decide (k < n) = true := decide_eq_true hlt
      have y1 : (k : Int) < (n : Int) := by omega
      have e1 : wr.cell? ⟨lb, 0, none⟩ = some (.slice (some ⟨gl, 0, none⟩) n n) := by rw [cell_of_row _ _ _ _ _ _ hl]; rfl
      have e2 : wr.cell? ⟨gl, k, none⟩ = some (.int .i64 0) := by rw [hrow.cell hlt]; simp
      have f2 := hrow.frozen k
      have hset := (hrow.set k (.int .i64 (-1))).congr (g := fun i => .int .i64 (if i < k + 1 then -1 else 0)) fun i hi => by
        by_cases e : i = k
        · simp [e]
        · simp only [e, if_false]
          by_cases e2 : i < k
          · rw [if_pos e2, if_pos (show i < k + 1 by omega)]
          · rw [if_neg e2, if_neg (show ¬ i < k + 1 by omega)]
      have o : ∀ g, g ≠ gl → (wr.setCell ⟨gl, k, none⟩ (.int .i64 (-1))).heap[g]? = wr.heap[g]? := fun g hg => heap_setCell_other wr ⟨gl, k, none⟩ g _ hg
      have hN := HN.out
      have H1 := Lib.hid hset
      have H2 := Lib.hid ((o B (by omega)).trans hc)
      have H3 := Lib.hid ((o lb (by omega)).trans hl)
      have H4 := Lib.hid (hb.setCell (p := ⟨gl, k, none⟩) (show B ≤ gl by omega) (.int .i64 (-1)))
      have H5 := Lib.hid (show (wr.setCell ⟨gl, k, none⟩ (.int .i64 (-1))).heap.size = qb by simpa using hs)
      clear hset o hN hrow hc hl hs hb
      go_wp2_with fail
      go_roundw
      case rel => exact ⟨k + 1, by go_num, by omega, H1.out, H2.out, H3.out, H5.out, H4.out⟩
      case measure => simp [intOf]; omega
    · have b1 : decide ((k : Int) < (n : Int)) = false := decide_eq_false (by omega)
      have b1n : decide (k < n) = false := decide_eq_false hlt
      have hN := HN.out
      have hV : VAt (wr.alloc (.cells #[.slice none 0 0] 29)) B lb B qb gl n c (fun _ => -1) [] := by
        have o : ∀ g, g < qb → (wr.alloc (.cells #[.slice none 0 0] 29)).heap[g]? = wr.heap[g]? := fun g hg => blk_alloc_lt wr _ g (by omega)
        have hq := heap_alloc_new wr (.cells #[.slice none 0 0] 29)
        rw [hs] at hq
        exact ⟨⟨_, hq, QAt.nil _ _, by simp [Value.ownBlock], by simp [Value.ownBlock]⟩, (o lb (by omega)).trans hl, (o B (by omega)).trans hc, (hrow.alloc _).congr fun i hi => by rw [if_pos (by omega)], by omega, by omega, by omega, by omega⟩
      have hb2 := hb.alloc (by omega) (.cells #[.slice none 0 0] 29)
      have hsz : B ≤ (wr.alloc (.cells #[.slice none 0 0] 29)).heap.size := by simp; omega
      have hqb : wr.heap.size = qb := hs
      clear hN hrow hc hl hs hb
      go_upto_region 9 with (fail)
      generalize wr.alloc (.cells #[.slice none 0 0] 29) = w4 at *
      clear hqb
      go_wp2_with fail
      go_loopw [31] (fun s31 wr => ∃ (k : Nat) (L : Nat → Int) (q : List Int), s31 = .int .i64 k ∧ k ≤ S.length ∧ Gr.Sta R S c n k L q ∧ Gr.Bd L n ∧ VAt wr B lb B qb gl n c L q ∧ Below B w wr) (fun s31 _ => S.length - (intOf s31).toNat)
      case atStart => exact ⟨0, _, _, rfl, by omega, Gr.Sta.init R S c n, Gr.Bd.init n, hV, hb2⟩
      case round =>
        clear hV hb2 hsz
        rename_i w5
        obtain ⟨k, L, q, rfl, hk, hSt, hBd, hV, hb⟩ := hrel
        have hBw : Below w.heap.size w wr := by rw [← HBw.out]; exact hb
        have hszB : B ≤ wr.heap.size := by rw [HBw.out]; exact hBw.size
        by_cases hlt : k < S.length
        · have b2 : decide ((k : Int) < (S.length : Int)) = true := decide_eq_true (by omega)
          have b2n : decide (k < S.length) = true := decide_eq_true hlt
          have y2 : (k : Int) < (S.length : Int) := by omega
          obtain ⟨g, o, rfl, hg, hc⟩ := in_cell HA.out hlt
          have d0 := (hBw.cell (p := ⟨g, o + k, none⟩) hg).trans hc
          obtain ⟨b, hbb, hbn⟩ := HS.out S[k] (List.getElem_mem hlt)
          rw [hbb] at d0
          have HSt := Lib.hid (hSt.step hlt hbb hbn)
          have HBd := Lib.hid (hBd.vis (c := c) (x := 0) hbn (Int.le_refl _) (by have := Gr.ng_le L n; omega))
          have hql := hSt.bas.cnt
          have cc := visit_any b 0 B lb B qb gl n c L q wr hbn hV (by omega) hszB
          clear hc hbb hBd hSt hql hV hBw
          generalize Gr.visL c L b 0 = L' at *
          generalize Gr.visQ c L q b = q' at *
          go_wp2_with fail
          with_reducible refine cc.mono ?_
          clear cc
          rintro e w6 ⟨rfl, hV6, hb6⟩
          have HV6 := Lib.hid hV6
          have HB6 := Lib.hid (hb.trans hb6)
          clear hV6 hb hb6 d0
          go_wp2_with fail
          go_roundw
          case rel => exact ⟨k + 1, L', q', by go_num, by omega, HSt.out, HBd.out, HV6.out, HB6.out⟩
          case measure => simp [intOf]; omega
        · have b2 : decide ((k : Int) < (S.length : Int)) = false := decide_eq_false (by omega)
          have b2n : decide (k < S.length) = false := decide_eq_false hlt
          have hBf := hSt.done hlt
          clear hSt hBw hszB
          go_wp2_with fail
          go_loopg [] (q.length + Gr.ng L n) (fun gk wr => ∃ (L : Nat → Int) (q : List Int), q.length + Gr.ng L n = gk ∧ Gr.Bfs R S c n L q ∧ Gr.Bd L n ∧ VAt wr B lb B qb gl n c L q ∧ Below B w wr)
          case atStart => exact ⟨L, q, rfl, hBf, hBd, hV, hb⟩
          case round =>
            clear hBf hBd hV hb
            obtain ⟨L, q, hgk, hBf, hBd, hV, hb⟩ := hrel
            have HGK := Lib.hid hgk
            have hql := hBf.bas.cnt
            clear hgk
            obtain ⟨v, hqv, hqa, hv1, hv2⟩ := hV.ex
            cases q with
            | nil =>
              obtain ⟨ao, cap, rfl, _⟩ := hqa.ex
              have e9 : wr.cell? ⟨qb, 0, none⟩ = some (.slice ao 0 cap) := by rw [cell_of_row _ _ _ _ _ _ hqv]; rfl
              have e7 : wr.cell? ⟨lb, 0, none⟩ = some (.slice (some ⟨gl, 0, none⟩) n n) := by rw [cell_of_row _ _ _ _ _ _ hV.lv]; rfl
              have HL := Lib.hid hBf.lab
              have HBd0 := Lib.hid hBd
              have HRo := Lib.hid hV.row
              have HB := Lib.hid (show Below w.heap.size w wr by rw [← HBw.out]; exact hb)
              have HG := Lib.hid (show w.heap.size ≤ gl by rw [← HBw.out]; have := HN.out; omega)
              clear hBf hBd hV hb hqv hqa hv1 hv2 hql HGK
              go_wp2_with fail
              go_ret
              exact ⟨gl, rfl, L, HRo.out, HL.out, HBd0.out, HG.out, HB.out⟩
            | cons x t =>
              obtain ⟨a, rfl, han, hla⟩ := hBf.bas.qs x (by simp)
              obtain ⟨g, o, cap, rfl, hle, hmax, hx, hp1, hp2, hp3⟩ := hqa.head
              have hIn := hBf.pop
              have e9 : wr.cell? ⟨qb, 0, none⟩ = some (.slice (some ⟨g, o, none⟩) (t.length + 1) cap) := by rw [cell_of_row _ _ _ _ _ _ hqv]; rfl
              have f9 := frozen_of_row wr qb 0 _ _ hqv
              rw [List.length_cons] at hql
              have z1 : decide ((0 : Int) < ((t.length + 1 : Nat) : Int)) = true := decide_eq_true (by omega)
              have HM := Lib.hid (show t.length + Gr.ng L n + 1 = gk by have := HGK.out; rw [List.length_cons] at this; omega)
              have HV := Lib.hid hV
              have HIn := Lib.hid hIn
              have HQV := Lib.hid hqv
              have HB := Lib.hid hb
              clear hV hIn hqv hb hBf hv1 hv2 hqa HGK
              by_cases hcap : cap = 1
              · obtain ⟨rfl, hq1⟩ := hp2 hcap
                subst hcap
                have HQ1 := Lib.hid hq1
                clear hp1 hp2 hp3 hq1
                have HVp := HV.out.pop HQV.out HQ1.out rfl
                have hbp := HB.out.setCell (p := ⟨qb, 0, none⟩) HV.out.b1 (.slice (some ⟨g, o, none⟩) 0 0)
                go_upto_region 17 with (fail)
                generalize wr.setCell ⟨qb, 0, none⟩ (.slice (some ⟨g, o, none⟩) 0 0) = w7 at *
                clear e9 f9 hx HV HQV HB HQ1
                have hB7 : Below w.heap.size w w7 := by rw [← HBw.out]; exact hbp
                obtain ⟨Ar, cr, hcr, hatr⟩ := HW.out.read han
                have d7 := (hB7.cell (p := ⟨g0, a, none⟩) HW.out.lt).trans hcr
                have y3 : (a : Int) < (n : Int) := by omega
                have hrl := (HR.out a han).1
                have HAT := Lib.hid hatr
                clear hcr hatr hB7
                go_wp2_with fail
                clear d7
                obtain ⟨wo7, rfl⟩ : ∃ x : World, x = w7 := ⟨_, rfl⟩
                go_loopw [52] (fun s52 wq => ∃ (j : Nat) (L' : Nat → Int) (q : List Int), s52 = .int .i64 j ∧ j ≤ (R a).length ∧ q.length + Gr.ng L' n = ([] : List Int).length + Gr.ng L n ∧ Gr.Inn R S c n a j L' q ∧ Gr.Bd L' n ∧ VAt wq B lb B qb gl n c L' q ∧ Below B w wq) (fun s52 _ => (R a).length - (intOf s52).toNat)
                case atStart => exact ⟨0, L, _, rfl, by omega, rfl, HIn.out, hBd, HVp, hbp⟩
                case round =>
                  clear HVp hbp hBd
                  rename_i w9
                  obtain ⟨j, L', q, rfl, hj, hcnt, hIn, hBd, hV, hb⟩ := hrel
                  by_cases hlt2 : j < (R a).length
                  · have b3 : decide ((j : Int) < ((R a).length : Int)) = true := decide_eq_true (by omega)
                    have b3n : decide (j < (R a).length) = true := decide_eq_true hlt2
                    have y4 : (j : Int) < ((R a).length : Int) := by omega
                    have hBq : Below w.heap.size w wr := by rw [← HBw.out]; exact hb
                    have hszq : B ≤ wr.heap.size := by rw [HBw.out]; exact hBq.size
                    obtain ⟨g', o', rfl, hg', hc'⟩ := in_cell HAT.out hlt2
                    have d1 := (hBq.cell (p := ⟨g', o' + j, none⟩) hg').trans hc'
                    obtain ⟨b, hbb, hbn⟩ := (HR.out a han).2 (R a)[j] (List.getElem_mem hlt2)
                    rw [hbb] at d1
                    have e7 : wr.cell? ⟨lb, 0, none⟩ = some (.slice (some ⟨gl, 0, none⟩) n n) := by rw [cell_of_row _ _ _ _ _ _ hV.lv]; rfl
                    have e8 : wr.cell? ⟨gl, a, none⟩ = some (.int .i64 (L' a)) := hV.row.cell han
                    have hla2 := hIn.la
                    have hbd2 := hBd a
                    have hwr : IntKind.i64.wrap (L' a + 1) = L' a + 1 := IntWalk.i64_in _ (by omega)
                    have hqc := hIn.bas.cnt
                    have cc := visit_any b (L' a + 1) B lb B qb gl n c L' q wr hbn hV (by omega) hszq
                    have HI := Lib.hid (hIn.step hlt2 hbb hbn).1
                    have HBd := Lib.hid (hBd.vis (c := c) (x := L' a + 1) hbn (by omega) (by omega))
                    have HCN := Lib.hid ((Gr.vis_cnt (c := c) (L := L') (q := q) (x := L' a + 1) hbn (by omega)).trans hcnt)
                    clear hc' hbb hBd hIn hqc hV hBq hcnt hla2 hbd2
                    generalize Gr.visL c L' b (L' a + 1) = L2 at *
                    generalize Gr.visQ c L' q b = q2 at *
                    go_wp2_with fail
                    with_reducible refine cc.mono ?_
                    clear cc
                    rintro e w8 ⟨rfl, hV8, hb8⟩
                    have HV8 := Lib.hid hV8
                    have HB8 := Lib.hid (hb.trans hb8)
                    clear hV8 hb hb8 d1 e7 e8 hwr
                    go_wp2_with fail
                    go_roundw
                    case rel => exact ⟨j + 1, L2, q2, by go_num, by omega, HCN.out, HI.out, HBd.out, HV8.out, HB8.out⟩
                    case measure => simp [intOf]; omega
                  · have b3 : decide ((j : Int) < ((R a).length : Int)) = false := decide_eq_false (by omega)
                    have b3n : decide (j < (R a).length) = false := decide_eq_false hlt2
                    have HBf := Lib.hid (hIn.full hlt2)
                    have HCN := Lib.hid hcnt
                    have HBd := Lib.hid hBd
                    have HV9 := Lib.hid hV
                    have HB9 := Lib.hid hb
                    clear hIn hcnt hBd hV hb
                    go_wp2_with fail
                    go_roundg (([] : List Int).length + Gr.ng L n)
                    case measure => have := HM.out; omega
                    case rel => exact ⟨L', q, HCN.out, HBf.out, HBd.out, HV9.out, HB9.out⟩
              · have HQ1 := Lib.hid (if h : t.length + 1 < cap then hp1 h else hp3 (by omega) (by omega))
                have x1 : (1 : Int) < (cap : Int) := by omega
                have x2 : (t.length : Int) + 1 ≤ (cap : Int) := by omega
                have x3 : (1 : Int) ≤ (cap : Int) := by omega
                clear hp1 hp2 hp3
                have HVp := HV.out.pop HQV.out HQ1.out rfl
                have hbp := HB.out.setCell (p := ⟨qb, 0, none⟩) HV.out.b1 (.slice (some ⟨g, o + 1, none⟩) t.length (cap - 1))
                go_upto_region 17 with (fail)
                generalize wr.setCell ⟨qb, 0, none⟩ (.slice (some ⟨g, o + 1, none⟩) t.length (cap - 1)) = w7 at *
                clear e9 f9 hx HV HQV HB HQ1
                have hB7 : Below w.heap.size w w7 := by rw [← HBw.out]; exact hbp
                obtain ⟨Ar, cr, hcr, hatr⟩ := HW.out.read han
                have d7 := (hB7.cell (p := ⟨g0, a, none⟩) HW.out.lt).trans hcr
                have y3 : (a : Int) < (n : Int) := by omega
                have hrl := (HR.out a han).1
                have HAT := Lib.hid hatr
                clear hcr hatr hB7
                go_wp2_with fail
                clear d7
                obtain ⟨wo7, rfl⟩ : ∃ x : World, x = w7 := ⟨_, rfl⟩
                go_loopw [52] (fun s52 wq => ∃ (j : Nat) (L' : Nat → Int) (q : List Int), s52 = .int .i64 j ∧ j ≤ (R a).length ∧ q.length + Gr.ng L' n = t.length + Gr.ng L n ∧ Gr.Inn R S c n a j L' q ∧ Gr.Bd L' n ∧ VAt wq B lb B qb gl n c L' q ∧ Below B w wq) (fun s52 _ => (R a).length - (intOf s52).toNat)
                case atStart => exact ⟨0, L, _, rfl, by omega, rfl, HIn.out, hBd, HVp, hbp⟩
                case round =>
                  clear HVp hbp hBd
                  rename_i w9
                  obtain ⟨j, L', q, rfl, hj, hcnt, hIn, hBd, hV, hb⟩ := hrel
                  by_cases hlt2 : j < (R a).length
                  · have b3 : decide ((j : Int) < ((R a).length : Int)) = true := decide_eq_true (by omega)
                    have b3n : decide (j < (R a).length) = true := decide_eq_true hlt2
                    have y4 : (j : Int) < ((R a).length : Int) := by omega
                    have hBq : Below w.heap.size w wr := by rw [← HBw.out]; exact hb
                    have hszq : B ≤ wr.heap.size := by rw [HBw.out]; exact hBq.size
                    obtain ⟨g', o', rfl, hg', hc'⟩ := in_cell HAT.out hlt2
                    have d1 := (hBq.cell (p := ⟨g', o' + j, none⟩) hg').trans hc'
                    obtain ⟨b, hbb, hbn⟩ := (HR.out a han).2 (R a)[j] (List.getElem_mem hlt2)
                    rw [hbb] at d1
                    have e7 : wr.cell? ⟨lb, 0, none⟩ = some (.slice (some ⟨gl, 0, none⟩) n n) := by rw [cell_of_row _ _ _ _ _ _ hV.lv]; rfl
                    have e8 : wr.cell? ⟨gl, a, none⟩ = some (.int .i64 (L' a)) := hV.row.cell han
                    have hla2 := hIn.la
                    have hbd2 := hBd a
                    have hwr : IntKind.i64.wrap (L' a + 1) = L' a + 1 := IntWalk.i64_in _ (by omega)
                    have hqc := hIn.bas.cnt
                    have cc := visit_any b (L' a + 1) B lb B qb gl n c L' q wr hbn hV (by omega) hszq
                    have HI := Lib.hid (hIn.step hlt2 hbb hbn).1
                    have HBd := Lib.hid (hBd.vis (c := c) (x := L' a + 1) hbn (by omega) (by omega))
                    have HCN := Lib.hid ((Gr.vis_cnt (c := c) (L := L') (q := q) (x := L' a + 1) hbn (by omega)).trans hcnt)
                    clear hc' hbb hBd hIn hqc hV hBq hcnt hla2 hbd2
                    generalize Gr.visL c L' b (L' a + 1) = L2 at *
                    generalize Gr.visQ c L' q b = q2 at *
                    go_wp2_with fail
                    with_reducible refine cc.mono ?_
                    clear cc
                    rintro e w8 ⟨rfl, hV8, hb8⟩
                    have HV8 := Lib.hid hV8
                    have HB8 := Lib.hid (hb.trans hb8)
                    clear hV8 hb hb8 d1 e7 e8 hwr
                    go_wp2_with fail
                    go_roundw
                    case rel => exact ⟨j + 1, L2, q2, by go_num, by omega, HCN.out, HI.out, HBd.out, HV8.out, HB8.out⟩
                    case measure => simp [intOf]; omega
                  · have b3 : decide ((j : Int) < ((R a).length : Int)) = false := decide_eq_false (by omega)
                    have b3n : decide (j < (R a).length) = false := decide_eq_false hlt2
                    have HBf := Lib.hid (hIn.full hlt2)
                    have HCN := Lib.hid hcnt
                    have HBd := Lib.hid hBd
                    have HV9 := Lib.hid hV
                    have HB9 := Lib.hid hb
                    clear hIn hcnt hBd hV hb
                    go_wp2_with fail
                    go_roundg (t.length + Gr.ng L n)
                    case measure => have := HM.out; omega
                    case rel => exact ⟨L', q, HCN.out, HBf.out, HBd.out, HV9.out, HB9.out⟩
end Go.Proofs.Ytdiaejdoglccoaa
