/- Chain. No condition but the lengths. -/
import Derived.Test.YtjemffgidhgfjaaGreatDoorMz3
namespace Go.Proofs.YtjemffgidhgfjaaGreatDoor
open Go.RowKit Go.Deep Tr

namespace Gr
/-- The first edge that leads on. -/
def fst (L : Nat → Int) (E : List Ed) (n : Nat) : Nat := E.findIdx (nx L n)
/-- The chain from a node: k edges. -/
def chain (L : Nat → Int) (E : List Ed) : Nat → Nat → List Int
  | 0, _ => []
  | k + 1, n => (fst L E n : Int) :: chain L E k ((E[fst L E n]?.map fun x => x.dst.toNat).getD 0)
theorem fst_of {L : Nat → Int} {E : List Ed} {n i : Nat} (h : i < E.length) (h1 : nx L n E[i] = true) (h2 : (E.take i).any (fun x => nx L n x) = false) : fst L E n = i := by
  unfold fst
  rw [List.findIdx_eq h]
  refine ⟨h1, fun j hj => ?_⟩
  rw [List.any_eq_false] at h2
  have := h2 E[j] (by rw [List.mem_take_iff_getElem]; exact ⟨j, by omega, rfl⟩)
  cases hb : nx L n E[j] with
  | false => rfl
  | true => exact absurd hb this
/-- As long as the end is not reached there is an edge that leads on. -/
theorem nx_ex {g : Gph} {L : Nat → Int} {t n : Nat} (hL : Lab (row false g.es) [(t : Int)] (-1) L) (h0 : 0 ≤ L n) (hn : n ≠ t) : g.es.any (fun x => nx L n x) = true ∧ 0 < L n := by
  have hw := hL.snd n h0
  generalize hk : (L n).toNat = k at hw
  cases hw with
  | start _ hs hc => simp at hs; omega
  | step k a _ hwa hmem hc =>
    obtain ⟨y, hy, hya, hyb⟩ := row_mem hmem
    have h1 := hL.all k a hwa
    have h2 := hL.all _ n (.step _ a n (hL.snd a h1.1) hmem hc)
    refine ⟨List.any_eq_true.2 ⟨y, hy, ?_⟩, by omega⟩
    have e1 : y.dst = (a : Int) := hya
    have e2 : (n : Int) = y.src := hyb
    unfold nx
    rw [Bool.and_eq_true, beq_iff_eq, beq_iff_eq, e1, Int.toNat_natCast]
    exact ⟨e2.symm, by omega⟩
theorem lab_end {R : Nat → List Int} {L : Nat → Int} {t : Nat} (hL : Lab R [(t : Int)] (-1) L) : L t = 0 := by
  have := hL.all 0 t (.start t (by simp) (by omega))
  omega
theorem nx_lab {L : Nat → Int} {n : Nat} {x : Ed} (h : nx L n x = true) : x.src = (n : Int) ∧ L x.dst.toNat = L n - 1 := by
  unfold nx at h
  rwa [Bool.and_eq_true, beq_iff_eq, beq_iff_eq] at h
theorem chain_step {L : Nat → Int} {E : List Ed} {n i : Nat} (h : i < E.length) (h1 : nx L n E[i] = true) (h2 : (E.take i).any (fun x => nx L n x) = false) (h0 : 0 < L n) : chain L E (L n).toNat n = (i : Int) :: chain L E (L E[i].dst.toNat).toNat E[i].dst.toNat := by
  have hl := (nx_lab h1).2
  rw [show (L n).toNat = (L E[i].dst.toNat).toNat + 1 by omega, chain, fst_of h h1 h2, List.getElem?_eq_getElem h]
  rfl
theorem chain_len (L : Nat → Int) (E : List Ed) : ∀ (k n : Nat), (chain L E k n).length = k
  | 0, _ => rfl
  | k + 1, n => by rw [chain, List.length_cons, chain_len]
/-- What Chain finds. -/
def Chn (g : Gph) (f t : Int) (l : List Int) (ok : Bool) : Prop :=
  if chk g = 0 ∧ isN g f = true ∧ isN g t = true then ∃ L, Lab (row false g.es) [t] (-1) L ∧ if 0 ≤ L f.toNat then ok = true ∧ l = chain L g.es (L f.toNat).toNat f.toNat else ok = false ∧ l = [] else ok = false ∧ l = []
end Gr
theorem grown_below {w w6 : World} {Bc size n k : Nat} {e : TypeId} {v : Value} {xs : List Value} (h : w.ownsRow Bc e size v n xs) (hg : w.grownBy w6 v.ownBlock) (hk : k < Bc) (hk2 : k < w.heap.size) : w6.heap[k]? = w.heap[k]? :=
  hg.block k hk2 fun e => by have := (h.lt k e.symm).1; omega
/-- Two results: a list and a bool. -/
def GotC (w : World) (g : Gph) (f t : Int) : Ending → World → Prop := fun e w' => ∃ v ok, e = .returned (.tuple #[v, .bool ok]) ∧ ∃ l, Gr.Chn g f t l ok ∧ w'.ownsRow w.heap.size 3 1 v l.length (Gr.insV l) ∧ Below w.heap.size w w'
set_option maxHeartbeats 16000000 in
set_option maxRecDepth 100000 in
theorem chain_any (g : Gph) (f t : Int) (A B : Option Addr) (c d : Nat) (w : World) (hA : GrAt w A B g) :
    Calls Tryz.prog 24 #[grV A B c d g, .int .i64 f, .int .i64 t] w (GotC w g f t) := by
  obtain ⟨i0, hi0, hz0, hz1, hz2⟩ := info_parts infoIn
  have hb0 : Below w.heap.size w (w.alloc (grO A B c d g)) := (Below.refl _ _).alloc (Nat.le_refl _) _
  have hG := heap_alloc_new w (grO A B c d g)
  obtain ⟨W, hW⟩ : ∃ W, W = w.alloc (grO A B c d g) := ⟨_, rfl⟩
  rw [← hW] at hb0 hG
  obtain ⟨q0, q1⟩ := gb_cells hG
  have HA := Lib.hid hA
  have c1 := check_any g A B c d W (hA.next hb0)
  have HC := Lib.hid (fun (h : Gr.chk g = 0) => Gr.chk_ok h)
  have HN := Lib.hid (show ¬ (Gr.chk g = 0 ∧ Gr.isN g f = true ∧ Gr.isN g t = true) → Gr.Chn g f t [] false from fun h => by unfold Gr.Chn; rw [if_neg h]; exact ⟨rfl, rfl⟩)
  have HY := Lib.hid (show Gr.chk g = 0 → Gr.isN g f = true → Gr.isN g t = true → ∀ l ok, (∃ L, Gr.Lab (Gr.row false g.es) [t] (-1) L ∧ if 0 ≤ L f.toNat then ok = true ∧ l = Gr.chain L g.es (L f.toNat).toNat f.toNat else ok = false ∧ l = []) → Gr.Chn g f t l ok from fun h1 h2 h3 l ok h => by unfold Gr.Chn; rw [if_pos ⟨h1, h2, h3⟩]; exact h)
  have HI := Lib.hid (show Gr.isN g f = true → 0 ≤ f ∧ f < (g.ns.length : Int) by unfold Gr.isN; rw [Bool.and_eq_true, decide_eq_true_eq, decide_eq_true_eq]; exact id)
  have HJ := Lib.hid (show Gr.isN g t = true → 0 ≤ t ∧ t < (g.ns.length : Int) by unfold Gr.isN; rw [Bool.and_eq_true, decide_eq_true_eq, decide_eq_true_eq]; exact id)
  have c2 := fun w' => isNode_any g f A B c d w'
  have c3 := fun w' => isNode_any g t A B c d w'
  clear hA
  go_enter Tryz.func24, Tryz.ntmps24
  go_upto_region 1 with (fail)
  rw [← hW]
  clear hW
  generalize Gr.chk g = z at *
  generalize Gr.isN g f = i1 at *
  generalize Gr.isN g t = i2 at *
  go_wp2_with fail
  with_reducible refine c1.mono ?_
  clear c1
  rintro e w1 ⟨rfl, hb1⟩
  have hG1 := (hb1.block w.heap.size (blk_lt hG)).trans hG
  have hb01 := hb0.trans (hb1.mono hb0.size)
  clear hb1 hb0 hG q0 q1
  by_cases hz : z = 0
  case neg =>
    have z1 : (z != 0) = true := by rw [bne_iff_ne]; exact hz
    have z2 : (z == 0) = false := by rw [beq_eq_false_iff_ne]; exact hz
    have HT := Lib.hid (HN.out (fun h => hz h.1))
    clear HN HC HY HI HJ hz c2 c3 hG1
    go_wp2_with fail
    first | go_ret3 | go_ret2 | go_ret
    exact ⟨_, _, rfl, [], HT.out, World.ownsRow_nil _ _ _ _, hb01⟩
  have z1 : (z != 0) = false := by rw [hz]; rfl
  have z2 : (z == 0) = true := by rw [hz]; rfl
  have HOk := Lib.hid (HC.out hz)
  obtain ⟨q0, q1⟩ := gb_cells hG1
  have c2 := c2 w1
  have HY2 := Lib.hid (HY.out hz)
  clear hz HY HC
  go_wp2_with fail
  with_reducible refine c2.mono ?_
  clear c2
  rintro e w2 ⟨rfl, hb2⟩
  have hG2 := (hb2.block w.heap.size (blk_lt hG1)).trans hG1
  have hb02 := hb01.trans (hb2.mono hb01.size)
  clear hb2 hb01 hG1 q0 q1
  cases i1 with
  | false =>
    have HT := Lib.hid (HN.out (fun h => by cases h.2.1))
    clear HN HY2 HI HJ hG2 c3
    go_wp2_with fail
    first | go_ret3 | go_ret2 | go_ret
    exact ⟨_, _, rfl, [], HT.out, World.ownsRow_nil _ _ _ _, hb02⟩
  | true =>
  have HY3 := Lib.hid (HY2.out rfl)
  obtain ⟨q0, q1⟩ := gb_cells hG2
  have c3 := c3 w2
  clear HY2
  go_wp2_with fail
  with_reducible refine c3.mono ?_
  clear c3
  rintro e w3 ⟨rfl, hb3⟩
  have hG3 := (hb3.block w.heap.size (blk_lt hG2)).trans hG2
  have hb03 := hb02.trans (hb3.mono hb02.size)
  clear hb3 hb02 hG2 q0 q1
  cases i2 with
  | false =>
    have HT := Lib.hid (HN.out (fun h => by cases h.2.2))
    clear HN HY3 HI HJ hG3
    go_wp2_with fail
    first | go_ret3 | go_ret2 | go_ret
    exact ⟨_, _, rfl, [], HT.out, World.ownsRow_nil _ _ _ _, hb03⟩
  | true =>
  have HY4 := Lib.hid (HY3.out rfl)
  obtain ⟨hf0, hfn⟩ := HI.out (by first | rfl | trivial)
  obtain ⟨ht0, htn⟩ := HJ.out (by first | rfl | trivial)
  clear HN HY3 HI HJ
  obtain ⟨fn, rfl⟩ : ∃ n : Nat, f = (n : Int) := ⟨f.toNat, by omega⟩
  obtain ⟨tn, rfl⟩ : ∃ n : Nat, t = (n : Int) := ⟨t.toNat, by omega⟩
  have hfl : fn < g.ns.length := by omega
  have htl : tn < g.ns.length := by omega
  have cw := ways_backward g A B c d w3 (HA.out.next hb03) HOk.out.nl HOk.out.el (HOk.out.ed false)
  obtain ⟨q0, q1⟩ := gb_cells hG3
  clear hf0 ht0
  go_wp2_with fail
  with_reducible refine cw.mono ?_
  clear cw
  rintro e w4 ⟨g0, rfl, hWs, hb4⟩
  have hG4 := (hb4.block w.heap.size (blk_lt hG3)).trans hG3
  have hb04 := hb03.trans (hb4.mono hb03.size)
  clear hb4 hb03 hG3 q0 q1
  have hbA : Below w4.heap.size w4 (w4.alloc (.cells #[.int .i64 tn] 3)) := (Below.refl _ _).alloc (Nat.le_refl _) _
  have hnw := heap_alloc_new w4 (.cells #[.int .i64 tn] 3)
  have hS : Gr.InAt (w4.alloc (.cells #[.int .i64 tn] 3)) (w4.alloc (.cells #[.int .i64 tn] 3)).heap.size (some ⟨w4.heap.size, 0, none⟩) [(tn : Int)] := fun j hj => by
    obtain rfl : j = 0 := by simpa using hj
    refine ⟨_, _, rfl, blk_lt hnw, fun i u hu => ?_⟩
    cases i with
    | zero =>
      simp only [List.getElem_cons_zero, Gr.inV, List.getElem?_cons_zero, Option.some.injEq] at hu
      subst hu
      rw [cell_of_row _ _ _ _ _ _ hnw]; rfl
    | succ i => simp [Gr.inV] at hu
  have hrow := HOk.out.rows false
  have cl := lengths_any g.ns.length g0 _ _ (some ⟨w4.heap.size, 0, none⟩) [(tn : Int)] 1 (-1) _ (hWs.next hbA) hS HOk.out.nl (by simp) (fun x hx => ⟨tn, by simpa using hx, htl⟩) hrow
  have hG5 := (hbA.block w.heap.size (blk_lt hG4)).trans hG4
  have hb05 := hb04.trans (hbA.mono hb04.size)
  rw [List.length_singleton] at cl
  clear hWs hbA hnw hS hrow hG4 hb04
  go_wp2_with fail
  with_reducible refine cl.mono ?_
  clear cl
  rintro e w6 ⟨gl, rfl, L, hrl, hLab, hBd, _, hb6⟩
  have hG6 := (hb6.block w.heap.size (blk_lt hG5)).trans hG5
  have hb06 := hb05.trans (hb6.mono hb05.size)
  clear hb6 hb05 hG5
  have hlv := heap_alloc_new w6 (.cells #[.slice (some ⟨gl, 0, none⟩) g.ns.length g.ns.length] 38)
  have hG7 := (blk_alloc_lt w6 (.cells #[.slice (some ⟨gl, 0, none⟩) g.ns.length g.ns.length] 38) _ (blk_lt hG6)).trans hG6
  have hb07 := hb06.alloc hb06.size (.cells #[.slice (some ⟨gl, 0, none⟩) g.ns.length g.ns.length] 38)
  have hLb : LbAt (w6.alloc (.cells #[.slice (some ⟨gl, 0, none⟩) g.ns.length g.ns.length] 38)) w6.heap.size gl g.ns.length L := ⟨hlv, hrl.alloc _⟩
  have HL := Lib.hid hLab
  have HBD := Lib.hid (show ∀ m, -1 ≤ L m ∧ L m ≤ 100000 from fun m => by
    have h1 := hBd m
    have h2 := HOk.out.nl
    rcases hLab.neg m with h | h <;> omega)
  clear hlv hb06 hG6 hrl hBd hLab
  go_upto_region 4 with (fail)
  generalize w6.alloc (.cells #[.slice (some ⟨gl, 0, none⟩) g.ns.length g.ns.length] 38) = w7 at *
  generalize w6.heap.size = lb at *
  have e1 : w7.cell? ⟨lb, 0, none⟩ = some (.slice (some ⟨gl, 0, none⟩) g.ns.length g.ns.length) := by rw [cell_of_row _ _ _ _ _ _ hLb.lv]; rfl
  have e2 : w7.cell? ⟨gl, fn, none⟩ = some (.int .i64 (L fn)) := hLb.row.cell hfl
  by_cases hneg : L fn < 0
  · have d1 : decide (L fn < 0) = true := decide_eq_true hneg
    have HT := Lib.hid (show Gr.Chn g (fn : Int) (tn : Int) [] false from HY4.out _ _ ⟨L, HL.out, by rw [Int.toNat_natCast, if_neg (by omega)]; exact ⟨rfl, rfl⟩⟩)
    clear HY4 hLb hG7 hneg
    go_wp2_with fail
    first | go_ret3 | go_ret2 | go_ret
    exact ⟨_, _, rfl, [], HT.out, World.ownsRow_nil _ _ _ _, hb07⟩
  have d1 : decide (L fn < 0) = false := decide_eq_false hneg
  have HT := Lib.hid (show ∀ l, l = Gr.chain L g.es (L fn).toNat fn → Gr.Chn g (fn : Int) (tn : Int) l true from fun l hl => HY4.out _ _ ⟨L, HL.out, by rw [Int.toNat_natCast, if_pos (by omega)]; exact ⟨rfl, hl⟩⟩)
  have hlb := blk_lt hLb.lv
  have hgl := hLb.row.lt
  have hgg := blk_lt hG7
  have hb8 : Below w7.heap.size w7 (w7.alloc (.cells #[.int .i64 fn] 3)) := (Below.refl _ _).alloc (Nat.le_refl _) _
  have hnb := heap_alloc_new w7 (.cells #[.int .i64 fn] 3)
  have hLb8 := hLb.next hb8
  have hG8 := (hb8.block w.heap.size hgg).trans hG7
  have hb08 := hb07.trans (hb8.mono hb07.size)
  have hs8 : (w7.alloc (.cells #[.int .i64 fn] 3)).heap.size = w7.heap.size + 1 := by simp
  clear HY4 hLb hG7 hb07 hb8
  have HNN := Lib.hid hneg
  clear hneg
  go_wp2_with fail
  generalize hw8 : w7.alloc (.cells #[.int .i64 fn] 3) = w8 at *
  generalize hnbe : w7.heap.size = nb at *
  clear hw8
  have HNB := Lib.hid (show lb < nb ∧ gl < nb ∧ w.heap.size < nb ∧ nb < w8.heap.size from ⟨hlb, hgl, hgg, by omega⟩)
  generalize hBc : w8.heap.size = Bc at HNB
  have HBc := Lib.hid hBc
  clear hlb hgl hgg hnbe hs8 hBc e1 e2
  go_loopg [9, 11] (L fn).toNat (fun gk s9 s11 wr => ∃ (m : Nat) (l : List Int), (L m).toNat = gk ∧ m < g.ns.length ∧ 0 ≤ L m ∧ l ++ Gr.chain L g.es (L m).toNat m = Gr.chain L g.es (L fn).toNat fn ∧ wr.ownsRow Bc 3 1 s9 l.length (Gr.insV l) ∧ wr.heap[nb]? = some (.cells #[.int .i64 m] 3 (0, 0)) ∧ LbAt wr lb gl g.ns.length L ∧ wr.heap[w.heap.size]? = some (grO A B c d g) ∧ Bc ≤ wr.heap.size ∧ Below w.heap.size w wr)
  case atStart => exact ⟨fn, [], rfl, hfl, by have := HNN.out; omega, rfl, World.ownsRow_nil _ _ _ _, hnb, hLb8, hG8, by rw [HBc.out]; exact Nat.le_refl _, hb08⟩
  case round =>
    clear hnb hLb8 hG8 hb08
    obtain ⟨m, l, hgk, hm, hm0, heq, hown, hnb, hLb, hG, hsz, hb⟩ := hrel
    have HGK := Lib.hid hgk
    have HEQ := Lib.hid heq
    clear hgk heq
    have e10 : wr.cell? ⟨nb, 0, none⟩ = some (.int .i64 m) := by rw [cell_of_row _ _ _ _ _ _ hnb]; rfl
    by_cases hmt : m = tn
    · have d2 : ((m : Int) != (tn : Int)) = false := by rw [hmt]; simp
      have HR := Lib.hid (HT.out l (by
        have h := HEQ.out
        rw [hmt, Gr.lab_end HL.out] at h
        rw [← h]
        show l = l ++ []
        rw [List.append_nil]))
      have HO := Lib.hid (own_mono hown (show w.heap.size ≤ Bc by have := HNB.out; omega))
      have HB := Lib.hid hb
      clear hmt hown hnb hLb hG hsz hb hm0
      go_wp2_with fail
      first | go_ret3 | go_ret2 | go_ret
      exact ⟨_, _, rfl, l, HR.out, HO.out, HB.out⟩
    · have d2 : ((m : Int) != (tn : Int)) = true := by rw [bne_iff_ne]; omega
      obtain ⟨hex, hpos⟩ := Gr.nx_ex HL.out hm0 hmt
      obtain ⟨q0, q1⟩ := gb_cells hG
      have hel := HOk.out.el
      have cc := indexNxt_any g.es m nb lb gl g.ns.length L B d wr (HA.out.next hb).es (by omega) hm (fun x hx => HOk.out.ed false x hx) hLb (HBD.out m) hnb hex
      have HPOS := Lib.hid hpos
      clear hmt hex hm0 hpos
      go_wp2_with fail
      with_reducible refine cc.mono ?_
      clear cc e10 q0 q1
      rintro e w9 ⟨i, rfl, ⟨hi, hnx, hfi⟩, hb9⟩
      have hown9 := own_below hown hb9
      have hnb9 := (hb9.block _ (blk_lt hnb)).trans hnb
      have hLb9 := hLb.next hb9
      have hG9 := (hb9.block _ (blk_lt hG)).trans hG
      have hb09 := hb.trans (hb9.mono hb.size)
      have hsz9 := Nat.le_trans hsz hb9.size
      clear hown hnb hLb hG hb hb9 hsz
      have hlx := (Gr.nx_lab hnx).2
      have HST := Lib.hid (Gr.chain_step hi hnx hfi HPOS.out)
      obtain ⟨ge, o, rfl, hge, hc⟩ := HA.out.es i hi
      have hc1 := (hb09.cell (p := ⟨ge, o + i * 3 + 1, none⟩) hge).trans (hc 1 _ rfl)
      have hdst := HOk.out.ed false g.es[i] (List.getElem_mem hi)
      obtain ⟨m', hm'⟩ : ∃ k : Nat, g.es[i].dst = (k : Int) := ⟨g.es[i].dst.toNat, by have h : 0 ≤ g.es[i].dst := hdst.1; omega⟩
      have hmn' : m' < g.ns.length := by have h : g.es[i].dst < (g.ns.length : Int) := hdst.2; omega
      have HST2 := Lib.hid (show Gr.chain L g.es (L m).toNat m = (i : Int) :: Gr.chain L g.es (L m').toNat m' by have := HST.out; rwa [hm', Int.toNat_natCast] at this)
      rw [hm', Int.toNat_natCast] at hlx
      have HLX := Lib.hid hlx
      rw [hm'] at hc1
      have HOA := Lib.hid (hown9.alloc (.cells #[.int .i64 i] 3))
      have hnbB := HNB.out
      have y5 : (i : Int) < (g.es.length : Int) := by omega
      have HB10 := Lib.hid (hb09.alloc hb09.size (.cells #[.int .i64 i] 3))
      have ha : ∀ k, k < w9.heap.size → (w9.alloc (.cells #[.int .i64 i] 3)).heap[k]? = w9.heap[k]? := fun k hk => blk_alloc_lt w9 _ k hk
      have HF := Lib.hid (show w9.heap[nb]? = some (.cells #[.int .i64 m] 3 (0, 0)) ∧ LbAt w9 lb gl g.ns.length L ∧ w9.heap[w.heap.size]? = some (grO A (some ⟨ge, o, none⟩) c d g) ∧ w9.cell? ⟨ge, o + i * 3 + 1, none⟩ = some (.int .i64 (m' : Int)) from ⟨hnb9, hLb9, hG9, hc1⟩)
      have HK := Lib.hid (fun (v : Value) (w11 : World) (hg : (w9.alloc (.cells #[.int .i64 i] 3)).grownBy w11 v.ownBlock) (ho : (w9.alloc (.cells #[.int .i64 i] 3)).ownsRow Bc 3 1 v l.length (Gr.insV l)) (k : Nat) (hk : k < Bc) => (grown_below ho hg hk (by simp; omega)).trans (ha k (by omega)))
      have hll : l.length ≤ 100000 := by
        have h := congrArg List.length HEQ.out
        rw [List.length_append, Gr.chain_len, Gr.chain_len] at h
        have := HBD.out fn
        omega
      have hge2 : ge < Bc := by omega
      have HGE := Lib.hid (show ge < Bc ∧ Bc ≤ w9.heap.size from ⟨hge2, hsz9⟩)
      clear hown9 hnb9 hLb9 hG9 hb09 ha hc1 hc hge hdst hm' hnx hfi hlx HA hge2
      go_wp2_with (at_builtin; refine wpList_append_own_wide _ (by rfl) _ _ 38 (by rfl) Bc 3 i0 _ 1 8 Tryz.underlying38 hi0 hz0 hz1 hz2 rfl (by omega) _ l.length _ (by rfl) HOA.out ⟨w9.heap.size, 0, none⟩ 1 1 [_] (by rfl) (by rfl) (World.news_of_block (cs := #[_]) (t := 3) (fr := (0, 0)) (heap_alloc_new w9 _)) (by simp [Value.oneCell']) (by unfold maxLen; omega) (by omega) (by simp; omega) ?_; intro v11 w11 hown11 hg11 _; have k1 := (HK.out _ w11 hg11 HOA.out nb (by omega)).trans HF.out.1; have k2 := (HK.out _ w11 hg11 HOA.out w.heap.size (by omega)).trans HF.out.2.2.1; have k3 : w11.cell? ⟨ge, o + i * 3 + 1, none⟩ = some (.int .i64 (m' : Int)) := (World.cell?_of_block (HK.out _ w11 hg11 HOA.out ge HGE.out.1)).trans HF.out.2.2.2; have kq := gb_cells k2; have kq1 := kq.2; have k4 : w11.cell? ⟨nb, 0, none⟩ = some (.int .i64 m) := (by rw [cell_of_row _ _ _ _ _ _ k1]; rfl); have k5 := frozen_of_row w11 nb 0 _ _ k1; clear kq)
      have other : ∀ k, k ≠ nb → (w11.setCell ⟨nb, 0, none⟩ (.int .i64 (m' : Int))).heap[k]? = w11.heap[k]? := fun k hk => heap_setCell_other w11 ⟨nb, 0, none⟩ k _ hk
      have keep : ∀ k, k < nb → (w11.setCell ⟨nb, 0, none⟩ (.int .i64 (m' : Int))).heap[k]? = w9.heap[k]? := fun k hk => (other k (by omega)).trans (HK.out _ w11 hg11 HOA.out k (by omega))
      have hbl := (below_grown HB10.out HB10.out.size (own_mono HOA.out (by omega)) hg11).setCell (p := ⟨nb, 0, none⟩) (show w.heap.size ≤ nb by omega) (.int .i64 (m' : Int))
      have hpos := HPOS.out
      have hlx := HLX.out
      go_roundg (L m').toNat
      case measure => have := HGK.out; omega
      case rel =>
        refine ⟨m', l ++ [(i : Int)], rfl, hmn', by omega, ?_, ?_, heap_setCell_same w11 nb 0 _ _ _ k1, ⟨(keep lb (by omega)).trans HF.out.2.1.lv, HF.out.2.1.row.of_block (keep gl (by omega))⟩, (other w.heap.size (by omega)).trans k2, ?_, hbl⟩
        · rw [List.append_assoc, List.singleton_append, ← HST2.out]
          exact HEQ.out
        · rw [List.length_append, List.length_singleton, Gr.insV_app, Gr.insV_one]
          exact own_same hown11 fun k hk => other k (by have := (hown11.lt k hk).1; omega)
        · have h1 := hg11.size
          have h2 := HGE.out.2
          have h3 : w9.heap.size ≤ (w9.alloc (.cells #[.int .i64 i] 3)).heap.size := by simp
          have h4 : (w11.setCell ⟨nb, 0, none⟩ (.int .i64 (m' : Int))).heap.size = w11.heap.size := by simp
          omega
end Go.Proofs.YtjemffgidhgfjaaGreatDoor
