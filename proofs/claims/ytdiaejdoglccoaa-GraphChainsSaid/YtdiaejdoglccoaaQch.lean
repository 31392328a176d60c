/- The reference's Chain. No condition but the lengths. -/
import Derived.Test.YtdiaejdoglccoaaQre
namespace Go.Proofs.Ytdiaejdoglccoaa
open Go.RowKit Go.Deep Tr

namespace Gr
/-- The first edge that leads on. -/
theorem chain_fst {g : Gph} {L : Nat → Int} {t m : Nat} (hL : Lab (row false g.es) [(t : Int)] (-1) L) (h0 : 0 ≤ L m) (hm : m ≠ t) :
    ∃ i, ∃ h : i < g.es.length, nx L m g.es[i] = true ∧ (∀ j (hj : j < i), nx L m (g.es[j]'(by omega)) = false) ∧ chain L g.es (L m).toNat m = (i : Int) :: chain L g.es (L g.es[i].dst.toNat).toNat g.es[i].dst.toNat ∧ 0 ≤ L g.es[i].dst.toNat ∧ L g.es[i].dst.toNat = L m - 1 := by
  obtain ⟨hex, hpos⟩ := nx_ex hL h0 hm
  rw [List.any_eq_true] at hex
  have hlt : g.es.findIdx (nx L m) < g.es.length := List.findIdx_lt_length_of_exists hex
  have hp : nx L m g.es[g.es.findIdx (nx L m)] = true := List.findIdx_getElem
  have hn : ∀ j (hj : j < g.es.findIdx (nx L m)), nx L m (g.es[j]'(by omega)) = false := fun j hj => by
    have := List.not_of_lt_findIdx (p := nx L m) hj
    simpa using this
  have hb : (g.es.take (g.es.findIdx (nx L m))).any (fun x => nx L m x) = false := by
    rw [List.any_eq_false]
    intro x hx
    obtain ⟨j, hj, rfl⟩ := List.mem_take_iff_getElem.1 hx
    rw [hn j (by omega)]
    decide
  have hl := nx_lab hp
  exact ⟨_, hlt, hp, hn, chain_step hlt hp hb hpos, by rw [hl.2]; omega, hl.2⟩
theorem chn_uniq {g : Gph} {f t : Int} {l l' : List Int} {ok ok' : Bool} (h : Chn g f t l ok) (h' : Chn g f t l' ok') : l = l' ∧ ok = ok' := by
  unfold Chn at h h'
  by_cases hc : chk g = 0 ∧ isN g f = true ∧ isN g t = true
  · rw [if_pos hc] at h h'
    obtain ⟨L, hL, h⟩ := h
    obtain ⟨L', hL', h'⟩ := h'
    rw [lab_uniq hL' hL] at h'
    by_cases h0 : 0 ≤ L f.toNat
    · rw [if_pos h0] at h h'
      exact ⟨h.2.trans h'.2.symm, h.1.trans h'.1.symm⟩
    · rw [if_neg h0] at h h'
      exact ⟨h.2.trans h'.2.symm, h.1.trans h'.1.symm⟩
  · rw [if_neg hc] at h h'
    exact ⟨h.2.trans h'.2.symm, h.1.trans h'.1.symm⟩
end Gr
set_option maxHeartbeats 16000000 in
set_option maxRecDepth 100000 in
theorem qchain_any (g : Gph) (f t : Int) (A B : Option Addr) (c d : Nat) (w : World) (hA : GrAt w A B g) :
    Calls Try.prog 21 #[grV A B c d g, .int .i64 f, .int .i64 t] w (GotC w g f t) := by
  obtain ⟨i0, hi0, hz0, hz1, hz2⟩ := info_parts infoIn
  have hb0 : Below w.heap.size w (w.alloc (grO A B c d g)) := (Below.refl _ _).alloc (Nat.le_refl _) _
  have hG := heap_alloc_new w (grO A B c d g)
  obtain ⟨W, hW⟩ : ∃ W, W = w.alloc (grO A B c d g) := ⟨_, rfl⟩
  rw [← hW] at hb0 hG
  obtain ⟨q0, q1⟩ := gb_cells hG
  have HA := Lib.hid hA
  have c1 := qright_any g f A B c d W (hA.next hb0)
  have HN := Lib.hid (show ¬ (Gr.chk g = 0 ∧ Gr.isN g f = true ∧ Gr.isN g t = true) → Gr.Chn g f t [] false from fun h => by unfold Gr.Chn; rw [if_neg h]; exact ⟨rfl, rfl⟩)
  have HY := Lib.hid (show Gr.chk g = 0 → Gr.isN g f = true → Gr.isN g t = true → ∀ l ok, (∃ L, Gr.Lab (Gr.row false g.es) [t] (-1) L ∧ if 0 ≤ L f.toNat then ok = true ∧ l = Gr.chain L g.es (L f.toNat).toNat f.toNat else ok = false ∧ l = []) → Gr.Chn g f t l ok from fun h1 h2 h3 l ok h => by unfold Gr.Chn; rw [if_pos ⟨h1, h2, h3⟩]; exact h)
  have HRF := Lib.hid (show (decide (Gr.chk g = 0) && Gr.isN g f) = true → Gr.chk g = 0 ∧ Gr.isN g f = true from fun h => by rwa [Bool.and_eq_true, decide_eq_true_eq] at h)
  have HRT := Lib.hid (show (decide (Gr.chk g = 0) && Gr.isN g t) = true → Gr.chk g = 0 ∧ Gr.isN g t = true from fun h => by rwa [Bool.and_eq_true, decide_eq_true_eq] at h)
  have HRF2 := Lib.hid (show (decide (Gr.chk g = 0) && Gr.isN g f) = false → ¬ (Gr.chk g = 0 ∧ Gr.isN g f = true ∧ Gr.isN g t = true) from fun h h2 => by rw [decide_eq_true h2.1, h2.2.1] at h; cases h)
  have HRT2 := Lib.hid (show (decide (Gr.chk g = 0) && Gr.isN g t) = false → ¬ (Gr.chk g = 0 ∧ Gr.isN g f = true ∧ Gr.isN g t = true) from fun h h2 => by rw [decide_eq_true h2.1, h2.2.2] at h; cases h)
  have c2 := fun w' (h : GrAt w' A B g) => qright_any g t A B c d w' h
  have HG := Lib.hid hG
  have HB := Lib.hid hb0
  clear hA hG hb0
  generalize (decide (Gr.chk g = 0) && Gr.isN g f) = r1 at *
  generalize (decide (Gr.chk g = 0) && Gr.isN g t) = r2 at *
  go_enter Try.func21, Try.ntmps21
  go_upto_region 1 with (fail)
  rw [← hW]
  clear hW
  go_wp2_with fail
  with_reducible refine c1.mono ?_
  clear c1 q0 q1
  rintro e w1 ⟨rfl, hb1⟩
  have HG1 := Lib.hid ((hb1.block _ (blk_lt HG.out)).trans HG.out)
  have HB1 := Lib.hid (HB.out.trans (hb1.mono HB.out.size))
  clear hb1 HG HB
  cases r1 with
  | false =>
    have HT := Lib.hid (HN.out (HRF2.out (by first | rfl | trivial)))
    clear HN HY HRF HRT HRF2 HRT2 c2
    go_wp2_with fail
    first | go_ret3 | go_ret2 | go_ret
    exact ⟨_, _, rfl, [], HT.out, World.ownsRow_nil _ _ _ _, HB1.out⟩
  | true =>
  have c2 := c2 w1 (HA.out.next HB1.out)
  obtain ⟨q0, q1⟩ := gb_cells HG1.out
  go_wp2_with fail
  with_reducible refine c2.mono ?_
  clear c2 q0 q1
  rintro e w2 ⟨rfl, hb2⟩
  have HG2 := Lib.hid ((hb2.block _ (blk_lt HG1.out)).trans HG1.out)
  have HB2 := Lib.hid (HB1.out.trans (hb2.mono HB1.out.size))
  clear hb2 HG1 HB1
  cases r2 with
  | false =>
    have HT := Lib.hid (HN.out (HRT2.out (by first | rfl | trivial)))
    clear HN HY HRF HRT HRF2 HRT2
    go_wp2_with fail
    first | go_ret3 | go_ret2 | go_ret
    exact ⟨_, _, rfl, [], HT.out, World.ownsRow_nil _ _ _ _, HB2.out⟩
  | true =>
  have HCF := Lib.hid (HRF.out (by first | rfl | trivial))
  have HCT := Lib.hid (HRT.out (by first | rfl | trivial))
  have HOk := Lib.hid (Gr.chk_ok HCF.out.1)
  have hf := Gr.isN_lt HCF.out.2
  have ht := Gr.isN_lt HCT.out.2
  obtain ⟨fn, rfl⟩ : ∃ n : Nat, f = (n : Int) := ⟨f.toNat, by omega⟩
  obtain ⟨tn, rfl⟩ : ∃ n : Nat, t = (n : Int) := ⟨t.toNat, by omega⟩
  have hfl : fn < g.ns.length := by omega
  have htl : tn < g.ns.length := by omega
  have HY2 := Lib.hid (HY.out HCF.out.1 HCF.out.2 HCT.out.2)
  clear hf ht HN HY HRF HRT HRF2 HRT2
  have c3 := qdist_any g tn (-1) A B c d w2 (HA.out.next HB2.out) HOk.out htl
  obtain ⟨q0, q1⟩ := gb_cells HG2.out
  go_wp2_with fail
  with_reducible refine c3.mono ?_
  clear c3 q0 q1
  rintro e w3 ⟨gl, rfl, L, hrow, hL, _, hb3⟩
  have HG3 := Lib.hid ((hb3.block _ (blk_lt HG2.out)).trans HG2.out)
  have HB3 := Lib.hid (HB2.out.trans (hb3.mono HB2.out.size))
  have HL := Lib.hid hL
  have HR3 := Lib.hid hrow
  have hLn : ∀ m, -1 ≤ L m ∧ L m ≤ 100000 := fun m => by
    rcases hL.neg m with h | h
    · omega
    · have h2 := Gr.lab_lt hL (n := g.ns.length) (fun s hs => by rw [List.mem_singleton] at hs; omega) (fun a b hb => by
        obtain ⟨y, hy, _, h2⟩ := Gr.row_mem hb
        have := HOk.out.ed true y hy
        have h3 : (b : Int) = y.src := h2
        rw [show Gr.eA true y = y.src from rfl] at this
        omega) m h
      have := HOk.out.nl
      omega
  have HBD := Lib.hid hLn
  have e0 : w3.cell? ⟨gl, fn, none⟩ = some (.int .i64 (L fn)) := hrow.cell hfl
  clear hb3 hL hrow hLn HG2 HB2
  by_cases hneg : L fn < 0
  · have d1 : decide (L fn < 0) = true := decide_eq_true hneg
    have HT := Lib.hid (show Gr.Chn g (fn : Int) (tn : Int) [] false from HY2.out _ _ ⟨L, HL.out, by rw [Int.toNat_natCast, if_neg (by omega)]; exact ⟨rfl, rfl⟩⟩)
    clear HY2 hneg
    go_wp2_with fail
    first | go_ret3 | go_ret2 | go_ret
    exact ⟨_, _, rfl, [], HT.out, World.ownsRow_nil _ _ _ _, HB3.out⟩
  have d1 : decide (L fn < 0) = false := decide_eq_false hneg
  have HT := Lib.hid (show ∀ l, l = Gr.chain L g.es (L fn).toNat fn → Gr.Chn g (fn : Int) (tn : Int) l true from fun l hl => HY2.out _ _ ⟨L, HL.out, by rw [Int.toNat_natCast, if_pos (by omega)]; exact ⟨rfl, hl⟩⟩)
  have hb4 : Below w3.heap.size w3 (w3.alloc (.cells #[] 3)) := (Below.refl _ _).alloc (Nat.le_refl _) _
  have hown4 : (w3.alloc (.cells #[] 3)).ownsRow w3.heap.size 3 1 (.slice (some ⟨w3.heap.size, 0, none⟩) 0 0) 0 [] := own_empty w3 _ (Nat.le_refl _) _ _
  have hs4 : w3.heap.size ≤ (w3.alloc (.cells #[] 3)).heap.size := by simp
  clear HY2
  go_upto_region 7 with (fail)
  generalize w3.alloc (.cells #[] 3) = w4 at *
  obtain ⟨Bc, hBc⟩ : ∃ x, x = w3.heap.size := ⟨_, rfl⟩
  rw [← hBc] at hb4 hown4 hs4 ⊢
  have HBC := Lib.hid (show gl < Bc ∧ w.heap.size < Bc ∧ w.heap.size ≤ Bc from ⟨by rw [hBc]; exact HR3.out.lt, by rw [hBc]; exact blk_lt HG3.out, by rw [hBc]; exact HB3.out.size⟩)
  have HW := Lib.hid (fun (wx : World) (h : Below Bc w3 wx) => (show Below w.heap.size w wx ∧ wx.heap[w.heap.size]? = some (grO A B c d g) ∧ wx.rowIs gl 3 g.ns.length (fun i => .int .i64 (L i)) from ⟨HB3.out.trans ((show Below w3.heap.size w3 wx by rw [← hBc]; exact h).mono HB3.out.size), (h.block _ (by rw [hBc]; exact blk_lt HG3.out)).trans HG3.out, HR3.out.of_block (h.block _ (by rw [hBc]; exact HR3.out.lt))⟩))
  have HNN := Lib.hid hneg
  clear e0 d1 hBc hneg
  go_wp2_with fail
  go_loopg [9, 10] (L fn).toNat (fun gk s9 s10 wr => ∃ (m : Nat) (l : List Int), s10 = .int .i64 m ∧ (L m).toNat = gk ∧ m < g.ns.length ∧ 0 ≤ L m ∧ l ++ Gr.chain L g.es (L m).toNat m = Gr.chain L g.es (L fn).toNat fn ∧ wr.ownsRow Bc 3 1 s9 l.length (Gr.insV l) ∧ Bc ≤ wr.heap.size ∧ Below Bc w3 wr)
  case atStart => exact ⟨fn, [], rfl, rfl, hfl, by have := HNN.out; omega, rfl, hown4, hs4, hb4⟩
  case round =>
    clear hown4 hs4 hb4
    obtain ⟨m, l, rfl, hgk, hm, hm0, heq, hown, hsz, hb⟩ := hrel
    have HGK := Lib.hid hgk
    have HEQ := Lib.hid heq
    have HO := Lib.hid hown
    have HB := Lib.hid hb
    have HSZ := Lib.hid hsz
    clear hgk heq hown hsz hb
    by_cases hmt : m = tn
    · have d2 : ((m : Int) != (tn : Int)) = false := by rw [hmt]; simp
      have HRs := Lib.hid (HT.out l (by
        have h := HEQ.out
        rw [hmt, Gr.lab_end HL.out] at h
        rw [← h]
        show l = l ++ []
        rw [List.append_nil]))
      have HOw := Lib.hid (own_mono HO.out HBC.out.2.2)
      have HBw := Lib.hid (HW.out _ HB.out).1
      clear hmt hm0
      go_wp2_with fail
      first | go_ret3 | go_ret2 | go_ret
      exact ⟨_, _, rfl, l, HRs.out, HOw.out, HBw.out⟩
    · have d2 : ((m : Int) != (tn : Int)) = true := by rw [bne_iff_ne]; omega
      obtain ⟨F, hF, hnx, hno, hch, hd0, hd1⟩ := Gr.chain_fst HL.out hm0 hmt
      have HNX := Lib.hid hnx
      have HNO := Lib.hid hno
      have HCH := Lib.hid hch
      have HD := Lib.hid (And.intro hd0 hd1)
      have hel := HOk.out.el
      have y1 : (m : Int) < (g.ns.length : Int) := by omega
      have HLM := Lib.hid (HBD.out m)
      have hwr : IntKind.i64.wrap (L m - 1) = L m - 1 := IntWalk.i64_in _ (by have := HLM.out; omega)
      clear hmt hm0 hnx hno hch hd0 hd1
      go_wp2_with fail
      clear d2
      obtain ⟨w00, rfl⟩ : ∃ x : World, x = wr := ⟨_, rfl⟩
      go_loopw [11] (fun s11 wr => ∃ i : Nat, s11 = .int .i64 i ∧ i ≤ F ∧ Below w00.heap.size w00 wr) (fun s11 _ => F - (intOf s11).toNat)
      case atStart => exact ⟨0, rfl, by omega, Below.refl _ _⟩
      case round =>
        obtain ⟨i, rfl, hi, hb⟩ := hrel
        have HB2 := Lib.hid hb
        have HB5 := Lib.hid (show Below Bc w3 wr from HB.out.trans (hb.mono HSZ.out))
        have HO2 := Lib.hid (own_below HO.out hb)
        clear hb
        obtain ⟨hbw, hG, hrow⟩ := HW.out _ HB5.out
        obtain ⟨q0, q1⟩ := gb_cells hG
        have hil : i < g.es.length := by omega
        have y2 : (i : Int) < (g.es.length : Int) := by omega
        obtain ⟨gb, oo, hBB, hg, hc⟩ := HA.out.es i hil
        subst hBB
        have x0 := (hbw.cell (p := ⟨gb, oo + i * 3, none⟩) hg).trans (hc 0 _ rfl)
        have x1 := (hbw.cell (p := ⟨gb, oo + i * 3 + 1, none⟩) hg).trans (hc 1 _ rfl)
        have hds := HOk.out.ed false g.es[i] (List.getElem_mem hil)
        have HCL := Lib.hid (show ∀ wx : World, Below w.heap.size w wx → wx.cell? ⟨gb, oo + i * 3 + 1, none⟩ = some (.int .i64 g.es[i].dst) from fun wx h => (h.cell (p := ⟨gb, oo + i * 3 + 1, none⟩) hg).trans (hc 1 _ rfl))
        have hnv2 : Gr.nx L m g.es[i] = ((g.es[i].src == (m : Int)) && (L g.es[i].dst.toNat == L m - 1)) := rfl
        have e3 : wr.cell? ⟨gl, m, none⟩ = some (.int .i64 (L m)) := hrow.cell hm
        have hrw := hrow
        have HGr := Lib.hid hG
        clear hc hg hbw hG
        by_cases hiF : i = F
        · have hv : Gr.nx L m g.es[i] = true := by subst hiF; exact HNX.out
          have HCH2 := Lib.hid (show Gr.chain L g.es (L m).toNat m = (i : Int) :: Gr.chain L g.es (L g.es[i].dst.toNat).toNat g.es[i].dst.toNat by subst hiF; exact HCH.out)
          have HD2 := Lib.hid (show 0 ≤ L g.es[i].dst.toNat ∧ L g.es[i].dst.toNat = L m - 1 by subst hiF; exact HD.out)
          have HIF := Lib.hid hiF
          rw [hnv2, Bool.and_eq_true, beq_iff_eq, beq_iff_eq] at hv
          clear hiF hnv2
          generalize g.es[i] = x at *
          obtain ⟨xs, xd, xp⟩ := x
          simp only [Gr.eA, if_false, Bool.false_eq_true] at hds
          obtain ⟨dn, rfl⟩ : ∃ n : Nat, xd = (n : Int) := ⟨xd.toNat, by omega⟩
          dsimp only [] at x0 x1 hv HCH2 HD2
          rw [Int.toNat_natCast] at hv HCH2 HD2
          have hdl : dn < g.ns.length := by omega
          have y3 : (dn : Int) < (g.ns.length : Int) := by omega
          have e4 : wr.cell? ⟨gl, dn, none⟩ = some (.int .i64 (L dn)) := hrw.cell hdl
          have d3 : (xs != (m : Int)) = false := by rw [hv.1]; simp
          have d4 : (L dn != L m - 1) = false := by rw [hv.2]; simp
          clear hv hds hrow hrw
          go_upto_region 10 with (fail)
          go_quiet (fail)
          have HB6 := Lib.hid (show Below Bc w3 (wr.drewN nq) from below_drewN HB5.out nq)
          have HO6 := Lib.hid (show (wr.drewN nq).ownsRow Bc 3 1 _ l.length (Gr.insV l) from own_same HO2.out fun q _ => rfl)
          have HS6 := Lib.hid (show Bc ≤ (wr.drewN nq).heap.size from Nat.le_trans HSZ.out HB2.out.size)
          have x1' : (wr.drewN nq).cell? ⟨gb, oo + i * 3 + 1, none⟩ = some (.int .i64 (dn : Int)) := x1
          have q1' : (wr.drewN nq).cell? ⟨w.heap.size, 1, none⟩ = some (.slice (some ⟨gb, oo, none⟩) g.es.length d) := q1
          generalize wr.drewN nq = w6 at *
          clear e3 e4 x0 x1 q0 q1 hwr
          have hll : l.length ≤ 100000 := by
            have h := congrArg List.length HEQ.out
            rw [List.length_append, Gr.chain_len, Gr.chain_len] at h
            have := HBD.out fn
            omega
          have HOA := Lib.hid (HO6.out.alloc (.cells #[.int .i64 i] 3))
          have hsa : Bc ≤ (w6.alloc (.cells #[.int .i64 i] 3)).heap.size := by have := HS6.out; simp; omega
          have HBA := Lib.hid (HB6.out.alloc HS6.out (.cells #[.int .i64 i] 3))
          have HX := Lib.hid (fun (wx : World) (h : Below Bc w3 wx) => (show wx.cell? ⟨gb, oo + i * 3 + 1, none⟩ = some (.int .i64 (dn : Int)) ∧ wx.cell? ⟨w.heap.size, 1, none⟩ = some (.slice (some ⟨gb, oo, none⟩) g.es.length d) from ⟨HCL.out wx (HW.out _ h).1, (gb_cells (HW.out _ h).2.1).2⟩))
          clear x1' q1'
          go_wp2_with (at_builtin; refine wpList_append_own_wide _ (by rfl) _ _ 29 (by rfl) Bc 3 i0 _ 1 8 Try.underlying29 hi0 hz0 hz1 hz2 rfl (by omega) _ l.length _ (by rfl) HOA.out ⟨w6.heap.size, 0, none⟩ 1 1 [_] (by rfl) (by rfl) (World.news_of_block (cs := #[_]) (t := 3) (fr := (0, 0)) (heap_alloc_new w6 _)) (by simp [Value.oneCell']) (by unfold maxLen; omega) (by omega) hsa ?_; intro v8 w8 hown8 hgrow8 _; have HB8 := Lib.hid (below_grown HBA.out hsa HOA.out hgrow8); have hx8 := HX.out w8 HB8.out; have x8 := hx8.1; have q8 := hx8.2; have HS8 := Lib.hid (Nat.le_trans hsa hgrow8.size); have HO8 := Lib.hid hown8; clear hgrow8 hown8 hx8)
          go_roundg (L dn).toNat
          case measure => have := HGK.out; have := HD2.out; omega
          case rel =>
            refine ⟨dn, l ++ [(i : Int)], rfl, rfl, hdl, HD2.out.1, ?_, ?_, HS8.out, HB8.out⟩
            · rw [List.append_assoc, List.singleton_append, ← HCH2.out]
              exact HEQ.out
            · rw [List.length_append, List.length_singleton, Gr.insV_app, Gr.insV_one]
              exact HO8.out
        · have hv : Gr.nx L m g.es[i] = false := HNO.out i (by omega)
          rw [hnv2] at hv
          have hiF2 : i < F := by omega
          clear hnv2 hiF HCL
          generalize g.es[i] = x at *
          obtain ⟨xs, xd, xp⟩ := x
          simp only [Gr.eA, if_false, Bool.false_eq_true] at hds
          obtain ⟨dn, rfl⟩ : ∃ n : Nat, xd = (n : Int) := ⟨xd.toNat, by omega⟩
          dsimp only [] at x0 x1 hv
          rw [Int.toNat_natCast] at hv
          have hdl : dn < g.ns.length := by omega
          have y3 : (dn : Int) < (g.ns.length : Int) := by omega
          have e4 : wr.cell? ⟨gl, dn, none⟩ = some (.int .i64 (L dn)) := hrw.cell hdl
          have HV := Lib.hid hv
          clear hv hds hrow hrw
          by_cases c1 : xs = (m : Int)
          · have d3 : (xs != (m : Int)) = false := by rw [c1]; simp
            have d4 : (L dn != L m - 1) = true := by
              have h := HV.out
              rw [c1] at h
              simp at h
              rw [bne_iff_ne]
              exact h
            clear c1
            go_upto_region 10 with (fail)
            go_quiet (fail)
            have HB6 := Lib.hid (show Below w00.heap.size w00 (wr.drewN nq) from below_drewN HB2.out nq)
            generalize wr.drewN nq = w6 at *
            clear e3 e4 x0 x1 q0 q1
            go_wp2_with fail
            go_roundw
            case rel => exact ⟨i + 1, by go_num, by omega, HB6.out⟩
            case measure => simp [intOf]; omega
          · have d3 : (xs != (m : Int)) = true := by rw [bne_iff_ne]; exact c1
            clear c1
            go_upto_region 10 with (fail)
            go_quiet (fail)
            have HB6 := Lib.hid (show Below w00.heap.size w00 (wr.drewN nq) from below_drewN HB2.out nq)
            generalize wr.drewN nq = w6 at *
            clear e3 e4 x0 x1 q0 q1
            go_wp2_with fail
            go_roundw
            case rel => exact ⟨i + 1, by go_num, by omega, HB6.out⟩
            case measure => simp [intOf]; omega
end Go.Proofs.Ytdiaejdoglccoaa
