/- The law GraphWays. No condition but the lengths. -/
import Derived.Test.YtdiaejdoglccoaaWpl
namespace Go.Proofs.Ytdiaejdoglccoaa
open Go.RowKit Go.Deep Tr

theorem Gr.rch_len {fw : Bool} {g : Gph} {a : Int} {l : List Int} (h : Gr.Rch fw g a l) : l.length ≤ g.ns.length := by
  unfold Gr.Rch at h
  split at h
  · obtain ⟨p, rfl, _⟩ := h
    exact Gr.chs_len p _
  · rw [h]; simp
set_option maxHeartbeats 16000000 in
set_option maxRecDepth 100000 in
theorem ways_law (g : Gph) (f t : Int) (A B : Option Addr) (c d : Nat) (w : World) (hA : GrAt w A B g) :
    Calls Try.prog 6 #[grV A B c d g, .int .i64 f, .int .i64 t] w fun e w' => e = .returned (.bool true) ∧ Below w.heap.size w w' := by
  have hb0 : Below w.heap.size w (w.alloc (grO A B c d g)) := (Below.refl _ _).alloc (Nat.le_refl _) _
  have hG := heap_alloc_new w (grO A B c d g)
  obtain ⟨W, hW⟩ : ∃ W, W = w.alloc (grO A B c d g) := ⟨_, rfl⟩
  rw [← hW] at hb0 hG
  have HA := Lib.hid hA
  have HG0 := Lib.hid hG
  have HB0 := Lib.hid hb0
  have c1 := awake_any W
  clear hA hG hb0
  go_enter Try.func6, Try.ntmps6
  go_upto_region 1 with (fail)
  rw [← hW]
  clear hW
  go_wp2_with fail
  with_reducible refine c1.mono ?_
  clear c1
  rintro e w1 ⟨rfl, hb1⟩
  have HG1 := Lib.hid ((hb1.block _ (blk_lt HG0.out)).trans HG0.out)
  have HB1 := Lib.hid (HB0.out.trans (hb1.mono HB0.out.size))
  clear hb1 HG0 HB0
  have c2 := few_any g A B c d w1 (HA.out.next HB1.out)
  obtain ⟨q0, q1⟩ := gb_cells HG1.out
  go_wp2_with fail
  with_reducible refine c2.mono ?_
  clear c2 q0 q1
  rintro e w2 ⟨b, rfl, hb2⟩
  have HG2 := Lib.hid ((hb2.block _ (blk_lt HG1.out)).trans HG1.out)
  have HB2 := Lib.hid (HB1.out.trans (hb2.mono HB1.out.size))
  clear hb2 HG1 HB1
  obtain ⟨q0, q1⟩ := gb_cells HG2.out
  cases b with
  | false =>
    go_wp2_with fail
    go_ret
    exact ⟨rfl, HB2.out⟩
  | true =>
  have c3 := check_any g A B c d w2 (HA.out.next HB2.out)
  obtain ⟨z, hz⟩ : ∃ z, Gr.chk g = z := ⟨_, rfl⟩
  rw [hz] at c3
  have HZ := Lib.hid hz
  clear hz
  go_wp2_with fail
  with_reducible refine c3.mono ?_
  clear c3 q0 q1
  rintro e w3 ⟨rfl, hb3⟩
  have HG3 := Lib.hid ((hb3.block _ (blk_lt HG2.out)).trans HG2.out)
  have HB3 := Lib.hid (HB2.out.trans (hb3.mono HB2.out.size))
  clear hb3 HG2 HB2
  obtain ⟨q0, q1⟩ := gb_cells HG3.out
  by_cases hz0 : z = 0
  case neg =>
    have z1 : (z != 0) = true := by rw [bne_iff_ne]; exact hz0
    have z2 : (z == 0) = false := by rw [beq_eq_false_iff_ne]; exact hz0
    clear hz0
    go_wp2_with fail
    go_ret
    exact ⟨rfl, HB3.out⟩
  have z1 : (z != 0) = false := by rw [hz0]; rfl
  have z2 : (z == 0) = true := by rw [hz0]; rfl
  have HCk := Lib.hid (HZ.out.trans hz0)
  have HOk := Lib.hid (Gr.chk_ok HCk.out)
  clear hz0 HZ
  by_cases h1 : f < 0
  · have d1 : decide (f < 0) = true := decide_eq_true h1
    clear h1
    go_wp2_with fail
    go_ret
    exact ⟨rfl, HB3.out⟩
  by_cases h2 : (g.ns.length : Int) ≤ f
  · have d1 : decide (f < 0) = false := decide_eq_false h1
    have d2 : decide ((g.ns.length : Int) ≤ f) = true := decide_eq_true h2
    clear h1 h2
    go_wp2_with fail
    go_ret
    exact ⟨rfl, HB3.out⟩
  obtain ⟨fn, rfl⟩ : ∃ n : Nat, f = (n : Int) := ⟨f.toNat, by omega⟩
  have hfl : fn < g.ns.length := by omega
  have d1 : decide ((fn : Int) < 0) = false := decide_eq_false h1
  have d2 : decide ((g.ns.length : Int) ≤ (fn : Int)) = false := decide_eq_false h2
  have d2n : decide (g.ns.length ≤ fn) = false := decide_eq_false (by omega)
  clear h1 h2
  by_cases h1 : t < 0
  · have d3 : decide (t < 0) = true := decide_eq_true h1
    clear h1
    go_wp2_with fail
    go_ret
    exact ⟨rfl, HB3.out⟩
  by_cases h2 : (g.ns.length : Int) ≤ t
  · have d3 : decide (t < 0) = false := decide_eq_false h1
    have d4 : decide ((g.ns.length : Int) ≤ t) = true := decide_eq_true h2
    clear h1 h2
    go_wp2_with fail
    go_ret
    exact ⟨rfl, HB3.out⟩
  obtain ⟨tn, rfl⟩ : ∃ n : Nat, t = (n : Int) := ⟨t.toNat, by omega⟩
  have htl : tn < g.ns.length := by omega
  have d3 : decide ((tn : Int) < 0) = false := decide_eq_false h1
  have d4 : decide ((g.ns.length : Int) ≤ (tn : Int)) = false := decide_eq_false h2
  have d4n : decide (g.ns.length ≤ tn) = false := decide_eq_false (by omega)
  have HF := Lib.hid (show Gr.isN g (fn : Int) = true by unfold Gr.isN; rw [Bool.and_eq_true, decide_eq_true_eq, decide_eq_true_eq]; omega)
  have HT := Lib.hid (show Gr.isN g (tn : Int) = true by unfold Gr.isN; rw [Bool.and_eq_true, decide_eq_true_eq, decide_eq_true_eq]; omega)
  clear h1 h2
  have c4 := chain_any g (fn : Int) (tn : Int) A B c d w3 (HA.out.next HB3.out)
  go_wp2_with fail
  with_reducible refine c4.mono ?_
  clear c4 q0 q1 d1 d2 d2n d3 d4 d4n z1 z2
  rintro e w4 ⟨v, ok, rfl, l, hC, hown, hb4⟩
  have HG4 := Lib.hid ((hb4.block _ (blk_lt HG3.out)).trans HG3.out)
  have HB4 := Lib.hid (HB3.out.trans (hb4.mono HB3.out.size))
  obtain ⟨Al, cl, rfl, hlc, hcm, hat⟩ := Gr.own_el Gr.inV 1 Gr.inV_len hown
  have HC := Lib.hid hC
  have HI4 := Lib.hid hat
  have hll := Gr.chn_short hC
  have hel := HOk.out.el
  clear hb4 HG3 HB3 hC hown hat hlc hcm
  by_cases e0 : fn = tn
  · have d5 : ((fn : Int) == (tn : Int)) = true := by rw [e0]; simp
    obtain rfl : ok = true := by
      have h := HC.out
      rw [← e0] at h
      exact Gr.chn_self h HCk.out HF.out
    clear e0
    obtain ⟨w5, rfl⟩ : ∃ x : World, x = w4 := ⟨_, rfl⟩
    have HG5 := HG4
    have HB5 := HB4
    have HI5 := HI4
    clear HG4 HB4 HI4
    obtain ⟨L, hL, h0, hl⟩ := Gr.chn_lab HC.out
    have HL := Lib.hid hL
    have HLL := Lib.hid hl
    clear hL hl
    go_wp2_with fail
    go_loopw [9, 77] (fun s9 s77 wr => ∃ k m : Nat, s77 = .int .i64 k ∧ s9 = .int .i64 m ∧ k ≤ l.length ∧ m < g.ns.length ∧ 0 ≤ L m ∧ l.drop k = Gr.chain L g.es (L m).toNat m ∧ wr = w5) (fun _ s77 _ => l.length - (intOf s77).toNat)
    case atStart => exact ⟨0, fn, rfl, rfl, by omega, hfl, h0, HLL.out, rfl⟩
    case round =>
      clear h0
      obtain ⟨k, m, rfl, rfl, hk, hm, h0m, hdr, hwr⟩ := hrel
      rw [hwr]
      clear hwr
      by_cases hlt : k < l.length
      · have b1 : decide ((k : Int) < (l.length : Int)) = true := decide_eq_true (by omega)
        have b1n : decide (k < l.length) = true := decide_eq_true hlt
        have y2 : (k : Int) < (l.length : Int) := by omega
        have hmt : m ≠ tn := fun e => by
          rw [e, Gr.lab_end HL.out] at hdr
          have h := congrArg List.length hdr
          rw [List.length_drop, Gr.chain_len] at h
          simp at h
          omega
        obtain ⟨i, hi, hsrc, hch, h0'⟩ := Gr.chain_next HL.out h0m hmt
        rw [hch, List.drop_eq_getElem_cons hlt] at hdr
        injection hdr with hlk hdr'
        obtain ⟨gl, ol, rfl, _, hcl⟩ := in_cell HI5.out hlt
        have x1 : w5.cell? ⟨gl, ol + k, none⟩ = some (.int .i64 (i : Int)) := by rw [hcl, hlk]
        have x2 : decide ((i : Int) < 0) = false := decide_eq_false (by omega)
        have x3 : decide ((g.es.length : Int) ≤ (i : Int)) = false := decide_eq_false (by omega)
        have x3n : decide (g.es.length ≤ i) = false := decide_eq_false (by omega)
        have y3 : (i : Int) < (g.es.length : Int) := by omega
        obtain ⟨gb, oo, rfl, hg, hc⟩ := HA.out.es i hi
        have x4 := (HB5.out.cell (p := ⟨gb, oo + i * 3, none⟩) hg).trans (hc 0 _ rfl)
        have x5 := (HB5.out.cell (p := ⟨gb, oo + i * 3 + 1, none⟩) hg).trans (hc 1 _ rfl)
        rw [hsrc] at x4
        have hdst := HOk.out.ed false g.es[i] (List.getElem_mem hi)
        have hd1 : g.es[i].dst = Gr.eA false g.es[i] := rfl
        obtain ⟨m', hm'⟩ : ∃ k : Nat, g.es[i].dst = (k : Int) := ⟨g.es[i].dst.toNat, by omega⟩
        have hmn : m' < g.ns.length := by omega
        rw [hm'] at x5
        rw [hm', Int.toNat_natCast] at hdr' h0'
        have x6 : ((m : Int) != (m : Int)) = false := by simp
        have HD := Lib.hid hdr'
        obtain ⟨q0, q1⟩ := gb_cells HG5.out
        clear hmt hsrc hch hlk hdr' hcl hc hg hdst hd1 hm' h0m
        go_wp2_with fail
        go_roundw
        case rel => exact ⟨k + 1, m', by go_num, rfl, by omega, hmn, h0', HD.out, (by first | rfl | trivial)⟩
        case measure => simp [intOf]; omega
      · have b1 : decide ((k : Int) < (l.length : Int)) = false := decide_eq_false (by omega)
        have b1n : decide (k < l.length) = false := decide_eq_false hlt
        have hm0 : L m = 0 := by
          have h := congrArg List.length hdr
          rw [List.length_drop, Gr.chain_len] at h
          omega
        have hmt := Gr.lab_zero HL.out hm0
        have x6 : ((m : Int) != (tn : Int)) = false := by rw [hmt]; simp
        obtain ⟨q0, q1⟩ := gb_cells HG5.out
        clear hdr hm0 hmt h0m
        go_wp2_with fail
        clear q0 q1
        go_loopw [113] (fun s113 wr => ∃ k : Nat, s113 = .int .i64 k ∧ k ≤ g.es.length ∧ wr.heap[w.heap.size]? = some (grO A B c d g) ∧ Below w.heap.size w wr) (fun s113 _ => g.es.length - (intOf s113).toNat)
        case atStart => exact ⟨0, rfl, by omega, HG5.out, HB5.out⟩
        case round =>
          clear b1 b1n x6 hlt hk
          obtain ⟨k, rfl, hk, hG, hb⟩ := hrel
          by_cases hlt : k < g.es.length
          · have b1 : decide ((k : Int) < (g.es.length : Int)) = true := decide_eq_true (by omega)
            have b1n : decide (k < g.es.length) = true := decide_eq_true hlt
            have y2 : (k : Int) < (g.es.length : Int) := by omega
            obtain ⟨gb, oo, hBB, hg, hc⟩ := HA.out.es k hlt
            have hd0 := (hb.cell (p := ⟨gb, oo + k * 3, none⟩) hg).trans (hc 0 _ rfl)
            have hd1 := (hb.cell (p := ⟨gb, oo + k * 3 + 1, none⟩) hg).trans (hc 1 _ rfl)
            have hd2 := (hb.cell (p := ⟨gb, oo + k * 3 + 2, none⟩) hg).trans (hc 2 _ rfl)
            subst hBB
            have HX := Lib.hid (List.getElem_mem hlt)
            have hsr := HOk.out.ed true g.es[k] (List.getElem_mem hlt)
            have hds := HOk.out.ed false g.es[k] (List.getElem_mem hlt)
            clear hg hc
            generalize g.es[k] = x at *
            obtain ⟨xs, xd, xp⟩ := x
            simp only [Gr.eA, if_true, if_false, Bool.false_eq_true] at hsr hds
            obtain ⟨sn, rfl⟩ : ∃ n : Nat, xs = (n : Int) := ⟨xs.toNat, by omega⟩
            obtain ⟨dn, rfl⟩ : ∃ n : Nat, xd = (n : Int) := ⟨xd.toNat, by omega⟩
            have HTT := Lib.hid (show Gr.isN g (dn : Int) = true by unfold Gr.isN; rw [Bool.and_eq_true, decide_eq_true_eq, decide_eq_true_eq]; omega)
            dsimp only [] at hd0 hd1 hd2
            have hba := hb.alloc hb.size (edO ⟨(sn : Int), (dn : Int), xp⟩)
            have hGa := (blk_alloc_lt wr (edO ⟨(sn : Int), (dn : Int), xp⟩) _ (blk_lt hG)).trans hG
            have hxn := heap_alloc_new wr (edO ⟨(sn : Int), (dn : Int), xp⟩)
            clear hsr hds hG hb
            go_upto_region 23 with (fail)
            dsimp only [edO] at hba hGa hxn ⊢
            generalize wr.alloc (.cells #[.int .i64 (sn : Int), .int .i64 (dn : Int), .int .i64 xp] 42) = wa at *
            generalize wr.heap.size = eb at *
            have e0 : wa.cell? ⟨eb, 0, none⟩ = some (.int .i64 (sn : Int)) := by rw [cell_of_row _ _ _ _ _ _ hxn]; rfl
            have c7 := chain_any g (fn : Int) (sn : Int) _ _ c d wa (HA.out.next hba)
            obtain ⟨q0, q1⟩ := gb_cells hGa
            have HBa := Lib.hid hba
            have HGa := Lib.hid hGa
            have HXN := Lib.hid hxn
            clear hd0 hd1 hd2 hba hGa hxn
            go_wp2_with fail
            with_reducible refine c7.mono ?_
            clear c7 q0 q1 e0
            rintro e w7 ⟨v7, p, rfl, la, hCa, hown7, hb7⟩
            obtain ⟨A7, k7, rfl, hk7, hm7, _⟩ := Gr.own_el Gr.inV 1 Gr.inV_len hown7
            have hX7 := (hb7.block _ (blk_lt HXN.out)).trans HXN.out
            have e1 : w7.cell? ⟨eb, 1, none⟩ = some (.int .i64 (dn : Int)) := by rw [cell_of_row _ _ _ _ _ _ hX7]; rfl
            have HG7 := Lib.hid ((hb7.block _ (blk_lt HGa.out)).trans HGa.out)
            have HB7 := Lib.hid (HBa.out.trans (hb7.mono HBa.out.size))
            have HCa := Lib.hid hCa
            have c8 := chain_any g (fn : Int) (dn : Int) _ _ c d w7 (HA.out.next HB7.out)
            obtain ⟨q0, q1⟩ := gb_cells HG7.out
            clear hX7 hb7 hCa hown7 HXN HBa HGa
            go_wp2_with fail
            with_reducible refine c8.mono ?_
            clear c8 q0 q1 e1
            rintro e w8 ⟨v8, q, rfl, lb, hCb, hown8, hb8⟩
            obtain ⟨A8, k8, rfl, hk8, hm8, _⟩ := Gr.own_el Gr.inV 1 Gr.inV_len hown8
            have HG8 := Lib.hid ((hb8.block _ (blk_lt HG7.out)).trans HG7.out)
            have HB8 := Lib.hid (HB7.out.trans (hb8.mono HB7.out.size))
            have HCb := Lib.hid hCb
            clear hb8 hCb hown8 HG7 HB7
            cases p with
            | false =>
              clear hm7 hm8 hk7 hk8
              go_wp2_with fail
              go_roundw
              case rel => exact ⟨k + 1, by go_num, by omega, HG8.out, HB8.out⟩
              case measure => simp [intOf]; omega
            | true =>
              obtain ⟨rfl, hlen⟩ := Gr.chn_edge HX.out rfl rfl HCa.out HCb.out HCk.out HF.out HTT.out
              have hla := Gr.chn_short HCa.out
              have hwr : IntKind.i64.wrap ((la.length : Int) + 1) = (la.length : Int) + 1 := IntWalk.i64_in _ (by omega)
              have x7 : decide ((la.length : Int) + 1 < (lb.length : Int)) = false := decide_eq_false (by omega)
              clear hm7 hm8 hk7 hk8 hlen
              go_wp2_with fail
              go_roundw
              case rel => exact ⟨k + 1, by go_num, by omega, HG8.out, HB8.out⟩
              case measure => simp [intOf]; omega
          · have b1 : decide ((k : Int) < (g.es.length : Int)) = false := decide_eq_false (by omega)
            have b1n : decide (k < g.es.length) = false := decide_eq_false hlt
            have HB := Lib.hid hb
            clear hG hb
            go_wp2_with fail
            go_ret
            exact ⟨rfl, HB.out⟩
  · have d5 : ((fn : Int) == (tn : Int)) = false := by rw [beq_eq_false_iff_ne]; omega
    have c5 := reach_any g (fn : Int) A B c d w4 (HA.out.next HB4.out)
    obtain ⟨q0, q1⟩ := gb_cells HG4.out
    have HE := Lib.hid e0
    clear e0
    go_wp2_with fail
    with_reducible refine c5.mono ?_
    clear c5 q0 q1
    rintro e w5 ⟨v2, rfl, l2, hR, hown2, hb5⟩
    have HG5 := Lib.hid ((hb5.block _ (blk_lt HG4.out)).trans HG4.out)
    have HB5 := Lib.hid (HB4.out.trans (hb5.mono HB4.out.size))
    have HI5 := Lib.hid (HI4.out.next hb5)
    obtain ⟨A2, k2, rfl, _, _, hat2⟩ := Gr.own_el Gr.inV 1 Gr.inV_len hown2
    have c6 := containsIn_any l2 (tn : Int) A2 k2 w5 hat2 (by have := Gr.rch_len hR; have := HOk.out.nl; omega)
    rw [show decide ((tn : Int) ∈ l2) = ok by
      rw [Bool.eq_iff_iff, decide_eq_true_eq, Gr.chn_reach HC.out HCk.out HF.out HT.out hR]
      exact ⟨fun h => .inr h, fun h => h.resolve_left HE.out⟩] at c6
    clear hb5 HG4 HB4 HI4 hown2 hat2 hR
    go_wp2_with fail
    with_reducible refine c6.mono ?_
    clear c6
    rintro e w6 ⟨rfl, hw6⟩
    rw [hw6]
    clear hw6 w6
    cases ok with
    | false =>
      obtain rfl := Gr.chn_nil HC.out
      rw [show ([] : List Int).length = 0 from rfl]
      go_wp2_with fail
      go_ret
      exact ⟨rfl, HB5.out⟩
    | true =>
    obtain ⟨L, hL, h0, hl⟩ := Gr.chn_lab HC.out
    have HL := Lib.hid hL
    have HLL := Lib.hid hl
    clear hL hl
    go_wp2_with fail
    go_loopw [9, 77] (fun s9 s77 wr => ∃ k m : Nat, s77 = .int .i64 k ∧ s9 = .int .i64 m ∧ k ≤ l.length ∧ m < g.ns.length ∧ 0 ≤ L m ∧ l.drop k = Gr.chain L g.es (L m).toNat m ∧ wr = w5) (fun _ s77 _ => l.length - (intOf s77).toNat)
    case atStart => exact ⟨0, fn, rfl, rfl, by omega, hfl, h0, HLL.out, rfl⟩
    case round =>
      clear h0
      obtain ⟨k, m, rfl, rfl, hk, hm, h0m, hdr, hwr⟩ := hrel
      rw [hwr]
      clear hwr
      by_cases hlt : k < l.length
      · have b1 : decide ((k : Int) < (l.length : Int)) = true := decide_eq_true (by omega)
        have b1n : decide (k < l.length) = true := decide_eq_true hlt
        have y2 : (k : Int) < (l.length : Int) := by omega
        have hmt : m ≠ tn := fun e => by
          rw [e, Gr.lab_end HL.out] at hdr
          have h := congrArg List.length hdr
          rw [List.length_drop, Gr.chain_len] at h
          simp at h
          omega
        obtain ⟨i, hi, hsrc, hch, h0'⟩ := Gr.chain_next HL.out h0m hmt
        rw [hch, List.drop_eq_getElem_cons hlt] at hdr
        injection hdr with hlk hdr'
        obtain ⟨gl, ol, rfl, _, hcl⟩ := in_cell HI5.out hlt
        have x1 : w5.cell? ⟨gl, ol + k, none⟩ = some (.int .i64 (i : Int)) := by rw [hcl, hlk]
        have x2 : decide ((i : Int) < 0) = false := decide_eq_false (by omega)
        have x3 : decide ((g.es.length : Int) ≤ (i : Int)) = false := decide_eq_false (by omega)
        have x3n : decide (g.es.length ≤ i) = false := decide_eq_false (by omega)
        have y3 : (i : Int) < (g.es.length : Int) := by omega
        obtain ⟨gb, oo, rfl, hg, hc⟩ := HA.out.es i hi
        have x4 := (HB5.out.cell (p := ⟨gb, oo + i * 3, none⟩) hg).trans (hc 0 _ rfl)
        have x5 := (HB5.out.cell (p := ⟨gb, oo + i * 3 + 1, none⟩) hg).trans (hc 1 _ rfl)
        rw [hsrc] at x4
        have hdst := HOk.out.ed false g.es[i] (List.getElem_mem hi)
        have hd1 : g.es[i].dst = Gr.eA false g.es[i] := rfl
        obtain ⟨m', hm'⟩ : ∃ k : Nat, g.es[i].dst = (k : Int) := ⟨g.es[i].dst.toNat, by omega⟩
        have hmn : m' < g.ns.length := by omega
        rw [hm'] at x5
        rw [hm', Int.toNat_natCast] at hdr' h0'
        have x6 : ((m : Int) != (m : Int)) = false := by simp
        have HD := Lib.hid hdr'
        obtain ⟨q0, q1⟩ := gb_cells HG5.out
        clear hmt hsrc hch hlk hdr' hcl hc hg hdst hd1 hm' h0m
        go_wp2_with fail
        go_roundw
        case rel => exact ⟨k + 1, m', by go_num, rfl, by omega, hmn, h0', HD.out, (by first | rfl | trivial)⟩
        case measure => simp [intOf]; omega
      · have b1 : decide ((k : Int) < (l.length : Int)) = false := decide_eq_false (by omega)
        have b1n : decide (k < l.length) = false := decide_eq_false hlt
        have hm0 : L m = 0 := by
          have h := congrArg List.length hdr
          rw [List.length_drop, Gr.chain_len] at h
          omega
        have hmt := Gr.lab_zero HL.out hm0
        have x6 : ((m : Int) != (tn : Int)) = false := by rw [hmt]; simp
        obtain ⟨q0, q1⟩ := gb_cells HG5.out
        clear hdr hm0 hmt h0m
        go_wp2_with fail
        clear q0 q1
        go_loopw [113] (fun s113 wr => ∃ k : Nat, s113 = .int .i64 k ∧ k ≤ g.es.length ∧ wr.heap[w.heap.size]? = some (grO A B c d g) ∧ Below w.heap.size w wr) (fun s113 _ => g.es.length - (intOf s113).toNat)
        case atStart => exact ⟨0, rfl, by omega, HG5.out, HB5.out⟩
        case round =>
          clear b1 b1n x6 hlt hk
          obtain ⟨k, rfl, hk, hG, hb⟩ := hrel
          by_cases hlt : k < g.es.length
          · have b1 : decide ((k : Int) < (g.es.length : Int)) = true := decide_eq_true (by omega)
            have b1n : decide (k < g.es.length) = true := decide_eq_true hlt
            have y2 : (k : Int) < (g.es.length : Int) := by omega
            obtain ⟨gb, oo, hBB, hg, hc⟩ := HA.out.es k hlt
            have hd0 := (hb.cell (p := ⟨gb, oo + k * 3, none⟩) hg).trans (hc 0 _ rfl)
            have hd1 := (hb.cell (p := ⟨gb, oo + k * 3 + 1, none⟩) hg).trans (hc 1 _ rfl)
            have hd2 := (hb.cell (p := ⟨gb, oo + k * 3 + 2, none⟩) hg).trans (hc 2 _ rfl)
            subst hBB
            have HX := Lib.hid (List.getElem_mem hlt)
            have hsr := HOk.out.ed true g.es[k] (List.getElem_mem hlt)
            have hds := HOk.out.ed false g.es[k] (List.getElem_mem hlt)
            clear hg hc
            generalize g.es[k] = x at *
            obtain ⟨xs, xd, xp⟩ := x
            simp only [Gr.eA, if_true, if_false, Bool.false_eq_true] at hsr hds
            obtain ⟨sn, rfl⟩ : ∃ n : Nat, xs = (n : Int) := ⟨xs.toNat, by omega⟩
            obtain ⟨dn, rfl⟩ : ∃ n : Nat, xd = (n : Int) := ⟨xd.toNat, by omega⟩
            have HTT := Lib.hid (show Gr.isN g (dn : Int) = true by unfold Gr.isN; rw [Bool.and_eq_true, decide_eq_true_eq, decide_eq_true_eq]; omega)
            dsimp only [] at hd0 hd1 hd2
            have hba := hb.alloc hb.size (edO ⟨(sn : Int), (dn : Int), xp⟩)
            have hGa := (blk_alloc_lt wr (edO ⟨(sn : Int), (dn : Int), xp⟩) _ (blk_lt hG)).trans hG
            have hxn := heap_alloc_new wr (edO ⟨(sn : Int), (dn : Int), xp⟩)
            clear hsr hds hG hb
            go_upto_region 23 with (fail)
            dsimp only [edO] at hba hGa hxn ⊢
            generalize wr.alloc (.cells #[.int .i64 (sn : Int), .int .i64 (dn : Int), .int .i64 xp] 42) = wa at *
            generalize wr.heap.size = eb at *
            have e0 : wa.cell? ⟨eb, 0, none⟩ = some (.int .i64 (sn : Int)) := by rw [cell_of_row _ _ _ _ _ _ hxn]; rfl
            have c7 := chain_any g (fn : Int) (sn : Int) _ _ c d wa (HA.out.next hba)
            obtain ⟨q0, q1⟩ := gb_cells hGa
            have HBa := Lib.hid hba
            have HGa := Lib.hid hGa
            have HXN := Lib.hid hxn
            clear hd0 hd1 hd2 hba hGa hxn
            go_wp2_with fail
            with_reducible refine c7.mono ?_
            clear c7 q0 q1 e0
            rintro e w7 ⟨v7, p, rfl, la, hCa, hown7, hb7⟩
            obtain ⟨A7, k7, rfl, hk7, hm7, _⟩ := Gr.own_el Gr.inV 1 Gr.inV_len hown7
            have hX7 := (hb7.block _ (blk_lt HXN.out)).trans HXN.out
            have e1 : w7.cell? ⟨eb, 1, none⟩ = some (.int .i64 (dn : Int)) := by rw [cell_of_row _ _ _ _ _ _ hX7]; rfl
            have HG7 := Lib.hid ((hb7.block _ (blk_lt HGa.out)).trans HGa.out)
            have HB7 := Lib.hid (HBa.out.trans (hb7.mono HBa.out.size))
            have HCa := Lib.hid hCa
            have c8 := chain_any g (fn : Int) (dn : Int) _ _ c d w7 (HA.out.next HB7.out)
            obtain ⟨q0, q1⟩ := gb_cells HG7.out
            clear hX7 hb7 hCa hown7 HXN HBa HGa
            go_wp2_with fail
            with_reducible refine c8.mono ?_
            clear c8 q0 q1 e1
            rintro e w8 ⟨v8, q, rfl, lb, hCb, hown8, hb8⟩
            obtain ⟨A8, k8, rfl, hk8, hm8, _⟩ := Gr.own_el Gr.inV 1 Gr.inV_len hown8
            have HG8 := Lib.hid ((hb8.block _ (blk_lt HG7.out)).trans HG7.out)
            have HB8 := Lib.hid (HB7.out.trans (hb8.mono HB7.out.size))
            have HCb := Lib.hid hCb
            clear hb8 hCb hown8 HG7 HB7
            cases p with
            | false =>
              clear hm7 hm8 hk7 hk8
              go_wp2_with fail
              go_roundw
              case rel => exact ⟨k + 1, by go_num, by omega, HG8.out, HB8.out⟩
              case measure => simp [intOf]; omega
            | true =>
              obtain ⟨rfl, hlen⟩ := Gr.chn_edge HX.out rfl rfl HCa.out HCb.out HCk.out HF.out HTT.out
              have hla := Gr.chn_short HCa.out
              have hwr : IntKind.i64.wrap ((la.length : Int) + 1) = (la.length : Int) + 1 := IntWalk.i64_in _ (by omega)
              have x7 : decide ((la.length : Int) + 1 < (lb.length : Int)) = false := decide_eq_false (by omega)
              clear hm7 hm8 hk7 hk8 hlen
              go_wp2_with fail
              go_roundw
              case rel => exact ⟨k + 1, by go_num, by omega, HG8.out, HB8.out⟩
              case measure => simp [intOf]; omega
          · have b1 : decide ((k : Int) < (g.es.length : Int)) = false := decide_eq_false (by omega)
            have b1n : decide (k < g.es.length) = false := decide_eq_false hlt
            have HB := Lib.hid hb
            clear hG hb
            go_wp2_with fail
            go_ret
            exact ⟨rfl, HB.out⟩
end Go.Proofs.Ytdiaejdoglccoaa
