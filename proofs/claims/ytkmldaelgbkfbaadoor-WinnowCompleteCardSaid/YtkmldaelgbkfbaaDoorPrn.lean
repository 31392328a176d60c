/- Prints of the program. Condition: bytealg's MaxLen lies in its variable; the lengths. -/
import Derived.Test.YtkmldaelgbkfbaaDoorFpr
namespace Go.Proofs.YtkmldaelgbkfbaaDoor
open Go.RowKit Go.Deep Tr
namespace Wn
set_option maxHeartbeats 16000000 in
set_option maxRecDepth 100000 in
theorem prints_any (t : Nm.Txt) (k n : Int) (A : Option Addr) (c : Nat) (w : World) (hA : Nm.TxAt w A t) (hs : ∀ x ∈ t.ws, x.tx.length ≤ 1000000) (hlen : t.ws.length ≤ 1000000) (hc : t.ws.length ≤ c) (hM : MaxAt w) :
    Calls Tryd.prog 7 #[Nm.txV A c t, .int .i64 k, .int .i64 n] w (GotF w (prL t k n) (prE t k n)) := by
  obtain ⟨i0, hi0, hz0, hz1, hz2⟩ := info_parts infoFp
  have HL := Lib.hid (show prL t k n = if Nm.vld t = true ∧ sz k = true ∧ sz n = true then fps (prG t k) (prS t k n) else [] from rfl)
  have HE := Lib.hid (show prE t k n = if Nm.vld t = true then if sz k = true ∧ sz n = true then 0 else 3 else 1 from rfl)
  generalize prL t k n = L at *
  generalize prE t k n = E at *
  have hb0 : Below w.heap.size w (w.alloc (Nm.txO A t.ws.length c (Tr.str t.pth))) := (Below.refl _ _).alloc (Nat.le_refl _) _
  have hG := heap_alloc_new w (Nm.txO A t.ws.length c (Tr.str t.pth))
  obtain ⟨W, hW⟩ : ∃ W, W = w.alloc (Nm.txO A t.ws.length c (Tr.str t.pth)) := ⟨_, rfl⟩
  rw [← hW] at hb0 hG
  obtain ⟨q0, q1⟩ := Nm.cells2 hG
  have c1 := Nm.valid_any t A c W (hA.next hb0) (hM.below hb0)
  have HB0 := Lib.hid hb0
  have hltW := blk_lt hG
  have HA1 := Lib.hid (hA.next hb0)
  have HSH := Lib.hid (show Rl.Sht (rlx t.ws) from fun x hx => by
    obtain ⟨y, hy, rfl⟩ := List.mem_map.1 hx
    have := hs y hy
    show y.tx.length ≤ _
    omega)
  have HLEN := Lib.hid hlen
  have HC := Lib.hid hc
  have c2 := fun w' => size_any k w'
  have c3 := fun w' => size_any n w'
  clear hA hb0 hG hM hs hlen hc
  cases hv : Nm.vld t with
  | false =>
    rw [hv] at c1
    have HT := Lib.hid (show L = [] ∧ E = 1 from ⟨by rw [HL.out, hv, if_neg (by simp)], by rw [HE.out, hv, if_neg (by simp)]⟩)
    clear HL HE hv
    go_enter Tryd.func7, Tryd.ntmps7
    go_upto_region 1 with (fail)
    rw [show w.alloc (.cells #[.string (Tr.str t.pth), .slice A t.ws.length c] 24 (0, 0)) = W from hW.symm]
    clear hW
    go_wp2_with fail
    (with_reducible refine c1.mono ?_); rintro e w1 ⟨rfl, hb1⟩
    have HB1 := Lib.hid (HB0.out.trans (hb1.mono HB0.out.size))
    go_wp2_with fail
    go_ret2
    exact ⟨none, 0, by rw [HT.out.1, HT.out.2]; rfl, by rw [HT.out.1]; exact Nat.le_refl _, by unfold maxLen; omega, by rw [HT.out.1]; exact Gr.ElAt.nil _ _ _ _ _, HB1.out⟩
  | true =>
  rw [hv] at c1
  have hgk := grams_ok t k hv
  cases hk : sz k with
  | false =>
    rw [hk] at c2
    have HT := Lib.hid (show L = [] ∧ E = 3 from ⟨by rw [HL.out, hk, if_neg (by simp)], by rw [HE.out, hv, hk, if_pos rfl, if_neg (by simp)]⟩)
    clear HL HE hv hk hgk c3
    go_enter Tryd.func7, Tryd.ntmps7
    go_upto_region 1 with (fail)
    rw [show w.alloc (.cells #[.string (Tr.str t.pth), .slice A t.ws.length c] 24 (0, 0)) = W from hW.symm]
    clear hW
    go_wp2_with fail
    (with_reducible refine c1.mono ?_); rintro e w1 ⟨rfl, hb1⟩
    have HB1 := Lib.hid (HB0.out.trans (hb1.mono HB0.out.size))
    have c2 := c2 w1
    clear hb1 q0 q1
    go_wp2_with (first | (go_at_call 20; (with_reducible refine c2.mono ?_); rintro e w7 ⟨rfl, rfl⟩))
    go_ret2
    exact ⟨none, 0, by rw [HT.out.1, HT.out.2]; rfl, by rw [HT.out.1]; exact Nat.le_refl _, by unfold maxLen; omega, by rw [HT.out.1]; exact Gr.ElAt.nil _ _ _ _ _, HB1.out⟩
  | true =>
  rw [hk] at c2
  cases hn : sz n with
  | false =>
    rw [hn] at c3
    have HT := Lib.hid (show L = [] ∧ E = 3 from ⟨by rw [HL.out, hn, if_neg (by simp)], by rw [HE.out, hv, hn, if_pos rfl, if_neg (by simp)]⟩)
    clear HL HE hv hk hn hgk
    go_enter Tryd.func7, Tryd.ntmps7
    go_upto_region 1 with (fail)
    rw [show w.alloc (.cells #[.string (Tr.str t.pth), .slice A t.ws.length c] 24 (0, 0)) = W from hW.symm]
    clear hW
    go_wp2_with fail
    (with_reducible refine c1.mono ?_); rintro e w1 ⟨rfl, hb1⟩
    have HB1 := Lib.hid (HB0.out.trans (hb1.mono HB0.out.size))
    have c2 := c2 w1
    have c3 := c3 w1
    clear hb1 q0 q1
    go_wp2_with (first | (go_at_call 20; (with_reducible refine c2.mono ?_); rintro e w7 ⟨rfl, rfl⟩) | (go_at_call 20; (with_reducible refine c3.mono ?_); rintro e w7 ⟨rfl, rfl⟩))
    go_ret2
    exact ⟨none, 0, by rw [HT.out.1, HT.out.2]; rfl, by rw [HT.out.1]; exact Nat.le_refl _, by unfold maxLen; omega, by rw [HT.out.1]; exact Gr.ElAt.nil _ _ _ _ _, HB1.out⟩
  | true =>
  rw [hn] at c3
  have HT := Lib.hid (show L = fps (prG t k) (prS t k n) ∧ E = 0 from ⟨by rw [HL.out, if_pos ⟨hv, hk, hn⟩], by rw [HE.out, hv, if_pos rfl, if_pos ⟨hk, hn⟩]⟩)
  obtain ⟨hge, hgl⟩ := hgk hk
  obtain ⟨N, hN, hN1, hN2⟩ := sz_of hn
  have HMEM := Lib.hid (fun x => prS_mem t k n hn x)
  have HSEL := Lib.hid (show selL (prG t k) n = ints (prS t k n) ∧ selE (prG t k) n = 0 from by
    have := selL_ok (prG t k) N hN1 hN2 hgl
    rw [← hN] at this
    refine ⟨?_, this.2⟩
    unfold prS
    rw [hN, Int.toNat_natCast, ← hN]
    exact this.1)
  have HSL := Lib.hid (show (prS t k n).length ≤ 8200 from by
    unfold prS
    have := sel_len (prG t k) n.toNat ((prG t k).length + 1 - n.toNat)
    omega)
  have HGL := Lib.hid hgl
  have HGE := Lib.hid hge
  clear HL HE hv hk hn hgl hge hgk hN hN1 hN2
  go_enter Tryd.func7, Tryd.ntmps7
  go_upto_region 1 with (fail)
  rw [show w.alloc (.cells #[.string (Tr.str t.pth), .slice A t.ws.length c] 24 (0, 0)) = W from hW.symm]
  clear hW
  go_wp2_with fail
  (with_reducible refine c1.mono ?_); rintro e w1 ⟨rfl, hb1⟩
  have HB1 := Lib.hid (HB0.out.trans (hb1.mono HB0.out.size))
  have p1 := (hb1.cell (p := ⟨w.heap.size, 1, none⟩) hltW).trans q1
  have hA1 := (HA1.out.next hb1)
  have c4 := Rl.grams_any (rlx t.ws) k A c w1 (rlx_at hA1.ws) (by rw [rlx_len]; have := HLEN.out; omega) (by rw [rlx_len]; exact HC.out) HSH.out
  rw [rlx_len, HGE.out] at c4
  have c2 := c2 w1
  have c3 := c3 w1
  clear hb1 q0 q1 c1 hA1
  go_upto_region 6 with (first | (go_at_call 20; (with_reducible refine c2.mono ?_); rintro e w7 ⟨rfl, rfl⟩) | (go_at_call 20; (with_reducible refine c3.mono ?_); rintro e w7 ⟨rfl, rfl⟩) | (go_at_call 21; (with_reducible refine c4.mono ?_); rintro e w2 ⟨v2, rfl, hown2, hb2⟩))
  obtain ⟨A2, k2, rfl, hk2, -, hin2⟩ := Gr.own_el Gr.inV 1 Gr.inV_len (show w2.ownsRow w1.heap.size 3 1 v2 (prG t k).length (Gr.insV (prG t k)) from hown2)
  have HB2 := Lib.hid (HB1.out.trans (hb2.mono HB1.out.size))
  have c5 := select_any (prG t k) n A2 k2 w2 hin2 (by have := HGL.out; omega) hk2
  rw [HSEL.out.1, HSEL.out.2] at c5
  clear hown2 hb2 c2 c3 c4 p1
  obtain ⟨nG, hnG⟩ : ∃ m, m = (prG t k).length := ⟨_, rfl⟩
  rw [← hnG] at c5 ⊢
  have HNG := Lib.hid hnG
  clear hnG hk2
  go_wp2_with fail
  (with_reducible refine c5.mono ?_); rintro e w3 ⟨A3, k3, rfl, -, -, hin3, hb3⟩
  have hin23 := hin2.next hb3
  have HB3 := Lib.hid (HB2.out.trans (hb3.mono HB2.out.size))
  clear c5 hb3 hin2
  rw [ints_len]
  generalize hG : prG t k = gs at *
  generalize hS : prS t k n = S at *
  clear hG hS
  obtain ⟨n1, hn1⟩ : ∃ n1, n1 = S.length := ⟨_, rfl⟩
  rw [← hn1]
  have HN1 := Lib.hid hn1
  by_cases h0 : n1 = 0
  · clear hin23 hin3
    have hS0 : S = [] := List.length_eq_zero_iff.1 (by omega)
    have HT2 := Lib.hid (show L = [] from by rw [HT.out.1, hS0]; rfl)
    clear hS0 hn1
    have h00 := h0
    subst h00
    go_wp2_with fail
    go_loopw [12, 41] (fun s12 s41 wr => s12 = .slice none 0 0 ∧ s41 = .int .i64 0 ∧ Below w3.heap.size w3 wr) (fun _ _ _ => 0)
    case atStart => exact ⟨rfl, rfl, Below.refl _ _⟩
    case round =>
      obtain ⟨rfl, rfl, hb⟩ := hrel
      have HB := Lib.hid (HB3.out.trans (hb.mono HB3.out.size))
      clear hb
      go_wp2_with fail
      go_ret2
      exact ⟨none, 0, by rw [HT2.out, HT.out.2]; rfl, by rw [HT2.out]; exact Nat.le_refl _, by unfold maxLen; omega, by rw [HT2.out]; exact Gr.ElAt.nil _ _ _ _ _, HB.out⟩
  obtain ⟨g3, o3, rfl, hg3, -⟩ := in_at hin3 (by rw [ints_len]; omega)
  have hGp : 0 < gs.length := by
    have := HMEM.out S[0] (List.getElem_mem (by omega))
    omega
  obtain ⟨g2, o2, rfl, hg2, hc2⟩ := in_at hin23 hGp
  have HC2 := Lib.hid hc2
  have HI3 := Lib.hid hin3
  clear hn1 hin3 hin23 hGp hc2 h0
  go_wp2_with fail
  go_loopw [12, 41] (fun s12 s41 wr => ∃ (i : Nat) (sv : Value), sv = s12 ∧ s41 = .int .i64 i ∧ i ≤ n1 ∧ wr.ownsRow w3.heap.size 35 2 sv i (Gr.edsV (fps gs (S.take i))) ∧ Below w3.heap.size w3 wr) (fun _ s41 _ => n1 - (intOf s41).toNat)
  case atStart => exact ⟨0, _, rfl, rfl, by omega, World.ownsRow_nil _ _ _ _, Below.refl _ _⟩
  case round =>
    obtain ⟨i, sv, rfl, rfl, hi, hown, hb⟩ := hrel
    obtain ⟨w00, rfl⟩ : ∃ x : World, x = wr := ⟨wr, rfl⟩
    have hn1 := HN1.out
    have hn8 : n1 ≤ 8200 := by have := HSL.out; omega
    by_cases hlt : i < n1
    · have b1 : decide ((i : Int) < (n1 : Int)) = true := decide_eq_true (by omega)
      have b1n : decide (i < n1) = true := decide_eq_true hlt
      have y1 : (i : Int) < (n1 : Int) := by omega
      have p0 := (hb.cell (p := ⟨g3, o3 + i, none⟩) hg3).trans (ints_cell HI3.out (show i < S.length by omega))
      have hxl := HMEM.out S[i] (List.getElem_mem (by omega))
      have p1 := (hb.cell (p := ⟨g2, o2 + S[i], none⟩) hg2).trans (HC2.out S[i] hxl)
      have HTK := Lib.hid (fps_take gs S i (by omega))
      have y2 : (S[i] : Int) < (nG : Int) := by have := HNG.out; omega
      generalize S[i] = x at *
      generalize gs.getD x 0 = z at *
      have HB := Lib.hid hb
      have HO := Lib.hid hown
      have HI := Lib.hid (show i + 1 ≤ n1 from hlt)
      have hi8 : i ≤ 8200 := by omega
      clear hb hown hn1 hi hlt hxl
      obtain ⟨w5, hw5⟩ : ∃ x : World, x = w00 := ⟨w00, rfl⟩
      rw [← hw5] at HB HO p0 p1 ⊢
      clear hw5
      have hown4 := HO.out
      have hb04 := HB.out
      have hsz := hb04.size
      go_wp2_with (at_builtin; refine wpList_append_own_wide _ (by rfl) _ _ 27 (by rfl) w3.heap.size 35 i0 _ 2 16 Tryd.underlying27 hi0 hz0 hz1 hz2 rfl (by omega) _ i _ (by rfl) (hown4.alloc _) ⟨w5.heap.size, 0, none⟩ 1 1 [_, _] (by rfl) (by rfl) (World.news_of_block (cs := #[_, _]) (t := 35) (fr := (0, 0)) (heap_alloc_new w5 _)) (by simp [Value.oneCell']) (by unfold maxLen; omega) (by omega) (by first | omega | (simp; done) | (simp; omega)) ?_; intro v6 w6 hown6 hgrow6 _)
      have HO := Lib.hid hown6
      have HB4 := Lib.hid (below_grown (hb04.alloc hsz _) (by simp; omega) (hown4.alloc _) hgrow6)
      clear hown6 hgrow6 hown4 hb04
      go_wp2_with fail
      go_roundw
      case rel => exact ⟨i + 1, _, rfl, by go_num, HI.out, by rw [HTK.out, Gr.edsV, List.flatMap_append]; exact HO.out, HB4.out⟩
      case measure => have := HI.out; simp [intOf]; omega
    · have b1 : decide ((i : Int) < (n1 : Int)) = false := decide_eq_false (by omega)
      have b1n : decide (i < n1) = false := decide_eq_false hlt
      have HFIN := Lib.hid (show fps gs S = fps gs (S.take i) ∧ i = (fps gs (S.take i)).length from ⟨by rw [List.take_of_length_le (by omega)], by rw [fps_len, List.length_take]; omega⟩)
      obtain ⟨A7, k7, rfl, h71, h72, h73⟩ := Gr.own_el Gr.edV 2 Gr.edV_len (show w00.ownsRow w3.heap.size 35 2 sv (fps gs (S.take i)).length ((fps gs (S.take i)).flatMap Gr.edV) by rw [← HFIN.out.2]; exact hown)
      have HB := Lib.hid (HB3.out.trans (hb.mono HB3.out.size))
      have HX := Lib.hid (show (fps gs (S.take i)).length ≤ k7 ∧ k7 ≤ maxLen ∧ Gr.EdAt w00 w00.heap.size A7 (fps gs (S.take i)) from ⟨h71, h72, h73⟩)
      clear hown hb hn1 hi hlt h71 h72 h73
      go_wp2_with fail
      go_ret2
      rw [HT.out.1, HT.out.2, HFIN.out.1]
      exact ⟨A7, k7, rfl, HX.out.1, HX.out.2.1, HX.out.2.2, HB.out⟩
end Wn
end Go.Proofs.YtkmldaelgbkfbaaDoor
