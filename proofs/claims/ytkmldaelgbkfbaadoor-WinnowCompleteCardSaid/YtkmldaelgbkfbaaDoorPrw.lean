/- The law of Prints and Guarantee. Condition: bytealg's MaxLen lies in its variable; the lengths. -/
import Derived.Test.YtkmldaelgbkfbaaDoorPrn
import Derived.Test.YtkmldaelgbkfbaaDoorQpr
namespace Go.Proofs.YtkmldaelgbkfbaaDoor
open Go.RowKit Go.Deep Tr
namespace Wn
set_option maxHeartbeats 16000000 in
set_option maxRecDepth 100000 in
theorem qgua_any (k n : Int) (w : World) :
    Calls Tryd.prog 10 #[.int .i64 k, .int .i64 n] w fun e w' => e = .returned (.tuple #[.int .i64 (guaI k n), .int .i64 (guaE k n)]) ∧ w = w' := by
  have c1 := qsize_any k w
  have c2 := qsize_any n w
  have HI := Lib.hid (show guaI k n = if sz k = true ∧ sz n = true then k + n - 1 else 0 from rfl)
  have HE := Lib.hid (show guaE k n = if sz k = true ∧ sz n = true then 0 else 3 from rfl)
  generalize guaI k n = v at *
  generalize guaE k n = e at *
  have HK := Lib.hid (show sz k = true → 1 ≤ k ∧ k ≤ 1024 from fun h => of_decide_eq_true h)
  have HN := Lib.hid (show sz n = true → 1 ≤ n ∧ n ≤ 1024 from fun h => of_decide_eq_true h)
  generalize sz k = a at *
  generalize sz n = b at *
  cases a with
  | false =>
    have HT := Lib.hid (show v = 0 ∧ e = 3 from ⟨by rw [HI.out, if_neg (by simp)], by rw [HE.out, if_neg (by simp)]⟩)
    clear HI HE HK HN
    go_enter Tryd.func10, Tryd.ntmps10
    go_wp2_with (first
      | (go_at_call 23; (with_reducible refine c1.mono ?_); rintro e w' ⟨rfl, rfl⟩))
    go_ret2
    exact ⟨by rw [HT.out.1, HT.out.2]; rfl, rfl⟩
  | true =>
  cases b with
  | false =>
    have HT := Lib.hid (show v = 0 ∧ e = 3 from ⟨by rw [HI.out, if_neg (by simp)], by rw [HE.out, if_neg (by simp)]⟩)
    clear HI HE HK HN
    go_enter Tryd.func10, Tryd.ntmps10
    go_wp2_with (first
      | (go_at_call 23; (with_reducible refine c1.mono ?_); rintro e w' ⟨rfl, rfl⟩)
      | (go_at_call 23; (with_reducible refine c2.mono ?_); rintro e w' ⟨rfl, rfl⟩))
    go_ret2
    exact ⟨by rw [HT.out.1, HT.out.2]; rfl, rfl⟩
  | true =>
    have HT := Lib.hid (show v = k + n - 1 ∧ e = 0 from ⟨by rw [HI.out, if_pos (by simp)], by rw [HE.out, if_pos (by simp)]⟩)
    have u1 : IntKind.i64.wrap (k + n) = k + n := by have := HK.out rfl; have := HN.out rfl; rw [IntKind.wrap_i64]; omega
    have u2 : IntKind.i64.wrap (k + n - 1) = k + n - 1 := by have := HK.out rfl; have := HN.out rfl; rw [IntKind.wrap_i64]; omega
    clear HI HE HK HN
    go_enter Tryd.func10, Tryd.ntmps10
    go_wp2_with (first
      | (go_at_call 23; (with_reducible refine c1.mono ?_); rintro e w' ⟨rfl, rfl⟩)
      | (go_at_call 23; (with_reducible refine c2.mono ?_); rintro e w' ⟨rfl, rfl⟩))
    go_ret2
    exact ⟨by rw [HT.out.1, HT.out.2]; rfl, rfl⟩
set_option maxHeartbeats 16000000 in
set_option maxRecDepth 100000 in
theorem prints_law (t : Nm.Txt) (k n : Int) (A : Option Addr) (c : Nat) (w : World) (hA : Nm.LxAt w w.heap.size A t.ws) (hM : MaxAt w) (hl : t.ws.length ≤ 5864062014634) (hc : t.ws.length ≤ c) :
    Calls Tryd.prog 3 #[Nm.txV A c t, .int .i64 k, .int .i64 n] w fun e w' => e = .returned (.bool true) ∧ Below w.heap.size w w' := by
  have hb0 : Below w.heap.size w (w.alloc (Nm.txO A t.ws.length c (Tr.str t.pth))) := (Below.refl _ _).alloc (Nat.le_refl _) _
  have hG := heap_alloc_new w (Nm.txO A t.ws.length c (Tr.str t.pth))
  obtain ⟨W, hW⟩ : ∃ W, W = w.alloc (Nm.txO A t.ws.length c (Tr.str t.pth)) := ⟨_, rfl⟩
  rw [← hW] at hb0 hG
  obtain ⟨q0, q1⟩ := Nm.cells2 hG
  have hlt := blk_lt hG
  have HB0 := Lib.hid hb0
  have HA0 := Lib.hid (hA.next hb0)
  have HM0 := Lib.hid (hM.below hb0)
  have HL := Lib.hid hl
  have HC := Lib.hid hc
  have c0 := awake_any W
  clear hA hM hb0 hG hl hc
  go_enter Tryd.func3, Tryd.ntmps3
  go_upto_region 1 with (fail)
  rw [show w.alloc (.cells #[.string (Tr.str t.pth), .slice A t.ws.length c] 24 (0, 0)) = W from hW.symm]
  clear hW
  go_wp2_with fail
  (with_reducible refine c0.mono ?_); rintro e w1 ⟨rfl, hb1⟩
  have p0 := (hb1.cell (p := ⟨w.heap.size, 0, none⟩) hlt).trans q0
  have p1 := (hb1.cell (p := ⟨w.heap.size, 1, none⟩) hlt).trans q1
  have hlt1 := Nat.lt_of_lt_of_le hlt hb1.size
  have HA1 := Lib.hid (HA0.out.next hb1)
  have HM1 := Lib.hid (HM0.out.below hb1)
  have HB1 := Lib.hid (HB0.out.trans (hb1.mono HB0.out.size))
  have cf := Rl.few_any (rlx t.ws) A c w1 (rlx_at HA1.out) (by rw [rlx_len]; have := HL.out; omega)
  rw [rlx_len] at cf
  clear hb1 q0 q1 c0 hlt
  go_wp2_with fail
  (with_reducible refine cf.mono ?_); rintro e w2 ⟨bf, rfl, hbf, rfl⟩
  clear cf
  cases bf with
  | false =>
    clear hbf
    go_wp2_with fail
    go_ret
    exact ⟨rfl, HB1.out⟩
  | true =>
  obtain ⟨hl40, hs40⟩ := hbf rfl
  obtain ⟨hsa, hsb⟩ := few_sht hs40
  have HS := Lib.hid hsa
  have HS2 := Lib.hid hsb
  have HL4 := Lib.hid hl40
  clear hbf hl40 hs40 hsa hsb
  have hpz := Tr.str_size t.pth
  by_cases hp : 200 < t.pth.length
  · have d1 : decide ((200 : Int) < ((Tr.str t.pth).size : Int)) = true := decide_eq_true (by omega)
    have d1n : decide (200 < (Tr.str t.pth).size) = true := decide_eq_true (by omega)
    go_wp2_with fail
    go_ret
    exact ⟨rfl, HB1.out⟩
  have d1 : decide ((200 : Int) < ((Tr.str t.pth).size : Int)) = false := decide_eq_false (by omega)
  have d1n : decide (200 < (Tr.str t.pth).size) = false := decide_eq_false (by omega)
  have HTX := Lib.hid (show Nm.TxAt w1 A t from ⟨HA1.out, fun x hx => by have := HS.out x hx; omega, by omega, HL.out⟩)
  have HS6 := Lib.hid (show ∀ x ∈ t.ws, x.tx.length ≤ 1000000 from fun x hx => by have := HS.out x hx; omega)
  have HL6 := Lib.hid (show t.ws.length ≤ 1000000 by have := HL4.out; omega)
  have hpl : (prL t k n).length ≤ 10000 := by
    unfold prL
    split
    · rename_i h
      rw [fps_len]
      have h1 := grams_ok t k h.1 h.2.1
      unfold prS
      have := sel_len (prG t k) n.toNat ((prG t k).length + 1 - n.toNat)
      omega
    · simp
  have HPL := Lib.hid hpl
  have c1 := prints_any t k n A c w1 HTX.out HS6.out HL6.out HC.out HM1.out
  clear hp hpz hpl
  go_upto_region 5 with (fail)
  clear d1 d1n
  go_wp2_with fail
  (with_reducible refine c1.mono ?_); rintro e w3 ⟨A3, k3, rfl, -, -, hin3, hb3⟩
  have r0 := (hb3.cell (p := ⟨w.heap.size, 0, none⟩) hlt1).trans p0
  have r1 := (hb3.cell (p := ⟨w.heap.size, 1, none⟩) hlt1).trans p1
  have HB3 := Lib.hid (HB1.out.trans (hb3.mono HB1.out.size))
  have c2 := qprints_any t k n A c w3 (HTX.out.next hb3) HS6.out HL6.out HC.out
  have HPL := HPL
  generalize prL t k n = L at *
  generalize prE t k n = E at *
  clear c1 hb3 p0 p1
  go_wp2_with fail
  (with_reducible refine c2.mono ?_); rintro e w4 ⟨A4, k4, rfl, -, -, hin4, hb4⟩
  have HB4 := Lib.hid (HB3.out.trans (hb4.mono HB3.out.size))
  have hin34 := hin3.next hb4
  have c3 := gua_any k n w4
  have c4 := qgua_any k n w4
  have c5 := equalFp_any L A3 A4 k3 k4 w4 hin34 hin4 HPL.out
  generalize guaI k n = v at *
  generalize guaE k n = x at *
  clear c2 hb4 r0 r1 hin3 hin4 hin34
  go_wp2_with (first
    | (go_at_call 9; (with_reducible refine c3.mono ?_); rintro e w' ⟨rfl, rfl⟩)
    | (go_at_call 10; (with_reducible refine c4.mono ?_); rintro e w' ⟨rfl, rfl⟩))
  (with_reducible refine c5.mono ?_); rintro e w5 ⟨rfl, hb5⟩
  have HB5 := Lib.hid (HB4.out.trans (hb5.mono HB4.out.size))
  clear c3 c4 c5 hb5
  go_wp2_with fail
  go_ret
  exact ⟨by simp, HB5.out⟩
end Wn
end Go.Proofs.YtkmldaelgbkfbaaDoor
