/- texts of the law; slices.Equal at words; Same and Few of the reference; awake. Condition: bytealg's MaxLen, the table of powers and strconv's errors lie in their variables. -/
import Derived.Test.YtenaohnginikhaaDoorNqw
namespace Go.Proofs.YtenaohnginikhaaDoor
open Go.RowKit Go.Deep Tr
namespace Nm
def txs (l : List Lx) : List (List UInt8) := l.map (·.tx)
theorem txs_snoc (l : List Lx) (k : Nat) (h : k < l.length) : txs (l.take (k + 1)) = txs (l.take k) ++ [l[k].tx] := by
  unfold txs; rw [List.take_succ_eq_append_getElem h, List.map_append]; rfl
theorem txs_len (l : List Lx) : (txs l).length = l.length := List.length_map _
set_option maxHeartbeats 8000000 in
set_option maxRecDepth 100000 in
theorem texts_any (t : Txt) (A : Option Addr) (c : Nat) (w : World) (hA : TxAt w A t) (hn : t.ws.length ≤ 1000000) :
    Calls Tryd.prog 23 #[txV A c t] w (GotSs w (txs t.ws)) := by
  obtain ⟨i0, hi0, hz0, hz1, hz2⟩ := info_parts infoStr
  have hb0 : Below w.heap.size w (w.alloc (txO A t.ws.length c (str t.pth))) := (Below.refl _ _).alloc (Nat.le_refl _) _
  have hG := heap_alloc_new w (txO A t.ws.length c (str t.pth))
  obtain ⟨W, hW⟩ : ∃ W, W = w.alloc (txO A t.ws.length c (str t.pth)) := ⟨_, rfl⟩
  rw [← hW] at hb0 hG
  obtain ⟨q0, q1⟩ := cells2 hG
  have HA := Lib.hid hA.ws
  have HB0 := Lib.hid hb0
  clear hA hb0
  obtain ⟨p, l⟩ := t
  dsimp only at *
  go_enter Tryd.func23, Tryd.ntmps23
  go_upto_region 1 with (fail)
  rw [show w.alloc (.cells #[.string (str p), .slice A l.length c] 25 (0, 0)) = W from hW.symm]
  clear hW hG
  go_wp2_with fail
  clear q0 q1
  go_loopw [3, 9] (fun s3 s9 wr => ∃ k : Nat, s9 = .int .i64 k ∧ k ≤ l.length ∧ wr.ownsRow w.heap.size 9 1 s3 k (Ls.stsV (txs (l.take k))) ∧ Below w.heap.size w wr) (fun _ s9 _ => l.length - (intOf s9).toNat)
  case atStart => exact ⟨0, rfl, by omega, World.ownsRow_nil _ _ _ _, HB0.out⟩
  case round =>
    clear HB0
    obtain ⟨k, rfl, hk, hown, hb⟩ := hrel
    have hwX := hb.size
    have hlk : (txs (l.take k)).length = k := by rw [txs_len, List.length_take]; omega
    have hown0 := hown
    rw [show k = (txs (l.take k)).length from hlk.symm] at hown0
    rw [hlk] at hown0
    obtain ⟨A3, c3, hv3, hc3, hm3, hEl⟩ := Ls.own_el (l := txs (l.take k)) Ls.stV 1 Ls.stV_len (by rw [hlk]; exact hown)
    rw [hlk] at hv3 hc3
    subst hv3
    by_cases hlt : k < l.length
    · have b1 : decide ((k : Int) < (l.length : Int)) = true := decide_eq_true (by omega)
      have b1n : decide (k < l.length) = true := decide_eq_true hlt
      have y1 : (k : Int) < (l.length : Int) := by omega
      obtain ⟨g, o, rfl, hg, h0, h1⟩ := HA.out k hlt
      have d0 := (hb.cell (p := ⟨g, o + k * 2, none⟩) hg).trans h0
      have d1 := (hb.cell (p := ⟨g, o + k * 2 + 1, none⟩) hg).trans h1
      have HTX := Lib.hid (txs_snoc l k hlt)
      obtain ⟨x, hx⟩ : ∃ x, x = l[k] := ⟨_, rfl⟩
      rw [← hx] at d0 d1 HTX
      have hbN : Below w.heap.size w (wr.alloc (.cells #[.string (str x.tx), .int .i64 x.ln] 41)) := hb.alloc hwX _
      have hoN := hown.alloc (.cells #[.string (str x.tx), .int .i64 x.ln] 41)
      have hG := heap_alloc_new wr (.cells #[.string (str x.tx), .int .i64 x.ln] 41)
      obtain ⟨N, hN⟩ : ∃ N, N = wr.alloc (.cells #[.string (str x.tx), .int .i64 x.ln] 41) := ⟨_, rfl⟩
      rw [← hN] at hbN hoN hG
      obtain ⟨e0, e1⟩ := cells2 hG
      have hNs : w.heap.size ≤ N.heap.size := hbN.size
      clear h0 h1 hx hEl hown hown0 hb hG
      go_upto_region 5 with (fail)
      rw [← hN]
      clear hN d0 d1
      go_wp2_with (at_builtin; refine wpList_append_lies _ (by rfl) _ _ 45 (by rfl) w.heap.size 9 i0 _ 1 16 Tryd.underlying45 hi0 hz0 hz1 hz2 rfl (by omega) (.slice A3 k c3) k _ (by rfl) (hoN.alloc _) ⟨N.heap.size, 0, none⟩ 1 1 [_] (by rfl) (by rfl) (World.news_of_block (cs := #[_]) (t := 9) (fr := (0, 0)) (heap_alloc_new N _)) (by simp [Value.oneCell']) (by omega) (by unfold maxLen; omega) (by omega) (by simp; omega) (N.heap.size + 1) (by simp) ?_; intro gg cap w6 hown6 hgrow hat hlt6)
      have hb6 := below_grown (hbN.alloc (by omega) _) (by simp; omega) (hoN.alloc _) hgrow
      have HO := Lib.hid hown6
      have H6 := Lib.hid hb6
      clear hown6 hb6 hgrow hat hlt6 hoN hbN e0 e1
      go_wp2_with fail
      go_roundw
      case rel => exact ⟨k + 1, by go_num, by omega, by rw [HTX.out, Ls.stsV_snoc]; exact HO.out, H6.out⟩
      case measure => simp [intOf]; omega
    · have b1 : decide ((k : Int) < (l.length : Int)) = false := decide_eq_false (by omega)
      have b1n : decide (k < l.length) = false := decide_eq_false hlt
      obtain rfl : k = l.length := by omega
      rw [List.take_length] at hEl hown
      have HO := Lib.hid hEl
      have HKD := Lib.hid (show ∀ g o, A3 = some ⟨g, o, none⟩ → ∃ cs fr, wr.heap[g]? = some (.cells cs 9 fr) from fun g o h => by subst h; exact Lib.ownsRow_kind hown g rfl)
      have HB := Lib.hid hb
      clear hown hown0 hb hEl
      go_wp2_with fail
      go_ret
      exact ⟨A3, c3, by rw [txs_len]; rfl, HO.out, HKD.out, HB.out⟩
set_option maxHeartbeats 8000000 in
set_option maxRecDepth 100000 in
theorem eqlx_true (A A' : Option Addr) (c c' : Nat) (l : List Lx) (w : World) (hA : LxAt w w.heap.size A l) (hA' : LxAt w w.heap.size A' l) (hl : l.length ≤ 100000000) :
    Calls Tryd.prog 24 #[.slice A l.length c, .slice A' l.length c'] w fun x w' => x = .returned (.bool true) ∧ Below w.heap.size w w' := by
  go_enter Tryd.func24, Tryd.ntmps24
  go_wp2_with fail
  go_loopw [13] (fun v wr => ∃ k : Nat, k ≤ l.length ∧ v = .int .i64 k ∧ Below w.heap.size w wr) (fun v _ => l.length - (intOf v).toNat)
  case atStart => exact ⟨0, by omega, rfl, Below.refl _ _⟩
  case round =>
    obtain ⟨k, hk, rfl, hb⟩ := hrel
    by_cases hlt : k < l.length
    · obtain ⟨g, o, rfl, hg, h0, h1⟩ := hA k hlt
      obtain ⟨g', o', rfl, hg', h0', h1'⟩ := hA' k hlt
      have hd0 := (hb.cell (p := ⟨g, o + k * 2, none⟩) hg).trans h0
      have hd1 := (hb.cell (p := ⟨g, o + k * 2 + 1, none⟩) hg).trans h1
      have hd0' := (hb.cell (p := ⟨g', o' + k * 2, none⟩) hg').trans h0'
      have hd1' := (hb.cell (p := ⟨g', o' + k * 2 + 1, none⟩) hg').trans h1'
      clear h0 h1 h0' h1' hA hA'
      have hki : (k : Int) < (l.length : Int) := by omega
      go_upto_region 6 with (fail)
      generalize l[k] = s at *
      go_quiet (fail)
      have hb2 := hb.trans ((below_drewN wr nq).mono hb.size)
      generalize wr.drewN nq = w2 at *
      clear hd0 hd1 hd0' hd1' hb
      go_wp2_with fail
      go_roundw
      case rel => exact ⟨k + 1, by omega, by go_num, hb2⟩
      case measure => simp [intOf]; omega
    · have hki : decide ((k : Int) < (l.length : Int)) = false := by simp; omega
      go_wp2_with fail
      go_ret
      exact ⟨rfl, hb⟩
set_option maxHeartbeats 8000000 in
set_option maxRecDepth 100000 in
theorem same_true (t : Txt) (A A' : Option Addr) (c c' : Nat) (w : World) (hA : TxAt w A t) (hA' : TxAt w A' t) (hl : t.ws.length ≤ 100000000) :
    Calls Tryd.prog 13 #[txV A c t, txV A' c' t] w fun x w' => x = .returned (.bool true) ∧ Below w.heap.size w w' := by
  obtain ⟨W1, hW1⟩ : ∃ W1, W1 = w.alloc (txO A t.ws.length c (str t.pth)) := ⟨_, rfl⟩
  have hb1 : Below w.heap.size w W1 := by rw [hW1]; exact (Below.refl _ _).alloc (Nat.le_refl _) _
  have g1 : W1.heap[w.heap.size]? = some (txO A t.ws.length c (str t.pth)) := by rw [hW1]; exact heap_alloc_new w _
  have s1 : W1.heap.size = w.heap.size + 1 := by rw [hW1]; simp
  obtain ⟨W, hW⟩ : ∃ W, W = W1.alloc (txO A' t.ws.length c' (str t.pth)) := ⟨_, rfl⟩
  have hb2 : Below W1.heap.size W1 W := by rw [hW]; exact (Below.refl _ _).alloc (Nat.le_refl _) _
  have g2 : W.heap[w.heap.size + 1]? = some (txO A' t.ws.length c' (str t.pth)) := by rw [hW, ← s1]; exact heap_alloc_new W1 _
  have g1' := (hb2.block _ (by omega)).trans g1
  have hbW : Below w.heap.size w W := hb1.trans (hb2.mono (by omega))
  obtain ⟨q0, q1⟩ := cells2 g1'
  obtain ⟨p0, p1⟩ := cells2 g2
  have HA := Lib.hid (hA.next hbW).ws
  have HA' := Lib.hid (hA'.next hbW).ws
  have HBW := Lib.hid hbW
  have HQ := Lib.hid (show w.heap.size + 1 < W.heap.size from blk_lt g2)
  rw [hW1] at hW
  clear hA hA' hb1 hb2 hbW g1 g2 g1' s1 hW1
  obtain ⟨p, l⟩ := t
  dsimp only at *
  go_enter Tryd.func13, Tryd.ntmps13
  go_upto_region 1 with (fail)
  rw [show (w.alloc (.cells #[.string (str p), .slice A l.length c] 25 (0, 0))).alloc (.cells #[.string (str p), .slice A' l.length c'] 25 (0, 0)) = W from hW.symm]
  clear hW
  go_wp2_with fail
  go_loopw [5] (fun v wr => ∃ k : Nat, k ≤ l.length ∧ v = .int .i64 k ∧ Below W.heap.size W wr) (fun v _ => l.length - (intOf v).toNat)
  case atStart => exact ⟨0, by omega, rfl, Below.refl _ _⟩
  case round =>
    obtain ⟨k, hk, rfl, hb⟩ := hrel
    have hq := HQ.out
    have e1 := (hb.cell (p := ⟨w.heap.size, 1, none⟩) (show w.heap.size < W.heap.size by omega)).trans q1
    have e2 := (hb.cell (p := ⟨w.heap.size + 1, 1, none⟩) (show w.heap.size + 1 < W.heap.size by omega)).trans p1
    by_cases hlt : k < l.length
    · obtain ⟨g, o, rfl, hg, h0, h1⟩ := HA.out k hlt
      obtain ⟨g', o', rfl, hg', h0', h1'⟩ := HA'.out k hlt
      have hd0 := (hb.cell (p := ⟨g, o + k * 2, none⟩) hg).trans h0
      have hd1 := (hb.cell (p := ⟨g, o + k * 2 + 1, none⟩) hg).trans h1
      have hd0' := (hb.cell (p := ⟨g', o' + k * 2, none⟩) hg').trans h0'
      have hd1' := (hb.cell (p := ⟨g', o' + k * 2 + 1, none⟩) hg').trans h1'
      clear h0 h1 h0' h1' q0 q1 p0 p1
      have hki : (k : Int) < (l.length : Int) := by omega
      go_upto_region 6 with (fail)
      generalize l[k] = s at *
      go_quiet (fail)
      have hb2 := hb.trans ((below_drewN wr nq).mono hb.size)
      generalize wr.drewN nq = w2 at *
      clear hd0 hd1 hd0' hd1' hb e1 e2
      go_wp2_with fail
      go_roundw
      case rel => exact ⟨k + 1, by omega, by go_num, hb2⟩
      case measure => simp [intOf]; omega
    · have hki : decide ((k : Int) < (l.length : Int)) = false := by simp; omega
      have HB := Lib.hid (HBW.out.trans (hb.mono HBW.out.size))
      clear hb
      go_wp2_with fail
      go_ret
      exact ⟨rfl, HB.out⟩
end Nm
end Go.Proofs.YtenaohnginikhaaDoor
