/- Trace of the reference. No condition but the lengths. -/
import Derived.Test.YtlfgnecfabdkmaaGreatDoorQva
import Derived.Test.YtlfgnecfabdkmaaGreatDoorTra
namespace Go.Proofs.YtlfgnecfabdkmaaGreatDoor
open Go.RowKit Go.Deep Tr

set_option maxHeartbeats 16000000 in
set_option maxRecDepth 100000 in
theorem qTrace_any (p : Pc.Pa) (A : Option Addr) (c : Nat) (n : Int) (w : World) (hP : PaOk w p A) :
    Calls Tryz.prog 23 #[paV p A c, .int .i64 n] w (GotTr w (Pc.trace p n)) := by
  have hb0 : Below w.heap.size w (w.alloc (.cells #[.string (str p.base), .slice A p.hs.length c] 24)) := (Below.refl _ _).alloc (Nat.le_refl _) _
  have bx0 : Bp (w.alloc (.cells #[.string (str p.base), .slice A p.hs.length c] 24)) w.heap.size p A c := heap_alloc_new w _
  have HW := Lib.hid (show ∀ w', Below (w.alloc (.cells #[.string (str p.base), .slice A p.hs.length c] 24)).heap.size (w.alloc (.cells #[.string (str p.base), .slice A p.hs.length c] 24)) w' → Below w.heap.size w w' ∧ PaOk w' p A ∧ Bp w' w.heap.size p A c from fun w' h => ⟨hb0.trans (h.mono hb0.size), hP.next (hb0.trans (h.mono hb0.size)), bx0.next h⟩)
  have hbb0 := Below.refl (w.alloc (.cells #[.string (str p.base), .slice A p.hs.length c] 24)).heap.size (w.alloc (.cells #[.string (str p.base), .slice A p.hs.length c] 24))
  have HCD := Lib.hid (trace_def p n)
  have HVA := Lib.hid (fun h => valid_all (p := p) h)
  have HVL := Lib.hid (fun h => (Pc.valid_len (p := p) h).1)
  have hcall := qValid_any p A c _ (HW.out _ hbb0).2.1
  obtain ⟨k0, k1⟩ := (HW.out _ hbb0).2.2.cells
  have HPL := Lib.hid (placesOf_def p)
  rw [paV_def] at hcall ⊢
  clear hb0 bx0 hP
  generalize Pc.placesOf p = PL at *
  cases hv : Pc.valid p with
  | false =>
    rw [hv] at hcall
    have HT := Lib.hid (HCD.out.trans (if_pos hv))
    clear HCD hv HVA HPL HVL
    generalize Pc.trace p n = R at *
    go_enter Tryz.func23, Tryz.ntmps23
    go_wp2_with fail
    with_reducible refine hcall.mono ?_
    clear hcall k0 k1
    rintro x w1 ⟨rfl, hb1⟩
    have hres := (HW.out _ hb1).1
    go_wp2_with fail
    go_ret2
    rw [HT.out]
    exact ⟨_, rfl, World.ownsRow_nil _ _ _ _, hres⟩
  | true =>
    rw [hv] at hcall
    have HT := Lib.hid (HCD.out.trans (if_neg (by rw [hv]; simp)))
    obtain ⟨v1, v2, v3, v4, v5, v6, v7, v8⟩ := HVA.out hv
    have hvl := HVL.out hv
    clear HCD hv HVA HVL
    have HH := Lib.hid v2
    clear v2 v3
    generalize Pc.trace p n = R at *
    go_enter Tryz.func23, Tryz.ntmps23
    go_wp2_with fail
    with_reducible refine hcall.mono ?_
    clear hcall k0 k1
    rintro x w1 ⟨rfl, hb1⟩
    obtain ⟨hbw1, hP1, bx1⟩ := HW.out _ hb1
    have hcc := qCounts_any p A c w1 hP1.at_ (by omega) HH.out
    rw [paV_def] at hcc
    obtain ⟨k0, k1⟩ := bx1.cells
    have HB1 := Lib.hid hb1
    clear hbw1 hP1 bx1 hb1
    generalize Pc.cnt 1 p.hs = x1 at *
    generalize Pc.cnt 2 p.hs = x2 at *
    generalize Pc.cnt 3 p.hs = x3 at *
    go_wp2_with fail
    with_reducible refine hcc.mono ?_
    clear hcc k0 k1
    rintro x w2 ⟨rfl, hb2⟩
    have hb02 := HB1.out.trans (hb2.mono HB1.out.size)
    obtain ⟨hbw2, hP2, bx2⟩ := HW.out _ hb02
    clear HB1 hb2
    by_cases hn : x1 + x2 ≠ n
    · have HTT := Lib.hid (HT.out.trans (if_pos hn))
      have q1 : (n != x1 + x2) = true := by rw [bne_iff_ne]; exact fun e => hn e.symm
      have q2 : (x1 + x2 != n) = true := by rw [bne_iff_ne]; exact hn
      have q3 : ¬ n = x1 + x2 := fun e => hn e.symm
      clear HT hn bx2 hP2
      go_wp2_with fail
      go_ret2
      rw [HTT.out]
      exact ⟨_, rfl, World.ownsRow_nil _ _ _ _, hbw2⟩
    have HTT := Lib.hid (HT.out.trans (if_neg hn))
    have q1 : (n != x1 + x2) = false := by simp; omega
    have q2 : (x1 + x2 != n) = false := by simp; omega
    have q3 : n = x1 + x2 := by omega
    clear HT hn
    obtain ⟨k0, k1⟩ := bx2.cells
    obtain ⟨i0, hi0, hz0, hz1, hz2⟩ := info_parts infoP
    obtain ⟨base, hs⟩ := p
    dsimp only at *
    change Hid (PL = Pc.places hs 0 (if base = [] then 0 else 1)) at HPL
    go_upto_if 31 with (fail)
    obtain ⟨ln, hln⟩ : ∃ ln : Nat, ln = (if base = [] then 0 else 1) := ⟨_, rfl⟩
    have hln1 : ln ≤ 1 := by rw [hln]; split <;> omega
    have HP := Lib.hid (show PL = [] ++ Pc.places (hs.drop 0) 0 ln by rw [HPL.out, hln]; rfl)
    have HLN := Lib.hid hln
    clear hln HPL q1 q2 q3
    go_cut [10] (fun s5 wx => s5 = .int .i64 (ln : Int) ∧ wx = w2)
    case first =>
      by_cases hbe : base = []
      · have q3 : (!(str base).toList.isEmpty) = false := by rw [str_list, hbe]; rfl
        rw [q3]
        have HE := Lib.hid (show ln = 0 by rw [HLN.out, if_pos hbe])
        clear hbe HLN
        go_wp2_with fail
        go_meet
        exact ⟨by rw [HE.out]; rfl, rfl⟩
      · have q3 : (!(str base).toList.isEmpty) = true := by rw [str_list]; cases hq : base with | nil => exact absurd hq hbe | cons _ _ => rfl
        rw [q3]
        have HE := Lib.hid (show ln = 1 by rw [HLN.out, if_neg hbe])
        clear hbe HLN
        go_wp2_with fail
        go_meet
        exact ⟨by rw [HE.out]; rfl, rfl⟩
    case rest =>
    obtain ⟨rfl, rfl⟩ := hcut
    clear HLN
    have hA1 := hP2.at_
    have HBK := Lib.hid hbw2
    have HBL := Lib.hid hbw2.size
    have hbb := Below.refl wc.heap.size wc
    clear hP2 bx2 hbw2 hb02
    go_wp2_with fail
    go_loopw [9, 10, 11, 35] (fun s4 s5 s3 i wr => ∃ (k old line : Nat) (os : List Pc.Pl), k ≤ hs.length ∧ i = .int .i64 k ∧ s4 = .int .i64 old ∧ s5 = .int .i64 line ∧ old ≤ 1024 * k ∧ line ≤ 1 + 1025 * k ∧ os.length ≤ 1024 * k ∧ wr.ownsRow wc.heap.size 44 2 s3 os.length (plsOf os) ∧ PL = os ++ Pc.places (hs.drop k) old line ∧ Below wc.heap.size wc wr) (fun _ _ _ i _ => hs.length - (intOf i).toNat)
    case atStart => exact ⟨0, 0, ln, [], by omega, rfl, rfl, rfl, by omega, by omega, by simp, World.ownsRow_nil _ _ _ _, HP.out, hbb⟩
    case round =>
      clear HP k0 k1 hbb
      obtain ⟨k, old, line, os, hk, rfl, rfl, rfl, hol, hli, hosl, hown, hR, hb⟩ := hrel
      have HR := Lib.hid hR
      clear hR
      by_cases hlt : k < hs.length
      · have b1 : decide ((k : Int) < hs.length) = true := by simp; omega
        have b1n : decide (k < hs.length) = true := by simp; omega
        obtain ⟨g, o, Ak, ck, rfl, hg, h0, h1, h2, hck, h4, h5⟩ := hA1 k hlt
        have hd0 := (hb.cell (p := ⟨g, o + k * 3, none⟩) hg).trans h0
        have hd1 := (hb.cell (p := ⟨g, o + k * 3 + 1, none⟩) hg).trans h1
        have hd2 := (hb.cell (p := ⟨g, o + k * 3 + 2, none⟩) hg).trans h2
        have HX := Lib.hid (HR.out.trans (by rw [list_drop hs k hlt]))
        obtain ⟨⟨n1, n2⟩, hkd, hln⟩ := Pc.isHunk_num (HH.out hs[k] (List.getElem_mem hlt))
        clear h0 h1 h2 HR
        generalize hs[k] = h at *
        obtain ⟨kd, n, xs⟩ := h
        dsimp only at *
        obtain ⟨m, rfl⟩ : ∃ m : Nat, n = m := ⟨n.toNat, by omega⟩
        have hm1 : 1 ≤ m := by omega
        have hm2 : m ≤ 1024 := by omega
        have hown1 := hown.alloc (.cells #[.int .i64 kd, .int .i64 m, .slice Ak xs.length ck] 54)
        have hbw : Below wc.heap.size wc (wr.alloc (.cells #[.int .i64 kd, .int .i64 m, .slice Ak xs.length ck] 54)) := hb.alloc hb.size _
        have hnew := heap_alloc_new wr (.cells #[.int .i64 kd, .int .i64 m, .slice Ak xs.length ck] 54)
        clear n1 n2 hln hown hb hck
        go_upto_region 13 with (fail)
        generalize wr.alloc (.cells #[.int .i64 kd, .int .i64 m, .slice Ak xs.length ck] 54) = w2 at *
        generalize wr.heap.size = q at *
        clear hd0 hd1 hd2
        rcases hkd with rfl | rfl | rfl
        · have HT := Lib.hid (show PL = (os ++ Pc.keeps old m) ++ Pc.places (hs.drop (k + 1)) (old + m) (line + 1) by rw [HX.out, places_keep, List.append_assoc]; rfl)
          clear HX
          go_wp2_with fail
          obtain ⟨wo2, rfl⟩ : ∃ wo : World, wo = w2 := ⟨_, rfl⟩
          go_loopw [11, 14] (fun s3 i wq => ∃ j : Nat, j ≤ m ∧ i = .int .i64 j ∧ wq.ownsRow wc.heap.size 44 2 s3 (os ++ Pc.keeps old j).length (plsOf (os ++ Pc.keeps old j)) ∧ wq.heap[q]? = some (.cells #[.int .i64 1, .int .i64 m, .slice Ak xs.length ck] 54 (0, 0)) ∧ Below wc.heap.size wc wq) (fun _ i _ => m - (intOf i).toNat)
          case atStart => exact ⟨0, by omega, rfl, by simpa [Pc.keeps] using hown1, hnew, hbw⟩
          case round =>
            clear hown1 hbw hnew
            obtain ⟨j, hj, rfl, hown, hblk, hb⟩ := hrel
            have e0 : wr.cell? ⟨q, 0, none⟩ = some (.int .i64 1) := by rw [cell_of_row _ _ _ _ _ _ hblk]; rfl
            have e1 : wr.cell? ⟨q, 1, none⟩ = some (.int .i64 m) := by rw [cell_of_row _ _ _ _ _ _ hblk]; rfl
            by_cases hjm : j < m
            · have b2 : decide ((j : Int) < (m : Int)) = true := by simp; omega
              have b2n : decide (j < m) = true := by simp; omega
              have hrow := hown.lt
              have hfar := own_far hown hblk (by decide)
              have hlen : (os ++ Pc.keeps old j).length ≤ 3000000 := by rw [List.length_append, Pc.keeps_len]; omega
              have HSN := Lib.hid (show plsOf (os ++ Pc.keeps old j) ++ [.int .i64 ((old : Int) + (j : Int)), .int .i64 (-1)] = plsOf (os ++ Pc.keeps old (j + 1)) by rw [show (old : Int) + (j : Int) = ((old + j : Nat) : Int) by omega, plsOf_snoc, List.append_assoc, ← Pc.keeps_snoc])
              have HLL := Lib.hid (show (os ++ Pc.keeps old (j + 1)).length = (os ++ Pc.keeps old j).length + 1 by rw [List.length_append, List.length_append, Pc.keeps_len, Pc.keeps_len]; omega)
              generalize hpr : os ++ Pc.keeps old j = pr at *
              clear hpr
              go_wp2_with (at_builtin; refine wpList_append_lies _ (by rfl) _ _ 38 (by rfl) wc.heap.size 44 i0 _ 2 16 Tryz.underlying38 hi0 hz0 hz1 hz2 rfl (by omega) u11 pr.length _ (by rfl) (hown.alloc _) ⟨wr.heap.size, 0, none⟩ 1 1 [_, _] (by rfl) (by rfl) (World.news_of_block (cs := #[_, _]) (t := 44) (fr := (0, 0)) (heap_alloc_new wr _)) (by simp [Value.oneCell']) (by omega) (by unfold maxLen; omega) (by omega) (by have := hb.size; simp; omega) (wr.heap.size + 1) (by simp) ?_; intro gg cap w3 hown3 hgrow hat hlt3)
              rw [HSN.out] at hown3
              have hb3 : Below wc.heap.size wc w3 := grown_own0 (hb.alloc hb.size _) hgrow (fun q' hq' => (hrow q' hq').1)
              have hblk3 := blk_grown hblk hgrow hfar
              clear hgrow hat hlt3 hown hfar hrow HSN
              go_roundw
              case rel => exact ⟨j + 1, by omega, by go_num, by rw [HLL.out]; exact hown3, hblk3, hb3⟩
              case measure => simp [intOf]; omega
            · have b2 : decide ((j : Int) < (m : Int)) = false := by simp; omega
              have b2n : decide (j < m) = false := by simp; omega
              obtain rfl : j = m := by omega
              clear HBL hjm
              go_wp2_with fail
              go_roundw
              case rel => exact ⟨k + 1, old + j, line + 1, os ++ Pc.keeps old j, by omega, by go_num, by first | rfl | go_num, by first | rfl | go_num, by omega, by omega, by rw [List.length_append, Pc.keeps_len]; omega, hown, HT.out, hb⟩
              case measure => simp [intOf]; omega
        · have HT := Lib.hid (show PL = os ++ Pc.places (hs.drop (k + 1)) (old + m) (line + 1) by rw [HX.out, places_drop]; rfl)
          clear HX
          go_wp2_with fail
          obtain ⟨wo2, rfl⟩ : ∃ wo : World, wo = w2 := ⟨_, rfl⟩
          go_loopw [11, 14] (fun s3 i wq => ∃ j : Nat, j ≤ m ∧ i = .int .i64 j ∧ wq.ownsRow wc.heap.size 44 2 s3 (os).length (plsOf (os)) ∧ wq.heap[q]? = some (.cells #[.int .i64 2, .int .i64 m, .slice Ak xs.length ck] 54 (0, 0)) ∧ Below wc.heap.size wc wq) (fun _ i _ => m - (intOf i).toNat)
          case atStart => exact ⟨0, by omega, rfl, hown1, hnew, hbw⟩
          case round =>
            clear hown1 hbw hnew
            obtain ⟨j, hj, rfl, hown, hblk, hb⟩ := hrel
            have e0 : wr.cell? ⟨q, 0, none⟩ = some (.int .i64 2) := by rw [cell_of_row _ _ _ _ _ _ hblk]; rfl
            have e1 : wr.cell? ⟨q, 1, none⟩ = some (.int .i64 m) := by rw [cell_of_row _ _ _ _ _ _ hblk]; rfl
            by_cases hjm : j < m
            · have b2 : decide ((j : Int) < (m : Int)) = true := by simp; omega
              have b2n : decide (j < m) = true := by simp; omega
              go_wp2_with fail
              go_roundw
              case rel => exact ⟨j + 1, by omega, by go_num, hown, hblk, hb⟩
              case measure => simp [intOf]; omega
            · have b2 : decide ((j : Int) < (m : Int)) = false := by simp; omega
              have b2n : decide (j < m) = false := by simp; omega
              obtain rfl : j = m := by omega
              clear HBL hjm
              go_wp2_with fail
              go_roundw
              case rel => exact ⟨k + 1, old + j, line + 1, os, by omega, by go_num, by first | rfl | go_num, by first | rfl | go_num, by omega, by omega, by omega, hown, HT.out, hb⟩
              case measure => simp [intOf]; omega
        · have HT := Lib.hid (show PL = (os ++ Pc.adds (line + 1) m) ++ Pc.places (hs.drop (k + 1)) old (line + 1 + m) by rw [HX.out, places_add, List.append_assoc]; rfl)
          clear HX
          go_wp2_with fail
          obtain ⟨wo2, rfl⟩ : ∃ wo : World, wo = w2 := ⟨_, rfl⟩
          go_loopw [11, 14] (fun s3 i wq => ∃ j : Nat, j ≤ m ∧ i = .int .i64 j ∧ wq.ownsRow wc.heap.size 44 2 s3 (os ++ Pc.adds (line + 1) j).length (plsOf (os ++ Pc.adds (line + 1) j)) ∧ wq.heap[q]? = some (.cells #[.int .i64 3, .int .i64 m, .slice Ak xs.length ck] 54 (0, 0)) ∧ Below wc.heap.size wc wq) (fun _ i _ => m - (intOf i).toNat)
          case atStart => exact ⟨0, by omega, rfl, by simpa [Pc.adds] using hown1, hnew, hbw⟩
          case round =>
            clear hown1 hbw hnew
            obtain ⟨j, hj, rfl, hown, hblk, hb⟩ := hrel
            have e0 : wr.cell? ⟨q, 0, none⟩ = some (.int .i64 3) := by rw [cell_of_row _ _ _ _ _ _ hblk]; rfl
            have e1 : wr.cell? ⟨q, 1, none⟩ = some (.int .i64 m) := by rw [cell_of_row _ _ _ _ _ _ hblk]; rfl
            by_cases hjm : j < m
            · have b2 : decide ((j : Int) < (m : Int)) = true := by simp; omega
              have b2n : decide (j < m) = true := by simp; omega
              have hrow := hown.lt
              have hfar := own_far hown hblk (by decide)
              have hlen : (os ++ Pc.adds (line + 1) j).length ≤ 3000000 := by rw [List.length_append, Pc.adds_len]; omega
              have HSN := Lib.hid (show plsOf (os ++ Pc.adds (line + 1) j) ++ [.int .i64 (-1), .int .i64 ((line : Int) + 1 + (j : Int))] = plsOf (os ++ Pc.adds (line + 1) (j + 1)) by rw [show (line : Int) + 1 + (j : Int) = ((line + 1 + j : Nat) : Int) by omega, plsOf_snoc, List.append_assoc, ← Pc.adds_snoc])
              have HLL := Lib.hid (show (os ++ Pc.adds (line + 1) (j + 1)).length = (os ++ Pc.adds (line + 1) j).length + 1 by rw [List.length_append, List.length_append, Pc.adds_len, Pc.adds_len]; omega)
              generalize hpr : os ++ Pc.adds (line + 1) j = pr at *
              clear hpr
              go_wp2_with (at_builtin; refine wpList_append_lies _ (by rfl) _ _ 38 (by rfl) wc.heap.size 44 i0 _ 2 16 Tryz.underlying38 hi0 hz0 hz1 hz2 rfl (by omega) u11 pr.length _ (by rfl) (hown.alloc _) ⟨wr.heap.size, 0, none⟩ 1 1 [_, _] (by rfl) (by rfl) (World.news_of_block (cs := #[_, _]) (t := 44) (fr := (0, 0)) (heap_alloc_new wr _)) (by simp [Value.oneCell']) (by omega) (by unfold maxLen; omega) (by omega) (by have := hb.size; simp; omega) (wr.heap.size + 1) (by simp) ?_; intro gg cap w3 hown3 hgrow hat hlt3)
              rw [HSN.out] at hown3
              have hb3 : Below wc.heap.size wc w3 := grown_own0 (hb.alloc hb.size _) hgrow (fun q' hq' => (hrow q' hq').1)
              have hblk3 := blk_grown hblk hgrow hfar
              clear hgrow hat hlt3 hown hfar hrow HSN
              go_roundw
              case rel => exact ⟨j + 1, by omega, by go_num, by rw [HLL.out]; exact hown3, hblk3, hb3⟩
              case measure => simp [intOf]; omega
            · have b2 : decide ((j : Int) < (m : Int)) = false := by simp; omega
              have b2n : decide (j < m) = false := by simp; omega
              obtain rfl : j = m := by omega
              clear HBL hjm
              go_wp2_with fail
              go_roundw
              case rel => exact ⟨k + 1, old, line + 1 + j, os ++ Pc.adds (line + 1) j, by omega, by go_num, by first | rfl | go_num, by first | rfl | go_num, by omega, by omega, by rw [List.length_append, Pc.adds_len]; omega, hown, HT.out, hb⟩
              case measure => simp [intOf]; omega
      · have b1 : decide ((k : Int) < hs.length) = false := by simp; omega
        have b1n : decide (k < hs.length) = false := by simp; omega
        have HE := Lib.hid (show PL = os by rw [HR.out, List.drop_of_length_le (by omega)]; exact List.append_nil _)
        clear HR
        go_wp2_with fail
        go_ret2
        rw [HTT.out]
        refine ⟨_, rfl, ?_, HBK.out.trans (hb.mono HBL.out)⟩
        dsimp only
        rw [HE.out]
        exact hown.mono HBL.out
end Go.Proofs.YtlfgnecfabdkmaaGreatDoor
