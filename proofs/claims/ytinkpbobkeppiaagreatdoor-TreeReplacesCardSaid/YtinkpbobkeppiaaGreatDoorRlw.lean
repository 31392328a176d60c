/- The law of TreeReplaces. Condition: the tables of digest, codec and the library lie. -/
import Derived.Test.YtinkpbobkeppiaaGreatDoorLls
import Derived.Test.YtinkpbobkeppiaaGreatDoorEqt
import Derived.Test.YtinkpbobkeppiaaGreatDoorPz5
import Derived.Deep.DeepCutAuto
namespace Go.Proofs.YtinkpbobkeppiaaGreatDoor
open Go.RowKit Go.Deep

theorem hid_str (s : ByteArray) : str s.data.toList = s := str_of s
set_option maxHeartbeats 32000000 in
set_option maxRecDepth 100000 in
theorem replaces_law0 (tA : Option Addr) (tc : Nat) (ts : List Tre.Fl) (p : ByteArray) (n : Int) (text : ByteArray) (w : World) (hI : IdAt w) (ht : TrOk w ⟨tA, tc, ts⟩) (hcap : ts.length ≤ tc) (hcap2 : tc ≤ maxLen) (hts : text.size ≤ 9223372036854775807) :
    Calls Tryz.prog 10 #[.slice tA ts.length tc, .agg #[.string p, .int .i64 n], .string text] w fun e w' => e = .returned (.bool true) ∧ Below w.heap.size w w' := by
  have hb0 : Below w.heap.size w (w.alloc (.cells #[.string p, .int .i64 n] 45)) := (Below.refl _ _).alloc (Nat.le_refl _) _
  have hN0 := heap_alloc_new w (.cells #[.string p, .int .i64 n] 45)
  have hbs : w.heap.size < (w.alloc (.cells #[.string p, .int .i64 n] 45)).heap.size := by simp
  have haw := awake_any _ (hI.below hb0)
  have HW := Lib.hid (show ∀ w', Below (w.alloc (.cells #[.string p, .int .i64 n] 45)).heap.size (w.alloc (.cells #[.string p, .int .i64 n] 45)) w' →
      Below w.heap.size w w' ∧ FlsAt w' w'.heap.size tA ts ∧ IdAt w' ∧ w'.cell? ⟨w.heap.size, 0, none⟩ = some (.string p) ∧ w'.cell? ⟨w.heap.size, 1, none⟩ = some (.int .i64 n) from fun w' h => by
    have hb := hb0.trans (h.mono (Nat.le_of_lt hbs))
    have hN := (h.block w.heap.size hbs).trans hN0
    exact ⟨hb, ht.at_.next hb, hI.below hb, by rw [cell_of_row _ _ _ _ _ _ hN]; rfl, by rw [cell_of_row _ _ _ _ _ _ hN]; rfl⟩)
  have htl := ht.len
  have hte := ht.each
  dsimp only at htl hte
  clear hI ht hb0 hN0
  go_enter Tryz.func10, Tryz.ntmps10
  go_wp2_with fail
  generalize w.alloc (.cells #[.string p, .int .i64 n] 45) = W at *
  generalize hbb : w.heap.size = b at *
  have HBB := Lib.hid hbb
  clear hbb
  with_reducible refine haw.mono ?_
  clear haw
  rintro x w1 ⟨rfl, hb1⟩
  have hfew := few_one ⟨tA, tc, ts⟩ w1 ⟨(HW.out _ hb1).2.1, htl, hte⟩
  dsimp only at hfew
  clear htl hte
  have hs1 := hb1.size
  go_wp2_with fail
  with_reducible refine hfew.mono ?_
  clear hfew
  rintro x w2 ⟨⟨bb, rfl, hfw⟩, hb2⟩
  have hb02 := hb1.trans (hb2.mono hs1)
  clear hb1 hb2 hs1
  cases bb with
  | false =>
    clear hfw
    go_wp2_with fail
    go_ret
    exact ⟨rfl, by rw [HBB.out]; exact (HW.out _ hb02).1⟩
  | true =>
  obtain ⟨hL, hn⟩ := hfw rfl
  clear hfw
  by_cases htx : 300 < text.size
  · have b1 : decide ((300 : Int) < (text.size : Int)) = true := by simp; omega
    have b1n : decide (300 < text.size) = true := by simp; omega
    go_wp2_with fail
    go_ret
    exact ⟨rfl, by rw [HBB.out]; exact (HW.out _ hb02).1⟩
  have b1 : decide ((300 : Int) < (text.size : Int)) = false := by simp; omega
  have b1n : decide (300 < text.size) = false := by simp; omega
  obtain ⟨k0, k1⟩ := (HW.out _ hb02).2.2.2
  have hcR := replace_any tA tc ts p n text w2 (HW.out _ hb02).2.1 (by omega) hL (HW.out _ hb02).2.2.1.max hcap hcap2 (by omega)
  have HC := Lib.hid (Tre.repl_cases ts p.data.toList n text.data.toList)
  have hlen := repl_len ts p.data.toList n text.data.toList
  generalize Tre.repl ts p.data.toList n text.data.toList = E at *
  obtain ⟨us, e⟩ := E
  dsimp only at hlen
  go_wp2_with fail
  with_reducible refine hcR.mono ?_
  clear hcR k0 k1 b1 b1n
  rintro x w3 ⟨v3, rfl, ho3, hb3⟩
  dsimp only at ho3
  have hb03 := hb02.trans (hb3.mono hb02.size)
  clear hb02 hb3
  rcases HC.out with ⟨he, hu⟩ | ⟨he, m, hnm, hdid⟩
  · subst hu
    have n0 : (e != 0) = true := by rw [bne_iff_ne]; exact he
    obtain ⟨A3, c3, rfl, _⟩ := owns_fls ho3
    clear he HC ho3
    go_wp2_with fail
    go_ret
    exact ⟨by first | rfl | simp, by rw [HBB.out]; exact (HW.out _ hb03).1⟩
  subst he
  subst hnm
  obtain ⟨A3, c3, rfl, hA3⟩ := owns_fls ho3
  obtain ⟨hc3, hc3m⟩ := own_cap ho3
  clear HC ho3
  obtain ⟨hgood, hgu, hwas, hl2, hlt, hnow, hl3, hj, heq, hpu, hbk⟩ := hdid
  obtain ⟨k0, k1⟩ := (HW.out _ hb03).2.2.2
  have hf1 := find_any tA tc ts p w3 (HW.out _ hb03).2.1 (by omega)
  have hf2 := fun w' (h : Below w3.heap.size w3 w') => find_any A3 c3 us p w' (hA3.next h) (by omega)
  rw [findV_def, hwas] at hf1
  simp only [findV_def, hnow] at hf2
  have hss := find_size (ts := ts) ((Tre.good_iff _).2 hgood) p.data.toList
  have hjs := (Tre.join_pure (by rw [hj])).2.2.1
  have HGU := Lib.hid hgu
  have hcnt : (Tre.split 10 (Tre.find ts p.data.toList).1).length ≤ 1024 := by have := lines_count (Tre.find ts p.data.toList).1; rw [hl2] at this; exact this
  clear hgood hgu hwas hnow
  generalize (Tre.find ts p.data.toList).1 = sd at *
  generalize hls : Tre.split 10 sd = ls at *
  have hmem : ∀ l ∈ ls, l.length ≤ 65536 := fun l hl => by have := Tre.split_le 10 sd l (by rw [hls]; exact hl); omega
  clear hls
  generalize hjj : Tre.joined (ls.set m text.data.toList) = js at *
  clear hjj
  have HL2 := Lib.hid hl2
  have HL3 := Lib.hid hl3
  have HJ := Lib.hid hj
  have HBK := Lib.hid hbk
  have HEQ := Lib.hid heq
  have HPU := Lib.hid hpu
  have HMEM := Lib.hid hmem
  clear hl2 hl3 hj hbk heq hpu hmem
  go_wp2_with fail
  with_reducible refine hf1.mono ?_
  clear hf1 k0 k1
  rintro x w4 ⟨rfl, hb4⟩
  have hf2 := hf2 w4 hb4
  have hb04 := hb03.trans (hb4.mono hb03.size)
  have hA4 := hA3.next hb4
  clear hb4 hb03 hA3
  obtain ⟨k0, k1⟩ := (HW.out _ hb04).2.2.2
  go_wp2_with fail
  with_reducible refine hf2.mono ?_
  clear hf2 k0 k1
  rintro x w5 ⟨rfl, hb5⟩
  have hb05 := hb04.trans (hb5.mono hb04.size)
  have hA5 := hA4.next hb5
  clear hb5 hb04 hA4
  have hc1 := lines_any (str sd) w5 (by rw [str_size]; omega) (HW.out _ hb05).2.2.1.max
  rw [str_data, HL2.out] at hc1
  go_wp2_with fail
  with_reducible refine hc1.mono ?_
  clear hc1
  rintro x w6 ⟨v6, rfl, ho6, hb6⟩
  dsimp only at ho6
  have hb06 := hb05.trans (hb6.mono hb05.size)
  have hA6 := hA5.next hb6
  clear hb6 hb05 hA5
  obtain ⟨AL, cL, rfl, hLc⟩ := owns_cells ho6
  obtain ⟨hcL, hcLm⟩ := own_cap ho6
  clear ho6
  have hc1 := lines_any (str js) w6 (by rw [str_size]; omega) (HW.out _ hb06).2.2.1.max
  rw [str_data, HL3.out] at hc1
  go_wp2_with fail
  with_reducible refine hc1.mono ?_
  clear hc1
  rintro x w7 ⟨v7, rfl, ho7, hb7⟩
  dsimp only at ho7
  have hb07 := hb06.trans (hb7.mono hb06.size)
  have hA7 := hA6.next hb7
  have hL7 := cells_next hLc hb7
  have HLEN := Lib.hid (show us.length = ts.length by rw [HEQ.out]; unfold Tre.setPath; rw [List.length_map])
  have hlea := Nat.le_of_eq HLEN.out.symm
  rw [List.length_set] at ho7
  rcases ho7.2 with ⟨h0, h1⟩ | ⟨gN, cN, cur, rfl, hgN, hblk, hn1, hn2, hn3, hn4⟩
  · exfalso; omega
  have hx7 : w7.cell? ⟨gN, m, none⟩ = some (.string text) := by
    refine (ho7.cellAt m (by omega)).trans ?_
    rw [strs, List.getElem?_map, List.getElem?_set_self (by omega)]
    show some (Value.string (str text.data.toList)) = _
    rw [str_of]
  clear hblk hn3 hn4 cur
  obtain ⟨k0, k1⟩ := (HW.out _ hb07).2.2.2
  have e1 : ((ls.length : Int) != (ls.length : Int)) = false := bne_self_eq_false _
  have e1n : (ls.length != ls.length) = false := bne_self_eq_false _
  have e2 : ((us.length : Int) != (ts.length : Int)) = false := by rw [HLEN.out]; exact bne_self_eq_false _
  have e2n : (us.length != ts.length) = false := by rw [HLEN.out]; exact bne_self_eq_false _
  have d1 : decide ((m : Int) < 0) = false := by simp
  have d2 : decide ((ls.length : Int) ≤ (m : Int)) = false := by simp; omega
  have d2n : decide (ls.length ≤ m) = false := by simp; omega
  have d3 : (m : Int) < (ls.length : Int) := by omega
  have d4 : 0 ≤ (m : Int) := by omega
  have e3 : (text.toList != text.toList) = false := bne_self_eq_false _
  have hNc7 : CellsAt w7 w7.heap.size (some ⟨gN, 0, none⟩) (strs (ls.set m text.data.toList)) := by
    obtain ⟨A, c, e, h⟩ := owns_cells ho7
    injection e with e1 e2 e3
    rw [e1]; exact h
  have hjoin := join_any (some ⟨gN, 0, none⟩) cN (ls.set m text.data.toList) w7 hNc7 (by rw [List.length_set]; omega) (fun l hl => by
    rcases List.mem_or_eq_of_mem_set hl with h | h
    · have := HMEM.out l h; omega
    · rw [h, size_data]; omega) (by rw [List.length_set]; exact hn1)
  rw [List.length_set, joinV_def, HJ.out] at hjoin
  clear hNc7
  go_wp2_with fail
  with_reducible refine hjoin.mono ?_
  clear hjoin hx7 k0 k1 e1 e1n e2 e2n e3 d1 d2 d2n
  rintro x w8 ⟨rfl, hb8⟩
  have hb08 := hb07.trans (hb8.mono hb07.size)
  have hb68 := hb7.trans (hb8.mono hb7.size)
  have hA8 := hA7.next hb8
  have ho8 := owns_below ho7 hb8
  have hL8 := cells_next hL7 hb8
  have hb68' := hb68.size
  have HLC := Lib.hid hLc
  have hW6 := hb06.size
  have hg8 := (ho8.lt gN rfl).2
  clear hb07 hb7 hb8 hA7 ho7 hL7 hLc hb06
  obtain ⟨gB, oB, rfl, hgB, hcB⟩ := hL8 m (by rw [strs_len]; exact hlt)
  rw [strs_get ls m hlt] at hcB
  obtain ⟨k0, k1⟩ := (HW.out _ hb08).2.2.2
  have hd8 : Below w8.heap.size w8 w8.drew := (Below.refl _ _).drew
  have hb8d : Below W.heap.size W w8.drew := hb08.drew
  have hq := replace_any A3 c3 us p (m : Int) (str ls[m]) w8.drew (hA8.next hd8) (by omega) (good_lens HGU.out) (HW.out _ hb8d).2.2.1.max hc3 hc3m (by rw [str_size]; have := HMEM.out _ (List.getElem_mem hlt); omega)
  rw [str_data, HBK.out] at hq
  go_upto_region 15 with (fail)
  go_cut [19, 20] (fun s19 s20 wx => ∃ (A9 : Option Addr) (c9 : Nat), s19 = .slice A9 ts.length c9 ∧ s20 = .int .i64 0 ∧ wx.ownsRow w8.drew.heap.size 31 2 (.slice A9 ts.length c9) ts.length (flsOf ts) ∧ Below w8.drew.heap.size w8.drew wx)
  case first =>
    go_region_with (go_at_call 34; (with_reducible refine hq.mono ?_); rintro e w9 ⟨v9, rfl, ho9, hb9⟩)
    all_goals
      obtain ⟨A9, c9, rfl, _⟩ := owns_fls ho9
      go_wp2_with fail
      go_meet
      exact ⟨A9, c9, rfl, rfl, ho9, hb9⟩
  case rest =>
  obtain ⟨A9, c9, rfl, rfl, ho9, hb9⟩ := hcut
  have hb09 := hb8d.trans (hb9.mono hb8d.size)
  have hb69 := (hb68.drew).trans (hb9.mono hb68')
  have hA9 := (hA8.next hd8).next hb9
  have hoN := owns_below (owns_below ho8 hd8) hb9
  have hlt9 := ho9.lt
  clear hq k0 k1 hb08 hb68 hb8d hb9 hA8 ho8 hL8 hcB hgB hd8
  have HUK := Lib.hid (show ∀ k (h : k < ts.length) (h' : k < us.length), us[k] = Tre.setF p.data.toList js ts[k] from fun k h h' => by
    have := HEQ.out
    subst this
    simp [Tre.setPath])
  go_wp2_with fail
  go_loopw [136] (fun i wr => ∃ k : Nat, k ≤ ts.length ∧ i = .int .i64 k ∧ Below wc.heap.size wc wr) (fun i _ => ts.length - (intOf i).toNat)
  case atStart => exact ⟨0, by omega, rfl, Below.refl _ _⟩
  case round =>
    obtain ⟨k, hk, rfl, hb⟩ := hrel
    have hbw := hb09.trans (hb.mono hb09.size)
    by_cases hlt2 : k < ts.length
    · have b1 : decide ((k : Int) < ts.length) = true := by simp; omega
      have b1n : decide (k < ts.length) = true := by simp; omega
      obtain ⟨gt, ot, rfl, hgt, ht0, ht1⟩ := (HW.out _ hbw).2.1 k hlt2
      obtain ⟨gu, ou, rfl, hgu, hu0, hu1⟩ := (hA9.next hb) k (by omega)
      obtain ⟨k0, k1⟩ := (HW.out _ hbw).2.2.2
      rw [HUK.out k hlt2 (by omega), Tre.setF_path] at hu0
      rw [HUK.out k hlt2 (by omega)] at hu1
      generalize ts[k] = f at *
      have o1 : ((str f.path).toList != (str f.path).toList) = false := bne_self_eq_false _
      have o1e : ((str f.path).toList == (str f.path).toList) = true := beq_self_eq_true _
      have hki : (k : Int) < (ts.length : Int) := by omega
      have hku : (k : Int) < (us.length : Int) := by omega
      by_cases hp : f.path = p.data.toList
      · have o2e : ((str f.path).toList == p.toList) = true := by rw [str_list, ByteArray.toList_eq, hp]; exact beq_self_eq_true _
        have o2 : ((str f.path).toList != p.toList) = false := by rw [bne, o2e]; rfl
        clear hp
        go_upto_region 19 with (fail)
        go_quiet (fail)
        have hb2 := below_drewN hb nq
        generalize wr.drewN nq = w10 at *
        clear hb hbw ht0 ht1 hu0 hu1 k0 k1
        go_wp2_with fail
        go_roundw
        case rel => exact ⟨k + 1, by omega, by go_num, hb2⟩
        case measure => simp [intOf]; omega
      · have o2e : ((str f.path).toList == p.toList) = false := by rw [str_list, ByteArray.toList_eq, beq_eq_false_iff_ne]; exact hp
        have o2 : ((str f.path).toList != p.toList) = true := by rw [bne, o2e]; rfl
        rw [Tre.setF_keep _ _ f hp] at hu1
        clear hp
        go_upto_region 19 with (fail)
        go_quiet (fail)
        have hb2 := below_drewN hb nq
        generalize wr.drewN nq = w10 at *
        clear hb hbw ht0 ht1 hu0 hu1 k0 k1
        go_wp2_with fail
        go_roundw
        case rel => exact ⟨k + 1, by omega, by go_num, hb2⟩
        case measure => simp [intOf]; omega
    · have b1 : decide ((k : Int) < ts.length) = false := by simp; omega
      have b1n : decide (k < ts.length) = false := by simp; omega
      clear hk hA9 HUK HEQ
      have hb6r := hb69.trans (hb.mono hb69.size)
      have hoN := owns_below hoN hb
      have ho9 := owns_below ho9 hb
      have hLr := HLC.out.below hb6r (Nat.le_refl _)
      obtain ⟨gB', oB', hBB', hgB, hcB⟩ := hLr m (by rw [strs_len]; exact hlt)
      injection hBB' with hBB'
      injection hBB' with e1 e2 _
      subst e1
      subst e2
      rw [strs_get ls m hlt] at hcB
      obtain ⟨k0, k1⟩ := (HW.out _ hbw).2.2.2
      have hvm : wr.cell? ⟨gN, m, none⟩ = some (.string text) := by
        refine (hoN.cellAt m (by omega)).trans ?_
        rw [strs, List.getElem?_map, List.getElem?_set_self (by omega)]
        show some (Value.string (str text.data.toList)) = _
        rw [str_of]
      have hfr := hoN.frozenAt m
      have hst := hoN.stored m (.string (str ls[m]))
      rw [strs_set, Tre.set_back _ _ _ hlt] at hst
      have hbx : Below W.heap.size W (wr.setCell ⟨gN, m, none⟩ (.string (str ls[m]))).drew := (hbw.grown hst.2 hbw.size (fun q hq => by cases hq; omega)).drew
      have hb6x : Below w6.heap.size w6 (wr.setCell ⟨gN, m, none⟩ (.string (str ls[m]))).drew := (hb6r.grown hst.2 hb6r.size (fun q hq => by cases hq; omega)).drew
      have hox : (wr.setCell ⟨gN, m, none⟩ (.string (str ls[m]))).drew.ownsRow w6.heap.size 9 1 (.slice (some ⟨gN, 0, none⟩) ls.length cN) ls.length (strs ls) := hst.1
      have ho9x : (wr.setCell ⟨gN, m, none⟩ (.string (str ls[m]))).drew.ownsRow w8.drew.heap.size 31 2 (.slice A9 ts.length c9) ts.length (flsOf ts) := (show (wr.setCell ⟨gN, m, none⟩ (.string (str ls[m]))).ownsRow w8.drew.heap.size 31 2 (.slice A9 ts.length c9) ts.length (flsOf ts) from ho9.kept hst.2 (by
        cases hq : (Value.slice A9 ts.length c9).ownBlock with
        | none => exact .inl rfl
        | some q =>
          refine .inr fun e => ?_
          have h1 := (hlt9 q hq).1
          injection e with e
          have h2 : w8.drew.heap.size = w8.heap.size := rfl
          omega))
      clear hst ho9 hoN hb hbw hb6r hlt9 hb09 hb69
      have hgN' : (m : Int) < (ls.length : Int) := d3
      go_wp2_with fail
      go_region
      generalize (wr.setCell ⟨gN, m, none⟩ (.string (str ls[m]))).drew = w11 at *
      clear hvm hfr hcB k0 k1 hgB
      obtain ⟨A9', c9', e9, hA11⟩ := owns_fls ho9x
      injection e9 with e9a e9b e9c
      subst e9a
      have hN11 : CellsAt w11 w11.heap.size (some ⟨gN, 0, none⟩) (strs ls) := by
        obtain ⟨A, c, e, h⟩ := owns_cells hox
        injection e with e1 e2 e3
        rw [e1]; exact h
      have hB11 := cells_next HLC.out hb6x
      clear ho9x hox e9c
      have e5 : ((str js).toList == (str js).toList) = true := by simp
      have hq := eqt_true A9 tA c9 tc ts w11 hA11 (HW.out _ hbx).2.1 (by omega)
      go_wp2_with fail
      with_reducible refine hq.mono ?_
      clear hq hA11
      rintro x w12 ⟨rfl, hb12⟩
      have hq := eqs_true (some ⟨gN, 0, none⟩) (some ⟨gB, oB, none⟩) cN cL ls w12 (cells_next hN11 hb12) (cells_next hB11 hb12) (by omega)
      have hbx2 := hbx.trans (hb12.mono hbx.size)
      clear hN11 hB11 hb12 hbx hb6x
      go_wp2_with fail
      with_reducible refine hq.mono ?_
      clear hq
      rintro x w13 ⟨rfl, hb13⟩
      have hbx3 := hbx2.trans (hb13.mono hbx2.size)
      clear hbx2 hb13
      have hcC : ∀ w, Calls Tryz.prog 41 #[.string text, .string ⟨#[10]⟩] w fun e w' => e = .returned (.bool false) ∧ w = w' := fun w => (Tryz.strings_Contains_one text 10 w).mono fun e w' h => ⟨by rw [h.1, has_lf, HPU.out], by first | exact h.2 | exact h.2.symm⟩
      go_wp2_with (go_at_call 41; (with_reducible refine (hcC _).mono ?_); rintro e w' ⟨rfl, rfl⟩)
      go_ret
      exact ⟨by first | rfl | simp, by rw [HBB.out]; exact (HW.out _ hbx3).1⟩
theorem replaces_law (t : Tr) (p : ByteArray) (n : Int) (text : ByteArray) (w : World) (hI : IdAt w) (ht : TrOk w t) (hcap : t.ts.length ≤ t.c) (hcap2 : t.c ≤ maxLen) (_ : p.size ≤ 9223372036854775807) (hts : text.size ≤ 9223372036854775807) :
    Calls Tryz.prog 10 #[.slice t.A t.ts.length t.c, .agg #[.string p, .int .i64 n], .string text] w fun e w' => e = .returned (.bool true) ∧ Below w.heap.size w w' :=
  replaces_law0 t.A t.c t.ts p n text w hI ht hcap hcap2 hts
end Go.Proofs.YtinkpbobkeppiaaGreatDoor
