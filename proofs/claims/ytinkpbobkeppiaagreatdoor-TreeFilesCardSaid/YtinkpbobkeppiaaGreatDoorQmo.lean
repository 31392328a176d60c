/- Mount of the reference. No condition but the lengths. -/
import Derived.Test.YtinkpbobkeppiaaGreatDoorPz9
import Derived.Test.YtinkpbobkeppiaaGreatDoorQck
namespace Go.Proofs.YtinkpbobkeppiaaGreatDoor
open Go.RowKit Go.Deep

set_option maxHeartbeats 8000000 in
set_option maxRecDepth 100000 in
theorem qMount_any (A : Option Addr) (c : Nat) (ts : List Tre.Fl) (p : ByteArray) (w : World) (hA : FlsAt w w.heap.size A ts) (hl : ts.length ≤ 1000000) (hL : ∀ f ∈ ts, f.path.length ≤ 400000000 ∧ f.data.length ≤ 1000000000) (hp : p.size ≤ 400000000) (hcap : ts.length ≤ c) (hcap2 : c ≤ maxLen) :
    Calls Tryz.prog 24 #[.slice A ts.length c, .string p] w (GotE w (mountR ts p.data.toList)) := by
  obtain ⟨i0, hi0, hz0, hz1, hz2⟩ := info_parts infoF
  have HV := Lib.hid (mountR_def ts p.data.toList)
  generalize mountR ts p.data.toList = R at *
  have hL1 : FlsLen ts := fun f hf => ⟨by have := (hL f hf).1; omega, (hL f hf).2⟩
  have hc1 := qCheck_any A c ts w hA (by omega) hL1 hcap hcap2
  rcases (Classical.em (Tre.check ts = 0)).symm with h0 | h0
  · have n0 : (Tre.check ts != 0) = true := by rw [bne_iff_ne]; exact h0
    have HT := Lib.hid (show R = ([], 1) by rw [HV.out, if_pos h0])
    clear HV h0 hL hL1
    generalize Tre.check ts = e at *
    go_enter Tryz.func24, Tryz.ntmps24
    go_wp2_with fail
    with_reducible refine hc1.mono ?_
    clear hc1
    rintro x w2 ⟨rfl, hb⟩
    go_wp2_with fail
    go_ret2
    rw [HT.out]
    exact ⟨_, rfl, World.ownsRow_nil _ _ _ _, hb⟩
  have HV1 := Lib.hid (HV.out.trans (if_neg (fun h => h h0)))
  rw [h0] at hc1
  clear HV h0
  have hcall := fun w => qPath_any p w (by omega)
  rw [path_val] at hcall
  cases hpo : Tre.pathOk p.data.toList with
  | false =>
    rw [hpo] at hcall
    have HT := Lib.hid (show R = ([], 2) from HV1.out.trans (if_pos hpo))
    clear HV1 hpo
    go_enter Tryz.func24, Tryz.ntmps24
    go_wp2_with fail
    with_reducible refine hc1.mono ?_
    clear hc1
    rintro x w2 ⟨rfl, hb⟩
    have hcall := hcall w2
    go_wp2_with fail
    with_reducible refine hcall.mono ?_
    clear hcall
    rintro x w3 ⟨rfl, hb3⟩
    go_wp2_with fail
    go_ret2
    rw [HT.out]
    exact ⟨_, rfl, World.ownsRow_nil _ _ _ _, hb.trans (hb3.mono hb.size)⟩
  | true =>
  rw [hpo] at hcall
  have HV2 := Lib.hid (show R = if ((ts.drop 0).all fun f => Tre.pathOk (mountF p.data.toList f).path) = true then ([] ++ (ts.drop 0).map (mountF p.data.toList), 0) else ([], 2) from HV1.out.trans (if_neg (by rw [hpo]; decide)))
  clear HV1 hpo
  go_enter Tryz.func24, Tryz.ntmps24
  go_wp2_with fail
  with_reducible refine hc1.mono ?_
  clear hc1
  rintro x w2 ⟨rfl, hb⟩
  have hcall := hcall w2
  go_wp2_with fail
  with_reducible refine hcall.mono ?_
  clear hcall
  rintro x w3 ⟨rfl, hb3⟩
  replace hb := hb.trans (hb3.mono hb.size)
  clear hb3
  go_wp2_with fail
  go_loopw [6, 17] (fun v i wr => ∃ (k : Nat) (us : List Tre.Fl), k ≤ ts.length ∧ i = .int .i64 k ∧ wr.ownsRow w.heap.size 31 2 v us.length (flsOf us) ∧ us.length ≤ k ∧ (R = if ((ts.drop k).all fun f => Tre.pathOk (mountF p.data.toList f).path) = true then (us ++ (ts.drop k).map (mountF p.data.toList), 0) else ([], 2)) ∧ Below w.heap.size w wr) (fun _ i _ => ts.length - (intOf i).toNat)
  case atStart => exact ⟨0, [], by omega, rfl, World.ownsRow_nil _ _ _ _, by simp, HV2.out, hb⟩
  case round =>
    clear HV2 hb
    obtain ⟨k, us, hk, rfl, hown, hus, hR, hb⟩ := hrel
    have HR := Lib.hid hR
    clear hR
    by_cases hlt : k < ts.length
    · have b1 : decide ((k : Int) < ts.length) = true := by simp; omega
      have b1n : decide (k < ts.length) = true := by simp; omega
      obtain ⟨g, o, rfl, hg, hc0, hc1⟩ := hA k hlt
      have hd0 := (hb.cell (p := ⟨g, o + k * 2, none⟩) hg).trans hc0
      have hd1 := (hb.cell (p := ⟨g, o + k * 2 + 1, none⟩) hg).trans hc1
      have HD := Lib.hid (HR.out.trans (by rw [list_drop ts k hlt, List.all_cons, List.map_cons]))
      have hlf := (hL ts[k] (List.getElem_mem hlt)).1
      clear hc0 hc1 HR
      generalize ts[k] = f at *
      have hnew := heap_alloc_new wr (.cells #[.string (str f.path), .string (str f.data)] 31)
      have hbw : Below w.heap.size w (wr.alloc (.cells #[.string (str f.path), .string (str f.data)] 31)) := hb.alloc hb.size _
      have hown1 := hown.alloc (.cells #[.string (str f.path), .string (str f.data)] 31)
      have hy : (str f.path).size ≤ 1000000000 := by rw [str_size]; omega
      have hy2 : (p ++ ⟨#[47]⟩).size ≤ 400000001 := by rw [ByteArray.size_append]; show _ + 1 ≤ _; omega
      have hy3 : (p ++ ⟨#[47]⟩ ++ str f.path).size ≤ 1000000000 := by rw [ByteArray.size_append, str_size]; omega
      have hy4 : (p ++ ⟨#[47]⟩).size + (str f.path).size ≤ 1000000000 := by rw [str_size]; omega
      have HEQ := Lib.hid (show p ++ ⟨#[47]⟩ ++ str f.path = str (mountF p.data.toList f).path by
        rw [show (⟨#[47]⟩ : ByteArray) = str [47] from rfl, ← str_of p, str_app, str_app, str_data]; simp [mountF])
      have hpath := qPath_any (p ++ ⟨#[47]⟩ ++ str f.path) (wr.alloc (.cells #[.string (str f.path), .string (str f.data)] 31)) hy3
      rw [path_val, show (p ++ ⟨#[47]⟩ ++ str f.path).data.toList = (mountF p.data.toList f).path by rw [HEQ.out]; rfl] at hpath
      have hbs := hb.size
      have hlw : wr.heap.size < (wr.alloc (.cells #[.string (str f.path), .string (str f.data)] 31)).heap.size := by simp
      go_upto_region 9 with (fail)
      generalize wr.alloc (.cells #[.string (str f.path), .string (str f.data)] 31) = W at *
      clear hown hb hd0 hd1 hlf
      have e0 : W.cell? ⟨wr.heap.size, 0, none⟩ = some (.string (str f.path)) := by rw [cell_of_row _ _ _ _ _ _ hnew]; rfl
      have e1 : W.cell? ⟨wr.heap.size, 1, none⟩ = some (.string (str f.data)) := by rw [cell_of_row _ _ _ _ _ _ hnew]; rfl
      cases hpo : Tre.pathOk (mountF p.data.toList f).path with
      | false =>
        rw [hpo] at hpath
        have HT := Lib.hid (show R = ([], 2) by rw [HD.out, hpo]; rfl)
        clear HD hpo
        go_wp2_with fail
        with_reducible refine hpath.mono ?_
        clear hpath
        rintro x w4 ⟨rfl, hb4⟩
        have hbn := hbw.trans (hb4.mono hbw.size)
        go_wp2_with fail
        go_ret2
        rw [HT.out]
        exact ⟨_, rfl, World.ownsRow_nil _ _ _ _, hbn⟩
      | true =>
        rw [hpo] at hpath
        have HT := Lib.hid (show R = if ((ts.drop (k + 1)).all fun f => Tre.pathOk (mountF p.data.toList f).path) = true then ((us ++ [mountF p.data.toList f]) ++ (ts.drop (k + 1)).map (mountF p.data.toList), 0) else ([], 2) by rw [HD.out, hpo, Bool.true_and]; simp)
        clear HD hpo
        go_wp2_with fail
        with_reducible refine hpath.mono ?_
        clear hpath
        rintro x w4 ⟨rfl, hb4⟩
        have hown4 := owns_below hown1 hb4
        have hbn := hbw.trans (hb4.mono hbw.size)
        have hnew4 := (hb4.block wr.heap.size hlw).trans hnew
        have hm4 : wr.heap.size < w4.heap.size := Nat.lt_of_lt_of_le hlw hb4.size
        clear hown1 hbw hb4 e0 e1 hnew hlw
        have e0 : w4.cell? ⟨wr.heap.size, 0, none⟩ = some (.string (str f.path)) := by rw [cell_of_row _ _ _ _ _ _ hnew4]; rfl
        have e1 : w4.cell? ⟨wr.heap.size, 1, none⟩ = some (.string (str f.data)) := by rw [cell_of_row _ _ _ _ _ _ hnew4]; rfl
        clear hnew4
        generalize wr.heap.size = m at *
        have hrow := hown4.lt
        go_upto_region 12 with (at_builtin; refine wpList_append_lies _ (by rfl) _ _ 23 (by rfl) w.heap.size 31 i0 _ 2 32 Tryz.underlying23 hi0 hz0 hz1 hz2 rfl (by omega) u6 us.length _ (by rfl) (hown4.alloc _) ⟨w4.heap.size, 0, none⟩ 1 1 [_, _] (by rfl) (by rfl) (World.news_of_block (cs := #[_, _]) (t := 31) (fr := (0, 0)) (by have := heap_alloc_new w4 (.cells #[.string (p ++ ⟨#[47]⟩ ++ str f.path), .string (str f.data)] 31); simpa using this)) (by simp [Value.oneCell']) (by omega) (by unfold maxLen; omega) (by omega) (by simp; omega) (w4.heap.size + 1) (by simp) ?_; intro gg cap w6 hown6 hgrow hat hlt6)
        have hb6 : Below w.heap.size w w6 := grown_own0 (hbn.alloc (by omega) _) hgrow (fun q hq => (hrow q hq).1)
        rw [HEQ.out] at hown6
        have hown7 : w6.ownsRow w.heap.size 31 2 (.slice (some ⟨gg, 0, none⟩) (us.length + 1) cap) (us ++ [mountF p.data.toList f] : List Tre.Fl).length (flsOf (us ++ [mountF p.data.toList f])) := by
          rw [← flsOf_snoc, List.length_append, List.length_singleton]; exact hown6
        clear hown6 hown4 hgrow hat hlt6 hbn hrow e0 e1 hy hy2 hy3 hy4 HEQ
        go_wp2_with fail
        go_roundw
        case rel => exact ⟨k + 1, us ++ [mountF p.data.toList f], by omega, by go_num, hown7, by simp; omega, HT.out, hb6⟩
        case measure => simp [intOf]; omega
    · have b1 : decide ((k : Int) < ts.length) = false := by simp; omega
      have b1n : decide (k < ts.length) = false := by simp; omega
      have HT := Lib.hid (show R = (us, 0) by rw [HR.out, List.drop_of_length_le (by omega)]; simp)
      clear HR
      go_wp2_with fail
      go_ret2
      rw [HT.out]
      exact ⟨_, rfl, hown, hb⟩
end Go.Proofs.YtinkpbobkeppiaaGreatDoor
