/- Replace on the program's side. Condition: bytealg's MaxLen lies in its variable. -/
import Derived.Test.YtinkpbobkeppiaaGreatDoorPz9
import Derived.Test.YtinkpbobkeppiaaGreatDoorPz5
namespace Go.Proofs.YtinkpbobkeppiaaGreatDoor
open Go.RowKit

set_option maxHeartbeats 2000000 in
set_option maxRecDepth 100000 in
theorem replFn (b b2 : Nat) (f : Tre.Fl) (p s : ByteArray) (w : World) (k0 : w.cell? ⟨b, 0, none⟩ = some (.string p)) (k1 : w.cell? ⟨b2, 0, none⟩ = some (.string s)) :
    Calls Tryz.prog 65 #[flV f, .pointer (some ⟨b, 0, none⟩), .pointer (some ⟨b2, 0, none⟩)] w fun x w' => x = .returned (.tuple #[flV (Tre.setF p.data.toList s.data.toList f), .bool true]) ∧ Below w.heap.size w w' := by
  unfold flV Tre.setF
  have hb0 : Below w.heap.size w (w.alloc (.cells #[.string (str f.path), .string (str f.data)] 31)) := (Below.refl _ _).alloc (Nat.le_refl _) _
  have hlt := World.block_lt_of_cell? w _ k0
  have hlt2 := World.block_lt_of_cell? w _ k1
  by_cases he : f.path = p.data.toList
  · have o2 : ((str f.path).toList == p.toList) = true := by rw [str_list, ByteArray.toList_eq, beq_iff_eq]; exact he
    rw [if_pos he]
    have HS := Lib.hid (str_of s)
    clear he
    go_enter Tryz.func65, Tryz.ntmps65
    go_wp2_with fail
    exact bodyPost_ret (v := .tuple #[.agg #[.string (str f.path), .string s], .bool true]) (by simp [results, Tryz.results65, go_sem]) rfl ⟨by rw [HS.out], by first | exact ((Below.refl _ _).alloc (Nat.le_refl _) _).alloc (by simp) _ | exact hb0.alloc hb0.size _ | exact (((hb0.alloc hb0.size _).setCell (by simp) _).setCell (by simp) _)⟩
  · have o2 : ((str f.path).toList == p.toList) = false := by rw [str_list, ByteArray.toList_eq, beq_eq_false_iff_ne]; exact he
    rw [if_neg he]
    clear he
    go_enter Tryz.func65, Tryz.ntmps65
    go_wp2_with fail
    exact bodyPost_ret (v := .tuple #[.agg #[.string (str f.path), .string (str f.data)], .bool true]) (by simp [results, Tryz.results65, go_sem]) rfl ⟨rfl, by first | exact ((Below.refl _ _).alloc (Nat.le_refl _) _).alloc (by simp) _ | exact hb0.alloc hb0.size _ | exact (((hb0.alloc hb0.size _).setCell (by simp) _).setCell (by simp) _)⟩
set_option maxHeartbeats 4000000 in
set_option maxRecDepth 100000 in
theorem walkRepl (b b2 : Nat) (A : Option Addr) (c : Nat) (ts : List Tre.Fl) (p s : ByteArray) (w : World) (hA : FlsAt w w.heap.size A ts) (hl : ts.length ≤ 1000000) (k0 : w.cell? ⟨b, 0, none⟩ = some (.string p)) (k1 : w.cell? ⟨b2, 0, none⟩ = some (.string s)) :
    Calls Tryz.prog 57 #[.slice A ts.length c, .func (Fn.func 65) #[] #[.pointer (some ⟨b, 0, none⟩), .pointer (some ⟨b2, 0, none⟩)]] w (GotF w (((ts).filter (fun _ => true)).map (Tre.setF p.data.toList s.data.toList))) := by
  obtain ⟨i0, hi0, hz0, hz1, hz2⟩ := info_parts infoF
  have HR := Lib.hid (show ((ts).filter (fun _ => true)).map (Tre.setF p.data.toList s.data.toList) = [] ++ ((ts.drop 0).filter (fun _ => true)).map (Tre.setF p.data.toList s.data.toList) from rfl)
  generalize ((ts).filter (fun _ => true)).map (Tre.setF p.data.toList s.data.toList) = R at *
  have hb0 := World.block_lt_of_cell? w _ k0
  have hb02 := World.block_lt_of_cell? w _ k1
  go_enter Tryz.func57, Tryz.ntmps57
  go_wp2_with fail
  go_loopw [5, 12] (fun v i wr => ∃ (k : Nat) (us : List Tre.Fl), k ≤ ts.length ∧ i = .int .i64 k ∧ wr.ownsRow w.heap.size 31 2 v us.length (flsOf us) ∧ us.length ≤ k ∧ R = us ++ ((ts.drop k).filter (fun _ => true)).map (Tre.setF p.data.toList s.data.toList) ∧ Below w.heap.size w wr) (fun _ i _ => ts.length - (intOf i).toNat)
  case atStart => exact ⟨0, [], by omega, rfl, World.ownsRow_nil _ _ _ _, by simp, HR.out, Below.refl _ _⟩
  case round =>
    clear HR
    obtain ⟨k, us, hk, rfl, hown, hus, hR, hb⟩ := hrel
    have HR := Lib.hid hR
    clear hR
    by_cases hlt : k < ts.length
    · have b1 : decide ((k : Int) < ts.length) = true := by simp; omega
      have b1n : decide (k < ts.length) = true := by simp; omega
      obtain ⟨g, o, rfl, hg, hc0, hc1⟩ := hA k hlt
      have hd0 := (hb.cell (p := ⟨g, o + k * 2, none⟩) hg).trans hc0
      have hd1 := (hb.cell (p := ⟨g, o + k * 2 + 1, none⟩) hg).trans hc1
      have HD := Lib.hid (HR.out.trans (by rw [list_drop ts k hlt]))
      clear hc0 hc1 HR
      generalize ts[k] = f at *
      have hbw : Below w.heap.size w (wr.alloc (.cells #[.string (str f.path), .string (str f.data)] 31)) := hb.alloc hb.size _
      have hcall := replFn b b2 f p s (wr.alloc (.cells #[.string (str f.path), .string (str f.data)] 31)) ((hbw.cell (p := ⟨b, 0, none⟩) hb0).trans k0) ((hbw.cell (p := ⟨b2, 0, none⟩) hb02).trans k1)
      have HF := Lib.hid (show (Tre.setF p.data.toList s.data.toList) f = (Tre.setF p.data.toList s.data.toList) f from rfl)
      generalize hff : (Tre.setF p.data.toList s.data.toList) f = f2 at *
      clear HF
      have HFF := Lib.hid hff
      clear hff
      unfold flV at hcall
      have hown1 := hown.alloc (.cells #[.string (str f.path), .string (str f.data)] 31)
      clear hown
      have he : (fun _ => true) f = true := rfl
      have HT := Lib.hid (show R = (us ++ [f2]) ++ ((ts.drop (k + 1)).filter (fun _ => true)).map (Tre.setF p.data.toList s.data.toList) by rw [HD.out, fm_hit (fun _ => true) (Tre.setF p.data.toList s.data.toList) f _ he, HFF.out]; simp)
      clear HD he
      go_wp2_with fail
      with_reducible refine hcall.mono ?_
      clear hcall
      rintro e w2 ⟨rfl, hb2⟩
      have hown2 := owns_below hown1 hb2
      have hbn := (hbw.trans (hb2.mono hbw.size))
      clear hb2 hbw hown1 hd0 hd1 hb
      have hrow := hown2.lt
      go_upto_region 8 with (at_builtin; refine wpList_append_lies _ (by rfl) _ _ 23 (by rfl) w.heap.size 31 i0 _ 2 32 Tryz.underlying23 hi0 hz0 hz1 hz2 rfl (by omega) u5 us.length _ (by rfl) ((hown2.alloc _).alloc _) ⟨w2.heap.size + 1, 0, none⟩ 1 1 [_, _] (by rfl) (by rfl) (World.news_of_block (cs := #[_, _]) (t := 31) (fr := (0, 0)) (by have := heap_alloc_new (w2.alloc (.cells #[.string (str f2.path), .string (str f2.data)] 31)) (.cells #[.string (str f2.path), .string (str f2.data)] 31); simpa using this)) (by simp [Value.oneCell']) (by omega) (by unfold maxLen; omega) (by omega) (by have := hbn.size; simp; omega) (w2.heap.size + 2) (by simp) ?_; intro gg cap w3 hown3 hgrow hat hlt3)
      have hb3 : Below w.heap.size w w3 := grown_own0 ((hbn.alloc hbn.size _).alloc (by have := hbn.size; simp; omega) _) hgrow (fun k' hk' => (hrow k' hk').1)
      rw [flsOf_snoc] at hown3
      have hown4 : w3.ownsRow w.heap.size 31 2 (.slice (some ⟨gg, 0, none⟩) (us.length + 1) cap) (us ++ [f2]).length (flsOf (us ++ [f2])) := by
        rw [List.length_append, List.length_singleton]; exact hown3
      clear hown3 hown2 hgrow hat hlt3 hbn hrow
      go_wp2_with fail
      go_roundw
      case rel => exact ⟨k + 1, us ++ [f2], by omega, by go_num, hown4, by simp; omega, HT.out, hb3⟩
      case measure => simp [intOf]; omega
    · have b1 : decide ((k : Int) < ts.length) = false := by simp; omega
      have b1n : decide (k < ts.length) = false := by simp; omega
      have HT := Lib.hid (show R = us by rw [HR.out, List.drop_of_length_le (by omega)]; simp)
      clear HR
      go_wp2_with fail
      go_ret
      rw [HT.out]
      exact ⟨_, rfl, hown, hb⟩
theorem repl_def (ts : List Tre.Fl) (p : List UInt8) (n : Int) (text : List UInt8) : Tre.repl ts p n text = if Tre.check ts ≠ 0 then ([], 1)
  else if (Tre.find ts p).2 = false then ([], 7)
  else if (Tre.lines (Tre.find ts p).1).2 ≠ 0 then ([], (Tre.lines (Tre.find ts p).1).2)
  else if n < 0 ∨ ((Tre.lines (Tre.find ts p).1).1.length : Int) ≤ n then ([], 3)
  else if (Tre.join ((Tre.lines (Tre.find ts p).1).1.set n.toNat text)).2 ≠ 0 then ([], (Tre.join ((Tre.lines (Tre.find ts p).1).1.set n.toNat text)).2)
  else (Tre.setPath ts p (Tre.join ((Tre.lines (Tre.find ts p).1).1.set n.toNat text)).1, 0) := rfl
theorem strs_set (l : List (List UInt8)) (n : Nat) (t : List UInt8) : (strs l).set n (.string (str t)) = strs (l.set n t) := by unfold strs; rw [List.map_set]
theorem find_size {ts : List Tre.Fl} (hc : Tre.check ts = 0) (p : List UInt8) : (Tre.find ts p).1.length ≤ 65536 := by
  have g := (Tre.good_iff ts).1 hc
  cases h : (Tre.find ts p).2 with
  | true => obtain ⟨f, hf, _, e⟩ := Tre.find_mem h; rw [e]; exact g.size f hf
  | false => rw [(Tre.find_none h).2]; simp
theorem lines_each (s : List UInt8) : ∀ l ∈ (Tre.lines s).1, l.length ≤ s.length := fun l hl => by
  rcases Tre.lines_range s with ⟨_, e, _⟩ | e
  · rw [e] at hl; exact Tre.split_le 10 s l hl
  · unfold Tre.lines at hl e
    split at hl
    · cases hl
    · rename_i h; rw [if_neg h] at e; cases e
theorem lines_count (s : List UInt8) : (Tre.lines s).1.length ≤ 1024 := by
  unfold Tre.lines
  split
  · simp
  · rename_i h; dsimp only; omega
set_option maxHeartbeats 4000000 in
set_option maxRecDepth 100000 in
theorem replace_any (A : Option Addr) (c : Nat) (ts : List Tre.Fl) (p : ByteArray) (n : Int) (text : ByteArray) (w : World) (hA : FlsAt w w.heap.size A ts) (hl : ts.length ≤ 1000000) (hL : FlsLen ts) (hM : MaxAt w) (hcap : ts.length ≤ c) (hcap2 : c ≤ maxLen) (htx : text.size ≤ 1000000) :
    Calls Tryz.prog 34 #[.slice A ts.length c, .agg #[.string p, .int .i64 n], .string text] w (GotE w (Tre.repl ts p.data.toList n text.data.toList)) := by
  have HV := Lib.hid (repl_def ts p.data.toList n text.data.toList)
  generalize Tre.repl ts p.data.toList n text.data.toList = R at *
  have hb0 : Below w.heap.size w (w.alloc (.cells #[.string p, .int .i64 n] 45)) := (Below.refl _ _).alloc (Nat.le_refl _) _
  have hN0 := heap_alloc_new w (.cells #[.string p, .int .i64 n] 45)
  have hbs : w.heap.size < (w.alloc (.cells #[.string p, .int .i64 n] 45)).heap.size := by simp
  have hc1 := check_any A c ts _ (hA.next hb0) (by omega) hL (hM.below hb0) hcap hcap2
  go_enter Tryz.func34, Tryz.ntmps34
  go_wp2_with fail
  generalize w.alloc (.cells #[.string p, .int .i64 n] 45) = W at *
  have HW := Lib.hid (show ∀ w', Below W.heap.size W w' → Below w.heap.size w w' ∧ FlsAt w' w'.heap.size A ts ∧ MaxAt w' from fun w' h => by
    have h1 := hb0.trans (h.mono (Nat.le_of_lt hbs))
    exact ⟨h1, hA.next h1, hM.below h1⟩)
  clear hA hM hb0
  generalize hbb : w.heap.size = b at *
  have HBB := Lib.hid hbb
  clear hbb
  by_cases h0 : Tre.check ts ≠ 0
  · have n0 : (Tre.check ts != 0) = true := by rw [bne_iff_ne]; exact h0
    have HT := Lib.hid (show R = ([], 1) by rw [HV.out, if_pos h0])
    clear HV h0
    generalize Tre.check ts = e at *
    with_reducible refine hc1.mono ?_
    clear hc1
    rintro x w2 ⟨rfl, hb2⟩
    go_wp2_with fail
    go_ret2
    rw [HT.out]
    exact ⟨_, rfl, World.ownsRow_nil _ _ _ _, by rw [HBB.out]; exact (HW.out w2 hb2).1⟩
  have h0 : Tre.check ts = 0 := by simpa using h0
  have HV1 := Lib.hid (HV.out.trans (if_neg (fun h => h h0)))
  have hds := find_size h0 p.data.toList
  rw [h0] at hc1
  clear HV h0
  with_reducible refine hc1.mono ?_
  clear hc1
  rintro x w2 ⟨rfl, hb2⟩
  obtain ⟨hbn2, hA2, hM2⟩ := HW.out w2 hb2
  have hN2 := (hb2.block b hbs).trans hN0
  have e0 : w2.cell? ⟨b, 0, none⟩ = some (.string p) := by rw [cell_of_row _ _ _ _ _ _ hN2]; rfl
  have hfind := find_any A c ts p w2 hA2 (by omega)
  rw [findV_def] at hfind
  have hbs2 : b < w2.heap.size := Nat.lt_of_lt_of_le hbs hb2.size
  clear hN0 hA2 hM2 hbn2
  go_wp2_with fail
  with_reducible refine hfind.mono ?_
  clear hfind e0
  rintro x w3 ⟨rfl, hb3⟩
  have hN3 := (hb3.block b hbs2).trans hN2
  have hb23 := hb2.trans (hb3.mono hb2.size)
  have hbs3 : b < w3.heap.size := Nat.lt_of_lt_of_le hbs2 hb3.size
  clear hb2 hb3 hN2 hbs2
  generalize hD : (Tre.find ts p.data.toList).1 = d at *
  have hb3a := hb23.alloc (o := .cells #[.string (str d)] 9) hb23.size
  have hM4 := heap_alloc_new w3 (.cells #[.string (str d)] 9)
  have hN4 : (w3.alloc (.cells #[.string (str d)] 9)).heap[b]? = _ := (((Below.refl w3.heap.size w3).alloc (Nat.le_refl _) (.cells #[.string (str d)] 9)).block b hbs3).trans hN3
  cases hf : (Tre.find ts p.data.toList).2 with
  | false =>
    have HT := Lib.hid (show R = ([], 7) by rw [HV1.out, if_pos hf])
    clear HV1 hf hD
    go_wp2_with fail
    go_ret2
    rw [HT.out]
    exact ⟨_, rfl, World.ownsRow_nil _ _ _ _, by rw [HBB.out]; exact (HW.out _ hb3a).1⟩
  | true =>
    have HV2 := Lib.hid (HV1.out.trans (if_neg (by rw [hf]; decide)))
    clear HV1 hf
    have hlines := lines_any (str d) (w3.alloc (.cells #[.string (str d)] 9)) (by rw [str_size]; omega) (HW.out _ hb3a).2.2
    rw [show (str d).data.toList = d from by simp [str]] at hlines
    have hle := lines_each d
    have hlc := lines_count d
    have hM4c : (w3.alloc (.cells #[.string (str d)] 9)).cell? ⟨w3.heap.size, 0, none⟩ = some (.string (str d)) := by rw [cell_of_row _ _ _ _ _ _ hM4]; rfl
    generalize hLL : Tre.lines d = LL at *
    obtain ⟨ls, le⟩ := LL
    dsimp only at hlines hle hlc
    have HV3 := Lib.hid HV2.out
    clear HV2
    have hlow : b < (w3.alloc (.cells #[.string (str d)] 9)).heap.size := by simp; omega
    have hlow2 : w3.heap.size < (w3.alloc (.cells #[.string (str d)] 9)).heap.size := by simp
    go_wp2_with fail
    generalize w3.alloc (.cells #[.string (str d)] 9) = w4 at *
    with_reducible refine hlines.mono ?_
    clear hlines hD hLL
    rintro x w5 ⟨v, rfl, hown, hb5⟩
    have hb5a := hb3a.trans (hb5.mono hb3a.size)
    have hN5 := (hb5.block b hlow).trans hN4
    have hM5 := (hb5.block w3.heap.size hlow2).trans hM4
    dsimp only at hown
    have hs5 : w4.heap.size ≤ w5.heap.size := hb5.size
    have hbd : b < w3.heap.size := hbs3
    have hWb : W.heap.size ≤ w3.heap.size := hb23.size
    generalize w3.heap.size = bd at *
    have e0 : w5.cell? ⟨b, 0, none⟩ = some (.string p) := by rw [cell_of_row _ _ _ _ _ _ hN5]; rfl
    have e1 : w5.cell? ⟨b, 1, none⟩ = some (.int .i64 n) := by rw [cell_of_row _ _ _ _ _ _ hN5]; rfl
    have e2 : w5.cell? ⟨bd, 0, none⟩ = some (.string (str d)) := by rw [cell_of_row _ _ _ _ _ _ hM5]; rfl
    by_cases hle0 : le ≠ 0
    · have n0 : (le != 0) = true := by rw [bne_iff_ne]; exact hle0
      have HT := Lib.hid (show R = ([], le) from HV3.out.trans (if_pos hle0))
      clear HV3 hle0
      go_wp2_with fail
      go_ret2
      rw [HT.out]
      exact ⟨_, rfl, World.ownsRow_nil _ _ _ _, by rw [HBB.out]; exact (HW.out _ hb5a).1⟩
    · have h0 : le = 0 := by simpa using hle0
      subst h0
      have HV4 := Lib.hid (HV3.out.trans (if_neg (fun h => h rfl)))
      clear HV3 hle0
      obtain ⟨AL, cL, rfl, hLc⟩ := owns_cells hown
      obtain ⟨hq1, hq2⟩ := own_cap hown
      by_cases hr : n < 0 ∨ (ls.length : Int) ≤ n
      · have HT := Lib.hid (show R = ([], 3) from HV4.out.trans (if_pos hr))
        clear HV4
        have d1 : (decide (n < 0) = true) ∨ (decide (n < 0) = false ∧ decide ((ls.length : Int) ≤ n) = true) := by
          by_cases h : n < 0
          · exact .inl (decide_eq_true h)
          · exact .inr ⟨decide_eq_false h, decide_eq_true (by omega)⟩
        rcases d1 with d1 | ⟨d1, d2⟩
        all_goals
          go_wp2_with fail
          go_ret2
          rw [HT.out]
          exact ⟨_, rfl, World.ownsRow_nil _ _ _ _, by rw [HBB.out]; exact (HW.out _ hb5a).1⟩
      · have HV5 := Lib.hid (HV4.out.trans (if_neg hr))
        obtain ⟨m, rfl⟩ : ∃ m : Nat, n = (m : Int) := ⟨n.toNat, by omega⟩
        have hm : m < ls.length := by omega
        have d1 : decide ((m : Int) < 0) = false := by simp
        have d2 : decide ((ls.length : Int) ≤ (m : Int)) = false := by simp; omega
        have d3 : decide (ls.length ≤ m) = false := by simp; omega
        have d4 : (m : Int) < (ls.length : Int) := by omega
        have d5 : 0 ≤ (m : Int) := by omega
        rw [Int.toNat_natCast] at HV5
        obtain ⟨gL, oL, rfl, hgL, hcL⟩ := hLc m (by rw [strs_len]; exact hm)
        rcases hown.2 with ⟨h0, _⟩ | ⟨g', cap', cur, hv, hB, hblk, p1, p2, p3, p4⟩
        · cases h0
        cases hv
        have hst := hown.stored m (.string (str text.data.toList))
        rw [strs_set, str_of] at hst
        have hfr := hown.frozenAt m
        obtain ⟨vm, hvm⟩ : ∃ vm, w5.cell? ⟨gL, m, none⟩ = some vm := ⟨_, by have := hcL; rwa [Nat.zero_add] at this⟩
        clear HV4 hr hLc hcL p1 p2 p3 p4 hblk
        have hneb : b ≠ gL := by omega
        have hned : bd ≠ gL := by omega
        go_upto_region 12 with (fail)
        have hb6 : Below W.heap.size W (w5.setCell ⟨gL, m, none⟩ (.string text)) := hb5a.grown hst.2 hb5a.size (fun q hq => by cases hq; exact Nat.le_trans hb3a.size hB)
        have hN6 := (hst.2.block b (by omega) (fun e => hneb (Option.some.inj e))).trans hN5
        have hM6 := (hst.2.block bd (by omega) (fun e => hned (Option.some.inj e))).trans hM5
        have hs6 : w5.heap.size ≤ (w5.setCell ⟨gL, m, none⟩ (.string text)).heap.size := hst.2.size
        obtain ⟨A6, c6, hv6, hLc6⟩ := owns_cells hst.1
        have hjoin := join_any A6 c6 (ls.set m text.data.toList) _ hLc6 (by rw [List.length_set]; omega) (fun l hl => by
          rcases List.mem_or_eq_of_mem_set hl with h | h
          · have := hle l h; omega
          · rw [h, size_data]; omega) (by rw [List.length_set]; cases hv6; omega)
        rw [List.length_set, ← hv6, joinV_def] at hjoin
        generalize w5.setCell ⟨gL, m, none⟩ (.string text) = w6 at *
        clear hst hv6 hLc6 hfr hvm hown e0 e1 e2 hN5 hM5
        generalize Tre.join (ls.set m text.data.toList) = J at *
        obtain ⟨js, je⟩ := J
        dsimp only at hjoin
        go_wp2_with fail
        with_reducible refine hjoin.mono ?_
        clear hjoin
        rintro x w7 ⟨rfl, hb7⟩
        have hs7 := hb7.size
        have hb7a := hb6.trans (hb7.mono hb6.size)
        have hM7 := (hb7.block bd (by omega)).trans hM6
        have hN7 := (hb7.block b (by omega)).trans hN6
        have e3 : w7.cell? ⟨bd, 0, none⟩ = some (.string (str d)) := by rw [cell_of_row _ _ _ _ _ _ hM7]; rfl
        have f3 : w7.frozen? ⟨bd, 0, none⟩ = false := frozen_of_row w7 bd 0 _ _ hM7
        have hb8 : Below W.heap.size W (w7.setCell ⟨bd, 0, none⟩ (.string (str js))) := hb7a.setCell hWb _
        have hM8 := heap_setCell_same w7 bd 0 _ _ (.string (str js)) hM7
        have hN8 := (heap_setCell_other w7 ⟨bd, 0, none⟩ b (.string (str js)) (by show b ≠ bd; omega)).trans hN7
        by_cases hj0 : je ≠ 0
        · have n0 : (je != 0) = true := by rw [bne_iff_ne]; exact hj0
          have HT := Lib.hid (show R = ([], je) from HV5.out.trans (if_pos hj0))
          clear HV5 hj0 hM7 hN7 hM6 hN6
          go_wp2_with fail
          go_ret2
          rw [HT.out]
          exact ⟨_, rfl, World.ownsRow_nil _ _ _ _, by rw [HBB.out]; exact (HW.out _ hb8).1⟩
        · have h0 : je = 0 := by simpa using hj0
          subst h0
          have HT := Lib.hid (show R = (Tre.setPath ts p.data.toList js, 0) from HV5.out.trans (if_neg (fun h => h rfl)))
          clear HV5 hj0 hM7 hN7 hM6 hN6
          obtain ⟨hbn8, hA8, hMx8⟩ := HW.out _ hb8
          have k0 : (w7.setCell ⟨bd, 0, none⟩ (.string (str js))).cell? ⟨b, 0, none⟩ = some (.string p) := by rw [cell_of_row _ _ _ _ _ _ hN8]; rfl
          have k1 : (w7.setCell ⟨bd, 0, none⟩ (.string (str js))).cell? ⟨bd, 0, none⟩ = some (.string (str js)) := by rw [cell_of_row _ _ _ _ _ _ hM8]; rfl
          have hwalk := walkRepl b bd A c ts p (str js) _ hA8 hl k0 k1
          rw [filter_all, show (str js).data.toList = js from by simp [str]] at hwalk
          go_upto_region 15 with (fail)
          generalize w7.setCell ⟨bd, 0, none⟩ (.string (str js)) = w8 at *
          clear e3 f3 k0 k1 hM8 hN8 hA8 hMx8
          go_wp2_with fail
          with_reducible refine hwalk.mono ?_
          clear hwalk
          rintro x w9 ⟨v, rfl, hown, hb9⟩
          go_wp2_with fail
          go_ret2
          rw [HT.out]
          have hbw8 : b ≤ w8.heap.size := by rw [← HBB.out]; exact hbn8.size
          exact ⟨_, rfl, by rw [HBB.out]; exact hown.mono hbw8, by rw [HBB.out]; exact hbn8.trans (hb9.mono hbw8)⟩
end Go.Proofs.YtinkpbobkeppiaaGreatDoor
