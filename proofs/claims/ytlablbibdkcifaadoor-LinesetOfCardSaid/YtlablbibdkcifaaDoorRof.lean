/- Of of the reference and of the program, at any lines; ContainsFunc of the law. Condition: bytealg's MaxLen lies in its variable. -/
import Derived.Test.YtlablbibdkcifaaDoorRso
import Derived.Test.YtlablbibdkcifaaDoorRpk
import Derived.Test.YtlablbibdkcifaaDoorOfp
import Derived.Test.YtlablbibdkcifaaDoorFew
namespace Go.Proofs.YtlablbibdkcifaaDoor
open Go.RowKit Go.Deep Tr

namespace Ls
/-- What is wrong with the first line that is not valid. -/
def ofE : List Ln → Int
  | [] => 0
  | x :: t => if Tre.pathOk x.1 = true then (if 0 ≤ x.2 ∧ x.2 < 1024 then ofE t else 3) else 2
theorem ofE_at (L : List Ln) (k : Nat) (h : k < L.length) : ofE (L.drop k) = if Tre.pathOk L[k].1 = true then (if 0 ≤ L[k].2 ∧ L[k].2 < 1024 then ofE (L.drop (k + 1)) else 3) else 2 := by
  rw [List.drop_eq_getElem_cons h, ofE]
theorem ofE_ok : ∀ (L : List Ln), ofE L = 0 → ∀ x ∈ L, Tre.pathOk x.1 = true ∧ 0 ≤ x.2 ∧ x.2 < 1024
  | [], _ => by simp
  | y :: t, h => by
    rw [ofE] at h
    by_cases h1 : Tre.pathOk y.1 = true
    · rw [if_pos h1] at h
      by_cases h2 : 0 ≤ y.2 ∧ y.2 < 1024
      · rw [if_pos h2] at h
        intro x hx
        rcases List.mem_cons.1 hx with rfl | hx
        · exact ⟨h1, h2⟩
        · exact ofE_ok t h x hx
      · rw [if_neg h2] at h; omega
    · rw [if_neg h1] at h; omega
theorem isSp_bad {n t : Int} (h : ¬ (0 ≤ n ∧ n < 1024)) : isSp n t = false := by
  rw [Bool.eq_false_iff]
  intro c
  have := (isSp_iff n t).1 c
  omega
end Ls
/-- What Of leaves, of any lines. -/
def GotOx (w : World) (L : List Ls.Ln) : Ending → World → Prop := fun e w' => ((Ls.ofE L = 0 ∧ ∃ A c, e = .returned (.tuple #[.slice A (Ls.pack (Ls.srt L)).length c, .int .i64 0]) ∧ Ls.SpAt w' w'.heap.size A (Ls.pack (Ls.srt L))) ∨ (Ls.ofE L ≠ 0 ∧ e = .returned (.tuple #[.slice none 0 0, .int .i64 (Ls.ofE L)]))) ∧ Below w.heap.size w w'
set_option maxHeartbeats 8000000 in
set_option maxRecDepth 100000 in
theorem ofx_any (L : List (List UInt8 × Int)) (A : Option Addr) (c : Nat) (w : World) (hA : Ls.LnAt w w.heap.size A L) (hl : L.length ≤ 100000) (hpp : ∀ x ∈ L, x.1.length ≤ 1000000) (hM : MaxAt w) :
    Calls Tryd.prog 21 #[.slice A L.length c] w (GotOx w L) := by
  obtain ⟨isp, hisp, hz0, hz1, hz2⟩ := info_parts infoSp
  obtain ⟨w1, hrun, hown1, hg1⟩ := run_makeSlice_full (P := Tryd.prog) (w := w) w.heap.size 23 40 isp _ 3 Tryd.underlying23 hisp hz0 hz1 .i64 .i64 L.length (by omega) (by rw [hz2]; omega) (by unfold maxLen; omega) (Nat.le_refl _)
  have hb1 : Below w.heap.size w w1 := ⟨hg1.os, hg1.tape, hg1.output, hg1.size, fun k hk => hg1.block k hk (by simp)⟩
  have HAA := Lib.hid hA
  have HPP := Lib.hid hpp
  have HVE := Lib.hid (show Ls.ofE L = Ls.ofE (L.drop 0) from rfl)
  have HVL := Lib.hid (Ls.ofE_ok L)
  generalize hVV : Ls.ofE L = V at HVE HVL
  have HVV := Lib.hid hVV
  clear hVV
  have HM := Lib.hid hM
  have hml : (madeCells (Value.agg #[.string ⟨#[]⟩, .int .i64 0, .int .i64 0]).cells (L.length * 3)).toList.length = L.length * 3 := by rw [Array.length_toList, size_madeCells]
  generalize (madeCells (Value.agg #[.string ⟨#[]⟩, .int .i64 0, .int .i64 0]).cells (L.length * 3)).toList = Z at *
  clear hA hpp hM hg1
  go_enter Tryd.func21, Tryd.ntmps21
  go_wp2_with fail
  clear hrun
  go_loopw [12] (fun s12 wr => ∃ (k : Nat) (xs : List Value), s12 = .int .i64 k ∧ k ≤ L.length ∧ V = Ls.ofE (L.drop k) ∧ wr.ownsRow w.heap.size 40 3 (.slice (some ⟨w.heap.size, 0, none⟩) L.length L.length) L.length xs ∧ xs.length = L.length * 3 ∧ xs.take (k * 3) = Ls.spsV ((L.take k).map Ls.lnS) ∧ Below w.heap.size w wr) (fun s12 _ => L.length - (intOf s12).toNat)
  case atStart => exact ⟨0, Z, rfl, by omega, HVE.out, hown1, hml, by simp [Ls.spsV], hb1⟩
  case round =>
    clear hown1 hml hb1
    obtain ⟨k, xs, rfl, hk, hR, hown, hxl, hxt, hb⟩ := hrel
    by_cases hlt : k < L.length
    · have b1 : decide ((k : Int) < (L.length : Int)) = true := decide_eq_true (by omega)
      have b1n : decide (k < L.length) = true := decide_eq_true hlt
      obtain ⟨g, o, rfl, hg, hc⟩ := HAA.out k hlt
      have hpl := HPP.out L[k] (List.getElem_mem hlt)
      rw [Ls.ofE_at L k hlt] at hR
      have HT := Lib.hid (Ls.spsV_lnS L k hlt)
      have HXT := Lib.hid hxt
      have HXL := Lib.hid hxl
      have hd0 := (hb.cell (p := ⟨g, o + k * 2, none⟩) hg).trans (hc 0 _ rfl)
      have hd1 := (hb.cell (p := ⟨g, o + k * 2 + 1, none⟩) hg).trans (hc 1 _ rfl)
      clear hc hxt
      generalize L[k] = x at *
      obtain ⟨p, n⟩ := x
      dsimp only at hpl hd0 hd1 hR
      have HR := Lib.hid hR
      clear hR
      have hN := heap_alloc_new wr (.cells #[.string (str p), .int .i64 n] 25)
      have hbX : Below w.heap.size w (wr.alloc (.cells #[.string (str p), .int .i64 n] 25)) := hb.alloc hb.size _
      have hoX := hown.alloc (.cells #[.string (str p), .int .i64 n] 25)
      go_upto_region 5 with (fail)
      clear hd0 hd1 hb hown
      generalize wr.alloc (.cells #[.string (str p), .int .i64 n] 25) = X at *
      generalize wr.heap.size = q at *
      have e0 : X.cell? ⟨q, 0, none⟩ = some (.string (str p)) := by rw [cell_of_row _ _ _ _ _ _ hN]; rfl
      have hpath := path_any (str p) X (by rw [str_size]; omega) (HM.out.below hbX)
      rw [show Tre.path (str p).data.toList = (if Tre.pathOk p = true then 0 else 2 : Int) from rfl] at hpath
      by_cases hpo : Tre.pathOk p = true
      case neg =>
        rw [if_neg hpo] at hpath
        have HTV := Lib.hid (show V = 2 by rw [HR.out, if_neg hpo])
        clear hpo HR hN hoX
        go_wp2_with fail
        with_reducible refine hpath.mono ?_
        clear hpath e0
        rintro e w3 ⟨rfl, hb3⟩
        have HB3 := Lib.hid (hbX.trans (hb3.mono hbX.size))
        clear hbX hb3
        go_wp2_with fail
        first | go_ret3 | go_ret2 | go_ret
        exact ⟨.inr ⟨by rw [HVV.out, HTV.out]; decide, by rw [HVV.out, HTV.out]; rfl⟩, HB3.out⟩
      rw [if_pos hpo] at hpath
      go_wp2_with fail
      with_reducible refine hpath.mono ?_
      clear hpath e0
      rintro e w3 ⟨rfl, hb3⟩
      have hb03 := hbX.trans (hb3.mono hbX.size)
      have hN3 := (hb3.block _ (blk_lt hN)).trans hN
      have ho3 := own_below hoX hb3
      clear hbX hb3 hN hoX
      have e0 : w3.cell? ⟨q, 0, none⟩ = some (.string (str p)) := by rw [cell_of_row _ _ _ _ _ _ hN3]; rfl
      have e1 : w3.cell? ⟨q, 1, none⟩ = some (.int .i64 n) := by rw [cell_of_row _ _ _ _ _ _ hN3]; rfl
      have hsp := isSpan_any n (IntKind.i64.wrap (n + 1)) w3
      by_cases hnn : 0 ≤ n ∧ n < 1024
      case neg =>
        rw [Ls.isSp_bad hnn] at hsp
        have HTV := Lib.hid (show V = 3 by rw [HR.out, if_pos hpo, if_neg hnn])
        have HB3 := Lib.hid hb03
        clear hpo hnn HR ho3 hb03 hN3
        obtain ⟨t, ht⟩ : ∃ t, IntKind.i64.wrap (n + 1) = t := ⟨_, rfl⟩
        rw [ht] at hsp
        go_wp2_with fail
        with_reducible refine hsp.mono ?_
        clear hsp
        rintro e w4 ⟨rfl, rfl⟩
        go_wp2_with fail
        first | go_ret3 | go_ret2 | go_ret
        exact ⟨.inr ⟨by rw [HVV.out, HTV.out]; decide, by rw [HVV.out, HTV.out]; rfl⟩, HB3.out⟩
      have HTV := Lib.hid (show V = Ls.ofE (L.drop (k + 1)) by rw [HR.out, if_pos hpo, if_pos hnn])
      clear HR
      obtain ⟨hn0, hn1⟩ := hnn
      have wn : IntKind.i64.wrap (n + 1) = n + 1 := IntWalk.i64_in _ (by omega)
      rw [wn, (Ls.isSp_iff n (n + 1)).2 (by omega)] at hsp
      have y1 : (0 : Int) ≤ (k : Int) := by omega
      have y2 : (k : Int) < (L.length : Int) := by omega
      have hxk : k * 3 + 3 ≤ xs.length := by omega
      have st1 := ho3.stored (k * 3) (.string (str p))
      have st2 := st1.1.stored (k * 3 + 1) (.int .i64 n)
      have st3 := st2.1.stored (k * 3 + 2) (.int .i64 (n + 1))
      have hgB : w.heap.size ≤ w.heap.size := Nat.le_refl _
      have HB3 := Lib.hid (((hb03.setCell (p := ⟨w.heap.size, k * 3, none⟩) hgB (.string (str p))).setCell (p := ⟨w.heap.size, k * 3 + 1, none⟩) hgB (.int .i64 n)).setCell (p := ⟨w.heap.size, k * 3 + 2, none⟩) hgB (.int .i64 (n + 1)))
      have HO3 := Lib.hid st3.1
      have c0 := ho3.cellAt (k * 3) (by omega)
      have c1 := ho3.cellAt (k * 3 + 1) (by omega)
      have c2 := ho3.cellAt (k * 3 + 2) (by omega)
      rw [List.getElem?_eq_getElem (by omega)] at c0 c1 c2
      have f0 := ho3.frozenAt (k * 3)
      have f1 := ho3.frozenAt (k * 3 + 1)
      have f2 := ho3.frozenAt (k * 3 + 2)
      clear st1 st2 st3 ho3 hb03 hpo hpl
      go_wp2_with fail
      with_reducible refine hsp.mono ?_
      clear hsp
      rintro e w4 ⟨rfl, rfl⟩
      go_wp2_with fail
      go_roundw
      case rel => exact ⟨k + 1, _, by go_num, by omega, HTV.out, HO3.out, by simp; exact HXL.out, by rw [Ls.set3_take _ _ _ _ _ hxk, HXT.out, HT.out], HB3.out⟩
      case measure => simp [intOf]; omega
    · have b1 : decide ((k : Int) < (L.length : Int)) = false := decide_eq_false (by omega)
      have b1n : decide (k < L.length) = false := decide_eq_false hlt
      obtain rfl : k = L.length := by omega
      have HV0 := Lib.hid (show V = 0 by rw [hR, List.drop_length]; rfl)
      have HOK := Lib.hid (HVL.out HV0.out)
      clear hR
      go_wp2_with fail
      rw [List.take_length, List.take_of_length_le (by omega)] at hxt
      subst hxt
      have hlm : (L.map Ls.lnS).length = L.length := List.length_map ..
      have hown2 : wr.ownsRow w.heap.size 40 3 (.slice (some ⟨w.heap.size, 0, none⟩) L.length L.length) (L.map Ls.lnS).length (Ls.spsV (L.map Ls.lnS)) := by rw [hlm]; exact hown
      obtain ⟨A3, c3, he, hS⟩ := own_sp hown2
      injection he with he hem hec
      clear hem
      subst he hec
      have hch := choose_any (fun x _ => x) rfl 40 (fun _ _ w => run_enter Tryd.func40 (by kernel_rfl) (by kernel_rfl) _ w) ofF_any (L.map Ls.lnS) [] (some ⟨w.heap.size, 0, none⟩) none L.length 0 wr hS (Ls.ElAt.nil _ _ _ _ _) (by omega) (Nat.zero_le _) (fun s hs => by
        rcases hs with hs | hs
        · obtain ⟨x, hx, rfl⟩ := List.mem_map.1 hs
          have := HOK.out x hx
          exact ⟨this.1, this.2.1, by show x.2 + 1 ≤ 1024; omega, by show x.2 < x.2 + 1; omega⟩
        · cases hs)
      rw [hlm, List.length_nil] at hch
      clear hown hown2 hS hlm hxl b1 b1n hk
      with_reducible refine hch.mono ?_
      clear hch
      rintro e w5 ⟨out, v, rfl, o1, o2, o3, o4, hb5⟩
      obtain ⟨A5, c5, rfl, o5⟩ := own_sp o4
      have HEQ := Lib.hid (show out = Ls.pack (Ls.srt L) from Ls.pack_eq (Ls.srt_ok L).1 o1.apart fun p m => by rw [o2 p m, Ls.has_lnS, decide_eq_true_eq, (Ls.srt_ok L).2.1])
      have H5 := Lib.hid o5
      have H6 := Lib.hid (hb.trans (hb5.mono hb.size))
      clear o1 o2 o3 o4 o5 hb5 hb
      go_wp2_with fail
      first | go_ret2 | go_ret
      exact ⟨.inl ⟨by rw [HVV.out, HV0.out], A5, c5, by rw [← HEQ.out]; rfl, by rw [← HEQ.out]; exact H5.out⟩, H6.out⟩
set_option maxHeartbeats 4000000 in
set_option maxRecDepth 100000 in
theorem qright_any (x : Ls.Ln) (w : World) (hp : x.1.length ≤ 1000000) : Calls Tryd.prog 42 #[lnA x] w fun e w' => e = .returned (.bool (Tre.pathOk x.1 && (decide (0 ≤ x.2) && decide (x.2 < 1024)))) ∧ Below w.heap.size w w' := by
  rw [lnA_def]
  have hb0 : Below w.heap.size w (w.alloc (.cells #[.string (str x.1), .int .i64 x.2] 25)) := (Below.refl _ _).alloc (Nat.le_refl _) _
  have cc := qPath_any (str x.1) (w.alloc (.cells #[.string (str x.1), .int .i64 x.2] 25)) (by rw [str_size]; omega)
  rw [str_data] at cc
  generalize Tre.pathOk x.1 = pv at *
  rcases Bool.eq_false_or_eq_true (decide ((0 : Int) ≤ x.2)) with c0 | c0 <;> rcases Bool.eq_false_or_eq_true (decide (x.2 < (1024 : Int))) with c1 | c1 <;> cases pv
  all_goals
    rw [c0, c1]
    go_enter Tryd.func42, Tryd.ntmps42
    go_wp2_with fail
    with_reducible refine cc.mono ?_
    clear cc
    rintro e w' ⟨rfl, rfl⟩
    go_wp2_with fail
    go_ret
    exact ⟨rfl, hb0⟩
set_option maxHeartbeats 8000000 in
set_option maxRecDepth 100000 in
theorem qof_any (L : List Ls.Ln) (A : Option Addr) (c : Nat) (w : World) (hA : Ls.LnAt w w.heap.size A L) (hl : L.length ≤ 100000) (hpp : ∀ x ∈ L, x.1.length ≤ 1000000) :
    Calls Tryd.prog 22 #[.slice A L.length c] w (GotOx w L) := by
  have HAA := Lib.hid hA
  have HPP := Lib.hid hpp
  have HVE := Lib.hid (show Ls.ofE L = Ls.ofE (L.drop 0) from rfl)
  have HVL := Lib.hid (Ls.ofE_ok L)
  generalize hVV : Ls.ofE L = V at HVE HVL
  have HVV := Lib.hid hVV
  clear hVV hA hpp
  go_enter Tryd.func22, Tryd.ntmps22
  go_wp2_with fail
  go_loopw [4] (fun s4 wr => ∃ k : Nat, s4 = .int .i64 k ∧ k ≤ L.length ∧ V = Ls.ofE (L.drop k) ∧ Below w.heap.size w wr) (fun s4 _ => L.length - (intOf s4).toNat)
  case atStart => exact ⟨0, rfl, by omega, HVE.out, Below.refl _ _⟩
  case round =>
    clear HVE
    obtain ⟨k, rfl, hk, hR, hb⟩ := hrel
    by_cases hlt : k < L.length
    · have b1 : decide ((k : Int) < (L.length : Int)) = true := decide_eq_true (by omega)
      have b1n : decide (k < L.length) = true := decide_eq_true hlt
      have y2 : (k : Int) < (L.length : Int) := by omega
      obtain ⟨g, o, rfl, hg, hc⟩ := HAA.out k hlt
      have hpl := HPP.out L[k] (List.getElem_mem hlt)
      rw [Ls.ofE_at L k hlt] at hR
      have HR := Lib.hid hR
      have hd0 := (hb.cell (p := ⟨g, o + k * 2, none⟩) hg).trans (hc 0 _ rfl)
      have hd1 := (hb.cell (p := ⟨g, o + k * 2 + 1, none⟩) hg).trans (hc 1 _ rfl)
      have hgw : g < wr.heap.size := Nat.lt_of_lt_of_le hg hb.size
      clear hc hR
      generalize L[k] = x at *
      have cc := qPath_any (str x.1) wr (by rw [str_size]; omega)
      rw [str_data] at cc
      have cr := qright_any x wr hpl
      rw [lnA_def] at cr
      by_cases hpo : Tre.pathOk x.1 = true
      case neg =>
        rw [show Tre.pathOk x.1 = false by simpa using hpo] at cc
        have HT := Lib.hid (show V = 2 by rw [HR.out, if_neg hpo])
        have HB3 := Lib.hid hb
        clear hpo HR cr hb
        go_wp2_with fail
        with_reducible refine cc.mono ?_
        clear cc
        rintro e w3 ⟨rfl, rfl⟩
        go_wp2_with fail
        first | go_ret3 | go_ret2 | go_ret
        exact ⟨.inr ⟨by rw [HVV.out, HT.out]; decide, by rw [HVV.out, HT.out]; rfl⟩, HB3.out⟩
      rw [hpo] at cc cr
      go_wp2_with fail
      with_reducible refine cc.mono ?_
      clear cc
      rintro e w3 ⟨rfl, rfl⟩
      by_cases hnn : 0 ≤ x.2 ∧ x.2 < 1024
      case neg =>
        rw [show (decide (0 ≤ x.2) && decide (x.2 < 1024)) = false by rw [Bool.eq_false_iff]; intro h; rw [Bool.and_eq_true, decide_eq_true_eq, decide_eq_true_eq] at h; exact hnn h] at cr
        have HT := Lib.hid (show V = 3 by rw [HR.out, if_pos hpo, if_neg hnn])
        have HBB := Lib.hid hb
        clear hpo hnn HR hb
        go_wp2_with fail
        with_reducible refine cr.mono ?_
        clear cr
        rintro e w4 ⟨rfl, hb4⟩
        have HB3 := Lib.hid (HBB.out.trans (hb4.mono HBB.out.size))
        clear hb4
        go_wp2_with fail
        first | go_ret3 | go_ret2 | go_ret
        exact ⟨.inr ⟨by rw [HVV.out, HT.out]; decide, by rw [HVV.out, HT.out]; rfl⟩, HB3.out⟩
      rw [show (decide (0 ≤ x.2) && decide (x.2 < 1024)) = true by rw [Bool.and_eq_true, decide_eq_true_eq, decide_eq_true_eq]; exact hnn] at cr
      have HT := Lib.hid (show V = Ls.ofE (L.drop (k + 1)) by rw [HR.out, if_pos hpo, if_pos hnn])
      have HBB := Lib.hid hb
      clear hpo hnn HR hb
      go_wp2_with fail
      with_reducible refine cr.mono ?_
      clear cr
      rintro e w4 ⟨rfl, hb4⟩
      have HB3 := Lib.hid (HBB.out.trans (hb4.mono HBB.out.size))
      clear hb4 hd0 hd1
      go_wp2_with fail
      go_roundw
      case rel => exact ⟨k + 1, by go_num, by omega, HT.out, HB3.out⟩
      case measure => simp [intOf]; omega
    · have b1 : decide ((k : Int) < (L.length : Int)) = false := decide_eq_false (by omega)
      have b1n : decide (k < L.length) = false := decide_eq_false hlt
      have HV0 := Lib.hid (show V = 0 by rw [hR, List.drop_of_length_le (by omega)]; rfl)
      have HOK := Lib.hid (HVL.out HV0.out)
      have hso := qsorted_any L A c wr (HAA.out.next hb |> fun h => h) (by omega)
      clear hR
      go_wp2_with fail
      with_reducible refine hso.mono ?_
      clear hso
      rintro e w4 ⟨v, rfl, hown, hb4⟩
      obtain ⟨A4, c4, rfl, _, _, hA4⟩ := Ls.own_el Ls.lnV 2 Ls.lnV_len hown
      have hs := Ls.srt_ok L
      have cp := qpack_any (Ls.srt L) A4 c4 w4 hA4 (by rw [hs.2.2]; omega) hs.1 (fun x hx => (HOK.out x ((hs.2.1 x).1 hx)).2)
      have HB4 := Lib.hid (hb.trans (hb4.mono hb.size))
      clear hown hb4 hb hs
      go_wp2_with fail
      with_reducible refine cp.mono ?_
      clear cp
      rintro e w5 ⟨v, rfl, hown, hb5⟩
      obtain ⟨A5, c5, rfl, o5⟩ := own_sp hown
      have H5 := Lib.hid o5
      have H6 := Lib.hid (HB4.out.trans (hb5.mono HB4.out.size))
      clear hown hb5 o5 hA4
      go_wp2_with fail
      first | go_ret3 | go_ret2 | go_ret
      exact ⟨.inl ⟨by rw [HVV.out, HV0.out], A5, c5, rfl, H5.out⟩, H6.out⟩
set_option maxHeartbeats 4000000 in
set_option maxRecDepth 100000 in
theorem over_any (x : Ls.Ln) (w : World) : Calls Tryd.prog 20 #[.agg #[.string (str x.1), .int .i64 x.2]] w fun e w' => e = .returned (.bool (decide ((200 : Int) < ((str x.1).size : Int)))) ∧ Below w.heap.size w w' := by
  have hb0 : Below w.heap.size w (w.alloc (.cells #[.string (str x.1), .int .i64 x.2] 25)) := (Below.refl _ _).alloc (Nat.le_refl _) _
  generalize hd : decide ((200 : Int) < ((str x.1).size : Int)) = d at *
  have hdn : decide (200 < (str x.1).size) = d := by rw [← hd]; exact decide_eq_decide.2 (by omega)
  go_enter Tryd.func20, Tryd.ntmps20
  go_wp2_with fail
  go_ret
  exact ⟨by first | rfl | rw [hd] | rw [hdn], hb0⟩
set_option maxHeartbeats 4000000 in
set_option maxRecDepth 100000 in
theorem indexOver_any (L : List Ls.Ln) (A : Option Addr) (c : Nat) (w : World) (hA : Ls.LnAt w w.heap.size A L) (hl : L.length ≤ 100000) :
    Calls Tryd.prog 38 #[.slice A L.length c, .func (.func 20) #[] #[]] w fun e w' => ∃ n : Int, e = .returned (.int .i64 n) ∧ (0 ≤ n ∨ n = -1 ∧ ∀ x ∈ L, x.1.length ≤ 200) ∧ Below w.heap.size w w' := by
  have HAA := Lib.hid hA
  clear hA
  go_enter Tryd.func38, Tryd.ntmps38
  go_wp2_with fail
  go_loopw [8] (fun s8 wr => ∃ k : Nat, s8 = .int .i64 k ∧ k ≤ L.length ∧ (∀ x ∈ L.take k, x.1.length ≤ 200) ∧ Below w.heap.size w wr) (fun s8 _ => L.length - (intOf s8).toNat)
  case atStart => exact ⟨0, rfl, by omega, by simp, Below.refl _ _⟩
  case round =>
    obtain ⟨k, rfl, hk, hall, hb⟩ := hrel
    have HAL := Lib.hid hall
    clear hall
    by_cases hlt : k < L.length
    · have b1 : decide ((k : Int) < (L.length : Int)) = true := decide_eq_true (by omega)
      have b1n : decide (k < L.length) = true := decide_eq_true hlt
      have y2 : (k : Int) < (L.length : Int) := by omega
      obtain ⟨g, o, rfl, hg, hc⟩ := HAA.out k hlt
      have hd0 := (hb.cell (p := ⟨g, o + k * 2, none⟩) hg).trans (hc 0 _ rfl)
      have hd1 := (hb.cell (p := ⟨g, o + k * 2 + 1, none⟩) hg).trans (hc 1 _ rfl)
      clear hc
      have HTK := Lib.hid (show L[k].1.length ≤ 200 → ∀ x ∈ L.take (k + 1), x.1.length ≤ 200 from fun h => take_all L k hlt HAL.out h)
      generalize L[k] = x at *
      have cc := over_any x wr
      have hsz := str_size x.1
      by_cases h2 : x.1.length ≤ 200
      · rw [decide_eq_false (show ¬ ((200 : Int) < ((str x.1).size : Int)) by omega)] at cc
        have HN := Lib.hid (HTK.out h2)
        clear h2 hsz HTK
        go_wp2_with fail
        with_reducible refine cc.mono ?_
        clear cc
        rintro e w4 ⟨rfl, hb4⟩
        have HB3 := Lib.hid (hb.trans (hb4.mono hb.size))
        clear hb4 hb hd0 hd1
        go_wp2_with fail
        go_roundw
        case rel => exact ⟨k + 1, by go_num, by omega, HN.out, HB3.out⟩
        case measure => simp [intOf]; omega
      · rw [decide_eq_true (show ((200 : Int) < ((str x.1).size : Int)) by omega)] at cc
        clear h2 hsz HTK
        go_wp2_with fail
        with_reducible refine cc.mono ?_
        clear cc
        rintro e w4 ⟨rfl, hb4⟩
        have HB3 := Lib.hid (hb.trans (hb4.mono hb.size))
        clear hb4 hb hd0 hd1
        go_wp2_with fail
        first | go_ret3 | go_ret2 | go_ret
        exact ⟨_, rfl, .inl (by omega), HB3.out⟩
    · have b1 : decide ((k : Int) < (L.length : Int)) = false := decide_eq_false (by omega)
      have b1n : decide (k < L.length) = false := decide_eq_false hlt
      have HE := Lib.hid (show ∀ x ∈ L, x.1.length ≤ 200 by have := HAL.out; rwa [List.take_of_length_le (by omega)] at this)
      go_wp2_with fail
      first | go_ret3 | go_ret2 | go_ret
      exact ⟨_, rfl, .inr ⟨rfl, HE.out⟩, hb⟩
set_option maxHeartbeats 4000000 in
set_option maxRecDepth 100000 in
theorem containsOver_any (L : List Ls.Ln) (A : Option Addr) (c : Nat) (w : World) (hA : Ls.LnAt w w.heap.size A L) (hl : L.length ≤ 100000) :
    Calls Tryd.prog 19 #[.slice A L.length c, .func (.func 20) #[] #[]] w fun e w' => ∃ b, e = .returned (.bool b) ∧ (b = false → ∀ x ∈ L, x.1.length ≤ 200) ∧ Below w.heap.size w w' := by
  have cc := indexOver_any L A c w hA hl
  clear hA
  go_enter Tryd.func19, Tryd.ntmps19
  go_wp2_with fail
  with_reducible refine cc.mono ?_
  clear cc
  rintro e w4 ⟨n, rfl, hn, hb4⟩
  rcases hn with hn | ⟨rfl, hall⟩
  · have d0 : decide ((0 : Int) ≤ n) = true := decide_eq_true hn
    clear hn
    go_wp2_with fail
    go_ret
    exact ⟨_, rfl, fun h => (by cases h), hb4⟩
  · have HE := Lib.hid hall
    clear hall
    go_wp2_with fail
    go_ret
    exact ⟨_, rfl, fun _ => HE.out, hb4⟩
end Go.Proofs.YtlablbibdkcifaaDoor
