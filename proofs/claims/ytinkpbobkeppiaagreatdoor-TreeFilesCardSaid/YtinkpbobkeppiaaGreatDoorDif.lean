/- Differ of the program. Condition: the tables of digest, codec lie; both trees have files. -/
import Derived.Test.YtinkpbobkeppiaaGreatDoorCpt
import Derived.Test.YtinkpbobkeppiaaGreatDoorChg
import Derived.Test.YtinkpbobkeppiaaGreatDoorCat
import Derived.Test.YtinkpbobkeppiaaGreatDoorRep
import Derived.Test.YtinkpbobkeppiaaGreatDoorRep
import Derived.Test.YtinkpbobkeppiaaGreatDoorRep
import Derived.Test.YtinkpbobkeppiaaGreatDoorRep
namespace Go.Proofs.YtinkpbobkeppiaaGreatDoor
open Go.RowKit

def chOf (c : Tre.Ch) : List Value := [.string (str c.path), .int .i64 c.kind, .string (str c.old), .string (str c.new)]
def chsOf (l : List Tre.Ch) : List Value := l.flatMap chOf
theorem chs_snoc (l : List Tre.Ch) (c : Tre.Ch) : chsOf l ++ [.string (str c.path), .int .i64 c.kind, .string (str c.old), .string (str c.new)] = chsOf (l ++ [c]) := by simp [chsOf, chOf]
theorem infoC : (Tryz.prog.info? 59).map (fun i => (i.zero, i.size, i.bytes)) = some (some (.agg #[.string ⟨#[]⟩, .int .i64 0, .string ⟨#[]⟩, .string ⟨#[]⟩]), 4, 56) := by kernel_rfl
/-- What changes and an error are as a result. -/
def GotC (w : World) (R : List Tre.Ch × Int) : Ending → World → Prop := fun x w' => ∃ v, x = .returned (.tuple #[v, .int .i64 R.2]) ∧ w'.ownsRow w.heap.size 59 4 v R.1.length (chsOf R.1) ∧ Below w.heap.size w w'
theorem diffR_def (a b : List Tre.Fl) : Tre.diffR a b = if Tre.check a ≠ 0 ∨ Tre.check b ≠ 0 then ([], 1) else ((Tre.pathsOf a b).flatMap (Tre.chg a b), 0) := rfl
theorem chg_snoc (a b : List Tre.Fl) (ps : List (List UInt8)) (p : List UInt8) : (ps ++ [p]).flatMap (Tre.chg a b) = ps.flatMap (Tre.chg a b) ++ (if (Tre.chC a b p).kind ≠ 0 then [Tre.chC a b p] else []) := by
  rw [List.flatMap_append]
  congr 1
  simp only [List.flatMap_cons, List.flatMap_nil, List.append_nil]
  unfold Tre.chC Tre.chg
  split
  · simp
  · split
    · simp
    · split <;> simp
theorem paths_snoc (t : List Tre.Fl) (f : Tre.Fl) : strs (t.map (·.path)) ++ [.string (str f.path)] = strs ((t ++ [f]).map (·.path)) := by simp [strs]
set_option maxHeartbeats 4000000 in
set_option maxRecDepth 100000 in
theorem differ_any (A A' : Option Addr) (c c' : Nat) (ta tb : List Tre.Fl) (w : World) (hA : FlsAt w w.heap.size A ta) (hA' : FlsAt w w.heap.size A' tb) (hl : ta.length ≤ 1000) (hl' : tb.length ≤ 1000) (hL : FlsLen ta) (hL' : FlsLen tb) (hI : IdAt w) (hcap : ta.length ≤ c) (hcap2 : c ≤ maxLen) (hcap' : tb.length ≤ c') (hcap2' : c' ≤ maxLen) :
    Calls Tryz.prog 37 #[.slice A ta.length c, .slice A' tb.length c'] w (GotC w (Tre.diffR ta tb)) := by
  obtain ⟨i0, hi0, hz0, hz1, hz2⟩ := info_parts infoC
  obtain ⟨j0, hj0, hy0, hy1, hy2⟩ := info_parts infoS
  have HV := Lib.hid (diffR_def ta tb)
  generalize Tre.diffR ta tb = R at *
  have hc1 := check_any A c ta w hA (by omega) hL hI.max hcap hcap2
  have hc2 := fun w' (hb : Below w.heap.size w w') => check_any A' c' tb w' (hA'.next hb) (by omega) hL' (hI.max.below hb) hcap' hcap2'
  go_enter Tryz.func37, Tryz.ntmps37
  go_wp2_with fail
  with_reducible refine hc1.mono ?_
  clear hc1
  rintro x w1 ⟨rfl, hb1⟩
  by_cases ha : Tre.check ta ≠ 0
  · have HT := Lib.hid (show R = ([], 1) from HV.out.trans (if_pos (.inl ha)))
    have n0 : (Tre.check ta != 0) = true := by rw [bne_iff_ne]; exact ha
    clear HV ha
    generalize Tre.check ta = e at *
    go_wp2_with fail
    go_ret2
    rw [HT.out]
    exact ⟨_, rfl, World.ownsRow_nil _ _ _ _, hb1⟩
  have ha : Tre.check ta = 0 := by simpa using ha
  have hc3 := hc2 w1 hb1
  clear hc2
  by_cases hb : Tre.check tb ≠ 0
  · have HT := Lib.hid (show R = ([], 1) from HV.out.trans (if_pos (.inr hb)))
    have n0 : (Tre.check tb != 0) = true := by rw [bne_iff_ne]; exact hb
    clear HV hb
    rw [ha]
    clear ha
    generalize Tre.check tb = e at *
    go_wp2_with fail
    with_reducible refine hc3.mono ?_
    clear hc3
    rintro x w2 ⟨rfl, hb2⟩
    go_wp2_with fail
    go_ret2
    rw [HT.out]
    exact ⟨_, rfl, World.ownsRow_nil _ _ _ _, hb1.trans (hb2.mono hb1.size)⟩
  have hb : Tre.check tb = 0 := by simpa using hb
  have HT := Lib.hid (show R = ((Tre.pathsOf ta tb).flatMap (Tre.chg ta tb), 0) from HV.out.trans (if_neg (by rw [ha, hb]; simp)))
  have hfa := fun p => find_size ha p
  have hfb := fun p => find_size hb p
  rw [ha]
  rw [hb] at hc3
  clear HV ha hb
  go_wp2_with fail
  with_reducible refine hc3.mono ?_
  clear hc3
  rintro x w2 ⟨rfl, hb2⟩
  have hb02 := hb1.trans (hb2.mono hb1.size)
  have hA2 := hA.next hb02
  have hA2' := hA'.next hb02
  have hI2 := hI.below hb02
  clear hb1 hb2 hA hA' hI
  have hs2 := hb02.size
  have hbq : Below w2.heap.size w2 (w2.alloc (.cells #[.slice A ta.length c, .slice A' tb.length c'] 23)) := (Below.refl _ _).alloc (Nat.le_refl _) _
  have hcc : Calls Tryz.prog 66 #[.slice (some ⟨w2.heap.size, 0, none⟩) 2 2] (w2.alloc (.cells #[.slice A ta.length c, .slice A' tb.length c'] 23)) _ := concat_any w2.heap.size 2 [⟨A, c, ta⟩, ⟨A', c', tb⟩] (w2.alloc (.cells #[.slice A ta.length c, .slice A' tb.length c'] 23)) (by simp)
    (fun i h => by
      rw [cell_of_row _ _ _ _ _ _ (heap_alloc_new w2 _)]
      match i, h with
      | 0, _ => rfl
      | 1, _ => rfl)
    (fun p hp => by
      simp only [List.mem_cons, List.not_mem_nil, or_false] at hp
      rcases hp with rfl | rfl
      · exact hA2.next hbq
      · exact hA2'.next hbq) (by simp) (by unfold catL; simp only [List.flatMap_cons, List.flatMap_nil, List.append_nil, List.length_append]; omega)
  have hcl : catL [⟨A, c, ta⟩, ⟨A', c', tb⟩] = ta ++ tb := by unfold catL; simp
  rw [hcl] at hcc
  clear hcl
  have HPC := Lib.hid (Tre.paths_compact ta tb)
  have HPL := Lib.hid (Tre.paths_len ta tb)
  have HCS := Lib.hid (chg_snoc ta tb)
  have HAL := Lib.hid (show (ta ++ tb).length ≤ 2000 by rw [List.length_append]; omega)
  go_wp2_with fail
  with_reducible refine hcc.mono ?_
  clear hcc
  rintro x w3 ⟨v3, rfl, hown3, hb3⟩
  have hbq3 := hbq.trans (hb3.mono hbq.size)
  generalize hts : ta ++ tb = ts at *
  obtain ⟨AC, cC, rfl, hC⟩ := owns_fls hown3
  clear hown3 hbq hb3 hts
  have hal := HAL.out
  go_wp2_with fail
  go_loopw [6, 26] (fun v i wr => ∃ k : Nat, k ≤ ts.length ∧ i = .int .i64 k ∧ wr.ownsRow w3.heap.size 9 1 v k (strs ((ts.take k).map (·.path))) ∧ Below w3.heap.size w3 wr) (fun _ i _ => ts.length - (intOf i).toNat)
  case atStart => exact ⟨0, by omega, rfl, World.ownsRow_nil _ _ _ _, Below.refl _ _⟩
  case round =>
    obtain ⟨k, hk, rfl, hown, hb⟩ := hrel
    by_cases hlt : k < ts.length
    · have b1 : decide ((k : Int) < ts.length) = true := by simp; omega
      have b1n : decide (k < ts.length) = true := by simp; omega
      obtain ⟨gc, oc, rfl, hgc, hc0, hc1⟩ := hC k hlt
      have hd0 := (hb.cell (p := ⟨gc, oc + k * 2, none⟩) hgc).trans hc0
      have hd1 := (hb.cell (p := ⟨gc, oc + k * 2 + 1, none⟩) hgc).trans hc1
      have HTK := Lib.hid (show ts.take (k + 1) = ts.take k ++ [ts[k]] from List.take_succ_eq_append_getElem hlt)
      clear hc0 hc1
      generalize ts[k] = f at *
      have hrow := hown.lt
      have hown1 := hown.alloc (.cells #[.string (str f.path), .string (str f.data)] 31)
      have hbw := hb.alloc hb.size (.cells #[.string (str f.path), .string (str f.data)] 31)
      go_wp2_with (at_builtin; refine wpList_append_lies _ (by rfl) _ _ 43 (by rfl) w3.heap.size 9 j0 _ 1 16 Tryz.underlying43 hj0 hy0 hy1 hy2 rfl (by omega) u6 k _ (by rfl) (hown1.alloc _) ⟨wr.heap.size + 1, 0, none⟩ 1 1 [_] (by rfl) (by rfl) (World.news_of_block (cs := #[_]) (t := 9) (fr := (0, 0)) (by have := heap_alloc_new (wr.alloc (.cells #[.string (str f.path), .string (str f.data)] 31)) (.cells #[.string (str f.path)] 9); simpa using this)) (by simp [Value.oneCell']) (by omega) (by unfold maxLen; omega) (by omega) (by have := hb.size; simp; omega) (wr.heap.size + 2) (by simp) ?_; intro gg cap w4 hown4 hgrow hat hlt4)
      have hb4 : Below w3.heap.size w3 w4 := grown_own0 (hbw.alloc hbw.size _) hgrow (fun q hq => (hrow q hq).1)
      rw [paths_snoc, ← HTK.out] at hown4
      have hown5 := hown4
      clear hown4 hown hown1 hgrow hat hlt4 hrow hbw hd0 hd1
      go_wp2_with fail
      go_roundw
      case rel => exact ⟨k + 1, by omega, by go_num, hown5, hb4⟩
      case measure => simp [intOf]; omega
    · have b1 : decide ((k : Int) < ts.length) = false := by simp; omega
      have b1n : decide (k < ts.length) = false := by simp; omega
      obtain rfl : k = ts.length := by omega
      rw [List.take_of_length_le (by omega)] at hown
      rw [show ts.length = (ts.map (·.path)).length from (List.length_map _).symm] at hown
      have hsl : (ts.map (·.path)).length ≤ 2000 := by rw [List.length_map]; omega
      clear hC hlt
      generalize ts.length = tl at *
      have HPC2 := Lib.hid HPC.out
      clear HPC
      generalize ts.map (·.path) = ss at *
      have hsort := sort_own u6 w3.heap.size ss wr hown (by omega)
      go_wp2_with fail
      with_reducible refine hsort.mono ?_
      clear hsort
      rintro x w4 ⟨rfl, hrow4, hg4⟩
      have hb4 := hb.grown hg4 hb.size (fun q hq => (hown.lt q hq).1)
      have hnl : ss.length = (ss.mergeSort leB).length := (List.length_mergeSort ss).symm
      rw [hnl] at hrow4
      have hcmp := compact_own u6 w3.heap.size (ss.mergeSort leB) w4 hrow4 (by omega)
      rw [HPC2.out] at hcmp
      clear hown hg4 hb hnl hsl HPC2
      go_wp2_with fail
      with_reducible refine hcmp.mono ?_
      clear hcmp
      rintro x w5 ⟨v5, rfl, hrow5, hg5⟩
      have hb5 := hb4.grown hg5 hb4.size (fun q hq => (hrow4.lt q hq).1)
      have hpl := HPL.out
      have HT2 := Lib.hid HT.out
      clear hrow4 hg5 hb4 HPL HT
      generalize Tre.pathsOf ta tb = ps at *
      obtain ⟨AP, cP, rfl, hPc⟩ := owns_cells hrow5
      have hb25 := hbq3.trans (hb5.mono hbq3.size)
      clear hrow5 hb5 hbq3
      have hA5 := hA2.next hb25
      have hA5' := hA2'.next hb25
      have hI5 := hI2.below hb25
      have hb05 := hb02.trans (hb25.mono hs2)
      clear hA2 hA2' hI2 hb25
      go_wp2_with fail
      go_loopw [9, 41] (fun v i wr => ∃ k : Nat, k ≤ ps.length ∧ i = .int .i64 k ∧ wr.ownsRow w5.heap.size 59 4 v ((ps.take k).flatMap (Tre.chg ta tb)).length (chsOf ((ps.take k).flatMap (Tre.chg ta tb))) ∧ ((ps.take k).flatMap (Tre.chg ta tb)).length ≤ k ∧ Below w5.heap.size w5 wr) (fun _ i _ => ps.length - (intOf i).toNat)
      case atStart => exact ⟨0, by omega, rfl, World.ownsRow_nil _ _ _ _, by simp, Below.refl _ _⟩
      case round =>
        obtain ⟨k, hk, rfl, hown, hcn, hb⟩ := hrel
        by_cases hlt : k < ps.length
        · have b1 : decide ((k : Int) < ps.length) = true := by simp; omega
          have b1n : decide (k < ps.length) = true := by simp; omega
          obtain ⟨gc, oc, rfl, hgc, hc0⟩ := hPc k (by rw [strs_len]; exact hlt)
          rw [strs_get ps k hlt] at hc0
          have hd0 := (hb.cell (p := ⟨gc, oc + k, none⟩) hgc).trans hc0
          have HTK := Lib.hid (show (ps.take (k + 1)).flatMap (Tre.chg ta tb) = _ from (congrArg _ (List.take_succ_eq_append_getElem hlt)).trans (HCS.out (ps.take k) ps[k]))
          have hpe : (str ps[k]).data.toList = ps[k] := by simp [str]
          have hcall := changeAt_any A A' c c' ta tb (str ps[k]) wr (hA5.next hb) (hA5'.next hb) (by omega) (by omega) (hI5.below hb) (by have := hfa (str ps[k]).data.toList; omega) (by have := hfb (str ps[k]).data.toList; omega)
          rw [hpe, chV_def] at hcall
          clear hc0 hpe
          generalize ps[k] = p at *
          generalize (ps.take k).flatMap (Tre.chg ta tb) = cs at *
          generalize hcs2 : (ps.take (k + 1)).flatMap (Tre.chg ta tb) = cs2 at *
          have HE2 := Lib.hid hcs2
          clear hcs2
          generalize Tre.chC ta tb p = ch at *
          go_wp2_with fail
          with_reducible refine hcall.mono ?_
          clear hcall hd0
          rintro x w6 ⟨rfl, hb6⟩
          have hown6 := owns_below hown hb6
          have hb56 := hb.trans (hb6.mono hb.size)
          clear hown hb hb6
          have hbw := hb56.alloc hb56.size (.cells #[.string (str ch.path), .int .i64 ch.kind, .string (str ch.old), .string (str ch.new)] 59)
          have hown7 := hown6.alloc (.cells #[.string (str ch.path), .int .i64 ch.kind, .string (str ch.old), .string (str ch.new)] 59)
          have hrow := hown6.lt
          clear hown6
          by_cases hk0 : ch.kind ≠ 0
          · have n0 : (ch.kind != 0) = true := by rw [bne_iff_ne]; exact hk0
            have HC2 := Lib.hid (HTK.out.trans (by rw [if_pos hk0]))
            clear HTK
            go_wp2_with (at_builtin; refine wpList_append_lies _ (by rfl) _ _ 54 (by rfl) w5.heap.size 59 i0 _ 4 56 Tryz.underlying54 hi0 hz0 hz1 hz2 rfl (by omega) u9 cs.length _ (by rfl) (hown7.alloc _) ⟨w6.heap.size + 1, 0, none⟩ 1 1 [_, _, _, _] (by rfl) (by rfl) (World.news_of_block (cs := #[_, _, _, _]) (t := 59) (fr := (0, 0)) (by have := heap_alloc_new (w6.alloc (.cells #[.string (str ch.path), .int .i64 ch.kind, .string (str ch.old), .string (str ch.new)] 59)) (.cells #[.string (str ch.path), .int .i64 ch.kind, .string (str ch.old), .string (str ch.new)] 59); simpa using this)) (by simp [Value.oneCell']) (by omega) (by unfold maxLen; omega) (by omega) (by have := hb56.size; simp; omega) (w6.heap.size + 2) (by simp) ?_; intro gg cap w7 hown8 hgrow hat hlt7)
            have hb7 : Below w5.heap.size w5 w7 := grown_own0 (hbw.alloc hbw.size _) hgrow (fun q hq => (hrow q hq).1)
            rw [chs_snoc, ← HC2.out] at hown8
            have hcn2 : cs2.length = cs.length + 1 := by rw [HC2.out]; simp
            have hown9 : w7.ownsRow w5.heap.size 59 4 (.slice (some ⟨gg, 0, none⟩) (cs.length + 1) cap) cs2.length (chsOf cs2) := by
              rw [hcn2]; exact hown8
            clear hown8 hown7 hgrow hat hlt7 hrow hbw hb56
            have HN2 := Lib.hid hcn2
            clear hcn2
            go_wp2_with fail
            go_roundw
            case rel => exact ⟨k + 1, by omega, by go_num, by rw [HE2.out]; exact hown9, by rw [HE2.out]; have := HN2.out; omega, hb7⟩
            case measure => simp [intOf]; omega
          · have h0 : ch.kind = 0 := by simpa using hk0
            have n0 : (ch.kind != 0) = false := by rw [h0]; rfl
            have HC2 := Lib.hid (show cs2 = cs from HTK.out.trans (by rw [if_neg hk0, List.append_nil]))
            clear HTK hk0
            clear h0
            go_wp2_with fail
            go_roundw
            case rel => exact ⟨k + 1, by omega, by go_num, by rw [HE2.out, HC2.out]; exact hown7, by rw [HE2.out, HC2.out]; omega, hbw⟩
            case measure => simp [intOf]; omega
        · have b1 : decide ((k : Int) < ps.length) = false := by simp; omega
          have b1n : decide (k < ps.length) = false := by simp; omega
          rw [List.take_of_length_le (by omega)] at hown
          go_wp2_with fail
          go_ret2
          rw [HT2.out]
          exact ⟨_, rfl, hown.mono hb05.size, hb05.trans (hb.mono hb05.size)⟩
end Go.Proofs.YtinkpbobkeppiaaGreatDoor
