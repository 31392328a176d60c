/- Of of the program, at valid lines. Condition: bytealg's MaxLen lies in its variable. -/
import Derived.Test.YtlablbibdkcifaaGreatDoorUni
namespace Go.Proofs.YtlablbibdkcifaaGreatDoor
open Go.RowKit Go.Deep Tr

namespace Ls
def lnS (x : LN × Int) : Sp := ⟨x.1, x.2, x.2 + 1⟩
theorem has_lnS (L : List (LN × Int)) (p : LN) (m : Int) : has (L.map lnS) p m = decide ((p, m) ∈ L) := by
  rw [Bool.eq_iff_iff, has_iff, decide_eq_true_eq]
  constructor
  · rintro ⟨s, hs, h1, h2, h3⟩
    obtain ⟨x, hx, rfl⟩ := List.mem_map.1 hs
    have e : x = (p, m) := Prod.ext h1 (by show x.2 = m; change x.2 ≤ m at h2; change m < x.2 + 1 at h3; omega)
    rwa [← e]
  · intro h
    exact ⟨lnS (p, m), List.mem_map.2 ⟨_, h, rfl⟩, rfl, Int.le_refl _, by show m < m + 1; omega⟩
theorem set3_take (xs : List Value) (k : Nat) (a b c : Value) (h : k * 3 + 3 ≤ xs.length) : (((xs.set (k * 3) a).set (k * 3 + 1) b).set (k * 3 + 2) c).take ((k + 1) * 3) = xs.take (k * 3) ++ [a, b, c] := by
  apply List.ext_getElem?
  intro j
  by_cases h1 : j < k * 3
  · rw [List.getElem?_take_of_lt (by omega), List.getElem?_append_left (by simp; omega), List.getElem?_take_of_lt h1, List.getElem?_set_ne (by omega), List.getElem?_set_ne (by omega), List.getElem?_set_ne (by omega)]
  · rw [List.getElem?_append_right (by simp; omega), List.length_take, Nat.min_eq_left (by omega)]
    by_cases h2 : j < (k + 1) * 3
    · rw [List.getElem?_take_of_lt h2]
      rcases (show j = k * 3 ∨ j = k * 3 + 1 ∨ j = k * 3 + 2 by omega) with rfl | rfl | rfl
      · rw [List.getElem?_set_ne (by omega), List.getElem?_set_ne (by omega), List.getElem?_set_self (by omega)]; simp
      · rw [List.getElem?_set_ne (by omega), List.getElem?_set_self (by simp; omega)]; simp
      · rw [List.getElem?_set_self (by simp; omega)]; simp
    · rw [List.getElem?_take_eq_none (by omega), List.getElem?_eq_none (by simp; omega)]
theorem spsV_lnS (L : List (LN × Int)) (k : Nat) (h : k < L.length) : spsV ((L.take (k + 1)).map lnS) = spsV ((L.take k).map lnS) ++ [.string (str L[k].1), .int .i64 L[k].2, .int .i64 (L[k].2 + 1)] := by
  rw [List.take_succ_eq_append_getElem h, List.map_append, spsV_app]
  rfl
end Ls
/-- What Of leaves, of valid lines. -/
def GotOf (w : World) (L : List (List UInt8 × Int)) : Ending → World → Prop := fun e w' => ∃ out A c, e = .returned (.tuple #[.slice A out.length c, .int .i64 0]) ∧ (Ls.Valid out ∧ (∀ p m, Ls.has out p m = decide ((p, m) ∈ L)) ∧ out.length ≤ 2 * L.length) ∧ Ls.SpAt w' w'.heap.size A out ∧ Below w.heap.size w w'
theorem ofF_any (x y : Bool) (w : World) : Calls Tryz.prog 50 #[.bool x, .bool y] w fun e w' => e = .returned (.bool ((fun x _ => x) x y)) ∧ w = w' := by
  go_enter Tryz.func50, Tryz.ntmps50
  go_wp2_with fail
  go_ret
  exact ⟨rfl, rfl⟩
set_option maxHeartbeats 8000000 in
set_option maxRecDepth 100000 in
theorem of_any (L : List (List UInt8 × Int)) (A : Option Addr) (c : Nat) (w : World) (hA : Ls.LnAt w w.heap.size A L) (hl : L.length ≤ 100000) (hok : ∀ x ∈ L, Tre.pathOk x.1 = true ∧ 0 ≤ x.2 ∧ x.2 < 1024) (hM : MaxAt w) :
    Calls Tryz.prog 25 #[.slice A L.length c] w (GotOf w L) := by
  obtain ⟨isp, hisp, hz0, hz1, hz2⟩ := info_parts infoSp
  obtain ⟨w1, hrun, hown1, hg1⟩ := run_makeSlice_full (P := Tryz.prog) (w := w) w.heap.size 23 32 isp _ 3 Tryz.underlying23 hisp hz0 hz1 .i64 .i64 L.length (by omega) (by rw [hz2]; omega) (by unfold maxLen; omega) (Nat.le_refl _)
  have hb1 : Below w.heap.size w w1 := ⟨hg1.os, hg1.tape, hg1.output, hg1.size, fun k hk => hg1.block k hk (by simp)⟩
  have HAA := Lib.hid hA
  have HOK := Lib.hid hok
  have HM := Lib.hid hM
  have hml : (madeCells (Value.agg #[.string ⟨#[]⟩, .int .i64 0, .int .i64 0]).cells (L.length * 3)).toList.length = L.length * 3 := by rw [Array.length_toList, size_madeCells]
  generalize (madeCells (Value.agg #[.string ⟨#[]⟩, .int .i64 0, .int .i64 0]).cells (L.length * 3)).toList = Z at *
  clear hA hok hM hg1
  go_enter Tryz.func25, Tryz.ntmps25
  go_wp2_with fail
  clear hrun
  go_loopw [12] (fun s12 wr => ∃ (k : Nat) (xs : List Value), s12 = .int .i64 k ∧ k ≤ L.length ∧ wr.ownsRow w.heap.size 32 3 (.slice (some ⟨w.heap.size, 0, none⟩) L.length L.length) L.length xs ∧ xs.length = L.length * 3 ∧ xs.take (k * 3) = Ls.spsV ((L.take k).map Ls.lnS) ∧ Below w.heap.size w wr) (fun s12 _ => L.length - (intOf s12).toNat)
  case atStart => exact ⟨0, Z, rfl, by omega, hown1, hml, by simp [Ls.spsV], hb1⟩
  case round =>
    clear hown1 hml hb1
    obtain ⟨k, xs, rfl, hk, hown, hxl, hxt, hb⟩ := hrel
    by_cases hlt : k < L.length
    · have b1 : decide ((k : Int) < (L.length : Int)) = true := decide_eq_true (by omega)
      have b1n : decide (k < L.length) = true := decide_eq_true hlt
      obtain ⟨g, o, rfl, hg, hc⟩ := HAA.out k hlt
      have hokk := HOK.out L[k] (List.getElem_mem hlt)
      have HT := Lib.hid (Ls.spsV_lnS L k hlt)
      have HXT := Lib.hid hxt
      have HXL := Lib.hid hxl
      have hd0 := (hb.cell (p := ⟨g, o + k * 2, none⟩) hg).trans (hc 0 _ rfl)
      have hd1 := (hb.cell (p := ⟨g, o + k * 2 + 1, none⟩) hg).trans (hc 1 _ rfl)
      clear hc hxt
      generalize L[k] = x at *
      obtain ⟨p, n⟩ := x
      dsimp only at hokk hd0 hd1
      obtain ⟨hpo, hn0, hn1⟩ := hokk
      have hpl : p.length ≤ 128 := by
        unfold Tre.pathOk at hpo
        simp only [Bool.and_eq_true, decide_eq_true_eq] at hpo
        exact hpo.1.1
      have hN := heap_alloc_new wr (.cells #[.string (str p), .int .i64 n] 44)
      have hbX : Below w.heap.size w (wr.alloc (.cells #[.string (str p), .int .i64 n] 44)) := hb.alloc hb.size _
      have hoX := hown.alloc (.cells #[.string (str p), .int .i64 n] 44)
      go_upto_region 5 with (fail)
      clear hd0 hd1 hb hown
      generalize wr.alloc (.cells #[.string (str p), .int .i64 n] 44) = X at *
      generalize wr.heap.size = q at *
      have e0 : X.cell? ⟨q, 0, none⟩ = some (.string (str p)) := by rw [cell_of_row _ _ _ _ _ _ hN]; rfl
      have hpath := path_any (str p) X (by rw [str_size]; omega) (HM.out.below hbX)
      rw [show Tre.path (str p).data.toList = (if Tre.pathOk p = true then 0 else 2 : Int) from rfl, if_pos hpo] at hpath
      go_wp2_with fail
      with_reducible refine hpath.mono ?_
      clear hpath e0
      rintro e w3 ⟨rfl, hb3⟩
      have hb03 := hbX.trans (hb3.mono hbX.size)
      have hN3 := (hb3.block _ (blk_lt hN)).trans hN
      have ho3 := own_below hoX hb3
      clear hbX hb3 hN hoX
      have e0 : w3.cell? ⟨q, 0, none⟩ = some (.string (str p)) := by rw [cell_of_row _ _ _ _ _ _ hN3]; rfl
      have e1 : w3.cell? ⟨q, 1, none⟩ = some (.int .i64 n) := by rw [cell_of_row _ _ _ _ _ _ hN3]; rfl
      have wn : IntKind.i64.wrap (n + 1) = n + 1 := IntWalk.i64_in _ (by omega)
      have hsp := isSpan_any n (n + 1) w3
      rw [(Ls.isSp_iff n (n + 1)).2 (by omega)] at hsp
      have y1 : (0 : Int) ≤ (k : Int) := by omega
      have y2 : (k : Int) < (L.length : Int) := by omega
      have hxk : k * 3 + 3 ≤ xs.length := by omega
      have st1 := ho3.stored (k * 3) (.string (str p))
      have st2 := st1.1.stored (k * 3 + 1) (.int .i64 n)
      have st3 := st2.1.stored (k * 3 + 2) (.int .i64 (n + 1))
      have hgB : w.heap.size ≤ w.heap.size := Nat.le_refl _
      have HB3 := Lib.hid (((hb03.setCell (p := ⟨w.heap.size, k * 3, none⟩) hgB (.string (str p))).setCell (p := ⟨w.heap.size, k * 3 + 1, none⟩) hgB (.int .i64 n)).setCell (p := ⟨w.heap.size, k * 3 + 2, none⟩) hgB (.int .i64 (n + 1)))
      have HO3 := Lib.hid st3.1
      have c0 := ho3.cellAt (k * 3) (by omega)
      have c1 := ho3.cellAt (k * 3 + 1) (by omega)
      have c2 := ho3.cellAt (k * 3 + 2) (by omega)
      rw [List.getElem?_eq_getElem (by omega)] at c0 c1 c2
      have f0 := ho3.frozenAt (k * 3)
      have f1 := ho3.frozenAt (k * 3 + 1)
      have f2 := ho3.frozenAt (k * 3 + 2)
      clear st1 st2 st3 ho3 hb03 hpo hpl
      go_wp2_with fail
      with_reducible refine hsp.mono ?_
      clear hsp
      rintro e w4 ⟨rfl, rfl⟩
      go_wp2_with fail
      go_roundw
      case rel => exact ⟨k + 1, _, by go_num, by omega, HO3.out, by simp; exact HXL.out, by rw [Ls.set3_take _ _ _ _ _ hxk, HXT.out, HT.out], HB3.out⟩
      case measure => simp [intOf]; omega
    · have b1 : decide ((k : Int) < (L.length : Int)) = false := decide_eq_false (by omega)
      have b1n : decide (k < L.length) = false := decide_eq_false hlt
      obtain rfl : k = L.length := by omega
      go_wp2_with fail
      rw [List.take_length, List.take_of_length_le (by omega)] at hxt
      subst hxt
      have hlm : (L.map Ls.lnS).length = L.length := List.length_map ..
      have hown2 : wr.ownsRow w.heap.size 32 3 (.slice (some ⟨w.heap.size, 0, none⟩) L.length L.length) (L.map Ls.lnS).length (Ls.spsV (L.map Ls.lnS)) := by rw [hlm]; exact hown
      obtain ⟨A3, c3, he, hS⟩ := own_sp hown2
      injection he with he hem hec
      clear hem
      subst he hec
      have hch := choose_any (fun x _ => x) rfl 50 (fun _ _ w => run_enter Tryz.func50 (by kernel_rfl) (by kernel_rfl) _ w) ofF_any (L.map Ls.lnS) [] (some ⟨w.heap.size, 0, none⟩) none L.length 0 wr hS (Ls.ElAt.nil _ _ _ _ _) (by omega) (Nat.zero_le _) (fun s hs => by
        rcases hs with hs | hs
        · obtain ⟨x, hx, rfl⟩ := List.mem_map.1 hs
          have := HOK.out x hx
          exact ⟨this.1, this.2.1, by show x.2 + 1 ≤ 1024; omega, by show x.2 < x.2 + 1; omega⟩
        · cases hs)
      rw [hlm, List.length_nil] at hch
      clear hown hown2 hS hlm hxl b1 b1n hk
      with_reducible refine hch.mono ?_
      clear hch
      rintro e w5 ⟨out, v, rfl, o1, o2, o3, o4, hb5⟩
      obtain ⟨A5, c5, rfl, o5⟩ := own_sp o4
      have H1 := Lib.hid o1
      have H2 := Lib.hid (show ∀ p m, Ls.has out p m = decide ((p, m) ∈ L) from fun p m => by rw [o2 p m, Ls.has_lnS])
      have H3 := Lib.hid (show out.length ≤ 2 * L.length by rw [List.length_map] at o3; simpa using o3)
      have H5 := Lib.hid o5
      have H6 := Lib.hid (hb.trans (hb5.mono hb.size))
      clear o1 o2 o3 o4 o5 hb5 hb
      go_wp2_with fail
      first | go_ret2 | go_ret
      exact ⟨out, A5, c5, rfl, ⟨H1.out, H2.out, H3.out⟩, H5.out, H6.out⟩
end Go.Proofs.YtlablbibdkcifaaGreatDoor
