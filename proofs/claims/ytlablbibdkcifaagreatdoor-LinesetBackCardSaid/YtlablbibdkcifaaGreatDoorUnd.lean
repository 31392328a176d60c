/- Under of the program. Condition: bytealg's MaxLen lies in its variable. -/
import Derived.Test.YtlablbibdkcifaaGreatDoorPrn
namespace Go.Proofs.YtlablbibdkcifaaGreatDoor
open Go.RowKit Go.Deep Tr

namespace Ls
def und (l : List Sp) (d : LN) : List Sp := l.filter fun s => Lib.hasPrefix s.path (d ++ [47])
theorem und_take (l : List Sp) (d : LN) (k : Nat) (h : k < l.length) : und (l.take (k + 1)) d = und (l.take k) d ++ (if Lib.hasPrefix l[k].path (d ++ [47]) = true then [l[k]] else []) := by
  unfold und
  rw [List.take_succ_eq_append_getElem h, List.filter_append]
  congr 1
  by_cases hp : Lib.hasPrefix l[k].path (d ++ [47]) = true
  · rw [if_pos hp]; simp [hp]
  · rw [if_neg hp]; simp [hp]
theorem und_len (l : List Sp) (d : LN) : (und l d).length ≤ l.length := List.length_filter_le _ _
end Ls
/-- What Under leaves. -/
def GotUn (w : World) (l : List Ls.Sp) (d : List UInt8) : Ending → World → Prop := fun e w' => ((Tre.pathOk d = true ∧ ∃ A c, e = .returned (.tuple #[.slice A (Ls.und l d).length c, .int .i64 0]) ∧ Ls.SpAt w' w'.heap.size A (Ls.und l d)) ∨ (Tre.pathOk d = false ∧ e = .returned (.tuple #[.slice none 0 0, .int .i64 2]))) ∧ Below w.heap.size w w'
set_option maxHeartbeats 8000000 in
set_option maxRecDepth 100000 in
theorem under_any (l : List Ls.Sp) (d : List UInt8) (A : Option Addr) (c : Nat) (w : World) (hA : SetAt w A l) (hv : Ls.vld l = true) (hM : MaxAt w) (hd : d.length ≤ 1000000) :
    Calls Tryz.prog 11 #[.slice A l.length c, .string (str d)] w (GotUn w l d) := by
  obtain ⟨isp, hisp, hz0, hz1, hz2⟩ := info_parts infoSp
  have hva := valid_any l A c w hA.at_ (by have := hA.len; omega) hA.path hM
  rw [hv] at hva
  have HAA := Lib.hid hA.at_
  have HPP := Lib.hid hA.path
  have hll := hA.len
  have HMM := Lib.hid hM
  clear hA hM hv
  go_enter Tryz.func11, Tryz.ntmps11
  go_wp2_with fail
  with_reducible refine hva.mono ?_
  clear hva
  rintro e w1 ⟨rfl, hb1⟩
  have hpath := path_any (str d) w1 (by rw [str_size]; omega) (HMM.out.below hb1)
  rw [show Tre.path (str d).data.toList = (if Tre.pathOk d = true then 0 else 2 : Int) from rfl] at hpath
  go_wp2_with fail
  with_reducible refine hpath.mono ?_
  clear hpath
  rintro e w2 ⟨rfl, hb2⟩
  have hb02 := hb1.trans (hb2.mono hb1.size)
  by_cases hok : Tre.pathOk d = true
  · have HOK := Lib.hid hok
    have HB0 := Lib.hid hb02
    rw [if_pos hok]
    clear hok hb1 hb2
    have hds := str_size d
    have n1 : ¬ 9223372036854775807 < (str d).size + 1 := by omega
    have HDS := Lib.hid hds
    clear hds
    go_wp2_with fail
    go_loopw [6, 17] (fun s6 s17 wr => ∃ k : Nat, s17 = .int .i64 k ∧ k ≤ l.length ∧ wr.ownsRow w2.heap.size 32 3 s6 (Ls.und (l.take k) d).length (Ls.spsV (Ls.und (l.take k) d)) ∧ Below w2.heap.size w2 wr) (fun _ s17 _ => l.length - (intOf s17).toNat)
    case atStart => exact ⟨0, rfl, by omega, World.ownsRow_nil _ _ _ _, Below.refl _ _⟩
    case round =>
      obtain ⟨k, rfl, hk, hown, hb⟩ := hrel
      by_cases hlt : k < l.length
      · have b1 : decide ((k : Int) < (l.length : Int)) = true := decide_eq_true (by omega)
        have b1n : decide (k < l.length) = true := decide_eq_true hlt
        obtain ⟨g, o, rfl, hg, hc⟩ := HAA.out k hlt
        have HUT := Lib.hid (Ls.und_take l d k hlt)
        have hul := Ls.und_len (l.take k) d
        rw [List.length_take] at hul
        have hbw := HB0.out.trans (hb.mono HB0.out.size)
        have hd0 := (hbw.cell (p := ⟨g, o + k * 3, none⟩) hg).trans (hc 0 _ rfl)
        have hd1 := (hbw.cell (p := ⟨g, o + k * 3 + 1, none⟩) hg).trans (hc 1 _ rfl)
        have hd2 := (hbw.cell (p := ⟨g, o + k * 3 + 2, none⟩) hg).trans (hc 2 _ rfl)
        clear hc
        generalize l[k] = s at *
        generalize Ls.und (l.take k) d = U at *
        have hUl : U.length ≤ 100000 := by omega
        clear hul
        have hN := heap_alloc_new wr (.cells #[.string (str s.path), .int .i64 s.lo, .int .i64 s.hi] 32)
        have hbX : Below w2.heap.size w2 (wr.alloc (.cells #[.string (str s.path), .int .i64 s.lo, .int .i64 s.hi] 32)) := hb.alloc hb.size _
        have hoX := hown.alloc (.cells #[.string (str s.path), .int .i64 s.lo, .int .i64 s.hi] 32)
        go_upto_region 9 with (fail)
        clear hd0 hd1 hd2 hb hown hbw
        generalize wr.alloc (.cells #[.string (str s.path), .int .i64 s.lo, .int .i64 s.hi] 32) = X at *
        generalize wr.heap.size = q at *
        have e0 : X.cell? ⟨q, 0, none⟩ = some (.string (str s.path)) := by rw [cell_of_row _ _ _ _ _ _ hN]; rfl
        have e1 : X.cell? ⟨q, 1, none⟩ = some (.int .i64 s.lo) := by rw [cell_of_row _ _ _ _ _ _ hN]; rfl
        have e2 : X.cell? ⟨q, 2, none⟩ = some (.int .i64 s.hi) := by rw [cell_of_row _ _ _ _ _ _ hN]; rfl
        have hpre := Tryz.strings_HasPrefix (str s.path) (str d ++ ⟨#[47]⟩) X
        rw [show (str s.path).data.toList = s.path from rfl, show (str d ++ ⟨#[47]⟩ : ByteArray).data.toList = d ++ [47] by rw [show (⟨#[47]⟩ : ByteArray) = str [47] from rfl, str_appL]; rfl] at hpre
        have hwX := hbX.size
        obtain ⟨A6, c6, rfl, hc6, hm6, _⟩ := Ls.own_el Ls.spV 3 Ls.spV_len hoX
        go_wp2_with fail
        with_reducible refine hpre.mono ?_
        clear hpre
        rintro e w' ⟨rfl, rfl⟩
        cases hh : Lib.hasPrefix s.path (d ++ [47]) with
        | false =>
          have HU := Lib.hid (show Ls.und (l.take (k + 1)) d = U by rw [HUT.out, if_neg (by rw [hh]; decide), List.append_nil])
          clear hh HUT e0 e1 e2
          go_wp2_with fail
          go_roundw
          case rel => exact ⟨k + 1, by go_num, by omega, by rw [HU.out]; exact hoX, hbX⟩
          case measure => simp [intOf]; omega
        | true =>
          have HU := Lib.hid (show Ls.und (l.take (k + 1)) d = U ++ [s] by rw [HUT.out, if_pos hh])
          clear hh HUT
          go_wp2_with (at_builtin; refine wpList_append_lies _ (by rfl) _ _ 23 (by rfl) w2.heap.size 32 isp _ 3 32 Tryz.underlying23 hisp hz0 hz1 hz2 rfl (by omega) (.slice A6 U.length c6) U.length _ (by rfl) (hoX.alloc _) ⟨w'.heap.size, 0, none⟩ 1 1 [_, _, _] (by rfl) (by rfl) (World.news_of_block (cs := #[_, _, _]) (t := 32) (fr := (0, 0)) (heap_alloc_new w' _)) (by simp [Value.oneCell']) (by omega) (by unfold maxLen; omega) (by omega) (by simp; omega) (w'.heap.size + 1) (by simp) ?_; intro gg cap w6 hown6 hgrow hat hlt6)
          have hb6 := below_grown (hbX.alloc (by omega) _) (by simp; omega) (hoX.alloc _) hgrow
          have HO := Lib.hid hown6
          have H6 := Lib.hid hb6
          clear hown6 hb6 hgrow hat hlt6 e0 e1 e2
          go_roundw
          case rel => exact ⟨k + 1, by go_num, by omega, by rw [HU.out, Ls.spsV_app, Ls.spsV_one, List.length_append, List.length_singleton]; exact HO.out, H6.out⟩
          case measure => simp [intOf]; omega
      · have b1 : decide ((k : Int) < (l.length : Int)) = false := decide_eq_false (by omega)
        have b1n : decide (k < l.length) = false := decide_eq_false hlt
        rw [List.take_of_length_le (show l.length ≤ k by omega)] at hown
        obtain ⟨A3, c3, rfl, o5⟩ := own_sp hown
        have HP := Lib.hid o5
        have HB := Lib.hid (HB0.out.trans (hb.mono HB0.out.size))
        clear hown o5 hb
        go_wp2_with fail
        first | go_ret2 | go_ret
        exact ⟨.inl ⟨HOK.out, A3, c3, rfl, HP.out⟩, HB.out⟩
  · have HOK := Lib.hid (show Tre.pathOk d = false by simpa using hok)
    have HB := Lib.hid hb02
    rw [if_neg hok]
    clear hok hb02 hb1 hb2
    go_wp2_with fail
    first | go_ret2 | go_ret
    exact ⟨.inr ⟨HOK.out, rfl⟩, HB.out⟩
end Go.Proofs.YtlablbibdkcifaaGreatDoor
