/- Below, Under of the reference. No condition but lengths. -/
import Derived.Test.YtlablbibdkcifaaGreatDoorRun
import Derived.Test.YtlablbibdkcifaaGreatDoorCnl
namespace Go.Proofs.YtlablbibdkcifaaGreatDoor
open Go.RowKit Go.Deep Tr

theorem below_def (p d : List UInt8) : Tre.below p d = (decide (d.length < p.length) && (p.take d.length == d) && (p[d.length]? == some 47)) := rfl
set_option maxHeartbeats 4000000 in
set_option maxRecDepth 100000 in
theorem qBelow_any (p d : ByteArray) (w : World) :
    Calls Tryz.prog 37 #[.string p, .string d] w fun e w' => e = .returned (.bool (Tre.below p.data.toList d.data.toList)) ∧ w = w' := by
  have HV := Lib.hid (below_def p.data.toList d.data.toList)
  generalize Tre.below p.data.toList d.data.toList = v at *
  rw [size_data, size_data] at HV
  by_cases hlt : d.size < p.size
  · have b0 : decide ((d.size : Int) < p.size) = true := by simp; omega
    have b0n : decide (d.size < p.size) = true := by simp; omega
    have hg := get_d p d.size hlt
    have hx : (p.extract 0 d.size).toList = p.data.toList.take d.size := by rw [ByteArray.toList_eq, ext_take, str_data]
    have hdl : d.toList = d.data.toList := ByteArray.toList_eq d
    by_cases he : p.data.toList.take d.size = d.data.toList
    · have b1 : ((p.extract 0 d.size).toList == d.toList) = true := by rw [beq_iff_eq, hx, hdl]; exact he
      by_cases hc : p[d.size] = 47
      · have b2 : ((p[d.size].toNat : Int) == 47) = true := by rw [beq_iff_eq, hc]; rfl
        have b2n : (p[d.size].toNat == 47) = true := by rw [beq_iff_eq, hc]; rfl
        have HT := Lib.hid (show v = true by rw [HV.out, hg, he, hc]; simp; exact hlt)
        clear HV hg hx hdl he hc
        go_enter Tryz.func37, Tryz.ntmps37
        go_wp2_with fail
        go_ret
        exact ⟨ret_bool HT.out.symm, rfl⟩
      · have hcn : p[d.size].toNat ≠ 47 := nat_ne (k := 47) hc
        have b2 : ((p[d.size].toNat : Int) == 47) = false := by rw [beq_eq_false_iff_ne]; omega
        have b2n : (p[d.size].toNat == 47) = false := by rw [beq_eq_false_iff_ne]; exact hcn
        have HT := Lib.hid (show v = false by rw [HV.out, hg]; simp [hc])
        clear HV hg hx hdl he hc hcn
        go_enter Tryz.func37, Tryz.ntmps37
        go_wp2_with fail
        go_ret
        exact ⟨ret_bool HT.out.symm, rfl⟩
    · have b1 : ((p.extract 0 d.size).toList == d.toList) = false := by rw [beq_eq_false_iff_ne, hx, hdl]; exact he
      have HT := Lib.hid (show v = false by rw [HV.out]; simp [he])
      clear HV hg hx hdl he
      go_enter Tryz.func37, Tryz.ntmps37
      go_wp2_with fail
      go_ret
      exact ⟨ret_bool HT.out.symm, rfl⟩
  · have b0 : decide ((d.size : Int) < p.size) = false := by simp; omega
    have b0n : decide (d.size < p.size) = false := by simp; omega
    have HT := Lib.hid (show v = false by rw [HV.out, b0n]; rfl)
    clear HV
    go_enter Tryz.func37, Tryz.ntmps37
    go_wp2_with fail
    go_ret
    exact ⟨ret_bool HT.out.symm, rfl⟩
namespace Ls
/-- The error of Under. -/
def uer (l : List Sp) : Int := if vld l = true then 2 else 1
theorem uer_t {l : List Sp} (h : vld l = true) : uer l = 2 := if_pos h
theorem uer_f {l : List Sp} (h : vld l = false) : uer l = 1 := if_neg (by rw [h]; decide)
end Ls
set_option maxHeartbeats 8000000 in
set_option maxRecDepth 100000 in
theorem qunder_any (l : List Ls.Sp) (d : List UInt8) (A : Option Addr) (c : Nat) (w : World) (hA : SetAt w A l) (hd : d.length ≤ 1000000) :
    Calls Tryz.prog 15 #[.slice A l.length c, .string (str d)] w (GotQ w (Ls.vld l && Tre.pathOk d) (Ls.und l d) (Ls.uer l)) := by
  obtain ⟨isp, hisp, hz0, hz1, hz2⟩ := info_parts infoSp
  have hva := qvalid_any l A c w hA.at_ (by have := hA.len; omega) hA.path
  have HA := Lib.hid hA
  have hll := hA.len
  clear hA
  go_enter Tryz.func15, Tryz.ntmps15
  go_wp2_with fail
  with_reducible refine hva.mono ?_
  clear hva
  rintro e w1 ⟨rfl, hb1⟩
  cases h1 : Ls.vld l with
  | false =>
    have H1 := Lib.hid h1
    clear h1
    go_wp2_with fail
    first | go_ret3 | go_ret2 | go_ret
    exact ⟨.inr ⟨by rw [H1.out]; rfl, by rw [Ls.uer_f H1.out]; rfl⟩, hb1⟩
  | true =>
    have H1 := Lib.hid h1
    clear h1
    have cc := qPath_any (str d) w1 (by rw [str_size]; omega)
    rw [str_data] at cc
    go_wp2_with fail
    with_reducible refine cc.mono ?_
    clear cc
    rintro e w2 ⟨rfl, rfl⟩
    cases h2 : Tre.pathOk d with
    | false =>
      have H2 := Lib.hid h2
      clear h2
      go_wp2_with fail
      first | go_ret3 | go_ret2 | go_ret
      exact ⟨.inr ⟨by rw [H1.out, H2.out]; rfl, by rw [Ls.uer_t H1.out]; rfl⟩, hb1⟩
    | true =>
      have H2 := Lib.hid h2
      have HO0 := Lib.hid (own_emptyL w1 w1.heap.size (Nat.le_refl _) 32 3)
      have HBE := Lib.hid (show Below w1.heap.size w1 (w1.alloc (.cells #[] 32)) from (Below.refl _ _).alloc (Nat.le_refl _) _)
      have HB1 := Lib.hid hb1
      have HAA := Lib.hid (HA.out.next hb1).at_
      clear h2 hb1
      go_wp2_with fail
      go_loopw [6, 7] (fun s6 s7 wr => ∃ k : Nat, s7 = .int .i64 k ∧ k ≤ l.length ∧ wr.ownsRow w1.heap.size 32 3 s6 (Ls.und (l.take k) d).length (Ls.spsV (Ls.und (l.take k) d)) ∧ Below w1.heap.size w1 wr) (fun _ s7 _ => l.length - (intOf s7).toNat)
      case atStart => exact ⟨0, rfl, by omega, HO0.out, HBE.out⟩
      case round =>
        clear HO0 HBE
        obtain ⟨k, rfl, hk, hown, hb⟩ := hrel
        by_cases hlt : k < l.length
        · have b1 : decide ((k : Int) < (l.length : Int)) = true := decide_eq_true (by omega)
          have b1n : decide (k < l.length) = true := decide_eq_true hlt
          have y3 : (k : Int) < (l.length : Int) := by omega
          obtain ⟨g, o, rfl, hg, hc⟩ := HAA.out k hlt
          have HUT := Lib.hid (Ls.und_take l d k hlt)
          have hul := Ls.und_len (l.take k) d
          rw [List.length_take] at hul
          have d0 := (hb.cell (p := ⟨g, o + k * 3, none⟩) hg).trans (hc 0 _ rfl)
          have d1 := (hb.cell (p := ⟨g, o + k * 3 + 1, none⟩) hg).trans (hc 1 _ rfl)
          have d2 := (hb.cell (p := ⟨g, o + k * 3 + 2, none⟩) hg).trans (hc 2 _ rfl)
          clear hc
          generalize l[k] = s at *
          generalize Ls.und (l.take k) d = U at *
          have hUl : U.length ≤ 1000000 := by omega
          clear hul
          have cb := qBelow_any (str s.path) (str d) wr
          rw [str_data, str_data, show Tre.below s.path d = Lib.hasPrefix s.path (d ++ [47]) from (Ls.pre_slash s.path d).symm] at cb
          have hwX := hb.size
          obtain ⟨A6, c6, rfl, hc6, hm6, _⟩ := Ls.own_el Ls.spV 3 Ls.spV_len hown
          go_wp2_with fail
          with_reducible refine cb.mono ?_
          clear cb
          rintro e w' ⟨rfl, rfl⟩
          cases hh : Lib.hasPrefix s.path (d ++ [47]) with
          | false =>
            have HU := Lib.hid (show Ls.und (l.take (k + 1)) d = U by rw [HUT.out, if_neg (by rw [hh]; decide), List.append_nil])
            have HO := Lib.hid hown
            have H6 := Lib.hid hb
            clear hh HUT hown hb d0 d1 d2
            go_wp2_with fail
            go_roundw
            case rel => exact ⟨k + 1, by go_num, by omega, by rw [HU.out]; exact HO.out, H6.out⟩
            case measure => simp [intOf]; omega
          | true =>
            have HU := Lib.hid (show Ls.und (l.take (k + 1)) d = U ++ [s] by rw [HUT.out, if_pos hh])
            clear hh HUT
            go_wp2_with (at_builtin; refine wpList_append_lies _ (by rfl) _ _ 23 (by rfl) w1.heap.size 32 isp _ 3 32 Tryz.underlying23 hisp hz0 hz1 hz2 rfl (by omega) (.slice A6 U.length c6) U.length _ (by rfl) (hown.alloc _) ⟨wr.heap.size, 0, none⟩ 1 1 [_, _, _] (by rfl) (by rfl) (World.news_of_block (cs := #[_, _, _]) (t := 32) (fr := (0, 0)) (heap_alloc_new wr _)) (by simp [Value.oneCell']) (by omega) (by unfold maxLen; omega) (by omega) (by simp; omega) (wr.heap.size + 1) (by simp) ?_; intro gg cap w6 hown6 hgrow hat hlt6)
            have hb6 := below_grown (hb.alloc (by omega) _) (by simp; omega) (hown.alloc _) hgrow
            have HO := Lib.hid hown6
            have H6 := Lib.hid hb6
            clear hown6 hb6 hgrow hat hlt6 hown hb d0 d1 d2
            go_roundw
            case rel => exact ⟨k + 1, by go_num, by omega, by rw [HU.out, Ls.spsV_app, Ls.spsV_one, List.length_append, List.length_singleton]; exact HO.out, H6.out⟩
            case measure => simp [intOf]; omega
        · have b1 : decide ((k : Int) < (l.length : Int)) = false := decide_eq_false (by omega)
          have b1n : decide (k < l.length) = false := decide_eq_false hlt
          rw [List.take_of_length_le (show l.length ≤ k by omega)] at hown
          obtain ⟨A3, c3, rfl, o5⟩ := own_sp hown
          have HP := Lib.hid o5
          have HB := Lib.hid (HB1.out.trans (hb.mono HB1.out.size))
          clear hown o5 hb
          go_wp2_with fail
          first | go_ret2 | go_ret
          exact ⟨.inl ⟨by rw [H1.out, H2.out]; rfl, A3, c3, rfl, HP.out⟩, HB.out⟩
end Go.Proofs.YtlablbibdkcifaaGreatDoor
