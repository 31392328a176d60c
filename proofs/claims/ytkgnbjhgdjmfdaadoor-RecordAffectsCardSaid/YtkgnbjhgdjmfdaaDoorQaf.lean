/- Affected of the reference. No condition but the lengths. -/
import Derived.Test.YtkgnbjhgdjmfdaaDoorAf2
import Derived.Test.YtkgnbjhgdjmfdaaDoorApp
import Derived.Test.YtkgnbjhgdjmfdaaDoorQst
import Derived.BigQuiet
namespace Go.Proofs.YtkgnbjhgdjmfdaaDoor
open Go.RowKit Go.Deep Tr

namespace Rc
theorem aft_len1 (r : List Dn) (ps : List (List UInt8)) : ∀ k, (aft r ps k).1.length ≤ ps.length + k
  | 0 => Nat.le_refl _
  | k + 1 => by
    have ih := aft_len1 r ps k
    cases h : r[k]? with
    | none =>
      have : aft r ps (k + 1) = aft r ps k := by
        show (match r[k]? with | some s => if hitB (aft r ps k).1 s then ((aft r ps k).1 ++ [s.wr.pth], (aft r ps k).2 ++ [k]) else aft r ps k | none => aft r ps k) = _
        rw [h]
      rw [this]; omega
    | some s =>
      rw [aft_succ h]
      by_cases hh : hitB (aft r ps k).1 s = true
      · rw [if_pos hh]; simp; omega
      · rw [if_neg hh]; omega
theorem any_swap (C : List (List UInt8)) (s : Dn) : (C.any fun c => among s.rds s.rds.length c) = hitB C s := by
  rw [Bool.eq_iff_iff]
  unfold hitB among
  rw [List.take_length, List.any_eq_true, List.any_eq_true]
  constructor
  · rintro ⟨c, hc, h⟩
    obtain ⟨t, ht, e⟩ := List.any_eq_true.1 h
    exact ⟨t, ht, List.contains_iff_mem.2 (by rw [beq_iff_eq] at e; rw [e]; exact hc)⟩
  · rintro ⟨t, ht, h⟩
    exact ⟨t.pth, List.contains_iff_mem.1 h, List.any_eq_true.2 ⟨t, ht, by simp⟩⟩
end Rc
set_option maxHeartbeats 8000000 in
set_option maxRecDepth 100000 in
theorem qaffected_any (r : List Dn) (ps : List (List UInt8)) (A P : Option Addr) (c d : Nat) (w : World) (hA : RcAt w A r) (hP : Rc.StAt w w.heap.size P ps) (hS : r.length ≤ 1024 → Sht r) (hps : ps.length ≤ 100000) :
    Calls Tryd.prog 20 #[.slice A r.length c, .slice P ps.length d] w (GotN w (fun L => L = affL r ps)) := by
  have HA := Lib.hid hA
  have HPA := Lib.hid hP
  have hb0 : Below w.heap.size w (w.alloc (.cells #[] 3)) := (Below.refl _ _).alloc (Nat.le_refl _) _
  have cc := qcheck_any r A c (w.alloc (.cells #[] 3)) (hA.next hb0) hS
  have hO0 := own_emptyR w w.heap.size (Nat.le_refl _) 3 1
  have HB0 := Lib.hid hb0
  have HO0 := Lib.hid hO0
  by_cases hz : Rc.chk r = 0
  · rw [hz] at cc
    have HV := Lib.hid (show affL r ps = (Rc.aft r ps r.length).2 from by unfold affL; rw [if_pos hz])
    have hL := (Rc.zero_chk hz).1
    clear hA hS hz hP hb0 hO0
    go_enter Tryd.func20, Tryd.ntmps20
    go_wp2_with fail
    with_reducible refine cc.mono ?_
    clear cc
    rintro e w1 ⟨rfl, hb1⟩
    have hb1' := HB0.out.trans (hb1.mono HB0.out.size)
    have HO1 := Lib.hid (own_below HO0.out hb1)
    have HB1 := Lib.hid hb1'
    have hba : Below w1.heap.size w1 (w1.alloc (.cells #[] 9)) := (Below.refl _ _).alloc (Nat.le_refl _) _
    have HPA1 := Lib.hid ((HPA.out.next hb1').next hba)
    have HO2 := Lib.hid (own_below HO1.out hba)
    have HE2 := Lib.hid (own_emptyR w1 w.heap.size hb1'.size 9 1)
    have HB2 := Lib.hid (hb1'.trans (hba.mono hb1'.size))
    clear hb1 hb1' hba HO0 HB0 HO1 HB1
    obtain ⟨v6, w6, hrun, hown6, hg6⟩ := app_st 33 (w1.alloc (.cells #[] 9)) w.heap.size (.slice (some ⟨w1.heap.size, 0, none⟩) 0 0) [] ps HE2.out P d HPA1.out HB2.out.size (by simp; omega)
    rw [List.nil_append] at hown6
    have HO6 := Lib.hid (own_grown HO2.out HE2.out (by decide) hg6)
    have HB6 := Lib.hid (HB2.out.trans (below_own HE2.out HB2.out.size hg6))
    have HC6 := Lib.hid hown6
    clear hg6 hown6 HO2 HE2 HPA1 HB2
    go_wp2_with (at_builtin; refine Lib.wpList_append_run _ rfl _ _ _ _ rfl _ _ rfl rfl _ _ hrun ?_)
    clear hrun
    go_loopw [5, 6, 7] (fun s5 s6 s7 wr => ∃ k : Nat, s7 = .int .i64 k ∧ k ≤ r.length ∧ wr.ownsRow w.heap.size 3 1 s5 (Rc.aft r ps k).2.length (Rc.insV (Rc.nats (Rc.aft r ps k).2)) ∧ wr.ownsRow w.heap.size 9 1 s6 (Rc.aft r ps k).1.length (Rc.stsV (Rc.aft r ps k).1) ∧ Below w.heap.size w wr) (fun _ _ s7 _ => r.length - (intOf s7).toNat)
    case atStart => exact ⟨0, rfl, Nat.zero_le _, HO6.out, HC6.out, HB6.out⟩
    case round =>
      clear HO6 HC6 HB6
      obtain ⟨w00, hw00⟩ : ∃ x : World, x = wr := ⟨wr, rfl⟩
      subst hw00
      obtain ⟨k, rfl, hk, hO5, hO6, hb⟩ := hrel
      have hl1 := Rc.aft_len1 r ps k
      have hl2 := Rc.aft_len r ps k
      by_cases hlt : k < r.length
      · have c1 : decide ((k : Int) < (r.length : Int)) = true := decide_eq_true (by omega)
        have c1n : decide (k < r.length) = true := decide_eq_true hlt
        have y1 : (k : Int) < (r.length : Int) := by omega
        have HAS := Lib.hid (Rc.aft_succ (r := r) (ps := ps) (k := k) (List.getElem?_eq_getElem hlt))
        obtain ⟨g0, o, rfl, hg, hc⟩ := HA.out.st k hlt
        have HC := Lib.hid hc
        have HRD := Lib.hid (HA.out.rd r[k] (List.getElem_mem hlt))
        have htl := HA.out.tl r[k] (List.getElem_mem hlt)
        clear hc
        obtain ⟨CS, hCS⟩ : ∃ CS, CS = (Rc.aft r ps k).1 := ⟨_, rfl⟩
        obtain ⟨OL, hOL⟩ : ∃ OL, OL = (Rc.aft r ps k).2 := ⟨_, rfl⟩
        rw [← hCS] at hO6 HAS hl1
        rw [← hOL] at hO5 HAS hl2
        generalize r[k] = x at *
        obtain ⟨A6, c6, rfl, _, _, hel6⟩ := Rc.own_el Rc.stV 1 Rc.stV_len hO6
        have HEL := Lib.hid hel6
        have HO5 := Lib.hid hO5
        have HO6 := Lib.hid hO6
        have HBW := Lib.hid hb
        have hd3w := (hb.cell (p := ⟨g0, o + k * 6 + 3, none⟩) hg).trans (HC.out 3 _ rfl)
        have hgw : g0 < w00.heap.size := Nat.lt_of_lt_of_le hg hb.size
        have HRW := Lib.hid (HRD.out.next hb)
        have HSW := Lib.hid (Rc.any_swap CS x)
        have HPK := Lib.hid (show Rc.aft r ps k = (CS, OL) by rw [hCS, hOL])
        clear hel6 hO5 hO6 hCS hOL
        go_wp2_with fail
        go_loopw [8, 9] (fun s8 s9 wr => ∃ j : Nat, s9 = .int .i64 j ∧ j ≤ CS.length ∧ s8 = .bool ((CS.take j).any fun c => Rc.among x.rds x.rds.length c) ∧ Below w00.heap.size w00 wr) (fun _ s9 _ => CS.length - (intOf s9).toNat)
        case atStart => exact ⟨0, rfl, Nat.zero_le _, rfl, Below.refl _ _⟩
        case round =>
          obtain ⟨j, rfl, hj, rfl, hbj⟩ := hrel
          by_cases hlj : j < CS.length
          · have e1 : decide ((j : Int) < (CS.length : Int)) = true := decide_eq_true (by omega)
            have e1n : decide (j < CS.length) = true := decide_eq_true hlj
            have y2 : (j : Int) < (CS.length : Int) := by omega
            obtain ⟨g6, o6, rfl, hg6, hc6⟩ := st_cell HEL.out hlj
            have f0 := (hbj.cell (p := ⟨g6, o6 + j, none⟩) hg6).trans hc6
            have hd3 := (hbj.cell (p := ⟨g0, o + k * 6 + 3, none⟩) hgw).trans hd3w
            have HTK := Lib.hid (show ((CS.take (j + 1)).any fun c => Rc.among x.rds x.rds.length c) = (((CS.take j).any fun c => Rc.among x.rds x.rds.length c) || Rc.among x.rds x.rds.length CS[j]) by
              rw [List.take_succ_eq_append_getElem hlj, List.any_append]; simp)
            generalize CS[j] = q at *
            have HR2 := Lib.hid (HRW.out.next hbj)
            generalize ((CS.take j).any fun c => Rc.among x.rds x.rds.length c) = hb9 at *
            clear hc6
            cases hb9 with
            | true =>
              have HT := Lib.hid (show ((CS.take (j + 1)).any fun c => Rc.among x.rds x.rds.length c) = true by rw [HTK.out]; rfl)
              clear HTK
              go_upto_region 12 with (fail)
              go_quiet (fail)
              have hb2 := below_drewN hbj nq
              generalize wr.drewN nq = w2 at *
              clear hbj f0 hd3
              go_wp2_with fail
              go_roundw
              case rel => exact ⟨j + 1, by go_num, by omega, by rw [HT.out], hb2⟩
              case measure => simp [intOf]; omega
            | false =>
              have HT := Lib.hid (show ((CS.take (j + 1)).any fun c => Rc.among x.rds x.rds.length c) = Rc.among x.rds x.rds.length q by rw [HTK.out]; rfl)
              obtain ⟨hm, _, _⟩ := Rc.amI_iff x.rds x.rds.length q
              have t1 := fun m => qamongI_any x.rds x.rds.length q x.A x.c (wr.drewN m) (HR2.out.next (below_drewN (Below.refl _ _) m)) (Nat.le_refl _) htl
              generalize Rc.amI x.rds x.rds.length q = z at *
              generalize Rc.among x.rds x.rds.length q = bq at *
              clear HTK
              go_upto_region 12 with (fail)
              go_quiet ((go_at_call 40; exact Calls.quiet_of_same (t1 _)))
              have hb2 := below_drewN hbj nq
              generalize wr.drewN nq = w2 at *
              clear hbj f0 hd3 t1
              go_wp2_with fail
              go_roundw
              case rel => exact ⟨j + 1, by go_num, by omega, by rw [HT.out], hb2⟩
              case measure => simp [intOf]; omega
          · have e1 : decide ((j : Int) < (CS.length : Int)) = false := decide_eq_false (by omega)
            have e1n : decide (j < CS.length) = false := decide_eq_false hlj
            rw [List.take_of_length_le (by omega), HSW.out]
            have HB9 := Lib.hid (HBW.out.trans (hbj.mono HBW.out.size))
            have HI9 := Lib.hid (own_below HO5.out hbj)
            have HS9 := Lib.hid (own_below HO6.out hbj)
            clear hbj hd3w
            cases hh : Rc.hitB CS x with
            | false =>
              have HE := Lib.hid (show Rc.aft r ps (k + 1) = (CS, OL) by rw [HAS.out, hh]; exact HPK.out)
              clear hh HAS HSW HO5 HO6
              go_wp2_with fail
              go_roundw
              case rel => exact ⟨k + 1, by go_num, by omega, by rw [HE.out]; exact HI9.out, by rw [HE.out]; exact HS9.out, HB9.out⟩
              case measure => simp [intOf]; omega
            | true =>
              have HE := Lib.hid (show Rc.aft r ps (k + 1) = (CS ++ [x.wr.pth], OL ++ [k]) by rw [HAS.out, hh]; rfl)
              have hbn : Below wr.heap.size wr (wr.alloc (.cells #[.int .i64 (k : Int)] 3)) := (Below.refl _ _).alloc (Nat.le_refl _) _
              have hi9 := own_below HI9.out hbn
              rw [← Rc.nats_len OL] at hi9
              have hwb : w.heap.size ≤ wr.heap.size := HB9.out.size
              obtain ⟨v7, w7, hrun, hown7, hg7⟩ := app_in 30 (wr.alloc (.cells #[.int .i64 (k : Int)] 3)) w.heap.size _ (Rc.nats OL) [(k : Int)] hi9 (some ⟨wr.heap.size, 0, none⟩) 1 (one_in wr k) (Nat.le_trans hwb hbn.size) (by rw [Rc.nats_len]; simp; omega)
              have HS7 := Lib.hid (own_grown (own_below HS9.out hbn) hi9 (by decide) hg7)
              have hb7 := HB9.out.trans ((hbn.mono hwb).trans (below_own hi9 (Nat.le_trans hwb hbn.size) hg7))
              have HI7 := Lib.hid hown7
              have hd4 := (hb7.cell (p := ⟨g0, o + k * 6 + 4, none⟩) hg).trans (HC.out 4 _ rfl)
              have HB7 := Lib.hid hb7
              clear hh HAS HSW HO5 HO6 hown7 hg7 hi9 hb7 hbn
              go_upto_region 15 with (at_builtin; refine Lib.wpList_append_run _ rfl _ _ _ _ rfl _ _ rfl rfl _ _ hrun ?_)
              clear hrun
              have hbn : Below w7.heap.size w7 (w7.alloc (.cells #[.string (str x.wr.pth)] 9)) := (Below.refl _ _).alloc (Nat.le_refl _) _
              have hs9 := own_below HS7.out hbn
              have hwb7 : w.heap.size ≤ w7.heap.size := HB7.out.size
              obtain ⟨v8, w8, hrun, hown8, hg8⟩ := app_st 33 (w7.alloc (.cells #[.string (str x.wr.pth)] 9)) w.heap.size _ CS [x.wr.pth] hs9 (some ⟨w7.heap.size, 0, none⟩) 1 (one_st w7 x.wr.pth) (Nat.le_trans hwb7 hbn.size) (by simp; omega)
              have HI8 := Lib.hid (own_grown (own_below HI7.out hbn) hs9 (by decide) hg8)
              have HB8 := Lib.hid (HB7.out.trans ((hbn.mono hwb7).trans (below_own hs9 (Nat.le_trans hwb7 hbn.size) hg8)))
              have HS8 := Lib.hid hown8
              clear hown8 hg8 hs9 hbn
              go_wp2_with (at_builtin; refine Lib.wpList_append_run _ rfl _ _ _ _ rfl _ _ rfl rfl _ _ hrun ?_)
              go_roundw
              case rel => exact ⟨k + 1, by go_num, by omega, by rw [HE.out, Rc.nats_app]; show World.ownsRow _ _ _ _ _ (OL ++ [k]).length _; rw [← Rc.nats_len, Rc.nats_app]; exact HI8.out, by rw [HE.out]; exact HS8.out, HB8.out⟩
              case measure => simp [intOf]; omega
      · have c1 : decide ((k : Int) < (r.length : Int)) = false := decide_eq_false (by omega)
        have c1n : decide (k < r.length) = false := decide_eq_false hlt
        have hkk : k = r.length := by omega
        subst hkk
        rw [← Rc.nats_len (Rc.aft r ps r.length).2] at hO5
        obtain ⟨A5, c5, hs5, _, _, hel⟩ := Rc.own_el Rc.inV 1 Rc.inV_len hO5
        rw [Rc.nats_len] at hs5
        subst hs5
        have HI := Lib.hid hel
        have HB := Lib.hid hb
        clear hO5 hO6 hb hel
        go_wp2_with fail
        first | go_ret3 | go_ret2 | go_ret
        exact ⟨_, A5, c5, rfl, HV.out.symm, by omega, HI.out, HB.out⟩
  · generalize hce : Rc.chk r = ce at *
    have z1 : (ce != 0) = true := by rw [bne_iff_ne]; exact hz
    have z2 : (ce == 0) = false := by rw [beq_eq_false_iff_ne]; exact hz
    have HV := Lib.hid (show affL r ps = [] from by unfold affL; rw [hce, if_neg hz])
    clear hA hS hz hce hP hb0 hO0 HO0
    go_enter Tryd.func20, Tryd.ntmps20
    go_wp2_with fail
    with_reducible refine cc.mono ?_
    clear cc
    rintro e w1 ⟨rfl, hb1⟩
    have HB := Lib.hid (HB0.out.trans (hb1.mono HB0.out.size))
    clear hb1
    go_wp2_with fail
    first | go_ret3 | go_ret2 | go_ret
    exact ⟨[], some ⟨w.heap.size, 0, none⟩, 0, rfl, HV.out.symm, by simp, Rc.ElAt.nil _ _ _ _ _, HB.out⟩
end Go.Proofs.YtkgnbjhgdjmfdaaDoor
