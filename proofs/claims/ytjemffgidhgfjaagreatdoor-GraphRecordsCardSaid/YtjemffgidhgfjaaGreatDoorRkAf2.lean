/- Affected itself. -/
import Derived.Test.YtjemffgidhgfjaaGreatDoorRkAff
namespace Go.Proofs.YtjemffgidhgfjaaGreatDoor.Rk
open Go.RowKit Go.Deep Go.Maps Tr

theorem cF_app (C : List (List UInt8)) (p : List UInt8) : cF (C ++ [p]) = fun x => if x = p then some (.bool true) else cF C x := funext fun x => by
  unfold cF
  rw [List.contains_append]
  by_cases h : x = p
  · rw [if_pos h, h]
    have : [p].contains p = true := by simp
    rw [this, Bool.or_true, if_pos rfl]
  · rw [if_neg h]
    have : [p].contains x = false := by simp [h]
    rw [this, Bool.or_false]
theorem st_cell {w : World} {B : Nat} {A : Option Addr} {l : List (List UInt8)} (h : Rc.StAt w B A l) {k : Nat} (hk : k < l.length) : ∃ g o, A = some ⟨g, o, none⟩ ∧ g < B ∧ w.cell? ⟨g, o + k, none⟩ = some (.string (str l[k])) := by
  obtain ⟨g, o, e, hg, hc⟩ := h k hk
  have := hc 0 _ rfl
  rw [Nat.mul_one] at this
  exact ⟨g, o, e, hg, this⟩
def affL (r : List Dn) (ps : List (List UInt8)) : List Nat := if Rc.chk r = 0 then (Rc.aft r ps r.length).2 else []
set_option maxHeartbeats 8000000 in
set_option maxRecDepth 100000 in
theorem affected_any (r : List Dn) (ps : List (List UInt8)) (A P : Option Addr) (c d : Nat) (w : World) (hA : RcAt w A r) (hP : Rc.StAt w w.heap.size P ps) (hS : r.length ≤ 1024 → Sht r) (hM : MaxAt w) (hps : ps.length ≤ 100000) (hpl : ∀ p ∈ ps, p.length ≤ 140737488351232) :
    Calls Tryz.prog 16 #[.slice A r.length c, .slice P ps.length d] w (GotN w (fun L => L = affL r ps)) := by
  have HA := Lib.hid hA
  have HPL := Lib.hid hpl
  have HPA := Lib.hid hP
  have cc := check_any r A c w hA hS hM
  by_cases hz : Rc.chk r = 0
  · rw [hz] at cc
    have HV := Lib.hid (show affL r ps = (Rc.aft r ps r.length).2 from by unfold affL; rw [if_pos hz])
    have HS := Lib.hid (hS (Rc.zero_chk hz).1)
    have hL := (Rc.zero_chk hz).1
    have HZ := Lib.hid (show ∀ i (h : i < r.length), 0 < r[i].rds.length ∧ r[i].rds.length ≤ 1024 from fun i h => Rc.head_len (Rc.zero_step ((Rc.zero_chk hz).2 i h)).1)
    obtain ⟨i1, hj0, hx0, hx1, hx2⟩ := info_parts infoIn
    have hmm := @run_makeMap Tryz.prog
    clear hA hS hM hz hpl hP
    go_enter Tryz.func16, Tryz.ntmps16
    go_wp2_with fail
    with_reducible refine cc.mono ?_
    clear cc
    rintro e w1 ⟨rfl, hb1⟩
    go_wp2_with fail
    have hba : Below w.heap.size w ((w1.alloc (.map #[] 0)).alloc (.cells #[.map (some w1.heap.size)] 91)) := (hb1.alloc hb1.size _).alloc (by have := hb1.size; simp; omega) _
    have hm0 := (Mp.made w1).next ((Below.refl _ _).alloc (Nat.le_refl _) (.cells #[.map (some w1.heap.size)] 91))
    have hf0 := heap_alloc_new (w1.alloc (.map #[] 0)) (.cells #[.map (some w1.heap.size)] 91)
    rw [show (w1.alloc (.map #[] 0)).heap.size = w1.heap.size + 1 by simp] at hf0
    have hsW : ((w1.alloc (.map #[] 0)).alloc (.cells #[.map (some w1.heap.size)] 91)).heap.size = w1.heap.size + 2 := by simp
    generalize (w1.alloc (.map #[] 0)).alloc (.cells #[.map (some w1.heap.size)] 91) = W at *
    obtain ⟨b, hb⟩ : ∃ b, b = w1.heap.size := ⟨_, rfl⟩
    obtain ⟨fb, hfb⟩ : ∃ fb, fb = b + 1 := ⟨_, rfl⟩
    rw [← hb] at hm0 hf0 hsW
    rw [← hb]
    rw [← hfb] at hf0
    rw [← hfb]
    have HN := Lib.hid (show w.heap.size ≤ b ∧ fb = b + 1 ∧ W.heap.size = fb + 1 from ⟨by rw [hb]; exact hb1.size, hfb, by rw [hsW, hfb]⟩)
    have HBA := Lib.hid hba
    have HF0 := Lib.hid hf0
    clear hb hfb hsW hb1 hba hf0
    go_loopw [17] (fun s17 wr => ∃ k : Nat, s17 = .int .i64 k ∧ k ≤ ps.length ∧ Mp wr b k (cF (ps.take k)) ∧ Kp b W wr) (fun s17 _ => ps.length - (intOf s17).toNat)
    case atStart => exact ⟨0, rfl, Nat.zero_le _, hm0, Kp.refl _ _⟩
    case round =>
      clear hm0
      obtain ⟨k, rfl, hk, hmp, hkp⟩ := hrel
      have hbw : Below w.heap.size w wr := HBA.out.trans (hkp.below HN.out.1 HBA.out.size)
      have hfw := (hkp.block fb (by have := HN.out; omega) (by have := HN.out; omega)).trans HF0.out
      have ff : wr.cell? ⟨fb, 0, none⟩ = some (.map (some b)) := by rw [cell_of_row _ _ _ _ _ _ hfw]; rfl
      by_cases hlt : k < ps.length
      · have c1 : decide ((k : Int) < (ps.length : Int)) = true := decide_eq_true (by omega)
        have c1n : decide (k < ps.length) = true := decide_eq_true hlt
        have y2 : (k : Int) < (ps.length : Int) := by omega
        obtain ⟨g0, o, rfl, hg, hc⟩ := st_cell HPA.out hlt
        have hd0 := (hbw.cell (p := ⟨g0, o + k, none⟩) hg).trans hc
        have hp := HPL.out ps[k] (List.getElem_mem hlt)
        have HTK := Lib.hid (show ps.take (k + 1) = ps.take k ++ [ps[k]] from List.take_succ_eq_append_getElem hlt)
        generalize ps[k] = x at *
        obtain ⟨w3, hrun, hMp, hg3⟩ := hmp.store Tryz.underlying91 (by unfold maxLen; omega) x (by unfold maxLen; omega) (.bool true)
        have HMp := Lib.hid (show Mp w3 b (k + 1) (cF (ps.take (k + 1))) by rw [HTK.out, cF_app]; exact hMp)
        have HK3 := Lib.hid (hkp.trans (Kp.of_grown hg3))
        clear hMp hg3 hmp hkp hbw hc hfw
        go_wp2_with fail
        go_roundw
        case rel => exact ⟨k + 1, by go_num, by omega, HMp.out, HK3.out⟩
        case measure => simp [intOf]; omega
      · have c1 : decide ((k : Int) < (ps.length : Int)) = false := decide_eq_false (by omega)
        have c1n : decide (k < ps.length) = false := decide_eq_false hlt
        have hkk : k = ps.length := by omega
        subst hkk
        rw [List.take_length] at hmp
        obtain ⟨Bc, hBc⟩ : ∃ Bc, Bc = fb + 1 := ⟨_, rfl⟩
        have HB2 := Lib.hid hbw
        have HF2 := Lib.hid hfw
        have HS2 := Lib.hid (show Bc ≤ wr.heap.size by have := hkp.size; have := HN.out; omega)
        have HM2 := Lib.hid hmp
        have HBc := Lib.hid hBc
        clear hmp hkp hbw hfw ff hBc
        go_wp2_with fail
        obtain ⟨w00, hw00⟩ : ∃ x : World, x = wr := ⟨wr, rfl⟩
        subst hw00
        go_loopw [8, 26] (fun s8 s26 wr => ∃ (k n : Nat), s26 = .int .i64 k ∧ k ≤ r.length ∧ n ≤ 100000 + k ∧ Mp wr b n (cF (Rc.aft r ps k).1) ∧ wr.heap[fb]? = some (.cells #[.map (some b)] 91 (0, 0)) ∧ wr.ownsRow Bc 3 1 s8 (Rc.aft r ps k).2.length (Rc.insV (Rc.nats (Rc.aft r ps k).2)) ∧ Below w.heap.size w wr ∧ Bc ≤ wr.heap.size) (fun _ s26 _ => r.length - (intOf s26).toNat)
        case atStart => exact ⟨0, ps.length, rfl, Nat.zero_le _, by omega, HM2.out, HF2.out, World.ownsRow_nil _ _ _ _, HB2.out, HS2.out⟩
        case round =>
          obtain ⟨k, n, rfl, hk, hn, hmp, hfw, hown, hb, hsz⟩ := hrel
          by_cases hlt2 : k < r.length
          · have d1 : decide ((k : Int) < (r.length : Int)) = true := decide_eq_true (by omega)
            have d1n : decide (k < r.length) = true := decide_eq_true hlt2
            have y2 : (k : Int) < (r.length : Int) := by omega
            obtain ⟨g0, o, rfl, hg, hc⟩ := (HA.out.next hb).st k hlt2
            have hd0 := hc 0 _ rfl
            have hd1 := hc 1 _ rfl
            have hd2 := hc 2 _ rfl
            have hd3 := hc 3 _ rfl
            have hd4 := hc 4 _ rfl
            have hd5 := hc 5 _ rfl
            rw [show o + k * 6 + 0 = o + k * 6 from rfl] at hd0
            clear hc
            have hmem := List.getElem_mem hlt2
            have HP := Lib.hid (HS.out.p r[k] hmem r[k].wr (List.mem_append_right _ (List.mem_singleton.2 rfl)))
            have hsp := fun t (ht : t ∈ r[k].rds) => HS.out.p r[k] hmem t (List.mem_append_left _ ht)
            have hxz := HZ.out k hlt2
            have hrd := (HA.out.next hb).rd r[k] hmem
            have HAS := Lib.hid (Rc.aft_succ (r := r) (ps := ps) (k := k) (List.getElem?_eq_getElem hlt2))
            generalize r[k] = x at *
            have hbx : Below wr.heap.size wr (wr.alloc (dnO x)) := (Below.refl _ _).alloc (Nat.le_refl _) _
            have hxn := heap_alloc_new wr (dnO x)
            have hfx := (hbx.block fb (blk_lt hfw)).trans hfw
            have cc := containsAff_any x.rds fb b n (Rc.aft r ps k).1 x.A x.c (wr.alloc (dnO x)) (hrd.next hbx) (by omega) ⟨hfx, hmp.next hbx⟩ hsp
            have HMX := Lib.hid (hmp.next hbx)
            have HOX := Lib.hid (own_below hown hbx)
            have HBX := Lib.hid (hb.trans (hbx.mono hb.size))
            have hlen := Rc.aft_len r ps k
            have HHB := Lib.hid (show Rc.hitB (Rc.aft r ps k).1 x = x.rds.any fun t => (Rc.aft r ps k).1.contains t.pth from rfl)
            have HSZ := Lib.hid (Nat.le_trans hsz hbx.size)
            clear hmp hfw hown hb hbx hsp hrd
            cases hv : (x.rds.any fun t => (Rc.aft r ps k).1.contains t.pth) with
            | false =>
              rw [hv] at cc
              have HE := Lib.hid (show Rc.aft r ps (k + 1) = Rc.aft r ps k by rw [HAS.out, HHB.out, hv, if_neg (by decide)])
              clear hv HAS HHB
              go_wp2_with fail
              with_reducible refine cc.mono ?_
              clear cc
              rintro e w4 ⟨rfl, hb4⟩
              have HM4 := Lib.hid (HMX.out.next hb4)
              have HF4 := Lib.hid ((hb4.block fb (blk_lt hfx)).trans hfx)
              have HO4 := Lib.hid (own_below HOX.out hb4)
              have HB4 := Lib.hid (HBX.out.trans (hb4.mono HBX.out.size))
              have HS4 := Lib.hid (Nat.le_trans HSZ.out hb4.size)
              clear hb4 hfx hxn hd0 hd1 hd2 hd3 hd4 hd5
              go_wp2_with fail
              go_roundw
              case rel => exact ⟨k + 1, n, by go_num, by omega, by omega, by rw [HE.out]; exact HM4.out, HF4.out, by rw [HE.out]; exact HO4.out, HB4.out, HS4.out⟩
              case measure => simp [intOf]; omega
            | true =>
              rw [hv] at cc
              have HE := Lib.hid (show Rc.aft r ps (k + 1) = ((Rc.aft r ps k).1 ++ [x.wr.pth], (Rc.aft r ps k).2 ++ [k]) by rw [HAS.out, HHB.out, hv, if_pos rfl])
              clear hv HAS HHB
              go_wp2_with fail
              with_reducible refine cc.mono ?_
              clear cc
              rintro e w4 ⟨rfl, hb4⟩
              have hM4 := HMX.out.next hb4
              have hf4 := (hb4.block fb (blk_lt hfx)).trans hfx
              have hO4 := own_below HOX.out hb4
              have hB4 := HBX.out.trans (hb4.mono HBX.out.size)
              have hS4 := Nat.le_trans HSZ.out hb4.size
              have hx4 := (hb4.block wr.heap.size (blk_lt hxn)).trans hxn
              have ff : w4.cell? ⟨fb, 0, none⟩ = some (.map (some b)) := by rw [cell_of_row _ _ _ _ _ _ hf4]; rfl
              have e4 : w4.cell? ⟨wr.heap.size, 4, none⟩ = some (.string (str x.wr.pth)) := by rw [cell_of_row _ _ _ _ _ _ hx4]; rfl
              obtain ⟨w5, hrun, hMp, hg5⟩ := hM4.store Tryz.underlying91 (by unfold maxLen; omega) x.wr.pth (by have := HP.out; unfold maxLen; omega) (.bool true)
              have hN := HN.out
              have hBc := HBc.out
              have HM5 := Lib.hid (show Mp w5 b (n + 1) (cF (Rc.aft r ps (k + 1)).1) by rw [HE.out, cF_app]; exact hMp)
              have HF5 := Lib.hid ((hg5.block fb (blk_lt hf4) (fun e => by have := Option.some.inj e; omega)).trans hf4)
              have HO5 := Lib.hid (own_same hO4 fun g hg => hg5.block g (hO4.lt g hg).2 (fun e => by have := Option.some.inj e; have := (hO4.lt g hg).1; omega))
              have HB5 := Lib.hid (hB4.trans (below_map (B := w.heap.size) hg5 hN.1 hB4.size))
              have HS5 := Lib.hid (Nat.le_trans hS4 hg5.size)
              clear hMp hg5 hM4 hf4 hO4 hB4 hS4 hx4 hb4 hfx hxn hd0 hd1 hd2 hd3 hd4 hd5
              have hsa : Bc ≤ (w5.alloc (.cells #[.int .i64 k] 3)).heap.size := by have := HS5.out; simp; omega
              have HOA := Lib.hid (HO5.out.alloc (.cells #[.int .i64 (k : Int)] 3))
              clear hN hBc
              go_wp2_with (at_builtin; refine wpList_append_own_wide _ (by rfl) _ _ 38 (by rfl) Bc 3 i1 _ 1 8 Tryz.underlying38 hj0 hx0 hx1 hx2 rfl (by omega) _ (Rc.aft r ps k).2.length _ (by rfl) HOA.out ⟨w5.heap.size, 0, none⟩ 1 1 [_] (by rfl) (by rfl) (World.news_of_block (cs := #[_]) (t := 3) (fr := (0, 0)) (heap_alloc_new w5 _)) (by simp [Value.oneCell']) (by unfold maxLen; omega) (by omega) hsa ?_; intro v7 w7 hown7 hgrow7 _; have HB7 := Lib.hid (below_grown (HB5.out.alloc HB5.out.size (.cells #[.int .i64 (k : Int)] 3)) (HB5.out.alloc HB5.out.size (.cells #[.int .i64 (k : Int)] 3)).size (own_mono HOA.out (show w.heap.size ≤ Bc by have := HN.out; have := HBc.out; omega)) hgrow7); have HF7 := Lib.hid ((hgrow7.block fb (by have := HS5.out; have := HBc.out; simp; omega) (fun e => by have := (HOA.out.lt fb e.symm).1; have := HBc.out; omega)).trans ((blk_alloc_lt w5 _ _ (blk_lt HF5.out)).trans HF5.out)); have HM7 := Lib.hid ((HM5.out.next ((Below.refl _ _).alloc (Nat.le_refl _) (.cells #[.int .i64 (k : Int)] 3))).block (hgrow7.block b (by have := HM5.out.lt; simp; omega) (fun e => by have := (HOA.out.lt b e.symm).1; have := HBc.out; have := HN.out; omega))); have HS7 := Lib.hid (Nat.le_trans hsa hgrow7.size); have HO7 := Lib.hid hown7; clear hgrow7 hown7)
              go_roundw
              case rel => exact ⟨k + 1, n + 1, by go_num, by omega, by omega, HM7.out, HF7.out, by rw [HE.out]; show World.ownsRow _ _ _ _ _ ((Rc.aft r ps k).2 ++ [k]).length _; rw [List.length_append, List.length_singleton, Rc.nats_app, Rc.insV_app]; exact HO7.out, HB7.out, HS7.out⟩
              case measure => simp [intOf]; omega
          · have d1 : decide ((k : Int) < (r.length : Int)) = false := decide_eq_false (by omega)
            have d1n : decide (k < r.length) = false := decide_eq_false hlt2
            have hkk : k = r.length := by omega
            subst hkk
            have hlen := Rc.aft_len r ps r.length
            rw [← Rc.nats_len (Rc.aft r ps r.length).2] at hown
            obtain ⟨A6, c6, hs8, _, _, hel⟩ := Rc.own_el Rc.inV 1 Rc.inV_len hown
            rw [Rc.nats_len] at hs8
            subst hs8
            have HI := Lib.hid hel
            have HB := Lib.hid hb
            clear hmp hfw hown hb hsz hel
            go_wp2_with fail
            go_ret
            exact ⟨_, A6, c6, rfl, HV.out.symm, by omega, HI.out, HB.out⟩
  · generalize hce : Rc.chk r = ce at *
    have z1 : (ce != 0) = true := by rw [bne_iff_ne]; exact hz
    have z2 : (ce == 0) = false := by rw [beq_eq_false_iff_ne]; exact hz
    have HV := Lib.hid (show affL r ps = [] from by unfold affL; rw [hce, if_neg hz])
    clear hA hS hM hz hce hP hpl
    go_enter Tryz.func16, Tryz.ntmps16
    go_wp2_with fail
    with_reducible refine cc.mono ?_
    clear cc
    rintro e w1 ⟨rfl, hb1⟩
    have HB := Lib.hid hb1
    clear hb1
    go_wp2_with fail
    go_ret
    exact ⟨[], none, 0, rfl, HV.out.symm, by simp, Rc.ElAt.nil _ _ _ _ _, HB.out⟩
end Go.Proofs.YtjemffgidhgfjaaGreatDoor.Rk
