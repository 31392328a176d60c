/- Of: the nodes. Condition: bytealg's MaxLen lies in its variable. -/
import Derived.Test.YtjemffgidhgfjaaGreatDoorCln
import Derived.Test.YtjemffgidhgfjaaGreatDoorKyn
import Derived.Test.YtjemffgidhgfjaaGreatDoorSog
import Derived.Test.YtjemffgidhgfjaaGreatDoorRkQst
import Derived.Test.YtjemffgidhgfjaaGreatDoorRkFew
import Derived.Test.YtjemffgidhgfjaaGreatDoorRkSrc
import Derived.Deep.CutRange
namespace Go.Proofs.YtjemffgidhgfjaaGreatDoor
open Go.RowKit Go.Deep Go.Maps Tr

theorem infoGr : (Tryz.prog.info? 25).map (fun i => (i.zero, i.size, i.bytes)) = some (some (.agg #[.slice none 0 0, .slice none 0 0]), 2, 48) := by kernel_rfl
theorem nF_app (C : List (List UInt8)) (p : List UInt8) : nF (C ++ [p]) (fun _ => 0) = fun x => if x = p then some (.int .i64 0) else nF C (fun _ => 0) x := funext fun x => by
  unfold nF
  rw [List.contains_append]
  by_cases h : x = p
  · rw [if_pos h, h]
    have : [p].contains p = true := by simp
    rw [this, Bool.or_true, if_pos rfl]
  · rw [if_neg h]
    have : [p].contains x = false := by simp [h]
    rw [this, Bool.or_false]
theorem tc_new (w : World) (t : Rk.Tch) (j : Nat) (u : Value) (hu : (Rk.Rc.tcV t)[j]? = some u) : (w.alloc (Rk.tcO t)).cell? ((⟨w.heap.size, 0, none⟩ : Addr).add j) = some u := by
  rw [Rk.addr_addS, Nat.zero_add, cell_of_row _ _ _ _ _ _ (heap_alloc_new w _)]
  match j, hu with
  | 0, hu => exact hu
  | 1, hu => exact hu
theorem tc_new2 {w w' : World} {t : Rk.Tch} (hb : Below (w.alloc (Rk.tcO t)).drew.heap.size (w.alloc (Rk.tcO t)).drew w') (j : Nat) (u : Value) (hu : (Rk.Rc.tcV t)[j]? = some u) : w'.cell? ((⟨w.heap.size, 0, none⟩ : Addr).add j) = some u := by
  have h := tc_new w t j u hu
  rw [Rk.addr_addS] at h ⊢
  exact (hb.cell (p := ⟨w.heap.size, 0 + j, none⟩) (show w.heap.size < (w.alloc (Rk.tcO t)).heap.size by simp)).trans h
theorem cell_same {w w' : World} {g o : Nat} (h : w'.heap[g]? = w.heap[g]?) : w'.cell? ⟨g, o, none⟩ = w.cell? ⟨g, o, none⟩ := by simp [World.cell?, h]
theorem gr_cells {w : World} {q : Nat} {v0 v1 : Value} (h : w.heap[q]? = some (.cells #[v0, v1] 25 (0, 0))) : w.cell? ⟨q, 0, none⟩ = some v0 ∧ w.cell? ⟨q, 1, none⟩ = some v1 ∧ w.frozen? ⟨q, 0, none⟩ = false ∧ w.frozen? ⟨q, 1, none⟩ = false :=
  ⟨by rw [cell_of_row _ _ _ _ _ _ h]; rfl, by rw [cell_of_row _ _ _ _ _ _ h]; rfl, frozen_of_row _ _ _ _ _ h, frozen_of_row _ _ _ _ _ h⟩
theorem infoEg : (Tryz.prog.info? 56).map (fun i => (i.zero, i.size, i.bytes)) = some (some (.agg #[.int .i64 0, .int .i64 0, .int .i64 0]), 3, 24) := by kernel_rfl
/-- append of edges. -/
theorem app_eg (ty : TypeId) (w : World) (B : Nat) (v : Value) (xs ys : List Ed) (hown : w.ownsRow B 56 3 v xs.length (Gr.edsV xs)) (A : Option Addr) (c : Nat) (hA : Gr.EdAt w w.heap.size A ys) (hB : B ≤ w.heap.size) (hlen : xs.length + ys.length ≤ 100000000) :
    ∃ v' w', (Builtin.append_ #[23, 23] ty #[v, .slice A ys.length c]).run Tryz.prog w = .ok v' w' ∧ w'.ownsRow B 56 3 v' (xs ++ ys).length (Gr.edsV (xs ++ ys)) ∧ w.grownBy w' v.ownBlock := by
  obtain ⟨i1, hj0, hx0, hx1, hx2⟩ := info_parts infoEg
  exact Rk.Rc.app_el Gr.edV 3 Gr.edV_len (fun x u hu => edV_oneS x u hu) (by omega) Tryz.underlying23 hj0 hx0 hx1 hx2 rfl (by omega) ty w B v xs ys hown A c hA hB hlen
theorem one_ed (w : World) (a b d : Int) : Gr.EdAt (w.alloc (.cells #[.int .i64 a, .int .i64 b, .int .i64 d] 56)) (w.alloc (.cells #[.int .i64 a, .int .i64 b, .int .i64 d] 56)).heap.size (some ⟨w.heap.size, 0, none⟩) [⟨a, b, d⟩] := fun j hj => by
  have hj0 : j = 0 := by simp at hj; exact hj
  subst hj0
  refine ⟨w.heap.size, 0, rfl, by simp, fun i u hu => ?_⟩
  rw [cell_of_row _ _ _ _ _ _ (heap_alloc_new w _)]
  match i, hu with
  | 0, hu => exact hu
  | 1, hu => exact hu
  | 2, hu => exact hu
theorem zIntG (w : World) : (zeroValue 3).run Tryz.prog w = .ok (.int .i64 0) w := by kernel_rfl
/-- The graph of a record comes back. -/
def GotGr (w : World) (r : List Rk.Dn) (e : Ending) (w' : World) : Prop := ∃ (g : Gph) (A1 B1 : Option Addr) (c1 d1 : Nat) (x : Int), e = .returned (.tuple #[grV A1 B1 c1 d1 g, .int .i64 x]) ∧ Gr.OfP r g x ∧ GrAt w' A1 B1 g ∧ Below w.heap.size w w'
set_option maxHeartbeats 16000000 in
set_option maxRecDepth 100000 in
theorem of_any (r : List Rk.Dn) (A : Option Addr) (c : Nat) (w : World) (hA : Rk.RcAt w A r) (hS : r.length ≤ 1024 → Rk.Sht r) (hF : Rk.FewP r) (hM : MaxAt w) :
    Calls Tryz.prog 8 #[.slice A r.length c] w (GotGr w r) := by
  have HA := Lib.hid hA
  have hb0 : Below w.heap.size w (w.alloc (.cells #[.slice none 0 0, .slice none 0 0] 25)) := (Below.refl _ _).alloc (Nat.le_refl _) _
  have hN0 := heap_alloc_new w (.cells #[.slice none 0 0, .slice none 0 0] 25)
  have cc := Rk.check_any r A c (w.alloc (.cells #[.slice none 0 0, .slice none 0 0] 25)) (hA.next hb0) hS (hM.below hb0)
  by_cases hz : Rk.Rc.chk r = 0
  · rw [hz] at cc
    have HZ := Lib.hid hz
    have hL := (Rk.Rc.zero_chk hz).1
    have HS := Lib.hid (hS hL)
    have HFS : r.length ≤ 12 ∧ ∀ s ∈ r, s.rds.length ≤ 12 := by
      rcases hF with h | ⟨h, h2⟩
      · omega
      · exact ⟨h, fun s hs => (h2 s hs).1⟩
    have hL12 := HFS.1
    have HZR := Lib.hid (show ∀ i (h : i < r.length), 0 < r[i].rds.length ∧ r[i].rds.length ≤ 12 from fun i h => ⟨(Rk.Rc.head_len (Rk.Rc.zero_step ((Rk.Rc.zero_chk hz).2 i h)).1).1, HFS.2 _ (List.getElem_mem h)⟩)
    clear HFS
    have hmm := @run_makeMap Tryz.prog
    have HB0 := Lib.hid hb0
    have HN0 := Lib.hid hN0
    clear hA hS hz hM hb0 hN0
    go_enter Tryz.func8, Tryz.ntmps8
    go_wp2_with fail
    with_reducible refine cc.mono ?_
    clear cc
    rintro e w1 ⟨rfl, hb1⟩
    have HB1 := Lib.hid (HB0.out.trans (hb1.mono HB0.out.size))
    have HN1 := Lib.hid ((hb1.block _ (blk_lt HN0.out)).trans HN0.out)
    clear hb1 HB0 HN0
    have hm0 := Rk.Mp.made w1
    have hbm : Below w1.heap.size w1 (w1.alloc (.map #[] 0)) := (Below.refl _ _).alloc (Nat.le_refl _) _
    go_upto_region 4 with (fail)
    have hsW : (w1.alloc (.map #[] 0)).heap.size = w1.heap.size + 1 := by simp
    generalize w1.alloc (.map #[] 0) = W at *
    obtain ⟨b, hb⟩ : ∃ b, b = w1.heap.size := ⟨_, rfl⟩
    rw [← hb] at hm0 hsW
    rw [← hb]
    have HBE := Lib.hid (show w.heap.size ≤ b ∧ w.heap.size < b ∧ W.heap.size = b + 1 from ⟨by rw [hb]; exact HB1.out.size, by rw [hb]; exact blk_lt HN1.out, hsW⟩)
    have HBM := Lib.hid (HB1.out.trans (hbm.mono HB1.out.size))
    have HNW := Lib.hid ((hbm.block _ (blk_lt HN1.out)).trans HN1.out)
    have HM0 := Lib.hid hm0
    clear hbm hm0 hsW hb HN1 HB1
    go_wp2_with fail
    go_loopw [23] (fun s23 wr => ∃ k : Nat, s23 = .int .i64 k ∧ k ≤ r.length ∧ ∃ (n : Nat) (C : List (List UInt8)), n ≤ 13 * k ∧ (∀ x, x ∈ C ↔ x ∈ Gr.pths (r.take k)) ∧ Rk.Mp wr b n (nF C fun _ => 0) ∧ Rk.Kp b W wr) (fun s23 _ => r.length - (intOf s23).toNat)
    case atStart => exact ⟨0, rfl, Nat.zero_le _, 0, [], Nat.zero_le _, fun x => by simp [Gr.pths], HM0.out, Rk.Kp.refl _ _⟩
    case round =>
      clear HM0
      obtain ⟨w00, hw00⟩ : ∃ x : World, x = wr := ⟨wr, rfl⟩
      subst hw00
      obtain ⟨k, rfl, hk, n, C, hn, hC, hmp, hkp⟩ := hrel
      have HC := Lib.hid hC
      have HMP := Lib.hid hmp
      have HKP := Lib.hid hkp
      clear hC hmp
      have hbw := HBM.out.trans (hkp.below (show w.heap.size ≤ b from HBE.out.1) HBM.out.size)
      by_cases hlt : k < r.length
      · have c1 : decide ((k : Int) < (r.length : Int)) = true := decide_eq_true (by omega)
        have c1n : decide (k < r.length) = true := decide_eq_true hlt
        have y1 : (k : Int) < (r.length : Int) := by omega
        obtain ⟨g0, o, rfl, hg, hc⟩ := HA.out.st k hlt
        have d0 := (hbw.cell (p := ⟨g0, o + k * 6 + 0, none⟩) hg).trans (hc 0 _ rfl)
        have d1 := (hbw.cell (p := ⟨g0, o + k * 6 + 1, none⟩) hg).trans (hc 1 _ rfl)
        have d2 := (hbw.cell (p := ⟨g0, o + k * 6 + 2, none⟩) hg).trans (hc 2 _ rfl)
        have d3 := (hbw.cell (p := ⟨g0, o + k * 6 + 3, none⟩) hg).trans (hc 3 _ rfl)
        have d4 := (hbw.cell (p := ⟨g0, o + k * 6 + 4, none⟩) hg).trans (hc 4 _ rfl)
        have d5 := (hbw.cell (p := ⟨g0, o + k * 6 + 5, none⟩) hg).trans (hc 5 _ rfl)
        rw [show o + k * 6 + 0 = o + k * 6 from rfl] at d0
        obtain ⟨g1, o1, hxA, hg1, _⟩ := (HA.out.rd r[k] (List.getElem_mem hlt)).row (HZR.out k hlt).1
        have HRD := Lib.hid (HA.out.rd r[k] (List.getElem_mem hlt))
        have HPT := Lib.hid (Gr.pths_take hlt)
        have HSP := Lib.hid (show ∀ t ∈ r[k].rds ++ [r[k].wr], t.pth.length ≤ 100000000 from fun t ht => HS.out.p r[k] (List.getElem_mem hlt) t ht)
        have hxz := HZR.out k hlt
        clear hc
        generalize r[k] = x at *
        obtain ⟨W2, hW2⟩ : ∃ W2, W2 = w00.alloc (Rk.dnO x) := ⟨_, rfl⟩
        have hbx : Below w00.heap.size w00 W2 := by rw [hW2]; exact (Below.refl _ _).alloc (Nat.le_refl _) _
        have hx2 : W2.heap[w00.heap.size]? = some (Rk.dnO x) := by rw [hW2]; exact heap_alloc_new _ _
        go_upto_region 7 with (fail)
        rw [← hxA, ← hW2]
        clear d0 d1 d2 d3 d4 d5 hW2
        go_cut [33, 34, 35] from 35 to 42 (fun s33 s34 s35 wx => ∃ (g33 c33 : Nat), s33 = .slice (some ⟨g33, 0, none⟩) (x.rds.length + 1) c33 ∧ s34 = .int .i64 ((x.rds.length + 1 : Nat) : Int) ∧ s35 = .int .i64 0 ∧ Rk.Rc.TcAt wx wx.heap.size (some ⟨g33, 0, none⟩) (Rk.Rc.tcs x) ∧ Below W2.heap.size W2 wx)
        case first =>
          obtain ⟨i1, hj0, hx0, hx1, hx2i⟩ := info_parts Rk.infoTc
          have s3 : W2.cell? ⟨w00.heap.size, 3, none⟩ = some (.slice x.A x.rds.length x.c) := by rw [cell_of_row _ _ _ _ _ _ hx2]; rfl
          have s4 : W2.cell? ⟨w00.heap.size, 4, none⟩ = some (.string (str x.wr.pth)) := by rw [cell_of_row _ _ _ _ _ _ hx2]; rfl
          have s5 : W2.cell? ⟨w00.heap.size, 5, none⟩ = some (.string (str x.wr.dig)) := by rw [cell_of_row _ _ _ _ _ _ hx2]; rfl
          have hRW := (HRD.out.next hbw).next hbx
          rw [hxA] at s3 hRW
          have hlx := blk_lt hx2
          have HCl := Lib.hid (fun (w' : World) (h : Below W2.heap.size W2 w') => clone_any x.rds g1 o1 x.c w' (hRW.next h) (by omega))
          have HKA := Lib.hid (fun (w' : World) (h : Below W2.heap.size W2 w') => (show w'.cell? ⟨w00.heap.size, 3, none⟩ = some (.slice (some ⟨g1, o1, none⟩) x.rds.length x.c) ∧ w'.cell? ⟨w00.heap.size, 4, none⟩ = some (.string (str x.wr.pth)) ∧ w'.cell? ⟨w00.heap.size, 5, none⟩ = some (.string (str x.wr.dig)) from ⟨(h.cell (p := ⟨w00.heap.size, 3, none⟩) hlx).trans s3, (h.cell (p := ⟨w00.heap.size, 4, none⟩) hlx).trans s4, (h.cell (p := ⟨w00.heap.size, 5, none⟩) hlx).trans s5⟩))
          have bA : Below W2.heap.size W2 W2.drew := (Below.refl _ _).drew
          have bO : Below W2.heap.size W2 (W2.alloc (Rk.tcO x.wr)).drew := ((Below.refl _ _).alloc (Nat.le_refl _) _).drew
          clear s3 s4 s5 hRW hxA hx2
          go_region_held3 (fun w' => w'.cell? ⟨w00.heap.size, 3, none⟩ = some (.slice (some ⟨g1, o1, none⟩) x.rds.length x.c) ∧ w'.cell? ⟨w00.heap.size, 4, none⟩ = some (.string (str x.wr.pth)) ∧ w'.cell? ⟨w00.heap.size, 5, none⟩ = some (.string (str x.wr.dig))) (first | exact HKA.out _ bA | exact HKA.out _ bO | exact HKA.out _ (by assumption) | exact HKA.out _ (Below.alloc (by assumption) (Below.size (by assumption)) _)) (first | (go_at_call 27; (first | (with_reducible refine (HCl.out _ bA).mono ?_) | (with_reducible refine (HCl.out _ bO).mono ?_)); rintro e w5 ⟨v5, rfl, own5, hb5⟩; (have bq5 : Below W2.heap.size W2 w5 := (by first | exact bA.trans (hb5.mono bA.size) | exact bO.trans (hb5.mono bO.size)))) | (refine step_append_lies _ (by rfl) _ _ 46 (by rfl) W2.heap.size 45 i1 _ 2 32 Tryz.underlying46 hj0 hx0 hx1 hx2i rfl (by omega) _ x.rds.length _ (by rfl) (Rk.own_mono (Rk.own_below own5 ((Below.refl _ _).alloc (Nat.le_refl _) (Rk.tcO x.wr))) bA.size) ⟨w5.heap.size, 0, none⟩ 1 1 (Rk.Rc.tcV x.wr) (by rfl) (by rfl) (tc_new w5 x.wr) (tcV_one x.wr) (by omega) (by unfold maxLen; omega) (by omega) (Nat.le_trans bq5.size (by simp)) _ rfl ?_; intro g33 c33 w6 own6 hg6 _ _; have HO6 := Lib.hid own6; have HB6 := Lib.hid (Rk.below_grown (bq5.alloc bq5.size (Rk.tcO x.wr)) (Nat.le_trans bq5.size (by simp)) (Rk.own_mono (Rk.own_below own5 ((Below.refl _ _).alloc (Nat.le_refl _) (Rk.tcO x.wr))) bA.size) hg6); clear own6 hg6) | (refine step_append_lies _ (by rfl) _ _ 46 (by rfl) W2.heap.size 45 i1 _ 2 32 Tryz.underlying46 hj0 hx0 hx1 hx2i rfl (by omega) _ x.rds.length _ (by rfl) (Rk.own_mono own5 bO.size) ⟨W2.heap.size, 0, none⟩ 1 1 (Rk.Rc.tcV x.wr) (by rfl) (by rfl) (tc_new2 hb5) (tcV_one x.wr) (by omega) (by unfold maxLen; omega) (by omega) bq5.size _ rfl ?_; intro g33 c33 w6 own6 hg6 _ _; have HO6 := Lib.hid own6; have HB6 := Lib.hid (Rk.below_grown bq5 bq5.size (Rk.own_mono own5 bO.size) hg6); clear own6 hg6))
          all_goals
            obtain ⟨A6, c6, e6, _, _, hel6⟩ := Rk.Rc.own_el Rk.Rc.tcV 2 Rk.Rc.tcV_len (l := Rk.Rc.tcs x) (show w6.ownsRow W2.heap.size 45 2 _ (Rk.Rc.tcs x).length ((Rk.Rc.tcs x).flatMap Rk.Rc.tcV) from by
              rw [Rk.Rc.tcs_len]
              unfold Rk.Rc.tcs
              rw [List.flatMap_append, List.flatMap_singleton]
              exact HO6.out)
            rw [Rk.Rc.tcs_len] at e6
            injection e6 with e6 _ e7
            subst e6 e7
            have HE6 := Lib.hid hel6
            clear hel6 HO6 own5 hb5 bq5
            go_wp2_with fail
            go_meet
            exact ⟨g33, c33, rfl, rfl, rfl, HE6.out, HB6.out⟩
        case rest =>
          obtain ⟨g33, c33, h33, h34, h35, hel, hbc⟩ := hcut
          subst h33 h34 h35
          have hkw : Rk.Kp b W wc := HKP.out.trans ((Rk.Kp.of_below hbx).trans (Rk.Kp.of_below hbc))
          have hmw : Rk.Mp wc b n (nF C fun _ => 0) := (HMP.out.next hbx).next hbc
          have HKW := Lib.hid hkw
          have HMW := Lib.hid hmw
          have HEL := Lib.hid hel
          have HTL := Lib.hid (Rk.Rc.tcs_len x)
          clear hbx hbc hx2 hel hkw hmw hkp
          go_wp2_with fail
          go_loopw [35] (fun s35 wr => ∃ j : Nat, s35 = .int .i64 j ∧ j ≤ x.rds.length + 1 ∧ ∃ (n2 : Nat) (C2 : List (List UInt8)), n2 ≤ n + j ∧ (∀ y, y ∈ C2 ↔ y ∈ Gr.pths (r.take k) ∨ y ∈ ((Rk.Rc.tcs x).take j).map (·.pth)) ∧ Rk.Mp wr b n2 (nF C2 fun _ => 0) ∧ Rk.Kp b wc wr) (fun s35 _ => x.rds.length + 1 - (intOf s35).toNat)
          case atStart => exact ⟨0, rfl, Nat.zero_le _, n, C, by omega, fun y => by rw [HC.out y]; simp, HMW.out, Rk.Kp.refl _ _⟩
          case round =>
            obtain ⟨j, rfl, hj, n2, C2, hn2, hC2, hmp, hkp⟩ := hrel
            have HC2 := Lib.hid hC2
            have HK2 := Lib.hid hkp
            clear hC2
            by_cases hlj : j < x.rds.length + 1
            · have b1 : decide ((j : Int) < (x.rds.length : Int) + 1) = true := decide_eq_true (by omega)
              have b1n : decide (j < x.rds.length + 1) = true := decide_eq_true hlj
              have y4 : (j : Int) < (x.rds.length : Int) + 1 := by omega
              have hjt : j < (Rk.Rc.tcs x).length := by rw [Rk.Rc.tcs_len]; exact hlj
              obtain ⟨g', o', e33, hg33, hc33⟩ := HEL.out j hjt
              simp only [Option.some.injEq, Addr.mk.injEq, and_true] at e33
              obtain ⟨rfl, rfl⟩ := e33
              have f0 := hc33 0 _ rfl
              have f1 := hc33 1 _ rfl
              have hne := Rk.ne_of_cell HMW.out f0
              have hbl := hkp.block g33 hg33 hne
              rw [← cell_same hbl] at f0 f1
              rw [Nat.zero_add] at f0 f1
              rw [show j * 2 + 0 = j * 2 from rfl] at f0
              have HP := Lib.hid (HSP.out (Rk.Rc.tcs x)[j] (show (Rk.Rc.tcs x)[j] ∈ Rk.Rc.tcs x from List.getElem_mem hjt))
              have HTJ := Lib.hid (show (Rk.Rc.tcs x).take (j + 1) = (Rk.Rc.tcs x).take j ++ [(Rk.Rc.tcs x)[j]] from List.take_succ_eq_append_getElem hjt)
              generalize (Rk.Rc.tcs x)[j] = t at *
              have hba : Below wr.heap.size wr (wr.alloc (Rk.tcO t)) := (Below.refl _ _).alloc (Nat.le_refl _) _
              obtain ⟨w3, hrun, hM3, hg3⟩ := (hmp.next hba).store Tryz.underlying60 (by unfold maxLen; omega) t.pth (by have := HP.out; unfold maxLen; omega) (.int .i64 0)
              have HM3 := Lib.hid (show Rk.Mp w3 b (n2 + 1) (nF (C2 ++ [t.pth]) fun _ => 0) by rw [nF_app]; exact hM3)
              have HK3 := Lib.hid (HK2.out.trans ((Rk.Kp.of_below hba).trans (Rk.Kp.of_grown hg3)))
              have HN := Lib.hid (show ∀ y, y ∈ C2 ++ [t.pth] ↔ y ∈ Gr.pths (r.take k) ∨ y ∈ ((Rk.Rc.tcs x).take (j + 1)).map (·.pth) from fun y => by
                rw [List.mem_append, HC2.out y, HTJ.out, List.map_append, List.mem_append, or_assoc]
                rfl)
              clear hmp hkp hba hM3 hg3 hc33 hbl hne hjt
              go_wp2_with fail
              go_roundw
              case rel => exact ⟨j + 1, by go_num, by omega, n2 + 1, C2 ++ [t.pth], by omega, HN.out, HM3.out, HK3.out⟩
              case measure => simp [intOf]; omega
            · have b1 : decide ((j : Int) < (x.rds.length : Int) + 1) = false := decide_eq_false (by omega)
              have b1n : decide (j < x.rds.length + 1) = false := decide_eq_false hlj
              have HN := Lib.hid (show ∀ y, y ∈ C2 ↔ y ∈ Gr.pths (r.take (k + 1)) from fun y => by
                have e : (Rk.Rc.tcs x).take j = Rk.Rc.tcs x := List.take_of_length_le (by have := HTL.out; omega)
                rw [HC2.out y, HPT.out, List.mem_append, e])
              have HM3 := Lib.hid hmp
              have HK3 := Lib.hid (HKW.out.trans HK2.out)
              have hn3 : n2 ≤ 13 * (k + 1) := by omega
              clear hmp hkp
              go_wp2_with fail
              go_roundw
              case rel => exact ⟨k + 1, by go_num, by omega, n2, C2, hn3, HN.out, HM3.out, HK3.out⟩
              case measure => simp [intOf]; omega
      · have c1 : decide ((k : Int) < (r.length : Int)) = false := decide_eq_false (by omega)
        have c1n : decide (k < r.length) = false := decide_eq_false hlt
        have HMC := Lib.hid (show ∀ x, x ∈ C ↔ x ∈ Gr.pths r from fun x => by
          have h := HC.out x
          rwa [show r.take k = r from List.take_of_length_le (by omega)] at h)
        have hbk : Below w00.heap.size w00 (w00.alloc (.cells #[.map (some b)] 60)) := (Below.refl _ _).alloc (Nat.le_refl _) _
        have hnz0 := (HKP.out.block w.heap.size (blk_lt HNW.out) (by have := HBE.out; omega)).trans HNW.out
        have hnzk := (hbk.block _ (blk_lt hnz0)).trans hnz0
        have HNZK := Lib.hid hnzk
        clear hnz0 hnzk
        have cK := keysN1 (some b) w00
        have cS := sortedN b n C (fun _ => 0) w00 HMP.out (by omega)
        have HBW := Lib.hid (hbw.trans (hbk.mono hbw.size))
        have HMK := Lib.hid (HMP.out.next hbk)
        have hlb := HMP.out.lt
        have HLB := Lib.hid (Nat.lt_of_lt_of_le hlb hbk.size)
        clear hbw hbk hkp hlb HC
        go_wp2_with fail
        with_reducible refine cK.mono ?_
        clear cK
        rintro e w5 ⟨rfl, rfl⟩
        go_wp2_with fail
        with_reducible refine cS.mono ?_
        clear cS
        rintro e w6 ⟨L, AN, cN, rfl, ⟨hAsc, hMem⟩, hLn, hfar, hst, hb6⟩
        have HFAR := Lib.hid (show ∀ g o, AN = some ⟨g, o, none⟩ → w.heap.size < g from fun g o e => by
          have h1 := hfar g o e
          have h2 := HLB.out
          have h3 := HBE.out
          omega)
        have HNZ6 := Lib.hid ((hb6.block _ (blk_lt HNZK.out)).trans HNZK.out)
        clear hfar
        have HASC := Lib.hid hAsc
        have HNOD := Lib.hid (show Gr.NodL r L from ⟨hAsc, fun x => (hMem x).trans (HMC.out x)⟩)
        have HB6 := Lib.hid (HBW.out.trans (hb6.mono HBW.out.size))
        have HM6 := Lib.hid (HMK.out.next hb6)
        have HS6 := Lib.hid hst
        have HLB6 := Lib.hid (Nat.lt_of_lt_of_le HLB.out hb6.size)
        have HPL := Lib.hid (show ∀ x ∈ L, x.length ≤ 100000000 from fun x hx => by
          obtain ⟨s, hs, ht⟩ := List.mem_flatMap.1 ((HNOD.out.2 x).1 hx)
          obtain ⟨t, ht2, rfl⟩ := List.mem_map.1 ht
          exact HS.out.p s hs t ht2)
        clear hAsc hMem hst hb6 HMC HBW HMK
        have hb9 : Below w6.heap.size w6 (w6.alloc (.cells #[.slice AN L.length cN, .slice none 0 0] 25)) := (Below.refl _ _).alloc (Nat.le_refl _) _
        have hg9 := heap_alloc_new w6 (.cells #[.slice AN L.length cN, .slice none 0 0] 25)
        go_upto_region 14 with (fail)
        obtain ⟨gb, hgb⟩ : ∃ gb, gb = w6.heap.size := ⟨_, rfl⟩
        rw [← hgb] at hg9
        have hs9 : (w6.alloc (.cells #[.slice AN L.length cN, .slice none 0 0] 25)).heap.size = gb + 1 := by rw [hgb]; simp
        rw [← hgb]
        generalize w6.alloc (.cells #[.slice AN L.length cN, .slice none 0 0] 25) = W9 at *
        have HGB := Lib.hid (show b < gb ∧ w.heap.size < gb ∧ W9.heap.size = gb + 1 from ⟨by rw [hgb]; exact HLB6.out, by have := HBE.out; have := HLB6.out; omega, hs9⟩)
        have HB9 := Lib.hid (HB6.out.trans (hb9.mono HB6.out.size))
        have HM9 := Lib.hid (HM6.out.next hb9)
        have HNZ9 := Lib.hid ((hb9.block _ (blk_lt HNZ6.out)).trans HNZ6.out)
        have HSB := Lib.hid (show Rk.Rc.StAt W9 gb AN L from (show Rk.Rc.StAt w6 gb AN L by rw [hgb]; exact HS6.out).keep (show Below gb w6 W9 by rw [hgb]; exact hb9))
        have HS9 := Lib.hid (HS6.out.next hb9)
        have HG9 := Lib.hid hg9
        obtain ⟨q0, q1, _, _⟩ := gr_cells hg9
        clear hgb hs9 hb9 hg9 HM6 HS6 HB6
        go_wp2_with fail
        clear q0 q1
        go_loopw [51] (fun s51 wr => ∃ i : Nat, s51 = .int .i64 i ∧ i ≤ L.length ∧ ∃ n3, n3 ≤ n + i ∧ Rk.Mp wr b n3 (gF L C i) ∧ Rk.Kp b W9 wr) (fun s51 _ => L.length - (intOf s51).toNat)
        case atStart => exact ⟨0, rfl, Nat.zero_le _, n, by omega, by rw [gF_zero]; exact HM9.out, Rk.Kp.refl _ _⟩
        case round =>
          obtain ⟨w07, hw07⟩ : ∃ x : World, x = wr := ⟨wr, rfl⟩
          subst hw07
          obtain ⟨i, rfl, hi, n3, hn3, hmp, hkp⟩ := hrel
          have HMP3 := Lib.hid hmp
          have HK3 := Lib.hid hkp
          by_cases hil : i < L.length
          · have j1 : decide ((i : Int) < (L.length : Int)) = true := decide_eq_true (by omega)
            have j1n : decide (i < L.length) = true := decide_eq_true hil
            have y4 : (i : Int) < (L.length : Int) := by omega
            obtain ⟨gN, oN, rfl, hgN, hcN⟩ := Rk.st_cell HS9.out hil
            rw [← cell_same (hkp.block gN hgN (Rk.ne_of_cell HM9.out hcN))] at hcN
            have HPi := Lib.hid (HPL.out L[i] (List.getElem_mem hil))
            have hgs := gF_succ (C := C) HASC.out hil
            generalize L[i] = y at *
            obtain ⟨w3, hrun, hM3, hg3⟩ := hmp.store Tryz.underlying60 (by unfold maxLen; omega) y (by have := HPi.out; unfold maxLen; omega) (.int .i64 (i : Int))
            have HM3 := Lib.hid (show Rk.Mp w3 b (n3 + 1) (gF L C (i + 1)) by rw [hgs]; exact hM3)
            have HKN := Lib.hid (HK3.out.trans (Rk.Kp.of_grown hg3))
            clear hmp hkp hgs hM3 hg3
            go_wp2_with fail
            go_roundw
            case rel => exact ⟨i + 1, by go_num, by omega, n3 + 1, by omega, HM3.out, HKN.out⟩
            case measure => simp [intOf]; omega
          · have j1 : decide ((i : Int) < (L.length : Int)) = false := decide_eq_false (by omega)
            have j1n : decide (i < L.length) = false := decide_eq_false hil
            have hiL : i = L.length := by omega
            have HMA := Lib.hid (show Rk.Mp w07 b n3 (gF L C L.length) by rw [← hiL]; exact hmp)
            have HG7 := Lib.hid ((hkp.block gb (by have := HGB.out; omega) (by have := HGB.out; omega)).trans HG9.out)
            have HS7 := Lib.hid (show Rk.Rc.StAt w07 gb AN L from fun j hj => by
              obtain ⟨g', o', e, hg', hc'⟩ := HSB.out j hj
              exact ⟨g', o', e, hg', fun i u hu => by
                have h0 := hc' i u hu
                rw [cell_same (hkp.block g' (by have := HGB.out; omega) (Rk.ne_of_cell HM9.out h0))]; exact h0⟩)
            have HNZ7 := Lib.hid ((hkp.block w.heap.size (blk_lt HNZ9.out) (by have := HBE.out; omega)).trans HNZ9.out)
            have HB7 := Lib.hid (HB9.out.trans (hkp.below (show w.heap.size ≤ b from HBE.out.1) HB9.out.size))
            obtain ⟨B3, hB3⟩ : ∃ B3, B3 = w07.heap.size := ⟨_, rfl⟩
            have HGB3 := Lib.hid (show gb < B3 ∧ b < B3 from ⟨by rw [hB3]; exact blk_lt HG7.out, by have := blk_lt HG7.out; have := HGB.out; omega⟩)
            have HB3 := Lib.hid hB3
            clear hmp hkp hiL hB3 HMP3 HK3
            go_wp2_with fail
            go_loopw [62] (fun s62 wr => ∃ (k : Nat) (vE : Value), s62 = .int .i64 k ∧ k ≤ r.length ∧ wr.heap[gb]? = some (.cells #[.slice AN L.length cN, vE] 25 (0, 0)) ∧ wr.ownsRow B3 56 3 vE (Gr.edsN r L k).length (Gr.edsV (Gr.edsN r L k)) ∧ (Gr.edsN r L k).length ≤ 12 * k ∧ Rk.Kp gb w07 wr) (fun s62 _ => r.length - (intOf s62).toNat)
            case atStart => exact ⟨0, .slice none 0 0, rfl, Nat.zero_le _, HG7.out, World.ownsRow_nil _ _ _ _, Nat.zero_le _, Rk.Kp.refl _ _⟩
            case round =>
              obtain ⟨w08, hw08⟩ : ∃ x : World, x = wr := ⟨wr, rfl⟩
              subst hw08
              obtain ⟨k, vE, rfl, hk2, hgr, hown, hel, hkp⟩ := hrel
              have HGR := Lib.hid hgr
              have HOW := Lib.hid hown
              have HKP := Lib.hid hkp
              have hsz8 : B3 ≤ w08.heap.size := by rw [HB3.out]; exact hkp.size
              have hb8 := HB7.out.trans (hkp.below (show w.heap.size ≤ gb by have := HGB.out; omega) HB7.out.size)
              by_cases hlk : k < r.length
              · have k1 : decide ((k : Int) < (r.length : Int)) = true := decide_eq_true (by omega)
                have k1n : decide (k < r.length) = true := decide_eq_true hlk
                have y1 : (k : Int) < (r.length : Int) := by omega
                obtain ⟨g0, o, rfl, hg, hc⟩ := HA.out.st k hlk
                have d0 := (hb8.cell (p := ⟨g0, o + k * 6 + 0, none⟩) hg).trans (hc 0 _ rfl)
                have d1 := (hb8.cell (p := ⟨g0, o + k * 6 + 1, none⟩) hg).trans (hc 1 _ rfl)
                have d2 := (hb8.cell (p := ⟨g0, o + k * 6 + 2, none⟩) hg).trans (hc 2 _ rfl)
                have d3 := (hb8.cell (p := ⟨g0, o + k * 6 + 3, none⟩) hg).trans (hc 3 _ rfl)
                have d4 := (hb8.cell (p := ⟨g0, o + k * 6 + 4, none⟩) hg).trans (hc 4 _ rfl)
                have d5 := (hb8.cell (p := ⟨g0, o + k * 6 + 5, none⟩) hg).trans (hc 5 _ rfl)
                rw [show o + k * 6 + 0 = o + k * 6 from rfl] at d0
                obtain ⟨g1, o1, hxA, hg1, hc1⟩ := (HA.out.rd r[k] (List.getElem_mem hlk)).row (HZR.out k hlk).1
                have HC1 := Lib.hid hc1
                have hxz := HZR.out k hlk
                have HES := Lib.hid (Gr.edsN_succ (L := L) hlk)
                have HIN := Lib.hid (show ∀ t ∈ Rk.Rc.tcs r[k], t.pth ∈ L from fun t ht => (HNOD.out.2 _).2 (List.mem_flatMap.2 ⟨r[k], List.getElem_mem hlk, List.mem_map.2 ⟨t, ht, rfl⟩⟩))
                clear hc hc1
                generalize r[k] = x at *
                obtain ⟨W2, hW2⟩ : ∃ W2, W2 = w08.alloc (Rk.dnO x) := ⟨_, rfl⟩
                have hbx : Below w08.heap.size w08 W2 := by rw [hW2]; exact (Below.refl _ _).alloc (Nat.le_refl _) _
                have hx2 : W2.heap[w08.heap.size]? = some (Rk.dnO x) := by rw [hW2]; exact heap_alloc_new _ _
                obtain ⟨bx, hbxe⟩ : ∃ bx, bx = w08.heap.size := ⟨_, rfl⟩
                rw [← hbxe] at hx2
                go_upto_region 22 with (fail)
                rw [← hxA, ← hW2, ← hbxe]
                have HBX := Lib.hid (show B3 ≤ bx ∧ gb ≠ bx from ⟨by rw [hbxe]; exact hsz8, by have := HGB3.out; omega⟩)
                clear d0 d1 d2 d3 d4 d5 hW2 hbxe
                have e3 : W2.cell? ⟨bx, 3, none⟩ = some (.slice x.A x.rds.length x.c) := by rw [cell_of_row _ _ _ _ _ _ hx2]; rfl
                rw [hxA] at e3
                have HX2 := Lib.hid hx2
                have HG2 := Lib.hid ((hbx.block _ (blk_lt HGR.out)).trans HGR.out)
                have HO2 := Lib.hid (Rk.own_below HOW.out hbx)
                have HK2 := Lib.hid (HKP.out.trans (Rk.Kp.of_below hbx))
                obtain ⟨E0, hE0⟩ : ∃ E0, E0 = Gr.edsN r L k := ⟨_, rfl⟩
                rw [← hE0] at HO2 HES hel
                clear hgr hown hkp hb8 hbx hx2 hxA hE0 HGR HOW HKP
                go_wp2_with fail
                clear e3
                go_loopw [70] (fun s70 wr => ∃ (j : Nat) (vE : Value), s70 = .int .i64 j ∧ j ≤ x.rds.length ∧ wr.heap[gb]? = some (.cells #[.slice AN L.length cN, vE] 25 (0, 0)) ∧ wr.heap[bx]? = some (Rk.dnO x) ∧ wr.ownsRow B3 56 3 vE (E0 ++ Gr.edsS L k x j).length (Gr.edsV (E0 ++ Gr.edsS L k x j)) ∧ Rk.Kp gb w07 wr) (fun s70 _ => x.rds.length - (intOf s70).toNat)
                case atStart => exact ⟨0, vE, rfl, Nat.zero_le _, HG2.out, HX2.out, by rw [show Gr.edsS L k x 0 = [] from rfl, List.append_nil]; exact HO2.out, HK2.out⟩
                case round =>
                  clear HG2 HX2 HO2 HK2
                  obtain ⟨j, vF, rfl, hj, hgr, hxr, hown, hkp⟩ := hrel
                  have hel2 := Gr.edsS_len L k x j
                  by_cases hlj : j < x.rds.length
                  · have m1 : decide ((j : Int) < (x.rds.length : Int)) = true := decide_eq_true (by omega)
                    have m1n : decide (j < x.rds.length) = true := decide_eq_true hlj
                    have y4 : (j : Int) < (x.rds.length : Int) := by omega
                    have hb10 := HB7.out.trans (hkp.below (show w.heap.size ≤ gb by have := HGB.out; omega) HB7.out.size)
                    have f0 := (hb10.cell (p := ⟨g1, o1 + j * 2 + 0, none⟩) hg1).trans (HC1.out j hlj 0 _ rfl)
                    have f1 := (hb10.cell (p := ⟨g1, o1 + j * 2 + 1, none⟩) hg1).trans (HC1.out j hlj 1 _ rfl)
                    rw [show o1 + j * 2 + 0 = o1 + j * 2 from rfl] at f0
                    have HSS := Lib.hid (Gr.edsS_succ (L := L) (i := k) hlj)
                    have htL := HIN.out x.rds[j] (List.mem_append_left _ (List.getElem_mem hlj))
                    have hwL := HIN.out x.wr (List.mem_append_right _ (List.mem_singleton.2 rfl))
                    generalize x.rds[j] = t at *
                    have hmp : Rk.Mp wr b n3 (gF L C L.length) := HMA.out.block (hkp.block b (by have := HGB3.out; have := HB3.out; omega) (by have := HGB.out; omega))
                    have hsz : B3 ≤ wr.heap.size := by rw [HB3.out]; exact hkp.size
                    have hba : Below wr.heap.size wr (wr.alloc (Rk.tcO t)) := (Below.refl _ _).alloc (Nat.le_refl _) _
                    have ht2 := heap_alloc_new wr (Rk.tcO t)
                    have ha1 := (hmp.next hba).get Tryz.underlying60 (zIntG _) t.pth (by have := HPL.out _ htL; unfold maxLen; omega)
                    have ha2 := (hmp.next hba).get Tryz.underlying60 (zIntG _) x.wr.pth (by have := HPL.out _ hwL; unfold maxLen; omega)
                    rw [gF_all htL] at ha1
                    rw [gF_all hwL] at ha2
                    rw [show (Option.getD (some (Value.int .i64 (Gr.idx L t.pth))) (.int .i64 0)) = .int .i64 (Gr.idx L t.pth) from rfl] at ha1
                    rw [show (Option.getD (some (Value.int .i64 (Gr.idx L x.wr.pth))) (.int .i64 0)) = .int .i64 (Gr.idx L x.wr.pth) from rfl] at ha2
                    have hgr3 := (hba.block _ (blk_lt hgr)).trans hgr
                    have hxr3 := (hba.block _ (blk_lt hxr)).trans hxr
                    have hown3 := Rk.own_below hown hba
                    have hkp3 := hkp.trans (Rk.Kp.of_below (b := gb) hba)
                    have hsz3 := Nat.le_trans hsz hba.size
                    obtain ⟨bt, hbt⟩ : ∃ bt, bt = wr.heap.size := ⟨_, rfl⟩
                    rw [← hbt] at ht2
                    obtain ⟨W3, hW3⟩ : ∃ W3, W3 = wr.alloc (Rk.tcO t) := ⟨_, rfl⟩
                    go_upto_region 25 with (fail)
                    rw [← hW3, ← hbt]
                    rw [← hW3] at ha1 ha2 hgr3 hxr3 hown3 hkp3 hsz3 ht2
                    clear f0 f1 hba hmp hgr hxr hown hkp hsz hb10 hW3 hbt htL hwL
                    obtain ⟨q0, q1, _, z1⟩ := gr_cells hgr3
                    have s0 : W3.cell? ⟨bt, 0, none⟩ = some (.string (str t.pth)) := by rw [cell_of_row _ _ _ _ _ _ ht2]; rfl
                    have s4 : W3.cell? ⟨bx, 4, none⟩ = some (.string (str x.wr.pth)) := by rw [cell_of_row _ _ _ _ _ _ hxr3]; rfl
                    generalize Gr.idx L t.pth = a1 at *
                    generalize Gr.idx L x.wr.pth = a2 at *
                    have hbn : Below W3.heap.size W3 (W3.alloc (.cells #[.int .i64 a1, .int .i64 a2, .int .i64 (k : Int)] 56)) := (Below.refl _ _).alloc (Nat.le_refl _) _
                    have hon := Rk.own_below hown3 hbn
                    have hsn := Nat.le_trans hsz3 hbn.size
                    obtain ⟨v', w5, hrun, hown5, hg5⟩ := app_eg 23 (W3.alloc (.cells #[.int .i64 a1, .int .i64 a2, .int .i64 (k : Int)] 56)) B3 vF (E0 ++ Gr.edsS L k x j) [⟨a1, a2, (k : Int)⟩] hon (some ⟨W3.heap.size, 0, none⟩) 1 (one_ed W3 a1 a2 k) hsn (by rw [List.length_append]; simp; omega)
                    rw [show ([⟨a1, a2, (k : Int)⟩] : List Ed).length = 1 from rfl] at hrun
                    obtain ⟨E5, hE5⟩ : ∃ E5, E5 = E0 ++ Gr.edsS L k x j ++ [⟨a1, a2, (k : Int)⟩] := ⟨_, rfl⟩
                    rw [← hE5] at hown5
                    have HE5 := Lib.hid hE5
                    clear hE5
                    obtain ⟨A5, c5, rfl, _, _, _⟩ := Rk.Rc.own_el Gr.edV 3 Gr.edV_len hown5
                    have hneg : vF.ownBlock ≠ some gb := fun e => by have := (hon.lt gb e).1; have := HGB3.out; omega
                    have hnex : vF.ownBlock ≠ some bx := fun e => by
                      obtain ⟨c2, f2, k2⟩ := Lib.ownsRow_kind hon bx e
                      exact Rk.kind_ne ((hbn.block _ (blk_lt hxr3)).trans hxr3) k2 (by decide) rfl
                    have hgr5 := (hg5.block gb (blk_lt ((hbn.block _ (blk_lt hgr3)).trans hgr3)) (fun e => hneg e.symm)).trans ((hbn.block _ (blk_lt hgr3)).trans hgr3)
                    have hxr5 := (hg5.block bx (blk_lt ((hbn.block _ (blk_lt hxr3)).trans hxr3)) (fun e => hnex e.symm)).trans ((hbn.block _ (blk_lt hxr3)).trans hxr3)
                    have hb5 := Rk.below_own hon hsn hg5
                    have hb35 : Below B3 W3 w5 := (hbn.mono hsz3).trans hb5
                    obtain ⟨p0, p1, _, z5⟩ := gr_cells hgr5
                    have HG6 := Lib.hid (heap_setCell_same w5 gb 1 _ _ (.slice A5 E5.length c5) hgr5)
                    have HX6 := Lib.hid ((heap_setCell_other w5 ⟨gb, 1, none⟩ bx (.slice A5 E5.length c5) (show bx ≠ gb by have := HBX.out; omega)).trans hxr5)
                    have HO6 := Lib.hid (show (w5.setCell ⟨gb, 1, none⟩ (.slice A5 E5.length c5)).ownsRow B3 56 3 (.slice A5 E5.length c5) (E0 ++ Gr.edsS L k x (j + 1)).length (Gr.edsV (E0 ++ Gr.edsS L k x (j + 1))) by
                      rw [HSS.out, ← List.append_assoc, ← HE5.out]
                      exact Rk.own_same hown5 fun q hq => heap_setCell_other w5 ⟨gb, 1, none⟩ q _ (show q ≠ gb by have := (hown5.lt q hq).1; have := HGB3.out; omega))
                    have HK6 := Lib.hid (show Rk.Kp gb w07 (w5.setCell ⟨gb, 1, none⟩ (.slice A5 E5.length c5)) from by
                      have h1 : Rk.Kp gb w07 w5 := ⟨hb35.os.trans hkp3.os, hb35.tape.trans hkp3.tape, hb35.output.trans hkp3.output, Nat.le_trans hkp3.size hb35.size, fun q hq hne => (hb35.block q (by rw [HB3.out]; exact hq)).trans (hkp3.block q hq hne)⟩
                      exact ⟨h1.os, h1.tape, h1.output, by simpa using h1.size, fun q hq hne => (heap_setCell_other w5 ⟨gb, 1, none⟩ q _ hne).trans (h1.block q hq hne)⟩)
                    clear hbn hon hsn hown5 hg5 hneg hnex hgr5 hxr5 hb5 hb35 hgr3 hxr3 hown3 hkp3 hsz3 ht2
                    go_wp2_with (at_builtin; refine Lib.wpList_append_run _ rfl _ _ _ _ rfl _ _ rfl rfl _ _ hrun ?_)
                    go_roundw
                    case rel => exact ⟨j + 1, _, by go_num, by omega, HG6.out, HX6.out, HO6.out, HK6.out⟩
                    case measure => simp [intOf]; omega
                  · have m1 : decide ((j : Int) < (x.rds.length : Int)) = false := decide_eq_false (by omega)
                    have m1n : decide (j < x.rds.length) = false := decide_eq_false hlj
                    have hjl : j = x.rds.length := by omega
                    have HO6 := Lib.hid (show wr.ownsRow B3 56 3 vF (Gr.edsN r L (k + 1)).length (Gr.edsV (Gr.edsN r L (k + 1))) by rw [HES.out, ← hjl]; exact hown)
                    have HL6 := Lib.hid (show (Gr.edsN r L (k + 1)).length ≤ 12 * (k + 1) by rw [HES.out, List.length_append, ← hjl]; omega)
                    have HG6 := Lib.hid hgr
                    have HK6 := Lib.hid hkp
                    clear hgr hxr hown hkp hjl
                    go_wp2_with fail
                    go_roundw
                    case rel => exact ⟨k + 1, vF, by go_num, by omega, HG6.out, HO6.out, HL6.out, HK6.out⟩
                    case measure => simp [intOf]; omega
              · have k1 : decide ((k : Int) < (r.length : Int)) = false := decide_eq_false (by omega)
                have k1n : decide (k < r.length) = false := decide_eq_false hlk
                have hkr : k = r.length := by omega
                rw [hkr] at hown
                obtain ⟨BE, cE, rfl, _, _, _⟩ := Rk.Rc.own_el Gr.edV 3 Gr.edV_len hown
                obtain ⟨es, hes⟩ : ∃ es, es = Gr.edsN r L r.length := ⟨_, rfl⟩
                have HOE := Lib.hid (show w08.ownsRow B3 56 3 (.slice BE es.length cE) es.length (Gr.edsV es) by rw [hes]; exact hown)
                have HEL := Lib.hid (show es.length ≤ 144 by rw [hes, ← hkr]; omega)
                rw [← hes] at HGR hgr
                have HES := Lib.hid hes
                have HN8 := Lib.hid ((hkp.block w.heap.size (by have := blk_lt HNZ7.out; omega) (by have := HGB.out; omega)).trans HNZ7.out)
                have HS8 := Lib.hid (show Rk.Rc.StAt w08 gb AN L from fun j hj => by
                  obtain ⟨g', o', e, hg', hc'⟩ := HS7.out j hj
                  exact ⟨g', o', e, hg', fun i u hu => by
                    rw [cell_same (hkp.block g' (by have := HGB3.out; have := HB3.out; omega) (by omega))]; exact hc' i u hu⟩)
                have HB8 := Lib.hid hb8
                have HSZ8 := Lib.hid hsz8
                obtain ⟨q0, q1, _, _⟩ := gr_cells hgr
                have cB := large_any ⟨L, es⟩ AN BE cN cE w08
                have hbig : Gr.big ⟨L, es⟩ = false := by
                  have h1 := HEL.out
                  unfold Gr.big
                  rw [decide_eq_false (by show ¬ 1024 < L.length; omega), decide_eq_false (by show ¬ 1024 < es.length; omega)]; rfl
                rw [hbig] at cB
                clear hgr hown hkp hkr hes hb8 hsz8 hbig hel
                go_wp2_with fail
                with_reducible refine cB.mono ?_
                clear cB q0 q1
                rintro e w9 ⟨rfl, hb9⟩
                have HG9' := Lib.hid ((hb9.block _ (blk_lt HGR.out)).trans HGR.out)
                have HN9' := Lib.hid ((hb9.block _ (blk_lt HN8.out)).trans HN8.out)
                have HS9' := Lib.hid (HS8.out.keep (hb9.mono (by have := HGB3.out; have := HSZ8.out; omega)))
                have HB9' := Lib.hid (HB8.out.trans (hb9.mono HB8.out.size))
                have HO9 := Lib.hid (Rk.own_below HOE.out hb9)
                obtain ⟨q0, q1, _, _⟩ := gr_cells HG9'.out
                have cS := sort_any es B3 _ w9 HO9.out (by have := HEL.out; omega)
                clear hb9
                go_wp2_with fail
                with_reducible refine cS.mono ?_
                clear cS q0 q1
                rintro e w10 ⟨rfl, d, hperm, hsrt, hdl, hown10, hb10⟩
                have HD := Lib.hid (show Gr.EdL r L d from ⟨by rw [← HES.out]; exact hperm, hsrt⟩)
                have hg10 := (hb10.block gb (by have := HGB3.out; omega)).trans HG9'.out
                have hn10 := (hb10.block w.heap.size (by have := HGB3.out; have := HGB.out; omega)).trans HN9'.out
                have hs10 := HS9'.out.keep (hb10.mono (by have := HGB3.out; omega))
                have hbw10 := HB9'.out.trans (hb10.mono (by have := HGB3.out; have := HGB.out; omega))
                obtain ⟨q0, q1, _, _⟩ := gr_cells hg10
                obtain ⟨r0, r1, z0, z1⟩ := gr_cells hn10
                rw [← hdl] at q1 hown10
                obtain ⟨A9, c9, e9, _, _, hel9⟩ := Rk.Rc.own_el Gr.edV 3 Gr.edV_len hown10
                injection e9 with e9 _ e9c
                subst e9 e9c
                obtain ⟨WF, hWF⟩ : ∃ WF, WF = (w10.setCell ⟨w.heap.size, 0, none⟩ (.slice AN L.length cN)).setCell ⟨w.heap.size, 1, none⟩ (.slice BE d.length cE) := ⟨_, rfl⟩
                have hot : ∀ q, q ≠ w.heap.size → WF.heap[q]? = w10.heap[q]? := fun q hq => by
                  rw [hWF]
                  exact (heap_setCell_other _ ⟨w.heap.size, 1, none⟩ q _ hq).trans (heap_setCell_other w10 ⟨w.heap.size, 0, none⟩ q _ hq)
                have hsF : WF.heap.size = w10.heap.size := by rw [hWF]; simp
                have HBF := Lib.hid (show Below w.heap.size w WF by rw [hWF]; exact (hbw10.setCell (p := ⟨w.heap.size, 0, none⟩) (Nat.le_refl _) _).setCell (p := ⟨w.heap.size, 1, none⟩) (Nat.le_refl _) _)
                have HGF := Lib.hid (show GrAt WF AN BE ⟨L, d⟩ from ⟨fun j hj => by
                    obtain ⟨g', o', e, hg', hc'⟩ := hs10 j hj
                    exact ⟨g', o', e, by rw [hsF]; have := HGB3.out; have := hb10.size; have := (blk_lt hg10); omega, fun i u hu => by
                      rw [cell_same (hot g' (by have := HFAR.out g' o' e; omega))]; exact hc' i u hu⟩,
                  fun j hj => by
                    obtain ⟨g', o', e, hg', hc'⟩ := hel9 j hj
                    have hlt := (hown10.lt g' (by rw [e]; rfl)).1
                    exact ⟨g', o', e, by rw [hsF]; exact hg', fun i u hu => by
                      rw [cell_same (hot g' (by have := HGB3.out; have := HGB.out; omega))]; exact hc' i u hu⟩,
                  by show L.length ≤ _; omega, by show d.length ≤ _; have := HEL.out; omega⟩)
                have HOF := Lib.hid (show Gr.OfP r ⟨L, d⟩ 0 from .inr ⟨HZ.out, rfl, HNOD.out, HD.out⟩)
                clear hperm hsrt hg10 hs10 hbw10 hb10 hel9 hot hsF hown10 hdl hn10
                go_wp2_with fail
                first | rw [← hWF] | skip
                exact bodyPost_ret (v := .tuple #[grV AN BE cN cE ⟨L, d⟩, .int .i64 0]) (by rw [hWF]; simp [results, Tryz.results8, go_sem, r0, r1]) rfl ⟨_, AN, BE, cN, cE, 0, rfl, HOF.out, by first | exact HGF.out | (rw [hWF] at HGF; exact HGF.out), by first | exact HBF.out | (rw [hWF] at HBF; exact HBF.out)⟩
  · have HOF := Lib.hid (show Gr.OfP r ⟨[], []⟩ 1 from .inl ⟨hz, rfl, rfl⟩)
    generalize hce : Rk.Rc.chk r = ce at *
    have z1 : (ce != 0) = true := by rw [bne_iff_ne]; exact hz
    have z2 : (ce == 0) = false := by rw [beq_eq_false_iff_ne]; exact hz
    have HB0 := Lib.hid hb0
    have HN0 := Lib.hid hN0
    clear hA hS hz hM hb0 hN0 hce
    go_enter Tryz.func8, Tryz.ntmps8
    go_wp2_with fail
    with_reducible refine cc.mono ?_
    clear cc
    rintro e w1 ⟨rfl, hb1⟩
    have HB1 := Lib.hid (HB0.out.trans (hb1.mono HB0.out.size))
    have hn1 := (hb1.block _ (blk_lt HN0.out)).trans HN0.out
    obtain ⟨r0, r1, y0, y1⟩ := gr_cells hn1
    have HBF := Lib.hid ((HB1.out.setCell (p := ⟨w.heap.size, 0, none⟩) (Nat.le_refl _) (.slice none 0 0)).setCell (p := ⟨w.heap.size, 1, none⟩) (Nat.le_refl _) (.slice none 0 0))
    clear hb1 hn1
    go_wp2_with fail
    exact bodyPost_ret (v := .tuple #[grV none none 0 0 ⟨[], []⟩, .int .i64 1]) (by simp [results, Tryz.results8, go_sem, r0, r1]) rfl ⟨_, none, none, 0, 0, 1, rfl, HOF.out, ⟨Gr.ElAt.nil _ _ _ _ _, Gr.ElAt.nil _ _ _ _ _, by simp, by simp⟩, HBF.out⟩
end Go.Proofs.YtjemffgidhgfjaaGreatDoor
