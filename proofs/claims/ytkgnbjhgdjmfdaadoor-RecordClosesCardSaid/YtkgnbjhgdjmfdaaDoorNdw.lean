/- needed, Needed. -/
import Derived.Test.YtkgnbjhgdjmfdaaDoorRev
import Derived.Deep.DeepAppendWide
namespace Go.Proofs.YtkgnbjhgdjmfdaaDoor
open Go.RowKit Go.Deep Go.Maps Tr

/-- A list of numbers comes back. -/
def GotN (w : World) (P : List Nat → Prop) (e : Ending) (w' : World) : Prop := ∃ (L : List Nat) (A : Option Addr) (c : Nat), e = .returned (.slice A L.length c) ∧ P L ∧ L.length ≤ 1024 ∧ Rc.InAt w' w'.heap.size A (Rc.nats L) ∧ Below w.heap.size w w'
theorem infoBl : (Tryd.prog.info? 4).map (fun i => (i.zero, i.size, i.bytes)) = some (some (.bool false), 1, 1) := by kernel_rfl
set_option maxHeartbeats 8000000 in
set_option maxRecDepth 100000 in
theorem needed_any (r : List Dn) (p : List UInt8) (A : Option Addr) (c : Nat) (v : Value) (w : World) (hA : RcAt w A r) (hS : r.length ≤ 1024 → Sht r) (hp : p.length ≤ maxLen) (hv : MapV w v (Rc.wr0 r)) :
    Calls Tryd.prog 33 #[.slice A r.length c, v, .string (str p)] w (GotN w (Rc.NdL r p)) := by
  have hl := hv w (Below.refl _ _) p hp
  cases hq : Rc.wr0 r p with
  | none =>
    rw [hq] at hl
    rw [show ((Option.getD (none : Option Nat) 0 : Nat) : Int) = 0 from rfl, show (none : Option Nat).isSome = false from rfl] at hl
    have HT := Lib.hid (Rc.NdL.none hq)
    clear hq hA hS hv
    go_enter Tryd.func33, Tryd.ntmps33
    go_wp2_with fail
    go_ret
    exact ⟨[], none, 0, rfl, HT.out, by simp, Rc.ElAt.nil _ _ _ _ _, Below.refl _ _⟩
  | some last =>
    rw [hq] at hl
    rw [show ((Option.getD (some last : Option Nat) 0 : Nat) : Int) = (last : Int) from rfl, show (some last).isSome = true from rfl] at hl
    obtain ⟨hch, hlast, _⟩ := Rc.wr0_some hq
    have hL := (Rc.zero_chk hch).1
    have HS := Lib.hid (hS hL)
    obtain ⟨nb, hnb⟩ : ∃ nb : Nat → Bool, ∀ j, nb j = true ↔ Rc.Ned r p j := ⟨fun j => @decide (Rc.Ned r p j) (Classical.propDecidable _), fun j => by rw [@decide_eq_true_iff _ (Classical.propDecidable _)]⟩
    have HNB := Lib.hid hnb
    have HQ := Lib.hid hq
    have HA := Lib.hid hA
    have HV := Lib.hid hv
    obtain ⟨g0, o, rfl, hg, hcr⟩ := hA.st.row (by omega)
    have HCR := Lib.hid hcr
    have HZ := Lib.hid (show ∀ i (h : i < r.length), 0 < r[i].rds.length ∧ r[i].rds.length ≤ 1024 from fun i h => Rc.head_len (Rc.zero_step ((Rc.zero_chk hch).2 i h)).1)
    clear hcr
    obtain ⟨i0, hi0, hz0, hz1, hz2⟩ := info_parts infoBl
    obtain ⟨i1, hj0, hx0, hx1, hx2⟩ := info_parts infoIn
    have wj : IntKind.i64.wrap ((last : Int) + 1) = ((last + 1 : Nat) : Int) := (IntWalk.i64_in _ (by omega)).trans (by omega)
    have hmk : (Instr.makeSlice 59 (.int .i64 ((last + 1 : Nat) : Int)) (.int .i64 ((last + 1 : Nat) : Int))).run Tryd.prog w = .ok (.slice (some ⟨w.heap.size, 0, none⟩) (last + 1) (last + 1)) (w.alloc (.cells (madeCells #[.bool false] (last + 1)) 4)) :=
      run_make_row (P := Tryd.prog) 59 4 i0 (.bool false) Tryd.underlying59 hi0 hz0 hz1 rfl .i64 .i64 (last + 1) (by rw [hz2]; omega) (by omega) w
    rw [show ((last + 1 : Nat) : Int) = (last : Int) + 1 from rfl] at hmk wj
    have hr0 := World.rowIs_made w (.bool false) (last + 1) 4
    have hr1 := (hr0.set last (.bool true)).congr (g := fun m => .bool (decide (m = last))) fun i _ => by
      by_cases e : i = last
      · rw [if_pos e, decide_eq_true e]
      · rw [if_neg e, decide_eq_false e]
    have f0 := hr0.frozen last
    have e0 := hr0.cell (show last < last + 1 by omega)
    have y0 : (last : Int) < (last : Int) + 1 := by omega
    clear hq hnb hA hS hv hch
    go_enter Tryd.func33, Tryd.ntmps33
    go_wp2_with fail
    have hb1 : Below w.heap.size w (w.alloc (.cells ((madeCells #[.bool false] (last + 1)).setIfInBounds last (.bool true)) 4)) := (Below.refl _ _).alloc (Nat.le_refl _) _
    have hs1 : (w.alloc (.cells ((madeCells #[.bool false] (last + 1)).setIfInBounds last (.bool true)) 4)).heap.size = w.heap.size + 1 := by simp
    have hr2 : (w.alloc (.cells ((madeCells #[.bool false] (last + 1)).setIfInBounds last (.bool true)) 4)).rowIs w.heap.size 4 (last + 1) (fun m => .bool (decide (m = last))) := by
      have hsz1 : (madeCells #[Value.bool false] (last + 1)).size = last + 1 := by simp [madeCells]
      have h1 := World.rowIs_alloc w ((madeCells #[.bool false] (last + 1)).setIfInBounds last (.bool true)) 4 (fun m => .bool (decide (m = last))) (fun i hi => by
        rw [Array.size_setIfInBounds, hsz1] at hi
        rw [Array.getElem?_setIfInBounds]
        by_cases e : last = i
        · rw [if_pos e, if_pos (by rw [hsz1]; omega), decide_eq_true e.symm]
        · rw [if_neg e, decide_eq_false (fun h => e h.symm)]
          simp [madeCells, hi, Nat.mod_one])
      rw [Array.size_setIfInBounds, hsz1] at h1
      exact h1
    clear hr0 hr1 f0 e0 hmk y0 hl
    generalize w.alloc (.cells ((madeCells #[.bool false] (last + 1)).setIfInBounds last (.bool true)) 4) = W at *
    obtain ⟨gn, hgn⟩ : ∃ gn, gn = w.heap.size := ⟨_, rfl⟩
    rw [← hgn] at hr2
    rw [← hgn]
    have HG := Lib.hid hgn
    obtain ⟨Bc, hBc⟩ : ∃ Bc, Bc = gn + 1 := ⟨_, rfl⟩
    have HBc := Lib.hid hBc
    have hBW : Bc ≤ W.heap.size := by omega
    clear hgn hBc hs1
    go_loopw [10, 11] (fun s10 s11 wr => ∃ (k : Nat) (M : Nat → Bool), s11 = .int .i64 ((k : Int) - 1) ∧ k ≤ last + 1 ∧ wr.rowIs gn 4 (last + 1) (fun m => .bool (M m)) ∧ Rc.Mk r last nb k M ∧ wr.ownsRow Bc 3 1 s10 (Rc.nds nb k (last + 1 - k)).length (Rc.insV (Rc.nats (Rc.nds nb k (last + 1 - k)).reverse)) ∧ Below w.heap.size w wr ∧ Bc ≤ wr.heap.size) (fun _ s11 _ => (intOf s11 + 1).toNat)
    case atStart =>
      refine ⟨last + 1, _, by go_num, Nat.le_refl _, hr2, Rc.Mk.init r last nb, ?_, hb1, hBW⟩
      rw [Nat.sub_self]
      exact World.ownsRow_nil _ _ _ _
    case round =>
      clear hr2 hb1 hBW
      obtain ⟨k, M, hs11, hk, hrow, hmk, hown, hb, hsz⟩ := hrel
      cases k with
      | zero =>
        subst hs11
        have q1 : decide ((0 : Int) ≤ ((0 : Nat) : Int) - 1) = false := by decide
        have HM := Lib.hid (Rc.NdL.of HQ.out HNB.out)
        have HO := Lib.hid hown
        have HB := Lib.hid hb
        have HLn := Lib.hid (Rc.nds_len nb 0 (last + 1))
        clear hrow hmk
        rw [show last + 1 - 0 = last + 1 from rfl] at hown
        have hlr : (Rc.nats (Rc.nds nb 0 (last + 1)).reverse).length = (Rc.nds nb 0 (last + 1)).length := by rw [Rc.nats_len, List.length_reverse]
        rw [← hlr] at hown
        have cr := reverse_any _ _ _ _ hown (by rw [hlr]; have := HLn.out; omega)
        rw [hlr] at cr
        clear hown hb HO
        go_wp2_with fail
        with_reducible refine cr.mono ?_
        clear cr
        rintro e w5 ⟨rfl, ⟨A5, c5, rfl, hin⟩, hb5⟩
        have HI := Lib.hid (show Rc.InAt w5 w5.heap.size A5 (Rc.nats (Rc.nds nb 0 (last + 1))) by
          have : (Rc.nats (Rc.nds nb 0 (last + 1)).reverse).reverse = Rc.nats (Rc.nds nb 0 (last + 1)) := by unfold Rc.nats; rw [List.map_reverse, List.reverse_reverse]
          rw [this] at hin; exact hin)
        have HB5 := Lib.hid (HB.out.trans (hb5.mono (by rw [HBc.out, HG.out]; omega)))
        clear hin hb5
        go_wp2_with fail
        go_ret
        exact ⟨_, A5, c5, rfl, HM.out, by have := HLn.out; omega, HI.out, HB5.out⟩
      | succ i =>
        rw [show (((i + 1 : Nat) : Int) - 1) = (i : Int) by omega] at hs11
        subst hs11
        have hil : i ≤ last := by omega
        have hMi := hmk.at HQ.out HNB.out hil
        have e1 := hrow.cell (show i < last + 1 by omega)
        rw [hMi] at e1
        have y1 : (i : Int) < (last : Int) + 1 := by omega
        have wi : IntKind.i64.wrap ((i : Int) - 1) = (i : Int) - 1 := IntWalk.i64_in _ (by omega)
        have HO := Lib.hid hown
        have HR := Lib.hid hrow
        have HB := Lib.hid hb
        have HK := Lib.hid hmk
        have hnc := Rc.nds_cons nb i (last - i)
        rw [show last - i + 1 = last + 1 - i by omega, show last - i = last + 1 - (i + 1) by omega] at hnc
        clear hown hrow hb hmk hMi
        cases hn : nb i with
        | false =>
          rw [hn] at e1
          rw [hn, if_neg (by decide)] at hnc
          have HK2 := Lib.hid (HK.out.skip hn)
          have HNC := Lib.hid hnc
          clear hnc hn
          go_wp2_with fail
          go_roundw
          case rel => exact ⟨i, M, rfl, by omega, HR.out, HK2.out, by rw [HNC.out]; exact HO.out, HB.out, hsz⟩
          case measure => simp [intOf]
        | true =>
          rw [hn] at e1
          rw [hn, if_pos rfl] at hnc
          have HNC := Lib.hid hnc
          have HNT := Lib.hid hn
          have hir : i < r.length := by omega
          have y2 : (i : Int) < (r.length : Int) := by omega
          have hxz := HZ.out i hir
          obtain ⟨g1, o1, hxA, hg1, hc1⟩ := (HA.out.rd r[i] (List.getElem_mem hir)).row hxz.1
          have HC1 := Lib.hid hc1
          have hd3 := HCR.out i hir 3 _ rfl
          rw [hxA] at hd3
          have HX := Lib.hid (show r[i]? = some r[i] from List.getElem?_eq_getElem hir)
          have HSP := Lib.hid (show ∀ t ∈ r[i].rds, t.pth.length ≤ 100000000 from fun t ht => HS.out.p r[i] (List.getElem_mem hir) t (List.mem_append_left _ ht))
          clear hxA hc1
          generalize r[i] = x at *
          have hLn := Rc.nds_len nb (i + 1) (last + 1 - (i + 1))
          have hsa : Bc ≤ (wr.alloc (.cells #[.int .i64 i] 3)).heap.size := by simp; omega
          have HOA := Lib.hid (HO.out.alloc (.cells #[.int .i64 (i : Int)] 3))
          have HRA := Lib.hid (HR.out.alloc (.cells #[.int .i64 (i : Int)] 3))
          have HBA := Lib.hid (HB.out.alloc HB.out.size (.cells #[.int .i64 (i : Int)] 3))
          clear hnc hn
          go_wp2_with (at_builtin; refine wpList_append_own_wide _ (by rfl) _ _ 30 (by rfl) Bc 3 i1 _ 1 8 Tryd.underlying30 hj0 hx0 hx1 hx2 rfl (by omega) _ (Rc.nds nb (i + 1) (last + 1 - (i + 1))).length _ (by rfl) HOA.out ⟨wr.heap.size, 0, none⟩ 1 1 [_] (by rfl) (by rfl) (World.news_of_block (cs := #[_]) (t := 3) (fr := (0, 0)) (heap_alloc_new wr _)) (by simp [Value.oneCell']) (by unfold maxLen; omega) (by omega) hsa ?_; intro v7 w7 hown7 hgrow7 _; have HB7 := Lib.hid (below_grown HBA.out HBA.out.size (own_mono HOA.out (show w.heap.size ≤ Bc by rw [HBc.out, HG.out]; omega)) hgrow7); have HR7 := Lib.hid (HRA.out.of_block (hgrow7.block gn HRA.out.lt (fun e => by have := (HOA.out.lt gn e.symm).1; have := HBc.out; omega))); have HS7 := Lib.hid (Nat.le_trans hsa hgrow7.size); have HO7 := Lib.hid hown7; have d3 := (HB7.out.cell (p := ⟨g0, o + i * 6 + 3, none⟩) hg).trans hd3; clear hgrow7 hown7)
          clear hd3 d3 hsa hsz e1
          obtain ⟨wo7, rfl⟩ : ∃ x : World, x = w7 := ⟨_, rfl⟩
          go_loopw [50] (fun s50 wr => ∃ (j : Nat) (M' : Nat → Bool), s50 = .int .i64 j ∧ j ≤ x.rds.length ∧ wr.rowIs gn 4 (last + 1) (fun m => .bool (M' m)) ∧ (∀ m, M' m = true ↔ (M m = true ∨ ∃ t ∈ x.rds.take j, Rc.wr0 r t.pth = some m)) ∧ wr.ownsRow Bc 3 1 v7 ((Rc.nds nb (i + 1) (last + 1 - (i + 1))).length + 1) (Rc.insV (Rc.nats (Rc.nds nb (i + 1) (last + 1 - (i + 1))).reverse) ++ [.int .i64 (i : Int)]) ∧ Below w.heap.size w wr ∧ Bc ≤ wr.heap.size) (fun s50 _ => x.rds.length - (intOf s50).toNat)
          case atStart => exact ⟨0, M, rfl, Nat.zero_le _, HR7.out, fun m => by simp, HO7.out, HB7.out, HS7.out⟩
          case round =>
            obtain ⟨j, M', rfl, hj, hrow, hM', hown, hb, hsz⟩ := hrel
            have HMM := Lib.hid hM'
            clear hM'
            by_cases hlj : j < x.rds.length
            · have b3 : decide ((j : Int) < (x.rds.length : Int)) = true := decide_eq_true (by omega)
              have b3n : decide (j < x.rds.length) = true := decide_eq_true hlj
              have y4 : (j : Int) < (x.rds.length : Int) := by omega
              have hd0 := (hb.cell (p := ⟨g1, o1 + j * 2 + 0, none⟩) hg1).trans (HC1.out j hlj 0 _ rfl)
              have hd1 := (hb.cell (p := ⟨g1, o1 + j * 2 + 1, none⟩) hg1).trans (HC1.out j hlj 1 _ rfl)
              rw [show o1 + j * 2 + 0 = o1 + j * 2 from rfl] at hd0
              have hPt := HSP.out x.rds[j] (List.getElem_mem hlj)
              have HTJ := Lib.hid (show x.rds.take (j + 1) = x.rds.take j ++ [x.rds[j]] from List.take_succ_eq_append_getElem hlj)
              have HLT := Lib.hid (fun m (h : Rc.wr0 r x.rds[j].pth = some m) => Rc.rd_lt HX.out (List.getElem_mem hlj) h)
              generalize x.rds[j] = t at *
              have hba : Below w.heap.size w (wr.alloc (tcO t)) := hb.alloc hb.size _
              have hl := HV.out (wr.alloc (tcO t)) hba t.pth (Nat.le_trans hPt (by unfold maxLen; omega))
              have HRA := Lib.hid (hrow.alloc (tcO t))
              have HOA := Lib.hid (hown.alloc (tcO t))
              have HBA := Lib.hid hba
              have HZA := Lib.hid (show Bc ≤ (wr.alloc (tcO t)).heap.size by simp; omega)
              clear hrow hown hb hba hsz
              cases hq : Rc.wr0 r t.pth with
              | none =>
                rw [hq] at hl
                rw [show ((Option.getD (none : Option Nat) 0 : Nat) : Int) = 0 from rfl, show (none : Option Nat).isSome = false from rfl] at hl
                have HM2 := Lib.hid (show ∀ m, M' m = true ↔ (M m = true ∨ ∃ t ∈ x.rds.take (j + 1), Rc.wr0 r t.pth = some m) from fun m => by
                  rw [HMM.out m, HTJ.out]
                  refine or_congr Iff.rfl ⟨fun ⟨u, hu, h⟩ => ⟨u, List.mem_append_left _ hu, h⟩, fun ⟨u, hu, h⟩ => ?_⟩
                  rcases List.mem_append.1 hu with h1 | h1
                  · exact ⟨u, h1, h⟩
                  · rw [List.mem_singleton.1 h1, hq] at h; cases h)
                clear hq HLT
                go_wp2_with fail
                go_roundw
                case rel => exact ⟨j + 1, M', by go_num, by omega, HRA.out, HM2.out, HOA.out, HBA.out, HZA.out⟩
                case measure => simp [intOf]; omega
              | some n =>
                rw [hq] at hl
                rw [show ((Option.getD (some n : Option Nat) 0 : Nat) : Int) = (n : Int) from rfl, show (some n).isSome = true from rfl] at hl
                have hni := HLT.out n hq
                have hnl : n < last + 1 := by omega
                have y6 : (n : Int) < (last : Int) + 1 := by omega
                have e8 := HRA.out.cell hnl
                have f8 := HRA.out.frozen n
                have HM2 := Lib.hid (show ∀ m, (if m = n then true else M' m) = true ↔ (M m = true ∨ ∃ t ∈ x.rds.take (j + 1), Rc.wr0 r t.pth = some m) from fun m => by
                  rw [HTJ.out]
                  by_cases hmn : m = n
                  · subst hmn
                    rw [if_pos rfl]
                    exact ⟨fun _ => .inr ⟨t, List.mem_append_right _ (List.mem_singleton.2 rfl), hq⟩, fun _ => rfl⟩
                  · rw [if_neg hmn, HMM.out m]
                    refine or_congr Iff.rfl ⟨fun ⟨u, hu, h⟩ => ⟨u, List.mem_append_left _ hu, h⟩, fun ⟨u, hu, h⟩ => ?_⟩
                    rcases List.mem_append.1 hu with h1 | h1
                    · exact ⟨u, h1, h⟩
                    · rw [List.mem_singleton.1 h1, hq] at h; cases h; exact absurd rfl hmn)
                have HS := Lib.hid ((HRA.out.set n (.bool true)).congr (g := fun m => .bool (if m = n then true else M' m)) fun m _ => by
                  by_cases e : m = n
                  · rw [if_pos e, if_pos e]
                  · rw [if_neg e, if_neg e])
                have HO := Lib.hid (show ((wr.alloc (tcO t)).setCell ⟨gn, n, none⟩ (.bool true)).ownsRow Bc 3 1 v7 _ _ from own_same HOA.out fun q hq => heap_setCell_other (wr.alloc (tcO t)) ⟨gn, n, none⟩ q _ (show q ≠ gn by have := (HOA.out.lt q hq).1; have := HBc.out; omega))
                have HB := Lib.hid (HBA.out.setCell (p := ⟨gn, n, none⟩) (show w.heap.size ≤ gn by rw [HG.out]; exact Nat.le_refl _) (.bool true))
                have HZ2 := Lib.hid (show Bc ≤ ((wr.alloc (tcO t)).setCell ⟨gn, n, none⟩ (.bool true)).heap.size by have := HZA.out; simpa using this)
                clear hq HLT hni
                go_wp2_with fail
                go_roundw
                case rel => exact ⟨j + 1, _, by go_num, by omega, HS.out, HM2.out, HO.out, HB.out, HZ2.out⟩
                case measure => simp [intOf]; omega
            · have b3 : decide ((j : Int) < (x.rds.length : Int)) = false := decide_eq_false (by omega)
              have b3n : decide (j < x.rds.length) = false := decide_eq_false hlj
              have HK2 := Lib.hid (HK.out.take (M' := M') hil HX.out HNT.out (fun m => by rw [HMM.out m, List.take_of_length_le (by omega)]))
              have HO2 := Lib.hid (show wr.ownsRow Bc 3 1 v7 (Rc.nds nb i (last + 1 - i)).length (Rc.insV (Rc.nats (Rc.nds nb i (last + 1 - i)).reverse)) by
                rw [HNC.out, List.length_cons, List.reverse_cons, Rc.nats_app, Rc.insV_app]; exact hown)
              have HR2 := Lib.hid hrow
              have HB2 := Lib.hid hb
              have HZ2 := Lib.hid hsz
              clear hrow hown hb hsz
              go_wp2_with fail
              go_roundw
              case rel => exact ⟨i, M', rfl, by omega, HR2.out, HK2.out, HO2.out, HB2.out, HZ2.out⟩
              case measure => simp [intOf]
set_option maxHeartbeats 2000000 in
set_option maxRecDepth 100000 in
theorem neededAll_any (r : List Dn) (p : List UInt8) (A : Option Addr) (c : Nat) (w : World) (hA : RcAt w A r) (hS : r.length ≤ 1024 → Sht r) (hM : MaxAt w) (hp : p.length ≤ maxLen) :
    Calls Tryd.prog 14 #[.slice A r.length c, .string (str p)] w (GotN w (Rc.NdL r p)) := by
  have cc := writers_any r A c w hA hS hM
  go_enter Tryd.func14, Tryd.ntmps14
  go_wp2_with fail
  with_reducible refine cc.mono ?_
  clear cc
  rintro e w1 ⟨v, rfl, hv, hb1⟩
  have cn := needed_any r p A c v w1 (hA.next hb1) hS hp hv
  have HB := Lib.hid hb1
  clear hv hb1 hA hS hM
  go_wp2_with fail
  with_reducible refine cn.mono ?_
  clear cn
  rintro e w2 ⟨L, A2, c2, rfl, hL, hl, hin, hb2⟩
  have HL := Lib.hid hL
  have HI := Lib.hid hin
  have HB2 := Lib.hid (HB.out.trans (hb2.mono HB.out.size))
  clear hL hin hb2
  go_wp2_with fail
  go_ret
  exact ⟨L, A2, c2, rfl, HL.out, hl, HI.out, HB2.out⟩
end Go.Proofs.YtkgnbjhgdjmfdaaDoor
