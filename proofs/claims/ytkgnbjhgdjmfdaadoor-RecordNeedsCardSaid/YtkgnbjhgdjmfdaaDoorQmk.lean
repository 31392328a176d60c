/- marks of the reference, at a valid record. No condition but the lengths. -/
import Derived.Test.YtkgnbjhgdjmfdaaDoorNdw
import Derived.Test.YtkgnbjhgdjmfdaaDoorQwr
namespace Go.Proofs.YtkgnbjhgdjmfdaaDoor
open Go.RowKit Go.Deep Tr

/-- A row of marks of its own comes back. -/
def GotM (w : World) (n : Nat) (nb : Nat → Prop) (e : Ending) (w' : World) : Prop := ∃ (g : Nat) (M : Nat → Bool), e = .returned (.slice (some ⟨g, 0, none⟩) n n) ∧ (∀ m, m < n → (M m = true ↔ nb m)) ∧ g < w'.heap.size ∧ w'.rowIs g 4 n (fun m => .bool (M m)) ∧ Below w.heap.size w w'
set_option maxHeartbeats 8000000 in
set_option maxRecDepth 100000 in
theorem qmarks_any (r : List Dn) (p : List UInt8) (A : Option Addr) (c : Nat) (w : World) (hA : RcAt w A r) (hz : Rc.chk r = 0) :
    Calls Tryd.prog 34 #[.slice A r.length c, .string (str p)] w (GotM w r.length (Rc.Ned r p)) := by
  have HA := Lib.hid hA
  have hL := (Rc.zero_chk hz).1
  have HFW := Lib.hid (Rc.fw_wrI hz)
  have HZ := Lib.hid (show ∀ i (h : i < r.length), 0 < r[i].rds.length ∧ r[i].rds.length ≤ 1024 from fun i h => Rc.head_len (Rc.zero_step ((Rc.zero_chk hz).2 i h)).1)
  obtain ⟨i0, hi0, hz0, hz1, hz2⟩ := info_parts infoBl
  have hmk : (Instr.makeSlice 59 (.int .i64 ((r.length : Nat) : Int)) (.int .i64 ((r.length : Nat) : Int))).run Tryd.prog w = .ok (.slice (some ⟨w.heap.size, 0, none⟩) r.length r.length) (w.alloc (.cells (madeCells #[.bool false] r.length) 4)) :=
    run_make_row (P := Tryd.prog) 59 4 i0 (.bool false) Tryd.underlying59 hi0 hz0 hz1 rfl .i64 .i64 r.length (by rw [hz2]; omega) (by omega) w
  have hr0 := World.rowIs_made w (.bool false) r.length 4
  have hb0 : Below w.heap.size w (w.alloc (.cells (madeCells #[.bool false] r.length) 4)) := (Below.refl _ _).alloc (Nat.le_refl _) _
  have hgs : w.heap.size < (w.alloc (.cells (madeCells #[.bool false] r.length) 4)).heap.size := by simp
  go_enter Tryd.func34, Tryd.ntmps34
  go_upto_region 2 with (fail)
  generalize w.alloc (.cells (madeCells #[.bool false] r.length) 4) = W at *
  obtain ⟨gn, hgn⟩ : ∃ gn, gn = w.heap.size := ⟨_, rfl⟩
  rw [← hgn] at hr0 hgs
  rw [← hgn]
  have HG := Lib.hid hgn
  have HR0 := Lib.hid hr0
  have HB0 := Lib.hid hb0
  have cc := qwrote_any r p A c W (HA.out.next hb0)
  have HGS := Lib.hid hgs
  have HW0 := Lib.hid (show Rc.fw r p = Rc.wrI r p from HFW.out p)
  clear hgn hr0 hb0 hA hmk hgs
  cases hq : Rc.wr0 r p with
  | none =>
    have e1 : Rc.fw r p = -1 := by rw [HW0.out]; unfold Rc.wrI; rw [hq]
    rw [e1] at cc
    have HN := Lib.hid (fun m => show (Rc.Ned r p m → False) from fun h => Rc.ned_none hq h)
    clear e1 hq hz
    go_wp2_with fail
    with_reducible refine cc.mono ?_
    clear cc
    rintro e w2 ⟨rfl, rfl⟩
    go_wp2_with fail
    first | go_ret3 | go_ret2 | go_ret
    exact ⟨gn, fun _ => false, rfl, fun m _ => ⟨fun h => (by cases h), fun h => (HN.out m h).elim⟩, HGS.out, HR0.out, HB0.out⟩
  | some last =>
    have e1 : Rc.fw r p = (last : Int) := by rw [HW0.out]; unfold Rc.wrI; rw [hq]
    rw [e1] at cc
    obtain ⟨_, hlast, _⟩ := Rc.wr0_some hq
    obtain ⟨nb, hnb⟩ : ∃ nb : Nat → Bool, ∀ j, nb j = true ↔ Rc.Ned r p j := ⟨fun j => @decide (Rc.Ned r p j) (Classical.propDecidable _), fun j => by rw [@decide_eq_true_iff _ (Classical.propDecidable _)]⟩
    have HNB := Lib.hid hnb
    have HQ := Lib.hid hq
    have HCZ := Lib.hid hz
    obtain ⟨g0, o, rfl, hg, hcr⟩ := HA.out.st.row (by omega)
    have HCR := Lib.hid hcr
    have f0 := HR0.out.frozen last
    have e0 := HR0.out.cell hlast
    have y0 : (last : Int) < (r.length : Int) := by omega
    have HR1 := Lib.hid ((HR0.out.set last (.bool true)).congr (g := fun m => .bool (decide (m = last))) fun i _ => by
      by_cases e : i = last
      · rw [if_pos e, decide_eq_true e]
      · rw [if_neg e, decide_eq_false e])
    have HB1 := Lib.hid (HB0.out.setCell (p := ⟨gn, last, none⟩) (show w.heap.size ≤ gn by rw [HG.out]; exact Nat.le_refl _) (.bool true))
    clear e1 hq hz hnb hcr
    go_wp2_with fail
    with_reducible refine cc.mono ?_
    clear cc
    rintro e w2 ⟨rfl, rfl⟩
    go_wp2_with fail
    clear f0 e0
    go_loopw [7] (fun s7 wr => ∃ (k : Nat) (M : Nat → Bool), s7 = .int .i64 ((k : Int) - 1) ∧ k ≤ last + 1 ∧ wr.rowIs gn 4 r.length (fun m => .bool (M m)) ∧ Rc.Mk r last nb k M ∧ (∀ m, last < m → M m = false) ∧ Below w.heap.size w wr) (fun s7 _ => (intOf s7 + 1).toNat)
    case atStart => exact ⟨last + 1, _, by go_num, Nat.le_refl _, HR1.out, Rc.Mk.init r last nb, fun m hm => decide_eq_false (by omega), HB1.out⟩
    case round =>
      clear HR1 HB1 HR0 HB0 HGS
      obtain ⟨k, M, hs7, hk, hrow, hmk, hhi, hb⟩ := hrel
      have HHI := Lib.hid hhi
      clear hhi
      cases k with
      | zero =>
        subst hs7
        have q1 : decide ((0 : Int) ≤ ((0 : Nat) : Int) - 1) = false := by decide
        have HM := Lib.hid (show ∀ m, m < r.length → (M m = true ↔ Rc.Ned r p m) from fun m _ => by
          by_cases hm : m ≤ last
          · rw [hmk m hm, ← HNB.out m]
            constructor
            · rintro (rfl | ⟨j, s, t, _, _, hj, hs, ht, hw⟩)
              · exact (HNB.out _).2 (.base HQ.out)
              · exact (HNB.out _).2 (.step ((HNB.out j).1 hj) hs ht hw)
            · intro hn
              have hn := (HNB.out m).1 hn
              cases hn with
              | base h => rw [HQ.out] at h; cases h; exact .inl rfl
              | step hj hs ht hw => exact .inr ⟨_, _, _, Nat.zero_le _, Rc.ned_le HQ.out hj, (HNB.out _).2 hj, hs, ht, hw⟩
          · rw [HHI.out m (by omega)]
            exact ⟨fun h => (by cases h), fun h => by have := Rc.ned_le HQ.out h; omega⟩)
        have HR := Lib.hid hrow
        have HB := Lib.hid hb
        clear hrow hmk hb
        go_wp2_with fail
        first | go_ret3 | go_ret2 | go_ret
        exact ⟨gn, M, rfl, HM.out, HR.out.lt, HR.out, HB.out⟩
      | succ i =>
        rw [show (((i + 1 : Nat) : Int) - 1) = (i : Int) by omega] at hs7
        subst hs7
        have hil : i ≤ last := by omega
        have hMi := hmk.at HQ.out HNB.out hil
        have hir : i < r.length := by omega
        have e1 := hrow.cell hir
        rw [hMi] at e1
        have y1 : (i : Int) < (r.length : Int) := by omega
        have wi : IntKind.i64.wrap ((i : Int) - 1) = (i : Int) - 1 := IntWalk.i64_in _ (by omega)
        have HR := Lib.hid hrow
        have HB := Lib.hid hb
        have HK := Lib.hid hmk
        clear hrow hb hmk hMi
        cases hn : nb i with
        | false =>
          rw [hn] at e1
          have HK2 := Lib.hid (HK.out.skip hn)
          clear hn
          go_wp2_with fail
          go_roundw
          case rel => exact ⟨i, M, rfl, by omega, HR.out, HK2.out, HHI.out, HB.out⟩
          case measure => simp [intOf]
        | true =>
          rw [hn] at e1
          have HNT := Lib.hid hn
          have hxz := HZ.out i hir
          obtain ⟨g1, o1, hxA, hg1, hc1⟩ := (HA.out.rd r[i] (List.getElem_mem hir)).row hxz.1
          have HC1 := Lib.hid hc1
          have hd3w := HCR.out i hir 3 _ rfl
          rw [hxA] at hd3w
          have HX := Lib.hid (show r[i]? = some r[i] from List.getElem?_eq_getElem hir)
          clear hxA hc1
          generalize r[i] = x at *
          clear hn
          go_wp2_with fail
          obtain ⟨w00, hw00⟩ : ∃ x : World, x = wr := ⟨wr, rfl⟩
          subst hw00
          clear e1
          go_loopw [8] (fun s8 wr => ∃ (j : Nat) (M' : Nat → Bool), s8 = .int .i64 j ∧ j ≤ x.rds.length ∧ wr.rowIs gn 4 r.length (fun m => .bool (M' m)) ∧ (∀ m, M' m = true ↔ (M m = true ∨ ∃ t ∈ x.rds.take j, Rc.wr0 r t.pth = some m)) ∧ Below w.heap.size w wr) (fun s8 _ => x.rds.length - (intOf s8).toNat)
          case atStart => exact ⟨0, M, rfl, Nat.zero_le _, HR.out, fun m => by simp, HB.out⟩
          case round =>
            obtain ⟨j, M', rfl, hj, hrow, hM', hb⟩ := hrel
            have HMM := Lib.hid hM'
            clear hM'
            have hd3 := (hb.cell (p := ⟨g0, o + i * 6 + 3, none⟩) hg).trans hd3w
            by_cases hlj : j < x.rds.length
            · have b3 : decide ((j : Int) < (x.rds.length : Int)) = true := decide_eq_true (by omega)
              have b3n : decide (j < x.rds.length) = true := decide_eq_true hlj
              have y4 : (j : Int) < (x.rds.length : Int) := by omega
              have hd0 := (hb.cell (p := ⟨g1, o1 + j * 2 + 0, none⟩) hg1).trans (HC1.out j hlj 0 _ rfl)
              have hd1 := (hb.cell (p := ⟨g1, o1 + j * 2 + 1, none⟩) hg1).trans (HC1.out j hlj 1 _ rfl)
              rw [show o1 + j * 2 + 0 = o1 + j * 2 from rfl] at hd0
              have HTJ := Lib.hid (show x.rds.take (j + 1) = x.rds.take j ++ [x.rds[j]] from List.take_succ_eq_append_getElem hlj)
              have HLT := Lib.hid (fun m (h : Rc.wr0 r x.rds[j].pth = some m) => Rc.rd_lt HX.out (List.getElem_mem hlj) h)
              generalize x.rds[j] = t at *
              have cc := qwrote_any r t.pth (some ⟨g0, o, none⟩) c wr (HA.out.next hb)
              have HW1 := Lib.hid (show Rc.fw r t.pth = Rc.wrI r t.pth from HFW.out t.pth)
              have HRA := Lib.hid hrow
              have HBA := Lib.hid hb
              clear hrow hb
              cases hq : Rc.wr0 r t.pth with
              | none =>
                have e1 : Rc.fw r t.pth = -1 := by rw [HW1.out]; unfold Rc.wrI; rw [hq]
                rw [e1] at cc
                have HM2 := Lib.hid (show ∀ m, M' m = true ↔ (M m = true ∨ ∃ t ∈ x.rds.take (j + 1), Rc.wr0 r t.pth = some m) from fun m => by
                  rw [HMM.out m, HTJ.out]
                  refine or_congr Iff.rfl ⟨fun ⟨u, hu, h⟩ => ⟨u, List.mem_append_left _ hu, h⟩, fun ⟨u, hu, h⟩ => ?_⟩
                  rcases List.mem_append.1 hu with h1 | h1
                  · exact ⟨u, h1, h⟩
                  · rw [List.mem_singleton.1 h1, hq] at h; cases h)
                clear hq HLT e1
                go_wp2_with fail
                with_reducible refine cc.mono ?_
                clear cc
                rintro e w5 ⟨rfl, rfl⟩
                go_wp2_with fail
                go_roundw
                case rel => exact ⟨j + 1, M', by go_num, by omega, HRA.out, HM2.out, HBA.out⟩
                case measure => simp [intOf]; omega
              | some n =>
                have e1 : Rc.fw r t.pth = (n : Int) := by rw [HW1.out]; unfold Rc.wrI; rw [hq]
                rw [e1] at cc
                have hni := HLT.out n hq
                have hnl : n < r.length := by omega
                have y6 : (n : Int) < (r.length : Int) := by omega
                have e8 := HRA.out.cell hnl
                have f8 := HRA.out.frozen n
                have HM2 := Lib.hid (show ∀ m, (if m = n then true else M' m) = true ↔ (M m = true ∨ ∃ t ∈ x.rds.take (j + 1), Rc.wr0 r t.pth = some m) from fun m => by
                  rw [HTJ.out]
                  by_cases hmn : m = n
                  · subst hmn
                    rw [if_pos rfl]
                    exact ⟨fun _ => .inr ⟨t, List.mem_append_right _ (List.mem_singleton.2 rfl), hq⟩, fun _ => rfl⟩
                  · rw [if_neg hmn, HMM.out m]
                    refine or_congr Iff.rfl ⟨fun ⟨u, hu, h⟩ => ⟨u, List.mem_append_left _ hu, h⟩, fun ⟨u, hu, h⟩ => ?_⟩
                    rcases List.mem_append.1 hu with h1 | h1
                    · exact ⟨u, h1, h⟩
                    · rw [List.mem_singleton.1 h1, hq] at h; cases h; exact absurd rfl hmn)
                have HS := Lib.hid ((HRA.out.set n (.bool true)).congr (g := fun m => .bool (if m = n then true else M' m)) fun m _ => by
                  by_cases e : m = n
                  · rw [if_pos e, if_pos e]
                  · rw [if_neg e, if_neg e])
                have HB2 := Lib.hid (HBA.out.setCell (p := ⟨gn, n, none⟩) (show w.heap.size ≤ gn by rw [HG.out]; exact Nat.le_refl _) (.bool true))
                clear hq HLT hni e1
                go_wp2_with fail
                with_reducible refine cc.mono ?_
                clear cc
                rintro e w5 ⟨rfl, rfl⟩
                go_wp2_with fail
                go_roundw
                case rel => exact ⟨j + 1, _, by go_num, by omega, HS.out, HM2.out, HB2.out⟩
                case measure => simp [intOf]; omega
            · have b3 : decide ((j : Int) < (x.rds.length : Int)) = false := decide_eq_false (by omega)
              have b3n : decide (j < x.rds.length) = false := decide_eq_false hlj
              have HK2 := Lib.hid (HK.out.take (M' := M') hil HX.out HNT.out (fun m => by rw [HMM.out m, List.take_of_length_le (by omega)]))
              have HH2 := Lib.hid (show ∀ m, last < m → M' m = false from fun m hm => by
                rw [Bool.eq_false_iff]
                intro h
                rcases (HMM.out m).1 h with h1 | ⟨t, ht, h1⟩
                · rw [HHI.out m hm] at h1; cases h1
                · have := Rc.rd_lt HX.out (List.mem_of_mem_take ht) h1; omega)
              have HR2 := Lib.hid hrow
              have HB2 := Lib.hid hb
              clear hrow hb
              go_wp2_with fail
              go_roundw
              case rel => exact ⟨i, M', rfl, by omega, HR2.out, HK2.out, HH2.out, HB2.out⟩
              case measure => simp [intOf]
end Go.Proofs.YtkgnbjhgdjmfdaaDoor
