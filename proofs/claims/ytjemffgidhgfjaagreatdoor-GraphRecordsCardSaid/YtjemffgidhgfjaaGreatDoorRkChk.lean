/- Check. No condition but that texts are short. -/
import Derived.Test.YtjemffgidhgfjaaGreatDoorRkCk1
import Derived.Carry
namespace Go.Proofs.YtjemffgidhgfjaaGreatDoor.Rk
open Go.RowKit Go.Deep Go.Maps Tr

namespace Rc
theorem Known.ck1 {r : List Dn} {i k : Nat} {s : Dn} {F : List UInt8 → Option (List UInt8 × Nat)} (h : Known r i k s F) (hk : k < (tcs s).length) (ws : Bool) (hw : ws = true ↔ k = s.rds.length) : ck1V F i (tcs s)[k] ws = tchE r i s k (tcs s)[k] := by
  by_cases hp : Tre.pathOk (tcs s)[k].pth = true
  · by_cases hd : (tcs s)[k].dig.length = 32
    · rw [h.fault hk hp hd]
      unfold ck1V
      rw [hp, if_neg (by decide), if_neg (by rw [hd]; decide)]
      cases F (tcs s)[k].pth with
      | none => rfl
      | some q => simp only [hw]
    · unfold ck1V tchE
      rw [hp, if_neg (by decide), if_pos hd, if_neg (by decide), if_pos hd]
  · rw [Bool.not_eq_true] at hp
    unfold ck1V tchE
    rw [hp, if_pos (by decide), if_pos (by decide)]
theorem Known.noted {r : List Dn} {i k : Nat} {s : Dn} {F : List UInt8 → Option (List UInt8 × Nat)} (h : Known r i k s F) (hk : k < (tcs s).length) (h0 : tchE r i s k (tcs s)[k] = 0) : Known r i (k + 1) s (noted F i (tcs s)[k]) := by
  refine h.note hk fun d m hF => ?_
  have h1 : Tre.pathOk (tcs s)[k].pth = true := by
    cases hp : Tre.pathOk (tcs s)[k].pth with
    | true => rfl
    | false => unfold tchE at h0; rw [hp, if_pos (by decide)] at h0; cases h0
  have h2 : (tcs s)[k].dig.length = 32 := by
    refine Classical.byContradiction fun hc => ?_
    unfold tchE at h0; rw [h1, if_neg (by decide), if_pos hc] at h0; cases h0
  rw [h.fault hk h1 h2, hF] at h0
  by_cases ha : k = s.rds.length ∨ m = i
  · simp only [if_pos ha] at h0; cases h0
  · refine ⟨ha, ?_⟩
    simp only [if_neg ha] at h0
    refine Classical.byContradiction fun hc => ?_
    rw [if_neg hc] at h0; cases h0
theorem Known.next' {r : List Dn} {i : Nat} {s s' : Dn} {F : List UInt8 → Option (List UInt8 × Nat)} (hs : r[i]? = some s) {k : Nat} (hk : (tcs s).length ≤ k) (h : Known r i k s F) : Known r (i + 1) 0 s' F := by
  obtain ⟨hi, e⟩ := List.getElem?_eq_some_iff.1 hs
  subst e
  exact h.next hi hk
theorem head_len {r : List Dn} {i : Nat} {s : Dn} (h : headE r i s = 0) : 0 < s.rds.length ∧ s.rds.length ≤ 1024 := by
  unfold headE at h
  split at h
  · cases h
  · split at h
    · cases h
    · split at h
      · cases h
      · rename_i h3
        unfold isF at h3
        simp at h3
        omega
end Rc
set_option maxHeartbeats 8000000 in
set_option maxRecDepth 100000 in
theorem check_any (r : List Dn) (A : Option Addr) (c : Nat) (w : World) (hA : RcAt w A r) (hS : r.length ≤ 1024 → Sht r) (hM : MaxAt w) :
    Calls Tryz.prog 13 #[.slice A r.length c] w fun e w' => e = .returned (.int .i64 (Rc.chk r)) ∧ Below w.heap.size w w' := by
  have HA := Lib.hid hA
  by_cases hbig : 1024 < r.length
  · have b1 : decide ((1024 : Int) < (r.length : Int)) = true := decide_eq_true (by omega)
    have b1n : decide (1024 < r.length) = true := decide_eq_true hbig
    have HT := Lib.hid (Rc.chk_big hbig)
    clear hbig hA
    go_enter Tryz.func13, Tryz.ntmps13
    go_wp2_with fail
    go_ret
    exact ⟨by rw [HT.out]; rfl, Below.refl _ _⟩
  · have b1 : decide ((1024 : Int) < (r.length : Int)) = false := decide_eq_false (by omega)
    have b1n : decide (1024 < r.length) = false := decide_eq_false hbig
    have hmm := @run_makeMap Tryz.prog
    have HL := Lib.hid (show r.length ≤ 1024 by omega)
    have hS' := Lib.hid (hS (by omega))
    clear hA hbig
    clear hS
    have hba : Below w.heap.size w ((w.alloc (.map #[] 0)).alloc (.cells #[.map (some w.heap.size)] 79)) := ((Below.refl _ _).alloc (Nat.le_refl _) _).alloc (by simp) _
    have hm0 := (Mp.made w).next ((Below.refl _ _).alloc (Nat.le_refl _) (.cells #[.map (some w.heap.size)] 79))
    have hf0 := heap_alloc_new (w.alloc (.map #[] 0)) (.cells #[.map (some w.heap.size)] 79)
    rw [show (w.alloc (.map #[] 0)).heap.size = w.heap.size + 1 by simp] at hf0
    have hb0 : 0 < w.heap.size := by
      obtain ⟨m, hm⟩ := hM
      exact World.block_lt_of_cell? w _ hm
    have hsW : ((w.alloc (.map #[] 0)).alloc (.cells #[.map (some w.heap.size)] 79)).heap.size = w.heap.size + 2 := by simp
    go_enter Tryz.func13, Tryz.ntmps13
    go_wp2_with fail
    obtain ⟨W, hW⟩ : ∃ W, W = (w.alloc (.map #[] 0)).alloc (.cells #[.map (some w.heap.size)] 79) := ⟨_, rfl⟩
    rw [← hW] at hba hm0 hf0 hsW
    rw [← hW]
    clear hW
    have HBA := Lib.hid hba
    have HF0 := Lib.hid hf0
    have HM := Lib.hid hM
    have HSW := Lib.hid hsW
    clear hba hf0 hM hsW
    go_loopw [19] (fun s19 wr => ∃ (k n : Nat) (F : List UInt8 → Option (List UInt8 × Nat)), s19 = .int .i64 k ∧ k ≤ r.length ∧ n ≤ 2000 * k ∧ Mp wr w.heap.size n (fun p => (F p).map knV) ∧ (∀ s, Rc.Known r k 0 s F) ∧ (∀ j (h : j < r.length), j < k → Rc.stepE r j r[j] = 0) ∧ Kp w.heap.size W wr) (fun s19 _ => r.length - (intOf s19).toNat)
    case atStart => exact ⟨0, 0, fun _ => none, rfl, Nat.zero_le _, Nat.zero_le _, hm0, fun s => Rc.Known.init r s, fun j _ h => (by omega), Kp.refl _ _⟩
    case round =>
      obtain ⟨k, n, F, rfl, hk, hn, hm, hkn, hst, hkp⟩ := hrel
      have HST := Lib.hid hst
      clear hst
      by_cases hlt : k < r.length
      · have c1 : decide ((k : Int) < (r.length : Int)) = true := decide_eq_true (by omega)
        have c1n : decide (k < r.length) = true := decide_eq_true hlt
        have y2 : (k : Int) < (r.length : Int) := by omega
        have hbw : Below w.heap.size w wr := HBA.out.trans (hkp.below (Nat.le_refl _) (by rw [HSW.out]; omega))
        obtain ⟨g0, o, hAe, hg, hc⟩ := (HA.out.next hbw).st k hlt
        have HAE := Lib.hid hAe
        subst hAe
        have hd0 := hc 0 _ rfl
        have hd1 := hc 1 _ rfl
        have hd2 := hc 2 _ rfl
        have hd3 := hc 3 _ rfl
        have hd4 := hc 4 _ rfl
        have hd5 := hc 5 _ rfl
        rw [show o + k * 6 + 0 = o + k * 6 from rfl] at hd0
        clear hc
        have HKP := Lib.hid hkp
        have HBW := Lib.hid hbw
        have HMP := Lib.hid hm
        have HKN := Lib.hid (hkn r[k])
        have hbx : Below wr.heap.size wr (wr.alloc (dnO r[k])) := (Below.refl _ _).alloc (Nat.le_refl _) _
        have hxn := heap_alloc_new wr (dnO r[k])
        have cc := head_any r k hlt (some ⟨g0, o, none⟩) c (wr.alloc (dnO r[k])) ((HA.out.next hbw).next hbx)
        have HSK := Lib.hid (show Rc.stepE r k r[k] ≠ 0 → Rc.chk r = Rc.stepE r k r[k] from fun h => Rc.chk_step HL.out hlt (fun j hj => HST.out j (by omega) hj) h)
        have HX := Lib.hid (show r[k]? = some r[k] from List.getElem?_eq_getElem hlt)
        have HMEM := Lib.hid (List.getElem_mem hlt)
        clear hkn hm hkp hbw
        generalize r[k] = x at *
        generalize hhe : Rc.headE r k x = he at cc
        go_wp2_with fail
        with_reducible refine cc.mono ?_
        clear cc
        rintro e w4 ⟨rfl, hb4⟩
        have hb04 := hbx.trans (hb4.mono hbx.size)
        have hx4 := (hb4.block _ (blk_lt hxn)).trans hxn
        clear hb4 hbx hxn hd0 hd1 hd2 hd3 hd4 hd5
        by_cases hz : he = 0
        · subst hz
          have e3 : w4.cell? ⟨wr.heap.size, 3, none⟩ = some (.slice x.A x.rds.length x.c) := by rw [cell_of_row _ _ _ _ _ _ hx4]; rfl
          have hnl := Rc.head_len hhe
          obtain ⟨g1, o1, hxA, hg1, hc1⟩ := (HA.out.rd x HMEM.out).row hnl.1
          rw [hxA] at e3
          have HXA := Lib.hid hxA
          have HC1 := Lib.hid hc1
          clear hxA hc1
          go_wp2_with fail
          clear e3
          have hkp4 : Kp w.heap.size W w4 := HKP.out.trans (Kp.of_below hb04)
          have hmp4 := HMP.out.next hb04
          have hbw4 := HBW.out.trans (hb04.mono HBW.out.size)
          have HB4 := Lib.hid hbw4
          have HK4 := Lib.hid hkp4
          have HX4 := Lib.hid hx4
          have HSQ := Lib.hid (show w.heap.size + 2 ≤ wr.heap.size by have := HKP.out.size; rw [HSW.out] at this; exact this)
          clear hkp4 hbw4 hx4 hb04 HKP
          obtain ⟨q, hq⟩ : ∃ q, q = wr.heap.size := ⟨_, rfl⟩
          rw [← hq]
          rw [← hq] at HX4 HSQ
          clear hq
          obtain ⟨w00, hw00⟩ : ∃ x : World, x = wr := ⟨wr, rfl⟩
          subst hw00
          go_loopw [33] (fun s33 wr => ∃ (j m : Nat) (G : List UInt8 → Option (List UInt8 × Nat)), s33 = .int .i64 j ∧ j ≤ x.rds.length ∧ m ≤ 2000 * k + j ∧ Mp wr w.heap.size m (fun p => (G p).map knV) ∧ Rc.Known r k j x G ∧ (∀ i (h : i < (Rc.tcs x).length), i < j → Rc.tchE r k x i (Rc.tcs x)[i] = 0) ∧ Kp w.heap.size w4 wr) (fun s33 _ => x.rds.length - (intOf s33).toNat)
          case atStart => exact ⟨0, n, F, rfl, Nat.zero_le _, by omega, hmp4, HKN.out, fun j _ h => (by omega), Kp.refl _ _⟩
          case round =>
            obtain ⟨j, m, G, rfl, hj, hm, hmp, hkn, hti, hkq⟩ := hrel
            have HTI := Lib.hid hti
            clear hti
            have hbq : Below w.heap.size w wr := HB4.out.trans (hkq.below (Nat.le_refl _) (HB4.out.size))
            have hf5 := (hkq.block (w.heap.size + 1) (by have := HK4.out.size; rw [HSW.out] at this; omega) (by omega)).trans ((HK4.out.block (w.heap.size + 1) (by rw [HSW.out]; omega) (by omega)).trans HF0.out)
            have hx5 := (hkq.block q (blk_lt HX4.out) (by have := HSQ.out; omega)).trans HX4.out
            have hM5 := HM.out.below hbq
            by_cases hlj : j < x.rds.length
            · have d1 : decide ((j : Int) < (x.rds.length : Int)) = true := decide_eq_true (by omega)
              have d1n : decide (j < x.rds.length) = true := decide_eq_true hlj
              have y3 : (j : Int) < (x.rds.length : Int) := by omega
              have hd0 := (hbq.cell (p := ⟨g1, o1 + j * 2 + 0, none⟩) hg1).trans (HC1.out j hlj 0 _ rfl)
              have hd1 := (hbq.cell (p := ⟨g1, o1 + j * 2 + 1, none⟩) hg1).trans (HC1.out j hlj 1 _ rfl)
              rw [show o1 + j * 2 + 0 = o1 + j * 2 from rfl] at hd0
              have hjt : j < (Rc.tcs x).length := by rw [Rc.tcs_len]; omega
              have hget := Rc.tcs_get hlj hjt
              have HP := Lib.hid (hS'.out.p x HMEM.out x.rds[j] (List.mem_append_left _ (List.getElem_mem hlj)))
              have hv := hkn.ck1 hjt false ⟨fun h => (by cases h), fun h => (by omega)⟩
              have HNT := Lib.hid (fun h => hkn.noted hjt h)
              rw [hget] at hv HNT
              have HFL := Lib.hid (fun (h : Rc.tchE r k x j x.rds[j] ≠ 0) => Rc.step_file hhe hjt (fun i hi => HTI.out i (by omega) hi) (by rw [hget]; exact h))
              rw [hget] at HFL
              have HTN := Lib.hid (fun (h : Rc.tchE r k x j x.rds[j] = 0) i (hi : i < (Rc.tcs x).length) (hij : i < j + 1) => show Rc.tchE r k x i (Rc.tcs x)[i] = 0 by
                by_cases e : i = j
                · subst e; rw [hget]; exact h
                · exact HTI.out i hi (by omega))
              generalize x.rds[j] = t at *
              have hbt : Below wr.heap.size wr (wr.alloc (tcO t)) := (Below.refl _ _).alloc (Nat.le_refl _) _
              have cc := check1_any (w.heap.size + 1) w.heap.size m k t false G (wr.alloc (tcO t)) (hM5.below hbt) ((hbt.block _ (blk_lt hf5)).trans hf5) (hmp.next hbt) HP.out (by have := HL.out; omega)
              rw [tcA_def, hv] at cc
              clear hv hget
              generalize hte : Rc.tchE r k x j t = te at *
              have HKQ := Lib.hid (hkq.trans (Kp.of_below (b := w.heap.size) hbt))
              clear hmp hkn hkq hf5 hx5 hM5 hbt hbq
              go_wp2_with fail
              with_reducible refine cc.mono ?_
              clear cc
              rintro e w6 ⟨rfl, hk6, hm6⟩
              have HK6 := Lib.hid (HKQ.out.trans hk6)
              have HM6 := Lib.hid hm6
              clear hk6 hm6 hd0 hd1
              by_cases hz : te = 0
              · subst hz
                have HN := Lib.hid (HNT.out rfl)
                have HT2 := Lib.hid (HTN.out rfl)
                clear HNT HTN HFL hte
                go_wp2_with fail
                go_roundw
                case rel =>
                  exact ⟨j + 1, m + 1, _, by go_num, by omega, by omega, HM6.out trivial, HN.out, HT2.out, HK6.out⟩
                case measure => simp [intOf]; omega
              · have z1 : (te != 0) = true := by rw [bne_iff_ne]; exact hz
                have z2 : (te == 0) = false := by rw [beq_eq_false_iff_ne]; exact hz
                have HT := Lib.hid (show Rc.chk r = te by
                  have h1 := HFL.out hz
                  rw [← h1]; exact HSK.out (by rw [h1]; exact hz))
                have HB := Lib.hid (HB4.out.trans (HK6.out.below (Nat.le_refl _) HB4.out.size))
                clear HNT HTN HFL hte hz
                go_wp2_with fail
                first | go_ret3 | go_ret2 | go_ret
                exact ⟨by rw [HT.out]; rfl, HB.out⟩
            · have d1 : decide ((j : Int) < (x.rds.length : Int)) = false := decide_eq_false (by omega)
              have d1n : decide (j < x.rds.length) = false := decide_eq_false hlj
              have e4 : wr.cell? ⟨q, 4, none⟩ = some (.string (str x.wr.pth)) := by rw [cell_of_row _ _ _ _ _ _ hx5]; rfl
              have e5 : wr.cell? ⟨q, 5, none⟩ = some (.string (str x.wr.dig)) := by rw [cell_of_row _ _ _ _ _ _ hx5]; rfl
              have hjj : j = x.rds.length := by omega
              have hjt : j < (Rc.tcs x).length := by rw [Rc.tcs_len]; omega
              have hget : (Rc.tcs x)[j] = x.wr := by
                subst hjj
                unfold Rc.tcs
                exact List.getElem_concat_length rfl _
              have HP := Lib.hid (hS'.out.p x HMEM.out x.wr (List.mem_append_right _ (List.mem_singleton.2 rfl)))
              have hv := hkn.ck1 hjt true ⟨fun _ => hjj, fun _ => rfl⟩
              have HNT := Lib.hid (fun h => hkn.noted hjt h)
              rw [hget] at hv HNT
              have HFL := Lib.hid (fun (h : Rc.tchE r k x j x.wr ≠ 0) => Rc.step_file hhe hjt (fun i hi => HTI.out i (by omega) hi) (by rw [hget]; exact h))
              rw [hget] at HFL
              have HTN := Lib.hid (fun (h : Rc.tchE r k x j x.wr = 0) i (hi : i < (Rc.tcs x).length) => show Rc.tchE r k x i (Rc.tcs x)[i] = 0 by
                by_cases e : i = j
                · subst e; rw [hget]; exact h
                · exact HTI.out i hi (by rw [Rc.tcs_len] at hi; omega))
              generalize x.wr = t at *
              have cc := check1_any (w.heap.size + 1) w.heap.size m k t true G wr hM5 hf5 hmp HP.out (by have := HL.out; omega)
              rw [tcA_def, hv] at cc
              clear hv hget
              generalize hte : Rc.tchE r k x j t = te at *
              have HKQ := Lib.hid hkq
              clear hmp hkn hkq hf5 hx5 hM5 hbq
              go_wp2_with fail
              with_reducible refine cc.mono ?_
              clear cc
              rintro e w6 ⟨rfl, hk6, hm6⟩
              have HK6 := Lib.hid (HKQ.out.trans hk6)
              have HM6 := Lib.hid hm6
              clear hk6 hm6 e4 e5
              by_cases hz : te = 0
              · subst hz
                have hL := HL.out
                have HN := Lib.hid (fun s => (HNT.out rfl).next' (s' := s) HX.out (by rw [Rc.tcs_len]; omega))
                have HT2 := Lib.hid (Rc.step_zero hhe (HTN.out rfl))
                have HST2 := Lib.hid (show ∀ i (h : i < r.length), i < k + 1 → Rc.stepE r i r[i] = 0 from fun i hi hik => by
                  by_cases e : i = k
                  · subst e
                    have := HX.out
                    rw [List.getElem?_eq_getElem hi] at this
                    rw [Option.some.inj this]; exact HT2.out
                  · exact HST.out i hi (by omega))
                clear HNT HTN HFL hte
                go_wp2_with fail
                go_roundw
                case rel => exact ⟨k + 1, m + 1, _, by go_num, by omega, by omega, HM6.out trivial, HN.out, HST2.out, HK4.out.trans HK6.out⟩
                case measure => simp [intOf]; omega
              · have z1 : (te != 0) = true := by rw [bne_iff_ne]; exact hz
                have z2 : (te == 0) = false := by rw [beq_eq_false_iff_ne]; exact hz
                have HT := Lib.hid (show Rc.chk r = te by
                  have h1 := HFL.out hz
                  rw [← h1]; exact HSK.out (by rw [h1]; exact hz))
                have HB := Lib.hid (HB4.out.trans (HK6.out.below (Nat.le_refl _) HB4.out.size))
                clear HNT HTN HFL hte hz
                go_wp2_with fail
                first | go_ret3 | go_ret2 | go_ret
                exact ⟨by rw [HT.out]; rfl, HB.out⟩
        · have z1 : (he != 0) = true := by rw [bne_iff_ne]; exact hz
          have z2 : (he == 0) = false := by rw [beq_eq_false_iff_ne]; exact hz
          have HT := Lib.hid (show Rc.chk r = he by
            have h1 := Rc.step_head (r := r) (i := k) (s := x) (by rw [hhe]; exact hz)
            rw [hhe] at h1
            rw [← h1]; exact HSK.out (by rw [h1]; exact hz))
          have HB := Lib.hid (HBW.out.trans (hb04.mono HBW.out.size))
          clear hz hhe hb04 hx4
          go_wp2_with fail
          first | go_ret3 | go_ret2 | go_ret
          exact ⟨by rw [HT.out]; rfl, HB.out⟩
      · have c1 : decide ((k : Int) < (r.length : Int)) = false := decide_eq_false (by omega)
        have c1n : decide (k < r.length) = false := decide_eq_false hlt
        have HT := Lib.hid (Rc.chk_zero HL.out fun j hj => HST.out j hj (by omega))
        have HB := Lib.hid (HBA.out.trans (hkp.below (Nat.le_refl _) (by rw [HSW.out]; omega)))
        clear hm hkn hkp
        go_wp2_with fail
        go_ret
        exact ⟨by rw [HT.out]; rfl, HB.out⟩
end Go.Proofs.YtjemffgidhgfjaaGreatDoor.Rk
