/- Valid of the reference. No condition but the lengths. -/
import Derived.Test.YtkmldaelgbkfbaaDoorNld
import Derived.Test.YtkmldaelgbkfbaaDoorNrp
import Derived.Test.YtkmldaelgbkfbaaDoorNco
namespace Go.Proofs.YtkmldaelgbkfbaaDoor
open Go.RowKit Go.Deep Tr
namespace Nm
set_option maxHeartbeats 16000000 in
set_option maxRecDepth 100000 in
theorem qvalid_any (t : Txt) (A : Option Addr) (c : Nat) (w : World) (hA : TxAt w A t) (hs : ∀ x ∈ t.ws, x.tx.length ≤ 1000000) (hlen : t.ws.length ≤ 1000000) :
    Calls Tryd.prog 22 #[txV A c t] w fun e w' => e = .returned (.bool (vld t)) ∧ Below w.heap.size w w' := by
  have hb0 : Below w.heap.size w (w.alloc (txO A t.ws.length c (str t.pth))) := (Below.refl _ _).alloc (Nat.le_refl _) _
  have hG := heap_alloc_new w (txO A t.ws.length c (str t.pth))
  obtain ⟨W, hW⟩ : ∃ W, W = w.alloc (txO A t.ws.length c (str t.pth)) := ⟨_, rfl⟩
  rw [← hW] at hb0 hG
  obtain ⟨q0, q1⟩ := cells2 hG
  have HA0 := Lib.hid (hA.next hb0).ws
  have HV := Lib.hid (show vld t = (decide (Tre.path t.pth = 0) && decide (t.ws.length ≤ 8192) && okw 0 t.ws) from rfl)
  have HQ := Lib.hid (blk_lt hG)
  have HBW := Lib.hid hb0
  have c1 := qPath_any (str t.pth) W (by rw [str_size]; exact hA.pl)
  rw [str_data] at c1
  have HPT := Lib.hid (show Tre.path t.pth = if Tre.pathOk t.pth = true then 0 else 2 from rfl)
  generalize vld t = v at *
  generalize Tre.pathOk t.pth = po at *
  have HS := Lib.hid hs
  clear hA hb0 hG hs
  go_enter Tryd.func22, Tryd.ntmps22
  go_upto_region 1 with (fail)
  rw [show w.alloc (.cells #[.string (str t.pth), .slice A t.ws.length c] 24 (0, 0)) = W from hW.symm]
  clear hW
  go_wp2_with fail
  (with_reducible refine c1.mono ?_); rintro e w1 ⟨rfl, rfl⟩
  clear c1
  cases po with
  | false =>
    have HT := Lib.hid (show v = false by rw [HV.out, HPT.out]; rfl)
    go_wp2_with fail
    go_ret
    exact ⟨ret_bool (by rw [HT.out]), HBW.out⟩
  | true =>
  have HP0 := Lib.hid (show Tre.path t.pth = 0 by rw [HPT.out]; rfl)
  by_cases hl : 8192 < t.ws.length
  · have d1 : decide ((8192 : Int) < (t.ws.length : Int)) = true := decide_eq_true (by omega)
    have d1n : decide (8192 < t.ws.length) = true := decide_eq_true hl
    have HT := Lib.hid (show v = false by rw [HV.out, HP0.out, decide_eq_false (show ¬ t.ws.length ≤ 8192 by omega)]; rfl)
    go_wp2_with fail
    go_ret
    exact ⟨ret_bool (by rw [HT.out]), HBW.out⟩
  have d1 : decide ((8192 : Int) < (t.ws.length : Int)) = false := decide_eq_false (by omega)
  have d1n : decide (8192 < t.ws.length) = false := decide_eq_false hl
  have HT := Lib.hid (show v = okw 0 t.ws by rw [HV.out, HP0.out, decide_eq_true (show t.ws.length ≤ 8192 by omega)]; rfl)
  clear HV HPT HP0
  generalize t.ws = l at *
  go_wp2_with fail
  go_loopw [3] (fun s3 wr => ∃ (k : Nat) (m : Int), k ≤ l.length ∧ s3 = .int .i64 k ∧ okw 0 l = okw m (l.drop k) ∧ 0 ≤ m ∧ (0 < k → ∃ h : k - 1 < l.length, l[k - 1].ln = m) ∧ (k = 0 → m = 0) ∧ Below W.heap.size W wr) (fun s3 _ => l.length - (intOf s3).toNat)
  case atStart => exact ⟨0, 0, by omega, rfl, by rw [List.drop_zero], by omega, (fun h => absurd h (by omega)), (fun _ => rfl), Below.refl _ _⟩
  case round =>
    obtain ⟨k, m, hk, rfl, hov, hm0, hprev, hmz, hb⟩ := hrel
    have HOV := Lib.hid hov
    have hwq := HQ.out
    have w0 := (hb.cell (p := ⟨w.heap.size, 0, none⟩) hwq).trans q0
    have w1 := (hb.cell (p := ⟨w.heap.size, 1, none⟩) hwq).trans q1
    clear hov
    by_cases hlt : k < l.length
    · have b1 : decide ((k : Int) < (l.length : Int)) = true := decide_eq_true (by omega)
      have b1n : decide (k < l.length) = true := decide_eq_true hlt
      have y1 : (k : Int) < (l.length : Int) := by omega
      obtain ⟨g, o, e, hg, h0, h1⟩ := HA0.out k hlt
      have HEA := Lib.hid e
      rw [e] at w1
      clear e
      have d0 := (hb.cell (p := ⟨g, o + k * 2, none⟩) hg).trans h0
      have d1' := (hb.cell (p := ⟨g, o + k * 2 + 1, none⟩) hg).trans h1
      have HDR := Lib.hid (List.drop_eq_getElem_cons hlt)
      have HXL := Lib.hid (HS.out _ (List.getElem_mem hlt))
      obtain ⟨x, hx⟩ : ∃ x, x = l[k] := ⟨_, rfl⟩
      have HXE := Lib.hid (show l[k].ln = x.ln by rw [hx])
      rw [← hx] at d0 d1' HDR HXL
      have hxs := str_size x.tx
      have hxl := HXL.out
      have hwR := hb.size
      obtain ⟨N, hN⟩ : ∃ N, N = wr.alloc (.cells #[.string (str x.tx), .int .i64 x.ln] 52) := ⟨_, rfl⟩
      have hbN : Below W.heap.size W N := by rw [hN]; exact hb.alloc hwR _
      have gN : N.heap[wr.heap.size]? = some (.cells #[.string (str x.tx), .int .i64 x.ln] 52 (0, 0)) := by rw [hN]; exact heap_alloc_new wr _
      obtain ⟨e0, e1⟩ := cells2 gN
      have hk0 : k + 1 - 1 < l.length := by rw [Nat.add_sub_cancel]; exact hlt
      clear hx h0 h1 gN
      go_upto_region 7 with (fail)
      rw [← hN]
      clear hN d0 d1' w0 w1
      have w1 := (hbN.cell (p := ⟨w.heap.size, 1, none⟩) hwq).trans q1
      rw [HEA.out] at w1
      have HBN := Lib.hid hbN
      -- the word in front
      have hpv : 0 < k → N.cell? ⟨g, o + (k - 1) * 2 + 1, none⟩ = some (.int .i64 m) := fun h => by
        obtain ⟨hh, hln⟩ := hprev h
        obtain ⟨g2, o2, e2, hg2, _, h2⟩ := HA0.out (k - 1) hh
        rw [HEA.out] at e2
        cases e2
        rw [← hln]
        exact (hbN.cell (p := ⟨g, o + (k - 1) * 2 + 1, none⟩) hg2).trans h2
      clear hb hbN hprev hg
      by_cases hx0 : x.tx = []
      · have t1 : ((str x.tx).toList == ([] : List UInt8)) = true := by rw [strL, beq_iff_eq]; exact hx0
        have t2 : (str x.tx).toList.isEmpty = true := by rw [strL, hx0]; rfl
        rw [show str x.tx = ⟨#[]⟩ by rw [hx0]; rfl] at *
        have HF := Lib.hid (show v = false by rw [HT.out, HOV.out, HDR.out, okw_next]; rw [show isW x.tx = false by rw [hx0]; rfl]; rfl)
        clear HOV HDR
        go_quiet (fail)
        have HQ := Lib.hid (HBN.out.trans ((below_drewN N nq).mono HBN.out.size))
        go_wp2_with fail
        go_ret
        exact ⟨ret_bool (by rw [HF.out]), HBW.out.trans (HQ.out.mono HBW.out.size)⟩
      have t1 : ((str x.tx).toList == ([] : List UInt8)) = false := by rw [strL, beq_eq_false_iff_ne]; exact hx0
      have t2 : (str x.tx).toList.isEmpty = false := by rw [strL, List.isEmpty_eq_false_iff]; exact hx0
      have HXN := Lib.hid hx0
      clear hx0
      by_cases hn0 : x.ln < 0
      · have t3 : decide (x.ln < 0) = true := decide_eq_true hn0
        have HF := Lib.hid (show v = false by rw [HT.out, HOV.out, HDR.out, okw_next]; rw [decide_eq_false (show ¬ m ≤ x.ln by omega)]; simp)
        clear HOV HDR
        go_quiet (fail)
        have HQ := Lib.hid (HBN.out.trans ((below_drewN N nq).mono HBN.out.size))
        go_wp2_with fail
        go_ret
        exact ⟨ret_bool (by rw [HF.out]), HBW.out.trans (HQ.out.mono HBW.out.size)⟩
      have t3 : decide (x.ln < 0) = false := decide_eq_false hn0
      by_cases hn1 : 1024 ≤ x.ln
      · have t4 : decide (1024 ≤ x.ln) = true := decide_eq_true hn1
        have HF := Lib.hid (show v = false by rw [HT.out, HOV.out, HDR.out, okw_next]; rw [decide_eq_false (show ¬ x.ln < 1024 by omega)]; simp)
        clear HOV HDR
        go_quiet (fail)
        have HQ := Lib.hid (HBN.out.trans ((below_drewN N nq).mono HBN.out.size))
        go_wp2_with fail
        go_ret
        exact ⟨ret_bool (by rw [HF.out]), HBW.out.trans (HQ.out.mono HBW.out.size)⟩
      have t4 : decide (1024 ≤ x.ln) = false := decide_eq_false hn1
      by_cases hkz : 0 < k
      · have t5 : decide ((0 : Int) < (k : Int)) = true := decide_eq_true (by omega)
        have t5n : decide (0 < k) = true := decide_eq_true hkz
        have d1 := hpv hkz
        have y5 : (0 : Int) ≤ (k : Int) - 1 := by omega
        have y6 : (k : Int) - 1 < (l.length : Int) := by omega
        obtain ⟨k', rfl⟩ : ∃ k', k = k' + 1 := ⟨k - 1, by omega⟩
        rw [Nat.add_sub_cancel] at d1
        have y7 : ((k' + 1 : Nat) : Int) - 1 = (k' : Int) := by omega
        clear hpv
        by_cases hmx : x.ln < m
        · have t6 : decide (x.ln < m) = true := decide_eq_true hmx
          have HF := Lib.hid (show v = false by rw [HT.out, HOV.out, HDR.out, okw_next]; rw [decide_eq_false (show ¬ m ≤ x.ln by omega)]; simp)
          clear HOV HDR
          go_quiet (fail)
          have HQ := Lib.hid (HBN.out.trans ((below_drewN N nq).mono HBN.out.size))
          go_wp2_with fail
          go_ret
          exact ⟨ret_bool (by rw [HF.out]), HBW.out.trans (HQ.out.mono HBW.out.size)⟩
        have t6 : decide (x.ln < m) = false := decide_eq_false hmx
        have HM := Lib.hid (show m ≤ x.ln by omega)
        clear hmx
        go_quiet (fail)
        have hbQ := HBN.out.trans ((below_drewN N nq).mono HBN.out.size)
        have q0 : (N.drewN nq).cell? ⟨wr.heap.size, 0, none⟩ = some (.string (str x.tx)) := e0
        have HBQ := Lib.hid hbQ
        generalize N.drewN nq = Q at *
        clear hbQ e0 e1 w1 d1
        go_wp2_with fail
        go_loopw [5] (fun s5 wq => ∃ jj : Nat, s5 = .int .i64 jj ∧ jj ≤ x.tx.length ∧ (x.tx.take jj).any isBl = false ∧ wq = Q) (fun s5 _ => x.tx.length - (intOf s5).toNat)
        case atStart => exact ⟨0, rfl, by omega, rfl, rfl⟩
        case round =>
          obtain ⟨jj, rfl, hjj, hnb, rfl⟩ := hrel
          have HNB := Lib.hid hnb
          clear hnb
          by_cases hj : jj < x.tx.length
          · have j1 : decide ((jj : Int) < (x.tx.length : Int)) = true := decide_eq_true (by omega)
            have j1n : decide (jj < x.tx.length) = true := decide_eq_true hj
            have j2 : decide ((jj : Int) < ((str x.tx).size : Int)) = true := decide_eq_true (by omega)
            have hjs : jj < (str x.tx).size := by rw [str_size]; exact hj
            have y3 : (jj : Int) < ((str x.tx).size : Int) := by omega
            have HTK := Lib.hid (show x.tx.take (jj + 1) = x.tx.take jj ++ [(str x.tx)[jj]] from by
              rw [List.take_succ_eq_append_getElem hj]; rfl)
            have HMM := Lib.hid (show (str x.tx)[jj] ∈ x.tx from List.getElem_mem hj)
            have cb := fun (X : World) => blank_any (str x.tx)[jj] X
            by_cases hbl : isBl (str x.tx)[jj] = true
            · rw [hbl] at cb
              have HF := Lib.hid (show v = false by
                rw [HT.out, HOV.out, HDR.out, okw_next, show isW x.tx = false from by
                  unfold isW
                  rw [List.any_eq_true.2 ⟨_, HMM.out, hbl⟩]; simp]
                rfl)
              clear hbl
              go_wp2_with (go_at_call 35; (with_reducible refine (cb _).mono ?_); rintro e w9 ⟨rfl, rfl⟩)
              go_ret
              exact ⟨ret_bool (by rw [HF.out]), HBW.out.trans (HBQ.out.mono HBW.out.size)⟩
            · rw [Bool.not_eq_true] at hbl
              rw [hbl] at cb
              have HBL := Lib.hid hbl
              clear hbl
              go_wp2_with (go_at_call 35; (with_reducible refine (cb _).mono ?_); rintro e w9 ⟨rfl, rfl⟩)
              go_roundw
              case rel => exact ⟨jj + 1, by go_num, by omega, (by rw [HTK.out, List.any_append, HNB.out, List.any_cons, HBL.out]; rfl), by simp⟩
              case measure => simp [intOf]; omega
          · have j1 : decide ((jj : Int) < (x.tx.length : Int)) = false := decide_eq_false (by omega)
            have j1n : decide (jj < x.tx.length) = false := decide_eq_false hj
            have j2 : decide ((jj : Int) < ((str x.tx).size : Int)) = false := decide_eq_false (by omega)
            have HW := Lib.hid (show isW x.tx = true by
              have h := HNB.out
              rw [List.take_of_length_le (by omega)] at h
              unfold isW
              rw [h, List.isEmpty_eq_false_iff.2 HXN.out]; rfl)
            have HOV2 := Lib.hid (show okw 0 l = okw x.ln (l.drop ((k' + 1) + 1)) by
              rw [HOV.out, HDR.out, okw_next, HW.out, decide_eq_true HM.out, decide_eq_true (show x.ln < 1024 by omega)]; rfl)
            go_wp2_with fail
            go_roundw
            case rel => exact ⟨(k' + 1) + 1, x.ln, by omega, by go_num, HOV2.out, by omega, (fun _ => ⟨hk0, HXE.out⟩), (fun h => absurd h (by omega)), HBQ.out⟩
            case measure => simp [intOf]; omega
      obtain rfl : k = 0 := by omega
      obtain rfl : m = 0 := hmz rfl
      have HM := Lib.hid (show (0 : Int) ≤ x.ln by omega)
      clear hpv
      go_quiet (fail)
      have hbQ := HBN.out.trans ((below_drewN N nq).mono HBN.out.size)
      have q0 : (N.drewN nq).cell? ⟨wr.heap.size, 0, none⟩ = some (.string (str x.tx)) := e0
      have HBQ := Lib.hid hbQ
      generalize N.drewN nq = Q at *
      clear hbQ e0 e1 w1 
      go_wp2_with fail
      go_loopw [5] (fun s5 wq => ∃ jj : Nat, s5 = .int .i64 jj ∧ jj ≤ x.tx.length ∧ (x.tx.take jj).any isBl = false ∧ wq = Q) (fun s5 _ => x.tx.length - (intOf s5).toNat)
      case atStart => exact ⟨0, rfl, by omega, rfl, rfl⟩
      case round =>
        obtain ⟨jj, rfl, hjj, hnb, rfl⟩ := hrel
        have HNB := Lib.hid hnb
        clear hnb
        by_cases hj : jj < x.tx.length
        · have j1 : decide ((jj : Int) < (x.tx.length : Int)) = true := decide_eq_true (by omega)
          have j1n : decide (jj < x.tx.length) = true := decide_eq_true hj
          have j2 : decide ((jj : Int) < ((str x.tx).size : Int)) = true := decide_eq_true (by omega)
          have hjs : jj < (str x.tx).size := by rw [str_size]; exact hj
          have y3 : (jj : Int) < ((str x.tx).size : Int) := by omega
          have HTK := Lib.hid (show x.tx.take (jj + 1) = x.tx.take jj ++ [(str x.tx)[jj]] from by
            rw [List.take_succ_eq_append_getElem hj]; rfl)
          have HMM := Lib.hid (show (str x.tx)[jj] ∈ x.tx from List.getElem_mem hj)
          have cb := fun (X : World) => blank_any (str x.tx)[jj] X
          by_cases hbl : isBl (str x.tx)[jj] = true
          · rw [hbl] at cb
            have HF := Lib.hid (show v = false by
              rw [HT.out, HOV.out, HDR.out, okw_next, show isW x.tx = false from by
                unfold isW
                rw [List.any_eq_true.2 ⟨_, HMM.out, hbl⟩]; simp]
              rfl)
            clear hbl
            go_wp2_with (go_at_call 35; (with_reducible refine (cb _).mono ?_); rintro e w9 ⟨rfl, rfl⟩)
            go_ret
            exact ⟨ret_bool (by rw [HF.out]), HBW.out.trans (HBQ.out.mono HBW.out.size)⟩
          · rw [Bool.not_eq_true] at hbl
            rw [hbl] at cb
            have HBL := Lib.hid hbl
            clear hbl
            go_wp2_with (go_at_call 35; (with_reducible refine (cb _).mono ?_); rintro e w9 ⟨rfl, rfl⟩)
            go_roundw
            case rel => exact ⟨jj + 1, by go_num, by omega, (by rw [HTK.out, List.any_append, HNB.out, List.any_cons, HBL.out]; rfl), by simp⟩
            case measure => simp [intOf]; omega
        · have j1 : decide ((jj : Int) < (x.tx.length : Int)) = false := decide_eq_false (by omega)
          have j1n : decide (jj < x.tx.length) = false := decide_eq_false hj
          have j2 : decide ((jj : Int) < ((str x.tx).size : Int)) = false := decide_eq_false (by omega)
          have HW := Lib.hid (show isW x.tx = true by
            have h := HNB.out
            rw [List.take_of_length_le (by omega)] at h
            unfold isW
            rw [h, List.isEmpty_eq_false_iff.2 HXN.out]; rfl)
          have HOV2 := Lib.hid (show okw 0 l = okw x.ln (l.drop (0 + 1)) by
            rw [HOV.out, HDR.out, okw_next, HW.out, decide_eq_true HM.out, decide_eq_true (show x.ln < 1024 by omega)]; rfl)
          go_wp2_with fail
          go_roundw
          case rel => exact ⟨0 + 1, x.ln, by omega, by go_num, HOV2.out, by omega, (fun _ => ⟨hk0, HXE.out⟩), (fun h => absurd h (by omega)), HBQ.out⟩
          case measure => simp [intOf]; omega
    · have b1 : decide ((k : Int) < (l.length : Int)) = false := decide_eq_false (by omega)
      have b1n : decide (k < l.length) = false := decide_eq_false hlt
      have HF := Lib.hid (show v = true by rw [HT.out, HOV.out, List.drop_of_length_le (by omega)]; rfl)
      have HB5 := Lib.hid (HBW.out.trans (hb.mono HBW.out.size))
      clear hb
      go_wp2_with fail
      go_ret
      exact ⟨ret_bool (by rw [HF.out]), HB5.out⟩
end Nm
end Go.Proofs.YtkmldaelgbkfbaaDoor
