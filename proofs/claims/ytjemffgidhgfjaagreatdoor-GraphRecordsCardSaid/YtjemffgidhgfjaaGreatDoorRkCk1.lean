/- Check's closure on a file. -/
import Derived.Test.YtjemffgidhgfjaaGreatDoorRkRhd
import Derived.Test.YtjemffgidhgfjaaGreatDoorRkMap
import Derived.Test.YtjemffgidhgfjaaGreatDoorMz1
namespace Go.Proofs.YtjemffgidhgfjaaGreatDoor.Rk
open Go.RowKit Go.Deep Go.Maps Tr

def knV (q : List UInt8 × Nat) : Value := .agg #[.string (str q.1), .int .i64 (q.2 : Int)]
abbrev knO (d : List UInt8) (m : Nat) : Obj := .cells #[.string (str d), .int .i64 (m : Int)] 81
theorem zKnown (w : World) : (zeroValue 81).run Tryz.prog w = .ok (.agg #[.string ⟨#[]⟩, .int .i64 0]) w := by kernel_rfl
theorem strL (s : List UInt8) : (str s).toList = s := by rw [ByteArray.toList_eq]; rfl
/-- What the closure answers. -/
def ck1V (F : List UInt8 → Option (List UInt8 × Nat)) (i : Nat) (t : Tch) (ws : Bool) : Int :=
  if !Tre.pathOk t.pth then 2 else if t.dig.length ≠ 32 then 17 else match F t.pth with | none => 0 | some q => if ws = true ∨ q.2 = i then 6 else if q.1 = t.dig then 0 else 9
def noted (F : List UInt8 → Option (List UInt8 × Nat)) (i : Nat) (t : Tch) : List UInt8 → Option (List UInt8 × Nat) := fun p => if p = t.pth then some (t.dig, i) else F p
set_option maxHeartbeats 4000000 in
set_option maxRecDepth 100000 in
theorem check1_any (fb b n i : Nat) (t : Tch) (ws : Bool) (F : List UInt8 → Option (List UInt8 × Nat)) (w : World) (hM : MaxAt w) (hfb : w.heap[fb]? = some (.cells #[.map (some b)] 79 (0, 0))) (hF : Mp w b n fun p => (F p).map knV) (hp : t.pth.length ≤ 100000000) (hn : n ≤ 100000000) :
    Calls Tryz.prog 47 #[.int .i64 (i : Int), tcA t, .bool ws, .pointer (some ⟨fb, 0, none⟩)] w fun e w' => e = .returned (.int .i64 (ck1V F i t ws)) ∧ Kp b w w' ∧ (ck1V F i t ws = 0 → Mp w' b (n + 1) fun p => (noted F i t p).map knV) := by
  rw [tcA_def]
  have hba : Below w.heap.size w (w.alloc (tcO t)) := (Below.refl _ _).alloc (Nat.le_refl _) _
  have hFW := hF.next hba
  have hfW := (hba.block fb (blk_lt hfb)).trans hfb
  have f0 : (w.alloc (tcO t)).cell? ⟨fb, 0, none⟩ = some (.map (some b)) := by rw [cell_of_row _ _ _ _ _ _ hfW]; rfl
  have hl := hFW.look Tryz.underlying79 (zKnown _) t.pth (by unfold maxLen; omega)
  have hMW := hM.below hba
  have HV := Lib.hid (show ck1V F i t ws = if !Tre.pathOk t.pth then 2 else if t.dig.length ≠ 32 then 17 else match F t.pth with | none => 0 | some q => if ws = true ∨ q.2 = i then 6 else if q.1 = t.dig then 0 else 9 from by unfold ck1V; rfl)
  have hN : (fun p => (noted F i t p).map knV) = fun x => if x = t.pth then some (knV (t.dig, i)) else (F x).map knV := funext fun x => by
    unfold noted
    by_cases hx : x = t.pth
    · rw [if_pos hx, if_pos hx]; rfl
    · rw [if_neg hx, if_neg hx]
  rw [hN]
  clear hN
  generalize ck1V F i t ws = V at *
  obtain ⟨kd, km, bb, hval, hbb, hk0, hk1⟩ : ∃ (kd : List UInt8) (km : Nat) (bb : Bool), ((F t.pth).map knV).getD (.agg #[.string ⟨#[]⟩, .int .i64 0]) = .agg #[.string (str kd), .int .i64 (km : Int)] ∧ ((F t.pth).map knV).isSome = bb ∧ (bb = false → F t.pth = none) ∧ (bb = true → F t.pth = some (kd, km)) := by
    cases hq : F t.pth with
    | none => exact ⟨[], 0, false, rfl, rfl, fun _ => rfl, fun h => (by cases h)⟩
    | some q => exact ⟨q.1, q.2, true, rfl, rfl, fun h => (by cases h), fun _ => rfl⟩
  rw [hval, hbb] at hl
  clear hval hbb
  have hbB : Below w.heap.size w ((w.alloc (tcO t)).alloc (knO kd km)) := hba.alloc (by simp) _
  have hbb2 : Below (w.alloc (tcO t)).heap.size (w.alloc (tcO t)) ((w.alloc (tcO t)).alloc (knO kd km)) := (Below.refl _ _).alloc (Nat.le_refl _) _
  have hFW2 := hFW.next hbb2
  have hMW2 := hMW.below hbb2
  have hfW2 := (hbb2.block fb (blk_lt hfW)).trans hfW
  have htW := (hbb2.block w.heap.size (blk_lt (heap_alloc_new w (tcO t)))).trans (heap_alloc_new w (tcO t))
  have hkW := heap_alloc_new (w.alloc (tcO t)) (knO kd km)
  have hszW : w.heap.size < (w.alloc (tcO t)).heap.size := by simp
  rw [show (w.alloc (tcO t)).heap.size = w.heap.size + 1 by simp] at hkW
  have hlt := hF.lt
  clear hF hM hba hfb hFW hMW hbb2 hfW hszW
  obtain ⟨W, hW⟩ : ∃ W, W = (w.alloc (tcO t)).alloc (knO kd km) := ⟨_, rfl⟩
  rw [← hW] at hbB hFW2 hMW2 hfW2 htW hkW
  have cc := path_any (str t.pth) W (by rw [str_size]; omega) hMW2
  rw [show (str t.pth).data.toList = t.pth from rfl] at cc
  have HB := Lib.hid hbB
  have HFW := Lib.hid hFW2
  have hsz := str_size t.dig
  have hWs : w.heap.size + 1 < W.heap.size := blk_lt hkW
  clear hFW2 hMW2 hbB
  cases hpo : Tre.pathOk t.pth with
  | false =>
    have HT := Lib.hid (show V = 2 by rw [HV.out, hpo]; rfl)
    rw [show Tre.path t.pth = 2 by unfold Tre.path; rw [hpo]; rfl] at cc
    clear HV hpo hk0 hk1
    go_enter Tryz.func47, Tryz.ntmps47
    go_wp2_with fail
    rw [← hW]
    with_reducible refine cc.mono ?_
    rintro e w2 ⟨rfl, hb2⟩
    have HB2 := Lib.hid (Kp.of_below (b := b) (HB.out.trans (hb2.mono HB.out.size)))
    clear hb2
    go_wp2_with fail
    go_ret
    exact ⟨by rw [HT.out]; rfl, HB2.out, fun h => absurd (HT.out.symm.trans h) (by decide)⟩
  | true =>
    rw [show Tre.path t.pth = 0 by unfold Tre.path; rw [hpo]; rfl] at cc
    by_cases hdl : t.dig.length = 32
    · cases bb with
      | false =>
        have HT := Lib.hid (show V = 0 by rw [HV.out, hpo, if_neg (by decide), if_neg (by rw [hdl]; decide), hk0 rfl])
        clear HV hpo hk0 hk1
        have d32 : decide ((t.dig.length : Int) = 32) = true := by rw [hdl]; rfl
        go_enter Tryz.func47, Tryz.ntmps47
        go_wp2_with fail
        rw [← hW]
        with_reducible refine cc.mono ?_
        rintro e w2 ⟨rfl, hb2⟩
        have HB2 := Lib.hid (Kp.of_below (b := b) (HB.out.trans (hb2.mono HB.out.size)))
        have hk2 := (hb2.block _ (blk_lt hkW)).trans hkW
        have ht2 := (hb2.block _ (blk_lt htW)).trans htW
        have hf2 := (hb2.block _ (blk_lt hfW2)).trans hfW2
        have HM2 := Lib.hid (HFW.out.next hb2)
        have t0 : w2.cell? ⟨w.heap.size, 0, none⟩ = some (.string (str t.pth)) := by rw [cell_of_row _ _ _ _ _ _ ht2]; rfl
        have t1 : w2.cell? ⟨w.heap.size, 1, none⟩ = some (.string (str t.dig)) := by rw [cell_of_row _ _ _ _ _ _ ht2]; rfl
        have k0 : w2.cell? ⟨w.heap.size + 1, 0, none⟩ = some (.string (str kd)) := by rw [cell_of_row _ _ _ _ _ _ hk2]; rfl
        have k1 : w2.cell? ⟨w.heap.size + 1, 1, none⟩ = some (.int .i64 (km : Int)) := by rw [cell_of_row _ _ _ _ _ _ hk2]; rfl
        have f2 : w2.cell? ⟨fb, 0, none⟩ = some (.map (some b)) := by rw [cell_of_row _ _ _ _ _ _ hf2]; rfl
        clear hb2 hk2 ht2 hf2
        obtain ⟨w3, hrun, hMp, hg⟩ := HM2.out.store Tryz.underlying79 (by unfold maxLen; omega) t.pth (by unfold maxLen; omega) (knV (t.dig, i))
        rw [show knV (t.dig, i) = .agg #[.string (str t.dig), .int .i64 (i : Int)] from rfl] at hrun
        have HM3 := Lib.hid hMp
        have HB3 := Lib.hid (HB2.out.trans (Kp.of_grown hg))
        clear hMp hg
        go_wp2_with fail
        go_ret
        exact ⟨by rw [HT.out]; rfl, HB3.out, fun _ => HM3.out⟩
      | true =>
        have HV2 := Lib.hid (show V = if ws = true ∨ km = i then 6 else if kd = t.dig then 0 else 9 by rw [HV.out, hpo, if_neg (by decide), if_neg (by rw [hdl]; decide), hk1 rfl])
        clear HV hpo hk0 hk1
        cases ws with
        | true =>
          have HT := Lib.hid (show V = 6 by rw [HV2.out, if_pos (Or.inl rfl)])
          clear HV2
          have d32 : decide ((t.dig.length : Int) = 32) = true := by rw [hdl]; rfl
          go_enter Tryz.func47, Tryz.ntmps47
          go_wp2_with fail
          rw [← hW]
          with_reducible refine cc.mono ?_
          rintro e w2 ⟨rfl, hb2⟩
          have HB2 := Lib.hid (Kp.of_below (b := b) (HB.out.trans (hb2.mono HB.out.size)))
          have hk2 := (hb2.block _ (blk_lt hkW)).trans hkW
          have ht2 := (hb2.block _ (blk_lt htW)).trans htW
          have hf2 := (hb2.block _ (blk_lt hfW2)).trans hfW2
          have HM2 := Lib.hid (HFW.out.next hb2)
          have t0 : w2.cell? ⟨w.heap.size, 0, none⟩ = some (.string (str t.pth)) := by rw [cell_of_row _ _ _ _ _ _ ht2]; rfl
          have t1 : w2.cell? ⟨w.heap.size, 1, none⟩ = some (.string (str t.dig)) := by rw [cell_of_row _ _ _ _ _ _ ht2]; rfl
          have k0 : w2.cell? ⟨w.heap.size + 1, 0, none⟩ = some (.string (str kd)) := by rw [cell_of_row _ _ _ _ _ _ hk2]; rfl
          have k1 : w2.cell? ⟨w.heap.size + 1, 1, none⟩ = some (.int .i64 (km : Int)) := by rw [cell_of_row _ _ _ _ _ _ hk2]; rfl
          have f2 : w2.cell? ⟨fb, 0, none⟩ = some (.map (some b)) := by rw [cell_of_row _ _ _ _ _ _ hf2]; rfl
          clear hb2 hk2 ht2 hf2
          go_wp2_with fail
          go_ret
          exact ⟨by rw [HT.out]; rfl, HB2.out, fun h => absurd (HT.out.symm.trans h) (by decide)⟩
        | false =>
          by_cases hmi : km = i
          · have HT := Lib.hid (show V = 6 by rw [HV2.out, if_pos (Or.inr hmi)])
            subst hmi
            clear HV2
            have d32 : decide ((t.dig.length : Int) = 32) = true := by rw [hdl]; rfl
            go_enter Tryz.func47, Tryz.ntmps47
            go_wp2_with fail
            rw [← hW]
            with_reducible refine cc.mono ?_
            rintro e w2 ⟨rfl, hb2⟩
            have HB2 := Lib.hid (Kp.of_below (b := b) (HB.out.trans (hb2.mono HB.out.size)))
            have hk2 := (hb2.block _ (blk_lt hkW)).trans hkW
            have ht2 := (hb2.block _ (blk_lt htW)).trans htW
            have hf2 := (hb2.block _ (blk_lt hfW2)).trans hfW2
            have HM2 := Lib.hid (HFW.out.next hb2)
            have t0 : w2.cell? ⟨w.heap.size, 0, none⟩ = some (.string (str t.pth)) := by rw [cell_of_row _ _ _ _ _ _ ht2]; rfl
            have t1 : w2.cell? ⟨w.heap.size, 1, none⟩ = some (.string (str t.dig)) := by rw [cell_of_row _ _ _ _ _ _ ht2]; rfl
            have k0 : w2.cell? ⟨w.heap.size + 1, 0, none⟩ = some (.string (str kd)) := by rw [cell_of_row _ _ _ _ _ _ hk2]; rfl
            have k1 : w2.cell? ⟨w.heap.size + 1, 1, none⟩ = some (.int .i64 (km : Int)) := by rw [cell_of_row _ _ _ _ _ _ hk2]; rfl
            have f2 : w2.cell? ⟨fb, 0, none⟩ = some (.map (some b)) := by rw [cell_of_row _ _ _ _ _ _ hf2]; rfl
            clear hb2 hk2 ht2 hf2
            go_wp2_with fail
            go_ret
            exact ⟨by rw [HT.out]; rfl, HB2.out, fun h => absurd (HT.out.symm.trans h) (by decide)⟩
          · have m1 : ((km : Int) == (i : Int)) = false := by rw [beq_eq_false_iff_ne]; omega
            have m2 : decide (km = i) = false := decide_eq_false hmi
            have m3 : decide ((km : Int) = (i : Int)) = false := decide_eq_false (by omega)
            by_cases hkd : kd = t.dig
            · have HT := Lib.hid (show V = 0 by rw [HV2.out, if_neg (by simp [hmi]), if_pos hkd])
              have n1 : ((str kd).toList == (str t.dig).toList) = true := by rw [strL, strL, beq_iff_eq]; exact hkd
              clear HV2 hkd
              have d32 : decide ((t.dig.length : Int) = 32) = true := by rw [hdl]; rfl
              go_enter Tryz.func47, Tryz.ntmps47
              go_wp2_with fail
              rw [← hW]
              with_reducible refine cc.mono ?_
              rintro e w2 ⟨rfl, hb2⟩
              have HB2 := Lib.hid (Kp.of_below (b := b) (HB.out.trans (hb2.mono HB.out.size)))
              have hk2 := (hb2.block _ (blk_lt hkW)).trans hkW
              have ht2 := (hb2.block _ (blk_lt htW)).trans htW
              have hf2 := (hb2.block _ (blk_lt hfW2)).trans hfW2
              have HM2 := Lib.hid (HFW.out.next hb2)
              have t0 : w2.cell? ⟨w.heap.size, 0, none⟩ = some (.string (str t.pth)) := by rw [cell_of_row _ _ _ _ _ _ ht2]; rfl
              have t1 : w2.cell? ⟨w.heap.size, 1, none⟩ = some (.string (str t.dig)) := by rw [cell_of_row _ _ _ _ _ _ ht2]; rfl
              have k0 : w2.cell? ⟨w.heap.size + 1, 0, none⟩ = some (.string (str kd)) := by rw [cell_of_row _ _ _ _ _ _ hk2]; rfl
              have k1 : w2.cell? ⟨w.heap.size + 1, 1, none⟩ = some (.int .i64 (km : Int)) := by rw [cell_of_row _ _ _ _ _ _ hk2]; rfl
              have f2 : w2.cell? ⟨fb, 0, none⟩ = some (.map (some b)) := by rw [cell_of_row _ _ _ _ _ _ hf2]; rfl
              clear hb2 hk2 ht2 hf2
              obtain ⟨w3, hrun, hMp, hg⟩ := HM2.out.store Tryz.underlying79 (by unfold maxLen; omega) t.pth (by unfold maxLen; omega) (knV (t.dig, i))
              rw [show knV (t.dig, i) = .agg #[.string (str t.dig), .int .i64 (i : Int)] from rfl] at hrun
              have HM3 := Lib.hid hMp
              have HB3 := Lib.hid (HB2.out.trans (Kp.of_grown hg))
              clear hMp hg
              go_wp2_with fail
              go_ret
              exact ⟨by rw [HT.out]; rfl, HB3.out, fun _ => HM3.out⟩
            · have HT := Lib.hid (show V = 9 by rw [HV2.out, if_neg (by simp [hmi]), if_neg hkd])
              have n1 : ((str kd).toList == (str t.dig).toList) = false := by rw [strL, strL, beq_eq_false_iff_ne]; exact hkd
              clear HV2 hkd
              have d32 : decide ((t.dig.length : Int) = 32) = true := by rw [hdl]; rfl
              go_enter Tryz.func47, Tryz.ntmps47
              go_wp2_with fail
              rw [← hW]
              with_reducible refine cc.mono ?_
              rintro e w2 ⟨rfl, hb2⟩
              have HB2 := Lib.hid (Kp.of_below (b := b) (HB.out.trans (hb2.mono HB.out.size)))
              have hk2 := (hb2.block _ (blk_lt hkW)).trans hkW
              have ht2 := (hb2.block _ (blk_lt htW)).trans htW
              have hf2 := (hb2.block _ (blk_lt hfW2)).trans hfW2
              have HM2 := Lib.hid (HFW.out.next hb2)
              have t0 : w2.cell? ⟨w.heap.size, 0, none⟩ = some (.string (str t.pth)) := by rw [cell_of_row _ _ _ _ _ _ ht2]; rfl
              have t1 : w2.cell? ⟨w.heap.size, 1, none⟩ = some (.string (str t.dig)) := by rw [cell_of_row _ _ _ _ _ _ ht2]; rfl
              have k0 : w2.cell? ⟨w.heap.size + 1, 0, none⟩ = some (.string (str kd)) := by rw [cell_of_row _ _ _ _ _ _ hk2]; rfl
              have k1 : w2.cell? ⟨w.heap.size + 1, 1, none⟩ = some (.int .i64 (km : Int)) := by rw [cell_of_row _ _ _ _ _ _ hk2]; rfl
              have f2 : w2.cell? ⟨fb, 0, none⟩ = some (.map (some b)) := by rw [cell_of_row _ _ _ _ _ _ hf2]; rfl
              clear hb2 hk2 ht2 hf2
              go_wp2_with fail
              go_ret
              exact ⟨by rw [HT.out]; rfl, HB2.out, fun h => absurd (HT.out.symm.trans h) (by decide)⟩
    · have HT := Lib.hid (show V = 17 by rw [HV.out, hpo, if_neg (by decide), if_pos hdl])
      have d32 : decide ((t.dig.length : Int) = 32) = false := decide_eq_false (by omega)
      have d32n : decide (t.dig.length = 32) = false := decide_eq_false hdl
      have d32b : (((str t.dig).size : Int) == 32) = false := by rw [hsz, beq_eq_false_iff_ne]; omega
      have d32c : ((t.dig.length : Int) == 32) = false := by rw [beq_eq_false_iff_ne]; omega
      clear HV hpo hk0 hk1
      go_enter Tryz.func47, Tryz.ntmps47
      go_wp2_with fail
      rw [← hW]
      with_reducible refine cc.mono ?_
      rintro e w2 ⟨rfl, hb2⟩
      have HB2 := Lib.hid (Kp.of_below (b := b) (HB.out.trans (hb2.mono HB.out.size)))
      have hk2 := (hb2.block _ (blk_lt hkW)).trans hkW
      have ht2 := (hb2.block _ (blk_lt htW)).trans htW
      have hf2 := (hb2.block _ (blk_lt hfW2)).trans hfW2
      have HM2 := Lib.hid (HFW.out.next hb2)
      have t0 : w2.cell? ⟨w.heap.size, 0, none⟩ = some (.string (str t.pth)) := by rw [cell_of_row _ _ _ _ _ _ ht2]; rfl
      have t1 : w2.cell? ⟨w.heap.size, 1, none⟩ = some (.string (str t.dig)) := by rw [cell_of_row _ _ _ _ _ _ ht2]; rfl
      have k0 : w2.cell? ⟨w.heap.size + 1, 0, none⟩ = some (.string (str kd)) := by rw [cell_of_row _ _ _ _ _ _ hk2]; rfl
      have k1 : w2.cell? ⟨w.heap.size + 1, 1, none⟩ = some (.int .i64 (km : Int)) := by rw [cell_of_row _ _ _ _ _ _ hk2]; rfl
      have f2 : w2.cell? ⟨fb, 0, none⟩ = some (.map (some b)) := by rw [cell_of_row _ _ _ _ _ _ hf2]; rfl
      clear hb2 hk2 ht2 hf2
      go_wp2_with fail
      go_ret
      exact ⟨by rw [HT.out]; rfl, HB2.out, fun h => absurd (HT.out.symm.trans h) (by decide)⟩
end Go.Proofs.YtjemffgidhgfjaaGreatDoor.Rk
