/- The reference's ready, Order. No condition but the lengths. -/
import Derived.Test.YtdiaejdoglccoaaQop
import Derived.Test.YtdiaejdoglccoaaQre
namespace Go.Proofs.Ytdiaejdoglccoaa
open Go.RowKit Go.Deep Tr

theorem infoBo : (Try.prog.info? 4).map (fun i => (i.zero, i.size, i.bytes)) = some (some (.bool false), 1, 1) := by kernel_rfl
set_option maxHeartbeats 8000000 in
set_option maxRecDepth 100000 in
theorem qready_any (g : Gph) (o : List Nat) (m gt N : Nat) (A B : Option Addr) (c d : Nat) (w : World) (hA : GrAt w A B g) (hOk : Gr.Ok g) (hN : g.ns.length = N) (hm : m < N) (hT : w.rowIs gt 4 N (fun i => .bool (o.contains i))) :
    Calls Try.prog 37 #[grV A B c d g, .slice (some ⟨gt, 0, none⟩) N N, .int .i64 m] w fun e w' => e = .returned (.bool (Gr.rdy g.es o m)) ∧ Below w.heap.size w w' := by
  have hb0 : Below w.heap.size w (w.alloc (grO A B c d g)) := (Below.refl _ _).alloc (Nat.le_refl _) _
  have hG := heap_alloc_new w (grO A B c d g)
  have hT1 := hT.alloc (grO A B c d g)
  obtain ⟨W, hW⟩ : ∃ W, W = w.alloc (grO A B c d g) := ⟨_, rfl⟩
  rw [← hW] at hb0 hG hT1
  obtain ⟨q0, q1⟩ := gb_cells hG
  have e1 : W.cell? ⟨gt, m, none⟩ = some (.bool (o.contains m)) := hT1.cell hm
  have HA := Lib.hid hA
  have HOk := Lib.hid hOk
  have HT := Lib.hid hT1
  have HB := Lib.hid hb0
  have HN := Lib.hid hN
  have hel := hOk.el
  have HR1 := Lib.hid (@Gr.rdy_taken g.es o m)
  have HR2 := Lib.hid (@Gr.rdy_open g.es o m)
  have y0 : (m : Int) < (N : Int) := by omega
  generalize Gr.rdy g.es o m = V at *
  clear hA hOk hT hT1 hG hb0 hN
  go_enter Try.func37, Try.ntmps37
  go_upto_region 1 with (fail)
  rw [← hW]
  clear hW
  generalize hv : o.contains m = v at *
  cases v with
  | true =>
    have HV := Lib.hid (HR1.out (by first | rfl | exact hv))
    clear HR1 HR2 hv
    go_wp2_with fail
    go_ret
    exact ⟨(by rw [HV.out]; rfl), HB.out⟩
  | false =>
  have HV := Lib.hid (HR2.out (by first | rfl | exact hv))
  clear HR1 HR2 hv
  go_wp2_with fail
  clear e1
  go_loopw [7] (fun s7 wr => ∃ k : Nat, s7 = .int .i64 k ∧ k ≤ g.es.length ∧ ((g.es.take k).all fun x => !(x.dst == (m : Int)) || o.contains x.src.toNat) = true ∧ wr = W) (fun s7 _ => g.es.length - (intOf s7).toNat)
  case atStart => exact ⟨0, rfl, by omega, by simp, rfl⟩
  case round =>
    obtain ⟨k, rfl, hk, hall, hwr⟩ := hrel
    rw [hwr]
    clear hwr
    have HAL := Lib.hid hall
    clear hall
    by_cases hlt : k < g.es.length
    · have b1 : decide ((k : Int) < (g.es.length : Int)) = true := decide_eq_true (by omega)
      have b1n : decide (k < g.es.length) = true := decide_eq_true hlt
      have y2 : (k : Int) < (g.es.length : Int) := by omega
      obtain ⟨gb, oo, hBB, hg, hc⟩ := HA.out.es k hlt
      subst hBB
      have hd0 := (HB.out.cell (p := ⟨gb, oo + k * 3, none⟩) hg).trans (hc 0 _ rfl)
      have hd1 := (HB.out.cell (p := ⟨gb, oo + k * 3 + 1, none⟩) hg).trans (hc 1 _ rfl)
      have hsr := HOk.out.ed true g.es[k] (List.getElem_mem hlt)
      rw [HN.out] at hsr
      have HTK := Lib.hid (show (!(g.es[k].dst == (m : Int)) || o.contains g.es[k].src.toNat) = true → ((g.es.take (k + 1)).all fun x => !(x.dst == (m : Int)) || o.contains x.src.toNat) = true from fun h => Gr.all_take _ g.es k hlt HAL.out h)
      have HHT := Lib.hid (show (!(g.es[k].dst == (m : Int)) || o.contains g.es[k].src.toNat) = false → V = false from fun h => HV.out.trans (Gr.all_miss _ g.es k hlt h))
      clear hc hg
      generalize g.es[k] = x at *
      obtain ⟨xs, xd, xp⟩ := x
      simp only [Gr.eA, if_true] at hsr
      obtain ⟨sn, rfl⟩ : ∃ n : Nat, xs = (n : Int) := ⟨xs.toNat, by omega⟩
      dsimp only [] at hd0 hd1 HTK HHT
      rw [Int.toNat_natCast] at HTK HHT
      have hsl : sn < N := by omega
      have y3 : (sn : Int) < (N : Int) := by omega
      have e3 : W.cell? ⟨gt, sn, none⟩ = some (.bool (o.contains sn)) := HT.out.cell hsl
      generalize o.contains sn = t at *
      clear hsr
      by_cases c1 : xd = (m : Int)
      · have x1 : (xd == (m : Int)) = true := by rw [c1]; simp
        cases t with
        | false =>
          have HF := Lib.hid (HHT.out (by rw [x1]; rfl))
          clear HTK HHT c1
          go_wp2_with fail
          go_ret
          exact ⟨(by rw [HF.out]; rfl), HB.out⟩
        | true =>
          have HF := Lib.hid (HTK.out (by rw [x1]; rfl))
          clear HTK HHT c1
          go_wp2_with fail
          go_roundw
          case rel => exact ⟨k + 1, by go_num, by omega, HF.out, (by first | rfl | trivial)⟩
          case measure => simp [intOf]; omega
      · have x1 : (xd == (m : Int)) = false := by rw [beq_eq_false_iff_ne]; exact c1
        have HF := Lib.hid (HTK.out (by rw [x1]; rfl))
        clear HTK HHT c1
        go_wp2_with fail
        go_roundw
        case rel => exact ⟨k + 1, by go_num, by omega, HF.out, (by first | rfl | trivial)⟩
        case measure => simp [intOf]; omega
    · have b1 : decide ((k : Int) < (g.es.length : Int)) = false := decide_eq_false (by omega)
      have b1n : decide (k < g.es.length) = false := decide_eq_false hlt
      have HF := Lib.hid (show V = true by
        have h := HAL.out
        rw [List.take_of_length_le (by omega)] at h
        exact HV.out.trans h)
      clear HAL
      go_wp2_with fail
      go_ret
      exact ⟨(by rw [HF.out]; rfl), HB.out⟩
set_option maxHeartbeats 16000000 in
set_option maxRecDepth 100000 in
theorem qorder_any (g : Gph) (A B : Option Addr) (c d : Nat) (w : World) (hA : GrAt w A B g) :
    Calls Try.prog 17 #[grV A B c d g] w (GotO w (Gr.Odr g)) := by
  obtain ⟨i0, hi0, hz0, hz1, hz2⟩ := info_parts infoIn
  obtain ⟨j0, hj0, hj1, hj2, hj3⟩ := info_parts infoBo
  have hb0 : Below w.heap.size w (w.alloc (grO A B c d g)) := (Below.refl _ _).alloc (Nat.le_refl _) _
  have hG := heap_alloc_new w (grO A B c d g)
  obtain ⟨W, hW⟩ : ∃ W, W = w.alloc (grO A B c d g) := ⟨_, rfl⟩
  rw [← hW] at hb0 hG
  obtain ⟨q0, q1⟩ := gb_cells hG
  have HA := Lib.hid hA
  have c1 := qcheck_any g A B c d W (hA.next hb0)
  have HC := Lib.hid (fun (h : Gr.chk g = 0) => Gr.chk_ok h)
  have HN := Lib.hid (show ¬ Gr.chk g = 0 → Gr.Odr g [] 1 from fun h => by unfold Gr.Odr; rw [if_neg h]; exact ⟨rfl, rfl⟩)
  have HL := Lib.hid (show Gr.chk g = 0 → Gr.kahn g.es g.ns.length g.ns.length [] = none → Gr.Odr g [] 12 from fun h h2 => by unfold Gr.Odr; rw [if_pos h]; exact ⟨fun o ho => (by rw [h2] at ho; cases ho), fun _ => ⟨rfl, rfl⟩⟩)
  have HY := Lib.hid (show Gr.chk g = 0 → ∀ o, Gr.kahn g.es g.ns.length g.ns.length [] = some o → Gr.Odr g (Gr.nats o) 0 from fun h o h2 => by unfold Gr.Odr; rw [if_pos h]; exact ⟨fun o' ho => by rw [h2] at ho; injection ho with ho; subst ho; exact ⟨rfl, rfl⟩, fun hn => by rw [h2] at hn; cases hn⟩)
  clear hA
  go_enter Try.func17, Try.ntmps17
  go_upto_region 1 with (fail)
  rw [← hW]
  clear hW
  generalize Gr.chk g = z at *
  go_wp2_with fail
  with_reducible refine c1.mono ?_
  clear c1
  rintro e w1 ⟨rfl, hb1⟩
  have hG1 := (hb1.block w.heap.size (blk_lt hG)).trans hG
  have hb01 := hb0.trans (hb1.mono hb0.size)
  clear hb1 hb0 hG q0 q1
  by_cases hz : z = 0
  case neg =>
    have z1 : (z != 0) = true := by rw [bne_iff_ne]; exact hz
    have z2 : (z == 0) = false := by rw [beq_eq_false_iff_ne]; exact hz
    have HT := Lib.hid (HN.out hz)
    clear HN HC HY HL hz hG1
    go_wp2_with fail
    first | go_ret3 | go_ret2 | go_ret
    exact ⟨_, _, rfl, [], HT.out, World.ownsRow_nil _ _ _ _, hb01⟩
  have z1 : (z != 0) = false := by rw [hz]; rfl
  have z2 : (z == 0) = true := by rw [hz]; rfl
  have HOk := Lib.hid (HC.out hz)
  have HL2 := Lib.hid (HL.out hz)
  have HY2 := Lib.hid (HY.out hz)
  clear HN HC HY HL hz
  have hnl := HOk.out.nl
  obtain ⟨N, hN⟩ : ∃ N, g.ns.length = N := ⟨_, rfl⟩
  have HNN := Lib.hid hN
  obtain ⟨q0, q1⟩ := gb_cells hG1
  rw [hN] at hnl q0 HL2 HY2
  have hmk : ∀ w' : World, (Instr.makeSlice 51 (.int .i64 (N : Int)) (.int .i64 (N : Int))).run Try.prog w' = .ok (.slice (some ⟨w'.heap.size, 0, none⟩) N N) (w'.alloc (.cells (madeCells #[.bool false] N) 4)) := fun w' =>
    run_make_row (P := Try.prog) 51 4 j0 (.bool false) Try.underlying51 hj0 hj1 hj2 rfl .i64 .i64 N (by rw [hj3]; omega) (by omega) w'
  have hr4 := World.rowIs_made w1 (.bool false) N 4
  have hb4 := hb01.alloc hb01.size (.cells (madeCells #[.bool false] N) 4)
  have hG4 := (blk_alloc_lt w1 (.cells (madeCells #[.bool false] N) 4) _ (blk_lt hG1)).trans hG1
  have hgl := blk_lt hG1
  clear hN hG1
  go_upto_region 4 with (fail)
  generalize w1.alloc (.cells (madeCells #[.bool false] N) 4) = w4 at *
  obtain ⟨gt, hgt⟩ : ∃ x, x = w1.heap.size := ⟨_, rfl⟩
  rw [← hgt] at hr4 ⊢
  have hr5 := hr4.alloc (.cells #[] 3)
  have hb5 := hb4.alloc hb4.size (.cells #[] 3)
  have hG5 := (blk_alloc_lt w4 (.cells #[] 3) _ (blk_lt hG4)).trans hG4
  obtain ⟨Bc, hBc⟩ : ∃ x, x = w4.heap.size := ⟨_, rfl⟩
  have hown5 : (w4.alloc (.cells #[] 3)).ownsRow Bc 3 1 (.slice (some ⟨Bc, 0, none⟩) 0 0) 0 [] := by rw [hBc]; exact own_empty w4 _ (Nat.le_refl _) _ _
  have hs5 : Bc ≤ (w4.alloc (.cells #[] 3)).heap.size := by rw [hBc]; simp
  have HGT := Lib.hid (show w.heap.size < gt ∧ gt < Bc ∧ w.heap.size ≤ Bc from ⟨by rw [hgt]; exact hgl, by rw [hBc]; exact hr4.lt, by rw [hBc]; exact hb4.size⟩)
  clear hmk q0 q1 hgt hgl hr4 hb4 hG4 z1 z2
  go_upto_region 5 with (fail)
  rw [← hBc]
  clear hBc
  generalize w4.alloc (.cells #[] 3) = w5 at *
  go_loopg [5] N (fun gk s5 wr => ∃ o : List Nat, N - o.length = gk ∧ o.length ≤ N ∧ Gr.Part g.es N o ∧ Gr.kahn g.es N N [] = Gr.kahn g.es N (N - o.length) o ∧ wr.rowIs gt 4 N (fun i => .bool (o.contains i)) ∧ wr.ownsRow Bc 3 1 s5 o.length (Gr.insV (Gr.nats o)) ∧ wr.heap[w.heap.size]? = some (grO A B c d g) ∧ Bc ≤ wr.heap.size ∧ Below w.heap.size w wr)
  case atStart => exact ⟨[], by simp, by simp, Gr.Part.nil _ _, by simp, hr5.congr fun i _ => by simp, hown5, hG5, hs5, hb5⟩
  case round =>
    clear hr5 hown5 hG5 hs5 hb5
    obtain ⟨o, hgk, hol, hpt, hka, hrow, hown, hG, hsz, hb⟩ := hrel
    have HGK := Lib.hid hgk
    have HPT := Lib.hid hpt
    have HKA := Lib.hid hka
    have HOW := Lib.hid hown
    have HRO := Lib.hid hrow
    have HG := Lib.hid hG
    have HB := Lib.hid hb
    have HSZ := Lib.hid hsz
    obtain ⟨Ao, co, rfl, _, _, _⟩ := Gr.own_el Gr.inV 1 Gr.inV_len (l := Gr.nats o) (by rw [Gr.nats_len]; exact hown)
    rw [Gr.nats_len] at HOW ⊢
    clear hgk hpt hka hown hrow hsz hb
    obtain ⟨q0, q1⟩ := gb_cells hG
    rw [HNN.out] at q0
    clear hG
    obtain ⟨n, hn⟩ : ∃ n, o.length = n := ⟨_, rfl⟩
    have HOL := Lib.hid hn
    rw [hn] at HOW hol ⊢
    clear hn
    by_cases hlt : n < N
    · have b1 : decide ((n : Int) < (N : Int)) = true := decide_eq_true (by omega)
      have b1n : decide (n < N) = true := decide_eq_true hlt
      have HLT := Lib.hid hlt
      go_wp2_with fail
      clear b1 b1n q0 q1 hlt
      obtain ⟨w00, rfl⟩ : ∃ x : World, x = wr := ⟨_, rfl⟩
      go_loopw [6] (fun s6 wr => ∃ k : Nat, s6 = .int .i64 k ∧ k ≤ N ∧ (∀ m, m < k → Gr.rdy g.es o m = false) ∧ Below w00.heap.size w00 wr) (fun s6 _ => N - (intOf s6).toNat)
      case atStart => exact ⟨0, rfl, by omega, fun m h => (by omega), Below.refl _ _⟩
      case round =>
        obtain ⟨k, rfl, hk, hno, hb⟩ := hrel
        have HNo := Lib.hid hno
        have HB2 := Lib.hid hb
        clear hno hb
        have hG2 := (HB2.out.block _ (blk_lt HG.out)).trans HG.out
        obtain ⟨q0, q1⟩ := gb_cells hG2
        rw [HNN.out] at q0
        clear hG2
        by_cases hlt : k < N
        · have b1 : decide ((k : Int) < (N : Int)) = true := decide_eq_true (by omega)
          have b1n : decide (k < N) = true := decide_eq_true hlt
          have HBW := Lib.hid (HB.out.trans (HB2.out.mono HB.out.size))
          have cc := qready_any g o k gt N A B c d wr (HA.out.next HBW.out) HOk.out HNN.out hlt (HRO.out.of_block (HB2.out.block _ HRO.out.lt))
          rw [show grV A B c d g = .agg #[.slice A N c, .slice B g.es.length d] by rw [← HNN.out]] at cc
          generalize hv : Gr.rdy g.es o k = v at *
          have HV := Lib.hid hv
          clear hv
          go_wp2_with fail
          with_reducible refine cc.mono ?_
          clear cc q0 q1
          rintro e w6 ⟨rfl, hb6⟩
          have HB3 := Lib.hid (HB2.out.trans (hb6.mono HB2.out.size))
          clear hb6
          have hG3 := (HB3.out.block _ (blk_lt HG.out)).trans HG.out
          obtain ⟨q0, q1⟩ := gb_cells hG3
          rw [HNN.out] at q0
          clear hG3
          cases v with
          | false =>
            have HN2 := Lib.hid (show ∀ m, m < k + 1 → Gr.rdy g.es o m = false from fun m hm => by
              by_cases e : m = k
              · rw [e]; exact HV.out
              · exact HNo.out m (by omega))
            go_wp2_with fail
            go_roundw
            case rel => exact ⟨k + 1, by go_num, by omega, HN2.out, HB3.out⟩
            case measure => simp [intOf]; omega
          | true =>
            have x1 : ((k : Int) == (N : Int)) = false := by rw [beq_eq_false_iff_ne]; omega
            have HKN := Lib.hid (show Gr.kahn g.es N N [] = Gr.kahn g.es N (N - (n + 1)) (o ++ [k]) by
              rw [HKA.out, HOL.out, show N - n = N - (n + 1) + 1 by have := HLT.out; omega]
              exact Gr.kahn_some hlt HV.out HNo.out)
            have HPN := Lib.hid (HPT.out.add hlt HV.out)
            have hrow3 := HRO.out.of_block (HB3.out.block _ HRO.out.lt)
            have e5 : w6.cell? ⟨gt, k, none⟩ = some (.bool (o.contains k)) := hrow3.cell hlt
            have f5 := hrow3.frozen k
            have y5 : (k : Int) < (N : Int) := by omega
            have hr7 := (hrow3.set k (.bool true)).congr (g := fun i => .bool ((o ++ [k]).contains i)) fun i hi => by
              by_cases e : i = k
              · rw [if_pos e, e]; simp
              · rw [if_neg e]
                have : (o ++ [k]).contains i = o.contains i := by
                  rw [Bool.eq_iff_iff, List.contains_iff_mem, List.contains_iff_mem, List.mem_append, List.mem_singleton]
                  exact ⟨fun h => h.resolve_right e, .inl⟩
                rw [this]
            have ho3 := own_below HOW.out HB3.out
            have ho7 : (w6.setCell ⟨gt, k, none⟩ (.bool true)).ownsRow Bc 3 1 (.slice Ao n co) n (Gr.insV (Gr.nats o)) := own_same ho3 fun q hq => heap_setCell_other w6 ⟨gt, k, none⟩ q _ (show q ≠ gt by have := (ho3.lt q hq).1; have := HGT.out; omega)
            have hb7 := (HB.out.trans (HB3.out.mono HB.out.size)).setCell (p := ⟨gt, k, none⟩) (show w.heap.size ≤ gt by have := HGT.out; omega) (.bool true)
            have hG7 := (heap_setCell_other w6 ⟨gt, k, none⟩ w.heap.size (.bool true) (show w.heap.size ≠ gt by have := HGT.out; omega)).trans ((HB3.out.block _ (blk_lt HG.out)).trans HG.out)
            have hs7 : Bc ≤ (w6.setCell ⟨gt, k, none⟩ (.bool true)).heap.size := by have := HB3.out.size; have := HSZ.out; simp; omega
            clear hrow3 ho3
            go_upto_region 12 with (fail)
            generalize w6.setCell ⟨gt, k, none⟩ (.bool true) = w7 at *
            clear e5 f5 q0 q1
            have HOA := Lib.hid (ho7.alloc (.cells #[.int .i64 k] 3))
            have HRA := Lib.hid (hr7.alloc (.cells #[.int .i64 k] 3))
            have HBA := Lib.hid (hb7.alloc hb7.size (.cells #[.int .i64 k] 3))
            have HGA := Lib.hid ((blk_alloc_lt w7 (.cells #[.int .i64 k] 3) _ (blk_lt hG7)).trans hG7)
            have hsa : Bc ≤ (w7.alloc (.cells #[.int .i64 k] 3)).heap.size := by simp; omega
            have hox : n ≤ 100000 := by omega
            clear ho7 hr7 hb7 hG7 hs7
            go_wp2_with (at_builtin; refine wpList_append_own_wide _ (by rfl) _ _ 29 (by rfl) Bc 3 i0 _ 1 8 Try.underlying29 hi0 hz0 hz1 hz2 rfl (by omega) _ n _ (by rfl) HOA.out ⟨w7.heap.size, 0, none⟩ 1 1 [_] (by rfl) (by rfl) (World.news_of_block (cs := #[_]) (t := 3) (fr := (0, 0)) (heap_alloc_new w7 _)) (by simp [Value.oneCell']) (by unfold maxLen; omega) (by omega) hsa ?_; intro v8 w8 hown8 hgrow8 _; have HB8 := Lib.hid (below_grown HBA.out HBA.out.size (own_mono HOA.out HGT.out.2.2) hgrow8); have HR8 := Lib.hid (HRA.out.of_block (grown_below HOA.out hgrow8 HGT.out.2.1 HRA.out.lt)); have HG8 := Lib.hid ((grown_below HOA.out hgrow8 (show w.heap.size < Bc by have := HGT.out; omega) (blk_lt HGA.out)).trans HGA.out); have HS8 := Lib.hid (Nat.le_trans hsa hgrow8.size); have HO8 := Lib.hid hown8; clear hgrow8 hown8)
            go_roundg (N - (n + 1))
            case measure => have := HGK.out; have := HLT.out; have := HOL.out; omega
            case rel => exact ⟨o ++ [k], by rw [List.length_append, List.length_singleton, HOL.out], by rw [List.length_append, List.length_singleton, HOL.out]; exact HLT.out, HPN.out, by rw [List.length_append, List.length_singleton, HOL.out]; exact HKN.out, HR8.out, by rw [List.length_append, List.length_singleton, HOL.out, Gr.nats_app, Gr.insV_app, Gr.insV_one]; exact HO8.out, HG8.out, HS8.out, HB8.out⟩
        · have b1 : decide ((k : Int) < (N : Int)) = false := decide_eq_false (by omega)
          have b1n : decide (k < N) = false := decide_eq_false hlt
          obtain rfl : k = N := by omega
          have HR := Lib.hid (HL2.out (by
            rw [HKA.out, HOL.out, show k - n = k - (n + 1) + 1 by have := HLT.out; omega]
            exact Gr.kahn_none HNo.out))
          have HBW := Lib.hid (HB.out.trans (HB2.out.mono HB.out.size))
          go_wp2_with fail
          first | go_ret3 | go_ret2 | go_ret
          exact ⟨_, _, rfl, [], HR.out, World.ownsRow_nil _ _ _ _, HBW.out⟩
    · have b1 : decide ((n : Int) < (N : Int)) = false := decide_eq_false (by omega)
      have b1n : decide (n < N) = false := decide_eq_false hlt
      have HR := Lib.hid (HY2.out o (HKA.out.trans (by rw [HOL.out, show N - n = 0 by omega]; rfl)))
      have HO := Lib.hid (own_mono HOW.out HGT.out.2.2)
      go_wp2_with fail
      first | go_ret3 | go_ret2 | go_ret
      exact ⟨_, _, rfl, Gr.nats o, HR.out, by rw [Gr.nats_len, HOL.out]; exact HO.out, HB.out⟩
end Go.Proofs.Ytdiaejdoglccoaa
