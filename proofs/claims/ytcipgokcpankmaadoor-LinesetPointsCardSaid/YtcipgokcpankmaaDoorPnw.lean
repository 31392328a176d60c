/- The law LinesetPoints returns true. Condition: bytealg's MaxLen and the table of powers lie in their variables. -/
import Derived.Test.YtcipgokcpankmaaDoorPnl
import Derived.Test.YtcipgokcpankmaaDoorCls
namespace Go.Proofs.YtcipgokcpankmaaDoor
open Go.RowKit Go.Deep Tr

/-- A line in a block of its own. -/
structure LnBox (w : World) (x0 : Nat) (p : List UInt8) (n : Int) : Prop where
  at_ : w.heap[x0]? = some (.cells #[.string (str p), .int .i64 n] 25 (0, 0))
theorem LnBox.next {w w' : World} {x0 : Nat} {p : List UInt8} {n : Int} (h : LnBox w x0 p n) (hb : Below w.heap.size w w') : LnBox w' x0 p n := ⟨(hb.block _ (blk_lt h.at_)).trans h.at_⟩
set_option maxHeartbeats 64000000 in
set_option maxRecDepth 100000 in
theorem points_law (a b : List Ls.Sp) (sx : ByteArray) (xn : Int) (A A' : Option Addr) (c0 c' : Nat) (W : World) (hA0 : SetRaw W A a) (hB0' : SetRaw W A' b) (hM0 : MaxAt W) (hT0 : Cd.Tabs W) :
    Calls Tryd.prog 5 #[.slice A a.length c0, .slice A' b.length c', .agg #[.string sx, .int .i64 xn]] W fun e w' => e = .returned (.bool true) ∧ Below W.heap.size W w' := by
  obtain ⟨xp, rfl⟩ : ∃ xp, sx = str xp := ⟨sx.data.toList, (str_of sx).symm⟩
  have hB1 : Below W.heap.size W (W.alloc (.cells #[.string (str xp), .int .i64 xn] 25)) := (Below.refl _ _).alloc (Nat.le_refl _) _
  have hX1 : LnBox (W.alloc (.cells #[.string (str xp), .int .i64 xn] 25)) W.heap.size xp xn := ⟨heap_alloc_new W _⟩
  have hM1 := hM0.below hB1
  have hT1 := hT0.below hB1
  have hA1 := hA0.next hB1
  have hBq1 := hB0'.next hB1
  clear hB0' hA0 hM0 hT0
  go_enter Tryd.func5, Tryd.ntmps5
  go_upto_region 1 with (fail)
  generalize W.alloc (.cells #[.string (str xp), .int .i64 xn] 25) = w1 at *
  obtain ⟨x0, hx0⟩ : ∃ x, W.heap.size = x := ⟨_, rfl⟩
  rw [hx0] at hX1 ⊢
  have cc := awake_any w1 hM1 hT1
  go_wp2_with fail
  with_reducible refine cc.mono ?_
  clear cc 
  rintro x w2 ⟨rfl, hb2⟩
  have hB2 := hB1.trans (hb2.mono hB1.size)
  have hM2 := hM1.below hb2
  have hT2 := hT1.below hb2
  have hA2 := hA1.next hb2
  have hBq2 := hBq1.next hb2
  have hX2 := hX1.next hb2
  clear hB1 hb2 hM1 hT1 hA1 hBq1 hX1
  have cc := few_any a A c0 w2 hA2
  go_wp2_with fail
  with_reducible refine cc.mono ?_
  clear cc 
  rintro x w3 ⟨b0, rfl, hf, hb3⟩
  have hB3 := hB2.trans (hb3.mono hB2.size)
  have hM3 := hM2.below hb3
  have hT3 := hT2.below hb3
  have hA3 := hA2.next hb3
  have hBq3 := hBq2.next hb3
  have hX3 := hX2.next hb3
  clear hB2 hb3 hM2 hT2 hA2 hBq2 hX2
  cases b0 with
  | false =>
    clear hf
    go_wp2_with fail
    first | go_ret2 | go_ret
    exact ⟨rfl, hB3⟩
  | true =>
  have HFa := Lib.hid (hf rfl)
  clear hf
  have cc := few_any b A' c' w3 hBq3
  go_wp2_with fail
  with_reducible refine cc.mono ?_
  clear cc 
  rintro x w4 ⟨b0, rfl, hf, hb4⟩
  have hB4 := hB3.trans (hb4.mono hB3.size)
  have hM4 := hM3.below hb4
  have hT4 := hT3.below hb4
  have hA4 := hA3.next hb4
  have hBq4 := hBq3.next hb4
  have hX4 := hX3.next hb4
  clear hB3 hb4 hM3 hT3 hA3 hBq3 hX3
  cases b0 with
  | false =>
    clear hf
    go_wp2_with fail
    first | go_ret2 | go_ret
    exact ⟨rfl, hB4⟩
  | true =>
  have HFb := Lib.hid (hf rfl)
  clear hf
  have hset := hA4.set HFa.out
  have cc := valid_any a A c0 w4 hset.at_ (by have := hset.len; omega) hset.path hM4
  go_wp2_with fail
  with_reducible refine cc.mono ?_
  clear cc 
  rintro x w5 ⟨rfl, hb5⟩
  have hB5 := hB4.trans (hb5.mono hB4.size)
  have hM5 := hM4.below hb5
  have hT5 := hT4.below hb5
  have hA5 := hA4.next hb5
  have hBq5 := hBq4.next hb5
  have hX5 := hX4.next hb5
  clear hB4 hb5 hM4 hT4 hA4 hBq4 hX4
  clear hset
  cases hv : Ls.vld a with
  | false =>
    clear hv
    go_wp2_with fail
    first | go_ret2 | go_ret
    exact ⟨rfl, hB5⟩
  | true =>
  have Va := Lib.hid hv
  clear hv
  have hset := hBq5.set HFb.out
  have cc := valid_any b A' c' w5 hset.at_ (by have := hset.len; omega) hset.path hM5
  go_wp2_with fail
  with_reducible refine cc.mono ?_
  clear cc 
  rintro x w6 ⟨rfl, hb6⟩
  have hB6 := hB5.trans (hb6.mono hB5.size)
  have hM6 := hM5.below hb6
  have hT6 := hT5.below hb6
  have hA6 := hA5.next hb6
  have hBq6 := hBq5.next hb6
  have hX6 := hX5.next hb6
  clear hB5 hb6 hM5 hT5 hA5 hBq5 hX5
  clear hset
  cases hv : Ls.vld b with
  | false =>
    clear hv
    go_wp2_with fail
    first | go_ret2 | go_ret
    exact ⟨rfl, hB6⟩
  | true =>
  have Vb := Lib.hid hv
  clear hv
  have hSa6 := hA6.set HFa.out
  have hSb6 := hBq6.set HFb.out
  have hLa := HFa.out.1
  have hLb := HFb.out.1
  clear hA6 hBq6 hT6
  have cc := union_any a b A A' c0 c' w6 hSa6 hSb6 hM6
  go_wp2_with fail
  with_reducible refine cc.mono ?_
  clear cc
  rintro e w7 hgot
  obtain ⟨u, Au, cu, rfl, hC, hS, hb7⟩ := gotOp_ok (by rw [Va.out, Vb.out]; rfl) hgot
  clear hgot
  have Hu := Lib.hid (hasV_comb Va.out Vb.out hC)
  have Vu := Lib.hid ((Ls.vld_iff u).2 hC.1)
  have hLu : u.length ≤ 48 := by have := hC.2.2; omega
  have hSu7 : SetAt w7 Au u := ⟨hS, by omega, fun s hs => by have := Ls.pathOk_len (hC.1.each s hs).1; omega⟩
  clear hC hS
  have hB7 := hB6.trans (hb7.mono hB6.size)
  have hM7 := hM6.below hb7
  have hX7 := hX6.next hb7
  have hSa7 := hSa6.next hb7
  have hSb7 := hSb6.next hb7
  clear hB6 hb7 hM6 hX6 hSa6 hSb6
  have cc := meet_any a b A A' c0 c' w7 hSa7 hSb7 hM7
  go_wp2_with fail
  with_reducible refine cc.mono ?_
  clear cc
  rintro e w8 hgot
  obtain ⟨m, Am, cm, rfl, hC, hS, hb8⟩ := gotOp_ok (by rw [Va.out, Vb.out]; rfl) hgot
  clear hgot
  have Hm := Lib.hid (hasV_comb Va.out Vb.out hC)
  have Vm := Lib.hid ((Ls.vld_iff m).2 hC.1)
  have hLm : m.length ≤ 48 := by have := hC.2.2; omega
  have hSm8 : SetAt w8 Am m := ⟨hS, by omega, fun s hs => by have := Ls.pathOk_len (hC.1.each s hs).1; omega⟩
  clear hC hS
  have hB8 := hB7.trans (hb8.mono hB7.size)
  have hM8 := hM7.below hb8
  have hX8 := hX7.next hb8
  have hSa8 := hSa7.next hb8
  have hSb8 := hSb7.next hb8
  have hSu8 := hSu7.next hb8
  clear hB7 hb8 hM7 hX7 hSa7 hSb7 hSu7
  have cc := minus_any a b A A' c0 c' w8 hSa8 hSb8 hM8
  go_wp2_with fail
  with_reducible refine cc.mono ?_
  clear cc
  rintro e w9 hgot
  obtain ⟨q, Aq, cq, rfl, hC, hS, hb9⟩ := gotOp_ok (by rw [Va.out, Vb.out]; rfl) hgot
  clear hgot
  have Hq := Lib.hid (hasV_comb Va.out Vb.out hC)
  have Vq := Lib.hid ((Ls.vld_iff q).2 hC.1)
  have hLq : q.length ≤ 48 := by have := hC.2.2; omega
  have hSq9 : SetAt w9 Aq q := ⟨hS, by omega, fun s hs => by have := Ls.pathOk_len (hC.1.each s hs).1; omega⟩
  clear hC hS
  have hB9 := hB8.trans (hb9.mono hB8.size)
  have hM9 := hM8.below hb9
  have hX9 := hX8.next hb9
  have hSa9 := hSa8.next hb9
  have hSb9 := hSb8.next hb9
  have hSu9 := hSu8.next hb9
  have hSm9 := hSm8.next hb9
  clear hB8 hb9 hM8 hX8 hSa8 hSb8 hSu8 hSm8
  have cc := valid_any u Au cu w9 hSu9.at_ (by omega) hSu9.path hM9
  go_wp2_with fail
  with_reducible refine cc.mono ?_
  clear cc 
  rintro x w10 ⟨rfl, hb10⟩
  have hB10 := hB9.trans (hb10.mono hB9.size)
  have hM10 := hM9.below hb10
  have hX10 := hX9.next hb10
  have hSa10 := hSa9.next hb10
  have hSb10 := hSb9.next hb10
  have hSu10 := hSu9.next hb10
  have hSm10 := hSm9.next hb10
  have hSq10 := hSq9.next hb10
  clear hB9 hb10 hM9 hX9 hSa9 hSb9 hSu9 hSm9 hSq9
  rw [Vu.out]
  have cc := valid_any m Am cm w10 hSm10.at_ (by omega) hSm10.path hM10
  go_wp2_with fail
  with_reducible refine cc.mono ?_
  clear cc 
  rintro x w11 ⟨rfl, hb11⟩
  have hB11 := hB10.trans (hb11.mono hB10.size)
  have hM11 := hM10.below hb11
  have hX11 := hX10.next hb11
  have hSa11 := hSa10.next hb11
  have hSb11 := hSb10.next hb11
  have hSu11 := hSu10.next hb11
  have hSm11 := hSm10.next hb11
  have hSq11 := hSq10.next hb11
  clear hB10 hb11 hM10 hX10 hSa10 hSb10 hSu10 hSm10 hSq10
  rw [Vm.out]
  have cc := valid_any q Aq cq w11 hSq11.at_ (by omega) hSq11.path hM11
  go_wp2_with fail
  with_reducible refine cc.mono ?_
  clear cc 
  rintro x w12 ⟨rfl, hb12⟩
  have hB12 := hB11.trans (hb12.mono hB11.size)
  have hM12 := hM11.below hb12
  have hX12 := hX11.next hb12
  have hSa12 := hSa11.next hb12
  have hSb12 := hSb11.next hb12
  have hSu12 := hSu11.next hb12
  have hSm12 := hSm11.next hb12
  have hSq12 := hSq11.next hb12
  clear hB11 hb12 hM11 hX11 hSa11 hSb11 hSu11 hSm11 hSq11
  rw [Vq.out]
  have HSA := Lib.hid hSa12
  have HSB := Lib.hid hSb12
  have HSU := Lib.hid hSu12
  have HSM := Lib.hid hSm12
  have HSQ := Lib.hid hSq12
  have HMM := Lib.hid hM12
  have HB := Lib.hid hB12
  have xe0 : w12.cell? ⟨x0, 0, none⟩ = some (.string (str xp)) := by rw [cell_of_row _ _ _ _ _ _ hX12.at_]; rfl
  have xe1 : w12.cell? ⟨x0, 1, none⟩ = some (.int .i64 xn) := by rw [cell_of_row _ _ _ _ _ _ hX12.at_]; rfl
  have HP := Lib.hid (Pts.init w12 (xp, xn) (.cells #[.slice A a.length c0, .slice A' b.length c'] 23))
  have HSZ := Lib.hid (show (w12.alloc (.cells #[.string (str xp), .int .i64 xn] 25)).heap.size = w12.heap.size + 1 by simp)
  clear hSa12 hSb12 hSu12 hSm12 hSq12 hM12 hB12 hX12 hLu hLm hLq HFa HFb
  obtain ⟨iln, hiln, hz0, hz1, hz2⟩ := info_parts infoLn
  go_wp2_with fail
  clear xe0 xe1
  generalize hTT : (Obj.cells #[.slice A a.length c0, .slice A' b.length c'] 23 (0, 0)) = TT at HP
  have HTT := Lib.hid hTT
  clear hTT
  go_loopw [13, 91] (fun s13 s91 wr => (s91 = .int .i64 0 ∧ Pts w12 TT 1 s13 wr) ∨ (s91 = .int .i64 1 ∧ Pts w12 TT 49 s13 wr) ∨ (s91 = .int .i64 2 ∧ Pts w12 TT 97 s13 wr)) (fun _ s91 _ => 2 - (intOf s91).toNat)
  case atStart => exact .inl ⟨rfl, HP.out⟩
  case round =>
    clear HP
    rcases hrel with ⟨rfl, hP⟩ | ⟨rfl, hP⟩ | ⟨rfl, hP⟩
    · obtain ⟨ys, gg, cap, hn, rfl, hne, hown, hTB, hb⟩ := hP
      have ct0 : wr.cell? ⟨w12.heap.size + 1, 0, none⟩ = some (.slice A a.length c0) := by rw [← HTT.out] at hTB; rw [cell_of_row _ _ _ _ _ _ hTB]; rfl
      have HP0 := Lib.hid (show Pts w12 TT 1 _ wr from ⟨ys, gg, cap, hn, rfl, hne, hown, hTB, hb⟩)
      clear hn hne hown hTB hb
      go_wp2_with fail
      clear ct0
      go_loopw [13, 97] (fun s13 s97 wr => ∃ k : Nat, k ≤ a.length ∧ s97 = .int .i64 k ∧ Pts w12 TT (1 + 4 * k) s13 wr) (fun _ s97 _ => a.length - (intOf s97).toNat)
      case atStart => exact ⟨0, by omega, rfl, HP0.out⟩
      case round =>
        obtain ⟨k, hk, rfl, hP⟩ := hrel
        clear HP0
        by_cases hlt : k < a.length
        · have b1 : decide ((k : Int) < (a.length : Int)) = true := decide_eq_true (by omega)
          have b1n : decide (k < a.length) = true := decide_eq_true hlt
          obtain ⟨ys, gg, cap, hn, rfl, hne, hown, hTB, hb⟩ := hP
          obtain ⟨g, o, rfl, hg, hc⟩ := HSA.out.at_ k hlt
          have hd0 := (hb.cell (p := ⟨g, o + k * 3, none⟩) hg).trans (hc 0 _ rfl)
          have hd1 := (hb.cell (p := ⟨g, o + k * 3 + 1, none⟩) hg).trans (hc 1 _ rfl)
          have hd2 := (hb.cell (p := ⟨g, o + k * 3 + 2, none⟩) hg).trans (hc 2 _ rfl)
          clear hc
          generalize a[k] = s at *
          obtain ⟨z1, hz1'⟩ : ∃ x, IntKind.i64.wrap (s.lo - 1) = x := ⟨_, rfl⟩
          obtain ⟨z2, hz2'⟩ : ∃ x, IntKind.i64.wrap (s.hi - 1) = x := ⟨_, rfl⟩
          have hN := heap_alloc_new wr (.cells #[.string (str s.path), .int .i64 s.lo, .int .i64 s.hi] 40)
          have hbX : Below w12.heap.size w12 (wr.alloc (.cells #[.string (str s.path), .int .i64 s.lo, .int .i64 s.hi] 40)) := hb.alloc hb.size _
          have hoX := hown.alloc (.cells #[.string (str s.path), .int .i64 s.lo, .int .i64 s.hi] 40)
          have hTX : (wr.alloc (.cells #[.string (str s.path), .int .i64 s.lo, .int .i64 s.hi] 40)).heap[w12.heap.size + 1]? = some TT := (blk_alloc_lt _ _ _ (blk_lt hTB)).trans hTB
          go_upto_region 17 with (fail)
          clear hd0 hd1 hd2 hb hown hTB
          generalize wr.alloc (.cells #[.string (str s.path), .int .i64 s.lo, .int .i64 s.hi] 40) = X at *
          generalize wr.heap.size = qq at *
          have e0 : X.cell? ⟨qq, 0, none⟩ = some (.string (str s.path)) := by rw [cell_of_row _ _ _ _ _ _ hN]; rfl
          have e1 : X.cell? ⟨qq, 1, none⟩ = some (.int .i64 s.lo) := by rw [cell_of_row _ _ _ _ _ _ hN]; rfl
          have e2 : X.cell? ⟨qq, 2, none⟩ = some (.int .i64 s.hi) := by rw [cell_of_row _ _ _ _ _ _ hN]; rfl
          have hwX := hbX.size
          go_wp2_with (at_builtin; refine wpList_append_lies _ (by rfl) _ _ 29 (by rfl) w12.heap.size 25 iln _ 2 24 Tryd.underlying29 hiln hz0 hz1 hz2 rfl (by omega) (.slice (some ⟨gg, 0, none⟩) ys.length cap) ys.length _ (by rfl) (hoX.alloc _) ⟨X.heap.size, 0, none⟩ 4 4 [_, _, _, _, _, _, _, _] (by rfl) (by rfl) (World.news_of_block (cs := #[_, _, _, _, _, _, _, _]) (t := 25) (fr := (0, 0)) (heap_alloc_new X _)) (by simp [Value.oneCell']) (by omega) (by unfold maxLen; omega) (by omega) (by simp; omega) (X.heap.size + 1) (by simp) ?_; intro g2 cap2 w6 hown6 hgrow hat hlt6)
          have HQ := Lib.hid (Pts.more (zs := [(s.path, z1), (s.path, s.lo), (s.path, z2), (s.path, s.hi)]) rfl hn hne hbX hTX hoX hown6 hgrow hat)
          clear hown6 hgrow hat hlt6 e0 e1 e2 hoX hbX hTX hN hz1' hz2'
          go_roundw
          case rel => exact ⟨k + 1, by omega, by go_num, HQ.out.le (by omega)⟩
          case measure => simp [intOf]; omega
        · have b1 : decide ((k : Int) < (a.length : Int)) = false := decide_eq_false (by omega)
          have b1n : decide (k < a.length) = false := decide_eq_false hlt
          have HQ := Lib.hid hP
          clear hP
          go_wp2_with fail
          go_roundw
          case rel => exact .inr (.inl ⟨rfl, HQ.out.le (by omega)⟩)
          case measure => simp [intOf]
    · obtain ⟨ys, gg, cap, hn, rfl, hne, hown, hTB, hb⟩ := hP
      have ct0 : wr.cell? ⟨w12.heap.size + 1, 1, none⟩ = some (.slice A' b.length c') := by rw [← HTT.out] at hTB; rw [cell_of_row _ _ _ _ _ _ hTB]; rfl
      have HP0 := Lib.hid (show Pts w12 TT 49 _ wr from ⟨ys, gg, cap, hn, rfl, hne, hown, hTB, hb⟩)
      clear hn hne hown hTB hb
      go_wp2_with fail
      clear ct0
      go_loopw [13, 97] (fun s13 s97 wr => ∃ k : Nat, k ≤ b.length ∧ s97 = .int .i64 k ∧ Pts w12 TT (49 + 4 * k) s13 wr) (fun _ s97 _ => b.length - (intOf s97).toNat)
      case atStart => exact ⟨0, by omega, rfl, HP0.out⟩
      case round =>
        obtain ⟨k, hk, rfl, hP⟩ := hrel
        clear HP0
        by_cases hlt : k < b.length
        · have b1 : decide ((k : Int) < (b.length : Int)) = true := decide_eq_true (by omega)
          have b1n : decide (k < b.length) = true := decide_eq_true hlt
          obtain ⟨ys, gg, cap, hn, rfl, hne, hown, hTB, hb⟩ := hP
          obtain ⟨g, o, rfl, hg, hc⟩ := HSB.out.at_ k hlt
          have hd0 := (hb.cell (p := ⟨g, o + k * 3, none⟩) hg).trans (hc 0 _ rfl)
          have hd1 := (hb.cell (p := ⟨g, o + k * 3 + 1, none⟩) hg).trans (hc 1 _ rfl)
          have hd2 := (hb.cell (p := ⟨g, o + k * 3 + 2, none⟩) hg).trans (hc 2 _ rfl)
          clear hc
          generalize b[k] = s at *
          obtain ⟨z1, hz1'⟩ : ∃ x, IntKind.i64.wrap (s.lo - 1) = x := ⟨_, rfl⟩
          obtain ⟨z2, hz2'⟩ : ∃ x, IntKind.i64.wrap (s.hi - 1) = x := ⟨_, rfl⟩
          have hN := heap_alloc_new wr (.cells #[.string (str s.path), .int .i64 s.lo, .int .i64 s.hi] 40)
          have hbX : Below w12.heap.size w12 (wr.alloc (.cells #[.string (str s.path), .int .i64 s.lo, .int .i64 s.hi] 40)) := hb.alloc hb.size _
          have hoX := hown.alloc (.cells #[.string (str s.path), .int .i64 s.lo, .int .i64 s.hi] 40)
          have hTX : (wr.alloc (.cells #[.string (str s.path), .int .i64 s.lo, .int .i64 s.hi] 40)).heap[w12.heap.size + 1]? = some TT := (blk_alloc_lt _ _ _ (blk_lt hTB)).trans hTB
          go_upto_region 17 with (fail)
          clear hd0 hd1 hd2 hb hown hTB
          generalize wr.alloc (.cells #[.string (str s.path), .int .i64 s.lo, .int .i64 s.hi] 40) = X at *
          generalize wr.heap.size = qq at *
          have e0 : X.cell? ⟨qq, 0, none⟩ = some (.string (str s.path)) := by rw [cell_of_row _ _ _ _ _ _ hN]; rfl
          have e1 : X.cell? ⟨qq, 1, none⟩ = some (.int .i64 s.lo) := by rw [cell_of_row _ _ _ _ _ _ hN]; rfl
          have e2 : X.cell? ⟨qq, 2, none⟩ = some (.int .i64 s.hi) := by rw [cell_of_row _ _ _ _ _ _ hN]; rfl
          have hwX := hbX.size
          go_wp2_with (at_builtin; refine wpList_append_lies _ (by rfl) _ _ 29 (by rfl) w12.heap.size 25 iln _ 2 24 Tryd.underlying29 hiln hz0 hz1 hz2 rfl (by omega) (.slice (some ⟨gg, 0, none⟩) ys.length cap) ys.length _ (by rfl) (hoX.alloc _) ⟨X.heap.size, 0, none⟩ 4 4 [_, _, _, _, _, _, _, _] (by rfl) (by rfl) (World.news_of_block (cs := #[_, _, _, _, _, _, _, _]) (t := 25) (fr := (0, 0)) (heap_alloc_new X _)) (by simp [Value.oneCell']) (by omega) (by unfold maxLen; omega) (by omega) (by simp; omega) (X.heap.size + 1) (by simp) ?_; intro g2 cap2 w6 hown6 hgrow hat hlt6)
          have HQ := Lib.hid (Pts.more (zs := [(s.path, z1), (s.path, s.lo), (s.path, z2), (s.path, s.hi)]) rfl hn hne hbX hTX hoX hown6 hgrow hat)
          clear hown6 hgrow hat hlt6 e0 e1 e2 hoX hbX hTX hN hz1' hz2'
          go_roundw
          case rel => exact ⟨k + 1, by omega, by go_num, HQ.out.le (by omega)⟩
          case measure => simp [intOf]; omega
        · have b1 : decide ((k : Int) < (b.length : Int)) = false := decide_eq_false (by omega)
          have b1n : decide (k < b.length) = false := decide_eq_false hlt
          have HQ := Lib.hid hP
          clear hP
          go_wp2_with fail
          go_roundw
          case rel => exact .inr (.inr ⟨rfl, HQ.out.le (by omega)⟩)
          case measure => simp [intOf]
    · obtain ⟨ys, AY, cY, rfl, hyl, hLN, hb⟩ := hP.out
      rename World => wo
      have HLN := Lib.hid hLN
      have HBW := Lib.hid hb
      clear hP hLN hb
      have HSA := Lib.hid (HSA.out.next HBW.out)
      have HSB := Lib.hid (HSB.out.next HBW.out)
      have HSU := Lib.hid (HSU.out.next HBW.out)
      have HSM := Lib.hid (HSM.out.next HBW.out)
      have HSQ := Lib.hid (HSQ.out.next HBW.out)
      have HMM := Lib.hid (HMM.out.below HBW.out)
      have HB := Lib.hid (HB.out.trans (HBW.out.mono HB.out.size))
      clear HBW
      go_wp2_with fail
      go_loopw [130] (fun v wr => ∃ k : Nat, k ≤ ys.length ∧ v = .int .i64 k ∧ Below wo.heap.size wo wr) (fun v _ => ys.length - (intOf v).toNat)
      case atStart => exact ⟨0, by omega, rfl, Below.refl _ _⟩
      case round =>
        obtain ⟨k, hk, rfl, hb⟩ := hrel
        by_cases hlt : k < ys.length
        · have b1 : decide ((k : Int) < (ys.length : Int)) = true := decide_eq_true (by omega)
          have b1n : decide (k < ys.length) = true := decide_eq_true hlt
          obtain ⟨g, o, rfl, hg, hc⟩ := HLN.out k hlt
          have hd0 := (hb.cell (p := ⟨g, o + k * 2, none⟩) hg).trans (hc 0 _ rfl)
          have hd1 := (hb.cell (p := ⟨g, o + k * 2 + 1, none⟩) hg).trans (hc 1 _ rfl)
          clear hc
          generalize ys[k] = y at *
          obtain ⟨p, n⟩ := y
          have hN := heap_alloc_new wr (.cells #[.string (str p), .int .i64 n] 25)
          have hbX : Below wo.heap.size wo (wr.alloc (.cells #[.string (str p), .int .i64 n] 25)) := hb.alloc hb.size _
          go_upto_region 23 with (fail)
          clear hd0 hd1 hb
          generalize wr.alloc (.cells #[.string (str p), .int .i64 n] 25) = X at *
          generalize wr.heap.size = qq at *
          have e0 : X.cell? ⟨qq, 0, none⟩ = some (.string (str p)) := by rw [cell_of_row _ _ _ _ _ _ hN]; rfl
          have e1 : X.cell? ⟨qq, 1, none⟩ = some (.int .i64 n) := by rw [cell_of_row _ _ _ _ _ _ hN]; rfl
          have hqX : qq < X.heap.size := blk_lt hN
          have hbD : Below wo.heap.size wo X.drew := hbX.drew
          have cc1 := has_any a p n A c0 X.drew (HSA.out.next hbD).at_ (by have := HSA.out.len; omega) HSA.out.path (HMM.out.below hbD)
          have HC2 := Lib.hid (fun (w5 : World) (h5 : Below X.drew.heap.size X.drew w5) => has_any b p n A' c' w5 (HSB.out.next (hbD.trans (h5.mono hbD.size))).at_ (by have := HSB.out.len; omega) HSB.out.path (HMM.out.below (hbD.trans (h5.mono hbD.size))))
          have HE := Lib.hid (fun (w5 : World) (h5 : Below X.drew.heap.size X.drew w5) => (show w5.cell? ⟨qq, 0, none⟩ = some (.string (str p)) ∧ w5.cell? ⟨qq, 1, none⟩ = some (.int .i64 n) from ⟨(h5.cell (p := ⟨qq, 0, none⟩) hqX).trans e0, (h5.cell (p := ⟨qq, 1, none⟩) hqX).trans e1⟩))
          clear hN hbX
          go_region_held3 (fun w' => w'.cell? ⟨qq, 0, none⟩ = some (.string (str p)) ∧ w'.cell? ⟨qq, 1, none⟩ = some (.int .i64 n)) (first | exact ⟨e0, e1⟩ | exact k5 | exact k6) (first | (go_at_call 15; (with_reducible refine cc1.mono ?_); rintro e w5 ⟨rfl, hb5⟩; have k5 := HE.out w5 hb5; have cc2 := HC2.out w5 hb5) | (go_at_call 15; (with_reducible refine cc2.mono ?_); rintro e w6 ⟨rfl, hb6⟩; have k6 := HE.out w6 (hb5.trans (hb6.mono hb5.size))))
          all_goals
            have hbY := hbD.trans ((hb5.trans (hb6.mono hb5.size)).mono hbD.size)
            obtain ⟨s0, s1⟩ := HE.out w6 (hb5.trans (hb6.mono hb5.size))
            have q6 : qq < w6.heap.size := Nat.lt_of_lt_of_le hqX (hb5.trans (hb6.mono hb5.size)).size
            obtain ⟨va, hva⟩ : ∃ x, Ls.hasV a p n = x := ⟨_, rfl⟩
            obtain ⟨vb, hvb⟩ : ∃ x, Ls.hasV b p n = x := ⟨_, rfl⟩
            have hu : Ls.hasV u p n = (va || vb) := by rw [Hu.out, hva, hvb]
            have hm : Ls.hasV m p n = (va && vb) := by rw [Hm.out, hva, hvb]
            have hq : Ls.hasV q p n = (va && !vb) := by rw [Hq.out, hva, hvb]
            try rw [hva]
            try rw [hvb]
            clear hva hvb HC2 HE hb5 hb6 hbD e0 e1 cc1
            cases va <;> cases vb
            all_goals simp only [Bool.or_true, Bool.or_false, Bool.and_true, Bool.and_false, Bool.not_true, Bool.not_false] at hu hm hq
            all_goals
              have HVu := Lib.hid hu
              have HVm := Lib.hid hm
              have HVq := Lib.hid hq
              clear hu hm hq
              have cc := has_any u p n Au cu w6 (HSU.out.next hbY).at_ (by have := HSU.out.len; omega) HSU.out.path (HMM.out.below hbY)
              rw [HVu.out] at cc
              go_wp2_with fail
              with_reducible refine cc.mono ?_
              clear cc
              rintro e w7 ⟨rfl, hb7⟩
              have q7 : qq < w7.heap.size := Nat.lt_of_lt_of_le q6 hb7.size
              have t0 : w7.cell? ⟨qq, 0, none⟩ = some (.string (str p)) := (hb7.cell (p := ⟨qq, 0, none⟩) q6).trans s0
              have t1 : w7.cell? ⟨qq, 1, none⟩ = some (.int .i64 n) := (hb7.cell (p := ⟨qq, 1, none⟩) q6).trans s1
              have hbZ := hbY.trans (hb7.mono hbY.size)
              clear s0 s1 hbY hb7
              have cc := has_any m p n Am cm w7 (HSM.out.next hbZ).at_ (by have := HSM.out.len; omega) HSM.out.path (HMM.out.below hbZ)
              rw [HVm.out] at cc
              go_wp2_with fail
              with_reducible refine cc.mono ?_
              clear cc
              rintro e w8 ⟨rfl, hb8⟩
              have s0 : w8.cell? ⟨qq, 0, none⟩ = some (.string (str p)) := (hb8.cell (p := ⟨qq, 0, none⟩) q7).trans t0
              have s1 : w8.cell? ⟨qq, 1, none⟩ = some (.int .i64 n) := (hb8.cell (p := ⟨qq, 1, none⟩) q7).trans t1
              have hbY := hbZ.trans (hb8.mono hbZ.size)
              clear t0 t1 hbZ hb8
              have cc := has_any q p n Aq cq w8 (HSQ.out.next hbY).at_ (by have := HSQ.out.len; omega) HSQ.out.path (HMM.out.below hbY)
              rw [HVq.out] at cc
              go_wp2_with fail
              with_reducible refine cc.mono ?_
              clear cc
              rintro e w9 ⟨rfl, hb9⟩
              have hbZ := hbY.trans (hb9.mono hbY.size)
              clear s0 s1 hbY hb9
              go_wp2_with fail
              go_roundw
              case rel => exact ⟨k + 1, by omega, by go_num, hbZ⟩
              case measure => simp [intOf]; omega
        · have b1 : decide ((k : Int) < (ys.length : Int)) = false := decide_eq_false (by omega)
          have b1n : decide (k < ys.length) = false := decide_eq_false hlt
          have HZ := Lib.hid (HB.out.trans (hb.mono HB.out.size))
          clear hb
          go_wp2_with fail
          first | go_ret2 | go_ret
          exact ⟨rfl, HZ.out⟩
end Go.Proofs.YtcipgokcpankmaaDoor
