/- The law LinesetCounts returns true. Condition: bytealg's MaxLen and the table of powers lie in their variables. -/
import Derived.Test.YtcipgokcpankmaaDoorCnl
import Derived.Test.YtcipgokcpankmaaDoorCls
namespace Go.Proofs.YtcipgokcpankmaaDoor
open Go.RowKit Go.Deep Tr

set_option maxHeartbeats 64000000 in
set_option maxRecDepth 100000 in
theorem counts_law (a b : List Ls.Sp) (sd : ByteArray) (A A' : Option Addr) (c0 c' : Nat) (W : World) (hA0 : SetRaw W A a) (hB0' : SetRaw W A' b) (hM0 : MaxAt W) (hT0 : Cd.Tabs W) :
    Calls Tryd.prog 7 #[.slice A a.length c0, .slice A' b.length c', .string sd] W fun e w' => e = .returned (.bool true) ∧ Below W.heap.size W w' := by
  obtain ⟨d, rfl⟩ : ∃ d, sd = str d := ⟨sd.data.toList, (str_of sd).symm⟩
  have hB0 := Below.refl W.heap.size W
  have hBq0 := hB0'
  clear hB0'
  go_enter Tryd.func7, Tryd.ntmps7
  have cc := awake_any W hM0 hT0
  go_wp2_with fail
  with_reducible refine cc.mono ?_
  clear cc 
  rintro x w1 ⟨rfl, hb1⟩
  have hB1 := hB0.trans (hb1.mono hB0.size)
  have hM1 := hM0.below hb1
  have hT1 := hT0.below hb1
  have hA1 := hA0.next hb1
  have hBq1 := hBq0.next hb1
  clear hB0 hb1 hM0 hT0 hA0 hBq0
  have cc := few_any a A c0 w1 hA1
  go_wp2_with fail
  with_reducible refine cc.mono ?_
  clear cc 
  rintro x w2 ⟨b0, rfl, hf, hb2⟩
  have hB2 := hB1.trans (hb2.mono hB1.size)
  have hM2 := hM1.below hb2
  have hT2 := hT1.below hb2
  have hA2 := hA1.next hb2
  have hBq2 := hBq1.next hb2
  clear hB1 hb2 hM1 hT1 hA1 hBq1
  cases b0 with
  | false =>
    clear hf
    go_wp2_with fail
    first | go_ret2 | go_ret
    exact ⟨rfl, hB2⟩
  | true =>
  have HFa := Lib.hid (hf rfl)
  clear hf
  have cc := few_any b A' c' w2 hBq2
  go_wp2_with fail
  with_reducible refine cc.mono ?_
  clear cc 
  rintro x w3 ⟨b0, rfl, hf, hb3⟩
  have hB3 := hB2.trans (hb3.mono hB2.size)
  have hM3 := hM2.below hb3
  have hT3 := hT2.below hb3
  have hA3 := hA2.next hb3
  have hBq3 := hBq2.next hb3
  clear hB2 hb3 hM2 hT2 hA2 hBq2
  cases b0 with
  | false =>
    clear hf
    go_wp2_with fail
    first | go_ret2 | go_ret
    exact ⟨rfl, hB3⟩
  | true =>
  have HFb := Lib.hid (hf rfl)
  clear hf
  have hds := str_size d
  by_cases h200 : 200 < d.length
  · have g2 : decide ((200 : Int) < ((str d).size : Int)) = true := decide_eq_true (by omega)
    have g2n : decide (200 < (str d).size) = true := decide_eq_true (by omega)
    clear hds
    go_wp2_with fail
    first | go_ret2 | go_ret
    exact ⟨rfl, hB3⟩
  have g2 : decide ((200 : Int) < ((str d).size : Int)) = false := decide_eq_false (by omega)
  have g2n : decide (200 < (str d).size) = false := decide_eq_false (by omega)
  have HD := Lib.hid (show d.length ≤ 200 by omega)
  clear hds h200
  have hset := hA3.set HFa.out
  have cc := valid_any a A c0 w3 hset.at_ (by have := hset.len; omega) hset.path hM3
  go_wp2_with fail
  with_reducible refine cc.mono ?_
  clear cc 
  rintro x w4 ⟨rfl, hb4⟩
  have hB4 := hB3.trans (hb4.mono hB3.size)
  have hM4 := hM3.below hb4
  have hT4 := hT3.below hb4
  have hA4 := hA3.next hb4
  have hBq4 := hBq3.next hb4
  clear hB3 hb4 hM3 hT3 hA3 hBq3
  clear hset
  cases hv : Ls.vld a with
  | false =>
    clear hv
    go_wp2_with fail
    first | go_ret2 | go_ret
    exact ⟨rfl, hB4⟩
  | true =>
  have Va := Lib.hid hv
  clear hv
  clear g2 g2n
  have hset := hBq4.set HFb.out
  have cc := valid_any b A' c' w4 hset.at_ (by have := hset.len; omega) hset.path hM4
  go_wp2_with fail
  with_reducible refine cc.mono ?_
  clear cc 
  rintro x w5 ⟨rfl, hb5⟩
  have hB5 := hB4.trans (hb5.mono hB4.size)
  have hM5 := hM4.below hb5
  have hT5 := hT4.below hb5
  have hA5 := hA4.next hb5
  have hBq5 := hBq4.next hb5
  clear hB4 hb5 hM4 hT4 hA4 hBq4
  clear hset
  cases hv : Ls.vld b with
  | false =>
    clear hv
    go_wp2_with fail
    first | go_ret2 | go_ret
    exact ⟨rfl, hB5⟩
  | true =>
  have Vb := Lib.hid hv
  clear hv
  have hSa5 := hA5.set HFa.out
  have hSb5 := hBq5.set HFb.out
  have hLa := HFa.out.1
  have hLb := HFb.out.1
  have Pa := Lib.hid ((Ls.vld_iff a).1 Va.out)
  have Pb := Lib.hid ((Ls.vld_iff b).1 Vb.out)
  clear hA5 hBq5
  clear hT5
  have cc := union_any a b A A' c0 c' w5 hSa5 hSb5 hM5
  go_wp2_with fail
  with_reducible refine cc.mono ?_
  clear cc
  rintro e w6 hgot
  obtain ⟨u, Au, cu, rfl, hC, hS, hb6⟩ := gotOp_ok (by rw [Va.out, Vb.out]; rfl) hgot
  clear hgot
  have Cu := Lib.hid hC
  have hLu : u.length ≤ 48 := by have := hC.2.2; omega
  have hSu6 : SetAt w6 Au u := ⟨hS, by omega, fun s hs => by have := Ls.pathOk_len (Cu.out.1.each s hs).1; omega⟩
  clear hC hS
  have hB6 := hB5.trans (hb6.mono hB5.size)
  have hM6 := hM5.below hb6
  have hSa6 := hSa5.next hb6
  have hSb6 := hSb5.next hb6
  clear hB5 hb6 hM5 hSa5 hSb5
  have cc := meet_any a b A A' c0 c' w6 hSa6 hSb6 hM6
  go_wp2_with fail
  with_reducible refine cc.mono ?_
  clear cc
  rintro e w7 hgot
  obtain ⟨m, Am, cm, rfl, hC, hS, hb7⟩ := gotOp_ok (by rw [Va.out, Vb.out]; rfl) hgot
  clear hgot
  have Cm := Lib.hid hC
  have hLm : m.length ≤ 48 := by have := hC.2.2; omega
  have hSm7 : SetAt w7 Am m := ⟨hS, by omega, fun s hs => by have := Ls.pathOk_len (Cm.out.1.each s hs).1; omega⟩
  clear hC hS
  have hB7 := hB6.trans (hb7.mono hB6.size)
  have hM7 := hM6.below hb7
  have hSa7 := hSa6.next hb7
  have hSb7 := hSb6.next hb7
  have hSu7 := hSu6.next hb7
  clear hB6 hb7 hM6 hSa6 hSb6 hSu6
  have cc := minus_any a b A A' c0 c' w7 hSa7 hSb7 hM7
  go_wp2_with fail
  with_reducible refine cc.mono ?_
  clear cc
  rintro e w8 hgot
  obtain ⟨q, Aq, cq, rfl, hC, hS, hb8⟩ := gotOp_ok (by rw [Va.out, Vb.out]; rfl) hgot
  clear hgot
  have Cq := Lib.hid hC
  have hLq : q.length ≤ 48 := by have := hC.2.2; omega
  have hSq8 : SetAt w8 Aq q := ⟨hS, by omega, fun s hs => by have := Ls.pathOk_len (Cq.out.1.each s hs).1; omega⟩
  clear hC hS
  have hB8 := hB7.trans (hb8.mono hB7.size)
  have hM8 := hM7.below hb8
  have hSa8 := hSa7.next hb8
  have hSb8 := hSb7.next hb8
  have hSu8 := hSu7.next hb8
  have hSm8 := hSm7.next hb8
  clear hB7 hb8 hM7 hSa7 hSb7 hSu7 hSm7
  have q1 := Ls.countV_union Pa.out Pb.out Cu.out Cm.out
  have q2 := Ls.countV_minus Pa.out Cq.out Cm.out
  have q3 := Ls.countV_le Pa.out
  have q4 := Ls.countV_le Pb.out
  obtain ⟨na, hna⟩ : ∃ x, Ls.countV a = x := ⟨_, rfl⟩
  obtain ⟨nb, hnb⟩ : ∃ x, Ls.countV b = x := ⟨_, rfl⟩
  obtain ⟨nu, hnu⟩ : ∃ x, Ls.countV u = x := ⟨_, rfl⟩
  obtain ⟨nm, hnm⟩ : ∃ x, Ls.countV m = x := ⟨_, rfl⟩
  obtain ⟨nq, hnq⟩ : ∃ x, Ls.countV q = x := ⟨_, rfl⟩
  rw [hna, hnb, hnu, hnm] at q1
  rw [hna, hnq, hnm] at q2
  rw [hna] at q3
  rw [hnb] at q4
  obtain ⟨T, hT⟩ : ∃ x, na + nb = x := ⟨_, rfl⟩
  rw [hT] at q1
  have t1 : IntKind.i64.wrap T = T := IntWalk.i64_in _ (by omega)
  have t2 : IntKind.i64.wrap na = na := IntWalk.i64_in _ (by omega)
  have Hna := Lib.hid hna
  have Hnb := Lib.hid hnb
  have Hnu := Lib.hid hnu
  have Hnm := Lib.hid hnm
  have Hnq := Lib.hid hnq
  clear hna hnb hnu hnm hnq q3 q4
  have cc := count_any u Au cu w8 hSu8.at_ (by omega) hSu8.path hM8
  go_wp2_with fail
  with_reducible refine cc.mono ?_
  clear cc 
  rintro x w9 ⟨rfl, hb9⟩
  have hB9 := hB8.trans (hb9.mono hB8.size)
  have hM9 := hM8.below hb9
  have hSa9 := hSa8.next hb9
  have hSb9 := hSb8.next hb9
  have hSu9 := hSu8.next hb9
  have hSm9 := hSm8.next hb9
  have hSq9 := hSq8.next hb9
  clear hB8 hb9 hM8 hSa8 hSb8 hSu8 hSm8 hSq8
  rw [Hnu.out]
  have cc := count_any m Am cm w9 hSm9.at_ (by omega) hSm9.path hM9
  go_wp2_with fail
  with_reducible refine cc.mono ?_
  clear cc 
  rintro x w10 ⟨rfl, hb10⟩
  have hB10 := hB9.trans (hb10.mono hB9.size)
  have hM10 := hM9.below hb10
  have hSa10 := hSa9.next hb10
  have hSb10 := hSb9.next hb10
  have hSu10 := hSu9.next hb10
  have hSm10 := hSm9.next hb10
  have hSq10 := hSq9.next hb10
  clear hB9 hb10 hM9 hSa9 hSb9 hSu9 hSm9 hSq9
  rw [Hnm.out]
  have cc := count_any a A c0 w10 hSa10.at_ (by omega) hSa10.path hM10
  go_wp2_with fail
  with_reducible refine cc.mono ?_
  clear cc 
  rintro x w11 ⟨rfl, hb11⟩
  have hB11 := hB10.trans (hb11.mono hB10.size)
  have hM11 := hM10.below hb11
  have hSa11 := hSa10.next hb11
  have hSb11 := hSb10.next hb11
  have hSu11 := hSu10.next hb11
  have hSm11 := hSm10.next hb11
  have hSq11 := hSq10.next hb11
  clear hB10 hb11 hM10 hSa10 hSb10 hSu10 hSm10 hSq10
  rw [Hna.out]
  have cc := count_any b A' c' w11 hSb11.at_ (by omega) hSb11.path hM11
  go_wp2_with fail
  with_reducible refine cc.mono ?_
  clear cc 
  rintro x w12 ⟨rfl, hb12⟩
  have hB12 := hB11.trans (hb12.mono hB11.size)
  have hM12 := hM11.below hb12
  have hSa12 := hSa11.next hb12
  have hSb12 := hSb11.next hb12
  have hSu12 := hSu11.next hb12
  have hSm12 := hSm11.next hb12
  have hSq12 := hSq11.next hb12
  clear hB11 hb12 hM11 hSa11 hSb11 hSu11 hSm11 hSq11
  rw [Hnb.out]
  have cc := count_any q Aq cq w12 hSq12.at_ (by omega) hSq12.path hM12
  go_wp2_with fail
  with_reducible refine cc.mono ?_
  clear cc 
  rintro x w13 ⟨rfl, hb13⟩
  have hB13 := hB12.trans (hb13.mono hB12.size)
  have hM13 := hM12.below hb13
  have hSa13 := hSa12.next hb13
  have hSb13 := hSb12.next hb13
  have hSu13 := hSu12.next hb13
  have hSm13 := hSm12.next hb13
  have hSq13 := hSq12.next hb13
  clear hB12 hb13 hM12 hSa12 hSb12 hSu12 hSm12 hSq12
  rw [Hnq.out]
  have cc := count_any m Am cm w13 hSm13.at_ (by omega) hSm13.path hM13
  go_wp2_with fail
  with_reducible refine cc.mono ?_
  clear cc 
  rintro x w14 ⟨rfl, hb14⟩
  have hB14 := hB13.trans (hb14.mono hB13.size)
  have hM14 := hM13.below hb14
  have hSa14 := hSa13.next hb14
  have hSb14 := hSb13.next hb14
  have hSu14 := hSu13.next hb14
  have hSm14 := hSm13.next hb14
  have hSq14 := hSq13.next hb14
  clear hB13 hb14 hM13 hSa13 hSb13 hSu13 hSm13 hSq13
  rw [Hnm.out]
  have cc := count_any a A c0 w14 hSa14.at_ (by omega) hSa14.path hM14
  go_wp2_with fail
  with_reducible refine cc.mono ?_
  clear cc 
  rintro x w15 ⟨rfl, hb15⟩
  have hB15 := hB14.trans (hb15.mono hB14.size)
  have hM15 := hM14.below hb15
  have hSa15 := hSa14.next hb15
  have hSb15 := hSb14.next hb15
  have hSu15 := hSu14.next hb15
  have hSm15 := hSm14.next hb15
  have hSq15 := hSq14.next hb15
  clear hB14 hb15 hM14 hSa14 hSb14 hSu14 hSm14 hSq14
  rw [Hna.out]
  clear hSu15 hSm15 hSq15 hSb15
  have cc := under_any a d A c0 w15 hSa15 Va.out hM15 (by have := HD.out; omega)
  go_wp2_with fail
  clear q1 q2 t1 hT
  with_reducible refine cc.mono ?_
  clear cc
  rintro e w16 ⟨⟨_, Aw, cw, rfl, hsw⟩ | ⟨_, rfl⟩, hb16⟩
  rotate_left
  · have hBz := hB15.trans (hb16.mono hB15.size)
    clear hB15 hb16
    go_wp2_with fail
    first | go_ret2 | go_ret
    exact ⟨rfl, hBz⟩
  have hLw := Ls.und_len a d
  have Pw := Lib.hid (Ls.und_valid d Pa.out)
  have HU := Lib.hid (fun s (hs : s ∈ a) => Ls.hasV_und Pa.out d hs)
  have Vw := Lib.hid ((Ls.vld_iff _).2 Pw.out)
  have qw := fun r => Ls.countV_und (a := a) (d := d) (r := r) Pa.out
  have HX := Lib.hid (show ∀ s ∈ Ls.und a d, s.path.length ≤ 1000000 from fun s hs => by have := Ls.pathOk_len (Pw.out.each s hs).1; omega)
  generalize Ls.und a d = v at *
  have QW := Lib.hid qw
  clear qw
  have hSv16 : SetAt w16 Aw v := ⟨hsw, by omega, HX.out⟩
  clear hsw
  have Vv := Vw
  have hB16 := hB15.trans (hb16.mono hB15.size)
  have hM16 := hM15.below hb16
  have hSa16 := hSa15.next hb16
  clear hB15 hb16 hM15 hSa15
  have cc := minus_any a v A Aw c0 cw w16 hSa16 hSv16 hM16
  go_wp2_with fail
  with_reducible refine cc.mono ?_
  clear cc
  rintro e w17 hgot
  obtain ⟨r, Ar, cr, rfl, hC, hS, hb17⟩ := gotOp_ok (by rw [Va.out, Vv.out]; rfl) hgot
  clear hgot
  have Cr := Lib.hid hC
  have hLr : r.length ≤ 48 := by have := hC.2.2; omega
  have hSr17 : SetAt w17 Ar r := ⟨hS, by omega, fun s hs => by have := Ls.pathOk_len (Cr.out.1.each s hs).1; omega⟩
  clear hC hS
  have hB17 := hB16.trans (hb17.mono hB16.size)
  have hM17 := hM16.below hb17
  have hSa17 := hSa16.next hb17
  have hSv17 := hSv16.next hb17
  clear hB16 hb17 hM16 hSa16 hSv16
  have q1 := QW.out r Cr.out
  rw [Hna.out] at q1
  obtain ⟨nv, hnv⟩ : ∃ x, Ls.countV v = x := ⟨_, rfl⟩
  obtain ⟨nr, hnr⟩ : ∃ x, Ls.countV r = x := ⟨_, rfl⟩
  rw [hnv, hnr] at q1
  have Hnv := Lib.hid hnv
  have Hnr := Lib.hid hnr
  clear hnv hnr
  have cc := count_any v Aw cw w17 hSv17.at_ (by omega) hSv17.path hM17
  go_wp2_with fail
  with_reducible refine cc.mono ?_
  clear cc 
  rintro x w18 ⟨rfl, hb18⟩
  have hB18 := hB17.trans (hb18.mono hB17.size)
  have hM18 := hM17.below hb18
  have hSa18 := hSa17.next hb18
  have hSv18 := hSv17.next hb18
  have hSr18 := hSr17.next hb18
  clear hB17 hb18 hM17 hSa17 hSv17 hSr17
  rw [Hnv.out]
  have cc := count_any r Ar cr w18 hSr18.at_ (by omega) hSr18.path hM18
  go_wp2_with fail
  with_reducible refine cc.mono ?_
  clear cc 
  rintro x w19 ⟨rfl, hb19⟩
  have hB19 := hB18.trans (hb19.mono hB18.size)
  have hM19 := hM18.below hb19
  have hSa19 := hSa18.next hb19
  have hSv19 := hSv18.next hb19
  have hSr19 := hSr18.next hb19
  clear hB18 hb19 hM18 hSa18 hSv18 hSr18
  rw [Hnr.out]
  have cc := count_any a A c0 w19 hSa19.at_ (by omega) hSa19.path hM19
  go_wp2_with fail
  with_reducible refine cc.mono ?_
  clear cc 
  rintro x w20 ⟨rfl, hb20⟩
  have hB20 := hB19.trans (hb20.mono hB19.size)
  have hM20 := hM19.below hb20
  have hSa20 := hSa19.next hb20
  have hSv20 := hSv19.next hb20
  have hSr20 := hSr19.next hb20
  clear hB19 hb20 hM19 hSa19 hSv19 hSr19
  rw [Hna.out]
  have HAA := Lib.hid hSa20.at_
  have HVV := Lib.hid hSv20.at_
  have HMM := Lib.hid hM20
  have HB := Lib.hid hB20
  have hvl : v.length ≤ 1000000 := by omega
  clear hSa20 hSv20 hM20 hSr20 hB20 hLw hLr hLu hLm hLq hLb
  go_wp2_with fail
  clear q1 t2
  obtain ⟨D, hD⟩ : ∃ D, str d = D := ⟨_, rfl⟩
  have HDD := Lib.hid hD
  rw [hD]
  clear hD
  go_loopw [131] (fun v wr => ∃ k : Nat, k ≤ a.length ∧ v = .int .i64 k ∧ Below w20.heap.size w20 wr) (fun v _ => a.length - (intOf v).toNat)
  case atStart => exact ⟨0, by omega, rfl, Below.refl _ _⟩
  case round =>
    obtain ⟨k, hk, rfl, hb⟩ := hrel
    by_cases hlt : k < a.length
    · have b1 : decide ((k : Int) < (a.length : Int)) = true := decide_eq_true (by omega)
      have b1n : decide (k < a.length) = true := decide_eq_true hlt
      obtain ⟨gg, o, rfl, hg, hc⟩ := HAA.out k hlt
      have HT := Lib.hid (HU.out a[k] (List.getElem_mem hlt))
      have hd0 := (hb.cell (p := ⟨gg, o + k * 3, none⟩) hg).trans (hc 0 _ rfl)
      have hd1 := (hb.cell (p := ⟨gg, o + k * 3 + 1, none⟩) hg).trans (hc 1 _ rfl)
      have hd2 := (hb.cell (p := ⟨gg, o + k * 3 + 2, none⟩) hg).trans (hc 2 _ rfl)
      clear hc
      generalize a[k] = s at *
      have hN := heap_alloc_new wr (.cells #[.string (str s.path), .int .i64 s.lo, .int .i64 s.hi] 40)
      have hbX : Below w20.heap.size w20 (wr.alloc (.cells #[.string (str s.path), .int .i64 s.lo, .int .i64 s.hi] 40)) := hb.alloc hb.size _
      go_upto_region 19 with (fail)
      clear hd0 hd1 hd2 hb
      generalize wr.alloc (.cells #[.string (str s.path), .int .i64 s.lo, .int .i64 s.hi] 40) = X at *
      generalize wr.heap.size = q at *
      have e0 : X.cell? ⟨q, 0, none⟩ = some (.string (str s.path)) := by rw [cell_of_row _ _ _ _ _ _ hN]; rfl
      have e1 : X.cell? ⟨q, 1, none⟩ = some (.int .i64 s.lo) := by rw [cell_of_row _ _ _ _ _ _ hN]; rfl
      have cc := has_any v s.path s.lo Aw cw X (HVV.out.next hbX) hvl HX.out (HMM.out.below hbX)
      clear hN
      obtain ⟨P, hP⟩ : ∃ P, str s.path = P := ⟨_, rfl⟩
      have HV := Lib.hid (show Ls.hasV v s.path s.lo = (decide (D.size < P.size) && (P.data.toList.take D.size == D.data.toList) && (P.data.toList[D.size]? == some 47)) by rw [HT.out, ← hP, ← HDD.out]; rfl)
      rw [hP] at e0 cc
      clear HT hP
      generalize Ls.hasV v s.path s.lo = VV at *
      by_cases hlt2 : D.size < P.size
      · have c0 : decide ((D.size : Int) < P.size) = true := by simp; omega
        have c0n : decide (D.size < P.size) = true := by simp; omega
        have hgd := get_d P D.size hlt2
        have hx : (P.extract 0 D.size).toList = P.data.toList.take D.size := by rw [ByteArray.toList_eq, ext_take, str_data]
        have hdl : D.toList = D.data.toList := ByteArray.toList_eq D
        by_cases he : P.data.toList.take D.size = D.data.toList
        · have c1 : ((P.extract 0 D.size).toList == D.toList) = true := by rw [beq_iff_eq, hx, hdl]; exact he
          by_cases hc : P[D.size] = 47
          · have c2 : ((P[D.size].toNat : Int) == 47) = true := by rw [beq_iff_eq, hc]; rfl
            have c2n : (P[D.size].toNat == 47) = true := by rw [beq_iff_eq, hc]; rfl
            have HV := Lib.hid (show VV = true by rw [HV.out, hgd, he, hc]; simp; exact hlt2)
            clear hgd hx hdl he hc
            go_wp2_with fail
            with_reducible refine cc.mono ?_
            clear cc
            rintro e w' ⟨rfl, hbh⟩
            rw [HV.out]
            have hbY := hbX.trans (hbh.mono hbX.size)
            clear hbX hbh e0 e1
            go_wp2_with fail
            go_roundw
            case rel => exact ⟨k + 1, by omega, by go_num, hbY⟩
            case measure => simp [intOf]; omega
          · have hcn : P[D.size].toNat ≠ 47 := nat_ne (k := 47) hc
            have c2 : ((P[D.size].toNat : Int) == 47) = false := by rw [beq_eq_false_iff_ne]; omega
            have c2n : (P[D.size].toNat == 47) = false := by rw [beq_eq_false_iff_ne]; exact hcn
            have HV := Lib.hid (show VV = false by rw [HV.out, hgd]; simp [hc])
            clear hgd hx hdl he hc hcn
            go_wp2_with fail
            with_reducible refine cc.mono ?_
            clear cc
            rintro e w' ⟨rfl, hbh⟩
            rw [HV.out]
            have hbY := hbX.trans (hbh.mono hbX.size)
            clear hbX hbh e0 e1
            go_wp2_with fail
            go_roundw
            case rel => exact ⟨k + 1, by omega, by go_num, hbY⟩
            case measure => simp [intOf]; omega
        · have c1 : ((P.extract 0 D.size).toList == D.toList) = false := by rw [beq_eq_false_iff_ne, hx, hdl]; exact he
          have HV := Lib.hid (show VV = false by rw [HV.out]; simp [he])
          clear hgd hx hdl he
          go_wp2_with fail
          with_reducible refine cc.mono ?_
          clear cc
          rintro e w' ⟨rfl, hbh⟩
          rw [HV.out]
          have hbY := hbX.trans (hbh.mono hbX.size)
          clear hbX hbh e0 e1
          go_wp2_with fail
          go_roundw
          case rel => exact ⟨k + 1, by omega, by go_num, hbY⟩
          case measure => simp [intOf]; omega
      · have c0 : decide ((D.size : Int) < P.size) = false := by simp; omega
        have c0n : decide (D.size < P.size) = false := by simp; omega
        have HV := Lib.hid (show VV = false by rw [HV.out, c0n]; rfl)
        go_wp2_with fail
        with_reducible refine cc.mono ?_
        clear cc
        rintro e w' ⟨rfl, hbh⟩
        rw [HV.out]
        have hbY := hbX.trans (hbh.mono hbX.size)
        clear hbX hbh e0 e1
        go_wp2_with fail
        go_roundw
        case rel => exact ⟨k + 1, by omega, by go_num, hbY⟩
        case measure => simp [intOf]; omega
    · have b1 : decide ((k : Int) < (a.length : Int)) = false := decide_eq_false (by omega)
      have b1n : decide (k < a.length) = false := decide_eq_false hlt
      have HZ := Lib.hid (HB.out.trans (hb.mono HB.out.size))
      clear hb
      go_wp2_with fail
      first | go_ret2 | go_ret
      exact ⟨rfl, HZ.out⟩
end Go.Proofs.YtcipgokcpankmaaDoor
