/- The law LinesetLaws returns true. Condition: bytealg's MaxLen and the table of powers lie in their variables. -/
import Derived.Test.YtcipgokcpankmaaDoorCls
import Derived.Laws.EntriesVeiled
namespace Go.Proofs.YtcipgokcpankmaaDoor
open Go.RowKit Go.Deep Tr

set_option maxHeartbeats 64000000 in
set_option maxRecDepth 100000 in
theorem laws_law (a b c : List Ls.Sp) (A A' A'' : Option Addr) (c0 c' c'' : Nat) (W : World) (hA0 : SetRaw W A a) (hB0' : SetRaw W A' b) (hC0 : SetRaw W A'' c) (hM0 : MaxAt W) (hT0 : Cd.Tabs W) :
    Calls Tryd.prog 6 #[.slice A a.length c0, .slice A' b.length c', .slice A'' c.length c''] W fun e w' => e = .returned (.bool true) ∧ Below W.heap.size W w' := by
  have hB0 := Below.refl W.heap.size W
  have hBq0 := hB0'
  clear hB0'
  go_enter Tryd.func6, Tryd.ntmps6
  go_wp2_with fail
  have cc := awake_any W hM0 hT0
  with_reducible refine cc.mono ?_
  clear cc 
  rintro x w1 ⟨rfl, hb1⟩
  have hB1 := hB0.trans (hb1.mono hB0.size)
  have hM1 := hM0.below hb1
  have hT1 := hT0.below hb1
  have hA1 := hA0.next hb1
  have hBq1 := hBq0.next hb1
  have hC1 := hC0.next hb1
  clear hB0 hb1
  have cc := few_any a A c0 w1 hA1
  go_wp2_with fail
  with_reducible refine cc.mono ?_
  clear cc 
  rintro x w2 ⟨b0, rfl, hf, hb2⟩
  have hB2 := hB1.trans (hb2.mono hB1.size)
  have hM2 := hM1.below hb2
  have hT2 := hT1.below hb2
  have hA2 := hA1.next hb2
  have hBq2 := hBq1.next hb2
  have hC2 := hC1.next hb2
  clear hB1 hb2 hM1 hT1 hA1 hBq1 hC1
  cases b0 with
  | false =>
    clear hf
    go_wp2_with fail
    first | go_ret2 | go_ret
    exact ⟨rfl, hB2⟩
  | true =>
  have HFa := Lib.hid (hf rfl)
  clear hf
  have cc := few_any b A' c' w2 hBq2
  go_wp2_with fail
  with_reducible refine cc.mono ?_
  clear cc 
  rintro x w3 ⟨b0, rfl, hf, hb3⟩
  have hB3 := hB2.trans (hb3.mono hB2.size)
  have hM3 := hM2.below hb3
  have hT3 := hT2.below hb3
  have hA3 := hA2.next hb3
  have hBq3 := hBq2.next hb3
  have hC3 := hC2.next hb3
  clear hB2 hb3 hM2 hT2 hA2 hBq2 hC2
  cases b0 with
  | false =>
    clear hf
    go_wp2_with fail
    first | go_ret2 | go_ret
    exact ⟨rfl, hB3⟩
  | true =>
  have HFb := Lib.hid (hf rfl)
  clear hf
  have cc := few_any c A'' c'' w3 hC3
  go_wp2_with fail
  with_reducible refine cc.mono ?_
  clear cc 
  rintro x w4 ⟨b0, rfl, hf, hb4⟩
  have hB4 := hB3.trans (hb4.mono hB3.size)
  have hM4 := hM3.below hb4
  have hT4 := hT3.below hb4
  have hA4 := hA3.next hb4
  have hBq4 := hBq3.next hb4
  have hC4 := hC3.next hb4
  clear hB3 hb4 hM3 hT3 hA3 hBq3 hC3
  cases b0 with
  | false =>
    clear hf
    go_wp2_with fail
    first | go_ret2 | go_ret
    exact ⟨rfl, hB4⟩
  | true =>
  have HFc := Lib.hid (hf rfl)
  clear hf
  have hset := hA4.set HFa.out
  have cc := valid_any a A c0 w4 hset.at_ (by have := hset.len; omega) hset.path hM4
  go_wp2_with fail
  with_reducible refine cc.mono ?_
  clear cc 
  rintro x w5 ⟨rfl, hb5⟩
  have hB5 := hB4.trans (hb5.mono hB4.size)
  have hM5 := hM4.below hb5
  have hT5 := hT4.below hb5
  have hA5 := hA4.next hb5
  have hBq5 := hBq4.next hb5
  have hC5 := hC4.next hb5
  clear hB4 hb5 hM4 hT4 hA4 hBq4 hC4
  clear hset
  cases hv : Ls.vld a with
  | false =>
    clear hv
    go_wp2_with fail
    first | go_ret2 | go_ret
    exact ⟨rfl, hB5⟩
  | true =>
  have Va := Lib.hid hv
  clear hv
  have hset := hBq5.set HFb.out
  have cc := valid_any b A' c' w5 hset.at_ (by have := hset.len; omega) hset.path hM5
  go_wp2_with fail
  with_reducible refine cc.mono ?_
  clear cc 
  rintro x w6 ⟨rfl, hb6⟩
  have hB6 := hB5.trans (hb6.mono hB5.size)
  have hM6 := hM5.below hb6
  have hT6 := hT5.below hb6
  have hA6 := hA5.next hb6
  have hBq6 := hBq5.next hb6
  have hC6 := hC5.next hb6
  clear hB5 hb6 hM5 hT5 hA5 hBq5 hC5
  clear hset
  cases hv : Ls.vld b with
  | false =>
    clear hv
    go_wp2_with fail
    first | go_ret2 | go_ret
    exact ⟨rfl, hB6⟩
  | true =>
  have Vb := Lib.hid hv
  clear hv
  have hset := hC6.set HFc.out
  have cc := valid_any c A'' c'' w6 hset.at_ (by have := hset.len; omega) hset.path hM6
  go_wp2_with fail
  with_reducible refine cc.mono ?_
  clear cc 
  rintro x w7 ⟨rfl, hb7⟩
  have hB7 := hB6.trans (hb7.mono hB6.size)
  have hM7 := hM6.below hb7
  have hT7 := hT6.below hb7
  have hA7 := hA6.next hb7
  have hBq7 := hBq6.next hb7
  have hC7 := hC6.next hb7
  clear hB6 hb7 hM6 hT6 hA6 hBq6 hC6
  clear hset
  cases hv : Ls.vld c with
  | false =>
    clear hv
    go_wp2_with fail
    first | go_ret2 | go_ret
    exact ⟨rfl, hB7⟩
  | true =>
  have Vc := Lib.hid hv
  clear hv
  have hSa7 := hA7.set HFa.out
  have hSb7 := hBq7.set HFb.out
  have hSc7 := hC7.set HFc.out
  have hLa := HFa.out.1
  have hLb := HFb.out.1
  have hLc := HFc.out.1
  have Pa := Lib.hid ((Ls.vld_iff a).1 Va.out)
  have Pb := Lib.hid ((Ls.vld_iff b).1 Vb.out)
  have Pc := Lib.hid ((Ls.vld_iff c).1 Vc.out)
  obtain ⟨X, hX, hbX, hOX⟩ : ∃ X, X = (w7.alloc (.cells #[.bool true] 4)).alloc (.cells #[.func (.func 27) #[] #[.pointer (some ⟨w7.heap.size, 0, none⟩)]] 45) ∧ Below w7.heap.size w7 X ∧ OkAt X w7.heap.size (w7.heap.size + 1) := by
    refine ⟨_, rfl, ((Below.refl _ _).alloc (Nat.le_refl _) _).alloc (by simp) _, ?_, ?_⟩
    · rw [blk_alloc_lt _ _ _ (by simp)]
      exact heap_alloc_new w7 _
    · have := heap_alloc_new (w7.alloc (.cells #[.bool true] 4)) (.cells #[.func (.func 27) #[] #[.pointer (some ⟨w7.heap.size, 0, none⟩)]] 45)
      rwa [show (w7.alloc (.cells #[.bool true] 4)).heap.size = w7.heap.size + 1 by simp] at this
  have hB8 := hB7.trans (hbX.mono hB7.size)
  have hM8 := hM7.below hbX
  have hT8 := hT7.below hbX
  have hSa8 := hSa7.next hbX
  have hSb8 := hSb7.next hbX
  have hSc8 := hSc7.next hbX
  clear hB7 hM7 hT7 hSa7 hSb7 hSc7 hA7 hBq7 hC7 hbX HFa HFb HFc
  go_upto_region 7 with (fail)
  rw [← hX]
  clear hX
  generalize w7.heap.size = kb at *
  obtain ⟨ob, hob⟩ : ∃ ob, kb + 1 = ob := ⟨_, rfl⟩
  rw [hob] at hOX ⊢
  clear hob
  have hO8 := hOX
  clear hOX
  generalize X = w8 at *
  have cc := lawunion_any a b A A' c0 c' kb ob w8 hSa8 hSb8 Va.out Vb.out hM8 hO8
  go_wp2_with fail
  with_reducible refine cc.mono ?_
  clear cc
  rintro e w9 ⟨r1, Ar1, cr1, rfl, hC, hS, hb9⟩
  have Cr1 := Lib.hid hC.2.1
  have Pr1 := Lib.hid hC.1
  have hLr1 : r1.length ≤ 48 := by have := hC.2.2; omega
  have Vr1 := Lib.hid ((Ls.vld_iff r1).2 hC.1)
  have hSr19 : SetAt w9 Ar1 r1 := ⟨hS, by omega, fun s hs => by have := Ls.pathOk_len (Pr1.out.each s hs).1; omega⟩
  clear hC hS
  have hB9 := hB8.trans (hb9.mono hB8.size)
  have hM9 := hM8.below hb9
  have hT9 := hT8.below hb9
  have hO9 := hO8.next hb9
  have hSa9 := hSa8.next hb9
  have hSb9 := hSb8.next hb9
  have hSc9 := hSc8.next hb9
  clear hB8 hb9 hM8 hT8 hO8 hSa8 hSb8 hSc8
  have cc := lawunion_any b a A' A c' c0 kb ob w9 hSb9 hSa9 Vb.out Va.out hM9 hO9
  go_wp2_with fail
  with_reducible refine cc.mono ?_
  clear cc
  rintro e w10 ⟨r2, Ar2, cr2, rfl, hC, hS, hb10⟩
  have Cr2 := Lib.hid hC.2.1
  have Pr2 := Lib.hid hC.1
  have hLr2 : r2.length ≤ 48 := by have := hC.2.2; omega
  have Vr2 := Lib.hid ((Ls.vld_iff r2).2 hC.1)
  have hSr210 : SetAt w10 Ar2 r2 := ⟨hS, by omega, fun s hs => by have := Ls.pathOk_len (Pr2.out.each s hs).1; omega⟩
  clear hC hS
  have hB10 := hB9.trans (hb10.mono hB9.size)
  have hM10 := hM9.below hb10
  have hT10 := hT9.below hb10
  have hO10 := hO9.next hb10
  have hSa10 := hSa9.next hb10
  have hSb10 := hSb9.next hb10
  have hSc10 := hSc9.next hb10
  have hSr110 := hSr19.next hb10
  clear hB9 hb10 hM9 hT9 hO9 hSa9 hSb9 hSc9 hSr19
  have ee : r1 = r2 := Ls.same_of_has Pr1.out.apart Pr2.out.apart fun p m => by
    simp only [Cr1.out, Cr2.out]
    cases Ls.has a p m <;> cases Ls.has b p m <;> cases Ls.has c p m <;> rfl
  have cc := eq_true_any Ar1 Ar2 cr1 cr2 r2 w10 (by rw [← ee]; exact hSr110.at_) hSr210.at_ (by omega)
  have el : r1.length = r2.length := by rw [ee]
  have EL := Lib.hid el
  clear ee el
  try rw [EL.out]
  go_wp2_with fail
  try rw [EL.out]
  with_reducible refine cc.mono ?_
  clear cc EL
  rintro e w11 ⟨rfl, hb11⟩
  have hB11 := hB10.trans (hb11.mono hB10.size)
  have hM11 := hM10.below hb11
  have hT11 := hT10.below hb11
  have hO11 := hO10.next hb11
  have hSa11 := hSa10.next hb11
  have hSb11 := hSb10.next hb11
  have hSc11 := hSc10.next hb11
  have hSr111 := hSr110.next hb11
  have hSr211 := hSr210.next hb11
  clear hB10 hb11 hM10 hT10 hO10 hSa10 hSb10 hSc10 hSr110 hSr210
  clear hSr111 hSr211
  have cc := lawmeet_any a b A A' c0 c' kb ob w11 hSa11 hSb11 Va.out Vb.out hM11 hO11
  go_wp2_with fail
  with_reducible refine cc.mono ?_
  clear cc
  rintro e w12 ⟨r3, Ar3, cr3, rfl, hC, hS, hb12⟩
  have Cr3 := Lib.hid hC.2.1
  have Pr3 := Lib.hid hC.1
  have hLr3 : r3.length ≤ 48 := by have := hC.2.2; omega
  have Vr3 := Lib.hid ((Ls.vld_iff r3).2 hC.1)
  have hSr312 : SetAt w12 Ar3 r3 := ⟨hS, by omega, fun s hs => by have := Ls.pathOk_len (Pr3.out.each s hs).1; omega⟩
  clear hC hS
  have hB12 := hB11.trans (hb12.mono hB11.size)
  have hM12 := hM11.below hb12
  have hT12 := hT11.below hb12
  have hO12 := hO11.next hb12
  have hSa12 := hSa11.next hb12
  have hSb12 := hSb11.next hb12
  have hSc12 := hSc11.next hb12
  clear hB11 hb12 hM11 hT11 hO11 hSa11 hSb11 hSc11
  have cc := lawmeet_any b a A' A c' c0 kb ob w12 hSb12 hSa12 Vb.out Va.out hM12 hO12
  go_wp2_with fail
  with_reducible refine cc.mono ?_
  clear cc
  rintro e w13 ⟨r4, Ar4, cr4, rfl, hC, hS, hb13⟩
  have Cr4 := Lib.hid hC.2.1
  have Pr4 := Lib.hid hC.1
  have hLr4 : r4.length ≤ 48 := by have := hC.2.2; omega
  have Vr4 := Lib.hid ((Ls.vld_iff r4).2 hC.1)
  have hSr413 : SetAt w13 Ar4 r4 := ⟨hS, by omega, fun s hs => by have := Ls.pathOk_len (Pr4.out.each s hs).1; omega⟩
  clear hC hS
  have hB13 := hB12.trans (hb13.mono hB12.size)
  have hM13 := hM12.below hb13
  have hT13 := hT12.below hb13
  have hO13 := hO12.next hb13
  have hSa13 := hSa12.next hb13
  have hSb13 := hSb12.next hb13
  have hSc13 := hSc12.next hb13
  have hSr313 := hSr312.next hb13
  clear hB12 hb13 hM12 hT12 hO12 hSa12 hSb12 hSc12 hSr312
  have ee : r3 = r4 := Ls.same_of_has Pr3.out.apart Pr4.out.apart fun p m => by
    simp only [Cr3.out, Cr4.out]
    cases Ls.has a p m <;> cases Ls.has b p m <;> cases Ls.has c p m <;> rfl
  have cc := eq_true_any Ar3 Ar4 cr3 cr4 r4 w13 (by rw [← ee]; exact hSr313.at_) hSr413.at_ (by omega)
  have el : r3.length = r4.length := by rw [ee]
  have EL := Lib.hid el
  clear ee el
  try rw [EL.out]
  go_wp2_with fail
  try rw [EL.out]
  with_reducible refine cc.mono ?_
  clear cc EL
  rintro e w14 ⟨rfl, hb14⟩
  have hB14 := hB13.trans (hb14.mono hB13.size)
  have hM14 := hM13.below hb14
  have hT14 := hT13.below hb14
  have hO14 := hO13.next hb14
  have hSa14 := hSa13.next hb14
  have hSb14 := hSb13.next hb14
  have hSc14 := hSc13.next hb14
  have hSr314 := hSr313.next hb14
  have hSr414 := hSr413.next hb14
  clear hB13 hb14 hM13 hT13 hO13 hSa13 hSb13 hSc13 hSr313 hSr413
  clear hSr314 hSr414
  have cc := lawunion_any b c A' A'' c' c'' kb ob w14 hSb14 hSc14 Vb.out Vc.out hM14 hO14
  go_wp2_with fail
  with_reducible refine cc.mono ?_
  clear cc
  rintro e w15 ⟨r5, Ar5, cr5, rfl, hC, hS, hb15⟩
  have Cr5 := Lib.hid hC.2.1
  have Pr5 := Lib.hid hC.1
  have hLr5 : r5.length ≤ 48 := by have := hC.2.2; omega
  have Vr5 := Lib.hid ((Ls.vld_iff r5).2 hC.1)
  have hSr515 : SetAt w15 Ar5 r5 := ⟨hS, by omega, fun s hs => by have := Ls.pathOk_len (Pr5.out.each s hs).1; omega⟩
  clear hC hS
  have hB15 := hB14.trans (hb15.mono hB14.size)
  have hM15 := hM14.below hb15
  have hT15 := hT14.below hb15
  have hO15 := hO14.next hb15
  have hSa15 := hSa14.next hb15
  have hSb15 := hSb14.next hb15
  have hSc15 := hSc14.next hb15
  clear hB14 hb15 hM14 hT14 hO14 hSa14 hSb14 hSc14
  have cc := lawunion_any a r5 A Ar5 c0 cr5 kb ob w15 hSa15 hSr515 Va.out Vr5.out hM15 hO15
  go_wp2_with fail
  with_reducible refine cc.mono ?_
  clear cc
  rintro e w16 ⟨r6, Ar6, cr6, rfl, hC, hS, hb16⟩
  have Cr6 := Lib.hid hC.2.1
  have Pr6 := Lib.hid hC.1
  have hLr6 : r6.length ≤ 120 := by have := hC.2.2; omega
  have Vr6 := Lib.hid ((Ls.vld_iff r6).2 hC.1)
  have hSr616 : SetAt w16 Ar6 r6 := ⟨hS, by omega, fun s hs => by have := Ls.pathOk_len (Pr6.out.each s hs).1; omega⟩
  clear hC hS
  have hB16 := hB15.trans (hb16.mono hB15.size)
  have hM16 := hM15.below hb16
  have hT16 := hT15.below hb16
  have hO16 := hO15.next hb16
  have hSa16 := hSa15.next hb16
  have hSb16 := hSb15.next hb16
  have hSc16 := hSc15.next hb16
  have hSr516 := hSr515.next hb16
  clear hB15 hb16 hM15 hT15 hO15 hSa15 hSb15 hSc15 hSr515
  have cc := lawunion_any a b A A' c0 c' kb ob w16 hSa16 hSb16 Va.out Vb.out hM16 hO16
  go_wp2_with fail
  with_reducible refine cc.mono ?_
  clear cc
  rintro e w17 ⟨r7, Ar7, cr7, rfl, hC, hS, hb17⟩
  have Cr7 := Lib.hid hC.2.1
  have Pr7 := Lib.hid hC.1
  have hLr7 : r7.length ≤ 48 := by have := hC.2.2; omega
  have Vr7 := Lib.hid ((Ls.vld_iff r7).2 hC.1)
  have hSr717 : SetAt w17 Ar7 r7 := ⟨hS, by omega, fun s hs => by have := Ls.pathOk_len (Pr7.out.each s hs).1; omega⟩
  clear hC hS
  have hB17 := hB16.trans (hb17.mono hB16.size)
  have hM17 := hM16.below hb17
  have hT17 := hT16.below hb17
  have hO17 := hO16.next hb17
  have hSa17 := hSa16.next hb17
  have hSb17 := hSb16.next hb17
  have hSc17 := hSc16.next hb17
  have hSr517 := hSr516.next hb17
  have hSr617 := hSr616.next hb17
  clear hB16 hb17 hM16 hT16 hO16 hSa16 hSb16 hSc16 hSr516 hSr616
  have cc := lawunion_any r7 c Ar7 A'' cr7 c'' kb ob w17 hSr717 hSc17 Vr7.out Vc.out hM17 hO17
  go_wp2_with fail
  with_reducible refine cc.mono ?_
  clear cc
  rintro e w18 ⟨r8, Ar8, cr8, rfl, hC, hS, hb18⟩
  have Cr8 := Lib.hid hC.2.1
  have Pr8 := Lib.hid hC.1
  have hLr8 : r8.length ≤ 120 := by have := hC.2.2; omega
  have Vr8 := Lib.hid ((Ls.vld_iff r8).2 hC.1)
  have hSr818 : SetAt w18 Ar8 r8 := ⟨hS, by omega, fun s hs => by have := Ls.pathOk_len (Pr8.out.each s hs).1; omega⟩
  clear hC hS
  have hB18 := hB17.trans (hb18.mono hB17.size)
  have hM18 := hM17.below hb18
  have hT18 := hT17.below hb18
  have hO18 := hO17.next hb18
  have hSa18 := hSa17.next hb18
  have hSb18 := hSb17.next hb18
  have hSc18 := hSc17.next hb18
  have hSr518 := hSr517.next hb18
  have hSr618 := hSr617.next hb18
  have hSr718 := hSr717.next hb18
  clear hB17 hb18 hM17 hT17 hO17 hSa17 hSb17 hSc17 hSr517 hSr617 hSr717
  have ee : r6 = r8 := Ls.same_of_has Pr6.out.apart Pr8.out.apart fun p m => by
    simp only [Cr5.out, Cr6.out, Cr7.out, Cr8.out]
    cases Ls.has a p m <;> cases Ls.has b p m <;> cases Ls.has c p m <;> rfl
  have cc := eq_true_any Ar6 Ar8 cr6 cr8 r8 w18 (by rw [← ee]; exact hSr618.at_) hSr818.at_ (by omega)
  have el : r6.length = r8.length := by rw [ee]
  have EL := Lib.hid el
  clear ee el
  try rw [EL.out]
  go_wp2_with fail
  try rw [EL.out]
  with_reducible refine cc.mono ?_
  clear cc EL
  rintro e w19 ⟨rfl, hb19⟩
  have hB19 := hB18.trans (hb19.mono hB18.size)
  have hM19 := hM18.below hb19
  have hT19 := hT18.below hb19
  have hO19 := hO18.next hb19
  have hSa19 := hSa18.next hb19
  have hSb19 := hSb18.next hb19
  have hSc19 := hSc18.next hb19
  have hSr519 := hSr518.next hb19
  have hSr619 := hSr618.next hb19
  have hSr719 := hSr718.next hb19
  have hSr819 := hSr818.next hb19
  clear hB18 hb19 hM18 hT18 hO18 hSa18 hSb18 hSc18 hSr518 hSr618 hSr718 hSr818
  clear hSr519 hSr619 hSr719 hSr819
  have cc := lawunion_any b c A' A'' c' c'' kb ob w19 hSb19 hSc19 Vb.out Vc.out hM19 hO19
  go_wp2_with fail
  with_reducible refine cc.mono ?_
  clear cc
  rintro e w20 ⟨r9, Ar9, cr9, rfl, hC, hS, hb20⟩
  have Cr9 := Lib.hid hC.2.1
  have Pr9 := Lib.hid hC.1
  have hLr9 : r9.length ≤ 48 := by have := hC.2.2; omega
  have Vr9 := Lib.hid ((Ls.vld_iff r9).2 hC.1)
  have hSr920 : SetAt w20 Ar9 r9 := ⟨hS, by omega, fun s hs => by have := Ls.pathOk_len (Pr9.out.each s hs).1; omega⟩
  clear hC hS
  have hB20 := hB19.trans (hb20.mono hB19.size)
  have hM20 := hM19.below hb20
  have hT20 := hT19.below hb20
  have hO20 := hO19.next hb20
  have hSa20 := hSa19.next hb20
  have hSb20 := hSb19.next hb20
  have hSc20 := hSc19.next hb20
  clear hB19 hb20 hM19 hT19 hO19 hSa19 hSb19 hSc19
  have cc := lawmeet_any a r9 A Ar9 c0 cr9 kb ob w20 hSa20 hSr920 Va.out Vr9.out hM20 hO20
  go_wp2_with fail
  with_reducible refine cc.mono ?_
  clear cc
  rintro e w21 ⟨r10, Ar10, cr10, rfl, hC, hS, hb21⟩
  have Cr10 := Lib.hid hC.2.1
  have Pr10 := Lib.hid hC.1
  have hLr10 : r10.length ≤ 120 := by have := hC.2.2; omega
  have Vr10 := Lib.hid ((Ls.vld_iff r10).2 hC.1)
  have hSr1021 : SetAt w21 Ar10 r10 := ⟨hS, by omega, fun s hs => by have := Ls.pathOk_len (Pr10.out.each s hs).1; omega⟩
  clear hC hS
  have hB21 := hB20.trans (hb21.mono hB20.size)
  have hM21 := hM20.below hb21
  have hT21 := hT20.below hb21
  have hO21 := hO20.next hb21
  have hSa21 := hSa20.next hb21
  have hSb21 := hSb20.next hb21
  have hSc21 := hSc20.next hb21
  have hSr921 := hSr920.next hb21
  clear hB20 hb21 hM20 hT20 hO20 hSa20 hSb20 hSc20 hSr920
  have cc := lawmeet_any a b A A' c0 c' kb ob w21 hSa21 hSb21 Va.out Vb.out hM21 hO21
  go_wp2_with fail
  with_reducible refine cc.mono ?_
  clear cc
  rintro e w22 ⟨r11, Ar11, cr11, rfl, hC, hS, hb22⟩
  have Cr11 := Lib.hid hC.2.1
  have Pr11 := Lib.hid hC.1
  have hLr11 : r11.length ≤ 48 := by have := hC.2.2; omega
  have Vr11 := Lib.hid ((Ls.vld_iff r11).2 hC.1)
  have hSr1122 : SetAt w22 Ar11 r11 := ⟨hS, by omega, fun s hs => by have := Ls.pathOk_len (Pr11.out.each s hs).1; omega⟩
  clear hC hS
  have hB22 := hB21.trans (hb22.mono hB21.size)
  have hM22 := hM21.below hb22
  have hT22 := hT21.below hb22
  have hO22 := hO21.next hb22
  have hSa22 := hSa21.next hb22
  have hSb22 := hSb21.next hb22
  have hSc22 := hSc21.next hb22
  have hSr922 := hSr921.next hb22
  have hSr1022 := hSr1021.next hb22
  clear hB21 hb22 hM21 hT21 hO21 hSa21 hSb21 hSc21 hSr921 hSr1021
  have cc := lawmeet_any a c A A'' c0 c'' kb ob w22 hSa22 hSc22 Va.out Vc.out hM22 hO22
  go_wp2_with fail
  with_reducible refine cc.mono ?_
  clear cc
  rintro e w23 ⟨r12, Ar12, cr12, rfl, hC, hS, hb23⟩
  have Cr12 := Lib.hid hC.2.1
  have Pr12 := Lib.hid hC.1
  have hLr12 : r12.length ≤ 48 := by have := hC.2.2; omega
  have Vr12 := Lib.hid ((Ls.vld_iff r12).2 hC.1)
  have hSr1223 : SetAt w23 Ar12 r12 := ⟨hS, by omega, fun s hs => by have := Ls.pathOk_len (Pr12.out.each s hs).1; omega⟩
  clear hC hS
  have hB23 := hB22.trans (hb23.mono hB22.size)
  have hM23 := hM22.below hb23
  have hT23 := hT22.below hb23
  have hO23 := hO22.next hb23
  have hSa23 := hSa22.next hb23
  have hSb23 := hSb22.next hb23
  have hSc23 := hSc22.next hb23
  have hSr923 := hSr922.next hb23
  have hSr1023 := hSr1022.next hb23
  have hSr1123 := hSr1122.next hb23
  clear hB22 hb23 hM22 hT22 hO22 hSa22 hSb22 hSc22 hSr922 hSr1022 hSr1122
  have cc := lawunion_any r11 r12 Ar11 Ar12 cr11 cr12 kb ob w23 hSr1123 hSr1223 Vr11.out Vr12.out hM23 hO23
  go_wp2_with fail
  with_reducible refine cc.mono ?_
  clear cc
  rintro e w24 ⟨r13, Ar13, cr13, rfl, hC, hS, hb24⟩
  have Cr13 := Lib.hid hC.2.1
  have Pr13 := Lib.hid hC.1
  have hLr13 : r13.length ≤ 192 := by have := hC.2.2; omega
  have Vr13 := Lib.hid ((Ls.vld_iff r13).2 hC.1)
  have hSr1324 : SetAt w24 Ar13 r13 := ⟨hS, by omega, fun s hs => by have := Ls.pathOk_len (Pr13.out.each s hs).1; omega⟩
  clear hC hS
  have hB24 := hB23.trans (hb24.mono hB23.size)
  have hM24 := hM23.below hb24
  have hT24 := hT23.below hb24
  have hO24 := hO23.next hb24
  have hSa24 := hSa23.next hb24
  have hSb24 := hSb23.next hb24
  have hSc24 := hSc23.next hb24
  have hSr924 := hSr923.next hb24
  have hSr1024 := hSr1023.next hb24
  have hSr1124 := hSr1123.next hb24
  have hSr1224 := hSr1223.next hb24
  clear hB23 hb24 hM23 hT23 hO23 hSa23 hSb23 hSc23 hSr923 hSr1023 hSr1123 hSr1223
  have ee : r10 = r13 := Ls.same_of_has Pr10.out.apart Pr13.out.apart fun p m => by
    simp only [Cr9.out, Cr10.out, Cr11.out, Cr12.out, Cr13.out]
    cases Ls.has a p m <;> cases Ls.has b p m <;> cases Ls.has c p m <;> rfl
  have cc := eq_true_any Ar10 Ar13 cr10 cr13 r13 w24 (by rw [← ee]; exact hSr1024.at_) hSr1324.at_ (by omega)
  have el : r10.length = r13.length := by rw [ee]
  have EL := Lib.hid el
  clear ee el
  try rw [EL.out]
  go_wp2_with fail
  try rw [EL.out]
  with_reducible refine cc.mono ?_
  clear cc EL
  rintro e w25 ⟨rfl, hb25⟩
  have hB25 := hB24.trans (hb25.mono hB24.size)
  have hM25 := hM24.below hb25
  have hT25 := hT24.below hb25
  have hO25 := hO24.next hb25
  have hSa25 := hSa24.next hb25
  have hSb25 := hSb24.next hb25
  have hSc25 := hSc24.next hb25
  have hSr925 := hSr924.next hb25
  have hSr1025 := hSr1024.next hb25
  have hSr1125 := hSr1124.next hb25
  have hSr1225 := hSr1224.next hb25
  have hSr1325 := hSr1324.next hb25
  clear hB24 hb25 hM24 hT24 hO24 hSa24 hSb24 hSc24 hSr924 hSr1024 hSr1124 hSr1224 hSr1324
  clear hSr925 hSr1025 hSr1125 hSr1225 hSr1325
  have cc := lawunion_any b c A' A'' c' c'' kb ob w25 hSb25 hSc25 Vb.out Vc.out hM25 hO25
  go_wp2_with fail
  with_reducible refine cc.mono ?_
  clear cc
  rintro e w26 ⟨r14, Ar14, cr14, rfl, hC, hS, hb26⟩
  have Cr14 := Lib.hid hC.2.1
  have Pr14 := Lib.hid hC.1
  have hLr14 : r14.length ≤ 48 := by have := hC.2.2; omega
  have Vr14 := Lib.hid ((Ls.vld_iff r14).2 hC.1)
  have hSr1426 : SetAt w26 Ar14 r14 := ⟨hS, by omega, fun s hs => by have := Ls.pathOk_len (Pr14.out.each s hs).1; omega⟩
  clear hC hS
  have hB26 := hB25.trans (hb26.mono hB25.size)
  have hM26 := hM25.below hb26
  have hT26 := hT25.below hb26
  have hO26 := hO25.next hb26
  have hSa26 := hSa25.next hb26
  have hSb26 := hSb25.next hb26
  have hSc26 := hSc25.next hb26
  clear hB25 hb26 hM25 hT25 hO25 hSa25 hSb25 hSc25
  have cc := lawminus_any a r14 A Ar14 c0 cr14 kb ob w26 hSa26 hSr1426 Va.out Vr14.out hM26 hO26
  go_wp2_with fail
  with_reducible refine cc.mono ?_
  clear cc
  rintro e w27 ⟨r15, Ar15, cr15, rfl, hC, hS, hb27⟩
  have Cr15 := Lib.hid hC.2.1
  have Pr15 := Lib.hid hC.1
  have hLr15 : r15.length ≤ 120 := by have := hC.2.2; omega
  have Vr15 := Lib.hid ((Ls.vld_iff r15).2 hC.1)
  have hSr1527 : SetAt w27 Ar15 r15 := ⟨hS, by omega, fun s hs => by have := Ls.pathOk_len (Pr15.out.each s hs).1; omega⟩
  clear hC hS
  have hB27 := hB26.trans (hb27.mono hB26.size)
  have hM27 := hM26.below hb27
  have hT27 := hT26.below hb27
  have hO27 := hO26.next hb27
  have hSa27 := hSa26.next hb27
  have hSb27 := hSb26.next hb27
  have hSc27 := hSc26.next hb27
  have hSr1427 := hSr1426.next hb27
  clear hB26 hb27 hM26 hT26 hO26 hSa26 hSb26 hSc26 hSr1426
  have cc := lawminus_any a b A A' c0 c' kb ob w27 hSa27 hSb27 Va.out Vb.out hM27 hO27
  go_wp2_with fail
  with_reducible refine cc.mono ?_
  clear cc
  rintro e w28 ⟨r16, Ar16, cr16, rfl, hC, hS, hb28⟩
  have Cr16 := Lib.hid hC.2.1
  have Pr16 := Lib.hid hC.1
  have hLr16 : r16.length ≤ 48 := by have := hC.2.2; omega
  have Vr16 := Lib.hid ((Ls.vld_iff r16).2 hC.1)
  have hSr1628 : SetAt w28 Ar16 r16 := ⟨hS, by omega, fun s hs => by have := Ls.pathOk_len (Pr16.out.each s hs).1; omega⟩
  clear hC hS
  have hB28 := hB27.trans (hb28.mono hB27.size)
  have hM28 := hM27.below hb28
  have hT28 := hT27.below hb28
  have hO28 := hO27.next hb28
  have hSa28 := hSa27.next hb28
  have hSb28 := hSb27.next hb28
  have hSc28 := hSc27.next hb28
  have hSr1428 := hSr1427.next hb28
  have hSr1528 := hSr1527.next hb28
  clear hB27 hb28 hM27 hT27 hO27 hSa27 hSb27 hSc27 hSr1427 hSr1527
  have cc := lawminus_any r16 c Ar16 A'' cr16 c'' kb ob w28 hSr1628 hSc28 Vr16.out Vc.out hM28 hO28
  go_wp2_with fail
  with_reducible refine cc.mono ?_
  clear cc
  rintro e w29 ⟨r17, Ar17, cr17, rfl, hC, hS, hb29⟩
  have Cr17 := Lib.hid hC.2.1
  have Pr17 := Lib.hid hC.1
  have hLr17 : r17.length ≤ 120 := by have := hC.2.2; omega
  have Vr17 := Lib.hid ((Ls.vld_iff r17).2 hC.1)
  have hSr1729 : SetAt w29 Ar17 r17 := ⟨hS, by omega, fun s hs => by have := Ls.pathOk_len (Pr17.out.each s hs).1; omega⟩
  clear hC hS
  have hB29 := hB28.trans (hb29.mono hB28.size)
  have hM29 := hM28.below hb29
  have hT29 := hT28.below hb29
  have hO29 := hO28.next hb29
  have hSa29 := hSa28.next hb29
  have hSb29 := hSb28.next hb29
  have hSc29 := hSc28.next hb29
  have hSr1429 := hSr1428.next hb29
  have hSr1529 := hSr1528.next hb29
  have hSr1629 := hSr1628.next hb29
  clear hB28 hb29 hM28 hT28 hO28 hSa28 hSb28 hSc28 hSr1428 hSr1528 hSr1628
  have ee : r15 = r17 := Ls.same_of_has Pr15.out.apart Pr17.out.apart fun p m => by
    simp only [Cr14.out, Cr15.out, Cr16.out, Cr17.out]
    cases Ls.has a p m <;> cases Ls.has b p m <;> cases Ls.has c p m <;> rfl
  have cc := eq_true_any Ar15 Ar17 cr15 cr17 r17 w29 (by rw [← ee]; exact hSr1529.at_) hSr1729.at_ (by omega)
  have el : r15.length = r17.length := by rw [ee]
  have EL := Lib.hid el
  clear ee el
  try rw [EL.out]
  go_wp2_with fail
  try rw [EL.out]
  with_reducible refine cc.mono ?_
  clear cc EL
  rintro e w30 ⟨rfl, hb30⟩
  have hB30 := hB29.trans (hb30.mono hB29.size)
  have hM30 := hM29.below hb30
  have hT30 := hT29.below hb30
  have hO30 := hO29.next hb30
  have hSa30 := hSa29.next hb30
  have hSb30 := hSb29.next hb30
  have hSc30 := hSc29.next hb30
  have hSr1430 := hSr1429.next hb30
  have hSr1530 := hSr1529.next hb30
  have hSr1630 := hSr1629.next hb30
  have hSr1730 := hSr1729.next hb30
  clear hB29 hb30 hM29 hT29 hO29 hSa29 hSb29 hSc29 hSr1429 hSr1529 hSr1629 hSr1729
  clear hSr1430 hSr1530 hSr1630 hSr1730
  have cc := lawminus_any a b A A' c0 c' kb ob w30 hSa30 hSb30 Va.out Vb.out hM30 hO30
  go_wp2_with fail
  with_reducible refine cc.mono ?_
  clear cc
  rintro e w31 ⟨r18, Ar18, cr18, rfl, hC, hS, hb31⟩
  have Cr18 := Lib.hid hC.2.1
  have Pr18 := Lib.hid hC.1
  have hLr18 : r18.length ≤ 48 := by have := hC.2.2; omega
  have Vr18 := Lib.hid ((Ls.vld_iff r18).2 hC.1)
  have hSr1831 : SetAt w31 Ar18 r18 := ⟨hS, by omega, fun s hs => by have := Ls.pathOk_len (Pr18.out.each s hs).1; omega⟩
  clear hC hS
  have hB31 := hB30.trans (hb31.mono hB30.size)
  have hM31 := hM30.below hb31
  have hT31 := hT30.below hb31
  have hO31 := hO30.next hb31
  have hSa31 := hSa30.next hb31
  have hSb31 := hSb30.next hb31
  have hSc31 := hSc30.next hb31
  clear hB30 hb31 hM30 hT30 hO30 hSa30 hSb30 hSc30
  have cc := lawmeet_any a b A A' c0 c' kb ob w31 hSa31 hSb31 Va.out Vb.out hM31 hO31
  go_wp2_with fail
  with_reducible refine cc.mono ?_
  clear cc
  rintro e w32 ⟨r19, Ar19, cr19, rfl, hC, hS, hb32⟩
  have Cr19 := Lib.hid hC.2.1
  have Pr19 := Lib.hid hC.1
  have hLr19 : r19.length ≤ 48 := by have := hC.2.2; omega
  have Vr19 := Lib.hid ((Ls.vld_iff r19).2 hC.1)
  have hSr1932 : SetAt w32 Ar19 r19 := ⟨hS, by omega, fun s hs => by have := Ls.pathOk_len (Pr19.out.each s hs).1; omega⟩
  clear hC hS
  have hB32 := hB31.trans (hb32.mono hB31.size)
  have hM32 := hM31.below hb32
  have hT32 := hT31.below hb32
  have hO32 := hO31.next hb32
  have hSa32 := hSa31.next hb32
  have hSb32 := hSb31.next hb32
  have hSc32 := hSc31.next hb32
  have hSr1832 := hSr1831.next hb32
  clear hB31 hb32 hM31 hT31 hO31 hSa31 hSb31 hSc31 hSr1831
  have cc := lawunion_any r18 r19 Ar18 Ar19 cr18 cr19 kb ob w32 hSr1832 hSr1932 Vr18.out Vr19.out hM32 hO32
  go_wp2_with fail
  with_reducible refine cc.mono ?_
  clear cc
  rintro e w33 ⟨r20, Ar20, cr20, rfl, hC, hS, hb33⟩
  have Cr20 := Lib.hid hC.2.1
  have Pr20 := Lib.hid hC.1
  have hLr20 : r20.length ≤ 192 := by have := hC.2.2; omega
  have Vr20 := Lib.hid ((Ls.vld_iff r20).2 hC.1)
  have hSr2033 : SetAt w33 Ar20 r20 := ⟨hS, by omega, fun s hs => by have := Ls.pathOk_len (Pr20.out.each s hs).1; omega⟩
  clear hC hS
  have hB33 := hB32.trans (hb33.mono hB32.size)
  have hM33 := hM32.below hb33
  have hT33 := hT32.below hb33
  have hO33 := hO32.next hb33
  have hSa33 := hSa32.next hb33
  have hSb33 := hSb32.next hb33
  have hSc33 := hSc32.next hb33
  have hSr1833 := hSr1832.next hb33
  have hSr1933 := hSr1932.next hb33
  clear hB32 hb33 hM32 hT32 hO32 hSa32 hSb32 hSc32 hSr1832 hSr1932
  have ee : r20 = a := Ls.same_of_has Pr20.out.apart Pa.out.apart fun p m => by
    simp only [Cr18.out, Cr19.out, Cr20.out]
    cases Ls.has a p m <;> cases Ls.has b p m <;> cases Ls.has c p m <;> rfl
  have cc := eq_true_any Ar20 A cr20 c0 a w33 (by rw [← ee]; exact hSr2033.at_) hSa33.at_ (by omega)
  have el : r20.length = a.length := by rw [ee]
  have EL := Lib.hid el
  clear ee el
  try rw [EL.out]
  go_wp2_with fail
  try rw [EL.out]
  with_reducible refine cc.mono ?_
  clear cc EL
  rintro e w34 ⟨rfl, hb34⟩
  have hB34 := hB33.trans (hb34.mono hB33.size)
  have hM34 := hM33.below hb34
  have hT34 := hT33.below hb34
  have hO34 := hO33.next hb34
  have hSa34 := hSa33.next hb34
  have hSb34 := hSb33.next hb34
  have hSc34 := hSc33.next hb34
  have hSr1834 := hSr1833.next hb34
  have hSr1934 := hSr1933.next hb34
  have hSr2034 := hSr2033.next hb34
  clear hB33 hb34 hM33 hT33 hO33 hSa33 hSb33 hSc33 hSr1833 hSr1933 hSr2033
  clear hSr1834 hSr1934 hSr2034
  have cc := lawunion_any a b A A' c0 c' kb ob w34 hSa34 hSb34 Va.out Vb.out hM34 hO34
  go_wp2_with fail
  with_reducible refine cc.mono ?_
  clear cc
  rintro e w35 ⟨r21, Ar21, cr21, rfl, hC, hS, hb35⟩
  have Cr21 := Lib.hid hC.2.1
  have Pr21 := Lib.hid hC.1
  have hLr21 : r21.length ≤ 48 := by have := hC.2.2; omega
  have Vr21 := Lib.hid ((Ls.vld_iff r21).2 hC.1)
  have hSr2135 : SetAt w35 Ar21 r21 := ⟨hS, by omega, fun s hs => by have := Ls.pathOk_len (Pr21.out.each s hs).1; omega⟩
  clear hC hS
  have hB35 := hB34.trans (hb35.mono hB34.size)
  have hM35 := hM34.below hb35
  have hT35 := hT34.below hb35
  have hO35 := hO34.next hb35
  have hSa35 := hSa34.next hb35
  have hSb35 := hSb34.next hb35
  have hSc35 := hSc34.next hb35
  clear hB34 hb35 hM34 hT34 hO34 hSa34 hSb34 hSc34
  have cc := lawmeet_any a r21 A Ar21 c0 cr21 kb ob w35 hSa35 hSr2135 Va.out Vr21.out hM35 hO35
  go_wp2_with fail
  with_reducible refine cc.mono ?_
  clear cc
  rintro e w36 ⟨r22, Ar22, cr22, rfl, hC, hS, hb36⟩
  have Cr22 := Lib.hid hC.2.1
  have Pr22 := Lib.hid hC.1
  have hLr22 : r22.length ≤ 120 := by have := hC.2.2; omega
  have Vr22 := Lib.hid ((Ls.vld_iff r22).2 hC.1)
  have hSr2236 : SetAt w36 Ar22 r22 := ⟨hS, by omega, fun s hs => by have := Ls.pathOk_len (Pr22.out.each s hs).1; omega⟩
  clear hC hS
  have hB36 := hB35.trans (hb36.mono hB35.size)
  have hM36 := hM35.below hb36
  have hT36 := hT35.below hb36
  have hO36 := hO35.next hb36
  have hSa36 := hSa35.next hb36
  have hSb36 := hSb35.next hb36
  have hSc36 := hSc35.next hb36
  have hSr2136 := hSr2135.next hb36
  clear hB35 hb36 hM35 hT35 hO35 hSa35 hSb35 hSc35 hSr2135
  have ee : r22 = a := Ls.same_of_has Pr22.out.apart Pa.out.apart fun p m => by
    simp only [Cr21.out, Cr22.out]
    cases Ls.has a p m <;> cases Ls.has b p m <;> cases Ls.has c p m <;> rfl
  have cc := eq_true_any Ar22 A cr22 c0 a w36 (by rw [← ee]; exact hSr2236.at_) hSa36.at_ (by omega)
  have el : r22.length = a.length := by rw [ee]
  have EL := Lib.hid el
  clear ee el
  try rw [EL.out]
  go_wp2_with fail
  try rw [EL.out]
  with_reducible refine cc.mono ?_
  clear cc EL
  rintro e w37 ⟨rfl, hb37⟩
  have hB37 := hB36.trans (hb37.mono hB36.size)
  have hM37 := hM36.below hb37
  have hT37 := hT36.below hb37
  have hO37 := hO36.next hb37
  have hSa37 := hSa36.next hb37
  have hSb37 := hSb36.next hb37
  have hSc37 := hSc36.next hb37
  have hSr2137 := hSr2136.next hb37
  have hSr2237 := hSr2236.next hb37
  clear hB36 hb37 hM36 hT36 hO36 hSa36 hSb36 hSc36 hSr2136 hSr2236
  clear hSr2137 hSr2237
  have cc := lawunion_any a a A A c0 c0 kb ob w37 hSa37 hSa37 Va.out Va.out hM37 hO37
  go_wp2_with fail
  with_reducible refine cc.mono ?_
  clear cc
  rintro e w38 ⟨r23, Ar23, cr23, rfl, hC, hS, hb38⟩
  have Cr23 := Lib.hid hC.2.1
  have Pr23 := Lib.hid hC.1
  have hLr23 : r23.length ≤ 48 := by have := hC.2.2; omega
  have Vr23 := Lib.hid ((Ls.vld_iff r23).2 hC.1)
  have hSr2338 : SetAt w38 Ar23 r23 := ⟨hS, by omega, fun s hs => by have := Ls.pathOk_len (Pr23.out.each s hs).1; omega⟩
  clear hC hS
  have hB38 := hB37.trans (hb38.mono hB37.size)
  have hM38 := hM37.below hb38
  have hT38 := hT37.below hb38
  have hO38 := hO37.next hb38
  have hSa38 := hSa37.next hb38
  have hSb38 := hSb37.next hb38
  have hSc38 := hSc37.next hb38
  clear hB37 hb38 hM37 hT37 hO37 hSa37 hSb37 hSc37
  have ee : r23 = a := Ls.same_of_has Pr23.out.apart Pa.out.apart fun p m => by
    simp only [Cr23.out]
    cases Ls.has a p m <;> cases Ls.has b p m <;> cases Ls.has c p m <;> rfl
  have cc := eq_true_any Ar23 A cr23 c0 a w38 (by rw [← ee]; exact hSr2338.at_) hSa38.at_ (by omega)
  have el : r23.length = a.length := by rw [ee]
  have EL := Lib.hid el
  clear ee el
  try rw [EL.out]
  go_wp2_with fail
  try rw [EL.out]
  with_reducible refine cc.mono ?_
  clear cc EL
  rintro e w39 ⟨rfl, hb39⟩
  have hB39 := hB38.trans (hb39.mono hB38.size)
  have hM39 := hM38.below hb39
  have hT39 := hT38.below hb39
  have hO39 := hO38.next hb39
  have hSa39 := hSa38.next hb39
  have hSb39 := hSb38.next hb39
  have hSc39 := hSc38.next hb39
  have hSr2339 := hSr2338.next hb39
  clear hB38 hb39 hM38 hT38 hO38 hSa38 hSb38 hSc38 hSr2338
  clear hSr2339
  have cc := lawminus_any a a A A c0 c0 kb ob w39 hSa39 hSa39 Va.out Va.out hM39 hO39
  go_wp2_with fail
  with_reducible refine cc.mono ?_
  clear cc
  rintro e w40 ⟨r24, Ar24, cr24, rfl, hC, hS, hb40⟩
  have Cr24 := Lib.hid hC.2.1
  have Pr24 := Lib.hid hC.1
  have hLr24 : r24.length ≤ 48 := by have := hC.2.2; omega
  have Vr24 := Lib.hid ((Ls.vld_iff r24).2 hC.1)
  have hSr2440 : SetAt w40 Ar24 r24 := ⟨hS, by omega, fun s hs => by have := Ls.pathOk_len (Pr24.out.each s hs).1; omega⟩
  clear hC hS
  have hB40 := hB39.trans (hb40.mono hB39.size)
  have hM40 := hM39.below hb40
  have hT40 := hT39.below hb40
  have hO40 := hO39.next hb40
  have hSa40 := hSa39.next hb40
  have hSb40 := hSb39.next hb40
  have hSc40 := hSc39.next hb40
  clear hB39 hb40 hM39 hT39 hO39 hSa39 hSb39 hSc39
  have en : r24 = [] := Ls.same_of_has Pr24.out.apart Ls.Apart.nil fun p m => by
    simp only [Cr24.out]
    cases Ls.has a p m <;> rfl
  subst en
  have e0 : w40.cell? ⟨kb, 0, none⟩ = some (.bool true) := by rw [cell_of_row _ _ _ _ _ _ hO40.ok]; rfl
  rw [List.length_nil]
  go_wp2_with fail
  go_ret
  exact ⟨rfl, hB40⟩
end Go.Proofs.YtcipgokcpankmaaDoor
