/- The law PatchJoins returns true. Condition: the variables that the program reads lie. -/
import Derived.Test.YtegaofecfppnjaaGreatDoorThn
import Derived.Test.YtegaofecfppnjaaGreatDoorSho
namespace Go.Proofs.YtegaofecfppnjaaGreatDoor
open Go.RowKit Go.Deep Tr

namespace Pc
theorem keep_valid (n : Nat) (h1 : 1 ≤ n) (h2 : n ≤ 1024) : valid (keepAll n) = true := by
  have hh : isHunk ⟨1, (n : Int), []⟩ = true := by
    unfold isHunk
    rw [if_pos (.inl rfl)]
    simp only [Bool.and_eq_true, isNum_iff, decide_eq_true_eq]
    exact ⟨by omega, rfl⟩
  have hl := head_len _ hh
  have hpu := head_pure ⟨1, (n : Int), []⟩
  have hb : bodyL [⟨1, (n : Int), []⟩] = [headL ⟨1, (n : Int), []⟩] := rfl
  have hsh : shape (keepAll n).hs = true := by
    have e1 : cnt 1 (keepAll n).hs + cnt 2 (keepAll n).hs = n := by simp [keepAll, cnt]
    have e2 : cnt 1 (keepAll n).hs + cnt 3 (keepAll n).hs = n := by simp [keepAll, cnt]
    unfold shape
    rw [e1, e2]
    simp only [Bool.and_eq_true, isNum_iff]
    refine ⟨⟨?_, by omega⟩, by omega⟩
    show (beside 0 ⟨1, (n : Int), []⟩ && true) = true
    unfold beside
    rw [hh]; rfl
  unfold valid
  simp only [Bool.and_eq_true, decide_eq_true_eq]
  refine ⟨⟨hsh, rfl⟩, ?_⟩
  have hL : printL (keepAll n) = [headL ⟨1, (n : Int), []⟩] := rfl
  rw [hL]
  generalize headL ⟨1, (n : Int), []⟩ = x at *
  have hj := Tre.joined_len [x] (by simp)
  have hjs : (Tre.joined [x]).length + 1 = x.length + 1 := by simpa using hj
  unfold Tre.join
  rw [if_neg, if_neg (by simp only [List.length_singleton]; omega)]
  rintro (e | e)
  · exact absurd e (by simp)
  · obtain ⟨y, hy, hc⟩ := List.any_eq_true.1 e
    rw [List.mem_singleton.1 hy] at hc
    rw [pure_iff.2 hpu] at hc; cases hc
theorem then_ok {p q r : Pa} {d : List UInt8} (h : thenP p q d = (r, 0)) : ∃ m s, apply p d = (m, 0) ∧ apply q m = (s, 0) := by
  unfold thenP at h
  split at h
  · rename_i e; exact absurd (congrArg Prod.snd h) e
  · rename_i e
    split at h
    · rename_i e2; exact absurd (congrArg Prod.snd h) e2
    · rename_i e2
      exact ⟨_, _, Prod.ext rfl (by simpa using e), Prod.ext rfl (by simpa using e2)⟩
theorem cost_ok {p : Pa} (h : (cost p).2 = 0) : ∃ x, cost p = (x, 0) ∧ valid p = true ∧ x = cnt 2 p.hs + cnt 3 p.hs := by
  by_cases hv : valid p = true
  · exact ⟨_, by rw [cost, if_pos hv], hv, rfl⟩
  · rw [cost, if_neg hv] at h; exact absurd h (by decide)
end Pc
theorem keep_block {w : World} {b n : Nat} (h : w.heap[b]? = some (.cells #[.int .i64 1, .int .i64 n, .slice none 0 0] 54 (0, 0))) : HsAt w w.heap.size (some ⟨b, 0, none⟩) (Pc.keepAll n).hs := fun k hk => by
  have hk0 : k = 0 := by have : k < 1 := hk; omega
  subst hk0
  refine ⟨b, 0, none, 0, rfl, blk_lt h, by rw [cell_of_row _ _ _ _ _ _ h]; rfl, by rw [cell_of_row _ _ _ _ _ _ h]; rfl, by rw [cell_of_row _ _ _ _ _ _ h]; rfl, fun i hi => ?_, Nat.le_refl _, Nat.zero_le _⟩
  exact absurd hi (by show ¬ i < 0; omega)
set_option maxHeartbeats 16000000 in
set_option maxRecDepth 100000 in
theorem joins_law (p q : Pc.Pa) (A A' : Option Addr) (c c' : Nat) (d : List UInt8) (w : World) (hP : PaRaw w p A) (hQ : PaRaw w q A') (hI : IdAt w) :
    Calls Tryz.prog 9 #[paV p A c, paV q A' c', .string (str d)] w fun e w' => e = .returned (.bool true) ∧ Below w.heap.size w w' := by
  rw [paV_def, paV_def]
  obtain ⟨W, hW, hB0, bx0, by0⟩ : ∃ W, W = (w.alloc (.cells #[.string (str p.base), .slice A p.hs.length c] 24)).alloc (.cells #[.string (str q.base), .slice A' q.hs.length c'] 24) ∧ Below w.heap.size w W ∧ Bp W w.heap.size p A c ∧ Bp W (w.heap.size + 1) q A' c' := by
    refine ⟨_, rfl, ((Below.refl _ _).alloc (Nat.le_refl _) _).alloc (by simp) _, ?_, ?_⟩
    · unfold Bp
      rw [blk_alloc_lt _ _ _ (by simp)]
      exact heap_alloc_new w _
    · have := heap_alloc_new (w.alloc (.cells #[.string (str p.base), .slice A p.hs.length c] 24)) (.cells #[.string (str q.base), .slice A' q.hs.length c'] 24)
      rwa [show (w.alloc (.cells #[.string (str p.base), .slice A p.hs.length c] 24)).heap.size = w.heap.size + 1 by simp] at this
  have hP0 := hP.next hB0
  have hQ0 := hQ.next hB0
  have hI0 := hI.below hB0
  clear hP hQ hI
  go_enter Tryz.func9, Tryz.ntmps9
  go_wp2_with fail
  rw [← hW]
  clear hW
  have cc := awake_any W hI0
  with_reducible refine cc.mono ?_
  clear cc 
  rintro x w1 ⟨rfl, hb1⟩
  have hB1 := hB0.trans (hb1.mono hB0.size)
  have hP1 := hP0.next hb1
  have hQ1 := hQ0.next hb1
  have hI1 := hI0.below hb1
  have bx1 := bx0.next hb1
  have by1 := by0.next hb1
  clear hB0 hb1 hP0 hQ0 hI0 bx0 by0
  have cc := qFew_any p A c w1 hP1
  rw [paV_def] at cc
  obtain ⟨k0, k1⟩ := bx1.cells
  go_wp2_with fail
  with_reducible refine cc.mono ?_
  clear cc k0 k1
  rintro x w2 ⟨b, rfl, hsm, hb2⟩
  have hB2 := hB1.trans (hb2.mono hB1.size)
  have hP2 := hP1.next hb2
  have hQ2 := hQ1.next hb2
  have hI2 := hI1.below hb2
  have bx2 := bx1.next hb2
  have by2 := by1.next hb2
  clear hB1 hb2 hP1 hQ1 hI1 bx1 by1
  cases b with
  | false =>
    clear hsm
    go_wp2_with fail
    go_ret
    exact ⟨rfl, hB2⟩
  | true =>
  have HSp := Lib.hid (hsm rfl)
  clear hsm
  have cc := qFew_any q A' c' w2 hQ2
  rw [paV_def] at cc
  obtain ⟨k0, k1⟩ := by2.cells
  go_wp2_with fail
  with_reducible refine cc.mono ?_
  clear cc k0 k1
  rintro x w3 ⟨b, rfl, hsm, hb3⟩
  have hB3 := hB2.trans (hb3.mono hB2.size)
  have hP3 := hP2.next hb3
  have hQ3 := hQ2.next hb3
  have hI3 := hI2.below hb3
  have bx3 := bx2.next hb3
  have by3 := by2.next hb3
  clear hB2 hb3 hP2 hQ2 hI2 bx2 by2
  cases b with
  | false =>
    clear hsm
    go_wp2_with fail
    go_ret
    exact ⟨rfl, hB3⟩
  | true =>
  have HSq := Lib.hid (hsm rfl)
  clear hsm
  have hb4 : Below w3.heap.size w3 (w3.alloc (.cells #[.string (str d)] 9)) := (Below.refl _ _).alloc (Nat.le_refl _) _
  have hz4 := heap_alloc_new w3 (.cells #[.string (str d)] 9)
  have hB4 := hB3.trans (hb4.mono hB3.size)
  have hP4 := hP3.next hb4
  have hQ4 := hQ3.next hb4
  have hI4 := hI3.below hb4
  have bx4 := bx3.next hb4
  have by4 := by3.next hb4
  clear hB3 hb4 hP3 hQ3 hI3 bx3 by3
  have cc := few_any (some ⟨w3.heap.size, 0, none⟩) 1 [d] (w3.alloc (.cells #[.string (str d)] 9)) (fun i hi => by
    have hi0 : i = 0 := by simp [strs] at hi; omega
    subst hi0
    exact ⟨w3.heap.size, 0, rfl, by simp, by rw [cell_of_row _ _ _ _ _ _ hz4]; rfl⟩) (by simp)
  rw [show [d].length = 1 from rfl] at cc
  clear hz4
  go_wp2_with fail
  generalize w3.alloc (.cells #[.string (str d)] 9) = w4 at *
  with_reducible refine cc.mono ?_
  clear cc
  rintro x w5 ⟨b, rfl, hfew, hb5⟩
  have hB5 := hB4.trans (hb5.mono hB4.size)
  have hP5 := hP4.next hb5
  have hQ5 := hQ4.next hb5
  have hI5 := hI4.below hb5
  have bx5 := bx4.next hb5
  have by5 := by4.next hb5
  clear hB4 hb5 hP4 hQ4 hI4 bx4 by4
  cases b with
  | false =>
    clear hfew
    go_wp2_with fail
    go_ret
    exact ⟨rfl, hB5⟩
  | true =>
  have hdl : d.length ≤ 500 := (by simpa using hfew)
  have hds := str_size d
  have HOP := Lib.hid (fun w (h : PaRaw w p A) => h.ok HSp.out)
  have HOQ := Lib.hid (fun w (h : PaRaw w q A') => h.ok HSq.out)
  clear hfew
  have cc := then_any p q A A' c c' (str d) w5 (HOP.out _ hP5) (HOQ.out _ hQ5) hI5 (by omega)
  rw [str_data, paV_def, paV_def] at cc
  obtain ⟨k0, k1⟩ := bx5.cells
  obtain ⟨k2, k3⟩ := by5.cells
  go_wp2_with fail
  with_reducible refine cc.mono ?_
  clear cc k0 k1 k2 k3
  rintro x w6 ⟨A7, d7, rfl, hR6, hb6⟩
  have hB6 := hB5.trans (hb6.mono hB5.size)
  have hP6 := hP5.next hb6
  have hQ6 := hQ5.next hb6
  have hI6 := hI5.below hb6
  have bx6 := bx5.next hb6
  have by6 := by5.next hb6
  clear hB5 hb6 hP5 hQ5 hI5 bx5 by5
  rw [paV_def]
  by_cases he : (Pc.thenP p q d).2 = 0
  · obtain ⟨r, hr⟩ : ∃ r, Pc.thenP p q d = (r, 0) := ⟨(Pc.thenP p q d).1, Prod.ext rfl he⟩
    obtain ⟨m, t, hm, ht⟩ := Pc.then_ok hr
    obtain ⟨j1, j2, j3, j4, j5, j6⟩ := Pc.join_both hm ht hr
    obtain ⟨a, b, L⟩ := Pc.led_of hm
    obtain ⟨_, _, Lr⟩ := Pc.led_of j1
    have hkv := Pc.keep_valid b.length (Pc.lines_ok L.now).2.1 (Pc.lines_ok L.now).2.2.1
    have hjk := Pc.join_keep L hkv
    obtain ⟨xp, hxp, _, ep⟩ := Pc.cost_ok j4
    obtain ⟨xq, hxq, hvq, eq⟩ := Pc.cost_ok j5
    obtain ⟨xr, hxr, _, er⟩ := Pc.cost_ok j3
    rw [hxp, hxq, hxr] at j6
    have hnow := L.now
    have htl := text_len hnow
    have hms := str_size m
    have hbl := (Pc.lines_ok L.now).2.2.1
    have HLR := Lib.hid (fun (w : World) (A : Option Addr) (h : HsAt w w.heap.size A r.hs) => led_ok Lr h)
    have hlp := led_len L
    have hvp := valid_all L.valid
    have hvq2 := valid_all hvq
    have HBZ := Lib.hid (show 0 ≤ xp ∧ xp ≤ 10000 ∧ 0 ≤ xq ∧ xq ≤ 10000 from by
      have h1 := hvp.2.2.2.2
      have h2 := hvq2.2.2.2.2
      omega)
    have bz := HBZ.out
    dsimp only at j6
    have g1 : decide (Go.IntKind.i64.wrap (xp + xq) < xr) = false := by rw [IntWalk.i64_in _ (by omega)]; exact decide_eq_false (by omega)
    have g2 : Go.IntKind.i64.wrap (xp + xq) = xp + xq := by rw [IntWalk.i64_in _ (by omega)]
    have g3 : decide (xp + xq < xr) = false := decide_eq_false (by omega)
    have nt : ((str t).toList != (str t).toList) = false := by simp
    clear L Lr hkv hvp hvq2 hvq ep eq er he j3 j4 j5 HBZ bz
    rw [hr] at hR6 ⊢
    dsimp only at hR6 ⊢
    have nb : ((str r.base).toList == (str p.base).toList) = true := by rw [j2]; simp
    have nb2 : ((str r.base).toList != (str p.base).toList) = false := by rw [j2]; simp
    clear j2
    have hb7 : Below w6.heap.size w6 (w6.alloc (.cells #[.string (str r.base), .slice A7 r.hs.length d7] 24)) := (Below.refl _ _).alloc (Nat.le_refl _) _
    have bz7 : Bp (w6.alloc (.cells #[.string (str r.base), .slice A7 r.hs.length d7] 24)) w6.heap.size r A7 d7 := heap_alloc_new w6 _
    have hB7 := hB6.trans (hb7.mono hB6.size)
    have hP7 := hP6.next hb7
    have hQ7 := hQ6.next hb7
    have hI7 := hI6.below hb7
    have bx7 := bx6.next hb7
    have by7 := by6.next hb7
    have hR7 := hR6.next hb7
    clear hB6 hb7 hP6 hQ6 hI6 bx6 by6 hR6
    have cc := apply_any p A c (str d) (w6.alloc (.cells #[.string (str r.base), .slice A7 r.hs.length d7] 24)) (HOP.out _ hP7) hI7 (by omega)
    rw [str_data, apV_def, paV_def, hm] at cc
    dsimp only at cc
    obtain ⟨k0, k1⟩ := bx7.cells
    go_wp2_with fail
    generalize w6.alloc (.cells #[.string (str r.base), .slice A7 r.hs.length d7] 24) = w7 at *
    generalize w6.heap.size = q7 at *
    with_reducible refine cc.mono ?_
    clear cc k0 k1
    rintro x w8 ⟨rfl, hb8⟩
    have hB8 := hB7.trans (hb8.mono hB7.size)
    have hP8 := hP7.next hb8
    have hQ8 := hQ7.next hb8
    have hI8 := hI7.below hb8
    have bx8 := bx7.next hb8
    have by8 := by7.next hb8
    have hR8 := hR7.next hb8
    have bz8 := bz7.next hb8
    clear hB7 hb8 hP7 hQ7 hI7 bx7 by7 hR7 bz7
    have cc := apply_any q A' c' (str m) w8 (HOQ.out _ hQ8) hI8 (by omega)
    rw [str_data, apV_def, paV_def, ht] at cc
    dsimp only at cc
    obtain ⟨k0, k1⟩ := by8.cells
    go_wp2_with fail
    with_reducible refine cc.mono ?_
    clear cc k0 k1
    rintro x w9 ⟨rfl, hb9⟩
    have hB9 := hB8.trans (hb9.mono hB8.size)
    have hP9 := hP8.next hb9
    have hQ9 := hQ8.next hb9
    have hI9 := hI8.below hb9
    have bx9 := bx8.next hb9
    have by9 := by8.next hb9
    have hR9 := hR8.next hb9
    have bz9 := bz8.next hb9
    clear hB8 hb9 hP8 hQ8 hI8 bx8 by8 hR8 bz8
    have cc := apply_any r A7 d7 (str d) w9 (HLR.out _ _ hR9.at_) hI9 (by omega)
    rw [str_data, apV_def, paV_def, j1] at cc
    dsimp only at cc
    obtain ⟨k0, k1⟩ := bz9.cells
    go_wp2_with fail
    with_reducible refine cc.mono ?_
    clear cc k0 k1
    rintro x w10 ⟨rfl, hb10⟩
    have hB10 := hB9.trans (hb10.mono hB9.size)
    have hP10 := hP9.next hb10
    have hQ10 := hQ9.next hb10
    have hI10 := hI9.below hb10
    have bx10 := bx9.next hb10
    have by10 := by9.next hb10
    have hR10 := hR9.next hb10
    have bz10 := bz9.next hb10
    clear hB9 hb10 hP9 hQ9 hI9 bx9 by9 hR9 bz9
    have cc := cost_any p A c w10 (HOP.out _ hP10) hI10.tabs
    rw [paV_def, hxp] at cc
    dsimp only at cc
    obtain ⟨k0, k1⟩ := bx10.cells
    go_wp2_with fail
    with_reducible refine cc.mono ?_
    clear cc k0 k1
    rintro x w11 ⟨rfl, hb11⟩
    have hB11 := hB10.trans (hb11.mono hB10.size)
    have hP11 := hP10.next hb11
    have hQ11 := hQ10.next hb11
    have hI11 := hI10.below hb11
    have bx11 := bx10.next hb11
    have by11 := by10.next hb11
    have hR11 := hR10.next hb11
    have bz11 := bz10.next hb11
    clear hB10 hb11 hP10 hQ10 hI10 bx10 by10 hR10 bz10
    have cc := cost_any q A' c' w11 (HOQ.out _ hQ11) hI11.tabs
    rw [paV_def, hxq] at cc
    dsimp only at cc
    obtain ⟨k0, k1⟩ := by11.cells
    go_wp2_with fail
    with_reducible refine cc.mono ?_
    clear cc k0 k1
    rintro x w12 ⟨rfl, hb12⟩
    have hB12 := hB11.trans (hb12.mono hB11.size)
    have hP12 := hP11.next hb12
    have hQ12 := hQ11.next hb12
    have hI12 := hI11.below hb12
    have bx12 := bx11.next hb12
    have by12 := by11.next hb12
    have hR12 := hR11.next hb12
    have bz12 := bz11.next hb12
    clear hB11 hb12 hP11 hQ11 hI11 bx11 by11 hR11 bz11
    have cc := cost_any r A7 d7 w12 (HLR.out _ _ hR12.at_) hI12.tabs
    rw [paV_def, hxr] at cc
    dsimp only at cc
    obtain ⟨k0, k1⟩ := bz12.cells
    go_wp2_with fail
    with_reducible refine cc.mono ?_
    clear cc k0 k1
    rintro x w13 ⟨rfl, hb13⟩
    have hB13 := hB12.trans (hb13.mono hB12.size)
    have hP13 := hP12.next hb13
    have hQ13 := hQ12.next hb13
    have hI13 := hI12.below hb13
    have bx13 := bx12.next hb13
    have by13 := by12.next hb13
    have hR13 := hR12.next hb13
    have bz13 := bz12.next hb13
    clear hB12 hb13 hP12 hQ12 hI12 bx12 by12 hR12 bz12
    have cc := qLines_any (str m) w13 (by omega)
    rw [str_data, hnow] at cc
    obtain ⟨k0, k1⟩ := bz13.cells
    obtain ⟨k2, k3⟩ := bx13.cells
    go_wp2_with fail
    with_reducible refine cc.mono ?_
    clear cc k0 k1 k2 k3
    rintro x w14 ⟨v8, rfl, ho8, hb14⟩
    have hB14 := hB13.trans (hb14.mono hB13.size)
    have hP14 := hP13.next hb14
    have hQ14 := hQ13.next hb14
    have hI14 := hI13.below hb14
    have bx14 := bx13.next hb14
    have by14 := by13.next hb14
    have hR14 := hR13.next hb14
    have bz14 := bz13.next hb14
    clear hB13 hb14 hP13 hQ13 hI13 bx13 by13 hR13 bz13
    dsimp only at ho8 ⊢
    obtain ⟨A8, c8, rfl, _⟩ := owns_cells ho8
    clear ho8
    obtain ⟨k0, k1⟩ := bx14.cells
    have hb15 : Below w14.heap.size w14 (w14.alloc (.cells #[.int .i64 1, .int .i64 b.length, .slice none 0 0] 54)) := (Below.refl _ _).alloc (Nat.le_refl _) _
    have hz15 := heap_alloc_new w14 (.cells #[.int .i64 1, .int .i64 b.length, .slice none 0 0] 54)
    have hB15 := hB14.trans (hb15.mono hB14.size)
    have hP15 := hP14.next hb15
    have hQ15 := hQ14.next hb15
    have hI15 := hI14.below hb15
    have bx15 := bx14.next hb15
    have by15 := by14.next hb15
    have hR15 := hR14.next hb15
    have bz15 := bz14.next hb15
    clear hB14 hb15 hP14 hQ14 hI14 bx14 by14 hR14 bz14
    have cc := then_any p (Pc.keepAll b.length) A (some ⟨w14.heap.size, 0, none⟩) c 1 (str d) (w14.alloc (.cells #[.int .i64 1, .int .i64 b.length, .slice none 0 0] 54)) (HOP.out _ hP15) ⟨keep_block hz15, by show 1 ≤ _; omega, by show 0 ≤ _; omega, fun x hx l hl => by
      have : x = ⟨1, (b.length : Int), []⟩ := List.mem_singleton.1 hx
      rw [this] at hl; cases hl⟩ hI15 (by omega)
    rw [str_data, hjk, paV_def, paV_def] at cc
    rw [show (Pc.keepAll b.length).hs.length = 1 from rfl, show str (Pc.keepAll b.length).base = ⟨#[]⟩ from rfl] at cc
    clear hz15
    go_wp2_with fail
    generalize w14.alloc (.cells #[.int .i64 1, .int .i64 b.length, .slice none 0 0] 54) = w15 at *
    with_reducible refine cc.mono ?_
    clear cc k0 k1
    rintro x w16 ⟨A9, d9, rfl, hS16, hb16⟩
    rw [paV_def]
    dsimp only at hS16 ⊢
    have hB16 := hB15.trans (hb16.mono hB15.size)
    have hP16 := hP15.next hb16
    have hQ16 := hQ15.next hb16
    have hI16 := hI15.below hb16
    have bx16 := bx15.next hb16
    have by16 := by15.next hb16
    have hR16 := hR15.next hb16
    have bz16 := bz15.next hb16
    clear hB15 hb16 hP15 hQ15 hI15 bx15 by15 hR15 bz15
    have hb17 : Below w16.heap.size w16 (w16.alloc (.cells #[.string (str p.base), .slice A9 p.hs.length d9] 24)) := (Below.refl _ _).alloc (Nat.le_refl _) _
    have bs17 : Bp (w16.alloc (.cells #[.string (str p.base), .slice A9 p.hs.length d9] 24)) w16.heap.size p A9 d9 := heap_alloc_new w16 _
    have hB17 := hB16.trans (hb17.mono hB16.size)
    have hP17 := hP16.next hb17
    have hQ17 := hQ16.next hb17
    have hI17 := hI16.below hb17
    have bx17 := bx16.next hb17
    have by17 := by16.next hb17
    have hR17 := hR16.next hb17
    have bz17 := bz16.next hb17
    have hS17 := hS16.next hb17
    clear hB16 hb17 hP16 hQ16 hI16 bx16 by16 hR16 bz16 hS16
    have cc := qSame_true p A9 A d9 c (w16.alloc (.cells #[.string (str p.base), .slice A9 p.hs.length d9] 24)) hS17.at_ hP17.at_ hlp.1 hlp.2
    rw [paV_def, paV_def] at cc
    obtain ⟨k0, k1⟩ := bx17.cells
    obtain ⟨k2, k3⟩ := bs17.cells
    go_wp2_with fail
    generalize w16.alloc (.cells #[.string (str p.base), .slice A9 p.hs.length d9] 24) = w17 at *
    generalize w16.heap.size = q17 at *
    with_reducible refine cc.mono ?_
    clear cc k0 k1 k2 k3
    rintro x wz ⟨rfl, hbz⟩
    have hBz := hB17.trans (hbz.mono hB17.size)
    clear hB17 hbz
    go_wp2_with fail
    go_ret
    exact ⟨rfl, hBz⟩
  · have hn := Pc.then_err he
    rw [hn] at hR6 ⊢
    have bf : ((Pc.thenP p q d).2 == 0) = false := by simpa using he
    have bfn : ((Pc.thenP p q d).2 != 0) = true := by simpa using he
    have i1 : (str ([] : List UInt8)).toList.isEmpty = true := by rw [str_list]; rfl
    clear hn he
    generalize Pc.thenP p q d = z at *
    have hbb := hB6.trans (((Below.refl w6.heap.size w6).alloc (Nat.le_refl _) (.cells #[.string (str []), .slice A7 0 d7] 24)).mono hB6.size)
    go_wp2_with fail
    go_ret
    exact ⟨rfl, hbb⟩
theorem joins_law' (p q : Pc.Pa) (A A' : Option Addr) (c c' : Nat) (s : ByteArray) (w : World) (hP : PaRaw w p A) (hQ : PaRaw w q A') (hI : IdAt w) :
    Calls Tryz.prog 9 #[paV p A c, paV q A' c', .string s] w fun e w' => e = .returned (.bool true) ∧ Below w.heap.size w w' := by
  have h := joins_law p q A A' c c' s.data.toList w hP hQ hI
  rwa [str_of] at h
end Go.Proofs.YtegaofecfppnjaaGreatDoor
