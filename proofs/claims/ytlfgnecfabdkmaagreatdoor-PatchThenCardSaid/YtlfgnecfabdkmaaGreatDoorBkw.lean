/- The law PatchBack returns true. Condition: the variables that the program reads lie. -/
import Derived.Test.YtlfgnecfabdkmaaGreatDoorSam
import Derived.Test.YtlfgnecfabdkmaaGreatDoorLed
namespace Go.Proofs.YtlfgnecfabdkmaaGreatDoor
open Go.RowKit Go.Deep Tr

set_option maxHeartbeats 8000000 in
set_option maxRecDepth 100000 in
theorem back_law (p : Pc.Pa) (A : Option Addr) (c : Nat) (d : List UInt8) (w : World) (hP : PaRaw w p A) (hI : IdAt w) :
    Calls Tryz.prog 7 #[paV p A c, .string (str d)] w fun e w' => e = .returned (.bool true) ∧ Below w.heap.size w w' := by
  rw [paV_def]
  have hB0 : Below w.heap.size w (w.alloc (.cells #[.string (str p.base), .slice A p.hs.length c] 24)) := (Below.refl _ _).alloc (Nat.le_refl _) _
  have bx : Bp (w.alloc (.cells #[.string (str p.base), .slice A p.hs.length c] 24)) w.heap.size p A c := heap_alloc_new w _
  have hP0 := hP.next hB0
  have hI0 := hI.below hB0
  go_enter Tryz.func7, Tryz.ntmps7
  go_wp2_with fail
  generalize w.alloc (.cells #[.string (str p.base), .slice A p.hs.length c] 24) = W at *
  have c1 := awake_any W hI0
  with_reducible refine c1.mono ?_
  clear c1 hP hI
  rintro x w1 ⟨rfl, hb1⟩
  have hB1 := hB0.trans (hb1.mono hB0.size)
  have hP1 := hP0.next hb1
  have hI1 := hI0.below hb1
  have bx1 := bx.next hb1
  clear hB0 hP0 hI0 bx hb1
  have c2 := qFew_any p A c w1 hP1
  rw [paV_def] at c2
  obtain ⟨p0, p1⟩ := bx1.cells
  go_wp2_with fail
  with_reducible refine c2.mono ?_
  clear c2 p0 p1
  rintro x w2 ⟨b, rfl, hsm, hb2⟩
  have hB2 := hB1.trans (hb2.mono hB1.size)
  have hP2 := hP1.next hb2
  have hI2 := hI1.below hb2
  have bx2 := bx1.next hb2
  clear hB1 hP1 hI1 bx1 hb2
  cases b with
  | false =>
    clear hsm
    go_wp2_with fail
    go_ret
    exact ⟨rfl, hB2⟩
  | true =>
  have HSM := Lib.hid (hsm rfl)
  clear hsm
  have hy : Below w2.heap.size w2 (w2.alloc (.cells #[.string (str d)] 9)) := (Below.refl _ _).alloc (Nat.le_refl _) _
  have hz := heap_alloc_new w2 (.cells #[.string (str d)] 9)
  have c3 := few_any (some ⟨w2.heap.size, 0, none⟩) 1 [d] (w2.alloc (.cells #[.string (str d)] 9)) (fun i hi => by
    have hi0 : i = 0 := by simp [strs] at hi; omega
    subst hi0
    exact ⟨w2.heap.size, 0, rfl, by simp, by rw [cell_of_row _ _ _ _ _ _ hz]; rfl⟩) (by simp)
  rw [show [d].length = 1 from rfl] at c3
  have hB3 := hB2.trans (hy.mono hB2.size)
  have hP3 := hP2.next hy
  have hI3 := hI2.below hy
  have bx3 := bx2.next hy
  clear hB2 hP2 hI2 bx2 hy hz
  go_wp2_with fail
  generalize w2.alloc (.cells #[.string (str d)] 9) = W3 at *
  with_reducible refine c3.mono ?_
  clear c3
  rintro x w4 ⟨b, rfl, hfew, hb4⟩
  have hB4 := hB3.trans (hb4.mono hB3.size)
  have hP4 := hP3.next hb4
  have hI4 := hI3.below hb4
  have bx4 := bx3.next hb4
  clear hB3 hP3 hI3 bx3 hb4
  cases b with
  | false =>
    clear hfew
    go_wp2_with fail
    go_ret
    exact ⟨rfl, hB4⟩
  | true =>
  have hdl : d.length ≤ 500 := (by simpa using hfew)
  have hds := str_size d
  have hok := fun w (h : PaRaw w p A) => h.ok HSM.out
  have c5 := apply_any p A c (str d) w4 (hok _ hP4) hI4 (by omega)
  rw [str_data, apV_def, paV_def] at c5
  obtain ⟨p0, p1⟩ := bx4.cells
  clear hfew
  go_wp2_with fail
  with_reducible refine c5.mono ?_
  clear c5 p0 p1
  rintro x w5 ⟨rfl, hb5⟩
  have hB5 := hB4.trans (hb5.mono hB4.size)
  have hP5 := hP4.next hb5
  have hI5 := hI4.below hb5
  have bx5 := bx4.next hb5
  clear hB4 hP4 hI4 bx4 hb5
  have c6 := invert_any p A c (str d) w5 (hok _ hP5) hI5 (by omega)
  rw [str_data, paV_def] at c6
  obtain ⟨p0, p1⟩ := bx5.cells
  go_wp2_with fail
  with_reducible refine c6.mono ?_
  clear c6 p0 p1
  rintro x w6 ⟨A6, d6, rfl, hQ6, hb6⟩
  rw [paV_def]
  have hB6 := hB5.trans (hb6.mono hB5.size)
  have hP6 := hP5.next hb6
  have hI6 := hI5.below hb6
  have bx6 := bx5.next hb6
  clear hB5 hP5 hI5 bx5 hb6
  by_cases hf : (Pc.invert p d).2 = 0
  · have he := invert_of_apply hf
    obtain ⟨q, hq⟩ : ∃ q, Pc.invert p d = (q, 0) := ⟨(Pc.invert p d).1, by rw [← hf]⟩
    obtain ⟨t, ht⟩ : ∃ t, Pc.apply p d = (t, 0) := ⟨(Pc.apply p d).1, by rw [← he]⟩
    obtain ⟨a, b, hL⟩ := Pc.led_of ht
    obtain ⟨k1, k2, k3, k4⟩ := Pc.back_ok (fun s e => by have := dig_len s; rw [e] at this; simp at this) hL hq
    obtain ⟨a', b', hLq⟩ := Pc.led_of k1
    have HTL := Lib.hid (text_len hL.now)
    have hts := str_size t
    obtain ⟨x, hx⟩ : ∃ x, Pc.cost p = (x, 0) := ⟨_, by rw [cost_def, if_pos hL.valid]⟩
    rw [hx] at k3
    obtain ⟨bb, i1⟩ : ∃ bb, (str p.base).toList.isEmpty = bb := ⟨_, rfl⟩
    have i2 : (str q.base).toList.isEmpty = bb := by
      rw [← i1, str_list, str_list]
      cases hp : p.base with
      | nil => rw [k4.1 hp]
      | cons y ys =>
        cases hz : q.base with
        | nil => rw [k4.2 hz] at hp; cases hp
        | cons _ _ => rfl
    have n1 : ((str d).toList == (str d).toList) = true := by simp
    have hlL := led_len hL
    have HLL := Lib.hid (fun (w : World) (A : Option Addr) (h : HsAt w w.heap.size A p.hs) => led_ok hL h)
    have HLQ := Lib.hid (fun (w : World) (A : Option Addr) (h : HsAt w w.heap.size A q.hs) => led_ok hLq h)
    have HSA := Lib.hid hlL
    clear hL hLq k4 hf he hlL
    rw [hq] at hQ6 ⊢
    rw [ht]
    dsimp only at hQ6 ⊢
    have htl : t.length ≤ 65536 := HTL.out
    have hy : Below w6.heap.size w6 (w6.alloc (.cells #[.string (str q.base), .slice A6 q.hs.length d6] 24)) := (Below.refl _ _).alloc (Nat.le_refl _) _
    have by7 : Bp (w6.alloc (.cells #[.string (str q.base), .slice A6 q.hs.length d6] 24)) w6.heap.size q A6 d6 := heap_alloc_new w6 _
    have hB7 := hB6.trans (hy.mono hB6.size)
    have hP7 := hP6.next hy
    have hI7 := hI6.below hy
    have bx7 := bx6.next hy
    have hQ7 := hQ6.next hy
    clear hB6 hP6 hI6 bx6 hQ6 hy
    go_wp2_with fail
    generalize w6.alloc (.cells #[.string (str q.base), .slice A6 q.hs.length d6] 24) = W7 at *
    generalize w6.heap.size = q7 at *
    have c8 := apply_any q A6 d6 (str t) W7 (HLQ.out _ _ hQ7.at_) hI7 (by omega)
    rw [str_data, apV_def, paV_def, k1] at c8
    dsimp only at c8
    with_reducible refine c8.mono ?_
    clear c8
    rintro x8 w8 ⟨rfl, hb8⟩
    have hB8 := hB7.trans (hb8.mono hB7.size)
    have hP8 := hP7.next hb8
    have hI8 := hI7.below hb8
    have bx8 := bx7.next hb8
    have by8 := by7.next hb8
    have hQ8 := hQ7.next hb8
    clear hB7 hP7 hI7 bx7 by7 hQ7 hb8
    have c9 := invert_any q A6 d6 (str t) w8 (HLQ.out _ _ hQ8.at_) hI8 (by omega)
    rw [str_data, paV_def, k2] at c9
    obtain ⟨p0, p1⟩ := by8.cells
    go_wp2_with fail
    with_reducible refine c9.mono ?_
    clear c9 p0 p1
    rintro x9 w9 ⟨A9, d9, rfl, hR9, hb9⟩
    rw [paV_def]
    dsimp only at hR9 ⊢
    have hb9' : Below w8.heap.size w8 (w9.alloc (.cells #[.string (str p.base), .slice A9 p.hs.length d9] 24)) := hb9.alloc hb9.size _
    have hy : Below w9.heap.size w9 (w9.alloc (.cells #[.string (str p.base), .slice A9 p.hs.length d9] 24)) := (Below.refl _ _).alloc (Nat.le_refl _) _
    have bz10 : Bp (w9.alloc (.cells #[.string (str p.base), .slice A9 p.hs.length d9] 24)) w9.heap.size p A9 d9 := heap_alloc_new w9 _
    have hB10 := hB8.trans (hb9'.mono hB8.size)
    have hP10 := hP8.next hb9'
    have hI10 := hI8.below hb9'
    have bx10 := bx8.next hb9'
    have by10 := by8.next hb9'
    have hQ10 := hQ8.next hb9'
    have hR10 := hR9.next hy
    clear hB8 hP8 hI8 bx8 by8 hQ8 hR9 hb9 hb9' hy
    obtain ⟨p0, p1⟩ := bx10.cells
    go_wp2_with fail
    generalize w9.alloc (.cells #[.string (str p.base), .slice A9 p.hs.length d9] 24) = W10 at *
    generalize w9.heap.size = q10 at *
    have c11 := cost_any p A c W10 (HLL.out _ _ hP10.at_) hI10.tabs
    rw [paV_def, hx] at c11
    dsimp only at c11
    with_reducible refine c11.mono ?_
    clear c11 p0 p1
    rintro x11 w11 ⟨rfl, hb11⟩
    have hB11 := hB10.trans (hb11.mono hB10.size)
    have hP11 := hP10.next hb11
    have hI11 := hI10.below hb11
    have bx11 := bx10.next hb11
    have by11 := by10.next hb11
    have bz11 := bz10.next hb11
    have hQ11 := hQ10.next hb11
    have hR11 := hR10.next hb11
    clear hB10 hP10 hI10 bx10 by10 bz10 hQ10 hR10 hb11
    obtain ⟨p0, p1⟩ := by11.cells
    go_wp2_with fail
    have c12 := cost_any q A6 d6 w11 (HLQ.out _ _ hQ11.at_) hI11.tabs
    rw [paV_def, k3] at c12
    dsimp only at c12
    with_reducible refine c12.mono ?_
    clear c12 p0 p1
    rintro x12 w12 ⟨rfl, hb12⟩
    have hB12 := hB11.trans (hb12.mono hB11.size)
    have hP12 := hP11.next hb12
    have bx12 := bx11.next hb12
    have by12 := by11.next hb12
    have bz12 := bz11.next hb12
    have hR12 := hR11.next hb12
    clear hB11 hP11 hI11 bx11 by11 bz11 hQ11 hR11 hb12
    obtain ⟨p0, p1⟩ := bx12.cells
    obtain ⟨p2, p3⟩ := bz12.cells
    have c13 := qSame_true p A9 A d9 c w12 hR12.at_ hP12.at_ HSA.out.1 HSA.out.2
    rw [paV_def, paV_def] at c13
    go_wp2_with fail
    with_reducible refine c13.mono ?_
    clear c13 p0 p1 p2 p3
    rintro x13 w13 ⟨rfl, hb13⟩
    have hB13 := hB12.trans (hb13.mono hB12.size)
    obtain ⟨p0, p1⟩ := (bx12.next hb13).cells
    obtain ⟨p2, p3⟩ := (by12.next hb13).cells
    clear hB12 hP12 bx12 by12 bz12 hR12 hb13
    go_wp2_with fail
    go_ret
    exact ⟨by simp, hB13⟩
  · have hn := Pc.invert_err hf
    rw [hn] at hQ6 ⊢
    have bf : ((Pc.invert p d).2 == 0) = false := by simpa using hf
    have bfn : ((Pc.invert p d).2 != 0) = true := by simpa using hf
    clear hn hf
    generalize Pc.invert p d = q at *
    by_cases he : (Pc.apply p d).2 = 0
    · have be : ((Pc.apply p d).2 == 0) = true := by simpa using he
      have ben : ((Pc.apply p d).2 != 0) = false := by simpa using he
      clear he
      generalize Pc.apply p d = r at *
      have hbb := hB6.trans (((Below.refl w6.heap.size w6).alloc (Nat.le_refl _) (.cells #[.string (str []), .slice A6 0 d6] 24)).mono hB6.size)
      go_wp2_with fail
      go_ret
      exact ⟨rfl, hbb⟩
    · have be : ((Pc.apply p d).2 == 0) = false := by simpa using he
      have ben : ((Pc.apply p d).2 != 0) = true := by simpa using he
      clear he
      generalize Pc.apply p d = r at *
      have hbb := hB6.trans (((Below.refl w6.heap.size w6).alloc (Nat.le_refl _) (.cells #[.string (str []), .slice A6 0 d6] 24)).mono hB6.size)
      go_wp2_with fail
      go_ret
      exact ⟨rfl, hbb⟩
theorem back_law' (p : Pc.Pa) (A : Option Addr) (c : Nat) (s : ByteArray) (w : World) (hP : PaRaw w p A) (hI : IdAt w) :
    Calls Tryz.prog 7 #[paV p A c, .string s] w fun e w' => e = .returned (.bool true) ∧ Below w.heap.size w w' := by
  have h := back_law p A c s.data.toList w hP hI
  rwa [str_of] at h
end Go.Proofs.YtlfgnecfabdkmaaGreatDoor
