/- The law PatchShortest returns true. Condition: the variables that the program reads lie. -/
import Derived.Test.YtlfgnecfabdkmaaDoorLed
import Derived.Test.YtlfgnecfabdkmaaDoorSho
namespace Go.Proofs.YtlfgnecfabdkmaaDoor
open Go.RowKit Go.Deep Tr

set_option maxHeartbeats 16000000 in
set_option maxRecDepth 100000 in
theorem shortest_law (p : Pc.Pa) (A : Option Addr) (c : Nat) (d t0 : List UInt8) (w : World) (hP : PaRaw w p A) (hI : IdAt w) :
    Calls Tryd.prog 3 #[paV p A c, .string (str d), .string (str t0)] w fun e w' => e = .returned (.bool true) ∧ Below w.heap.size w w' := by
  rw [paV_def]
  have hB0 : Below w.heap.size w (w.alloc (.cells #[.string (str p.base), .slice A p.hs.length c] 24)) := (Below.refl _ _).alloc (Nat.le_refl _) _
  have bx0 : Bp (w.alloc (.cells #[.string (str p.base), .slice A p.hs.length c] 24)) w.heap.size p A c := heap_alloc_new w _
  have hP0 := hP.next hB0
  have hI0 := hI.below hB0
  go_enter Tryd.func3, Tryd.ntmps3
  go_wp2_with fail
  generalize w.alloc (.cells #[.string (str p.base), .slice A p.hs.length c] 24) = W at *
  clear hP hI
  have cc := awake_any W hI0
  with_reducible refine cc.mono ?_
  clear cc 
  rintro x w1 ⟨rfl, hb1⟩
  have hB1 := hB0.trans (hb1.mono hB0.size)
  have hP1 := hP0.next hb1
  have hI1 := hI0.below hb1
  have bx1 := bx0.next hb1
  clear hB0 hb1 hP0 hI0 bx0
  have cc := qFew_any p A c w1 hP1
  rw [paV_def] at cc
  obtain ⟨k0, k1⟩ := bx1.cells
  go_wp2_with fail
  with_reducible refine cc.mono ?_
  clear cc k0 k1
  rintro x w2 ⟨b, rfl, hsm, hb2⟩
  have hB2 := hB1.trans (hb2.mono hB1.size)
  have hP2 := hP1.next hb2
  have hI2 := hI1.below hb2
  have bx2 := bx1.next hb2
  clear hB1 hb2 hP1 hI1 bx1
  cases b with
  | false =>
    clear hsm
    go_wp2_with fail
    go_ret
    exact ⟨rfl, hB2⟩
  | true =>
  have HSp := Lib.hid (hsm rfl)
  clear hsm
  have hb3 : Below w2.heap.size w2 (w2.alloc (.cells #[.string (str d), .string (str t0)] 9)) := (Below.refl _ _).alloc (Nat.le_refl _) _
  have hz3 := heap_alloc_new w2 (.cells #[.string (str d), .string (str t0)] 9)
  have hB3 := hB2.trans (hb3.mono hB2.size)
  have hP3 := hP2.next hb3
  have hI3 := hI2.below hb3
  have bx3 := bx2.next hb3
  clear hB2 hb3 hP2 hI2 bx2
  have cc := few_any (some ⟨w2.heap.size, 0, none⟩) 2 [d, t0] (w2.alloc (.cells #[.string (str d), .string (str t0)] 9)) (fun i hi => by
    have hi0 : i = 0 ∨ i = 1 := by simp [strs] at hi; omega
    rcases hi0 with rfl | rfl
    · exact ⟨w2.heap.size, 0, rfl, by simp, by rw [cell_of_row _ _ _ _ _ _ hz3]; rfl⟩
    · exact ⟨w2.heap.size, 0, rfl, by simp, by rw [cell_of_row _ _ _ _ _ _ hz3]; rfl⟩) (by simp)
  rw [show [d, t0].length = 2 from rfl] at cc
  clear hz3
  go_wp2_with fail
  generalize w2.alloc (.cells #[.string (str d), .string (str t0)] 9) = w3 at *
  with_reducible refine cc.mono ?_
  clear cc
  rintro x w4 ⟨b, rfl, hfew, hb4⟩
  have hB4 := hB3.trans (hb4.mono hB3.size)
  have hP4 := hP3.next hb4
  have hI4 := hI3.below hb4
  have bx4 := bx3.next hb4
  clear hB3 hb4 hP3 hI3 bx3
  cases b with
  | false =>
    clear hfew
    go_wp2_with fail
    go_ret
    exact ⟨rfl, hB4⟩
  | true =>
  have hdl : d.length ≤ 500 := hfew rfl d (by simp)
  have htl : t0.length ≤ 500 := hfew rfl t0 (by simp)
  have hds := str_size d
  have hts := str_size t0
  have HOP := Lib.hid (fun w (h : PaRaw w p A) => h.ok HSp.out)
  clear hfew
  have cc := apply_any p A c (str d) w4 (HOP.out _ hP4) hI4 (by omega)
  rw [str_data, apV_def, paV_def] at cc
  obtain ⟨k0, k1⟩ := bx4.cells
  go_wp2_with fail
  with_reducible refine cc.mono ?_
  clear cc k0 k1
  rintro x w5 ⟨rfl, hb5⟩
  have hB5 := hB4.trans (hb5.mono hB4.size)
  have hP5 := hP4.next hb5
  have hI5 := hI4.below hb5
  have bx5 := bx4.next hb5
  clear hB4 hb5 hP4 hI4 bx4
  by_cases he : (Pc.apply p d).2 = 0
  · obtain ⟨s, hap⟩ : ∃ s, Pc.apply p d = (s, 0) := ⟨(Pc.apply p d).1, Prod.ext rfl he⟩
    clear he
    rw [hap]
    dsimp only
    have hss := str_size s
    by_cases hl : s.length ≤ 500
    · have HTL := Lib.hid hl
      have y1 : decide (((str s).size : Int) ≤ 500) = true := decide_eq_true (by omega)
      have y2 : decide ((str s).size ≤ 500) = true := decide_eq_true (by omega)
      have y1b : decide ((s.length : Int) ≤ 500) = true := decide_eq_true (by omega)
      have y2b : decide (s.length ≤ 500) = true := decide_eq_true hl
      obtain ⟨r, n, m1, m2, m3, m4, m5⟩ := Pc.make_best hdl (show s.length ≤ 500 from HTL.out)
      obtain ⟨_, _, L⟩ := Pc.led_of m2
      have HLR := Lib.hid (fun (w : World) (A : Option Addr) (h : HsAt w w.heap.size A r.hs) => led_ok L h)
      have HM5 := Lib.hid m5
      have hTs := str_size s
      have hTL := HTL.out
      have nt : ((str s).toList == (str s).toList) = true := by simp
      have nt2 : ((str s).toList != (str s).toList) = false := by simp
      obtain ⟨bb, z1, z2⟩ : ∃ bb, (n == 0) = bb ∧ ((str d).toList == (str s).toList) = bb := ⟨_, rfl, by
        rw [str_list, str_list]
        by_cases e : d = s
        · rw [m4.2 e, e]; simp
        · have : n ≠ 0 := fun h => e (m4.1 h)
          rw [beq_eq_false_iff_ne.2 e, beq_eq_false_iff_ne.2 this]⟩
      have z3 : (bb != bb) = false := by simp
      have z4 : decide (n = 0) = bb := by rw [← z1]; rfl
      clear L m4 m5
      have cc := make_any (str d) (str s) w5 hI5 (by omega) (by omega)
      rw [str_data, str_data, m1] at cc
      go_wp2_with fail
      with_reducible refine cc.mono ?_
      clear cc 
      rintro x w6 ⟨A7, d7, rfl, hR6, hb6⟩
      have hB6 := hB5.trans (hb6.mono hB5.size)
      have hP6 := hP5.next hb6
      have hI6 := hI5.below hb6
      have bx6 := bx5.next hb6
      clear hB5 hb6 hP5 hI5 bx5
      rw [paV_def]
      dsimp only at hR6 ⊢
      have hb7 : Below w6.heap.size w6 (w6.alloc (.cells #[.string (str r.base), .slice A7 r.hs.length d7] 24)) := (Below.refl _ _).alloc (Nat.le_refl _) _
      have bz7 : Bp (w6.alloc (.cells #[.string (str r.base), .slice A7 r.hs.length d7] 24)) w6.heap.size r A7 d7 := heap_alloc_new w6 _
      have hB7 := hB6.trans (hb7.mono hB6.size)
      have hP7 := hP6.next hb7
      have hI7 := hI6.below hb7
      have bx7 := bx6.next hb7
      have hR7 := hR6.next hb7
      clear hB6 hb7 hP6 hI6 bx6 hR6
      have cc := apply_any r A7 d7 (str d) (w6.alloc (.cells #[.string (str r.base), .slice A7 r.hs.length d7] 24)) (HLR.out _ _ hR7.at_) hI7 (by omega)
      rw [str_data, apV_def, paV_def, m2] at cc
      dsimp only at cc
      obtain ⟨k0, k1⟩ := bz7.cells
      go_wp2_with fail
      generalize w6.alloc (.cells #[.string (str r.base), .slice A7 r.hs.length d7] 24) = w7 at *
      generalize w6.heap.size = q7 at *
      with_reducible refine cc.mono ?_
      clear cc k0 k1
      rintro x w8 ⟨rfl, hb8⟩
      have hB8 := hB7.trans (hb8.mono hB7.size)
      have hP8 := hP7.next hb8
      have hI8 := hI7.below hb8
      have bx8 := bx7.next hb8
      have hR8 := hR7.next hb8
      have bz8 := bz7.next hb8
      clear hB7 hb8 hP7 hI7 bx7 hR7 bz7
      have cc := cost_any r A7 d7 w8 (HLR.out _ _ hR8.at_) hI8.tabs
      rw [paV_def, m3] at cc
      dsimp only at cc
      obtain ⟨k0, k1⟩ := bz8.cells
      go_wp2_with fail
      with_reducible refine cc.mono ?_
      clear cc k0 k1
      rintro x w9 ⟨rfl, hb9⟩
      have hB9 := hB8.trans (hb9.mono hB8.size)
      have hP9 := hP8.next hb9
      have hI9 := hI8.below hb9
      have bx9 := bx8.next hb9
      have hR9 := hR8.next hb9
      have bz9 := bz8.next hb9
      clear hB8 hb9 hP8 hI8 bx8 hR8 bz8
      obtain ⟨mc, hmc, hle⟩ := HM5.out p hap
      have z5 : decide (n ≤ mc) = true := decide_eq_true hle
      have cc := apply_any p A c (str d) w9 (HOP.out _ hP9) hI9 (by omega)
      rw [str_data, apV_def, paV_def, hap] at cc
      dsimp only at cc
      obtain ⟨k0, k1⟩ := bx9.cells
      go_wp2_with fail
      with_reducible refine cc.mono ?_
      clear cc k0 k1
      rintro x w10 ⟨rfl, hb10⟩
      have hB10 := hB9.trans (hb10.mono hB9.size)
      have hP10 := hP9.next hb10
      have hI10 := hI9.below hb10
      have bx10 := bx9.next hb10
      have hR10 := hR9.next hb10
      have bz10 := bz9.next hb10
      clear hB9 hb10 hP9 hI9 bx9 hR9 bz9
      have cc := cost_any p A c w10 (HOP.out _ hP10) hI10.tabs
      rw [paV_def, hmc] at cc
      dsimp only at cc
      obtain ⟨k0, k1⟩ := bx10.cells
      go_wp2_with fail
      with_reducible refine cc.mono ?_
      clear cc k0 k1
      rintro x w11 ⟨rfl, hb11⟩
      have hB11 := hB10.trans (hb11.mono hB10.size)
      have hP11 := hP10.next hb11
      have hI11 := hI10.below hb11
      have bx11 := bx10.next hb11
      have hR11 := hR10.next hb11
      have bz11 := bz10.next hb11
      clear hB10 hb11 hP10 hI10 bx10 hR10 bz10
      go_wp2_with fail
      go_ret
      exact ⟨by simp, hB11⟩
    · have HTL := Lib.hid htl
      have y1 : decide (((str s).size : Int) ≤ 500) = false := decide_eq_false (by omega)
      have y2 : decide ((str s).size ≤ 500) = false := decide_eq_false (by omega)
      have y1b : decide ((s.length : Int) ≤ 500) = false := decide_eq_false (by omega)
      have y2b : decide (s.length ≤ 500) = false := decide_eq_false hl
      have y3 : ((str s).toList == (str t0).toList) = false := by
        rw [str_list, str_list, beq_eq_false_iff_ne]
        intro e; rw [e] at hl; omega
      obtain ⟨r, n, m1, m2, m3, m4, m5⟩ := Pc.make_best hdl (show t0.length ≤ 500 from HTL.out)
      obtain ⟨_, _, L⟩ := Pc.led_of m2
      have HLR := Lib.hid (fun (w : World) (A : Option Addr) (h : HsAt w w.heap.size A r.hs) => led_ok L h)
      have HM5 := Lib.hid m5
      have hTs := str_size t0
      have hTL := HTL.out
      have nt : ((str t0).toList == (str t0).toList) = true := by simp
      have nt2 : ((str t0).toList != (str t0).toList) = false := by simp
      obtain ⟨bb, z1, z2⟩ : ∃ bb, (n == 0) = bb ∧ ((str d).toList == (str t0).toList) = bb := ⟨_, rfl, by
        rw [str_list, str_list]
        by_cases e : d = t0
        · rw [m4.2 e, e]; simp
        · have : n ≠ 0 := fun h => e (m4.1 h)
          rw [beq_eq_false_iff_ne.2 e, beq_eq_false_iff_ne.2 this]⟩
      have z3 : (bb != bb) = false := by simp
      have z4 : decide (n = 0) = bb := by rw [← z1]; rfl
      clear L m4 m5
      have cc := make_any (str d) (str t0) w5 hI5 (by omega) (by omega)
      rw [str_data, str_data, m1] at cc
      go_wp2_with fail
      with_reducible refine cc.mono ?_
      clear cc 
      rintro x w6 ⟨A7, d7, rfl, hR6, hb6⟩
      have hB6 := hB5.trans (hb6.mono hB5.size)
      have hP6 := hP5.next hb6
      have hI6 := hI5.below hb6
      have bx6 := bx5.next hb6
      clear hB5 hb6 hP5 hI5 bx5
      rw [paV_def]
      dsimp only at hR6 ⊢
      have hb7 : Below w6.heap.size w6 (w6.alloc (.cells #[.string (str r.base), .slice A7 r.hs.length d7] 24)) := (Below.refl _ _).alloc (Nat.le_refl _) _
      have bz7 : Bp (w6.alloc (.cells #[.string (str r.base), .slice A7 r.hs.length d7] 24)) w6.heap.size r A7 d7 := heap_alloc_new w6 _
      have hB7 := hB6.trans (hb7.mono hB6.size)
      have hP7 := hP6.next hb7
      have hI7 := hI6.below hb7
      have bx7 := bx6.next hb7
      have hR7 := hR6.next hb7
      clear hB6 hb7 hP6 hI6 bx6 hR6
      have cc := apply_any r A7 d7 (str d) (w6.alloc (.cells #[.string (str r.base), .slice A7 r.hs.length d7] 24)) (HLR.out _ _ hR7.at_) hI7 (by omega)
      rw [str_data, apV_def, paV_def, m2] at cc
      dsimp only at cc
      obtain ⟨k0, k1⟩ := bz7.cells
      go_wp2_with fail
      generalize w6.alloc (.cells #[.string (str r.base), .slice A7 r.hs.length d7] 24) = w7 at *
      generalize w6.heap.size = q7 at *
      with_reducible refine cc.mono ?_
      clear cc k0 k1
      rintro x w8 ⟨rfl, hb8⟩
      have hB8 := hB7.trans (hb8.mono hB7.size)
      have hP8 := hP7.next hb8
      have hI8 := hI7.below hb8
      have bx8 := bx7.next hb8
      have hR8 := hR7.next hb8
      have bz8 := bz7.next hb8
      clear hB7 hb8 hP7 hI7 bx7 hR7 bz7
      have cc := cost_any r A7 d7 w8 (HLR.out _ _ hR8.at_) hI8.tabs
      rw [paV_def, m3] at cc
      dsimp only at cc
      obtain ⟨k0, k1⟩ := bz8.cells
      go_wp2_with fail
      with_reducible refine cc.mono ?_
      clear cc k0 k1
      rintro x w9 ⟨rfl, hb9⟩
      have hB9 := hB8.trans (hb9.mono hB8.size)
      have hP9 := hP8.next hb9
      have hI9 := hI8.below hb9
      have bx9 := bx8.next hb9
      have hR9 := hR8.next hb9
      have bz9 := bz8.next hb9
      clear hB8 hb9 hP8 hI8 bx8 hR8 bz8
      have cc := apply_any p A c (str d) w9 (HOP.out _ hP9) hI9 (by omega)
      rw [str_data, apV_def, paV_def, hap] at cc
      dsimp only at cc
      obtain ⟨k0, k1⟩ := bx9.cells
      go_wp2_with fail
      with_reducible refine cc.mono ?_
      clear cc k0 k1
      rintro x w10 ⟨rfl, hb10⟩
      have hB10 := hB9.trans (hb10.mono hB9.size)
      have hP10 := hP9.next hb10
      have hI10 := hI9.below hb10
      have bx10 := bx9.next hb10
      have hR10 := hR9.next hb10
      have bz10 := bz9.next hb10
      clear hB9 hb10 hP9 hI9 bx9 hR9 bz9
      go_wp2_with fail
      go_ret
      exact ⟨by simp, hB10⟩
  · have HTL := Lib.hid htl
    have y1 : ((Pc.apply p d).2 == 0) = false := by simpa using he
    have y1n : ((Pc.apply p d).2 != 0) = true := by simpa using he
    clear he
    generalize hap : Pc.apply p d = ap at *
    have HAP := Lib.hid hap
    clear hap
    obtain ⟨r, n, m1, m2, m3, m4, m5⟩ := Pc.make_best hdl (show t0.length ≤ 500 from HTL.out)
    obtain ⟨_, _, L⟩ := Pc.led_of m2
    have HLR := Lib.hid (fun (w : World) (A : Option Addr) (h : HsAt w w.heap.size A r.hs) => led_ok L h)
    have HM5 := Lib.hid m5
    have hTs := str_size t0
    have hTL := HTL.out
    have nt : ((str t0).toList == (str t0).toList) = true := by simp
    have nt2 : ((str t0).toList != (str t0).toList) = false := by simp
    obtain ⟨bb, z1, z2⟩ : ∃ bb, (n == 0) = bb ∧ ((str d).toList == (str t0).toList) = bb := ⟨_, rfl, by
      rw [str_list, str_list]
      by_cases e : d = t0
      · rw [m4.2 e, e]; simp
      · have : n ≠ 0 := fun h => e (m4.1 h)
        rw [beq_eq_false_iff_ne.2 e, beq_eq_false_iff_ne.2 this]⟩
    have z3 : (bb != bb) = false := by simp
    have z4 : decide (n = 0) = bb := by rw [← z1]; rfl
    clear L m4 m5
    have cc := make_any (str d) (str t0) w5 hI5 (by omega) (by omega)
    rw [str_data, str_data, m1] at cc
    go_wp2_with fail
    with_reducible refine cc.mono ?_
    clear cc 
    rintro x w6 ⟨A7, d7, rfl, hR6, hb6⟩
    have hB6 := hB5.trans (hb6.mono hB5.size)
    have hP6 := hP5.next hb6
    have hI6 := hI5.below hb6
    have bx6 := bx5.next hb6
    clear hB5 hb6 hP5 hI5 bx5
    rw [paV_def]
    dsimp only at hR6 ⊢
    have hb7 : Below w6.heap.size w6 (w6.alloc (.cells #[.string (str r.base), .slice A7 r.hs.length d7] 24)) := (Below.refl _ _).alloc (Nat.le_refl _) _
    have bz7 : Bp (w6.alloc (.cells #[.string (str r.base), .slice A7 r.hs.length d7] 24)) w6.heap.size r A7 d7 := heap_alloc_new w6 _
    have hB7 := hB6.trans (hb7.mono hB6.size)
    have hP7 := hP6.next hb7
    have hI7 := hI6.below hb7
    have bx7 := bx6.next hb7
    have hR7 := hR6.next hb7
    clear hB6 hb7 hP6 hI6 bx6 hR6
    have cc := apply_any r A7 d7 (str d) (w6.alloc (.cells #[.string (str r.base), .slice A7 r.hs.length d7] 24)) (HLR.out _ _ hR7.at_) hI7 (by omega)
    rw [str_data, apV_def, paV_def, m2] at cc
    dsimp only at cc
    obtain ⟨k0, k1⟩ := bz7.cells
    go_wp2_with fail
    generalize w6.alloc (.cells #[.string (str r.base), .slice A7 r.hs.length d7] 24) = w7 at *
    generalize w6.heap.size = q7 at *
    with_reducible refine cc.mono ?_
    clear cc k0 k1
    rintro x w8 ⟨rfl, hb8⟩
    have hB8 := hB7.trans (hb8.mono hB7.size)
    have hP8 := hP7.next hb8
    have hI8 := hI7.below hb8
    have bx8 := bx7.next hb8
    have hR8 := hR7.next hb8
    have bz8 := bz7.next hb8
    clear hB7 hb8 hP7 hI7 bx7 hR7 bz7
    have cc := cost_any r A7 d7 w8 (HLR.out _ _ hR8.at_) hI8.tabs
    rw [paV_def, m3] at cc
    dsimp only at cc
    obtain ⟨k0, k1⟩ := bz8.cells
    go_wp2_with fail
    with_reducible refine cc.mono ?_
    clear cc k0 k1
    rintro x w9 ⟨rfl, hb9⟩
    have hB9 := hB8.trans (hb9.mono hB8.size)
    have hP9 := hP8.next hb9
    have hI9 := hI8.below hb9
    have bx9 := bx8.next hb9
    have hR9 := hR8.next hb9
    have bz9 := bz8.next hb9
    clear hB8 hb9 hP8 hI8 bx8 hR8 bz8
    have cc := apply_any p A c (str d) w9 (HOP.out _ hP9) hI9 (by omega)
    rw [str_data, apV_def, paV_def, HAP.out] at cc
    obtain ⟨k0, k1⟩ := bx9.cells
    go_wp2_with fail
    with_reducible refine cc.mono ?_
    clear cc k0 k1
    rintro x w10 ⟨rfl, hb10⟩
    have hB10 := hB9.trans (hb10.mono hB9.size)
    have hP10 := hP9.next hb10
    have hI10 := hI9.below hb10
    have bx10 := bx9.next hb10
    have hR10 := hR9.next hb10
    have bz10 := bz9.next hb10
    clear hB9 hb10 hP9 hI9 bx9 hR9 bz9
    go_wp2_with fail
    go_ret
    exact ⟨by simp, hB10⟩
theorem shortest_law' (p : Pc.Pa) (A : Option Addr) (c : Nat) (s t : ByteArray) (w : World) (hP : PaRaw w p A) (hI : IdAt w) :
    Calls Tryd.prog 3 #[paV p A c, .string s, .string t] w fun e w' => e = .returned (.bool true) ∧ Below w.heap.size w w' := by
  have h := shortest_law p A c s.data.toList t.data.toList w hP hI
  rwa [str_of, str_of] at h
end Go.Proofs.YtlfgnecfabdkmaaDoor
