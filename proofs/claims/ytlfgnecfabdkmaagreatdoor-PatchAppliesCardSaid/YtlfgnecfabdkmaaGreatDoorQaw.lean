/- The law PatchApplies returns true. Condition: the variables that the program reads lie. -/
import Derived.Test.YtlfgnecfabdkmaaGreatDoorQin
import Derived.Test.YtlfgnecfabdkmaaGreatDoorQgd
import Derived.Test.YtlfgnecfabdkmaaGreatDoorSam
namespace Go.Proofs.YtlfgnecfabdkmaaGreatDoor
open Go.RowKit Go.Deep Tr

theorem Pc.places_len2 : ∀ (hs : List Pc.Hk) (o l : Nat), (Pc.places hs o l).length ≤ Pc.puts hs
  | [], _, _ => by simp [Pc.places]
  | h :: t, o, l => by
    simp only [Pc.places, Pc.puts]
    split
    · rename_i e
      have := Pc.places_len2 t (o + h.n.toNat) (l + 1)
      rw [List.length_append, Pc.keeps_len, if_pos (Or.inl e)]
      omega
    · rename_i e1
      split
      · have := Pc.places_len2 t (o + h.n.toNat) (l + 1)
        omega
      · split
        · rename_i e
          have := Pc.places_len2 t o (l + 1 + h.n.toNat)
          rw [List.length_append, Pc.adds_len, if_pos (Or.inr e)]
          omega
        · have := Pc.places_len2 t o (l + 1)
          omega
theorem trace_fine (p : Pc.Pa) (n : Int) : (Pc.trace p n).1.length ≤ 1000000 := by
  rw [trace_def]
  split
  · simp
  · split
    · simp
    · rename_i h1 _
      have hv : Pc.valid p = true := by simpa using h1
      obtain ⟨v1, v2, _, _, _, _⟩ := valid_all hv
      have h2 := Pc.places_len2 p.hs 0 (if p.base = [] then 0 else 1)
      have h3 := (Pc.eats_cnt p.hs v2).2
      have h4 := (valid_all hv).2.2.2.2.1
      show (Pc.placesOf p).length ≤ _
      unfold Pc.placesOf
      omega
set_option maxHeartbeats 16000000 in
set_option maxRecDepth 100000 in
theorem applies_law (p : Pc.Pa) (A : Option Addr) (c : Nat) (d : List UInt8) (n : Int) (w : World) (hP : PaRaw w p A) (hI : IdAt w) :
    Calls Tryz.prog 4 #[paV p A c, .string (str d), .int .i64 n] w fun e w' => e = .returned (.bool true) ∧ Below w.heap.size w w' := by
  rw [paV_def]
  have hB0 : Below w.heap.size w (w.alloc (.cells #[.string (str p.base), .slice A p.hs.length c] 24)) := (Below.refl _ _).alloc (Nat.le_refl _) _
  have bx0 : Bp (w.alloc (.cells #[.string (str p.base), .slice A p.hs.length c] 24)) w.heap.size p A c := heap_alloc_new w _
  have hP0 := hP.next hB0
  have hI0 := hI.below hB0
  go_enter Tryz.func4, Tryz.ntmps4
  go_wp2_with fail
  generalize w.alloc (.cells #[.string (str p.base), .slice A p.hs.length c] 24) = W at *
  clear hP hI
  have cc := awake_any W hI0
  with_reducible refine cc.mono ?_
  clear cc 
  rintro x w1 ⟨rfl, hb1⟩
  have hB1 := hB0.trans (hb1.mono hB0.size)
  have hP1 := hP0.next hb1
  have hI1 := hI0.below hb1
  have bx1 := bx0.next hb1
  clear hB0 hb1 hP0 hI0 bx0
  have cc := qFew_any p A c w1 hP1
  rw [paV_def] at cc
  obtain ⟨k0, k1⟩ := bx1.cells
  go_wp2_with fail
  with_reducible refine cc.mono ?_
  clear cc k0 k1
  rintro x w2 ⟨b, rfl, hsm, hb2⟩
  have hB2 := hB1.trans (hb2.mono hB1.size)
  have hP2 := hP1.next hb2
  have hI2 := hI1.below hb2
  have bx2 := bx1.next hb2
  clear hB1 hb2 hP1 hI1 bx1
  cases b with
  | false =>
    clear hsm
    go_wp2_with fail
    go_ret
    exact ⟨rfl, hB2⟩
  | true =>
  have HSp := Lib.hid (hsm rfl)
  clear hsm
  have hb3 : Below w2.heap.size w2 (w2.alloc (.cells #[.string (str d)] 9)) := (Below.refl _ _).alloc (Nat.le_refl _) _
  have hz3 := heap_alloc_new w2 (.cells #[.string (str d)] 9)
  have hB3 := hB2.trans (hb3.mono hB2.size)
  have hP3 := hP2.next hb3
  have hI3 := hI2.below hb3
  have bx3 := bx2.next hb3
  clear hB2 hb3 hP2 hI2 bx2
  have cc := few_any (some ⟨w2.heap.size, 0, none⟩) 1 [d] (w2.alloc (.cells #[.string (str d)] 9)) (fun i hi => by
    have hi0 : i = 0 := by simp [strs] at hi; omega
    subst hi0
    exact ⟨w2.heap.size, 0, rfl, by simp, by rw [cell_of_row _ _ _ _ _ _ hz3]; rfl⟩) (by simp)
  rw [show [d].length = 1 from rfl] at cc
  clear hz3
  go_wp2_with fail
  generalize w2.alloc (.cells #[.string (str d)] 9) = w3 at *
  with_reducible refine cc.mono ?_
  clear cc
  rintro x w4 ⟨b, rfl, hfew, hb4⟩
  have hB4 := hB3.trans (hb4.mono hB3.size)
  have hP4 := hP3.next hb4
  have hI4 := hI3.below hb4
  have bx4 := bx3.next hb4
  clear hB3 hb4 hP3 hI3 bx3
  cases b with
  | false =>
    clear hfew
    go_wp2_with fail
    go_ret
    exact ⟨rfl, hB4⟩
  | true =>
  have hdl : d.length ≤ 500 := hfew rfl d (by simp)
  have hds := str_size d
  clear hfew
  have HOP := Lib.hid (fun w (h : PaRaw w p A) => h.ok HSp.out)
  have HFI := Lib.hid (fine_invert p d)
  have HTF := Lib.hid (trace_fine p n)
  obtain ⟨z, hz⟩ : ∃ z, Pc.invert p d = z := ⟨_, rfl⟩
  rw [hz] at HFI
  have HZ := Lib.hid hz
  clear hz
  obtain ⟨ap, hap⟩ : ∃ ap, Pc.apply p d = ap := ⟨_, rfl⟩
  have HAP := Lib.hid hap
  clear hap
  obtain ⟨tr, htr⟩ : ∃ tr, Pc.trace p n = tr := ⟨_, rfl⟩
  rw [htr] at HTF
  have HTR := Lib.hid htr
  clear htr
  have cc := apply_any p A c (str d) w4 (HOP.out _ hP4) hI4 (by omega)
  rw [str_data, apV_def, paV_def, HAP.out] at cc
  obtain ⟨k0, k1⟩ := bx4.cells
  go_wp2_with fail
  with_reducible refine cc.mono ?_
  clear cc k0 k1
  rintro x w5 ⟨rfl, hb5⟩
  have hB5 := hB4.trans (hb5.mono hB4.size)
  have hP5 := hP4.next hb5
  have hI5 := hI4.below hb5
  have bx5 := bx4.next hb5
  clear hB4 hb5 hP4 hI4 bx4
  have cc := qApply_any p A c (str d) w5 (HOP.out _ hP5) (by omega)
  rw [str_data, apV_def, paV_def, HAP.out] at cc
  obtain ⟨k0, k1⟩ := bx5.cells
  go_wp2_with fail
  with_reducible refine cc.mono ?_
  clear cc k0 k1
  rintro x w6 ⟨rfl, hb6⟩
  have hB6 := hB5.trans (hb6.mono hB5.size)
  have hP6 := hP5.next hb6
  have hI6 := hI5.below hb6
  have bx6 := bx5.next hb6
  clear hB5 hb6 hP5 hI5 bx5
  have cc := trace_any p A c n w6 (HOP.out _ hP6) hI6.tabs
  rw [paV_def, HTR.out] at cc
  obtain ⟨k0, k1⟩ := bx6.cells
  go_wp2_with fail
  with_reducible refine cc.mono ?_
  clear cc k0 k1
  rintro x w7 ⟨vt, rfl, hot7, hb7⟩
  have hB7 := hB6.trans (hb7.mono hB6.size)
  have hP7 := hP6.next hb7
  have hI7 := hI6.below hb7
  have bx7 := bx6.next hb7
  clear hB6 hb7 hP6 hI6 bx6
  obtain ⟨AT, cT, rfl, hT7⟩ := owns_pls hot7
  clear hot7
  have cc := qTrace_any p A c n w7 (HOP.out _ hP7)
  rw [paV_def, HTR.out] at cc
  obtain ⟨k0, k1⟩ := bx7.cells
  go_wp2_with fail
  with_reducible refine cc.mono ?_
  clear cc k0 k1
  rintro x w8 ⟨vu, rfl, hou8, hb8⟩
  have hB8 := hB7.trans (hb8.mono hB7.size)
  have hP8 := hP7.next hb8
  have hI8 := hI7.below hb8
  have bx8 := bx7.next hb8
  have hT8 := hT7.next hb8
  clear hB7 hb8 hP7 hI7 bx7 hT7
  obtain ⟨AU, cU, rfl, hU8⟩ := owns_pls hou8
  clear hou8
  have cc := invert_any p A c (str d) w8 (HOP.out _ hP8) hI8 (by omega)
  rw [str_data, paV_def, HZ.out] at cc
  obtain ⟨k0, k1⟩ := bx8.cells
  go_wp2_with fail
  with_reducible refine cc.mono ?_
  clear cc k0 k1
  rintro x w9 ⟨A7, d7, rfl, hR9, hb9⟩
  have hB9 := hB8.trans (hb9.mono hB8.size)
  have hP9 := hP8.next hb9
  have hI9 := hI8.below hb9
  have bx9 := bx8.next hb9
  have hT9 := hT8.next hb9
  have hU9 := hU8.next hb9
  clear hB8 hb9 hP8 hI8 bx8 hT8 hU8
  rw [paV_def]
  have hb10 : Below w9.heap.size w9 (w9.alloc (.cells #[.string (str z.1.base), .slice A7 z.1.hs.length d7] 24)) := (Below.refl _ _).alloc (Nat.le_refl _) _
  have bz10 : Bp (w9.alloc (.cells #[.string (str z.1.base), .slice A7 z.1.hs.length d7] 24)) w9.heap.size z.1 A7 d7 := heap_alloc_new w9 _
  have hB10 := hB9.trans (hb10.mono hB9.size)
  have hP10 := hP9.next hb10
  have hI10 := hI9.below hb10
  have bx10 := bx9.next hb10
  have hT10 := hT9.next hb10
  have hU10 := hU9.next hb10
  have hR10 := hR9.next hb10
  clear hB9 hb10 hP9 hI9 bx9 hT9 hU9 hR9
  have cc := qInvert_any p A c (str d) (w9.alloc (.cells #[.string (str z.1.base), .slice A7 z.1.hs.length d7] 24)) (HOP.out _ hP10) (by omega)
  rw [str_data, paV_def, HZ.out] at cc
  obtain ⟨k0, k1⟩ := bx10.cells
  go_wp2_with fail
  generalize w9.alloc (.cells #[.string (str z.1.base), .slice A7 z.1.hs.length d7] 24) = w10 at *
  generalize w9.heap.size = q10 at *
  with_reducible refine cc.mono ?_
  clear cc k0 k1
  rintro x w11 ⟨A8, d8, rfl, hS11, hb11⟩
  have hB11 := hB10.trans (hb11.mono hB10.size)
  have hP11 := hP10.next hb11
  have hI11 := hI10.below hb11
  have bx11 := bx10.next hb11
  have hT11 := hT10.next hb11
  have hU11 := hU10.next hb11
  have hR11 := hR10.next hb11
  have bz11 := bz10.next hb11
  clear hB10 hb11 hP10 hI10 bx10 hT10 hU10 hR10 bz10
  rw [paV_def]
  have hb12 : Below w11.heap.size w11 (w11.alloc (.cells #[.string (str z.1.base), .slice A8 z.1.hs.length d8] 24)) := (Below.refl _ _).alloc (Nat.le_refl _) _
  have bs12 : Bp (w11.alloc (.cells #[.string (str z.1.base), .slice A8 z.1.hs.length d8] 24)) w11.heap.size z.1 A8 d8 := heap_alloc_new w11 _
  have hB12 := hB11.trans (hb12.mono hB11.size)
  have hP12 := hP11.next hb12
  have hI12 := hI11.below hb12
  have bx12 := bx11.next hb12
  have hT12 := hT11.next hb12
  have hU12 := hU11.next hb12
  have hR12 := hR11.next hb12
  have bz12 := bz11.next hb12
  have hS12 := hS11.next hb12
  clear hB11 hb12 hP11 hI11 bx11 hT11 hU11 hR11 bz11 hS11
  have cc := eqp_true AT AU cT cU tr.1 (w11.alloc (.cells #[.string (str z.1.base), .slice A8 z.1.hs.length d8] 24)) hT12 hU12 (by have := HTF.out; omega)
  have n1 : ((str ap.1).toList == (str ap.1).toList) = true := by simp
  have n2 : (ap.2 == ap.2) = true := by simp
  have n3 : (tr.2 == tr.2) = true := by simp
  have n4 : (z.2 == z.2) = true := by simp
  go_wp2_with fail
  generalize w11.alloc (.cells #[.string (str z.1.base), .slice A8 z.1.hs.length d8] 24) = w12 at *
  generalize w11.heap.size = q12 at *
  with_reducible refine cc.mono ?_
  clear cc 
  rintro x w13 ⟨rfl, hb13⟩
  have hB13 := hB12.trans (hb13.mono hB12.size)
  have hP13 := hP12.next hb13
  have hI13 := hI12.below hb13
  have bx13 := bx12.next hb13
  have hT13 := hT12.next hb13
  have hU13 := hU12.next hb13
  have hR13 := hR12.next hb13
  have bz13 := bz12.next hb13
  have hS13 := hS12.next hb13
  have bs13 := bs12.next hb13
  clear hB12 hb13 hP12 hI12 bx12 hT12 hU12 hR12 bz12 hS12 bs12
  have cc := qSame_true z.1 A7 A8 d7 d8 w13 hR13.at_ hS13.at_ HFI.out.1 HFI.out.2
  rw [paV_def, paV_def] at cc
  obtain ⟨k0, k1⟩ := bz13.cells
  obtain ⟨k2, k3⟩ := bs13.cells
  go_wp2_with fail
  with_reducible refine cc.mono ?_
  clear cc k0 k1 k2 k3
  rintro x w14 ⟨rfl, hb14⟩
  have hB14 := hB13.trans (hb14.mono hB13.size)
  have hP14 := hP13.next hb14
  have hI14 := hI13.below hb14
  have bx14 := bx13.next hb14
  have hT14 := hT13.next hb14
  have hU14 := hU13.next hb14
  have hR14 := hR13.next hb14
  have bz14 := bz13.next hb14
  have hS14 := hS13.next hb14
  have bs14 := bs13.next hb14
  clear hB13 hb14 hP13 hI13 bx13 hT13 hU13 hR13 bz13 hS13 bs13
  go_wp2_with fail
  go_ret
  exact ⟨by simp, hB14⟩
theorem applies_law' (p : Pc.Pa) (A : Option Addr) (c : Nat) (s : ByteArray) (n : Int) (w : World) (hP : PaRaw w p A) (hI : IdAt w) :
    Calls Tryz.prog 4 #[paV p A c, .string s, .int .i64 n] w fun e w' => e = .returned (.bool true) ∧ Below w.heap.size w w' := by
  have h := applies_law p A c s.data.toList n w hP hI
  rwa [str_of] at h
end Go.Proofs.YtlfgnecfabdkmaaGreatDoor
