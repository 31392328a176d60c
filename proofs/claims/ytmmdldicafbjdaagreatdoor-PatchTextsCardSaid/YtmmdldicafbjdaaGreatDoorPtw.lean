/- The law PatchTexts returns true. Condition: the variables that the program reads lie. -/
import Derived.Test.YtmmdldicafbjdaaGreatDoorPm3
import Derived.Test.YtmmdldicafbjdaaGreatDoorQpp
import Derived.Test.YtmmdldicafbjdaaGreatDoorPm6
namespace Go.Proofs.YtmmdldicafbjdaaGreatDoor
open Go.RowKit Go.Deep Tr

theorem joined_len : ∀ (l : List (List UInt8)) (x : List UInt8), x ∈ l → x.length ≤ (Tre.joined l).length
  | [], x, h => by simp at h
  | [a], x, h => by rw [List.mem_singleton.1 h]; exact Nat.le_refl _
  | a :: b :: l, x, h => by
    rw [show Tre.joined (a :: b :: l) = a ++ 10 :: Tre.joined (b :: l) from rfl, List.length_append, List.length_cons]
    rcases List.mem_cons.1 h with rfl | h
    · omega
    · have := joined_len (b :: l) x h; omega
theorem mem_bodyL : ∀ (hs : List Pc.Hk) (h : Pc.Hk) (l : List UInt8), h ∈ hs → l ∈ h.ls → l ∈ Pc.bodyL hs
  | [], h, l, hh, _ => by simp at hh
  | a :: t, h, l, hh, hl => by
    rw [show Pc.bodyL (a :: t) = Pc.headL a :: (a.ls ++ Pc.bodyL t) from by simp [Pc.bodyL]]
    refine List.mem_cons_of_mem _ (List.mem_append.2 ?_)
    rcases List.mem_cons.1 hh with rfl | hh
    · exact .inl hl
    · exact .inr (mem_bodyL t h l hh hl)
theorem fine_fin (b : List UInt8) (o : Option (List Pc.Hk)) : Fine (Pc.fin b o).1 := by
  unfold Pc.fin
  split
  · exact fine_nil
  · rename_i hs
    split
    · rename_i h
      obtain ⟨v1, v2, _⟩ := valid_all h
      refine ⟨by have := v1; dsimp only at *; omega, fun x hx => ?_⟩
      have := Pc.isHunk_num (v2 x hx)
      omega
    · exact fine_nil
theorem fine_parse (t : List UInt8) : Fine (Pc.parse t).1 := by
  unfold Pc.parse
  split
  · exact fine_nil
  · unfold Pc.parseL
    split
    · exact fine_nil
    · split
      · split
        · exact fine_nil
        · exact fine_fin _ _
      · exact fine_fin _ _
theorem print_valid {p : Pc.Pa} {t : List UInt8} (h : Pc.print p = (t, 0)) : Pc.valid p = true ∧ Tre.joined (Pc.printL p) = t := by
  rw [print_def] at h
  split at h
  · rename_i hv; exact ⟨hv, (Prod.mk.inj h).1⟩
  · cases (Prod.mk.inj h).2
theorem parse_small {t : List UInt8} {p : Pc.Pa} (h : Pc.parse t = (p, 0)) : Pc.print p = (t, 0) ∧ p.hs.length ≤ 1000000000 ∧ p.base.length ≤ 1000000000 ∧ ∀ h ∈ p.hs, ∀ l ∈ h.ls, l.length ≤ t.length := by
  have hp := Pc.print_parse h
  obtain ⟨hv, hj⟩ := print_valid hp
  obtain ⟨v1, v2, _⟩ := valid_all hv
  have hb := (Pc.valid_parts hv).2.1
  refine ⟨hp, by omega, ?_, fun x hx l hl => ?_⟩
  · unfold Pc.baseOk at hb
    by_cases h0 : p.base = []
    · rw [h0]; simp
    · simp [h0] at hb; omega
  · rw [← hj]
    refine joined_len _ l ?_
    unfold Pc.printL
    exact List.mem_append_right _ (mem_bodyL _ x l hx hl)
theorem print_back {p : Pc.Pa} {t : List UInt8} (h : Pc.print p = (t, 0)) : Pc.parse t = (p, 0) ∧ t.length ≤ 65536 := by
  obtain ⟨hv, hj⟩ := print_valid h
  have h1 := Pc.parse_print hv
  obtain ⟨_, _, h3⟩ := Pc.valid_parts hv
  have h4 := (Pc.join_ok h3).2.2.2.2
  rw [hj] at h1 h4
  exact ⟨h1, h4⟩
/-- What Parse leaves. -/
def GotQ (w : World) (p : Pc.Pa) (k : Int) : Ending → World → Prop := fun e w' => ∃ A c, e = .returned (.tuple #[.agg #[.string (str p.base), .slice A p.hs.length c], .int .i64 k]) ∧ HsT w' A p.hs ∧ Below w.heap.size w w'
theorem parse_got {t : List UInt8} {p : Pc.Pa} {k : Int} (h : Pc.parse t = (p, k)) (w : World) (hI : IdAt w) (hE : ErrAt w) (ht : t.length ≤ 1000000000) : Calls Tryz.prog 10 #[.string (str t)] w (GotQ w p k) := by
  have h1 := parseG_any (str t) w hI hE (by rw [str_size]; exact ht)
  rw [str_data, Pc.parseQ_eq, h] at h1
  refine h1.mono ?_
  rintro e w' ⟨A, c, h1, h2, h3⟩
  exact ⟨A, c, by rw [h1, paV_def], h2, h3⟩
theorem qparse_got {t : List UInt8} {p : Pc.Pa} {k : Int} (h : Pc.parse t = (p, k)) (w : World) (ht : t.length ≤ 1000000000) : Calls Tryz.prog 11 #[.string (str t)] w (GotQ w p k) := by
  have h1 := qparseG_any (str t) w (by rw [str_size]; exact ht)
  rw [str_data, h] at h1
  refine h1.mono ?_
  rintro e w' ⟨A, c, h1, h2, h3⟩
  exact ⟨A, c, by rw [h1, paV_def], h2, h3⟩
theorem print_got {p : Pc.Pa} {t : List UInt8} {k : Int} (h : Pc.print p = (t, k)) (A : Option Addr) (c : Nat) (w : World) (hP : PaOk w p A) (hT : Cd.Tabs w) :
    Calls Tryz.prog 6 #[.agg #[.string (str p.base), .slice A p.hs.length c]] w fun e w' => e = .returned (.tuple #[.string (str t), .int .i64 k]) ∧ Below w.heap.size w w' := by
  have h1 := print_any p A c w hP hT
  rw [h, paV_def] at h1
  exact h1
theorem qprint_got {p : Pc.Pa} {t : List UInt8} {k : Int} (h : Pc.print p = (t, k)) (A : Option Addr) (c : Nat) (w : World) (hP : PaOk w p A) :
    Calls Tryz.prog 7 #[.agg #[.string (str p.base), .slice A p.hs.length c]] w fun e w' => e = .returned (.tuple #[.string (str t), .int .i64 k]) ∧ Below w.heap.size w w' := by
  have h1 := qPrint_any p A c w hP
  rw [h, paV_def] at h1
  exact h1
theorem cost_got {p : Pc.Pa} {n k : Int} (h : Pc.cost p = (n, k)) (A : Option Addr) (c : Nat) (w : World) (hP : PaOk w p A) (hT : Cd.Tabs w) :
    Calls Tryz.prog 8 #[.agg #[.string (str p.base), .slice A p.hs.length c]] w fun e w' => e = .returned (.tuple #[.int .i64 n, .int .i64 k]) ∧ Below w.heap.size w w' := by
  have h1 := cost_any p A c w hP hT
  rw [h, paV_def] at h1
  exact h1
theorem qcost_got {p : Pc.Pa} {n k : Int} (h : Pc.cost p = (n, k)) (A : Option Addr) (c : Nat) (w : World) (hP : PaOk w p A) :
    Calls Tryz.prog 9 #[.agg #[.string (str p.base), .slice A p.hs.length c]] w fun e w' => e = .returned (.tuple #[.int .i64 n, .int .i64 k]) ∧ Below w.heap.size w w' := by
  have h1 := qCost_any p A c w hP
  rw [h, paV_def] at h1
  exact h1
set_option maxHeartbeats 16000000 in
set_option maxRecDepth 100000 in
theorem texts_law (p : Pc.Pa) (A : Option Addr) (c : Nat) (d : List UInt8) (w : World) (hP : PaRaw w p A) (hI : IdAt w) (hE : ErrAt w) :
    Calls Tryz.prog 3 #[paV p A c, .string (str d)] w fun e w' => e = .returned (.bool true) ∧ Below w.heap.size w w' := by
  rw [paV_def]
  have hB0 : Below w.heap.size w (w.alloc (.cells #[.string (str p.base), .slice A p.hs.length c] 24)) := (Below.refl _ _).alloc (Nat.le_refl _) _
  have bx0 : Bp (w.alloc (.cells #[.string (str p.base), .slice A p.hs.length c] 24)) w.heap.size p A c := heap_alloc_new w _
  have hP0 := hP.next hB0
  have hI0 := hI.below hB0
  have hE0 := hE.below hB0
  go_enter Tryz.func3, Tryz.ntmps3
  go_wp2_with fail
  generalize w.alloc (.cells #[.string (str p.base), .slice A p.hs.length c] 24) = W at *
  clear hP hI hE
  have cc := awake_any W hI0
  with_reducible refine cc.mono ?_
  clear cc 
  rintro x w1 ⟨rfl, hb1⟩
  have hB1 := hB0.trans (hb1.mono hB0.size)
  have hP1 := hP0.next hb1
  have hI1 := hI0.below hb1
  have hE1 := hE0.below hb1
  have bx1 := bx0.next hb1
  clear hB0 hb1 hP0 hI0 hE0 bx0
  have cc := qFew_any p A c w1 hP1
  rw [paV_def] at cc
  obtain ⟨k0, k1⟩ := bx1.cells
  go_wp2_with fail
  with_reducible refine cc.mono ?_
  clear cc k0 k1
  rintro x w2 ⟨b, rfl, hsm, hb2⟩
  have hB2 := hB1.trans (hb2.mono hB1.size)
  have hP2 := hP1.next hb2
  have hI2 := hI1.below hb2
  have hE2 := hE1.below hb2
  have bx2 := bx1.next hb2
  clear hB1 hb2 hP1 hI1 hE1 bx1
  cases b with
  | false =>
    clear hsm
    go_wp2_with fail
    go_ret
    exact ⟨rfl, hB2⟩
  | true =>
  have HSp := Lib.hid (hsm rfl)
  clear hsm
  have hds := str_size d
  by_cases h3 : 3000 < d.length
  · have g1 : decide ((3000 : Int) < ((str d).size : Int)) = true := decide_eq_true (by omega)
    have g1n : decide (3000 < (str d).size) = true := decide_eq_true (by omega)
    clear hds
    go_wp2_with fail
    go_ret
    exact ⟨rfl, hB2⟩
  have g1 : decide ((3000 : Int) < ((str d).size : Int)) = false := decide_eq_false (by omega)
  have g1n : decide (3000 < (str d).size) = false := decide_eq_false (by omega)
  clear hds
  have HOP := Lib.hid (fun w (h : PaRaw w p A) => h.ok HSp.out)
  have HFP := Lib.hid (show Fine p from ⟨by have := HSp.out.1; omega, fun h hh => by have := (HSp.out.2.2 h hh).1; omega⟩)
  obtain ⟨⟨pa, pe⟩, hpr⟩ : ∃ r, Pc.print p = r := ⟨_, rfl⟩
  obtain ⟨⟨ca, ce⟩, hco⟩ : ∃ r, Pc.cost p = r := ⟨_, rfl⟩
  obtain ⟨⟨zp, ze⟩, hz⟩ : ∃ r, Pc.parse d = r := ⟨_, rfl⟩
  have HFZ := Lib.hid (show Fine zp by have := fine_parse d; rw [hz] at this; exact this)
  have HPR := Lib.hid hpr
  have HCO := Lib.hid hco
  have HZ := Lib.hid hz
  clear hpr hco hz
  have cc := print_got HPR.out A c w2 (HOP.out _ hP2) hI2.tabs
  obtain ⟨k0, k1⟩ := bx2.cells
  go_wp2_with fail
  with_reducible refine cc.mono ?_
  clear cc k0 k1
  rintro x w3 ⟨rfl, hb3⟩
  have hB3 := hB2.trans (hb3.mono hB2.size)
  have hP3 := hP2.next hb3
  have hI3 := hI2.below hb3
  have hE3 := hE2.below hb3
  have bx3 := bx2.next hb3
  clear hB2 hb3 hP2 hI2 hE2 bx2
  clear g1 g1n
  have cc := qprint_got HPR.out A c w3 (HOP.out _ hP3)
  obtain ⟨k0, k1⟩ := bx3.cells
  go_wp2_with fail
  with_reducible refine cc.mono ?_
  clear cc k0 k1
  rintro x w4 ⟨rfl, hb4⟩
  have hB4 := hB3.trans (hb4.mono hB3.size)
  have hP4 := hP3.next hb4
  have hI4 := hI3.below hb4
  have hE4 := hE3.below hb4
  have bx4 := bx3.next hb4
  clear hB3 hb4 hP3 hI3 hE3 bx3
  have cc := cost_got HCO.out A c w4 (HOP.out _ hP4) hI4.tabs
  obtain ⟨k0, k1⟩ := bx4.cells
  go_wp2_with fail
  with_reducible refine cc.mono ?_
  clear cc k0 k1
  rintro x w5 ⟨rfl, hb5⟩
  have hB5 := hB4.trans (hb5.mono hB4.size)
  have hP5 := hP4.next hb5
  have hI5 := hI4.below hb5
  have hE5 := hE4.below hb5
  have bx5 := bx4.next hb5
  clear hB4 hb5 hP4 hI4 hE4 bx4
  have cc := qcost_got HCO.out A c w5 (HOP.out _ hP5)
  obtain ⟨k0, k1⟩ := bx5.cells
  go_wp2_with fail
  with_reducible refine cc.mono ?_
  clear cc k0 k1
  rintro x w6 ⟨rfl, hb6⟩
  have hB6 := hB5.trans (hb6.mono hB5.size)
  have hP6 := hP5.next hb6
  have hI6 := hI5.below hb6
  have hE6 := hE5.below hb6
  have bx6 := bx5.next hb6
  clear hB5 hb6 hP5 hI5 hE5 bx5
  have cc := parse_got HZ.out w6 hI6 hE6 (by omega)
  go_wp2_with fail
  with_reducible refine cc.mono ?_
  clear cc 
  rintro x w7 ⟨A7, d7, rfl, hR7, hb7⟩
  have hB7 := hB6.trans (hb7.mono hB6.size)
  have hP7 := hP6.next hb7
  have hI7 := hI6.below hb7
  have hE7 := hE6.below hb7
  have bx7 := bx6.next hb7
  clear hB6 hb7 hP6 hI6 hE6 bx6
  have hb8 : Below w7.heap.size w7 (w7.alloc (.cells #[.string (str zp.base), .slice A7 zp.hs.length d7] 24)) := (Below.refl _ _).alloc (Nat.le_refl _) _
  have bz8 : Bp (w7.alloc (.cells #[.string (str zp.base), .slice A7 zp.hs.length d7] 24)) w7.heap.size zp A7 d7 := heap_alloc_new w7 _
  have hB8 := hB7.trans (hb8.mono hB7.size)
  have hP8 := hP7.next hb8
  have hI8 := hI7.below hb8
  have hE8 := hE7.below hb8
  have bx8 := bx7.next hb8
  have hR8 := hR7.next hb8
  clear hB7 hb8 hP7 hI7 hE7 bx7 hR7
  have cc := qparse_got HZ.out (w7.alloc (.cells #[.string (str zp.base), .slice A7 zp.hs.length d7] 24)) (by omega)
  go_wp2_with fail
  generalize w7.alloc (.cells #[.string (str zp.base), .slice A7 zp.hs.length d7] 24) = w8 at *
  generalize w7.heap.size = q8 at *
  with_reducible refine cc.mono ?_
  clear cc 
  rintro x w9 ⟨A8, d8, rfl, hS9, hb9⟩
  have hB9 := hB8.trans (hb9.mono hB8.size)
  have hP9 := hP8.next hb9
  have hI9 := hI8.below hb9
  have hE9 := hE8.below hb9
  have bx9 := bx8.next hb9
  have hR9 := hR8.next hb9
  have bz9 := bz8.next hb9
  clear hB8 hb9 hP8 hI8 hE8 bx8 hR8 bz8
  have hb10 : Below w9.heap.size w9 (w9.alloc (.cells #[.string (str zp.base), .slice A8 zp.hs.length d8] 24)) := (Below.refl _ _).alloc (Nat.le_refl _) _
  have bs10 : Bp (w9.alloc (.cells #[.string (str zp.base), .slice A8 zp.hs.length d8] 24)) w9.heap.size zp A8 d8 := heap_alloc_new w9 _
  have hB10 := hB9.trans (hb10.mono hB9.size)
  have hP10 := hP9.next hb10
  have hI10 := hI9.below hb10
  have hE10 := hE9.below hb10
  have bx10 := bx9.next hb10
  have hR10 := hR9.next hb10
  have bz10 := bz9.next hb10
  have hS10 := hS9.next hb10
  clear hB9 hb10 hP9 hI9 hE9 bx9 hR9 bz9 hS9
  have cc := qSame_true zp A7 A8 d7 d8 (w9.alloc (.cells #[.string (str zp.base), .slice A8 zp.hs.length d8] 24)) hR10.at_ hS10.at_ HFZ.out.1 HFZ.out.2
  rw [paV_def, paV_def] at cc
  have n1 : ((str pa).toList == (str pa).toList) = true := by simp
  have m1 : ((str pa).toList != (str pa).toList) = false := by simp
  have n2 : (pe == pe) = true := by simp
  have m2 : (pe != pe) = false := by simp
  have n3 : (ca == ca) = true := by simp
  have m3 : (ca != ca) = false := by simp
  have n4 : (ce == ce) = true := by simp
  have m4 : (ce != ce) = false := by simp
  obtain ⟨k0, k1⟩ := bz10.cells
  obtain ⟨k2, k3⟩ := bs10.cells
  go_wp2_with fail
  generalize w9.alloc (.cells #[.string (str zp.base), .slice A8 zp.hs.length d8] 24) = w10 at *
  generalize w9.heap.size = q10 at *
  with_reducible refine cc.mono ?_
  clear cc k0 k1 k2 k3
  rintro x w11 ⟨rfl, hb11⟩
  have hB11 := hB10.trans (hb11.mono hB10.size)
  have hP11 := hP10.next hb11
  have hI11 := hI10.below hb11
  have hE11 := hE10.below hb11
  have bx11 := bx10.next hb11
  have hR11 := hR10.next hb11
  have bz11 := bz10.next hb11
  have hS11 := hS10.next hb11
  have bs11 := bs10.next hb11
  clear hB10 hb11 hP10 hI10 hE10 bx10 hR10 bz10 hS10 bs10
  have n5 : (ze == ze) = true := by simp
  have m5 : (ze != ze) = false := by simp
  clear n1 m1 n2 m2 n3 m3 n4 m4
  by_cases hpe : pe = 0
  · subst hpe
    obtain ⟨hq, hq2⟩ := print_back HPR.out
    have HQ := Lib.hid hq
    clear hq
    have cc := parse_got HQ.out w11 hI11 hE11 (by omega)
    go_wp2_with fail
    with_reducible refine cc.mono ?_
    clear cc 
    rintro x w12 ⟨A9, d9, rfl, hT12, hb12⟩
    have hB12 := hB11.trans (hb12.mono hB11.size)
    have hP12 := hP11.next hb12
    have hI12 := hI11.below hb12
    have hE12 := hE11.below hb12
    have bx12 := bx11.next hb12
    have hR12 := hR11.next hb12
    have bz12 := bz11.next hb12
    have hS12 := hS11.next hb12
    have bs12 := bs11.next hb12
    clear hB11 hb12 hP11 hI11 hE11 bx11 hR11 bz11 hS11 bs11
    have hb13 : Below w12.heap.size w12 (w12.alloc (.cells #[.string (str p.base), .slice A9 p.hs.length d9] 24)) := (Below.refl _ _).alloc (Nat.le_refl _) _
    have bq13 : Bp (w12.alloc (.cells #[.string (str p.base), .slice A9 p.hs.length d9] 24)) w12.heap.size p A9 d9 := heap_alloc_new w12 _
    have hB13 := hB12.trans (hb13.mono hB12.size)
    have hP13 := hP12.next hb13
    have hI13 := hI12.below hb13
    have hE13 := hE12.below hb13
    have bx13 := bx12.next hb13
    have hR13 := hR12.next hb13
    have bz13 := bz12.next hb13
    have hS13 := hS12.next hb13
    have bs13 := bs12.next hb13
    have hT13 := hT12.next hb13
    clear hB12 hb13 hP12 hI12 hE12 bx12 hR12 bz12 hS12 bs12 hT12
    have cc := qSame_true p A9 A d9 c (w12.alloc (.cells #[.string (str p.base), .slice A9 p.hs.length d9] 24)) hT13.at_ hP13.at_ HFP.out.1 HFP.out.2
    rw [paV_def, paV_def] at cc
    obtain ⟨k0, k1⟩ := bq13.cells
    obtain ⟨k2, k3⟩ := bx13.cells
    go_wp2_with fail
    generalize w12.alloc (.cells #[.string (str p.base), .slice A9 p.hs.length d9] 24) = w13 at *
    generalize w12.heap.size = q13 at *
    with_reducible refine cc.mono ?_
    clear cc k0 k1 k2 k3
    rintro x w14 ⟨rfl, hb14⟩
    have hB14 := hB13.trans (hb14.mono hB13.size)
    have hP14 := hP13.next hb14
    have hI14 := hI13.below hb14
    have hE14 := hE13.below hb14
    have bx14 := bx13.next hb14
    have hR14 := hR13.next hb14
    have bz14 := bz13.next hb14
    have hS14 := hS13.next hb14
    have bs14 := bs13.next hb14
    have hT14 := hT13.next hb14
    have bq14 := bq13.next hb14
    clear hB13 hb14 hP13 hI13 hE13 bx13 hR13 bz13 hS13 bs13 hT13 bq13
    by_cases hze : ze = 0
    · subst hze
      obtain ⟨hpz, hz1, hz2, hz3⟩ := parse_small HZ.out
      have HPZ := Lib.hid hpz
      have HOZ := Lib.hid (fun (w : World) (h : HsAt w w.heap.size A7 zp.hs) => (⟨h, hz1, hz2, fun x hx l hl => by have := hz3 x hx l hl; omega⟩ : PaOk w zp A7))
      clear hpz hz1 hz2 hz3 m5 n5
      have cc := print_got HPZ.out A7 d7 w14 (HOZ.out _ hR14.at_) hI14.tabs
      have m5 : ((0 : Int) != (0 : Int)) = false := rfl
      obtain ⟨k0, k1⟩ := bz14.cells
      go_wp2_with fail
      with_reducible refine cc.mono ?_
      clear cc k0 k1
      rintro x w15 ⟨rfl, hb15⟩
      have hB15 := hB14.trans (hb15.mono hB14.size)
      have hP15 := hP14.next hb15
      have hI15 := hI14.below hb15
      have hE15 := hE14.below hb15
      have bx15 := bx14.next hb15
      have hR15 := hR14.next hb15
      have bz15 := bz14.next hb15
      have hS15 := hS14.next hb15
      have bs15 := bs14.next hb15
      have hT15 := hT14.next hb15
      have bq15 := bq14.next hb15
      clear hB14 hb15 hP14 hI14 hE14 bx14 hR14 bz14 hS14 bs14 hT14 bq14
      have n1 : ((str d).toList == (str d).toList) = true := by simp
      have m1 : ((str d).toList != (str d).toList) = false := by simp
      go_wp2_with fail
      go_ret
      exact ⟨rfl, hB15⟩
    have z0 : (ze == 0) = false := by rw [beq_eq_false_iff_ne]; exact hze
    go_wp2_with fail
    go_ret
    exact ⟨rfl, hB14⟩
  have p0 : (pe == 0) = false := by rw [beq_eq_false_iff_ne]; exact hpe
  by_cases hze : ze = 0
  · subst hze
    obtain ⟨hpz, hz1, hz2, hz3⟩ := parse_small HZ.out
    have HPZ := Lib.hid hpz
    have HOZ := Lib.hid (fun (w : World) (h : HsAt w w.heap.size A7 zp.hs) => (⟨h, hz1, hz2, fun x hx l hl => by have := hz3 x hx l hl; omega⟩ : PaOk w zp A7))
    clear hpz hz1 hz2 hz3 m5 n5
    have cc := print_got HPZ.out A7 d7 w11 (HOZ.out _ hR11.at_) hI11.tabs
    have m5 : ((0 : Int) != (0 : Int)) = false := rfl
    obtain ⟨k0, k1⟩ := bz11.cells
    go_wp2_with fail
    with_reducible refine cc.mono ?_
    clear cc k0 k1
    rintro x w12 ⟨rfl, hb12⟩
    have hB12 := hB11.trans (hb12.mono hB11.size)
    have hP12 := hP11.next hb12
    have hI12 := hI11.below hb12
    have hE12 := hE11.below hb12
    have bx12 := bx11.next hb12
    have hR12 := hR11.next hb12
    have bz12 := bz11.next hb12
    have hS12 := hS11.next hb12
    have bs12 := bs11.next hb12
    clear hB11 hb12 hP11 hI11 hE11 bx11 hR11 bz11 hS11 bs11
    have n1 : ((str d).toList == (str d).toList) = true := by simp
    have m1 : ((str d).toList != (str d).toList) = false := by simp
    go_wp2_with fail
    go_ret
    exact ⟨rfl, hB12⟩
  have z0 : (ze == 0) = false := by rw [beq_eq_false_iff_ne]; exact hze
  go_wp2_with fail
  go_ret
  exact ⟨rfl, hB11⟩
theorem texts_law' (p : Pc.Pa) (A : Option Addr) (c : Nat) (s : ByteArray) (w : World) (hP : PaRaw w p A) (hI : IdAt w) (hE : ErrAt w) :
    Calls Tryz.prog 3 #[paV p A c, .string s] w fun e w' => e = .returned (.bool true) ∧ Below w.heap.size w w' := by
  have h := texts_law p A c s.data.toList w hP hI hE
  rwa [str_of] at h
end Go.Proofs.YtmmdldicafbjdaaGreatDoor
