/- awake: true. -/
import Derived.Test.YtkgnbjhgdjmfdaaDoorEqn
namespace Go.Proofs.YtkgnbjhgdjmfdaaDoor
open Go.RowKit Go.Deep Tr

set_option maxHeartbeats 8000000 in
set_option maxRecDepth 100000 in
theorem awake_any (w : World) (hM : MaxAt w) : Calls Tryd.prog 7 #[] w fun e w' => e = .returned (.bool true) ∧ Below w.heap.size w w' := by
  have c0 := example_any [98] w (by simp)
  rw [show str [98] = ⟨#[98]⟩ from rfl] at c0
  go_enter Tryd.func7, Tryd.ntmps7
  go_wp2_with fail
  with_reducible refine c0.mono ?_
  clear c0
  rintro e w1 ⟨⟨A, A1, A2, rfl, hR⟩, hb1⟩
  have hM1 := hM.below hb1
  have hS1 : (exR A1 A2 [98]).length ≤ 1024 → Sht (exR A1 A2 [98]) := fun _ => ex_short A1 A2 [98] (by decide)
  have c1 := check_any (exR A1 A2 [98]) A 2 w1 hR hS1 hM1
  rw [ex_chk, show (exR A1 A2 [98]).length = 2 from rfl] at c1
  have HR := Lib.hid hR
  have HS := Lib.hid hS1
  have HM := Lib.hid hM
  clear hR hS1 hM1 hM
  go_wp2_with fail
  with_reducible refine c1.mono ?_
  clear c1
  rintro e w2 ⟨rfl, hb2⟩
  have HB2 := Lib.hid (hb1.trans (hb2.mono hb1.size))
  have HR2 := Lib.hid (HR.out.next hb2)
  clear hb1 hb2
  have c2 := writer_any (exR A1 A2 [98]) [97, 47, 98] A 2 w2 HR2.out HS.out (HM.out.below HB2.out) (by simp [maxLen])
  rw [ex_wi, show (exR A1 A2 [98]).length = 2 from rfl, show str [97, 47, 98] = ⟨#[97, 47, 98]⟩ from rfl] at c2
  go_wp2_with fail
  with_reducible refine c2.mono ?_
  clear c2
  rintro e w3 ⟨rfl, hb3⟩
  have HB3 := Lib.hid (HB2.out.trans (hb3.mono HB2.out.size))
  have HR3 := Lib.hid (HR2.out.next hb3)
  clear hb3
  have c3 := neededAll_any (exR A1 A2 [98]) [97, 47, 98] A 2 w3 HR3.out HS.out (HM.out.below HB3.out) (by simp [maxLen])
  rw [show (exR A1 A2 [98]).length = 2 from rfl, show str [97, 47, 98] = ⟨#[97, 47, 98]⟩ from rfl] at c3
  go_wp2_with fail
  with_reducible refine c3.mono ?_
  clear c3
  rintro e w4 ⟨L, AL, cL, rfl, hL, _, hin, hb4⟩
  obtain rfl := ex_ndl hL
  clear hL
  have HB4 := Lib.hid (HB3.out.trans (hb4.mono HB3.out.size))
  have HR4 := Lib.hid (HR3.out.next hb4)
  clear hb4
  have hba : Below w4.heap.size w4 (w4.alloc (.cells #[.int .i64 0, .int .i64 1] 3)) := (Below.refl _ _).alloc (Nat.le_refl _) _
  have c4 := equalIn_any (Rc.nats [0, 1]) [0, 1] AL (some ⟨w4.heap.size, 0, none⟩) cL 2 (w4.alloc (.cells #[.int .i64 0, .int .i64 1] 3)) (hin.next hba) (el_block Rc.inV 1 Rc.inV_len (heap_alloc_new w4 _) _ rfl) (by simp [Rc.nats]) (by simp)
  rw [show (Rc.nats [0, 1]).length = 2 from rfl, show ([0, 1] : List Int).length = 2 from rfl, show decide (Rc.nats [0, 1] = [0, 1]) = true from rfl] at c4
  rw [show ([0, 1] : List Nat).length = 2 from rfl]
  have HBA := Lib.hid (HB4.out.trans (hba.mono HB4.out.size))
  have HRA := Lib.hid (HR4.out.next hba)
  clear hin hba
  go_wp2_with fail
  with_reducible refine c4.mono ?_
  clear c4
  rintro e w5 ⟨rfl, hb5⟩
  have HB5 := Lib.hid (HBA.out.trans (hb5.mono HBA.out.size))
  have HR5 := Lib.hid (HRA.out.next hb5)
  clear hb5
  have c5 := sources_any (exR A1 A2 [98]) [97, 47, 98] A 2 w5 HR5.out HS.out (HM.out.below HB5.out) (by simp [maxLen])
  rw [show (exR A1 A2 [98]).length = 2 from rfl, show str [97, 47, 98] = ⟨#[97, 47, 98]⟩ from rfl] at c5
  go_wp2_with fail
  with_reducible refine c5.mono ?_
  clear c5
  rintro e w6 ⟨L, AS, cS, rfl, hL, _, hst, hb6⟩
  obtain rfl := ex_src hL
  clear hL
  have HB6 := Lib.hid (HB5.out.trans (hb6.mono HB5.out.size))
  have HR6 := Lib.hid (HR5.out.next hb6)
  clear hb6
  have hbs : Below w6.heap.size w6 (w6.alloc (.cells #[.string ⟨#[97, 47, 120]⟩] 9)) := (Below.refl _ _).alloc (Nat.le_refl _) _
  have c6 := equalSt_any [[97, 47, 120]] [[97, 47, 120]] AS (some ⟨w6.heap.size, 0, none⟩) cS 1 (w6.alloc (.cells #[.string ⟨#[97, 47, 120]⟩] 9)) (hst.next hbs) (el_block Rc.stV 1 Rc.stV_len (heap_alloc_new w6 _) _ rfl) (by simp) (by simp)
  rw [show ([[97, 47, 120]] : List (List UInt8)).length = 1 from rfl, show decide (([[97, 47, 120]] : List (List UInt8)) = [[97, 47, 120]]) = true from rfl] at c6
  rw [show ([[97, 47, 120]] : List (List UInt8)).length = 1 from rfl]
  have HBS := Lib.hid (HB6.out.trans (hbs.mono HB6.out.size))
  have HRS := Lib.hid (HR6.out.next hbs)
  clear hst hbs
  go_wp2_with fail
  with_reducible refine c6.mono ?_
  clear c6
  rintro e w7 ⟨rfl, hb7⟩
  have HB7 := Lib.hid (HBS.out.trans (hb7.mono HBS.out.size))
  have HR7 := Lib.hid (HRS.out.next hb7)
  clear hb7
  have hbp : Below w7.heap.size w7 (w7.alloc (.cells #[.string ⟨#[97, 47, 111]⟩] 9)) := (Below.refl _ _).alloc (Nat.le_refl _) _
  have HBP := Lib.hid (HB7.out.trans (hbp.mono HB7.out.size))
  have HRP := Lib.hid (HR7.out.next hbp)
  have c7 := affected_any (exR A1 A2 [98]) [[97, 47, 111]] A (some ⟨w7.heap.size, 0, none⟩) 2 1 (w7.alloc (.cells #[.string ⟨#[97, 47, 111]⟩] 9)) HRP.out (el_block Rc.stV 1 Rc.stV_len (heap_alloc_new w7 _) _ rfl) HS.out (HM.out.below HBP.out) (by simp) (fun p hp => by rw [List.mem_singleton.1 hp]; simp)
  rw [ex_aff, show (exR A1 A2 [98]).length = 2 from rfl, show ([[97, 47, 111]] : List (List UInt8)).length = 1 from rfl] at c7
  clear hbp
  go_wp2_with fail
  with_reducible refine c7.mono ?_
  clear c7
  rintro e w8 ⟨L, AF, cF8, rfl, rfl, _, hin, hb8⟩
  have HB8 := Lib.hid (HBP.out.trans (hb8.mono HBP.out.size))
  have HR8 := Lib.hid (HRP.out.next hb8)
  clear hb8
  have hbf : Below w8.heap.size w8 (w8.alloc (.cells #[.int .i64 1] 3)) := (Below.refl _ _).alloc (Nat.le_refl _) _
  have c8 := equalIn_any (Rc.nats [1]) [1] AF (some ⟨w8.heap.size, 0, none⟩) cF8 1 (w8.alloc (.cells #[.int .i64 1] 3)) (hin.next hbf) (el_block Rc.inV 1 Rc.inV_len (heap_alloc_new w8 _) _ rfl) (by simp [Rc.nats]) (by simp)
  rw [show (Rc.nats [1]).length = 1 from rfl, show ([1] : List Int).length = 1 from rfl, show decide (Rc.nats [1] = [1]) = true from rfl] at c8
  rw [show ([1] : List Nat).length = 1 from rfl]
  have HBF := Lib.hid (HB8.out.trans (hbf.mono HB8.out.size))
  have HRF := Lib.hid (HR8.out.next hbf)
  clear hin hbf
  go_wp2_with fail
  with_reducible refine c8.mono ?_
  clear c8
  rintro e w9 ⟨rfl, hb9⟩
  have HB9 := Lib.hid (HBF.out.trans (hb9.mono HBF.out.size))
  have HR9 := Lib.hid (HRF.out.next hb9)
  clear hb9
  have c9 := example_any [99] w9 (by simp)
  rw [show str [99] = ⟨#[99]⟩ from rfl] at c9
  go_wp2_with fail
  with_reducible refine c9.mono ?_
  clear c9
  rintro e w10 ⟨⟨Q, A3, A4, rfl, hQ⟩, hb10⟩
  have HB10 := Lib.hid (HB9.out.trans (hb10.mono HB9.out.size))
  have c10 := diverge_any (exR A1 A2 [98]) (exR A3 A4 [99]) A Q 2 2 w10 (HR9.out.next hb10) hQ
  rw [show (exR A1 A2 [98]).length = 2 from rfl, show (exR A3 A4 [99]).length = 2 from rfl] at c10
  clear hQ hb10
  go_wp2_with fail
  with_reducible refine c10.mono ?_
  clear c10
  rintro e w11 ⟨⟨n, rfl, hn⟩, hb11⟩
  obtain rfl := ex_div hn
  have HB11 := Lib.hid (HB10.out.trans (hb11.mono HB10.out.size))
  clear hn hb11
  go_wp2_with fail
  go_ret
  exact ⟨rfl, HB11.out⟩
end Go.Proofs.YtkgnbjhgdjmfdaaDoor
