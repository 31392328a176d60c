/- The law RecordNeeds. Condition: bytealg's MaxLen lies in its variable. -/
import Derived.Test.YtkgnbjhgdjmfdaaDoorQso
import Derived.Test.YtkgnbjhgdjmfdaaDoorAwk
import Derived.Test.YtkgnbjhgdjmfdaaDoorFew
namespace Go.Proofs.YtkgnbjhgdjmfdaaDoor
open Go.RowKit Go.Deep Tr

theorem srcL_uniq {r : List Dn} {p : List UInt8} {a b : List (List UInt8)} (ha : SrcL r p a) (hb : SrcL r p b) : a = b := src_uniq ha.1 ha.2.1 hb.1 hb.2.1 fun x => by rw [ha.2.2 x, hb.2.2 x]
theorem ndl_uniq {r : List Dn} {p : List UInt8} {a b : List Nat} (ha : Rc.NdL r p a) (hb : Rc.NdL r p b) : a = b := asc_uniq ha.1 hb.1 fun x => by rw [ha.2 x, hb.2 x]
set_option maxHeartbeats 8000000 in
set_option maxRecDepth 100000 in
theorem needs_law (r : List Dn) (s : ByteArray) (A : Option Addr) (c : Nat) (W : World) (hA : RcAt W A r) (hM : MaxAt W) :
    Calls Tryd.prog 4 #[.slice A r.length c, .string s] W fun e w' => e = .returned (.bool true) ∧ Below W.heap.size W w' := by
  obtain ⟨p, rfl⟩ : ∃ p, s = str p := ⟨s.data.toList, rfl⟩
  have HW := Lib.hid (fun (w' : World) (h : Below W.heap.size W w') => show RcAt w' A r ∧ MaxAt w' from ⟨hA.next h, hM.below h⟩)
  have cc := awake_any W hM
  clear hA hM
  go_enter Tryd.func4, Tryd.ntmps4
  go_wp2_with fail
  with_reducible refine cc.mono ?_
  clear cc
  rintro e w1 ⟨rfl, hb1⟩
  have HB1 := Lib.hid hb1
  clear hb1
  have cc := few_any r A c w1 (HW.out _ HB1.out).1
  go_wp2_with fail
  with_reducible refine cc.mono ?_
  clear cc
  rintro e w2 ⟨⟨u, rfl, hf⟩, hb2⟩
  have HB2 := Lib.hid (HB1.out.trans (hb2.mono HB1.out.size))
  clear hb2 HB1
  cases u with
  | false =>
    clear hf
    go_wp2_with fail
    first | go_ret3 | go_ret2 | go_ret
    exact ⟨rfl, HB2.out⟩
  | true =>
  have HF := Lib.hid (hf rfl).sht
  clear hf
  have hsz := str_size p
  by_cases hp : 200 < p.length
  · have g2 : decide ((200 : Int) < ((str p).size : Int)) = true := decide_eq_true (by omega)
    have g2n : decide (200 < (str p).size) = true := decide_eq_true (by omega)
    clear hp hsz
    go_wp2_with fail
    first | go_ret3 | go_ret2 | go_ret
    exact ⟨rfl, HB2.out⟩
  have g2 : decide ((200 : Int) < ((str p).size : Int)) = false := decide_eq_false (by omega)
  have g2n : decide (200 < (str p).size) = false := decide_eq_false (by omega)
  have HP := Lib.hid hp
  clear hp hsz
  have cc := writer_any r p A c w2 (HW.out _ HB2.out).1 HF.out (HW.out _ HB2.out).2 (by have := HP.out; unfold maxLen; omega)
  go_wp2_with fail
  with_reducible refine cc.mono ?_
  clear cc
  rintro e w3 ⟨rfl, hb3⟩
  have HB3 := Lib.hid (HB2.out.trans (hb3.mono HB2.out.size))
  clear hb3 HB2
  have cc := qwriter_any r p A c w3 (HW.out _ HB3.out).1 HF.out
  go_wp2_with fail
  with_reducible refine cc.mono ?_
  clear cc
  rintro e w4 ⟨rfl, hb4⟩
  have HB4 := Lib.hid (HB3.out.trans (hb4.mono HB3.out.size))
  clear hb4 HB3
  have q1 : (Rc.wrI r p == Rc.wrI r p) = true := beq_self_eq_true _
  have cc := neededAll_any r p A c w4 (HW.out _ HB4.out).1 HF.out (HW.out _ HB4.out).2 (by have := HP.out; unfold maxLen; omega)
  go_wp2_with fail
  with_reducible refine cc.mono ?_
  clear cc
  rintro e w5 ⟨L5, A5, c5, rfl, hL5, hl5, hin5, hb5⟩
  have HB5 := Lib.hid (HB4.out.trans (hb5.mono HB4.out.size))
  have HI5 := Lib.hid hin5
  have HL5 := Lib.hid hL5
  clear hb5 hin5 hL5 HB4 q1
  have cc := qneeded_any r p A c w5 (HW.out _ HB5.out).1 HF.out
  go_wp2_with fail
  with_reducible refine cc.mono ?_
  clear cc
  rintro e w6 ⟨L6, A6, c6, rfl, hL6, hl6, hin6, hb6⟩
  have HB6 := Lib.hid (HB5.out.trans (hb6.mono HB5.out.size))
  obtain rfl := ndl_uniq HL5.out hL6
  have cc := equalIn_any (Rc.nats L5) (Rc.nats L5) A5 A6 c5 c6 w6 (HI5.out.next hb6) hin6 (by rw [Rc.nats_len]; omega) (by rw [Rc.nats_len]; omega)
  rw [decide_eq_true rfl, Rc.nats_len] at cc
  clear hb6 hin6 hL6 HB5 HI5 HL5
  go_wp2_with fail
  with_reducible refine cc.mono ?_
  clear cc
  rintro e w7 ⟨rfl, hb7⟩
  have HB7 := Lib.hid (HB6.out.trans (hb7.mono HB6.out.size))
  clear hb7 HB6
  have cc := sources_any r p A c w7 (HW.out _ HB7.out).1 HF.out (HW.out _ HB7.out).2 (by have := HP.out; unfold maxLen; omega)
  go_wp2_with fail
  with_reducible refine cc.mono ?_
  clear cc
  rintro e w8 ⟨L8, A8, c8, rfl, hL8, hl8, hin8, hb8⟩
  have HB8 := Lib.hid (HB7.out.trans (hb8.mono HB7.out.size))
  have HI8 := Lib.hid hin8
  have HL8 := Lib.hid hL8
  clear hb8 hin8 hL8 HB7
  have cc := qsources_any r p A c w8 (HW.out _ HB8.out).1 HF.out
  go_wp2_with fail
  with_reducible refine cc.mono ?_
  clear cc
  rintro e w9 ⟨L9, A9, c9, rfl, hL9, hl9, hin9, hb9⟩
  have HB9 := Lib.hid (HB8.out.trans (hb9.mono HB8.out.size))
  obtain rfl := srcL_uniq HL8.out hL9
  have cc := equalSt_any L8 L8 A8 A9 c8 c9 w9 (HI8.out.next hb9) hin9 (by omega) (by omega)
  rw [decide_eq_true rfl] at cc
  clear hb9 hin9 hL9 HB8 HI8 HL8
  go_wp2_with fail
  with_reducible refine cc.mono ?_
  clear cc
  rintro e w10 ⟨rfl, hb10⟩
  have HB10 := Lib.hid (HB9.out.trans (hb10.mono HB9.out.size))
  clear hb10 HB9
  go_wp2_with fail
  first | go_ret3 | go_ret2 | go_ret
  exact ⟨rfl, HB10.out⟩
end Go.Proofs.YtkgnbjhgdjmfdaaDoor
