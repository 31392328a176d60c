/- The law RecordAffects. Condition: bytealg's MaxLen lies in its variable. -/
import Derived.Test.YtkgnbjhgdjmfdaaDoorQaf
import Derived.Test.YtkgnbjhgdjmfdaaDoorQdv
import Derived.Test.YtkgnbjhgdjmfdaaDoorAwk
import Derived.Test.YtkgnbjhgdjmfdaaDoorFew
namespace Go.Proofs.YtkgnbjhgdjmfdaaDoor
open Go.RowKit Go.Deep Tr

set_option maxHeartbeats 8000000 in
set_option maxRecDepth 100000 in
theorem affects_law (a b : List Dn) (ps : List (List UInt8)) (A B P : Option Addr) (c d f : Nat) (W : World) (hA : RcAt W A a) (hB : RcAt W B b) (hP : Rc.StAt W W.heap.size P ps) (hpl : ∀ p ∈ ps, p.length ≤ 140737488351232) (hM : MaxAt W) :
    Calls Tryd.prog 5 #[.slice A a.length c, .slice B b.length d, .slice P ps.length f] W fun e w' => e = .returned (.bool true) ∧ Below W.heap.size W w' := by
  have HW := Lib.hid (fun (w' : World) (h : Below W.heap.size W w') => show RcAt w' A a ∧ RcAt w' B b ∧ Rc.StAt w' w'.heap.size P ps ∧ MaxAt w' from ⟨hA.next h, hB.next h, hP.next h, hM.below h⟩)
  have HPL := Lib.hid hpl
  have cc := awake_any W hM
  clear hA hB hP hM hpl
  go_enter Tryd.func5, Tryd.ntmps5
  go_wp2_with fail
  with_reducible refine cc.mono ?_
  clear cc
  rintro e w1 ⟨rfl, hb1⟩
  have HB1 := Lib.hid hb1
  clear hb1
  have cc := few_any a A c w1 (HW.out _ HB1.out).1
  go_wp2_with fail
  with_reducible refine cc.mono ?_
  clear cc
  rintro e w2 ⟨⟨u, rfl, hf⟩, hb2⟩
  have HB2 := Lib.hid (HB1.out.trans (hb2.mono HB1.out.size))
  clear hb2 HB1
  cases u with
  | false =>
    clear hf
    go_wp2_with fail
    first | go_ret3 | go_ret2 | go_ret
    exact ⟨rfl, HB2.out⟩
  | true =>
  have HF := Lib.hid (hf rfl).sht
  clear hf
  have cc := few_any b B d w2 (HW.out _ HB2.out).2.1
  go_wp2_with fail
  with_reducible refine cc.mono ?_
  clear cc
  rintro e w3 ⟨⟨u, rfl, hf⟩, hb3⟩
  have HB3 := Lib.hid (HB2.out.trans (hb3.mono HB2.out.size))
  clear hb3 HB2
  cases u with
  | false =>
    clear hf
    go_wp2_with fail
    first | go_ret3 | go_ret2 | go_ret
    exact ⟨rfl, HB3.out⟩
  | true =>
  clear hf
  by_cases hp : 12 < ps.length
  · have e1 : decide ((12 : Int) < (ps.length : Int)) = true := decide_eq_true (by omega)
    have e1n : decide (12 < ps.length) = true := decide_eq_true hp
    clear hp
    go_wp2_with fail
    first | go_ret3 | go_ret2 | go_ret
    exact ⟨rfl, HB3.out⟩
  have e1 : decide ((12 : Int) < (ps.length : Int)) = false := decide_eq_false (by omega)
  have e1n : decide (12 < ps.length) = false := decide_eq_false hp
  obtain ⟨k1, k2, k3, k4⟩ := HW.out _ HB3.out
  have cc := affected_any a ps A P c f w3 k1 k3 HF.out k4 (by omega) HPL.out
  clear k1 k2 k3 k4
  have HPS := Lib.hid hp
  clear hp
  go_wp2_with fail
  with_reducible refine cc.mono ?_
  clear cc
  rintro e w4 ⟨L, A4, c4, rfl, rfl, hl4, hin4, hb4⟩
  have HB4 := Lib.hid (HB3.out.trans (hb4.mono HB3.out.size))
  have HI4 := Lib.hid hin4
  clear hb4 hin4 HB3
  obtain ⟨k1, k2, k3, k4⟩ := HW.out _ HB4.out
  have cc := qaffected_any a ps A P c f w4 k1 k3 HF.out (by have := HPS.out; omega)
  clear k1 k2 k3 k4
  go_wp2_with fail
  with_reducible refine cc.mono ?_
  clear cc
  rintro e w5 ⟨L, A5, c5, rfl, rfl, hl5, hin5, hb5⟩
  have HB5 := Lib.hid (HB4.out.trans (hb5.mono HB4.out.size))
  have hi4 := HI4.out.next hb5
  generalize affL a ps = L at *
  have cc := equalIn_any (Rc.nats L) (Rc.nats L) A4 A5 c4 c5 w5 hi4 hin5 (by rw [Rc.nats_len]; omega) (by rw [Rc.nats_len]; omega)
  rw [decide_eq_true rfl, Rc.nats_len] at cc
  clear hb5 hin5 hi4 HB4 HI4
  go_wp2_with fail
  with_reducible refine cc.mono ?_
  clear cc
  rintro e w6 ⟨rfl, hb6⟩
  have HB6 := Lib.hid (HB5.out.trans (hb6.mono HB5.out.size))
  clear hb6 HB5
  obtain ⟨k1, k2, k3, k4⟩ := HW.out _ HB6.out
  have cc := diverge_any a b A B c d w6 k1 k2
  clear k1 k2 k3 k4
  go_wp2_with fail
  with_reducible refine cc.mono ?_
  clear cc
  rintro e w7 ⟨⟨n, rfl, hn⟩, hb7⟩
  have HB7 := Lib.hid (HB6.out.trans (hb7.mono HB6.out.size))
  have HN := Lib.hid hn
  clear hn hb7 HB6
  obtain ⟨k1, k2, k3, k4⟩ := HW.out _ HB7.out
  have cc := qdiverge_any a b A B c d w7 k1 k2
  clear k1 k2 k3 k4
  go_wp2_with fail
  with_reducible refine cc.mono ?_
  clear cc
  rintro e w8 ⟨⟨n2, rfl, hn2⟩, hb8⟩
  have HB8 := Lib.hid (HB7.out.trans (hb8.mono HB7.out.size))
  obtain rfl := HN.out.uniq hn2
  clear hn2 hb8 HB7 HN
  have q1 : (n == n) = true := beq_self_eq_true n
  go_wp2_with fail
  first | go_ret3 | go_ret2 | go_ret
  exact ⟨rfl, HB8.out⟩
end Go.Proofs.YtkgnbjhgdjmfdaaDoor
