/- The law RecordChecks. Condition: bytealg's MaxLen lies in its variable. -/
import Derived.Test.YtkgnbjhgdjmfdaaDoorQst
import Derived.Test.YtkgnbjhgdjmfdaaDoorAwk
import Derived.Test.YtkgnbjhgdjmfdaaDoorFew
namespace Go.Proofs.YtkgnbjhgdjmfdaaDoor
open Go.RowKit Go.Deep Tr

set_option maxHeartbeats 4000000 in
set_option maxRecDepth 100000 in
theorem checks_law (r : List Dn) (A : Option Addr) (c : Nat) (W : World) (hA : RcAt W A r) (hM : MaxAt W) :
    Calls Tryd.prog 3 #[.slice A r.length c] W fun e w' => e = .returned (.bool true) ∧ Below W.heap.size W w' := by
  have HA0 := Lib.hid hA
  have HM0 := Lib.hid hM
  have cc := awake_any W hM
  clear hA hM
  go_enter Tryd.func3, Tryd.ntmps3
  go_wp2_with fail
  with_reducible refine cc.mono ?_
  clear cc
  rintro e w1 ⟨rfl, hb1⟩
  have HA1 := Lib.hid (HA0.out.next hb1)
  have HM1 := Lib.hid (HM0.out.below hb1)
  have HB1 := Lib.hid hb1
  clear hb1 HA0 HM0
  have cc := few_any r A c w1 HA1.out
  go_wp2_with fail
  with_reducible refine cc.mono ?_
  clear cc
  rintro e w2 ⟨⟨b, rfl, hf⟩, hb2⟩
  have HA2 := Lib.hid (HA1.out.next hb2)
  have HM2 := Lib.hid (HM1.out.below hb2)
  have HB2 := Lib.hid (HB1.out.trans (hb2.mono HB1.out.size))
  clear hb2 HA1 HM1 HB1
  cases b with
  | false =>
    clear hf
    go_wp2_with fail
    first | go_ret3 | go_ret2 | go_ret
    exact ⟨rfl, HB2.out⟩
  | true =>
    have HF := Lib.hid (hf rfl).sht
    clear hf
    have cc := check_any r A c w2 HA2.out HF.out HM2.out
    go_wp2_with fail
    with_reducible refine cc.mono ?_
    clear cc
    rintro e w3 ⟨rfl, hb3⟩
    have HA3 := Lib.hid (HA2.out.next hb3)
    have HB3 := Lib.hid (HB2.out.trans (hb3.mono HB2.out.size))
    clear hb3 HA2 HM2 HB2
    have cc := qcheck_any r A c w3 HA3.out HF.out
    go_wp2_with fail
    with_reducible refine cc.mono ?_
    clear cc
    rintro e w4 ⟨rfl, hb4⟩
    have HB4 := Lib.hid (HB3.out.trans (hb4.mono HB3.out.size))
    clear hb4 HA3 HB3 HF
    generalize Rc.chk r = V at *
    have e1 : (V == V) = true := beq_self_eq_true V
    go_wp2_with fail
    first | go_ret3 | go_ret2 | go_ret
    exact ⟨rfl, HB4.out⟩
end Go.Proofs.YtkgnbjhgdjmfdaaDoor
