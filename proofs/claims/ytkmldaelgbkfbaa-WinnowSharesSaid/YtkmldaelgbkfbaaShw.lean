/- The law of Shared. Condition: the hashes are numbers of the machine; the lengths. -/
import Derived.Test.YtkmldaelgbkfbaaShr
import Derived.Test.YtkmldaelgbkfbaaAwk
namespace Go.Proofs.Ytkmldaelgbkfbaa
open Go.RowKit Go.Deep
namespace Wn
set_option maxHeartbeats 8000000 in
set_option maxRecDepth 100000 in
theorem shares_law (a b : List Fp) (A B : Option Addr) (c d : Nat) (w : World) (hA : Gr.EdAt w w.heap.size A a) (hB : Gr.EdAt w w.heap.size B b) (hla : a.length ≤ 140737488351232) (hlb : b.length ≤ 140737488351232) (hfa : ∀ x ∈ a, Fit x.hash) (hfb : ∀ x ∈ b, Fit x.hash) :
    Calls Try.prog 4 #[.slice A a.length c, .slice B b.length d] w fun e w' => e = .returned (.bool true) ∧ Below w.heap.size w w' := by
  have c0 := awake_any w
  by_cases h1 : 60 < a.length
  · have d1 : decide ((60 : Int) < (a.length : Int)) = true := decide_eq_true (by omega)
    have d1n : decide (60 < a.length) = true := decide_eq_true h1
    clear hA hB hla hlb hfa hfb
    go_enter Try.func4, Try.ntmps4
    go_wp2_with fail
    (with_reducible refine c0.mono ?_); rintro e w1 ⟨rfl, hb1⟩
    have HB := Lib.hid hb1
    clear hb1 c0
    go_wp2_with fail
    go_ret
    exact ⟨rfl, HB.out⟩
  have d1 : decide ((60 : Int) < (a.length : Int)) = false := decide_eq_false (by omega)
  have d1n : decide (60 < a.length) = false := decide_eq_false h1
  by_cases h2 : 60 < b.length
  · have d2 : decide ((60 : Int) < (b.length : Int)) = true := decide_eq_true (by omega)
    have d2n : decide (60 < b.length) = true := decide_eq_true h2
    clear hA hB hla hlb hfa hfb
    go_enter Try.func4, Try.ntmps4
    go_wp2_with fail
    (with_reducible refine c0.mono ?_); rintro e w1 ⟨rfl, hb1⟩
    have HB := Lib.hid hb1
    clear hb1 c0
    go_wp2_with fail
    go_ret
    exact ⟨rfl, HB.out⟩
  have d2 : decide ((60 : Int) < (b.length : Int)) = false := decide_eq_false (by omega)
  have d2n : decide (60 < b.length) = false := decide_eq_false h2
  have k1 : a.length ≤ 60 := by omega
  have k2 : b.length ≤ 60 := by omega
  clear hla hlb h1 h2
  have hsl : (shL a b).length ≤ 10000 := by
    unfold shL
    split
    · rename_i h; omega
    · simp
  go_enter Try.func4, Try.ntmps4
  go_wp2_with fail
  (with_reducible refine c0.mono ?_); rintro e w1 ⟨rfl, hb1⟩
  have HA1 := Lib.hid (hA.next hb1)
  have HB1' := Lib.hid (hB.next hb1)
  have HB1 := Lib.hid hb1
  have c1 := shared_any a b A B c d w1 HA1.out HB1'.out k1 k2 hfa hfb
  clear c0 hb1 hA hB hfa hfb
  go_wp2_with fail
  (with_reducible refine c1.mono ?_); rintro e w2 ⟨A2, c2, rfl, -, -, hin2, hb2⟩
  have c3 := qshared_any a b A B c d w2 (HA1.out.next hb2) (HB1'.out.next hb2) k1 k2
  have HB2 := Lib.hid (HB1.out.trans (hb2.mono HB1.out.size))
  have HI2 := Lib.hid hin2
  generalize shL a b = L at *
  generalize shE a b = E at *
  clear c1 hb2 hin2 k1 k2
  go_wp2_with fail
  (with_reducible refine c3.mono ?_); rintro e w3 ⟨A3, c4, rfl, -, -, hin3, hb3⟩
  have c5 := equalPr_any L A2 A3 c2 c4 w3 (HI2.out.next hb3) hin3 hsl
  have HB3 := Lib.hid (HB2.out.trans (hb3.mono HB2.out.size))
  clear c3 hb3 hin3 hsl
  go_wp2_with fail
  (with_reducible refine c5.mono ?_); rintro e w4 ⟨rfl, hb4⟩
  have HB4 := Lib.hid (HB3.out.trans (hb4.mono HB3.out.size))
  clear c5 hb4
  go_wp2_with fail
  go_ret
  exact ⟨by simp, HB4.out⟩
end Wn
end Go.Proofs.Ytkmldaelgbkfbaa
