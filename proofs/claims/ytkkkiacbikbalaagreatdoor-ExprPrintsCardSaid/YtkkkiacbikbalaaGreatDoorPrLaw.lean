/- The law ExprPrints returns true. Condition: the library's table of powers of ten and its error of ranges lie in their variables. -/
import Derived.Test.YtkkkiacbikbalaaGreatDoorQpn
import Derived.Test.YtkkkiacbikbalaaGreatDoorFws
import Derived.Test.YtkkkiacbikbalaaGreatDoorAwk
namespace Go.Proofs.YtkkkiacbikbalaaGreatDoor
open Go.RowKit Go.Deep

set_option maxHeartbeats 4000000 in
set_option maxRecDepth 100000 in
theorem qprint_any (A : Option Addr) (c : Nat) (f : List Ex.Op) (w : World) (hA : OpsAt w w.heap.size A f) (hl : f.length ≤ 1000000000) (hL : OpsLen f) :
    Calls Tryz.prog 13 #[.slice A f.length c] w (GotL w (Ex.print f)) := by
  by_cases h0 : Ex.check f = 0
  · exact qprint_ok A c f w hA hL h0
  · have hck := qcheck_any A c f w hA hl hL
    have HR := Lib.hid (show Ex.print f = ([], Ex.check f) by rw [print_def, if_pos h0])
    have q1 : (Ex.check f != 0) = true := by rw [bne_iff_ne]; exact h0
    unfold GotL
    generalize Ex.print f = R at *
    generalize Ex.check f = e at *
    clear h0
    go_enter Tryz.func13, Tryz.ntmps13
    go_wp2_with fail
    with_reducible refine hck.mono ?_
    clear hck
    rintro x w1 ⟨rfl, hb1⟩
    go_wp2_with fail
    go_ret2
    rw [HR.out]
    exact ⟨none, 0, rfl, tks_nil _ _, hb1⟩
theorem print_len (f : List Ex.Op) : (Ex.print f).1.length ≤ 256 := by
  rw [print_def]
  split
  · simp
  · split
    · simp
    · dsimp only; omega
set_option maxHeartbeats 4000000 in
set_option maxRecDepth 100000 in
theorem prints_law (A : Option Addr) (c : Nat) (f : List Ex.Op) (w : World) (hE : Errs w) (hTb : Tabs w) (hA : OpsAt w w.heap.size A f) (hl : f.length ≤ 9223372036854775807) (hW : ∀ o ∈ f, 0 ≤ o.n ∧ o.n < 4294967296) :
    Calls Tryz.prog 4 #[.slice A f.length c] w fun e w' => e = .returned (.bool true) ∧ Below w.heap.size w w' := by
  go_enter Tryz.func4, Tryz.ntmps4
  go_wp2_with fail
  refine (awake_any w hE).mono ?_
  rintro e w1 ⟨rfl, hb⟩
  have hA1 := hA.next hb
  have hfew := ffew_any A c f w1 hA1 hl
  cases hf : ffewB f with
  | false =>
    rw [hf] at hfew
    clear hf
    go_wp2_with fail
    with_reducible refine hfew.mono ?_
    clear hfew
    rintro e w2 ⟨rfl, hb2⟩
    go_wp2_with fail
    go_ret
    exact ⟨rfl, hb.trans (hb2.mono hb.size)⟩
  | true =>
    rw [hf] at hfew
    obtain ⟨h3, h5⟩ := ffew_of hf
    have hL : OpsLen f := fun o ho => ⟨by have := h5 o ho; omega, hW o ho⟩
    clear hf h5
    go_wp2_with fail
    with_reducible refine hfew.mono ?_
    clear hfew
    rintro e w2 ⟨rfl, hb2⟩
    replace hb2 := hb.trans (hb2.mono hb.size)
    have hp := print_any2 A c f w2 (hA.next hb2) (by omega) hL (hTb.below hb2)
    have hq : ∀ W, Below w.heap.size w W → Calls Tryz.prog 13 #[.slice A f.length c] W (GotL W (Ex.print f)) := fun W h => qprint_any A c f W (hA.next h) (by omega) hL
    have hplen := print_len f
    unfold GotL at hp hq
    generalize Ex.print f = R at *
    obtain ⟨ts, e0⟩ := R
    dsimp only at hp hq hplen
    go_wp2_with fail
    with_reducible refine hp.mono ?_
    clear hp
    rintro e w3 ⟨A3, c3, rfl, hA3, hb3⟩
    replace hb3 := hb2.trans (hb3.mono hb2.size)
    have hp := hq w3 hb3
    clear hq
    go_wp2_with fail
    with_reducible refine hp.mono ?_
    clear hp
    rintro e w4 ⟨A4, c4, rfl, hA4, hb4⟩
    have hA34 := hA3.next hb4
    replace hb4 := hb3.trans (hb4.mono hb3.size)
    have hsame := same_true A3 A4 c3 c4 ts w4 hA34 hA4 (by omega)
    have hck1 := fun W (h : Below w.heap.size w W) => fcheck_any A c f W (hA.next h) (by omega) hL
    have hck2 := fun W (h : Below w.heap.size w W) => qcheck_any A c f W (hA.next h) (by omega) hL
    generalize Ex.check f = ck at *
    have r1 : (e0 == e0) = true := by simp
    have r2 : (ck == ck) = true := by simp
    go_wp2_with (first
      | (go_at_call 14; with_reducible refine hsame.mono ?_; clear hsame; rintro e w5 ⟨rfl, hb5⟩; have hb5' := hb4.trans (hb5.mono hb4.size))
      | (go_at_call 15; with_reducible refine (hck1 w5 hb5').mono ?_; rintro e w6 ⟨rfl, hb6⟩; have hb6' := hb5'.trans (hb6.mono hb5'.size))
      | (go_at_call 16; with_reducible refine (hck2 w6 hb6').mono ?_; rintro e w7 ⟨rfl, hb7⟩; have hb7' := hb6'.trans (hb7.mono hb6'.size)))
    go_ret
    exact ⟨rfl, hb7'⟩
end Go.Proofs.YtkkkiacbikbalaaGreatDoor
