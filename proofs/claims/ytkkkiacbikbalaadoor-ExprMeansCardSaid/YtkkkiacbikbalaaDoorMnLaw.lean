/- The law ExprMeans returns true. Condition: the library's error of ranges lies in its variable. -/
import Derived.Test.YtkkkiacbikbalaaDoorMea
import Derived.Test.YtkkkiacbikbalaaDoorAwk
namespace Go.Proofs.YtkkkiacbikbalaaDoor
open Go.RowKit Go.Deep

set_option maxHeartbeats 4000000 in
set_option maxRecDepth 100000 in
theorem means_law (A : Option Addr) (c : Nat) (f : List Ex.Op) (w : World) (hE : Errs w) (hA : OpsAt w w.heap.size A f) (hl : f.length ≤ 9223372036854775807) (hW : ∀ o ∈ f, 0 ≤ o.n ∧ o.n < 4294967296) :
    Calls Tryd.prog 5 #[.slice A f.length c] w fun e w' => e = .returned (.bool true) ∧ Below w.heap.size w w' := by
  go_enter Tryd.func5, Tryd.ntmps5
  go_wp2_with fail
  refine (awake_any w hE).mono ?_
  rintro e w1 ⟨rfl, hb⟩
  have hA1 := hA.next hb
  have hfew := ffew_any A c f w1 hA1 hl
  cases hf : ffewB f with
  | false =>
    rw [hf] at hfew
    clear hf
    go_wp2_with fail
    with_reducible refine hfew.mono ?_
    clear hfew
    rintro e w2 ⟨rfl, hb2⟩
    go_wp2_with fail
    go_ret
    exact ⟨rfl, hb.trans (hb2.mono hb.size)⟩
  | true =>
    rw [hf] at hfew
    obtain ⟨h3, h5⟩ := ffew_of hf
    have hL : OpsLen f := fun o ho => ⟨by have := h5 o ho; omega, hW o ho⟩
    clear hf h5
    go_wp2_with fail
    with_reducible refine hfew.mono ?_
    clear hfew
    rintro e w2 ⟨rfl, hb2⟩
    replace hb2 := hb.trans (hb2.mono hb.size)
    have hp := fold_any A c f w2 (hA.next hb2) (by omega) hL
    unfold GotF at hp
    by_cases h0 : Ex.check f = 0
    · obtain ⟨g, hF, hgl, hgL, hg0, hGG, hvr⟩ := Ex.fold_means f hL h0
      rw [hF] at hp
      have HG0 := Lib.hid hg0
      have HVR := Lib.hid hvr
      have H0 := Lib.hid h0
      clear hF hvr h0
      go_wp2_with fail
      with_reducible refine hp.mono ?_
      clear hp
      rintro e w3 ⟨v3, rfl, hown3, hb3⟩
      obtain ⟨A3, c3, rfl, hA3, _, _⟩ := owns_ops hown3
      replace hb3 := hb2.trans (hb3.mono hb2.size)
      have hp := fold_any A3 c3 g w3 hA3 (by omega) hgL
      unfold GotF at hp
      rw [hGG] at hp
      clear hown3 hGG
      go_wp2_with fail
      with_reducible refine hp.mono ?_
      clear hp
      rintro e w4 ⟨v4, rfl, hown4, hb4⟩
      obtain ⟨A4, c4, rfl, hA4, _, _⟩ := owns_ops hown4
      have hA34 := hA3.next hb4
      replace hb4 := hb3.trans (hb4.mono hb3.size)
      have hp := lawvalue_any A c f w4 (hA.next hb4) hL H0.out
      unfold GotW at hp
      have hp2 : ∀ W, OpsAt W W.heap.size A3 g → Calls Tryd.prog 17 #[.slice A3 g.length c3] W (GotW W (Ex.vrun f)) := fun W h => by rw [← HVR.out]; exact lawvalue_any A3 c3 g W h hgL HG0.out
      unfold GotW at hp2
      generalize Ex.vrun f = R at *
      obtain ⟨sv, ev⟩ := R
      dsimp only at hp hp2
      generalize sv.getD 0 0 = x at *
      clear hown4 hA3
      go_wp2_with fail
      with_reducible refine hp.mono ?_
      clear hp
      rintro e w5 ⟨v5, rfl, hown5, hel, hb5⟩
      obtain ⟨A5, c5, rfl, hA5, _, _⟩ := owns_ops hown5
      have hA35 := hA34.next hb5
      have hA45 := hA4.next hb5
      replace hb5 := hb4.trans (hb5.mono hb4.size)
      have hp := hp2 w5 hA35
      clear hA34 hA4 hp2 hown5
      go_wp2_with fail
      with_reducible refine hp.mono ?_
      clear hp
      rintro e w6 ⟨v6, rfl, hown6, _, hb6⟩
      obtain ⟨A6, c6, rfl, hA6, _, _⟩ := owns_ops hown6
      have hA36 := hA35.next hb6
      have hA46 := hA45.next hb6
      have hA56 := hA5.next hb6
      replace hb6 := hb5.trans (hb6.mono hb5.size)
      have hck := fcheck_any A3 c3 g w6 hA36 (by omega) hgL
      rw [HG0.out] at hck
      clear hA35 hA45 hA5 hown6
      have r1 : (x == x) = true := by simp
      have r2 : decide ((g.length : Int) ≤ (f.length : Int)) = true := by simp; omega
      have r3 : decide (g.length ≤ f.length) = true := by simp; omega
      go_wp2_with (first
        | (go_at_call 18; with_reducible refine hck.mono ?_; clear hck; rintro e w7 ⟨rfl, hb7⟩; have hA37 := hA36.next hb7; have hA47 := hA46.next hb7; have hA57 := hA56.next hb7; have hA67 := hA6.next hb7; have hb7' := hb6.trans (hb7.mono hb6.size))
        | (go_at_call 15; with_reducible refine (fsame_true A4 A3 c4 c3 g w7 hA47 hA37 (by omega)).mono ?_; rintro e w8 ⟨rfl, hb8⟩; have hA58 := hA57.next hb8; have hA68 := hA67.next hb8; have hb8' := hb7'.trans (hb8.mono hb7'.size))
        | (go_at_call 19; with_reducible refine (equal_true A5 A6 c5 c6 ev w8 hA58 hA68 (by omega)).mono ?_; rintro e w9 ⟨rfl, hb9⟩; have hb9' := hb8'.trans (hb9.mono hb8'.size)))
      go_ret
      exact ⟨rfl, hb9'⟩
    · have hF : Ex.fold f = ([], Ex.check f) := by rw [fold_def, if_pos h0]
      have q1 : (Ex.check f != 0) = true := by rw [bne_iff_ne]; exact h0
      rw [hF] at hp
      generalize Ex.check f = e0 at *
      clear hF h0
      go_wp2_with fail
      with_reducible refine hp.mono ?_
      clear hp
      rintro e w3 ⟨v3, rfl, hown3, hb3⟩
      obtain ⟨A3, c3, rfl, hA3, _, _⟩ := owns_ops hown3
      clear hown3
      go_wp2_with fail
      go_ret
      exact ⟨rfl, hb2.trans (hb3.mono hb2.size)⟩
end Go.Proofs.YtkkkiacbikbalaaDoor
