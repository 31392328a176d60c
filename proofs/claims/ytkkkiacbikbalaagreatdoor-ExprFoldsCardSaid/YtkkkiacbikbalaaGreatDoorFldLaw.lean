/- The law ExprFolds returns true. Condition: the library's error of ranges lies in its variable. -/
import Derived.Test.YtkkkiacbikbalaaGreatDoorQfo
import Derived.Test.YtkkkiacbikbalaaGreatDoorFws
import Derived.Test.YtkkkiacbikbalaaGreatDoorAwk
namespace Go.Proofs.YtkkkiacbikbalaaGreatDoor
open Go.RowKit Go.Deep

theorem fold_cases (f : List Ex.Op) : (∃ e, Ex.fold f = ([], e) ∧ e ≠ 0) ∨ ∃ g, Ex.fold f = (g, 0) ∧ g.length ≤ f.length := by
  have h := Ex.fold_len f
  rw [fold_def] at h ⊢
  split
  · rename_i hc; exact .inl ⟨_, rfl, hc⟩
  · rename_i hc; rw [if_neg hc] at h; exact .inr ⟨_, rfl, h⟩
set_option maxHeartbeats 4000000 in
set_option maxRecDepth 100000 in
theorem folds_law (A : Option Addr) (c : Nat) (f : List Ex.Op) (w : World) (hE : Errs w) (hA : OpsAt w w.heap.size A f) (hl : f.length ≤ 9223372036854775807) (hW : ∀ o ∈ f, 0 ≤ o.n ∧ o.n < 4294967296) :
    Calls Tryz.prog 5 #[.slice A f.length c] w fun e w' => e = .returned (.bool true) ∧ Below w.heap.size w w' := by
  go_enter Tryz.func5, Tryz.ntmps5
  go_wp2_with fail
  refine (awake_any w hE).mono ?_
  rintro e w1 ⟨rfl, hb⟩
  have hA1 := hA.next hb
  have hfew := ffew_any A c f w1 hA1 hl
  cases hf : ffewB f with
  | false =>
    rw [hf] at hfew
    clear hf
    go_wp2_with fail
    with_reducible refine hfew.mono ?_
    clear hfew
    rintro e w2 ⟨rfl, hb2⟩
    go_wp2_with fail
    go_ret
    exact ⟨rfl, hb.trans (hb2.mono hb.size)⟩
  | true =>
    rw [hf] at hfew
    obtain ⟨h3, h5⟩ := ffew_of hf
    have hL : OpsLen f := fun o ho => ⟨by have := h5 o ho; omega, hW o ho⟩
    clear hf h5
    go_wp2_with fail
    with_reducible refine hfew.mono ?_
    clear hfew
    rintro e w2 ⟨rfl, hb2⟩
    replace hb2 := hb.trans (hb2.mono hb.size)
    obtain ⟨G, e0, hG, hGl⟩ : ∃ G e0, Ex.fold f = (G, e0) ∧ G.length ≤ 300 := by
      rcases fold_cases f with ⟨e, h, _⟩ | ⟨g, h, hl⟩
      · exact ⟨_, _, h, by simp⟩
      · exact ⟨_, _, h, by omega⟩
    have hp := fold_any A c f w2 (hA.next hb2) (by omega) hL
    unfold GotF at hp
    rw [hG] at hp
    go_wp2_with fail
    with_reducible refine hp.mono ?_
    clear hp
    rintro e w3 ⟨v3, rfl, hown3, hb3⟩
    obtain ⟨A3, c3, rfl, hA3, _, _⟩ := owns_ops hown3
    replace hb3 := hb2.trans (hb3.mono hb2.size)
    have hp := qfold_any A c f w3 (hA.next hb3) (by omega) hL
    unfold GotF at hp
    rw [hG] at hp
    clear hown3
    go_wp2_with fail
    with_reducible refine hp.mono ?_
    clear hp
    rintro e w4 ⟨v4, rfl, hown4, hb4⟩
    obtain ⟨A4, c4, rfl, hA4, _, _⟩ := owns_ops hown4
    have hA34 := hA3.next hb4
    replace hb4 := hb3.trans (hb4.mono hb3.size)
    have hp := value_any A c f w4 (hA.next hb4) (by omega) hL
    have hp2 : ∀ W, Below w.heap.size w W → Calls Tryz.prog 20 #[.slice A f.length c] W fun x w' => x = .returned (valV (Ex.value f)) ∧ Below W.heap.size W w' := fun W h => qvalue_any A c f W (hA.next h) (by omega) hL
    unfold valV at hp hp2
    generalize Ex.value f = V at *
    clear hown4 hA3
    go_wp2_with fail
    with_reducible refine hp.mono ?_
    clear hp
    rintro e w5 ⟨rfl, hb5⟩
    have hA35 := hA34.next hb5
    have hA45 := hA4.next hb5
    replace hb5 := hb4.trans (hb5.mono hb4.size)
    have hp := hp2 w5 hb5
    clear hA34 hA4 hp2
    go_wp2_with fail
    with_reducible refine hp.mono ?_
    clear hp
    rintro e w6 ⟨rfl, hb6⟩
    have hsame := fsame_true A3 A4 c3 c4 G w6 (hA35.next hb6) (hA45.next hb6) (by omega)
    replace hb6 := hb5.trans (hb6.mono hb5.size)
    clear hA35 hA45 hG
    have r1 : (V.1 == V.1) = true := by simp
    have r2 : (V.2 == V.2) = true := by simp
    have r3 : (e0 == e0) = true := by simp
    go_wp2_with (go_at_call 10; with_reducible refine hsame.mono ?_; clear hsame; rintro e w7 ⟨rfl, hb7⟩)
    go_ret
    exact ⟨rfl, hb6.trans (hb7.mono hb6.size)⟩
end Go.Proofs.YtkkkiacbikbalaaGreatDoor
