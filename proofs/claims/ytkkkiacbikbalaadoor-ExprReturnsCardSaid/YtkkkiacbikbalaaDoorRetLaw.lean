/- The law ExprReturns returns true. Condition: the library's table of powers of ten and its error of ranges lie in their variables. -/
import Derived.Test.YtkkkiacbikbalaaDoorPny
import Derived.Test.YtkkkiacbikbalaaDoorFws
import Derived.Test.YtkkkiacbikbalaaDoorAwk
namespace Go.Proofs.YtkkkiacbikbalaaDoor
open Go.RowKit Go.Deep

theorem print_cases (f : List Ex.Op) (hw : ∀ o ∈ f, 0 ≤ o.n ∧ o.n < 4294967296) : (∃ e, Ex.print f = ([], e) ∧ e ≠ 0) ∨ (∃ l, Ex.print f = (l, 0) ∧ l.length ≤ 256 ∧ (∀ k (h : k < l.length), l[k].text.length ≤ 50) ∧ (Ex.parse l = ([], 11) ∨ Ex.parse l = (f, 0))) := by
  rw [print_def]
  split
  · rename_i h; exact .inl ⟨_, rfl, h⟩
  · rename_i h
    split
    · exact .inl ⟨10, rfl, by decide⟩
    · rename_i h2
      have hc : Ex.chk 0 f = 0 := by
        have h3 : Ex.check f = 0 := by simpa using h
        rw [check_def] at h3
        split at h3
        · cases h3
        · exact h3
      exact .inr ⟨_, rfl, by omega, (Ex.okTk_all (Ex.toks_ok f hw hc).1).2, Ex.round_trip f hw hc (by omega)⟩
set_option maxHeartbeats 4000000 in
set_option maxRecDepth 100000 in
theorem returns_law (A : Option Addr) (c : Nat) (f : List Ex.Op) (w : World) (hE : Errs w) (hTb : Tabs w) (hA : OpsAt w w.heap.size A f) (hl : f.length ≤ 9223372036854775807) (hW : ∀ o ∈ f, 0 ≤ o.n ∧ o.n < 4294967296) :
    Calls Tryd.prog 4 #[.slice A f.length c] w fun e w' => e = .returned (.bool true) ∧ Below w.heap.size w w' := by
  have HPC := Lib.hid (print_cases f hW)
  go_enter Tryd.func4, Tryd.ntmps4
  go_wp2_with fail
  refine (awake_any w hE).mono ?_
  rintro e w1 ⟨rfl, hb⟩
  have hA1 := hA.next hb
  have hfew := ffew_any A c f w1 hA1 hl
  cases hf : ffewB f with
  | false =>
    rw [hf] at hfew
    clear hf
    go_wp2_with fail
    with_reducible refine hfew.mono ?_
    clear hfew
    rintro e w2 ⟨rfl, hb2⟩
    go_wp2_with fail
    go_ret
    exact ⟨rfl, hb.trans (hb2.mono hb.size)⟩
  | true =>
    rw [hf] at hfew
    obtain ⟨h3, h5⟩ := ffew_of hf
    have hL : OpsLen f := fun o ho => ⟨by have := h5 o ho; omega, hW o ho⟩
    clear hf h5
    go_wp2_with fail
    with_reducible refine hfew.mono ?_
    clear hfew
    rintro e w2 ⟨rfl, hb2⟩
    replace hb2 := hb.trans (hb2.mono hb.size)
    have hp := print_any2 A c f w2 (hA.next hb2) (by omega) hL (hTb.below hb2)
    unfold GotL at hp
    rcases HPC.out with ⟨e0, hR, he0⟩ | ⟨l, hR, hlen, htx, hpar⟩
    · rw [hR] at hp
      have q1 : (e0 != 0) = true := by rw [bne_iff_ne]; exact he0
      clear HPC hR he0
      go_wp2_with fail
      with_reducible refine hp.mono ?_
      clear hp
      rintro e w3 ⟨A2, c2, rfl, hA2, hb3⟩
      go_wp2_with fail
      go_ret
      exact ⟨rfl, hb2.trans (hb3.mono hb2.size)⟩
    · rw [hR] at hp
      have HPAR := Lib.hid hpar
      clear HPC hR hpar
      go_wp2_with fail
      with_reducible refine hp.mono ?_
      clear hp
      rintro e w3 ⟨A2, c2, rfl, hA2, hb3⟩
      replace hb3 := hb2.trans (hb3.mono hb2.size)
      have hpa := parse_any A2 c2 l w3 hA2 (by omega) (fun k h => by have := htx k h; omega) (hE.below hb3)
      unfold GotF at hpa
      rcases HPAR.out with h11 | hok
      · rw [h11] at hpa
        clear HPAR h11
        go_wp2_with fail
        with_reducible refine hpa.mono ?_
        clear hpa
        rintro e w4 ⟨v, rfl, hown, hb4⟩
        obtain ⟨A4, c4, rfl, hA4, _, _⟩ := owns_ops hown
        clear hown
        go_wp2_with fail
        go_ret
        exact ⟨rfl, hb3.trans (hb4.mono hb3.size)⟩
      · rw [hok] at hpa
        clear HPAR hok
        go_wp2_with fail
        with_reducible refine hpa.mono ?_
        clear hpa
        rintro e w4 ⟨v, rfl, hown, hb4⟩
        obtain ⟨A4, c4, rfl, hA4, _, _⟩ := owns_ops hown
        clear hown
        replace hb4 := hb3.trans (hb4.mono hb3.size)
        have hsame := fsame_true A A4 c c4 f w4 (hA.next hb4) hA4 (by omega)
        go_wp2_with (go_at_call 15; with_reducible refine hsame.mono ?_; clear hsame; rintro e w5 ⟨rfl, hb5⟩)
        go_ret
        exact ⟨rfl, hb4.trans (hb5.mono hb4.size)⟩
end Go.Proofs.YtkkkiacbikbalaaDoor
