/- Two equal lists of lines are found equal; bounds. No condition but the lengths. -/
import Derived.Test.YtinkpbobkeppiaaGreatDoorFws
import Derived.Test.YtinkpbobkeppiaaGreatDoorRep
import Derived.Test.YtinkpbobkeppiaaGreatDoorJoi
namespace Go.Proofs.YtinkpbobkeppiaaGreatDoor
open Go.RowKit Go.Deep

theorem eqs_true (A A' : Option Addr) (c c' : Nat) (l : List (List UInt8)) (w : World) (hA : CellsAt w w.heap.size A (strs l)) (hA' : CellsAt w w.heap.size A' (strs l)) (hl : l.length ≤ 1000000000) :
    Calls Tryz.prog 36 #[.slice A l.length c, .slice A' l.length c'] w fun e w' => e = .returned (.bool true) ∧ Below w.heap.size w w' := by
  by_cases h0 : l.length = 0
  · rw [h0]
    exact (Tryz.slices_Equal_string_empty A A' c 0 c' w (by omega)).mono fun e w' ⟨h1, h2⟩ => ⟨by rw [h1]; rfl, by rw [h2]; exact Below.refl _ _⟩
  · obtain ⟨g, o, rfl, hg, _⟩ := hA 0 (by rw [strs_len]; omega)
    obtain ⟨g', o', rfl, hg', _⟩ := hA' 0 (by rw [strs_len]; omega)
    have hcell : ∀ (g o : Nat), CellsAt w w.heap.size (some ⟨g, o, none⟩) (strs l) → ∀ j, j < (l.map str).length → w.cell? ⟨g, o + j, none⟩ = some (.string ((l.map str).getD j ByteArray.empty)) := fun g o h j hj => by
      have hj2 : j < l.length := by simpa using hj
      obtain ⟨g1, o1, e, _, hc⟩ := h j (by rw [strs_len]; exact hj2)
      have e2 := Option.some.inj e
      injection e2 with e3 e4 _
      subst e3; subst e4
      rw [strs_get l j hj2] at hc
      rw [hc]
      simp [List.getD, hj2]
    refine (Tryz.slices_Equal_string g o l.length c g' o' l.length c' (l.map str) (l.map str) w (by simp) (by simp) (by omega) (by omega) (hcell g o hA) (hcell g' o' hA')).mono ?_
    rintro e w' ⟨rfl, q, rfl⟩
    exact ⟨by simp, ⟨rfl, rfl, rfl, Nat.le_refl _, fun _ _ => rfl⟩⟩
theorem cells_next {w w' : World} {A : Option Addr} {xs : List Value} (h : CellsAt w w.heap.size A xs) (hb : Below w.heap.size w w') : CellsAt w' w'.heap.size A xs := fun i hi => by
  obtain ⟨g, o, e, hg, hc⟩ := h i hi
  exact ⟨g, o, e, Nat.lt_of_lt_of_le hg hb.size, (hb.cell (p := ⟨g, o + i, none⟩) hg).trans hc⟩
theorem repl_len (ts : List Tre.Fl) (p : List UInt8) (n : Int) (text : List UInt8) : (Tre.repl ts p n text).1.length ≤ ts.length := by
  rw [repl_def]
  repeat' split
  all_goals first | simp [Tre.setPath] | simp
end Go.Proofs.YtinkpbobkeppiaaGreatDoor
