/- slices.Equal at numbers and at texts. No condition but the lengths. -/
import Derived.Test.YtkgnbjhgdjmfdaaDoorExp
namespace Go.Proofs.YtkgnbjhgdjmfdaaDoor
open Go.RowKit Go.Deep Tr

theorem in_zs {w : World} {B g o : Nat} {l : List Int} (h : Rc.InAt w B (some ⟨g, o, none⟩) l) : ∀ j, j < l.length → w.cell? ⟨g, o + j, none⟩ = some (.int .i64 (l.getD j 0)) := fun j hj => by
  obtain ⟨g', o', e, _, hc⟩ := in_cell h hj
  simp only [Option.some.injEq, Addr.mk.injEq, and_true] at e
  obtain ⟨rfl, rfl⟩ := e
  rw [hc, List.getD_eq_getElem?_getD, List.getElem?_eq_getElem hj]; rfl
theorem equalIn_any (a b : List Int) (A B : Option Addr) (c d : Nat) (w : World) (hA : Rc.InAt w w.heap.size A a) (hB : Rc.InAt w w.heap.size B b) (ha : a.length ≤ 100000) (hb : b.length ≤ 100000) :
    Calls Tryd.prog 13 #[.slice A a.length c, .slice B b.length d] w fun e w' => e = .returned (.bool (decide (a = b))) ∧ Below w.heap.size w w' := by
  by_cases h0 : a.length = 0
  · have := List.length_eq_zero_iff.1 h0
    subst this
    refine (Tryd.slices_Equal_int_empty A B c b.length d w (by omega)).mono fun e w' h => ⟨?_, by rw [h.2]; exact Below.refl _ _⟩
    rw [h.1]
    congr 2
    exact decide_eq_decide.2 ⟨fun h => (List.length_eq_zero_iff.1 h).symm, fun h => by rw [← h]; rfl⟩
  · by_cases h1 : b.length = 0
    · refine (Tryd.slices_Equal_int_lens A B a.length c b.length d w (by omega)).mono fun e w' h => ⟨?_, by rw [h.2]; exact Below.refl _ _⟩
      rw [h.1, decide_eq_false (fun e => by rw [e] at h0; exact h0 h1)]
    · obtain ⟨g, o, rfl, _, _⟩ := hA.row (by omega)
      obtain ⟨g', o', rfl, _, _⟩ := hB.row (by omega)
      refine (Tryd.slices_Equal_int g o a.length c g' o' b.length d a b w (by omega) (by omega) (by omega) (by omega) (in_zs hA) (in_zs hB)).mono fun e w' h => ⟨?_, ?_⟩
      · rw [h.1, List.take_length, List.take_length]
        congr 2
        rw [Bool.eq_iff_iff, beq_iff_eq, decide_eq_true_eq]
      · obtain ⟨q, h⟩ := h.2
        rw [h]
        exact ⟨rfl, rfl, rfl, Nat.le_refl _, fun _ _ => rfl⟩
theorem st_zs {w : World} {B g o : Nat} {l : List (List UInt8)} (h : Rc.StAt w B (some ⟨g, o, none⟩) l) : ∀ j, j < (l.map str).length → w.cell? ⟨g, o + j, none⟩ = some (.string ((l.map str).getD j ByteArray.empty)) := fun j hj => by
  rw [List.length_map] at hj
  obtain ⟨g', o', e, _, hc⟩ := st_cell h hj
  simp only [Option.some.injEq, Addr.mk.injEq, and_true] at e
  obtain ⟨rfl, rfl⟩ := e
  rw [hc, List.getD_eq_getElem?_getD, List.getElem?_map, List.getElem?_eq_getElem hj]; rfl
theorem map_str {a b : List (List UInt8)} : a.map str = b.map str ↔ a = b := by
  constructor
  · intro h
    have := congrArg (List.map fun s : ByteArray => s.data.toList) h
    rw [List.map_map, List.map_map] at this
    have e : ((fun s : ByteArray => s.data.toList) ∘ str) = id := funext fun x => by simp [str]
    rw [e, List.map_id, List.map_id] at this
    exact this
  · exact fun h => h ▸ rfl
theorem equalSt_any (a b : List (List UInt8)) (A B : Option Addr) (c d : Nat) (w : World) (hA : Rc.StAt w w.heap.size A a) (hB : Rc.StAt w w.heap.size B b) (ha : a.length ≤ 10000000) (hb : b.length ≤ 10000000) :
    Calls Tryd.prog 16 #[.slice A a.length c, .slice B b.length d] w fun e w' => e = .returned (.bool (decide (a = b))) ∧ Below w.heap.size w w' := by
  by_cases h0 : a.length = 0
  · have := List.length_eq_zero_iff.1 h0
    subst this
    refine (Tryd.slices_Equal_string_empty A B c b.length d w (by omega)).mono fun e w' h => ⟨?_, by rw [h.2]; exact Below.refl _ _⟩
    rw [h.1]
    congr 2
    exact decide_eq_decide.2 ⟨fun h => (List.length_eq_zero_iff.1 h).symm, fun h => by rw [← h]; rfl⟩
  · by_cases h1 : b.length = 0
    · refine (Tryd.slices_Equal_string_lens A B a.length c b.length d w (by omega)).mono fun e w' h => ⟨?_, by rw [h.2]; exact Below.refl _ _⟩
      rw [h.1, decide_eq_false (fun e => by rw [e] at h0; exact h0 h1)]
    · obtain ⟨g, o, rfl, _, _⟩ := hA.row (by omega)
      obtain ⟨g', o', rfl, _, _⟩ := hB.row (by omega)
      refine (Tryd.slices_Equal_string g o a.length c g' o' b.length d (a.map str) (b.map str) w (by rw [List.length_map]; omega) (by rw [List.length_map]; omega) (by omega) (by omega) (st_zs hA) (st_zs hB)).mono fun e w' h => ⟨?_, ?_⟩
      · rw [h.1, List.take_of_length_le (by rw [List.length_map]; omega), List.take_of_length_le (by rw [List.length_map]; omega)]
        congr 2
        exact decide_eq_decide.2 map_str
      · obtain ⟨q, h⟩ := h.2
        rw [h]
        exact ⟨rfl, rfl, rfl, Nat.le_refl _, fun _ _ => rfl⟩
end Go.Proofs.YtkgnbjhgdjmfdaaDoor
