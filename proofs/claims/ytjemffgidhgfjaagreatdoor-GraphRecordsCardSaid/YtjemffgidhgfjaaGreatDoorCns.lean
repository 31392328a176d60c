/- slices.Contains at texts. No condition but the lengths. -/
import Derived.Test.YtjemffgidhgfjaaGreatDoorRkAf2
import Derived.Test.YtjemffgidhgfjaaGreatDoorShelf
namespace Go.Proofs.YtjemffgidhgfjaaGreatDoor.Rk
open Go.RowKit Go.Deep Go.Maps Tr

theorem st_zs {w : World} {B g o : Nat} {l : List (List UInt8)} (h : Rc.StAt w B (some ⟨g, o, none⟩) l) : ∀ j, j < (l.map str).length → w.cell? ⟨g, o + j, none⟩ = some (.string ((l.map str).getD j ByteArray.empty)) := fun j hj => by
  rw [List.length_map] at hj
  obtain ⟨g', o', e, _, hc⟩ := st_cell h hj
  simp only [Option.some.injEq, Addr.mk.injEq, and_true] at e
  obtain ⟨rfl, rfl⟩ := e
  rw [hc, List.getD_eq_getElem?_getD, List.getElem?_map, List.getElem?_eq_getElem hj]; rfl
theorem containsSt_any (l : List (List UInt8)) (x : List UInt8) (A : Option Addr) (c : Nat) (w : World) (hA : Rc.StAt w w.heap.size A l) (hl : l.length ≤ 10000000) :
    Calls Tryz.prog 22 #[.slice A l.length c, .string (str x)] w fun e w' => e = .returned (.bool (l.contains x)) ∧ w' = w := by
  by_cases h0 : l.length = 0
  · have := List.length_eq_zero_iff.1 h0
    subst this
    exact Tryz.slices_Contains_string_empty A c (str x) w
  · obtain ⟨g, o, rfl, _, _⟩ := hA.row (by omega)
    refine (Tryz.slices_Contains_string g o l.length c (l.map str) (str x) w (by rw [List.length_map]; exact Nat.le_refl _) (by omega) (st_zs hA)).mono fun e w' h => ?_
    have e1 : (l.map str).take l.length = l.map str := List.take_of_length_le (by rw [List.length_map]; exact Nat.le_refl _)
    rw [e1] at h
    refine ⟨?_, h.2⟩
    rw [h.1]
    congr 2
    rw [Bool.eq_iff_iff, Lib.containsS_iff, List.contains_iff_mem, List.mem_map]
    constructor
    · rintro ⟨y, hy, e⟩
      have : y = x := by
        have h2 := congrArg ByteArray.toList e
        rwa [strL, strL] at h2
      rw [← this]; exact hy
    · exact fun h => ⟨x, h, rfl⟩
end Go.Proofs.YtjemffgidhgfjaaGreatDoor.Rk
