/- slices.Reverse of numbers of the call's own. -/
import Derived.Test.YtkgnbjhgdjmfdaaDoorNdp
import Derived.Test.YtkgnbjhgdjmfdaaDoorShelf
import Derived.Laws.IdiomCopy
import Derived.Shelf.SlSortFuncK.RowK2
namespace Go.Proofs.YtkgnbjhgdjmfdaaDoor
open Go.RowKit Go.Deep Tr

theorem in_of {w : World} {B g o : Nat} {l : List Int} (hg : g < B) (h : ∀ j (hj : j < l.length), w.cell? ⟨g, o + j, none⟩ = some (.int .i64 l[j])) : Rc.InAt w B (some ⟨g, o, none⟩) l := fun j hj => ⟨g, o, rfl, hg, fun i u hu => by
  cases i with
  | succ i => simp [Rc.inV] at hu
  | zero =>
    have e : u = .int .i64 l[j] := by simpa [Rc.inV] using hu.symm
    rw [e, Nat.mul_one, Nat.add_zero]
    exact h j hj⟩
theorem in_cell {w : World} {B : Nat} {A : Option Addr} {l : List Int} (h : Rc.InAt w B A l) {k : Nat} (hk : k < l.length) : ∃ g o, A = some ⟨g, o, none⟩ ∧ g < B ∧ w.cell? ⟨g, o + k, none⟩ = some (.int .i64 l[k]) := by
  obtain ⟨g, o, e, hg, hc⟩ := h k hk
  have := hc 0 _ rfl
  rw [Nat.mul_one] at this
  exact ⟨g, o, e, hg, this⟩
theorem below_sets {B : Nat} {a : World} (b : Nat) (hb : B ≤ b) : ∀ (vs : List Value) (o : Nat) {w : World}, Below B a w → Below B a (w.setCells b o vs)
  | [], _, _, h => h
  | v :: r, o, _, h => below_sets b hb r (o + 1) (h.setCell (p := ⟨b, o, none⟩) hb v)
theorem reverse_any (L : List Int) (v : Value) (B : Nat) (w : World) (h : w.ownsRow B 3 1 v L.length (Rc.insV L)) (hl : L.length ≤ 100000) :
    Calls Tryd.prog 54 #[v] w fun e w' => e = .returned (.tuple #[]) ∧ (∃ A c, v = .slice A L.length c ∧ Rc.InAt w' w'.heap.size A L.reverse) ∧ Below B w w' := by
  rcases h.2 with ⟨rfl, h0⟩ | ⟨g, cap, cur, rfl, hb, hg, h1, h2, h3, h4⟩
  · have hL : L = [] := List.length_eq_zero_iff.1 h0
    subst hL
    refine (Tryd.slices_Reverse_int_empty none 0 w).mono ?_
    rintro e w' ⟨rfl, rfl⟩
    exact ⟨rfl, ⟨none, 0, rfl, Rc.ElAt.nil _ _ _ _ _⟩, Below.refl _ _⟩
  · have hrow : w.rowIs g 3 (cap * 1) (fun i => (cur[i]?).getD default) := ⟨cur, hg, h3, fun i hi => by
      show cur[i]? = some ((cur[i]?).getD default)
      rw [Array.getElem?_eq_getElem (show i < cur.size by omega)]; rfl⟩
    have hcell : ∀ j, j < L.length → w.cell? ⟨g, 0 + j, none⟩ = some (.int .i64 (L.getD j 0)) := fun j hj => by
      have h5 := h.cellAt j (by omega)
      rw [Nat.zero_add, h5, Rc.insV_map, List.getElem?_map, List.getElem?_eq_getElem hj, List.getD_eq_getElem?_getD, List.getElem?_eq_getElem hj]
      rfl
    refine (Tryd.slices_Reverse_int_cells g 0 L.length cap L w (Nat.le_refl _) (by omega) hcell (fun j hj => by rw [Nat.zero_add]; exact hrow.frozen j)).mono ?_
    rintro e w' ⟨rfl, q, rfl⟩
    rw [List.take_length]
    have hbq : Below B w (w.drewN q) := below_drewN (Below.refl _ _) q
    refine ⟨rfl, ⟨_, _, rfl, in_of (by rw [Go.Sort.size_setCells]; exact blk_lt hg) fun j hj => ?_⟩, below_sets g hb _ 0 hbq⟩
    rw [World.cell?_setCells_in g ((L.reverse).map (Value.int .i64)) 0 (w.drewN q) (fun j hj => by
      rw [List.length_map, List.length_reverse] at hj
      have : (w.drewN q).cell? ⟨g, 0 + j, none⟩ = w.cell? ⟨g, 0 + j, none⟩ := rfl
      rw [this, hcell j hj]; rfl) j (by simpa using hj)]
    rw [List.getElem_map]
end Go.Proofs.YtkgnbjhgdjmfdaaDoor
