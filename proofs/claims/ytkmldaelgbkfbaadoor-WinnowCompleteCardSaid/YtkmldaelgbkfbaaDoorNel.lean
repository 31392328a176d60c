/- Elements where they lie; rows of the call's own; out of lineset's texts. No condition. -/
import Derived.Test.YtkmldaelgbkfbaaDoorTrPat
import Derived.Deep.OwnRows
import Derived.Deep.RegionLaw
import Derived.Laws.OwnMore
import Derived.Lib.OwnKind
import Derived.Deep.AppendLies
import Derived.BigQuiet
import Derived.Deep.QuietTactic
import Derived.Deep.RegionWith
namespace Go.Proofs.YtkmldaelgbkfbaaDoor
open Go.RowKit Go.Deep Tr
theorem info_parts {P : Program} {t : TypeId} {z : Value} {n b : Nat} (h : (P.info? t).map (fun i => (i.zero, i.size, i.bytes)) = some (some z, n, b)) : ∃ i, P.info? t = some i ∧ i.zero = some z ∧ i.size = n ∧ i.bytes = b := by
  obtain ⟨i, hi, he⟩ := Option.map_eq_some_iff.1 h
  simp only [Prod.mk.injEq] at he
  exact ⟨i, hi, he.1, he.2.1, he.2.2⟩
theorem own_same {w w' : World} {B e size n : Nat} {v : Value} {xs : List Value} (h : w.ownsRow B e size v n xs) (hb : ∀ g, v.ownBlock = some g → w'.heap[g]? = w.heap[g]?) : w'.ownsRow B e size v n xs := by
  refine ⟨h.1, ?_⟩
  rcases h.2 with h0 | ⟨g, cap, cur, rfl, h1, h2, h3⟩
  · exact .inl h0
  · exact .inr ⟨g, cap, cur, rfl, h1, (hb g rfl).trans h2, h3⟩
theorem blk_lt {w : World} {q : Nat} {o : Obj} (h : w.heap[q]? = some o) : q < w.heap.size := (Array.getElem?_eq_some_iff.1 h).1
theorem addr_addS (g o j : Nat) : (⟨g, o, none⟩ : Addr).add j = ⟨g, o + j, none⟩ := by simp [Addr.add]
theorem own_below {w w' : World} {B e size n : Nat} {v : Value} {xs : List Value} (h : w.ownsRow B e size v n xs) (hb : Below w.heap.size w w') : w'.ownsRow B e size v n xs := by
  rcases h with ⟨h1, ⟨rfl, h2⟩ | ⟨g, cap, cur, rfl, h2, h3, h4⟩⟩
  · exact ⟨h1, .inl ⟨rfl, h2⟩⟩
  · exact ⟨h1, .inr ⟨g, cap, cur, rfl, h2, (hb.block g (blk_lt h3)).trans h3, h4⟩⟩
theorem below_grown {B e size n : Nat} {w W w6 : World} {v : Value} {xs : List Value} (hb : Below B w W) (hB : B ≤ W.heap.size) (ho : W.ownsRow B e size v n xs) (hg : W.grownBy w6 v.ownBlock) : Below B w w6 :=
  hb.trans ⟨hg.os, hg.tape, hg.output, hg.size, fun k hk => hg.block k (by omega) (fun e => by have := (ho.lt k e.symm).1; omega)⟩
namespace Ls
/-- Elements of k cells each, in a row. -/
theorem flat_len {α : Type} (f : α → List Value) (k : Nat) (hk : ∀ x, (f x).length = k) (l : List α) : (l.flatMap f).length = l.length * k := by
  induction l with
  | nil => simp
  | cons x t ih => rw [List.flatMap_cons, List.length_append, ih, hk, List.length_cons]; rw [Nat.add_one_mul]; omega
theorem flat_at {α : Type} (f : α → List Value) (k : Nat) (hk : ∀ x, (f x).length = k) : ∀ (l : List α) (j i : Nat) (h : j < l.length), i < k → (l.flatMap f)[j * k + i]? = (f l[j])[i]?
  | x :: t, 0, i, _, hi => by
    rw [List.flatMap_cons, List.getElem?_append_left (by rw [hk]; omega)]
    simp
  | x :: t, j + 1, i, h, hi => by
    rw [List.flatMap_cons, List.getElem?_append_right (by rw [hk, Nat.add_one_mul]; omega), hk]
    have := flat_at f k hk t j i (by simpa using h) hi
    rw [show (j + 1) * k + i - k = j * k + i by rw [Nat.add_one_mul]; omega, this]
    simp
theorem flat_set {α : Type} (f : α → List Value) (k : Nat) (hk : ∀ x, (f x).length = k) (l : List α) (x : α) (i : Nat) (u : Value) : ((l ++ [x]).flatMap f).set (l.length * k + i) u = l.flatMap f ++ (f x).set i u := by
  rw [List.flatMap_append, List.set_append_right _ _ (by rw [flat_len f k hk]; omega), flat_len f k hk]
  simp
/-- Elements of k cells where they lie, below B. -/
def ElAt {α : Type} (f : α → List Value) (k : Nat) (w : World) (B : Nat) (A : Option Addr) (l : List α) : Prop := ∀ j (h : j < l.length), ∃ g o, A = some ⟨g, o, none⟩ ∧ g < B ∧ ∀ i u, (f l[j])[i]? = some u → w.cell? ⟨g, o + j * k + i, none⟩ = some u
theorem ElAt.next {α : Type} {f : α → List Value} {k : Nat} {w w' : World} {A : Option Addr} {l : List α} (h : ElAt f k w w.heap.size A l) (hb : Below w.heap.size w w') : ElAt f k w' w'.heap.size A l := fun j hj => by
  obtain ⟨g, o, e, hg, hc⟩ := h j hj
  exact ⟨g, o, e, Nat.lt_of_lt_of_le hg hb.size, fun i u hu => (hb.cell (p := ⟨g, o + j * k + i, none⟩) hg).trans (hc i u hu)⟩
theorem ElAt.keep {α : Type} {f : α → List Value} {k B : Nat} {w w' : World} {A : Option Addr} {l : List α} (h : ElAt f k w B A l) (hb : Below B w w') : ElAt f k w' B A l := fun j hj => by
  obtain ⟨g, o, e, hg, hc⟩ := h j hj
  exact ⟨g, o, e, hg, fun i u hu => (hb.cell (p := ⟨g, o + j * k + i, none⟩) hg).trans (hc i u hu)⟩
theorem ElAt.mono {α : Type} {f : α → List Value} {k B B' : Nat} {w : World} {A : Option Addr} {l : List α} (h : ElAt f k w B A l) (hb : B ≤ B') : ElAt f k w B' A l := fun j hj => by
  obtain ⟨g, o, e, hg, hc⟩ := h j hj
  exact ⟨g, o, e, by omega, hc⟩
theorem ElAt.nil {α : Type} (f : α → List Value) (k : Nat) (w : World) (B : Nat) (A : Option Addr) : ElAt f k w B A [] := fun j hj => by simp at hj
/-- One place for all. -/
theorem ElAt.row {α : Type} {f : α → List Value} {k B : Nat} {w : World} {A : Option Addr} {l : List α} (h : ElAt f k w B A l) (hl : 0 < l.length) : ∃ g o, A = some ⟨g, o, none⟩ ∧ g < B ∧ ∀ j (hj : j < l.length) i u, (f l[j])[i]? = some u → w.cell? ⟨g, o + j * k + i, none⟩ = some u := by
  obtain ⟨g, o, e, hg, hc⟩ := h 0 hl
  refine ⟨g, o, e, hg, fun j hj i u hu => ?_⟩
  obtain ⟨g', o', e', hg', hc'⟩ := h j hj
  rw [e] at e'
  injection e' with e'
  injection e' with e1 e2 _
  subst e1 e2
  exact hc' i u hu
theorem own_el {α : Type} (f : α → List Value) (k : Nat) (hk : ∀ x, (f x).length = k) {w : World} {B : Nat} {e : TypeId} {v : Value} {l : List α} (h : w.ownsRow B e k v l.length (l.flatMap f)) : ∃ A c, v = .slice A l.length c ∧ l.length ≤ c ∧ c ≤ maxLen ∧ ElAt f k w w.heap.size A l := by
  rcases h.2 with ⟨rfl, h0⟩ | ⟨g, cap, cur, rfl, hb, hg, h1, h2, _, _⟩
  · have : l = [] := List.length_eq_zero_iff.1 h0
    subst this
    exact ⟨none, 0, rfl, Nat.le_refl _, Nat.zero_le _, ElAt.nil _ _ _ _ _⟩
  · refine ⟨_, cap, rfl, h1, h2, fun j hj => ⟨g, 0, rfl, (Array.getElem?_eq_some_iff.1 hg).1, fun i u hu => ?_⟩⟩
    have hi : i < k := by have := (List.getElem?_eq_some_iff.1 hu).1; rw [hk] at this; exact this
    have hjk : (j + 1) * k ≤ l.length * k := Nat.mul_le_mul_right k hj
    rw [Nat.add_one_mul] at hjk
    rw [Nat.zero_add, h.cellAt _ (by omega), flat_at f k hk l j i hj hi]
    exact hu
/-- The row's last element, with its block. -/
theorem own_last {α : Type} (f : α → List Value) (k : Nat) (hk : ∀ x, (f x).length = k) {w : World} {B : Nat} {e : TypeId} {v : Value} {l : List α} {x : α} (h : w.ownsRow B e k v (l.length + 1) ((l ++ [x]).flatMap f)) : ∃ g cap, v = .slice (some ⟨g, 0, none⟩) (l.length + 1) cap ∧ g < w.heap.size ∧ (∀ i u, (f x)[i]? = some u → w.cell? ⟨g, l.length * k + i, none⟩ = some u) ∧ (∀ j, w.frozen? ⟨g, j, none⟩ = false) := by
  rcases h.2 with ⟨_, h0⟩ | ⟨g, cap, cur, rfl, hb, hg, h1, h2, _, _⟩
  · omega
  · refine ⟨g, cap, rfl, (Array.getElem?_eq_some_iff.1 hg).1, fun i u hu => ?_, fun j => h.frozenAt j⟩
    have hi : i < k := by have := (List.getElem?_eq_some_iff.1 hu).1; rw [hk] at this; exact this
    rw [h.cellAt _ (by rw [Nat.add_one_mul]; omega)]
    have := flat_at f k hk (l ++ [x]) l.length i (by simp) hi
    rw [this]
    simpa using hu
/-- A field of the row's last element is stored. -/
theorem own_set {α : Type} (f : α → List Value) (k : Nat) (hk : ∀ x, (f x).length = k) {w : World} {B : Nat} {e : TypeId} {g cap : Nat} {l : List α} {x y : α} (h : w.ownsRow B e k (.slice (some ⟨g, 0, none⟩) (l.length + 1) cap) (l.length + 1) ((l ++ [x]).flatMap f)) (i : Nat) (u : Value) (he : (f x).set i u = f y) :
    (w.setCell ⟨g, l.length * k + i, none⟩ u).ownsRow B e k (.slice (some ⟨g, 0, none⟩) (l.length + 1) cap) (l.length + 1) ((l ++ [y]).flatMap f) ∧ Below B w (w.setCell ⟨g, l.length * k + i, none⟩ u) := by
  have hgB : B ≤ g := (h.lt g rfl).1
  have hst := h.stored (l.length * k + i) u
  refine ⟨?_, (Below.refl B w).setCell (p := ⟨g, l.length * k + i, none⟩) hgB _⟩
  have h1 := hst.1
  rw [flat_set f k hk, he] at h1
  rw [List.flatMap_append]
  simpa using h1
end Ls
theorem own_emptyL (w : World) (B : Nat) (hB : B ≤ w.heap.size) (T : TypeId) (size : Nat) : (w.alloc (.cells #[] T)).ownsRow B T size (.slice (some ⟨w.heap.size, 0, none⟩) 0 0) 0 [] :=
  ⟨by simp, .inr ⟨w.heap.size, 0, #[], rfl, hB, heap_alloc_new w _, Nat.le_refl _, by unfold maxLen; omega, by simp, by simp⟩⟩
theorem grown_keep {w w6 : World} {B e size n q : Nat} {v : Value} {xs : List Value} {cs : Array Value} {T : TypeId} {fr : Nat × Nat} (hown : w.ownsRow B e size v n xs) (hq : w.heap[q]? = some (.cells cs T fr)) (hT : T ≠ e) (hg : w.grownBy w6 v.ownBlock) : w6.heap[q]? = some (.cells cs T fr) := by
  rw [hg.block q (blk_lt hq) (fun hx => by
    obtain ⟨c', fz, hx2⟩ := Lib.ownsRow_kind hown q hx.symm
    rw [hq] at hx2
    simp only [Option.some.injEq, Obj.cells.injEq] at hx2
    exact hT hx2.2.1)]
  exact hq
end Go.Proofs.YtkmldaelgbkfbaaDoor
