/- Nodes, edges, numbers where they lie; rows of the call's own. No condition. -/
import Derived.Test.YtdiaejdoglccoaaTrPat
import Derived.Test.YtdiaejdoglccoaaTrOrd
import Derived.Deep.OwnRows
import Derived.Deep.RegionLaw
import Derived.Laws.OwnMore
namespace Go.Proofs.Ytdiaejdoglccoaa
open Go.RowKit Go.Deep Tr

theorem blk_lt {w : World} {q : Nat} {o : Obj} (h : w.heap[q]? = some o) : q < w.heap.size := (Array.getElem?_eq_some_iff.1 h).1
theorem addr_addS (g o j : Nat) : (⟨g, o, none⟩ : Addr).add j = ⟨g, o + j, none⟩ := by simp [Addr.add]
/-- An edge. -/
structure Ed where
  src : Int
  dst : Int
  stp : Int
deriving DecidableEq
namespace Gr
/-- Elements of k cells each, in a row. -/
theorem flat_len {α : Type} (f : α → List Value) (k : Nat) (hk : ∀ x, (f x).length = k) (l : List α) : (l.flatMap f).length = l.length * k := by
  induction l with
  | nil => simp
  | cons x t ih => rw [List.flatMap_cons, List.length_append, ih, hk, List.length_cons]; rw [Nat.add_one_mul]; omega
theorem flat_at {α : Type} (f : α → List Value) (k : Nat) (hk : ∀ x, (f x).length = k) : ∀ (l : List α) (j i : Nat) (h : j < l.length), i < k → (l.flatMap f)[j * k + i]? = (f l[j])[i]?
  | x :: t, 0, i, _, hi => by
    rw [List.flatMap_cons, List.getElem?_append_left (by rw [hk]; omega)]
    simp
  | x :: t, j + 1, i, h, hi => by
    rw [List.flatMap_cons, List.getElem?_append_right (by rw [hk, Nat.add_one_mul]; omega), hk]
    have := flat_at f k hk t j i (by simpa using h) hi
    rw [show (j + 1) * k + i - k = j * k + i by rw [Nat.add_one_mul]; omega, this]
    simp
theorem flat_set {α : Type} (f : α → List Value) (k : Nat) (hk : ∀ x, (f x).length = k) (l : List α) (x : α) (i : Nat) (u : Value) : ((l ++ [x]).flatMap f).set (l.length * k + i) u = l.flatMap f ++ (f x).set i u := by
  rw [List.flatMap_append, List.set_append_right _ _ (by rw [flat_len f k hk]; omega), flat_len f k hk]
  simp
def stV (s : List UInt8) : List Value := [.string (str s)]
def stsV (l : List (List UInt8)) : List Value := l.flatMap stV
def edV (x : Ed) : List Value := [.int .i64 x.src, .int .i64 x.dst, .int .i64 x.stp]
def edsV (l : List Ed) : List Value := l.flatMap edV
def inV (n : Int) : List Value := [.int .i64 n]
def insV (l : List Int) : List Value := l.flatMap inV
theorem stV_len (s : List UInt8) : (stV s).length = 1 := rfl
theorem edV_len (x : Ed) : (edV x).length = 3 := rfl
theorem inV_len (n : Int) : (inV n).length = 1 := rfl
theorem insV_map (l : List Int) : insV l = l.map fun n => Value.int .i64 n := by
  induction l with
  | nil => rfl
  | cons x t ih => show inV x ++ insV t = _; rw [ih]; rfl
theorem insV_len (l : List Int) : (insV l).length = l.length := by rw [insV_map, List.length_map]
theorem edsV_len (l : List Ed) : (edsV l).length = l.length * 3 := flat_len edV 3 edV_len l
theorem insV_app (a b : List Int) : insV (a ++ b) = insV a ++ insV b := List.flatMap_append
theorem insV_one (n : Int) : insV [n] = [.int .i64 n] := rfl
theorem insV_ones (l : List Int) : ∀ u ∈ insV l, u.oneCell' = true := fun u hu => by
  rw [insV_map, List.mem_map] at hu
  obtain ⟨n, _, rfl⟩ := hu
  rfl
theorem insV_set (l : List Int) (k : Nat) (x : Int) : insV (l.set k x) = (insV l).set k (.int .i64 x) := by
  rw [insV_map, insV_map, List.map_set]
theorem edsV_ones (l : List Ed) : ∀ u ∈ edsV l, u.oneCell' = true := fun u hu => by
  obtain ⟨s, _, h⟩ := List.mem_flatMap.1 hu
  simp only [edV, List.mem_cons, List.not_mem_nil, or_false] at h
  rcases h with rfl | rfl | rfl <;> rfl
/-- Elements of k cells where they lie, below B. -/
def ElAt {α : Type} (f : α → List Value) (k : Nat) (w : World) (B : Nat) (A : Option Addr) (l : List α) : Prop := ∀ j (h : j < l.length), ∃ g o, A = some ⟨g, o, none⟩ ∧ g < B ∧ ∀ i u, (f l[j])[i]? = some u → w.cell? ⟨g, o + j * k + i, none⟩ = some u
theorem ElAt.next {α : Type} {f : α → List Value} {k : Nat} {w w' : World} {A : Option Addr} {l : List α} (h : ElAt f k w w.heap.size A l) (hb : Below w.heap.size w w') : ElAt f k w' w'.heap.size A l := fun j hj => by
  obtain ⟨g, o, e, hg, hc⟩ := h j hj
  exact ⟨g, o, e, Nat.lt_of_lt_of_le hg hb.size, fun i u hu => (hb.cell (p := ⟨g, o + j * k + i, none⟩) hg).trans (hc i u hu)⟩
theorem ElAt.keep {α : Type} {f : α → List Value} {k B : Nat} {w w' : World} {A : Option Addr} {l : List α} (h : ElAt f k w B A l) (hb : Below B w w') : ElAt f k w' B A l := fun j hj => by
  obtain ⟨g, o, e, hg, hc⟩ := h j hj
  exact ⟨g, o, e, hg, fun i u hu => (hb.cell (p := ⟨g, o + j * k + i, none⟩) hg).trans (hc i u hu)⟩
theorem ElAt.mono {α : Type} {f : α → List Value} {k B B' : Nat} {w : World} {A : Option Addr} {l : List α} (h : ElAt f k w B A l) (hb : B ≤ B') : ElAt f k w B' A l := fun j hj => by
  obtain ⟨g, o, e, hg, hc⟩ := h j hj
  exact ⟨g, o, e, by omega, hc⟩
theorem ElAt.nil {α : Type} (f : α → List Value) (k : Nat) (w : World) (B : Nat) (A : Option Addr) : ElAt f k w B A [] := fun j hj => by simp at hj
/-- One place for all. -/
theorem ElAt.row {α : Type} {f : α → List Value} {k B : Nat} {w : World} {A : Option Addr} {l : List α} (h : ElAt f k w B A l) (hl : 0 < l.length) : ∃ g o, A = some ⟨g, o, none⟩ ∧ g < B ∧ ∀ j (hj : j < l.length) i u, (f l[j])[i]? = some u → w.cell? ⟨g, o + j * k + i, none⟩ = some u := by
  obtain ⟨g, o, e, hg, hc⟩ := h 0 hl
  refine ⟨g, o, e, hg, fun j hj i u hu => ?_⟩
  obtain ⟨g', o', e', hg', hc'⟩ := h j hj
  rw [e] at e'
  injection e' with e'
  injection e' with e1 e2 _
  subst e1 e2
  exact hc' i u hu
abbrev StAt := ElAt stV 1
abbrev EdAt := ElAt edV 3
abbrev InAt := ElAt inV 1
theorem own_el {α : Type} (f : α → List Value) (k : Nat) (hk : ∀ x, (f x).length = k) {w : World} {B : Nat} {e : TypeId} {v : Value} {l : List α} (h : w.ownsRow B e k v l.length (l.flatMap f)) : ∃ A c, v = .slice A l.length c ∧ l.length ≤ c ∧ c ≤ maxLen ∧ ElAt f k w w.heap.size A l := by
  rcases h.2 with ⟨rfl, h0⟩ | ⟨g, cap, cur, rfl, hb, hg, h1, h2, _, _⟩
  · have : l = [] := List.length_eq_zero_iff.1 h0
    subst this
    exact ⟨none, 0, rfl, Nat.le_refl _, Nat.zero_le _, ElAt.nil _ _ _ _ _⟩
  · refine ⟨_, cap, rfl, h1, h2, fun j hj => ⟨g, 0, rfl, (Array.getElem?_eq_some_iff.1 hg).1, fun i u hu => ?_⟩⟩
    have hi : i < k := by have := (List.getElem?_eq_some_iff.1 hu).1; rw [hk] at this; exact this
    have hjk : (j + 1) * k ≤ l.length * k := Nat.mul_le_mul_right k hj
    rw [Nat.add_one_mul] at hjk
    rw [Nat.zero_add, h.cellAt _ (by omega), flat_at f k hk l j i hj hi]
    exact hu
/-- The row's last element, with its block. -/
theorem own_last {α : Type} (f : α → List Value) (k : Nat) (hk : ∀ x, (f x).length = k) {w : World} {B : Nat} {e : TypeId} {v : Value} {l : List α} {x : α} (h : w.ownsRow B e k v (l.length + 1) ((l ++ [x]).flatMap f)) : ∃ g cap, v = .slice (some ⟨g, 0, none⟩) (l.length + 1) cap ∧ g < w.heap.size ∧ (∀ i u, (f x)[i]? = some u → w.cell? ⟨g, l.length * k + i, none⟩ = some u) ∧ (∀ j, w.frozen? ⟨g, j, none⟩ = false) := by
  rcases h.2 with ⟨_, h0⟩ | ⟨g, cap, cur, rfl, hb, hg, h1, h2, _, _⟩
  · omega
  · refine ⟨g, cap, rfl, (Array.getElem?_eq_some_iff.1 hg).1, fun i u hu => ?_, fun j => h.frozenAt j⟩
    have hi : i < k := by have := (List.getElem?_eq_some_iff.1 hu).1; rw [hk] at this; exact this
    rw [h.cellAt _ (by rw [Nat.add_one_mul]; omega)]
    have := flat_at f k hk (l ++ [x]) l.length i (by simp) hi
    rw [this]
    simpa using hu
/-- A field of the row's last element is stored. -/
theorem own_set {α : Type} (f : α → List Value) (k : Nat) (hk : ∀ x, (f x).length = k) {w : World} {B : Nat} {e : TypeId} {g cap : Nat} {l : List α} {x y : α} (h : w.ownsRow B e k (.slice (some ⟨g, 0, none⟩) (l.length + 1) cap) (l.length + 1) ((l ++ [x]).flatMap f)) (i : Nat) (u : Value) (he : (f x).set i u = f y) :
    (w.setCell ⟨g, l.length * k + i, none⟩ u).ownsRow B e k (.slice (some ⟨g, 0, none⟩) (l.length + 1) cap) (l.length + 1) ((l ++ [y]).flatMap f) ∧ Below B w (w.setCell ⟨g, l.length * k + i, none⟩ u) := by
  have hgB : B ≤ g := (h.lt g rfl).1
  have hst := h.stored (l.length * k + i) u
  refine ⟨?_, (Below.refl B w).setCell (p := ⟨g, l.length * k + i, none⟩) hgB _⟩
  have h1 := hst.1
  rw [flat_set f k hk, he] at h1
  rw [List.flatMap_append]
  simpa using h1
end Gr
/-- A graph: its nodes and its edges. -/
structure Gph where
  ns : List (List UInt8)
  es : List Ed
/-- A graph where it lies. -/
structure GrAt (w : World) (A B : Option Addr) (g : Gph) : Prop where
  ns : Gr.StAt w w.heap.size A g.ns
  es : Gr.EdAt w w.heap.size B g.es
  nl : g.ns.length ≤ 140737488351232
  el : g.es.length ≤ 140737488351232
theorem GrAt.next {w w' : World} {A B : Option Addr} {g : Gph} (h : GrAt w A B g) (hb : Below w.heap.size w w') : GrAt w' A B g := ⟨h.ns.next hb, h.es.next hb, h.nl, h.el⟩
/-- A graph's value. -/
abbrev grV (A B : Option Addr) (c d : Nat) (g : Gph) : Value := .agg #[.slice A g.ns.length c, .slice B g.es.length d]
theorem infoEd : (Try.prog.info? 42).map (fun i => (i.zero, i.size, i.bytes)) = some (some (.agg #[.int .i64 0, .int .i64 0, .int .i64 0]), 3, 24) := by kernel_rfl
theorem infoIn : (Try.prog.info? 3).map (fun i => (i.zero, i.size, i.bytes)) = some (some (.int .i64 0), 1, 8) := by kernel_rfl
theorem infoIns : (Try.prog.info? 29).map (fun i => (i.zero, i.size, i.bytes)) = some (some (.slice none 0 0), 1, 24) := by kernel_rfl
end Go.Proofs.Ytdiaejdoglccoaa
