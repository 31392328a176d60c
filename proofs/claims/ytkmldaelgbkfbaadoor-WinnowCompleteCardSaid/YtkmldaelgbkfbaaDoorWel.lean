/- Numbers and fingerprints where they lie; rows of the call's own; a list of numbers that loses its first or its last element and is appended to. No condition. -/
import Derived.Test.YtkmldaelgbkfbaaDoorWpl
import Derived.Test.YtkmldaelgbkfbaaDoorShelf
import Derived.Test.YtkmldaelgbkfbaaDoorRows
import Derived.WalkKit
import Derived.WalkSpells
import Derived.WalkLawsBesides
import Derived.Lib.Hide
import Derived.Lib.OwnKind
import Derived.Deep.OwnRows
import Derived.Deep.RegionLaw
import Derived.Deep.LoopGhost
import Derived.Deep.DeepCutAuto
import Derived.Deep.DeepAppendWide
import Derived.Deep.AppendLies
import Derived.Laws.OwnMore
import Derived.ArgAppend
import Derived.Deep.QuietTactic
import Derived.BigQuiet
namespace Go.Proofs.YtkmldaelgbkfbaaDoor
open Go.RowKit Go.Deep
namespace Wn
theorem blk_lt {w : World} {q : Nat} {o : Obj} (h : w.heap[q]? = some o) : q < w.heap.size := (Array.getElem?_eq_some_iff.1 h).1
theorem addr_addS (g o j : Nat) : (⟨g, o, none⟩ : Addr).add j = ⟨g, o + j, none⟩ := by simp [Addr.add]
/-- A fingerprint. -/
structure Fp where
  hash : Int
  pos : Int
deriving DecidableEq
namespace Gr
/-- Elements of k cells each, in a row. -/
theorem flat_len {α : Type} (f : α → List Value) (k : Nat) (hk : ∀ x, (f x).length = k) (l : List α) : (l.flatMap f).length = l.length * k := by
  induction l with
  | nil => simp
  | cons x t ih => rw [List.flatMap_cons, List.length_append, ih, hk, List.length_cons]; rw [Nat.add_one_mul]; omega
theorem flat_at {α : Type} (f : α → List Value) (k : Nat) (hk : ∀ x, (f x).length = k) : ∀ (l : List α) (j i : Nat) (h : j < l.length), i < k → (l.flatMap f)[j * k + i]? = (f l[j])[i]?
  | x :: t, 0, i, _, hi => by
    rw [List.flatMap_cons, List.getElem?_append_left (by rw [hk]; omega)]
    simp
  | x :: t, j + 1, i, h, hi => by
    rw [List.flatMap_cons, List.getElem?_append_right (by rw [hk, Nat.add_one_mul]; omega), hk]
    have := flat_at f k hk t j i (by simpa using h) hi
    rw [show (j + 1) * k + i - k = j * k + i by rw [Nat.add_one_mul]; omega, this]
    simp
theorem flat_set {α : Type} (f : α → List Value) (k : Nat) (hk : ∀ x, (f x).length = k) (l : List α) (x : α) (i : Nat) (u : Value) : ((l ++ [x]).flatMap f).set (l.length * k + i) u = l.flatMap f ++ (f x).set i u := by
  rw [List.flatMap_append, List.set_append_right _ _ (by rw [flat_len f k hk]; omega), flat_len f k hk]
  simp
def edV (x : Fp) : List Value := [.int .i64 x.hash, .int .i64 x.pos]
def edsV (l : List Fp) : List Value := l.flatMap edV
def inV (n : Int) : List Value := [.int .i64 n]
def insV (l : List Int) : List Value := l.flatMap inV
theorem edV_len (x : Fp) : (edV x).length = 2 := rfl
theorem inV_len (n : Int) : (inV n).length = 1 := rfl
theorem insV_map (l : List Int) : insV l = l.map fun n => Value.int .i64 n := by
  induction l with
  | nil => rfl
  | cons x t ih => show inV x ++ insV t = _; rw [ih]; rfl
theorem insV_len (l : List Int) : (insV l).length = l.length := by rw [insV_map, List.length_map]
theorem edsV_len (l : List Fp) : (edsV l).length = l.length * 2 := flat_len edV 2 edV_len l
theorem insV_app (a b : List Int) : insV (a ++ b) = insV a ++ insV b := List.flatMap_append
theorem insV_one (n : Int) : insV [n] = [.int .i64 n] := rfl
theorem insV_ones (l : List Int) : ∀ u ∈ insV l, u.oneCell' = true := fun u hu => by
  rw [insV_map, List.mem_map] at hu
  obtain ⟨n, _, rfl⟩ := hu
  rfl
theorem insV_set (l : List Int) (k : Nat) (x : Int) : insV (l.set k x) = (insV l).set k (.int .i64 x) := by
  rw [insV_map, insV_map, List.map_set]
theorem edsV_ones (l : List Fp) : ∀ u ∈ edsV l, u.oneCell' = true := fun u hu => by
  obtain ⟨s, _, h⟩ := List.mem_flatMap.1 hu
  simp only [edV, List.mem_cons, List.not_mem_nil, or_false] at h
  rcases h with rfl | rfl <;> rfl
/-- Elements of k cells where they lie, below B. -/
def ElAt {α : Type} (f : α → List Value) (k : Nat) (w : World) (B : Nat) (A : Option Addr) (l : List α) : Prop := ∀ j (h : j < l.length), ∃ g o, A = some ⟨g, o, none⟩ ∧ g < B ∧ ∀ i u, (f l[j])[i]? = some u → w.cell? ⟨g, o + j * k + i, none⟩ = some u
theorem ElAt.next {α : Type} {f : α → List Value} {k : Nat} {w w' : World} {A : Option Addr} {l : List α} (h : ElAt f k w w.heap.size A l) (hb : Below w.heap.size w w') : ElAt f k w' w'.heap.size A l := fun j hj => by
  obtain ⟨g, o, e, hg, hc⟩ := h j hj
  exact ⟨g, o, e, Nat.lt_of_lt_of_le hg hb.size, fun i u hu => (hb.cell (p := ⟨g, o + j * k + i, none⟩) hg).trans (hc i u hu)⟩
theorem ElAt.keep {α : Type} {f : α → List Value} {k B : Nat} {w w' : World} {A : Option Addr} {l : List α} (h : ElAt f k w B A l) (hb : Below B w w') : ElAt f k w' B A l := fun j hj => by
  obtain ⟨g, o, e, hg, hc⟩ := h j hj
  exact ⟨g, o, e, hg, fun i u hu => (hb.cell (p := ⟨g, o + j * k + i, none⟩) hg).trans (hc i u hu)⟩
theorem ElAt.mono {α : Type} {f : α → List Value} {k B B' : Nat} {w : World} {A : Option Addr} {l : List α} (h : ElAt f k w B A l) (hb : B ≤ B') : ElAt f k w B' A l := fun j hj => by
  obtain ⟨g, o, e, hg, hc⟩ := h j hj
  exact ⟨g, o, e, by omega, hc⟩
theorem ElAt.nil {α : Type} (f : α → List Value) (k : Nat) (w : World) (B : Nat) (A : Option Addr) : ElAt f k w B A [] := fun j hj => by simp at hj
/-- One place for all. -/
theorem ElAt.row {α : Type} {f : α → List Value} {k B : Nat} {w : World} {A : Option Addr} {l : List α} (h : ElAt f k w B A l) (hl : 0 < l.length) : ∃ g o, A = some ⟨g, o, none⟩ ∧ g < B ∧ ∀ j (hj : j < l.length) i u, (f l[j])[i]? = some u → w.cell? ⟨g, o + j * k + i, none⟩ = some u := by
  obtain ⟨g, o, e, hg, hc⟩ := h 0 hl
  refine ⟨g, o, e, hg, fun j hj i u hu => ?_⟩
  obtain ⟨g', o', e', hg', hc'⟩ := h j hj
  rw [e] at e'
  injection e' with e'
  injection e' with e1 e2 _
  subst e1 e2
  exact hc' i u hu
abbrev EdAt := ElAt edV 2
abbrev InAt := ElAt inV 1
theorem own_el {α : Type} (f : α → List Value) (k : Nat) (hk : ∀ x, (f x).length = k) {w : World} {B : Nat} {e : TypeId} {v : Value} {l : List α} (h : w.ownsRow B e k v l.length (l.flatMap f)) : ∃ A c, v = .slice A l.length c ∧ l.length ≤ c ∧ c ≤ maxLen ∧ ElAt f k w w.heap.size A l := by
  rcases h.2 with ⟨rfl, h0⟩ | ⟨g, cap, cur, rfl, hb, hg, h1, h2, _, _⟩
  · have : l = [] := List.length_eq_zero_iff.1 h0
    subst this
    exact ⟨none, 0, rfl, Nat.le_refl _, Nat.zero_le _, ElAt.nil _ _ _ _ _⟩
  · refine ⟨_, cap, rfl, h1, h2, fun j hj => ⟨g, 0, rfl, (Array.getElem?_eq_some_iff.1 hg).1, fun i u hu => ?_⟩⟩
    have hi : i < k := by have := (List.getElem?_eq_some_iff.1 hu).1; rw [hk] at this; exact this
    have hjk : (j + 1) * k ≤ l.length * k := Nat.mul_le_mul_right k hj
    rw [Nat.add_one_mul] at hjk
    rw [Nat.zero_add, h.cellAt _ (by omega), flat_at f k hk l j i hj hi]
    exact hu
/-- The row's last element, with its block. -/
theorem own_last {α : Type} (f : α → List Value) (k : Nat) (hk : ∀ x, (f x).length = k) {w : World} {B : Nat} {e : TypeId} {v : Value} {l : List α} {x : α} (h : w.ownsRow B e k v (l.length + 1) ((l ++ [x]).flatMap f)) : ∃ g cap, v = .slice (some ⟨g, 0, none⟩) (l.length + 1) cap ∧ g < w.heap.size ∧ (∀ i u, (f x)[i]? = some u → w.cell? ⟨g, l.length * k + i, none⟩ = some u) ∧ (∀ j, w.frozen? ⟨g, j, none⟩ = false) := by
  rcases h.2 with ⟨_, h0⟩ | ⟨g, cap, cur, rfl, hb, hg, h1, h2, _, _⟩
  · omega
  · refine ⟨g, cap, rfl, (Array.getElem?_eq_some_iff.1 hg).1, fun i u hu => ?_, fun j => h.frozenAt j⟩
    have hi : i < k := by have := (List.getElem?_eq_some_iff.1 hu).1; rw [hk] at this; exact this
    rw [h.cellAt _ (by rw [Nat.add_one_mul]; omega)]
    have := flat_at f k hk (l ++ [x]) l.length i (by simp) hi
    rw [this]
    simpa using hu
/-- A field of the row's last element is stored. -/
theorem own_set {α : Type} (f : α → List Value) (k : Nat) (hk : ∀ x, (f x).length = k) {w : World} {B : Nat} {e : TypeId} {g cap : Nat} {l : List α} {x y : α} (h : w.ownsRow B e k (.slice (some ⟨g, 0, none⟩) (l.length + 1) cap) (l.length + 1) ((l ++ [x]).flatMap f)) (i : Nat) (u : Value) (he : (f x).set i u = f y) :
    (w.setCell ⟨g, l.length * k + i, none⟩ u).ownsRow B e k (.slice (some ⟨g, 0, none⟩) (l.length + 1) cap) (l.length + 1) ((l ++ [y]).flatMap f) ∧ Below B w (w.setCell ⟨g, l.length * k + i, none⟩ u) := by
  have hgB : B ≤ g := (h.lt g rfl).1
  have hst := h.stored (l.length * k + i) u
  refine ⟨?_, (Below.refl B w).setCell (p := ⟨g, l.length * k + i, none⟩) hgB _⟩
  have h1 := hst.1
  rw [flat_set f k hk, he] at h1
  rw [List.flatMap_append]
  simpa using h1
end Gr
theorem own_same {w w' : World} {B e size n : Nat} {v : Value} {xs : List Value} (h : w.ownsRow B e size v n xs) (hb : ∀ g, v.ownBlock = some g → w'.heap[g]? = w.heap[g]?) : w'.ownsRow B e size v n xs := by
  rcases h with ⟨h1, ⟨rfl, h2⟩ | ⟨g, cap, cur, rfl, h2, h3, h4⟩⟩
  · exact ⟨h1, .inl ⟨rfl, h2⟩⟩
  · exact ⟨h1, .inr ⟨g, cap, cur, rfl, h2, (hb g rfl).trans h3, h4⟩⟩
theorem kind_ne {w : World} {q g : Nat} {c c' : Array Value} {T T' : TypeId} {f f' : Nat × Nat} (h : w.heap[q]? = some (.cells c T f)) (h' : w.heap[g]? = some (.cells c' T' f')) (hT : T ≠ T') : q ≠ g := fun e => by
  subst e
  rw [h] at h'
  simp only [Option.some.injEq, Obj.cells.injEq] at h'
  exact hT h'.2.1
theorem below_grown {B e size n : Nat} {w W w6 : World} {v : Value} {xs : List Value} (hb : Below B w W) (hB : B ≤ W.heap.size) (ho : W.ownsRow B e size v n xs) (hg : W.grownBy w6 v.ownBlock) : Below B w w6 :=
  hb.trans ⟨hg.os, hg.tape, hg.output, hg.size, fun k hk => hg.block k (by omega) (fun e => by have := (ho.lt k e.symm).1; omega)⟩
theorem in_cell {w : World} {B : Nat} {A : Option Addr} {l : List Int} (h : Gr.InAt w B A l) {k : Nat} (hk : k < l.length) : ∃ g o, A = some ⟨g, o, none⟩ ∧ g < B ∧ w.cell? ⟨g, o + k, none⟩ = some (.int .i64 l[k]) := by
  obtain ⟨g, o, e, hg, hc⟩ := h k hk
  have := hc 0 _ rfl
  rw [Nat.mul_one] at this
  exact ⟨g, o, e, hg, this⟩
/-- A queue where it lies, in a block of the call's own. -/
structure QAt (w : World) (B : Nat) (v : Value) (q : List Int) : Prop where
  ex : ∃ ao cap, v = .slice ao q.length cap ∧ (ao = none → q = [] ∧ cap = 0) ∧ cap ≤ maxLen ∧ q.length ≤ cap ∧ ∀ b, ao = some b → ∃ g o cur, b = ⟨g, o, none⟩ ∧ B ≤ g ∧ w.heap[g]? = some (.cells cur 3 (0, 0)) ∧ o + cap ≤ cur.size ∧ ∀ j (h : j < q.length), cur[o + j]? = some (.int .i64 q[j])
theorem QAt.nil (w : World) (B : Nat) : QAt w B (.slice none 0 0) [] := ⟨none, 0, rfl, fun _ => ⟨rfl, rfl⟩, Nat.zero_le _, Nat.le_refl _, fun b h => by cases h⟩
theorem QAt.lt {w : World} {B : Nat} {v : Value} {q : List Int} (h : QAt w B v q) : ∀ g, v.ownBlock = some g → g < w.heap.size ∧ B ≤ g ∧ ∃ cur, w.heap[g]? = some (.cells cur 3 (0, 0)) := fun g hg => by
  obtain ⟨ao, cap, rfl, _, _, _, h4⟩ := h.ex
  cases ao with
  | none => simp [Value.ownBlock] at hg
  | some b =>
    obtain ⟨g', o, cur, rfl, h5, h6, _⟩ := h4 b rfl
    simp only [Value.ownBlock, Option.some.injEq] at hg
    subst hg
    exact ⟨blk_lt h6, h5, cur, h6⟩
theorem QAt.same {w w' : World} {B : Nat} {v : Value} {q : List Int} (h : QAt w B v q) (hb : ∀ g, v.ownBlock = some g → w'.heap[g]? = w.heap[g]?) : QAt w' B v q := by
  obtain ⟨ao, cap, rfl, h1, h2, h3, h4⟩ := h.ex
  refine ⟨ao, cap, rfl, h1, h2, h3, fun b hb2 => ?_⟩
  subst hb2
  obtain ⟨g, o, cur, rfl, h5, h6, h7⟩ := h4 b rfl
  exact ⟨g, o, cur, rfl, h5, (hb g rfl).trans h6, h7⟩
theorem QAt.of_own {w : World} {B B' : Nat} {v : Value} {q : List Int} (h : w.ownsRow B' 3 1 v q.length (Gr.insV q)) (hB : B ≤ B') : QAt w B v q := by
  rcases h.2 with ⟨rfl, h0⟩ | ⟨g, cap, cur, rfl, h2, h3, h4, h5, h6, h7⟩
  · have : q = [] := List.length_eq_zero_iff.1 h0
    subst this
    exact QAt.nil _ _
  · refine ⟨_, cap, rfl, fun h => (by cases h), h5, h4, fun b hb => ?_⟩
    injection hb with hb
    refine ⟨g, 0, cur, hb.symm, by omega, h3, by rw [h6]; omega, fun j hj => ?_⟩
    have h8 : (cur.toList.take (q.length * 1))[j]? = (Gr.insV q)[j]? := by rw [h7]
    rw [List.getElem?_take_of_lt (by omega), Gr.insV_map, List.getElem?_map, List.getElem?_eq_getElem hj] at h8
    rw [Nat.zero_add, ← Array.getElem?_toList]
    exact h8
/-- The first element lies where the queue begins. -/
theorem QAt.head {w : World} {B : Nat} {v : Value} {x : Int} {q : List Int} (h : QAt w B v (x :: q)) : ∃ g o cap, v = .slice (some ⟨g, o, none⟩) (q.length + 1) cap ∧ q.length + 1 ≤ cap ∧ cap ≤ maxLen ∧ w.cell? ⟨g, o, none⟩ = some (.int .i64 x) ∧
    (q.length + 1 < cap → QAt w B (.slice (some ⟨g, o + 1, none⟩) q.length (cap - 1)) q) ∧ (cap = 1 → q = [] ∧ QAt w B (.slice (some ⟨g, o, none⟩) 0 0) []) ∧ (q.length + 1 = cap → 1 < cap → QAt w B (.slice (some ⟨g, o + 1, none⟩) q.length (cap - 1)) q) := by
  obtain ⟨ao, cap, rfl, h1, h2, h3, h4⟩ := h.ex
  cases ao with
  | none => exact absurd (h1 rfl).1 (by simp)
  | some b =>
    obtain ⟨g, o, cur, rfl, h5, h6, h7, h8⟩ := h4 b rfl
    simp only [List.length_cons] at h3 h8
    have key : 1 < cap → QAt w B (.slice (some ⟨g, o + 1, none⟩) q.length (cap - 1)) q := fun hc =>
      ⟨_, cap - 1, rfl, fun h => by (cases h), by omega, by omega, fun b hb => by
        injection hb with hb
        refine ⟨g, o + 1, cur, hb.symm, h5, h6, by omega, fun j hj => ?_⟩
        have := h8 (j + 1) (by omega)
        rw [show o + 1 + j = o + (j + 1) by omega, this]
        rfl⟩
    refine ⟨g, o, cap, rfl, h3, h2, ?_, fun hc => key (by omega), fun hc => ?_, fun _ hc => key hc⟩
    · have := h8 0 (by omega)
      rw [cell_of_row _ _ _ _ _ _ h6]
      exact this
    · have hq : q = [] := List.length_eq_zero_iff.1 (by omega)
      exact ⟨hq, _, 0, rfl, fun h => by (cases h), Nat.zero_le _, Nat.le_refl _, fun b hb => by
        injection hb with hb
        exact ⟨g, o, cur, hb.symm, h5, h6, by omega, fun j hj => by simp at hj⟩⟩
section
variable {P : Program} {w : World}
/-- Appending to a queue. -/
theorem wpList_append_q {ops : Array Oper} {rest : List Oper} {o : Oper} {a : Act} {Q : Exit → Act → World → Prop} (hgd : o.guard = none) (s x : Operand) (t : TypeId)
    (ho : o.op = .call { callee := .builtin .append, args := #[s, x], argTypes := #[t, t] })
    (B : Nat) (i : TypeInfo) (ht : P.underlying t = some (.slice 3)) (hi : P.info? 3 = some i) (hz : i.zero = some (.int .i64 0)) (hsize : i.size = 1) (hby : i.bytes = 8)
    (v : Value) (q : List Int) (hs : a.eval s = v) (hq : QAt w B v q) (ad : Addr) (y : Int) (hx : a.eval x = .slice (some ad) 1 1) (hy : w.cell? ad = some (.int .i64 y)) (hl : q.length ≤ 100000) (hB : B ≤ w.heap.size)
    (h : ∀ v' w', QAt w' B v' (q ++ [y]) → w.grownBy w' v.ownBlock → (∀ g, v'.ownBlock = some g → v.ownBlock = some g ∨ w.heap.size ≤ g) → wpList P ops Q rest (a.put o.dst v') w') : wpList P ops Q (o :: rest) a w := by
  obtain ⟨ao, cap, rfl, h1, h2, h3, h4⟩ := hq.ex
  have hnews : ∀ j u, [Value.int .i64 y][j]? = some u → w.cell? (ad.add j) = some u := fun j u hj => by
    cases j with
    | zero =>
      simp only [List.getElem?_cons_zero, Option.some.injEq] at hj
      subst hj
      rwa [show ad.add 0 = ad by cases ad; simp [Addr.add]]
    | succ j => simp at hj
  have hones : ∀ u ∈ [Value.int .i64 y], u.oneCell' = true := by simp [Value.oneCell']
  have happ : Gr.insV q ++ [.int .i64 y] = Gr.insV (q ++ [y]) := by rw [Gr.insV_app]; rfl
  have grown : ∀ v' w', w'.ownsRow w.heap.size 3 1 v' (q.length + 1) (Gr.insV q ++ [.int .i64 y]) → w.grownBy w' none → wpList P ops Q rest (a.put o.dst v') w' := fun v' w' h5 h6 => by
    rw [happ] at h5
    refine h v' w' (QAt.of_own (by rw [List.length_append]; exact h5) hB) ⟨h6.os, h6.tape, h6.output, h6.size, fun k hk _ => h6.block k hk (by simp)⟩ fun g hg => .inr (h5.lt g hg).1
  cases ao with
  | none =>
    obtain ⟨rfl, rfl⟩ := h1 rfl
    exact wpList_append_grows w hgd s x t ho 3 i (.int .i64 0) 1 8 ht hi hz hsize hby rfl (by omega) none 0 0 [] hs (fun _ => ⟨rfl, rfl⟩) rfl (fun b hb => by cases hb) ad 1 1 _ hx rfl hnews hones (by omega) (by unfold maxLen; omega) (by omega) grown
  | some b =>
    obtain ⟨g, off, cur, rfl, h5, h6, h7, h8⟩ := h4 b rfl
    have hc : ∀ j u, (Gr.insV q)[j]? = some u → w.cell? ⟨g, off + j, none⟩ = some u := fun j u hu => by
      have hj : j < q.length := by have := (List.getElem?_eq_some_iff.1 hu).1; rwa [Gr.insV_len] at this
      rw [Gr.insV_map, List.getElem?_map, List.getElem?_eq_getElem hj] at hu
      simp only [Option.map_some, Option.some.injEq] at hu
      subst hu
      rw [cell_of_row _ _ _ _ _ _ h6]
      exact h8 j hj
    refine wpList_append_arg w hgd s x t ho 3 i (.int .i64 0) 1 8 ht hi hz hsize hby rfl (by omega) g off q.length cap (Gr.insV q) hs (by rw [Gr.insV_len]; omega) hc ad 1 1 _ hx rfl hnews hones (fun hr j hj => ?_) (by unfold maxLen; omega) (by omega) (fun hr => ?_) (fun _ => grown)
    · simp only [List.length_singleton] at hj
      obtain rfl : j = 0 := by omega
      refine ⟨?_, frozen_of_row w g _ _ _ h6⟩
      rw [cell_of_row _ _ _ _ _ _ h6, Array.getElem?_eq_getElem (by omega)]
      rfl
    · have hset : w.setCells g (off + q.length * 1) [.int .i64 y] = w.setCell ⟨g, off + q.length, none⟩ (.int .i64 y) := by rw [Nat.mul_one]; rfl
      rw [hset]
      have hheap := heap_setCell_same w g (off + q.length) cur _ (.int .i64 y) h6
      refine h _ _ ⟨_, cap, by rw [List.length_append]; rfl, fun h => by (cases h), h2, by rw [List.length_append]; exact hr, fun b hb => ?_⟩ ⟨rfl, rfl, rfl, by simp, fun k hk hne => heap_setCell_other w ⟨g, off + q.length, none⟩ k _ (fun e => hne (by rw [e]; rfl))⟩ (fun g' hg' => .inl hg')
      injection hb with hb
      refine ⟨g, off, _, hb.symm, h5, hheap, by simpa using h7, fun j hj => ?_⟩
      rw [List.length_append, List.length_singleton] at hj
      by_cases hjq : j < q.length
      · rw [Array.getElem?_setIfInBounds_ne (by omega), List.getElem_append_left hjq]
        exact h8 j hjq
      · obtain rfl : j = q.length := by omega
        rw [Array.getElem?_setIfInBounds_self_of_lt (by omega)]
        simp
end
theorem infoIn : (Tryd.prog.info? 3).map (fun i => (i.zero, i.size, i.bytes)) = some (some (.int .i64 0), 1, 8) := by kernel_rfl
theorem info_parts {P : Program} {t : TypeId} {z : Value} {n b : Nat} (h : (P.info? t).map (fun i => (i.zero, i.size, i.bytes)) = some (some z, n, b)) : ∃ i, P.info? t = some i ∧ i.zero = some z ∧ i.size = n ∧ i.bytes = b := by
  obtain ⟨i, hi, he⟩ := Option.map_eq_some_iff.1 h
  simp only [Prod.mk.injEq] at he
  exact ⟨i, hi, he.1, he.2.1, he.2.2⟩
theorem below_drewN (w : World) (n : Nat) : Below w.heap.size w (w.drewN n) := ⟨rfl, rfl, rfl, Nat.le_refl _, fun _ _ => rfl⟩
theorem own_below {w w' : World} {B e size n : Nat} {v : Value} {xs : List Value} (h : w.ownsRow B e size v n xs) (hb : Below w.heap.size w w') : w'.ownsRow B e size v n xs :=
  own_same h fun g hg => by
    obtain ⟨c, fz, h5⟩ := Lib.ownsRow_kind h g hg
    exact hb.block g (blk_lt h5)
/-- The list loses its last elements. -/
theorem QAt.cut {w : World} {B : Nat} {v : Value} {q : List Int} (h : QAt w B v q) (hq : 0 < q.length) : ∃ g o cap, v = .slice (some ⟨g, o, none⟩) q.length cap ∧ q.length ≤ cap ∧ cap ≤ maxLen ∧ g < w.heap.size ∧ B ≤ g ∧ (∀ j (h : j < q.length), w.cell? ⟨g, o + j, none⟩ = some (.int .i64 q[j])) ∧
    ∀ m, m ≤ q.length → QAt w B (.slice (some ⟨g, o, none⟩) m cap) (q.take m) := by
  obtain ⟨ao, cap, rfl, h1, h2, h3, h4⟩ := h.ex
  cases ao with
  | none => have := (h1 rfl).1; rw [this] at hq; simp at hq
  | some b =>
    obtain ⟨g, o, cur, rfl, h5, h6, h7, h8⟩ := h4 b rfl
    refine ⟨g, o, cap, rfl, h3, h2, blk_lt h6, h5, fun j hj => by rw [cell_of_row _ _ _ _ _ _ h6]; exact h8 j hj, fun m hm => ⟨_, cap, by rw [List.length_take, Nat.min_eq_left hm], fun h => by (cases h), h2, by rw [List.length_take]; omega, fun b hb => ?_⟩⟩
    injection hb with hb
    refine ⟨g, o, cur, hb.symm, h5, h6, h7, fun j hj => ?_⟩
    rw [List.length_take] at hj
    rw [List.getElem_take]
    exact h8 j (by omega)
theorem in_zs {w : World} {B g o : Nat} {l : List Int} (h : Gr.InAt w B (some ⟨g, o, none⟩) l) : ∀ j, j < l.length → w.cell? ⟨g, o + j, none⟩ = some (.int .i64 (l.getD j 0)) := fun j hj => by
  obtain ⟨g', o', e, _, hc⟩ := in_cell h hj
  simp only [Option.some.injEq, Addr.mk.injEq, and_true] at e
  obtain ⟨rfl, rfl⟩ := e
  rw [hc, List.getD_eq_getElem?_getD, List.getElem?_eq_getElem hj]; rfl
theorem equalIn_any (a b : List Int) (A B : Option Addr) (c d : Nat) (w : World) (hA : Gr.InAt w w.heap.size A a) (hB : Gr.InAt w w.heap.size B b) (ha : a.length ≤ 100000) (hb : b.length ≤ 100000) :
    Calls Tryd.prog 19 #[.slice A a.length c, .slice B b.length d] w fun e w' => e = .returned (.bool (decide (a = b))) ∧ Below w.heap.size w w' := by
  by_cases h0 : a.length = 0
  · have := List.length_eq_zero_iff.1 h0
    subst this
    refine (Tryd.slices_Equal_int_empty A B c b.length d w (by omega)).mono fun e w' h => ⟨?_, by rw [h.2]; exact Below.refl _ _⟩
    rw [h.1]
    congr 2
    exact decide_eq_decide.2 ⟨fun h => (List.length_eq_zero_iff.1 h).symm, fun h => by rw [← h]; rfl⟩
  · by_cases h1 : b.length = 0
    · refine (Tryd.slices_Equal_int_lens A B a.length c b.length d w (by omega)).mono fun e w' h => ⟨?_, by rw [h.2]; exact Below.refl _ _⟩
      rw [h.1, decide_eq_false (fun e => by rw [e] at h0; exact h0 h1)]
    · obtain ⟨g, o, rfl, _, _⟩ := hA.row (by omega)
      obtain ⟨g', o', rfl, _, _⟩ := hB.row (by omega)
      refine (Tryd.slices_Equal_int g o a.length c g' o' b.length d a b w (by omega) (by omega) (by omega) (by omega) (in_zs hA) (in_zs hB)).mono fun e w' h => ⟨?_, ?_⟩
      · rw [h.1, List.take_length, List.take_length]
        congr 2
        rw [Bool.eq_iff_iff, beq_iff_eq, decide_eq_true_eq]
      · obtain ⟨q, h⟩ := h.2
        rw [h]
        exact ⟨rfl, rfl, rfl, Nat.le_refl _, fun _ _ => rfl⟩
end Wn
end Go.Proofs.YtkmldaelgbkfbaaDoor
