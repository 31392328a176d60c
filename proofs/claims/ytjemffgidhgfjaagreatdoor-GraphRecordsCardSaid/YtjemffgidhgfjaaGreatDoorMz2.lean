/- Nodes, edges, numbers where they lie; rows of the call's own. No condition.
isTooLarge, isNode, Check's closures on names, forward, backward. No condition.
The order of edges: cmp.Or at three numbers, compare; Check's closures on edges. No condition.
Check's closure on the ends of edges; IndexFunc, ContainsFunc, ascend with Check's closures. No condition but the lengths. -/
import Derived.Test.YtjemffgidhgfjaaGreatDoorMz1
import Derived.Deep.OwnRows
import Derived.Deep.RegionLaw
import Derived.Laws.OwnMore
import Derived.Test.YtjemffgidhgfjaaGreatDoorShelf
import Derived.Deep.RegionHeld3
import Derived.Sort.Grow
section
namespace Go.Proofs.YtjemffgidhgfjaaGreatDoor
open Go.RowKit Go.Deep Tr

theorem blk_lt {w : World} {q : Nat} {o : Obj} (h : w.heap[q]? = some o) : q < w.heap.size := (Array.getElem?_eq_some_iff.1 h).1
theorem addr_addS (g o j : Nat) : (⟨g, o, none⟩ : Addr).add j = ⟨g, o + j, none⟩ := by simp [Addr.add]
/-- An edge. -/
structure Ed where
  src : Int
  dst : Int
  stp : Int
deriving DecidableEq
namespace Gr
/-- Elements of k cells each, in a row. -/
theorem flat_len {α : Type} (f : α → List Value) (k : Nat) (hk : ∀ x, (f x).length = k) (l : List α) : (l.flatMap f).length = l.length * k := by
  induction l with
  | nil => simp
  | cons x t ih => rw [List.flatMap_cons, List.length_append, ih, hk, List.length_cons]; rw [Nat.add_one_mul]; omega
theorem flat_at {α : Type} (f : α → List Value) (k : Nat) (hk : ∀ x, (f x).length = k) : ∀ (l : List α) (j i : Nat) (h : j < l.length), i < k → (l.flatMap f)[j * k + i]? = (f l[j])[i]?
  | x :: t, 0, i, _, hi => by
    rw [List.flatMap_cons, List.getElem?_append_left (by rw [hk]; omega)]
    simp
  | x :: t, j + 1, i, h, hi => by
    rw [List.flatMap_cons, List.getElem?_append_right (by rw [hk, Nat.add_one_mul]; omega), hk]
    have := flat_at f k hk t j i (by simpa using h) hi
    rw [show (j + 1) * k + i - k = j * k + i by rw [Nat.add_one_mul]; omega, this]
    simp
theorem flat_set {α : Type} (f : α → List Value) (k : Nat) (hk : ∀ x, (f x).length = k) (l : List α) (x : α) (i : Nat) (u : Value) : ((l ++ [x]).flatMap f).set (l.length * k + i) u = l.flatMap f ++ (f x).set i u := by
  rw [List.flatMap_append, List.set_append_right _ _ (by rw [flat_len f k hk]; omega), flat_len f k hk]
  simp
def stV (s : List UInt8) : List Value := [.string (str s)]
def stsV (l : List (List UInt8)) : List Value := l.flatMap stV
def edV (x : Ed) : List Value := [.int .i64 x.src, .int .i64 x.dst, .int .i64 x.stp]
def edsV (l : List Ed) : List Value := l.flatMap edV
def inV (n : Int) : List Value := [.int .i64 n]
def insV (l : List Int) : List Value := l.flatMap inV
theorem stV_len (s : List UInt8) : (stV s).length = 1 := rfl
theorem edV_len (x : Ed) : (edV x).length = 3 := rfl
theorem inV_len (n : Int) : (inV n).length = 1 := rfl
theorem insV_map (l : List Int) : insV l = l.map fun n => Value.int .i64 n := by
  induction l with
  | nil => rfl
  | cons x t ih => show inV x ++ insV t = _; rw [ih]; rfl
theorem insV_len (l : List Int) : (insV l).length = l.length := by rw [insV_map, List.length_map]
theorem edsV_len (l : List Ed) : (edsV l).length = l.length * 3 := flat_len edV 3 edV_len l
theorem insV_app (a b : List Int) : insV (a ++ b) = insV a ++ insV b := List.flatMap_append
theorem insV_one (n : Int) : insV [n] = [.int .i64 n] := rfl
theorem insV_ones (l : List Int) : ∀ u ∈ insV l, u.oneCell' = true := fun u hu => by
  rw [insV_map, List.mem_map] at hu
  obtain ⟨n, _, rfl⟩ := hu
  rfl
theorem insV_set (l : List Int) (k : Nat) (x : Int) : insV (l.set k x) = (insV l).set k (.int .i64 x) := by
  rw [insV_map, insV_map, List.map_set]
theorem edsV_ones (l : List Ed) : ∀ u ∈ edsV l, u.oneCell' = true := fun u hu => by
  obtain ⟨s, _, h⟩ := List.mem_flatMap.1 hu
  simp only [edV, List.mem_cons, List.not_mem_nil, or_false] at h
  rcases h with rfl | rfl | rfl <;> rfl
/-- Elements of k cells where they lie, below B. -/
def ElAt {α : Type} (f : α → List Value) (k : Nat) (w : World) (B : Nat) (A : Option Addr) (l : List α) : Prop := ∀ j (h : j < l.length), ∃ g o, A = some ⟨g, o, none⟩ ∧ g < B ∧ ∀ i u, (f l[j])[i]? = some u → w.cell? ⟨g, o + j * k + i, none⟩ = some u
theorem ElAt.next {α : Type} {f : α → List Value} {k : Nat} {w w' : World} {A : Option Addr} {l : List α} (h : ElAt f k w w.heap.size A l) (hb : Below w.heap.size w w') : ElAt f k w' w'.heap.size A l := fun j hj => by
  obtain ⟨g, o, e, hg, hc⟩ := h j hj
  exact ⟨g, o, e, Nat.lt_of_lt_of_le hg hb.size, fun i u hu => (hb.cell (p := ⟨g, o + j * k + i, none⟩) hg).trans (hc i u hu)⟩
theorem ElAt.keep {α : Type} {f : α → List Value} {k B : Nat} {w w' : World} {A : Option Addr} {l : List α} (h : ElAt f k w B A l) (hb : Below B w w') : ElAt f k w' B A l := fun j hj => by
  obtain ⟨g, o, e, hg, hc⟩ := h j hj
  exact ⟨g, o, e, hg, fun i u hu => (hb.cell (p := ⟨g, o + j * k + i, none⟩) hg).trans (hc i u hu)⟩
theorem ElAt.mono {α : Type} {f : α → List Value} {k B B' : Nat} {w : World} {A : Option Addr} {l : List α} (h : ElAt f k w B A l) (hb : B ≤ B') : ElAt f k w B' A l := fun j hj => by
  obtain ⟨g, o, e, hg, hc⟩ := h j hj
  exact ⟨g, o, e, by omega, hc⟩
theorem ElAt.nil {α : Type} (f : α → List Value) (k : Nat) (w : World) (B : Nat) (A : Option Addr) : ElAt f k w B A [] := fun j hj => by simp at hj
/-- One place for all. -/
theorem ElAt.row {α : Type} {f : α → List Value} {k B : Nat} {w : World} {A : Option Addr} {l : List α} (h : ElAt f k w B A l) (hl : 0 < l.length) : ∃ g o, A = some ⟨g, o, none⟩ ∧ g < B ∧ ∀ j (hj : j < l.length) i u, (f l[j])[i]? = some u → w.cell? ⟨g, o + j * k + i, none⟩ = some u := by
  obtain ⟨g, o, e, hg, hc⟩ := h 0 hl
  refine ⟨g, o, e, hg, fun j hj i u hu => ?_⟩
  obtain ⟨g', o', e', hg', hc'⟩ := h j hj
  rw [e] at e'
  injection e' with e'
  injection e' with e1 e2 _
  subst e1 e2
  exact hc' i u hu
abbrev StAt := ElAt stV 1
abbrev EdAt := ElAt edV 3
abbrev InAt := ElAt inV 1
theorem own_el {α : Type} (f : α → List Value) (k : Nat) (hk : ∀ x, (f x).length = k) {w : World} {B : Nat} {e : TypeId} {v : Value} {l : List α} (h : w.ownsRow B e k v l.length (l.flatMap f)) : ∃ A c, v = .slice A l.length c ∧ l.length ≤ c ∧ c ≤ maxLen ∧ ElAt f k w w.heap.size A l := by
  rcases h.2 with ⟨rfl, h0⟩ | ⟨g, cap, cur, rfl, hb, hg, h1, h2, _, _⟩
  · have : l = [] := List.length_eq_zero_iff.1 h0
    subst this
    exact ⟨none, 0, rfl, Nat.le_refl _, Nat.zero_le _, ElAt.nil _ _ _ _ _⟩
  · refine ⟨_, cap, rfl, h1, h2, fun j hj => ⟨g, 0, rfl, (Array.getElem?_eq_some_iff.1 hg).1, fun i u hu => ?_⟩⟩
    have hi : i < k := by have := (List.getElem?_eq_some_iff.1 hu).1; rw [hk] at this; exact this
    have hjk : (j + 1) * k ≤ l.length * k := Nat.mul_le_mul_right k hj
    rw [Nat.add_one_mul] at hjk
    rw [Nat.zero_add, h.cellAt _ (by omega), flat_at f k hk l j i hj hi]
    exact hu
/-- The row's last element, with its block. -/
theorem own_last {α : Type} (f : α → List Value) (k : Nat) (hk : ∀ x, (f x).length = k) {w : World} {B : Nat} {e : TypeId} {v : Value} {l : List α} {x : α} (h : w.ownsRow B e k v (l.length + 1) ((l ++ [x]).flatMap f)) : ∃ g cap, v = .slice (some ⟨g, 0, none⟩) (l.length + 1) cap ∧ g < w.heap.size ∧ (∀ i u, (f x)[i]? = some u → w.cell? ⟨g, l.length * k + i, none⟩ = some u) ∧ (∀ j, w.frozen? ⟨g, j, none⟩ = false) := by
  rcases h.2 with ⟨_, h0⟩ | ⟨g, cap, cur, rfl, hb, hg, h1, h2, _, _⟩
  · omega
  · refine ⟨g, cap, rfl, (Array.getElem?_eq_some_iff.1 hg).1, fun i u hu => ?_, fun j => h.frozenAt j⟩
    have hi : i < k := by have := (List.getElem?_eq_some_iff.1 hu).1; rw [hk] at this; exact this
    rw [h.cellAt _ (by rw [Nat.add_one_mul]; omega)]
    have := flat_at f k hk (l ++ [x]) l.length i (by simp) hi
    rw [this]
    simpa using hu
/-- A field of the row's last element is stored. -/
theorem own_set {α : Type} (f : α → List Value) (k : Nat) (hk : ∀ x, (f x).length = k) {w : World} {B : Nat} {e : TypeId} {g cap : Nat} {l : List α} {x y : α} (h : w.ownsRow B e k (.slice (some ⟨g, 0, none⟩) (l.length + 1) cap) (l.length + 1) ((l ++ [x]).flatMap f)) (i : Nat) (u : Value) (he : (f x).set i u = f y) :
    (w.setCell ⟨g, l.length * k + i, none⟩ u).ownsRow B e k (.slice (some ⟨g, 0, none⟩) (l.length + 1) cap) (l.length + 1) ((l ++ [y]).flatMap f) ∧ Below B w (w.setCell ⟨g, l.length * k + i, none⟩ u) := by
  have hgB : B ≤ g := (h.lt g rfl).1
  have hst := h.stored (l.length * k + i) u
  refine ⟨?_, (Below.refl B w).setCell (p := ⟨g, l.length * k + i, none⟩) hgB _⟩
  have h1 := hst.1
  rw [flat_set f k hk, he] at h1
  rw [List.flatMap_append]
  simpa using h1
end Gr
/-- A graph: its nodes and its edges. -/
structure Gph where
  ns : List (List UInt8)
  es : List Ed
/-- A graph where it lies. -/
structure GrAt (w : World) (A B : Option Addr) (g : Gph) : Prop where
  ns : Gr.StAt w w.heap.size A g.ns
  es : Gr.EdAt w w.heap.size B g.es
  nl : g.ns.length ≤ 140737488351232
  el : g.es.length ≤ 140737488351232
theorem GrAt.next {w w' : World} {A B : Option Addr} {g : Gph} (h : GrAt w A B g) (hb : Below w.heap.size w w') : GrAt w' A B g := ⟨h.ns.next hb, h.es.next hb, h.nl, h.el⟩
/-- A graph's value. -/
abbrev grV (A B : Option Addr) (c d : Nat) (g : Gph) : Value := .agg #[.slice A g.ns.length c, .slice B g.es.length d]
theorem infoEd : (Tryz.prog.info? 56).map (fun i => (i.zero, i.size, i.bytes)) = some (some (.agg #[.int .i64 0, .int .i64 0, .int .i64 0]), 3, 24) := by kernel_rfl
theorem infoIn : (Tryz.prog.info? 3).map (fun i => (i.zero, i.size, i.bytes)) = some (some (.int .i64 0), 1, 8) := by kernel_rfl
theorem infoIns : (Tryz.prog.info? 38).map (fun i => (i.zero, i.size, i.bytes)) = some (some (.slice none 0 0), 1, 24) := by kernel_rfl
end Go.Proofs.YtjemffgidhgfjaaGreatDoor
end
section
namespace Go.Proofs.YtjemffgidhgfjaaGreatDoor
open Go.RowKit Go.Deep Tr

namespace Gr
def big (g : Gph) : Bool := decide (1024 < g.ns.length) || decide (1024 < g.es.length)
def isN (g : Gph) (n : Int) : Bool := decide (0 ≤ n) && decide (n < (g.ns.length : Int))
end Gr
/-- The block of a graph. -/
abbrev grO (A B : Option Addr) (c d : Nat) (g : Gph) : Obj := .cells #[.slice A g.ns.length c, .slice B g.es.length d] 25
def edA (x : Ed) : Value := .agg #[.int .i64 x.src, .int .i64 x.dst, .int .i64 x.stp]
theorem edA_def (x : Ed) : edA x = .agg #[.int .i64 x.src, .int .i64 x.dst, .int .i64 x.stp] := rfl
abbrev edO (x : Ed) : Obj := .cells #[.int .i64 x.src, .int .i64 x.dst, .int .i64 x.stp] 56
set_option maxHeartbeats 2000000 in
set_option maxRecDepth 100000 in
theorem large_any (g : Gph) (A B : Option Addr) (c d : Nat) (w : World) :
    Calls Tryz.prog 30 #[grV A B c d g] w fun e w' => e = .returned (.bool (Gr.big g)) ∧ Below w.heap.size w w' := by
  have hb0 : Below w.heap.size w (w.alloc (grO A B c d g)) := (Below.refl _ _).alloc (Nat.le_refl _) _
  have HV := Lib.hid (show Gr.big g = (decide (1024 < g.ns.length) || decide (1024 < g.es.length)) from rfl)
  generalize Gr.big g = V at *
  by_cases h1 : 1024 < g.ns.length
  · have d1 : decide ((1024 : Int) < (g.ns.length : Int)) = true := decide_eq_true (by omega)
    have d1n : decide (1024 < g.ns.length) = true := decide_eq_true h1
    have HT := Lib.hid (show V = true by rw [HV.out, d1n]; rfl)
    clear HV h1
    go_enter Tryz.func30, Tryz.ntmps30
    go_wp2_with fail
    go_ret
    exact ⟨by rw [HT.out]; rfl, hb0⟩
  · have d1 : decide ((1024 : Int) < (g.ns.length : Int)) = false := decide_eq_false (by omega)
    have d1n : decide (1024 < g.ns.length) = false := decide_eq_false h1
    generalize hd : decide (1024 < g.es.length) = d2 at *
    have d2i : decide ((1024 : Int) < (g.es.length : Int)) = d2 := by rw [← hd]; exact decide_eq_decide.2 (by omega)
    have HT := Lib.hid (show V = d2 by rw [HV.out, d1n]; rfl)
    clear HV h1
    go_enter Tryz.func30, Tryz.ntmps30
    go_wp2_with fail
    go_ret
    exact ⟨by rw [HT.out]; first | rfl | rw [hd] | rw [d2i], hb0⟩
set_option maxHeartbeats 2000000 in
set_option maxRecDepth 100000 in
theorem isNode_any (g : Gph) (n : Int) (A B : Option Addr) (c d : Nat) (w : World) :
    Calls Tryz.prog 43 #[grV A B c d g, .int .i64 n] w fun e w' => e = .returned (.bool (Gr.isN g n)) ∧ Below w.heap.size w w' := by
  have hb0 : Below w.heap.size w (w.alloc (grO A B c d g)) := (Below.refl _ _).alloc (Nat.le_refl _) _
  have HV := Lib.hid (show Gr.isN g n = (decide (0 ≤ n) && decide (n < (g.ns.length : Int))) from rfl)
  generalize Gr.isN g n = V at *
  by_cases h1 : 0 ≤ n
  · have d1 : decide (0 ≤ n) = true := decide_eq_true h1
    generalize hd : decide (n < (g.ns.length : Int)) = d2 at *
    have HT := Lib.hid (show V = d2 by rw [HV.out, d1]; rfl)
    clear HV h1
    go_enter Tryz.func43, Tryz.ntmps43
    go_wp2_with fail
    go_ret
    exact ⟨by rw [HT.out]; first | rfl | rw [hd], hb0⟩
  · have d1 : decide (0 ≤ n) = false := decide_eq_false h1
    have HT := Lib.hid (show V = false by rw [HV.out, d1]; rfl)
    clear HV h1
    go_enter Tryz.func43, Tryz.ntmps43
    go_wp2_with fail
    go_ret
    exact ⟨by rw [HT.out]; rfl, hb0⟩
set_option maxHeartbeats 2000000 in
set_option maxRecDepth 100000 in
theorem long_any (s : List UInt8) (w : World) : Calls Tryz.prog 38 #[.string (str s)] w fun e w' => e = .returned (.bool (decide (128 < s.length))) ∧ w' = w := by
  have hsz := str_size s
  generalize hd : decide (128 < s.length) = d at *
  have d1 : decide ((128 : Int) < ((str s).size : Int)) = d := by rw [← hd, hsz]; exact decide_eq_decide.2 (by omega)
  have d2 : decide (128 < (str s).size) = d := by rw [← hd, hsz]
  clear hsz
  go_enter Tryz.func38, Tryz.ntmps38
  go_wp2_with fail
  go_ret
  exact ⟨by first | rfl | rw [d1] | rw [d2], rfl⟩
set_option maxHeartbeats 2000000 in
set_option maxRecDepth 100000 in
theorem before_any (s t : List UInt8) (w : World) : Calls Tryz.prog 40 #[.string (str s), .string (str t)] w fun e w' => e = .returned (.bool (Op.bytesLess s t)) ∧ w' = w := by
  have hd : Op.bytesLess (str s).toList (str t).toList = Op.bytesLess s t := by rw [show (str s).toList = s by rw [ByteArray.toList_eq]; rfl, show (str t).toList = t by rw [ByteArray.toList_eq]; rfl]
  generalize Op.bytesLess s t = d at *
  go_enter Tryz.func40, Tryz.ntmps40
  go_wp2_with fail
  go_ret
  exact ⟨by first | rfl | rw [hd], rfl⟩
set_option maxHeartbeats 2000000 in
set_option maxRecDepth 100000 in
theorem forward_any (x : Ed) (w : World) : Calls Tryz.prog 51 #[edA x] w fun e w' => e = .returned (.tuple #[.int .i64 x.src, .int .i64 x.dst]) ∧ Below w.heap.size w w' := by
  have hb0 : Below w.heap.size w ((w.alloc (edO x)).drewN 1) := ((Below.refl _ _).alloc (Nat.le_refl _) _).drew
  rw [edA_def]
  go_enter Tryz.func51, Tryz.ntmps51
  go_upto_region 1 with (fail)
  go_region
  all_goals
    go_wp2_with fail
    first | go_ret | go_ret2
    exact ⟨rfl, hb0⟩
set_option maxHeartbeats 2000000 in
set_option maxRecDepth 100000 in
theorem backward_any (x : Ed) (w : World) : Calls Tryz.prog 62 #[edA x] w fun e w' => e = .returned (.tuple #[.int .i64 x.dst, .int .i64 x.src]) ∧ Below w.heap.size w w' := by
  have hb0 : Below w.heap.size w ((w.alloc (edO x)).drewN 1) := ((Below.refl _ _).alloc (Nat.le_refl _) _).drew
  rw [edA_def]
  go_enter Tryz.func62, Tryz.ntmps62
  go_upto_region 1 with (fail)
  go_region
  all_goals
    go_wp2_with fail
    first | go_ret | go_ret2
    exact ⟨rfl, hb0⟩
end Go.Proofs.YtjemffgidhgfjaaGreatDoor
end
section
namespace Go.Proofs.YtjemffgidhgfjaaGreatDoor
open Go.RowKit Go.Deep Tr

namespace Gr
def or3 (x y z : Int) : Int := if x = 0 then (if y = 0 then z else y) else x
def cmp (a b : Ed) : Int := or3 (Lib.compareInt a.src b.src) (Lib.compareInt a.dst b.dst) (Lib.compareInt a.stp b.stp)
def lt (a b : Ed) : Bool := decide (cmp a b < 0)
def out (g : Gph) (x : Ed) : Bool := !isN g x.src || !isN g x.dst || decide (x.stp < 0)
end Gr
set_option maxHeartbeats 2000000 in
set_option maxRecDepth 100000 in
theorem or_any (g o : Nat) (x y z : Int) (c : Nat) (w : World) (h0 : w.cell? ⟨g, o, none⟩ = some (.int .i64 x)) (h1 : w.cell? ⟨g, o + 1, none⟩ = some (.int .i64 y)) (h2 : w.cell? ⟨g, o + 2, none⟩ = some (.int .i64 z)) :
    Calls Tryz.prog 71 #[.slice (some ⟨g, o, none⟩) 3 c] w fun e w' => e = .returned (.int .i64 (Gr.or3 x y z)) ∧ w = w' := by
  have hcell : ∀ k, k < 3 → w.cell? ⟨g, o + k, none⟩ = some (.int .i64 (if k = 0 then x else if k = 1 then y else z)) := fun k hk => by
    rcases (show k = 0 ∨ k = 1 ∨ k = 2 by omega) with rfl | rfl | rfl
    · exact h0
    · exact h1
    · exact h2
  have HH := Lib.hid (show Gr.or3 x y z = if x = 0 then (if y = 0 then z else y) else x from rfl)
  generalize Gr.or3 x y z = V at *
  clear h0 h1 h2
  go_enter Tryz.func71, Tryz.ntmps71
  go_wp2_with fail
  go_loopw [8] (fun s8 wr => ∃ k : Nat, s8 = .int .i64 k ∧ k ≤ 3 ∧ (1 ≤ k → x = 0) ∧ (2 ≤ k → y = 0) ∧ (3 ≤ k → z = 0) ∧ w = wr) (fun s8 _ => 3 - (intOf s8).toNat)
  case atStart => exact ⟨0, rfl, by omega, fun h => by omega, fun h => by omega, fun h => by omega, rfl⟩
  case round =>
    obtain ⟨k, rfl, hk, i1, i2, i3, rfl⟩ := hrel
    by_cases hlt : k < 3
    · have b1 : decide ((k : Int) < 3) = true := decide_eq_true (by omega)
      have b1n : decide (k < 3) = true := decide_eq_true hlt
      have hc := hcell k hlt
      obtain ⟨v, hv⟩ : ∃ v, (if k = 0 then x else if k = 1 then y else z) = v := ⟨_, rfl⟩
      rw [hv] at hc
      have hk3 : k = 0 ∨ k = 1 ∨ k = 2 := by omega
      by_cases hz : v = 0
      · have c1 : (v != 0) = false := by rw [hz]; rfl
        have c2 : (v == 0) = true := by rw [hz]; rfl
        have I := Lib.hid (show (1 ≤ k + 1 → x = 0) ∧ (2 ≤ k + 1 → y = 0) ∧ (3 ≤ k + 1 → z = 0) by
          rcases hk3 with rfl | rfl | rfl
          · exact ⟨fun _ => hv.trans hz, fun h => by omega, fun h => by omega⟩
          · exact ⟨fun _ => i1 (by omega), fun _ => hv.trans hz, fun h => by omega⟩
          · exact ⟨fun _ => i1 (by omega), fun _ => i2 (by omega), fun _ => hv.trans hz⟩)
        clear hv hz i1 i2 i3 hcell hk3
        go_wp2_with fail
        go_roundw
        case rel => exact ⟨k + 1, by go_num, by omega, I.out.1, I.out.2.1, I.out.2.2, by first | rfl | trivial⟩
        case measure => simp [intOf]; omega
      · have c1 : (v != 0) = true := by rw [bne_iff_ne]; exact hz
        have c2 : (v == 0) = false := by rw [beq_eq_false_iff_ne]; exact hz
        have HT := Lib.hid (show V = v by
          rw [HH.out]
          rcases hk3 with rfl | rfl | rfl
          · rw [if_neg (by intro e; exact hz (hv.symm.trans e))]; exact hv
          · rw [if_pos (i1 (by omega)), if_neg (by intro e; exact hz (hv.symm.trans e))]; exact hv
          · rw [if_pos (i1 (by omega)), if_pos (i2 (by omega))]; exact hv)
        clear hv hz i1 i2 i3 hcell hk3
        go_wp2_with fail
        first | go_ret2 | go_ret
        exact ⟨by rw [HT.out]; rfl, rfl⟩
    · have b1 : decide ((k : Int) < 3) = false := decide_eq_false (by omega)
      have b1n : decide (k < 3) = false := decide_eq_false hlt
      have HT := Lib.hid (show V = 0 by rw [HH.out, if_pos (i1 (by omega)), if_pos (i2 (by omega))]; exact i3 (by omega))
      clear i1 i2 i3 hcell
      go_wp2_with fail
      go_ret
      exact ⟨by rw [HT.out]; rfl, rfl⟩
set_option maxHeartbeats 8000000 in
set_option maxRecDepth 100000 in
theorem compare_grow (a b : Ed) (w : World) :
    Calls Tryz.prog 32 #[edA a, edA b] w fun e w' => e = .returned (.int .i64 (Gr.cmp a b)) ∧ ∃ q os', w' = Go.Sort.grow (w.drewN q) os' := by
  rw [edA_def, edA_def]
  have HV := Lib.hid (show Gr.cmp a b = Gr.or3 (Lib.compareInt a.src b.src) (Lib.compareInt a.dst b.dst) (Lib.compareInt a.stp b.stp) from rfl)
  generalize Gr.cmp a b = V at *
  have hC := fun W => Tryz.cmp_Compare_int a.src b.src W
  have hD := fun W => Tryz.cmp_Compare_int a.dst b.dst W
  have hI := fun W => Tryz.cmp_Compare_int a.stp b.stp W
  generalize Lib.compareInt a.src b.src = x at *
  generalize Lib.compareInt a.dst b.dst = y at *
  generalize Lib.compareInt a.stp b.stp = z at *
  have hO := fun g o c W h0 h1 h2 => or_any g o x y z c W h0 h1 h2
  rw [← HV.out] at hO
  obtain ⟨a0, a1, a2⟩ := a
  obtain ⟨b0, b1, b2⟩ := b
  dsimp only at hC hD hI ⊢
  have hN1 := heap_alloc_new w (.cells #[.int .i64 a0, .int .i64 a1, .int .i64 a2] 56)
  have hN2 := heap_alloc_new (w.alloc (.cells #[.int .i64 a0, .int .i64 a1, .int .i64 a2] 56)) (.cells #[.int .i64 b0, .int .i64 b1, .int .i64 b2] 56)
  have hN3 : ((w.alloc (.cells #[.int .i64 a0, .int .i64 a1, .int .i64 a2] 56)).alloc (.cells #[.int .i64 b0, .int .i64 b1, .int .i64 b2] 56)).heap[w.heap.size]? = _ := (blk_alloc_lt _ _ _ (blk_lt hN1)).trans hN1
  rw [show (w.alloc (.cells #[.int .i64 a0, .int .i64 a1, .int .i64 a2] 56)).heap.size = w.heap.size + 1 by simp] at hN2
  obtain ⟨W, hW⟩ : ∃ W, W = (w.alloc (.cells #[.int .i64 a0, .int .i64 a1, .int .i64 a2] 56)).alloc (.cells #[.int .i64 b0, .int .i64 b1, .int .i64 b2] 56) := ⟨_, rfl⟩
  rw [← hW] at hN2 hN3
  have HW := Lib.hid (show ∃ os, W = Go.Sort.grow w os from ⟨#[.cells #[.int .i64 a0, .int .i64 a1, .int .i64 a2] 56, .cells #[.int .i64 b0, .int .i64 b1, .int .i64 b2] 56], by rw [hW, Go.Sort.alloc_eq_grow, Go.Sort.alloc_eq_grow, Go.Sort.grow_grow]; rfl⟩)
  go_enter Tryz.func32, Tryz.ntmps32
  go_upto_region 1 with (fail)
  rw [← hW]
  clear hN1 hW HV
  have e0 : W.cell? ⟨w.heap.size, 0, none⟩ = some (.int .i64 a0) := by rw [cell_of_row _ _ _ _ _ _ hN3]; rfl
  have e1 : W.cell? ⟨w.heap.size, 1, none⟩ = some (.int .i64 a1) := by rw [cell_of_row _ _ _ _ _ _ hN3]; rfl
  have e2 : W.cell? ⟨w.heap.size, 2, none⟩ = some (.int .i64 a2) := by rw [cell_of_row _ _ _ _ _ _ hN3]; rfl
  have f0 : W.cell? ⟨w.heap.size + 1, 0, none⟩ = some (.int .i64 b0) := by rw [cell_of_row _ _ _ _ _ _ hN2]; rfl
  have f1 : W.cell? ⟨w.heap.size + 1, 1, none⟩ = some (.int .i64 b1) := by rw [cell_of_row _ _ _ _ _ _ hN2]; rfl
  have f2 : W.cell? ⟨w.heap.size + 1, 2, none⟩ = some (.int .i64 b2) := by rw [cell_of_row _ _ _ _ _ _ hN2]; rfl
  have hl1 := blk_lt hN2
  have hl0 := blk_lt hN3
  have hka : ∀ o, (W.alloc o).drew.cell? ⟨w.heap.size, 0, none⟩ = some (.int .i64 a0) ∧ (W.alloc o).drew.cell? ⟨w.heap.size, 1, none⟩ = some (.int .i64 a1) ∧ (W.alloc o).drew.cell? ⟨w.heap.size, 2, none⟩ = some (.int .i64 a2) ∧ (W.alloc o).drew.cell? ⟨w.heap.size + 1, 0, none⟩ = some (.int .i64 b0) ∧ (W.alloc o).drew.cell? ⟨w.heap.size + 1, 1, none⟩ = some (.int .i64 b1) ∧ (W.alloc o).drew.cell? ⟨w.heap.size + 1, 2, none⟩ = some (.int .i64 b2) := fun o => by
    have hb : Below W.heap.size W (W.alloc o).drew := ((Below.refl _ _).alloc (Nat.le_refl _) _).drew
    exact ⟨(hb.cell (p := ⟨w.heap.size, 0, none⟩) hl0).trans e0, (hb.cell (p := ⟨w.heap.size, 1, none⟩) hl0).trans e1, (hb.cell (p := ⟨w.heap.size, 2, none⟩) hl0).trans e2, (hb.cell (p := ⟨w.heap.size + 1, 0, none⟩) hl1).trans f0, (hb.cell (p := ⟨w.heap.size + 1, 1, none⟩) hl1).trans f1, (hb.cell (p := ⟨w.heap.size + 1, 2, none⟩) hl1).trans f2⟩
  have hnw := heap_alloc_new W (.cells #[.int .i64 x, .int .i64 y, .int .i64 z] 3)
  have hOW := hO W.heap.size 0 3 (W.alloc (.cells #[.int .i64 x, .int .i64 y, .int .i64 z] 3)).drew (by show (W.alloc (.cells #[.int .i64 x, .int .i64 y, .int .i64 z] 3)).cell? _ = _; rw [cell_of_row _ _ _ _ _ _ hnw]; rfl) (by show (W.alloc (.cells #[.int .i64 x, .int .i64 y, .int .i64 z] 3)).cell? _ = _; rw [cell_of_row _ _ _ _ _ _ hnw]; rfl) (by show (W.alloc (.cells #[.int .i64 x, .int .i64 y, .int .i64 z] 3)).cell? _ = _; rw [cell_of_row _ _ _ _ _ _ hnw]; rfl)
  have HKA := Lib.hid hka
  clear hka hN2 hN3 hO hnw
  go_region_held3 (fun w' => w'.cell? ⟨w.heap.size, 0, none⟩ = some (.int .i64 a0) ∧ w'.cell? ⟨w.heap.size, 1, none⟩ = some (.int .i64 a1) ∧ w'.cell? ⟨w.heap.size, 2, none⟩ = some (.int .i64 a2) ∧ w'.cell? ⟨w.heap.size + 1, 0, none⟩ = some (.int .i64 b0) ∧ w'.cell? ⟨w.heap.size + 1, 1, none⟩ = some (.int .i64 b1) ∧ w'.cell? ⟨w.heap.size + 1, 2, none⟩ = some (.int .i64 b2)) (first | exact ⟨e0, e1, e2, f0, f1, f2⟩ | exact HKA.out _) (first | (go_at_call 72; first | ((with_reducible refine (hC _).mono ?_); rintro e w5 ⟨rfl, rfl⟩) | ((with_reducible refine (hD _).mono ?_); rintro e w5 ⟨rfl, rfl⟩) | ((with_reducible refine (hI _).mono ?_); rintro e w5 ⟨rfl, rfl⟩)) | (go_at_call 71; (with_reducible refine hOW.mono ?_); rintro e w5 ⟨rfl, rfl⟩))
  all_goals
    obtain ⟨os, hos⟩ := HW.out
    go_wp2_with fail
    go_ret
    exact ⟨rfl, 1, os ++ #[.cells #[.int .i64 x, .int .i64 y, .int .i64 z] 3], by rw [hos, Go.Sort.alloc_eq_grow, Go.Sort.grow_grow]; rfl⟩
theorem below_grow (w : World) (q : Nat) (os : Array Obj) : Below w.heap.size w (Go.Sort.grow (w.drewN q) os) :=
  ⟨rfl, rfl, rfl, by show w.heap.size ≤ (w.heap ++ os).size; simp, fun k hk => by show (w.heap ++ os)[k]? = w.heap[k]?; rw [Array.getElem?_append_left hk]⟩
theorem compare_any (a b : Ed) (w : World) :
    Calls Tryz.prog 32 #[edA a, edA b] w fun e w' => e = .returned (.int .i64 (Gr.cmp a b)) ∧ Below w.heap.size w w' :=
  (compare_grow a b w).mono fun e w' h => by
    obtain ⟨h1, q, os, h2⟩ := h
    exact ⟨h1, by rw [h2]; exact below_grow w q os⟩
set_option maxHeartbeats 2000000 in
set_option maxRecDepth 100000 in
theorem under_any (a b : Ed) (w : World) : Calls Tryz.prog 45 #[edA a, edA b] w fun e w' => e = .returned (.bool (Gr.lt a b)) ∧ Below w.heap.size w w' := by
  have hb0 : Below w.heap.size w ((w.alloc (edO a)).alloc (edO b)) := ((Below.refl _ _).alloc (Nat.le_refl _) _).alloc (by simp) _
  have cc := compare_any a b ((w.alloc (edO a)).alloc (edO b))
  rw [edA_def, edA_def] at cc
  rw [edA_def, edA_def]
  have HV := Lib.hid (show Gr.lt a b = decide (Gr.cmp a b < 0) from rfl)
  generalize Gr.lt a b = V at *
  generalize Gr.cmp a b = x at *
  generalize hd : decide (x < 0) = d at *
  go_enter Tryz.func45, Tryz.ntmps45
  go_wp2_with fail
  with_reducible refine cc.mono ?_
  clear cc
  rintro e w2 ⟨rfl, hb⟩
  have HB := Lib.hid (hb0.trans (hb.mono hb0.size))
  clear hb hb0
  go_wp2_with fail
  go_ret
  exact ⟨by rw [HV.out]; first | rfl | rw [hd], HB.out⟩
end Go.Proofs.YtjemffgidhgfjaaGreatDoor
end
section
namespace Go.Proofs.YtjemffgidhgfjaaGreatDoor
open Go.RowKit Go.Deep Tr

namespace Gr
theorem any_take {α : Type} (p : α → Bool) (l : List α) (k : Nat) (hk : k < l.length) (h : (l.take k).any p = false) (h2 : p l[k] = false) : (l.take (k + 1)).any p = false := by
  rw [List.take_succ_eq_append_getElem hk, List.any_append, h]
  simp [h2]
theorem any_full {α : Type} (p : α → Bool) (l : List α) (k : Nat) (hk : ¬ k < l.length) (h : (l.take k).any p = false) : l.any p = false := by
  rwa [List.take_of_length_le (by omega)] at h
theorem any_hit {α : Type} (p : α → Bool) (l : List α) (k : Nat) (hk : k < l.length) (h : p l[k] = true) : l.any p = true := List.any_eq_true.2 ⟨l[k], List.getElem_mem hk, h⟩
/-- Each element is in order with the next one. -/
def asc {α : Type} (r : α → α → Bool) : List α → Bool
  | [] => true
  | [_] => true
  | a :: b :: t => r a b && asc r (b :: t)
theorem asc_iff {α : Type} (r : α → α → Bool) : ∀ l : List α, asc r l = true ↔ ∀ i (h : i + 1 < l.length), r l[i] l[i + 1] = true
  | [] => by simp [asc]
  | [a] => by simp [asc]
  | a :: b :: t => by
    rw [asc, Bool.and_eq_true, asc_iff r (b :: t)]
    constructor
    · rintro ⟨h1, h2⟩ i hi
      cases i with
      | zero => exact h1
      | succ i => exact h2 i (by simpa using hi)
    · intro h
      exact ⟨h 0 (by simp), fun i hi => h (i + 1) (by simpa using hi)⟩
theorem asc_no {α : Type} (r : α → α → Bool) (l : List α) (i : Nat) (h : i + 1 < l.length) (h2 : r l[i] l[i + 1] = false) : asc r l = false := by
  cases hb : asc r l with
  | false => rfl
  | true => rw [(asc_iff r l).1 hb i h] at h2; cases h2
end Gr
/-- The variable of a closure in which the graph lies. -/
abbrev GbAt (w : World) (gb : Nat) (A B : Option Addr) (c d : Nat) (g : Gph) : Prop := w.heap[gb]? = some (grO A B c d g)
set_option maxHeartbeats 4000000 in
set_option maxRecDepth 100000 in
theorem out_any (x : Ed) (g : Gph) (A B : Option Addr) (c d gb : Nat) (w : World) (hG : w.heap[gb]? = some (grO A B c d g)) :
    Calls Tryz.prog 42 #[edA x, .pointer (some ⟨gb, 0, none⟩)] w fun e w' => e = .returned (.bool (Gr.out g x)) ∧ Below w.heap.size w w' := by
  have hb0 : Below w.heap.size w (w.alloc (edO x)) := (Below.refl _ _).alloc (Nat.le_refl _) _
  have hg0 := (blk_alloc_lt w (edO x) _ (blk_lt hG)).trans hG
  have c1 := isNode_any g x.src A B c d (w.alloc (edO x))
  have c2 := fun w' => isNode_any g x.dst A B c d w'
  rw [edA_def]
  have HV := Lib.hid (show Gr.out g x = (!Gr.isN g x.src || !Gr.isN g x.dst || decide (x.stp < 0)) from rfl)
  generalize Gr.out g x = V at *
  generalize Gr.isN g x.src = i1 at *
  generalize Gr.isN g x.dst = i2 at *
  generalize hd : decide (x.stp < 0) = i3 at *
  have q0 : (w.alloc (edO x)).cell? ⟨gb, 0, none⟩ = some (.slice A g.ns.length c) := by rw [cell_of_row _ _ _ _ _ _ hg0]; rfl
  have q1 : (w.alloc (edO x)).cell? ⟨gb, 1, none⟩ = some (.slice B g.es.length d) := by rw [cell_of_row _ _ _ _ _ _ hg0]; rfl
  have hgl := blk_lt hg0
  have hne := blk_lt hG
  clear hg0 hG
  go_enter Tryz.func42, Tryz.ntmps42
  go_wp2_with fail
  with_reducible refine c1.mono ?_
  clear c1
  rintro e w2 ⟨rfl, hb2⟩
  have r0 := (hb2.cell (p := ⟨gb, 0, none⟩) hgl).trans q0
  have r1 := (hb2.cell (p := ⟨gb, 1, none⟩) hgl).trans q1
  have hnw := heap_alloc_new w (edO x)
  have s1 := (hb2.cell (p := ⟨w.heap.size, 1, none⟩) (blk_lt hnw)).trans (by rw [cell_of_row _ _ _ _ _ _ hnw]; rfl : (w.alloc (edO x)).cell? ⟨w.heap.size, 1, none⟩ = some (.int .i64 x.dst))
  have s2 := (hb2.cell (p := ⟨w.heap.size, 2, none⟩) (blk_lt hnw)).trans (by rw [cell_of_row _ _ _ _ _ _ hnw]; rfl : (w.alloc (edO x)).cell? ⟨w.heap.size, 2, none⟩ = some (.int .i64 x.stp))
  have hb02 := hb0.trans (hb2.mono hb0.size)
  clear q0 q1
  cases i1 with
  | false =>
    have HT := Lib.hid (show V = true from HV.out)
    clear HV hnw
    go_wp2_with fail
    go_ret
    exact ⟨by rw [HT.out]; rfl, hb02⟩
  | true =>
  have c2 := c2 w2
  have hl2 := (blk_lt hnw)
  have hs2 := hb2.size
  clear hnw
  go_wp2_with fail
  with_reducible refine c2.mono ?_
  clear c2
  rintro e w3 ⟨rfl, hb3⟩
  have t2 := (hb3.cell (p := ⟨w.heap.size, 2, none⟩) (by show w.heap.size < _; omega)).trans s2
  have hb03 := hb02.trans (hb3.mono hb02.size)
  clear s1 s2 r0 r1 hb2 hb3 hb02
  cases i2 with
  | false =>
    have HT := Lib.hid (show V = true from HV.out)
    clear HV
    go_wp2_with fail
    go_ret
    exact ⟨by rw [HT.out]; rfl, hb03⟩
  | true =>
    have HT := Lib.hid (show V = i3 from HV.out)
    clear HV
    go_wp2_with fail
    go_ret
    exact ⟨by rw [HT.out]; first | rfl | rw [hd], hb03⟩
set_option maxHeartbeats 4000000 in
set_option maxRecDepth 100000 in
theorem indexLong_any (l : List (List UInt8)) (A0 : Option Addr) (c0 : Nat) (w : World) (hA : Gr.ElAt Gr.stV 1 w w.heap.size A0 l) (hl : l.length ≤ 100000) :
    Calls Tryz.prog 74 #[.slice A0 l.length c0, .func (.func 38) #[] #[]] w fun e w' => ∃ n : Int, e = .returned (.int .i64 n) ∧ l.any (fun s => decide (128 < s.length)) = decide (0 ≤ n) ∧ Below w.heap.size w w' := by
  have HAA := Lib.hid hA
  clear hA
  go_enter Tryz.func74, Tryz.ntmps74
  go_wp2_with fail
  go_loopw [8] (fun s8 wr => ∃ k : Nat, s8 = .int .i64 k ∧ k ≤ l.length ∧ (l.take k).any (fun s => decide (128 < s.length)) = false ∧ Below w.heap.size w wr) (fun s8 _ => l.length - (intOf s8).toNat)
  case atStart => exact ⟨0, rfl, by omega, by simp, Below.refl _ _⟩
  case round =>
    obtain ⟨k, rfl, hk, hall, hb⟩ := hrel
    have HAL := Lib.hid hall
    clear hall
    by_cases hlt : k < l.length
    · have b1 : decide ((k : Int) < (l.length : Int)) = true := decide_eq_true (by omega)
      have b1n : decide (k < l.length) = true := decide_eq_true hlt
      have y2 : (k : Int) < (l.length : Int) := by omega
      obtain ⟨g0, o, rfl, hg, hc⟩ := HAA.out k hlt
      have hd0 : wr.cell? ⟨g0, o + k, none⟩ = some (.string (str l[k])) := (hb.cell (p := ⟨g0, o + k, none⟩) hg).trans (by have := hc 0 _ rfl; rw [Nat.mul_one] at this; exact this)
      clear hc
      have HTK := Lib.hid (show (fun s => decide (128 < s.length)) l[k] = false → (l.take (k + 1)).any (fun s => decide (128 < s.length)) = false from fun h => Gr.any_take _ l k hlt HAL.out h)
      have HHT := Lib.hid (show (fun s => decide (128 < s.length)) l[k] = true → l.any (fun s => decide (128 < s.length)) = true from fun h => Gr.any_hit _ l k hlt h)
      generalize l[k] = x at *
      have cc := long_any x wr
      generalize hv : (fun s => decide (128 < s.length)) x = v at *
      dsimp only at hv
      try rw [hv] at cc
      cases v with
      | false =>
        have HN := Lib.hid (HTK.out rfl)
        clear HTK HHT hv
        go_wp2_with fail
        with_reducible refine cc.mono ?_
        clear cc
        rintro e w4 ⟨rfl, hb4⟩
        have HB3 := Lib.hid (show Below w.heap.size w w4 by rw [hb4]; exact hb)
        clear hb4 hb hd0
        go_wp2_with fail
        go_roundw
        case rel => exact ⟨k + 1, by go_num, by omega, HN.out, HB3.out⟩
        case measure => simp [intOf]; omega
      | true =>
        have HN := Lib.hid (HHT.out rfl)
        clear HTK HHT hv
        go_wp2_with fail
        with_reducible refine cc.mono ?_
        clear cc
        rintro e w4 ⟨rfl, hb4⟩
        have HB3 := Lib.hid (show Below w.heap.size w w4 by rw [hb4]; exact hb)
        clear hb4 hb hd0
        go_wp2_with fail
        first | go_ret2 | go_ret
        exact ⟨(k : Int), rfl, by rw [HN.out]; exact (decide_eq_true (by omega)).symm, HB3.out⟩
    · have b1 : decide ((k : Int) < (l.length : Int)) = false := decide_eq_false (by omega)
      have b1n : decide (k < l.length) = false := decide_eq_false hlt
      have HN := Lib.hid (Gr.any_full _ l k hlt HAL.out)
      have HB := Lib.hid hb
      clear hb HAL
      go_wp2_with fail
      go_ret
      exact ⟨-1, rfl, by rw [HN.out]; rfl, HB.out⟩
set_option maxHeartbeats 4000000 in
set_option maxRecDepth 100000 in
theorem containsLong_any (l : List (List UInt8)) (A0 : Option Addr) (c0 : Nat) (w : World) (hA : Gr.ElAt Gr.stV 1 w w.heap.size A0 l) (hl : l.length ≤ 100000) :
    Calls Tryz.prog 37 #[.slice A0 l.length c0, .func (.func 38) #[] #[]] w fun e w' => e = .returned (.bool (l.any (fun s => decide (128 < s.length)))) ∧ Below w.heap.size w w' := by
  have cc := indexLong_any l A0 c0 w hA hl 
  clear hA
  go_enter Tryz.func37, Tryz.ntmps37
  go_wp2_with fail
  with_reducible refine cc.mono ?_
  clear cc
  rintro e w4 ⟨n, rfl, hn, hb4⟩
  have HN := Lib.hid hn
  clear hn
  generalize hd : decide (0 ≤ n) = d at *
  go_wp2_with fail
  go_ret
  exact ⟨by rw [HN.out]; first | rfl | rw [hd], hb4⟩
set_option maxHeartbeats 4000000 in
set_option maxRecDepth 100000 in
theorem indexOut_any (l : List Ed) (g : Gph) (A B : Option Addr) (c d gb : Nat) (A0 : Option Addr) (c0 : Nat) (w : World) (hA : Gr.ElAt Gr.edV 3 w w.heap.size A0 l) (hl : l.length ≤ 100000) (hG : w.heap[gb]? = some (grO A B c d g)) :
    Calls Tryz.prog 63 #[.slice A0 l.length c0, .func (.func 42) #[] #[.pointer (some ⟨gb, 0, none⟩)]] w fun e w' => ∃ n : Int, e = .returned (.int .i64 n) ∧ l.any (fun x => Gr.out g x) = decide (0 ≤ n) ∧ Below w.heap.size w w' := by
  have HAA := Lib.hid hA
  clear hA
  have HG := Lib.hid hG
  clear hG
  go_enter Tryz.func63, Tryz.ntmps63
  go_wp2_with fail
  go_loopw [8] (fun s8 wr => ∃ k : Nat, s8 = .int .i64 k ∧ k ≤ l.length ∧ (l.take k).any (fun x => Gr.out g x) = false ∧ Below w.heap.size w wr) (fun s8 _ => l.length - (intOf s8).toNat)
  case atStart => exact ⟨0, rfl, by omega, by simp, Below.refl _ _⟩
  case round =>
    obtain ⟨k, rfl, hk, hall, hb⟩ := hrel
    have HAL := Lib.hid hall
    clear hall
    by_cases hlt : k < l.length
    · have b1 : decide ((k : Int) < (l.length : Int)) = true := decide_eq_true (by omega)
      have b1n : decide (k < l.length) = true := decide_eq_true hlt
      have y2 : (k : Int) < (l.length : Int) := by omega
      obtain ⟨g0, o, rfl, hg, hc⟩ := HAA.out k hlt
      have hd0 := (hb.cell (p := ⟨g0, o + k * 3, none⟩) hg).trans (hc 0 _ rfl)
      have hd1 := (hb.cell (p := ⟨g0, o + k * 3 + 1, none⟩) hg).trans (hc 1 _ rfl)
      have hd2 := (hb.cell (p := ⟨g0, o + k * 3 + 2, none⟩) hg).trans (hc 2 _ rfl)
      clear hc
      have HTK := Lib.hid (show (fun x => Gr.out g x) l[k] = false → (l.take (k + 1)).any (fun x => Gr.out g x) = false from fun h => Gr.any_take _ l k hlt HAL.out h)
      have HHT := Lib.hid (show (fun x => Gr.out g x) l[k] = true → l.any (fun x => Gr.out g x) = true from fun h => Gr.any_hit _ l k hlt h)
      generalize l[k] = x at *
      have cc := out_any x g A B c d gb wr ((hb.block gb (blk_lt HG.out)).trans HG.out)
      rw [edA_def] at cc
      generalize hv : (fun x => Gr.out g x) x = v at *
      dsimp only at hv
      try rw [hv] at cc
      cases v with
      | false =>
        have HN := Lib.hid (HTK.out rfl)
        clear HTK HHT hv
        go_wp2_with fail
        with_reducible refine cc.mono ?_
        clear cc
        rintro e w4 ⟨rfl, hb4⟩
        have HB3 := Lib.hid (hb.trans (hb4.mono hb.size))
        clear hb4 hb hd0 hd1 hd2
        go_wp2_with fail
        go_roundw
        case rel => exact ⟨k + 1, by go_num, by omega, HN.out, HB3.out⟩
        case measure => simp [intOf]; omega
      | true =>
        have HN := Lib.hid (HHT.out rfl)
        clear HTK HHT hv
        go_wp2_with fail
        with_reducible refine cc.mono ?_
        clear cc
        rintro e w4 ⟨rfl, hb4⟩
        have HB3 := Lib.hid (hb.trans (hb4.mono hb.size))
        clear hb4 hb hd0 hd1 hd2
        go_wp2_with fail
        first | go_ret2 | go_ret
        exact ⟨(k : Int), rfl, by rw [HN.out]; exact (decide_eq_true (by omega)).symm, HB3.out⟩
    · have b1 : decide ((k : Int) < (l.length : Int)) = false := decide_eq_false (by omega)
      have b1n : decide (k < l.length) = false := decide_eq_false hlt
      have HN := Lib.hid (Gr.any_full _ l k hlt HAL.out)
      have HB := Lib.hid hb
      clear hb HAL
      go_wp2_with fail
      go_ret
      exact ⟨-1, rfl, by rw [HN.out]; rfl, HB.out⟩
set_option maxHeartbeats 4000000 in
set_option maxRecDepth 100000 in
theorem containsOut_any (l : List Ed) (g : Gph) (A B : Option Addr) (c d gb : Nat) (A0 : Option Addr) (c0 : Nat) (w : World) (hA : Gr.ElAt Gr.edV 3 w w.heap.size A0 l) (hl : l.length ≤ 100000) (hG : w.heap[gb]? = some (grO A B c d g)) :
    Calls Tryz.prog 41 #[.slice A0 l.length c0, .func (.func 42) #[] #[.pointer (some ⟨gb, 0, none⟩)]] w fun e w' => e = .returned (.bool (l.any (fun x => Gr.out g x))) ∧ Below w.heap.size w w' := by
  have cc := indexOut_any l g A B c d gb A0 c0 w hA hl hG
  clear hA
  go_enter Tryz.func41, Tryz.ntmps41
  go_wp2_with fail
  with_reducible refine cc.mono ?_
  clear cc
  rintro e w4 ⟨n, rfl, hn, hb4⟩
  have HN := Lib.hid hn
  clear hn
  generalize hd : decide (0 ≤ n) = d at *
  go_wp2_with fail
  go_ret
  exact ⟨by rw [HN.out]; first | rfl | rw [hd], hb4⟩
end Go.Proofs.YtjemffgidhgfjaaGreatDoor
end
