/- Steps, touched files, numbers, texts where they lie; rows of the call's own. No condition. -/
import Derived.Test.YtjemffgidhgfjaaGreatDoorMz1
import Derived.Deep.OwnRows
import Derived.Deep.RegionLaw
import Derived.Laws.OwnMore
import Derived.Lib.OwnKind
namespace Go.Proofs.YtjemffgidhgfjaaGreatDoor.Rk
open Go.RowKit Go.Deep Tr

theorem blk_lt {w : World} {q : Nat} {o : Obj} (h : w.heap[q]? = some o) : q < w.heap.size := (Array.getElem?_eq_some_iff.1 h).1
theorem addr_addS (g o j : Nat) : (⟨g, o, none⟩ : Addr).add j = ⟨g, o + j, none⟩ := by simp [Addr.add]
/-- A touched file. -/
structure Tch where
  pth : List UInt8
  dig : List UInt8
deriving DecidableEq
/-- A step of a record; A and c say where its list of files lies. -/
structure Dn where
  pkg : Int
  lin : Int
  knd : Int
  A : Option Addr
  c : Nat
  rds : List Tch
  wr : Tch
namespace Rc
/-- Elements of k cells each, in a row. -/
theorem flat_len {α : Type} (f : α → List Value) (k : Nat) (hk : ∀ x, (f x).length = k) (l : List α) : (l.flatMap f).length = l.length * k := by
  induction l with
  | nil => simp
  | cons x t ih => rw [List.flatMap_cons, List.length_append, ih, hk, List.length_cons]; rw [Nat.add_one_mul]; omega
theorem flat_at {α : Type} (f : α → List Value) (k : Nat) (hk : ∀ x, (f x).length = k) : ∀ (l : List α) (j i : Nat) (h : j < l.length), i < k → (l.flatMap f)[j * k + i]? = (f l[j])[i]?
  | x :: t, 0, i, _, hi => by
    rw [List.flatMap_cons, List.getElem?_append_left (by rw [hk]; omega)]
    simp
  | x :: t, j + 1, i, h, hi => by
    rw [List.flatMap_cons, List.getElem?_append_right (by rw [hk, Nat.add_one_mul]; omega), hk]
    have := flat_at f k hk t j i (by simpa using h) hi
    rw [show (j + 1) * k + i - k = j * k + i by rw [Nat.add_one_mul]; omega, this]
    simp
theorem flat_set {α : Type} (f : α → List Value) (k : Nat) (hk : ∀ x, (f x).length = k) (l : List α) (x : α) (i : Nat) (u : Value) : ((l ++ [x]).flatMap f).set (l.length * k + i) u = l.flatMap f ++ (f x).set i u := by
  rw [List.flatMap_append, List.set_append_right _ _ (by rw [flat_len f k hk]; omega), flat_len f k hk]
  simp
def stV (s : List UInt8) : List Value := [.string (str s)]
def stsV (l : List (List UInt8)) : List Value := l.flatMap stV
def tcV (t : Tch) : List Value := [.string (str t.pth), .string (str t.dig)]
def tcsV (l : List Tch) : List Value := l.flatMap tcV
def dnV (s : Dn) : List Value := [.int .i64 s.pkg, .int .i64 s.lin, .int .i64 s.knd, .slice s.A s.rds.length s.c, .string (str s.wr.pth), .string (str s.wr.dig)]
def inV (n : Int) : List Value := [.int .i64 n]
def insV (l : List Int) : List Value := l.flatMap inV
theorem stV_len (s : List UInt8) : (stV s).length = 1 := rfl
theorem tcV_len (t : Tch) : (tcV t).length = 2 := rfl
theorem dnV_len (s : Dn) : (dnV s).length = 6 := rfl
theorem inV_len (n : Int) : (inV n).length = 1 := rfl
theorem insV_map (l : List Int) : insV l = l.map fun n => Value.int .i64 n := by
  induction l with
  | nil => rfl
  | cons x t ih => show inV x ++ insV t = _; rw [ih]; rfl
theorem insV_app (a b : List Int) : insV (a ++ b) = insV a ++ insV b := List.flatMap_append
theorem insV_one (n : Int) : insV [n] = [.int .i64 n] := rfl
/-- Elements of k cells where they lie, below B. -/
def ElAt {α : Type} (f : α → List Value) (k : Nat) (w : World) (B : Nat) (A : Option Addr) (l : List α) : Prop := ∀ j (h : j < l.length), ∃ g o, A = some ⟨g, o, none⟩ ∧ g < B ∧ ∀ i u, (f l[j])[i]? = some u → w.cell? ⟨g, o + j * k + i, none⟩ = some u
theorem ElAt.next {α : Type} {f : α → List Value} {k : Nat} {w w' : World} {A : Option Addr} {l : List α} (h : ElAt f k w w.heap.size A l) (hb : Below w.heap.size w w') : ElAt f k w' w'.heap.size A l := fun j hj => by
  obtain ⟨g, o, e, hg, hc⟩ := h j hj
  exact ⟨g, o, e, Nat.lt_of_lt_of_le hg hb.size, fun i u hu => (hb.cell (p := ⟨g, o + j * k + i, none⟩) hg).trans (hc i u hu)⟩
theorem ElAt.keep {α : Type} {f : α → List Value} {k B : Nat} {w w' : World} {A : Option Addr} {l : List α} (h : ElAt f k w B A l) (hb : Below B w w') : ElAt f k w' B A l := fun j hj => by
  obtain ⟨g, o, e, hg, hc⟩ := h j hj
  exact ⟨g, o, e, hg, fun i u hu => (hb.cell (p := ⟨g, o + j * k + i, none⟩) hg).trans (hc i u hu)⟩
theorem ElAt.mono {α : Type} {f : α → List Value} {k B B' : Nat} {w : World} {A : Option Addr} {l : List α} (h : ElAt f k w B A l) (hb : B ≤ B') : ElAt f k w B' A l := fun j hj => by
  obtain ⟨g, o, e, hg, hc⟩ := h j hj
  exact ⟨g, o, e, by omega, hc⟩
theorem ElAt.nil {α : Type} (f : α → List Value) (k : Nat) (w : World) (B : Nat) (A : Option Addr) : ElAt f k w B A [] := fun j hj => by simp at hj
/-- One place for all. -/
theorem ElAt.row {α : Type} {f : α → List Value} {k B : Nat} {w : World} {A : Option Addr} {l : List α} (h : ElAt f k w B A l) (hl : 0 < l.length) : ∃ g o, A = some ⟨g, o, none⟩ ∧ g < B ∧ ∀ j (hj : j < l.length) i u, (f l[j])[i]? = some u → w.cell? ⟨g, o + j * k + i, none⟩ = some u := by
  obtain ⟨g, o, e, hg, hc⟩ := h 0 hl
  refine ⟨g, o, e, hg, fun j hj i u hu => ?_⟩
  obtain ⟨g', o', e', hg', hc'⟩ := h j hj
  rw [e] at e'
  injection e' with e'
  injection e' with e1 e2 _
  subst e1 e2
  exact hc' i u hu
abbrev StAt := ElAt stV 1
abbrev TcAt := ElAt tcV 2
abbrev InAt := ElAt inV 1
theorem own_el {α : Type} (f : α → List Value) (k : Nat) (hk : ∀ x, (f x).length = k) {w : World} {B : Nat} {e : TypeId} {v : Value} {l : List α} (h : w.ownsRow B e k v l.length (l.flatMap f)) : ∃ A c, v = .slice A l.length c ∧ l.length ≤ c ∧ c ≤ maxLen ∧ ElAt f k w w.heap.size A l := by
  rcases h.2 with ⟨rfl, h0⟩ | ⟨g, cap, cur, rfl, hb, hg, h1, h2, _, _⟩
  · have : l = [] := List.length_eq_zero_iff.1 h0
    subst this
    exact ⟨none, 0, rfl, Nat.le_refl _, Nat.zero_le _, ElAt.nil _ _ _ _ _⟩
  · refine ⟨_, cap, rfl, h1, h2, fun j hj => ⟨g, 0, rfl, (Array.getElem?_eq_some_iff.1 hg).1, fun i u hu => ?_⟩⟩
    have hi : i < k := by have := (List.getElem?_eq_some_iff.1 hu).1; rw [hk] at this; exact this
    have hjk : (j + 1) * k ≤ l.length * k := Nat.mul_le_mul_right k hj
    rw [Nat.add_one_mul] at hjk
    rw [Nat.zero_add, h.cellAt _ (by omega), flat_at f k hk l j i hj hi]
    exact hu
end Rc
/-- A record where it lies. -/
structure RcAt (w : World) (A : Option Addr) (r : List Dn) : Prop where
  st : Rc.ElAt Rc.dnV 6 w w.heap.size A r
  rd : ∀ s ∈ r, Rc.TcAt w w.heap.size s.A s.rds
  rl : r.length ≤ 140737488351232
  tl : ∀ s ∈ r, s.rds.length ≤ 140737488351232
theorem RcAt.next {w w' : World} {A : Option Addr} {r : List Dn} (h : RcAt w A r) (hb : Below w.heap.size w w') : RcAt w' A r := ⟨h.st.next hb, fun s hs => (h.rd s hs).next hb, h.rl, h.tl⟩
/-- All texts are short. -/
structure Sht (r : List Dn) : Prop where
  p : ∀ s ∈ r, ∀ t ∈ s.rds ++ [s.wr], t.pth.length ≤ 100000000
  d : ∀ s ∈ r, ∀ t ∈ s.rds ++ [s.wr], t.dig.length ≤ 100000000
def tcA (t : Tch) : Value := .agg #[.string (str t.pth), .string (str t.dig)]
theorem tcA_def (t : Tch) : tcA t = .agg #[.string (str t.pth), .string (str t.dig)] := rfl
def dnA (s : Dn) : Value := .agg #[.int .i64 s.pkg, .int .i64 s.lin, .int .i64 s.knd, .slice s.A s.rds.length s.c, .string (str s.wr.pth), .string (str s.wr.dig)]
theorem dnA_def (s : Dn) : dnA s = .agg #[.int .i64 s.pkg, .int .i64 s.lin, .int .i64 s.knd, .slice s.A s.rds.length s.c, .string (str s.wr.pth), .string (str s.wr.dig)] := rfl
abbrev tcO (t : Tch) : Obj := .cells #[.string (str t.pth), .string (str t.dig)] 45
abbrev dnO (s : Dn) : Obj := .cells #[.int .i64 s.pkg, .int .i64 s.lin, .int .i64 s.knd, .slice s.A s.rds.length s.c, .string (str s.wr.pth), .string (str s.wr.dig)] 48
theorem infoTc : (Tryz.prog.info? 45).map (fun i => (i.zero, i.size, i.bytes)) = some (some (.agg #[.string ⟨#[]⟩, .string ⟨#[]⟩]), 2, 32) := by kernel_rfl
theorem infoDn : (Tryz.prog.info? 48).map (fun i => (i.zero, i.size, i.bytes)) = some (some (.agg #[.int .i64 0, .int .i64 0, .int .i64 0, .slice none 0 0, .string ⟨#[]⟩, .string ⟨#[]⟩]), 6, 80) := by kernel_rfl
theorem infoIn : (Tryz.prog.info? 3).map (fun i => (i.zero, i.size, i.bytes)) = some (some (.int .i64 0), 1, 8) := by kernel_rfl
theorem own_same {w w' : World} {B e size n : Nat} {v : Value} {xs : List Value} (h : w.ownsRow B e size v n xs) (hb : ∀ g, v.ownBlock = some g → w'.heap[g]? = w.heap[g]?) : w'.ownsRow B e size v n xs := by
  rcases h with ⟨h1, ⟨rfl, h2⟩ | ⟨g, cap, cur, rfl, h2, h3, h4⟩⟩
  · exact ⟨h1, .inl ⟨rfl, h2⟩⟩
  · exact ⟨h1, .inr ⟨g, cap, cur, rfl, h2, (hb g rfl).trans h3, h4⟩⟩
theorem own_below {w w' : World} {B e size n : Nat} {v : Value} {xs : List Value} (h : w.ownsRow B e size v n xs) (hb : Below w.heap.size w w') : w'.ownsRow B e size v n xs :=
  own_same h fun g hg => by
    obtain ⟨c, fz, h5⟩ := Lib.ownsRow_kind h g hg
    exact hb.block g (blk_lt h5)
theorem own_mono {w : World} {B B' e size n : Nat} {v : Value} {xs : List Value} (h : w.ownsRow B e size v n xs) (hb : B' ≤ B) : w.ownsRow B' e size v n xs :=
  ⟨h.1, h.2.imp id fun ⟨g, cap, cur, h1, h2, h3⟩ => ⟨g, cap, cur, h1, Nat.le_trans hb h2, h3⟩⟩
theorem below_drewN {B : Nat} {w w' : World} (h : Below B w w') (n : Nat) : Below B w (w'.drewN n) := ⟨h.os, h.tape, h.output, h.size, h.block⟩
theorem below_grown {B e size n : Nat} {w W w6 : World} {v : Value} {xs : List Value} (hb : Below B w W) (hB : B ≤ W.heap.size) (ho : W.ownsRow B e size v n xs) (hg : W.grownBy w6 v.ownBlock) : Below B w w6 :=
  hb.trans ⟨hg.os, hg.tape, hg.output, hg.size, fun k hk => hg.block k (by omega) (fun e => by have := (ho.lt k e.symm).1; omega)⟩
theorem kind_ne {w : World} {q g : Nat} {c c' : Array Value} {T T' : TypeId} {f f' : Nat × Nat} (h : w.heap[q]? = some (.cells c T f)) (h' : w.heap[g]? = some (.cells c' T' f')) (hT : T ≠ T') : q ≠ g := fun e => by
  subst e
  rw [h] at h'
  simp only [Option.some.injEq, Obj.cells.injEq] at h'
  exact hT h'.2.1
end Go.Proofs.YtjemffgidhgfjaaGreatDoor.Rk
