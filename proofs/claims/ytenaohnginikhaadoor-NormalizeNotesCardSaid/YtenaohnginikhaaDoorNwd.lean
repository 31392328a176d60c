/- Words of the program. Condition: bytealg's MaxLen, the table of powers and strconv's errors lie in their variables. -/
import Derived.Test.YtenaohnginikhaaDoorNnt
import Derived.Test.YtenaohnginikhaaDoorTrFnd
namespace Go.Proofs.YtenaohnginikhaaDoor
open Go.RowKit Go.Deep Tr Rg
attribute [local go_sem] Oper.semAt_some
namespace Nm
def sqW (w : World) (s : ByteArray) : World := ((w.alloc (.cells #[.string s] 9)).alloc (.cells #[.string ⟨#[10]⟩] 9)).alloc (.cells #[.int .i64 0] 3)
theorem sq_at (w : World) (s : ByteArray) : SqAt w.heap.size s (sqW w s) := by
  unfold sqW
  refine ⟨?_, ?_, ?_⟩
  · exact (Below.heap_alloc _ _ _ (by simp; omega)).trans ((Below.heap_alloc _ _ _ (by simp)).trans (heap_alloc_new w _))
  · refine (Below.heap_alloc _ _ _ (by simp)).trans ?_
    have := heap_alloc_new (w.alloc (.cells #[.string s] 9)) (.cells #[.string ⟨#[10]⟩] 9)
    rwa [World.size_alloc] at this
  · have := heap_alloc_new ((w.alloc (.cells #[.string s] 9)).alloc (.cells #[.string ⟨#[10]⟩] 9)) (.cells #[.int .i64 0] 3)
    rwa [World.size_alloc, World.size_alloc] at this
abbrev seqV (b : Nat) : Value := .func (.func 67) #[] #[.pointer (some ⟨b + 1, 0, none⟩), .pointer (some ⟨b, 0, none⟩), .pointer (some ⟨b + 2, 0, none⟩)]
theorem seq_any (s : ByteArray) (w : World) : Calls Tryd.prog 50 #[.string s, .string ⟨#[10]⟩, .int .i64 0] w fun e w' => e = .returned (seqV w.heap.size) ∧ w' = sqW w s := by
  go_enter Tryd.func50, Tryd.ntmps50
  go_wp2_with fail
  go_ret
  exact ⟨rfl, rfl⟩
theorem splitSeq_any (s : ByteArray) (w : World) : Calls Tryd.prog 27 #[.string s, .string ⟨#[10]⟩] w fun e w' => e = .returned (seqV w.heap.size) ∧ w' = sqW w s := by
  have cc := seq_any s w
  go_enter Tryd.func27, Tryd.ntmps27
  go_wp2_with fail
  (with_reducible refine cc.mono ?_); rintro e w1 ⟨rfl, rfl⟩
  go_wp2_with fail
  go_ret
  exact ⟨rfl, rfl⟩
/-- What Words returns. -/
def GotTx (w : World) (t : Txt) (E : Int) : Ending → World → Prop := fun e w' => ∃ A c, e = .returned (.tuple #[txV A c t, .int .i64 E]) ∧ TxAt w' A t ∧ t.ws.length ≤ c ∧ Below w.heap.size w w'
theorem tx_nil (w : World) : TxAt w none ⟨[], []⟩ := ⟨LxAt.nil _ _ _, (fun x hx => by cases hx), (by simp), (by simp)⟩
theorem wrT_bad {p d : List UInt8} {a b : Bool} (h : wrE p a b d ≠ 0) : wrT p a b d = ⟨[], []⟩ := if_neg h
/-- What lies in memory between two lines: i lines are over, k belong to a note, the words so far are O. -/
structure Wk (w : World) (tb : Nat) (p : List UInt8) (a b : Bool) (i k : Nat) (O : List Lx) (v : Value) (W : World) : Prop where
  nm : W.heap[w.heap.size]? = some (.cells #[.bool a] 4 (0, 0))
  nu : W.heap[w.heap.size + 1]? = some (.cells #[.bool b] 4 (0, 0))
  rs : W.heap[w.heap.size + 2]? = some (.cells #[.string ⟨#[]⟩, .slice none 0 0] 25 (0, 0))
  tx : W.heap[tb]? = some (.cells #[.string (str p), v] 25 (0, 0))
  nr : W.heap[tb + 1]? = some (.cells #[.int .i64 i] 3 (0, 0))
  nt : W.heap[tb + 2]? = some (.cells #[.int .i64 k] 3 (0, 0))
  row : W.ownsRow (tb + 8) 41 2 v O.length (lxsV O)
  bel : Below w.heap.size w W
  lo : w.heap.size + 3 ≤ tb
theorem Wk.keep {w : World} {tb : Nat} {p : List UInt8} {a b : Bool} {i k : Nat} {O : List Lx} {v : Value} {W W' : World} (h : Wk w tb p a b i k O v W) (hq : ∀ q, q < tb + 3 → W'.heap[q]? = W.heap[q]?) (hr : ∀ g, v.ownBlock = some g → W'.heap[g]? = W.heap[g]?) (hb : Below w.heap.size w W') : Wk w tb p a b i k O v W' := by
  have := h.lo
  exact ⟨(hq _ (by omega)).trans h.nm, (hq _ (by omega)).trans h.nu, (hq _ (by omega)).trans h.rs, (hq _ (by omega)).trans h.tx, (hq _ (by omega)).trans h.nr, (hq _ (by omega)).trans h.nt, own_same h.row hr, hb, h.lo⟩
theorem Wk.next {w : World} {tb : Nat} {p : List UInt8} {a b : Bool} {i k : Nat} {O : List Lx} {v : Value} {W W' : World} (h : Wk w tb p a b i k O v W) (hb : Below W.heap.size W W') : Wk w tb p a b i k O v W' := by
  have h1 := blk_lt h.nt
  refine h.keep (fun q hq => hb.block q (by omega)) (fun g hg => ?_) (h.bel.trans (hb.mono h.bel.size))
  obtain ⟨c, fz, h5⟩ := Lib.ownsRow_kind h.row g hg
  exact hb.block g (blk_lt h5)
theorem Wk.putObj {w : World} {tb : Nat} {p : List UInt8} {a b : Bool} {i k : Nat} {O : List Lx} {v : Value} {W : World} {q : Nat} {o o' : Obj} (h : Wk w tb p a b i k O v W) (hq : tb + 3 ≤ q) (ho : W.heap[q]? = some o) (hc : o.isCells = false) : Wk w tb p a b i k O v (W.putObj q o') := by
  have h1 := h.lo
  refine h.keep (fun r hr => World.putObj_heap_other (by omega)) (fun g hg => World.putObj_heap_other fun e => ?_) (h.bel.trans ((Below.refl w.heap.size W).grown (grownBy_putObj' W q o') h.bel.size (fun k e => by cases e; omega)))
  obtain ⟨c, fz, h5⟩ := Lib.ownsRow_kind h.row g hg
  subst e
  rw [ho] at h5
  cases h5
  cases hc
theorem Wk.setSeq {w : World} {tb : Nat} {p : List UInt8} {a b : Bool} {i k : Nat} {O : List Lx} {v u : Value} {W : World} {q : Nat} (h : Wk w tb p a b i k O v W) (hq : tb + 3 ≤ q) (hq2 : q < tb + 8) : Wk w tb p a b i k O v (W.setCell ⟨q, 0, none⟩ u) := by
  have h1 := h.lo
  refine h.keep (fun r hr => Below.heap_setCell _ ⟨q, 0, none⟩ _ _ (show r ≠ q by omega)) (fun g hg => Below.heap_setCell _ ⟨q, 0, none⟩ _ _ (show g ≠ q from fun e => ?_)) (h.bel.setCell (p := ⟨q, 0, none⟩) (show w.heap.size ≤ q by omega) _)
  have := (h.row.lt g hg).1
  omega
theorem Wk.setNr {w : World} {tb : Nat} {p : List UInt8} {a b : Bool} {i k : Nat} {O : List Lx} {v : Value} {W : World} (h : Wk w tb p a b i k O v W) (j : Nat) : Wk w tb p a b j k O v (W.setCell ⟨tb + 1, 0, none⟩ (.int .i64 (j : Int))) := by
  have h1 := h.lo
  have hk : ∀ r, r ≠ tb + 1 → (W.setCell ⟨tb + 1, 0, none⟩ (.int .i64 (j : Int))).heap[r]? = W.heap[r]? := fun r hr => Below.heap_setCell _ ⟨tb + 1, 0, none⟩ _ _ hr
  refine ⟨(hk _ (by omega)).trans h.nm, (hk _ (by omega)).trans h.nu, (hk _ (by omega)).trans h.rs, (hk _ (by omega)).trans h.tx, one_setCell h.nr, (hk _ (by omega)).trans h.nt, own_same h.row fun g hg => hk g ?_, h.bel.setCell (p := ⟨tb + 1, 0, none⟩) (show w.heap.size ≤ tb + 1 by omega) _, h.lo⟩
  have := (h.row.lt g hg).1
  omega
theorem Wk.setNt {w : World} {tb : Nat} {p : List UInt8} {a b : Bool} {i k : Nat} {O : List Lx} {v : Value} {W : World} (h : Wk w tb p a b i k O v W) (j : Nat) : Wk w tb p a b i j O v (W.setCell ⟨tb + 2, 0, none⟩ (.int .i64 (j : Int))) := by
  have h1 := h.lo
  have hk : ∀ r, r ≠ tb + 2 → (W.setCell ⟨tb + 2, 0, none⟩ (.int .i64 (j : Int))).heap[r]? = W.heap[r]? := fun r hr => Below.heap_setCell _ ⟨tb + 2, 0, none⟩ _ _ hr
  refine ⟨(hk _ (by omega)).trans h.nm, (hk _ (by omega)).trans h.nu, (hk _ (by omega)).trans h.rs, (hk _ (by omega)).trans h.tx, (hk _ (by omega)).trans h.nr, one_setCell h.nt, own_same h.row fun g hg => hk g ?_, h.bel.setCell (p := ⟨tb + 2, 0, none⟩) (show w.heap.size ≤ tb + 2 by omega) _, h.lo⟩
  have := (h.row.lt g hg).1
  omega
theorem heap_setCell2 {w : World} {q : Nat} {u v x : Value} {T : TypeId} {z : Nat × Nat} (h : w.heap[q]? = some (.cells #[u, v] T z)) : (w.setCell ⟨q, 1, none⟩ x).heap[q]? = some (.cells #[u, x] T z) := by simp [World.setCell, Array.getElem?_modify, h]
/-- The words are appended to. -/
theorem Wk.app {w : World} {tb : Nat} {p : List UInt8} {a b : Bool} {i k : Nat} {O O' : List Lx} {v v' : Value} {W X W6 : World} (h : Wk w tb p a b i k O v W) (hX : Below W.heap.size W X) (hg : X.grownBy W6 v.ownBlock) (ho : W6.ownsRow (tb + 8) 41 2 v' O'.length (lxsV O')) : Wk w tb p a b i k O' v' (W6.setCell ⟨tb, 1, none⟩ v') := by
  have hXk := h.next hX
  have h1 := h.lo
  have hne : ∀ g, v.ownBlock = some g → tb + 8 ≤ g := fun g hg => (hXk.row.lt g hg).1
  have hne' : ∀ g, v'.ownBlock = some g → tb + 8 ≤ g := fun g hg => (ho.lt g hg).1
  have hs := blk_lt hXk.nt
  have h6 : ∀ r, r < tb + 3 → W6.heap[r]? = X.heap[r]? := fun r hr => hg.block r (by omega) (fun e => by have := hne r e.symm; omega)
  have hk : ∀ r, r ≠ tb → (W6.setCell ⟨tb, 1, none⟩ v').heap[r]? = W6.heap[r]? := fun r hr => Below.heap_setCell _ ⟨tb, 1, none⟩ _ _ hr
  have hb6 : Below w.heap.size w W6 := hXk.bel.trans ⟨hg.os, hg.tape, hg.output, hg.size, fun q hq => hg.block q (by have := hXk.bel.size; omega) (fun e => by have := hne q e.symm; omega)⟩
  exact ⟨(hk _ (by omega)).trans ((h6 _ (by omega)).trans hXk.nm), (hk _ (by omega)).trans ((h6 _ (by omega)).trans hXk.nu), (hk _ (by omega)).trans ((h6 _ (by omega)).trans hXk.rs), heap_setCell2 ((h6 _ (by omega)).trans hXk.tx), (hk _ (by omega)).trans ((h6 _ (by omega)).trans hXk.nr), (hk _ (by omega)).trans ((h6 _ (by omega)).trans hXk.nt),
    own_same ho fun g hg => hk g (by have := hne' g hg; omega), hb6.setCell (p := ⟨tb, 1, none⟩) (show w.heap.size ≤ tb by omega) _, h.lo⟩
/-- What a line leaves as it lay. -/
def Rnd (tb : Nat) (W W' : World) : Prop := W.heap.size ≤ W'.heap.size ∧ ∀ q, q < tb + 8 → q ≠ tb → q ≠ tb + 1 → q ≠ tb + 2 → W'.heap[q]? = W.heap[q]?
theorem Rnd.refl (tb : Nat) (W : World) : Rnd tb W W := ⟨Nat.le_refl _, fun _ _ _ _ _ => rfl⟩
theorem Rnd.trans {tb : Nat} {A B C : World} (h : Rnd tb A B) (g : Rnd tb B C) : Rnd tb A C := ⟨Nat.le_trans h.1 g.1, fun q h1 h2 h3 h4 => (g.2 q h1 h2 h3 h4).trans (h.2 q h1 h2 h3 h4)⟩
theorem Rnd.of {tb : Nat} {W W' : World} (hs : tb + 8 ≤ W.heap.size) (h : Below W.heap.size W W') : Rnd tb W W' := ⟨h.size, fun q h1 _ _ _ => h.block q (by omega)⟩
theorem Rnd.set {tb : Nat} {W : World} {q i : Nat} (hq : q = tb ∨ q = tb + 1 ∨ q = tb + 2) (v : Value) : Rnd tb W (W.setCell ⟨q, i, none⟩ v) := ⟨by simp, fun r h1 h2 h3 h4 => Below.heap_setCell _ ⟨q, i, none⟩ _ _ (show r ≠ q by omega)⟩
theorem Rnd.app {tb : Nat} {X W6 : World} {v : Value} (hs : tb + 8 ≤ X.heap.size) (hg : X.grownBy W6 v.ownBlock) (hne : ∀ g, v.ownBlock = some g → tb + 8 ≤ g) : Rnd tb X W6 := ⟨hg.size, fun q h1 _ _ _ => hg.block q (by omega) (fun e => by have := hne q e.symm; omega)⟩
end Nm
end Go.Proofs.YtenaohnginikhaaDoor
