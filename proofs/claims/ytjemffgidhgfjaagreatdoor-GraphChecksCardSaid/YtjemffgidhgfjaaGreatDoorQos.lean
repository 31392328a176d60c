/- The state of the reference's Of; Insert and put, on nil or on a list in a place. No condition. -/
import Derived.Test.YtjemffgidhgfjaaGreatDoorQpu
import Derived.Test.YtjemffgidhgfjaaGreatDoorQi0
namespace Go.Proofs.YtjemffgidhgfjaaGreatDoor
open Go.RowKit Go.Deep Tr

namespace Gr
def SlOk (A : Option Addr) (n c : Nat) : Prop := (A = none ∧ n = 0 ∧ c = 0) ∨ ((∃ g o, A = some ⟨g, o, none⟩) ∧ n ≤ c ∧ c ≤ maxLen)
/-- The graph under way lies in block gb, the nil result in rb. -/
structure NSt (w0 wr : World) (rb gb : Nat) (L : List (List UInt8)) (E : List Ed) (A B : Option Addr) (c d : Nat) : Prop where
  gr : wr.heap[gb]? = some (.cells #[.slice A L.length c, .slice B E.length d] 25 (0, 0))
  rs : wr.heap[rb]? = some (.cells #[.slice none 0 0, .slice none 0 0] 25 (0, 0))
  ne : rb ≠ gb
  lo : w0.heap.size ≤ gb
  bw : Below w0.heap.size w0 wr
  st : Rk.Rc.StAt wr wr.heap.size A L
  ed : EdAt wr wr.heap.size B E
  so : SlOk A L.length c
  eo : SlOk B E.length d
theorem NSt.next {w0 wr w' : World} {rb gb : Nat} {L : List (List UInt8)} {E : List Ed} {A B : Option Addr} {c d : Nat} (h : NSt w0 wr rb gb L E A B c d) (hb : Below wr.heap.size wr w') : NSt w0 w' rb gb L E A B c d :=
  ⟨(hb.block _ (blk_lt h.gr)).trans h.gr, (hb.block _ (blk_lt h.rs)).trans h.rs, h.ne, h.lo, h.bw.trans (hb.mono h.bw.size), h.st.next hb, h.ed.next hb, h.so, h.eo⟩
theorem gr_ne {w : World} {gb g o : Nat} {A B : Option Addr} {n c m d : Nat} {T : TypeId} {p : List UInt8} (h : w.heap[gb]? = some (.cells #[.slice A n c, .slice B m d] T (0, 0))) (hc : w.cell? ⟨g, o, none⟩ = some (.string (str p))) : g ≠ gb := fun e => by
  subst e
  rw [cell_of_row _ _ _ _ _ _ h] at hc
  match o, hc with
  | 0, hc => cases hc
  | 1, hc => cases hc
theorem gr_neI {w : World} {gb g o : Nat} {A B : Option Addr} {n c m d : Nat} {T : TypeId} {x : Int} (h : w.heap[gb]? = some (.cells #[.slice A n c, .slice B m d] T (0, 0))) (hc : w.cell? ⟨g, o, none⟩ = some (.int .i64 x)) : g ≠ gb := fun e => by
  subst e
  rw [cell_of_row _ _ _ _ _ _ h] at hc
  match o, hc with
  | 0, hc => cases hc
  | 1, hc => cases hc
theorem cell_set_far {w : World} {gb i g o : Nat} (v : Value) (h : g ≠ gb) : (w.setCell ⟨gb, i, none⟩ v).cell? ⟨g, o, none⟩ = w.cell? ⟨g, o, none⟩ := cell_same (heap_setCell_other w ⟨gb, i, none⟩ g _ h)
theorem cell_set_oth {w : World} {b i k : Nat} (v : Value) (h : k ≠ i) : (w.setCell ⟨b, i, none⟩ v).cell? ⟨b, k, none⟩ = w.cell? ⟨b, k, none⟩ := World.cell?_setCell_other w _ _ v (fun e => h (by injection e with _ e _; exact e.symm))
theorem st_set {w : World} {gb i : Nat} {v : Value} {A B A' : Option Addr} {n c m d : Nat} {T : TypeId} {L : List (List UInt8)} (h : w.heap[gb]? = some (.cells #[.slice A n c, .slice B m d] T (0, 0))) (hs : Rk.Rc.StAt w w.heap.size A' L) : Rk.Rc.StAt (w.setCell ⟨gb, i, none⟩ v) (w.setCell ⟨gb, i, none⟩ v).heap.size A' L := fun j hj => by
  obtain ⟨g, o, e, hg, hc⟩ := hs j hj
  have hne : g ≠ gb := gr_ne h (hc 0 _ rfl)
  exact ⟨g, o, e, by simpa using hg, fun i u hu => (cell_set_far _ hne).trans (hc i u hu)⟩
theorem ed_set {w : World} {gb i : Nat} {v : Value} {A B A' : Option Addr} {n c m d : Nat} {T : TypeId} {E : List Ed} (h : w.heap[gb]? = some (.cells #[.slice A n c, .slice B m d] T (0, 0))) (hs : EdAt w w.heap.size A' E) : EdAt (w.setCell ⟨gb, i, none⟩ v) (w.setCell ⟨gb, i, none⟩ v).heap.size A' E := fun j hj => by
  obtain ⟨g, o, e, hg, hc⟩ := hs j hj
  have hne : g ≠ gb := gr_neI h (hc 0 _ rfl)
  exact ⟨g, o, e, by simpa using hg, fun i u hu => (cell_set_far _ hne).trans (hc i u hu)⟩
theorem NSt.setN {w0 wr : World} {rb gb : Nat} {L : List (List UInt8)} {E : List Ed} {A B : Option Addr} {c d : Nat} (h : NSt w0 wr rb gb L E A B c d) {L' : List (List UInt8)} {g o c' : Nat} (hel : Rk.Rc.StAt wr wr.heap.size (some ⟨g, o, none⟩) L') (hlc : L'.length ≤ c') (hcm : c' ≤ maxLen) : NSt w0 (wr.setCell ⟨gb, 0, none⟩ (.slice (some ⟨g, o, none⟩) L'.length c')) rb gb L' E (some ⟨g, o, none⟩) B c' d :=
  ⟨heap_setCell_same wr gb 0 _ _ _ h.gr, (heap_setCell_other wr ⟨gb, 0, none⟩ rb _ h.ne).trans h.rs, h.ne, h.lo, h.bw.setCell (p := ⟨gb, 0, none⟩) h.lo _, st_set h.gr hel, ed_set h.gr h.ed, .inr ⟨⟨g, o, rfl⟩, hlc, hcm⟩, h.eo⟩
theorem NSt.setE {w0 wr : World} {rb gb : Nat} {L : List (List UInt8)} {E : List Ed} {A B : Option Addr} {c d : Nat} (h : NSt w0 wr rb gb L E A B c d) {E' : List Ed} {g o d' : Nat} (hel : EdAt wr wr.heap.size (some ⟨g, o, none⟩) E') (hlc : E'.length ≤ d') (hcm : d' ≤ maxLen) : NSt w0 (wr.setCell ⟨gb, 1, none⟩ (.slice (some ⟨g, o, none⟩) E'.length d')) rb gb L E' A (some ⟨g, o, none⟩) c d' :=
  ⟨heap_setCell_same wr gb 1 _ _ _ h.gr, (heap_setCell_other wr ⟨gb, 1, none⟩ rb _ h.ne).trans h.rs, h.ne, h.lo, h.bw.setCell (p := ⟨gb, 1, none⟩) h.lo _, st_set h.gr h.st, ed_set h.gr hel, h.so, .inr ⟨⟨g, o, rfl⟩, hlc, hcm⟩⟩
end Gr
theorem qins_opt (l : List (List UInt8)) (s : List UInt8) (A : Option Addr) (c : Nat) (w : World) (hA : Rk.Rc.StAt w w.heap.size A l) (hs : Gr.SlOk A l.length c) (hn : l.length ≤ 10000000) :
    Calls Tryz.prog 34 #[.slice A l.length c, .string (str s)] w (Rk.GotS w (Rk.Rc.InsP l s)) := by
  rcases hs with ⟨rfl, h0, rfl⟩ | ⟨⟨g, o, rfl⟩, h1, h2⟩
  · obtain rfl := List.length_eq_zero_iff.1 h0
    exact qinsert_nil s w
  · exact Rk.qinsert_any l s g o c w hA (by omega) hn h1 h2
theorem qput_opt (l : List Ed) (x : Ed) (A : Option Addr) (c : Nat) (w : World) (hA : Gr.EdAt w w.heap.size A l) (hs : Gr.SlOk A l.length c) (hn : l.length ≤ 10000000) :
    Calls Tryz.prog 35 #[.slice A l.length c, edA x] w (GotE w (Gr.InsE l x)) := by
  rcases hs with ⟨rfl, h0, rfl⟩ | ⟨⟨g, o, rfl⟩, h1, _⟩
  · obtain rfl := List.length_eq_zero_iff.1 h0
    exact qput_nil x w
  · exact qput_any l x g o c w hA hn h1
end Go.Proofs.YtjemffgidhgfjaaGreatDoor
