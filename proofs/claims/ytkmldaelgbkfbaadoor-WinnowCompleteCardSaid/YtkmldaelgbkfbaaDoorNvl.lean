/- Words and texts of words where they lie; Valid. Condition: bytealg's MaxLen lies in its variable; the lengths. -/
import Derived.Test.YtkmldaelgbkfbaaDoorNhb
import Derived.Deep.OwnRows
import Derived.Deep.RegionLaw
import Derived.Laws.OwnMore
namespace Go.Proofs.YtkmldaelgbkfbaaDoor
open Go.RowKit Go.Deep Tr
namespace Nm
theorem blk_lt {w : World} {q : Nat} {o : Obj} (h : w.heap[q]? = some o) : q < w.heap.size := (Array.getElem?_eq_some_iff.1 h).1
theorem addr_addS (g o j : Nat) : (⟨g, o, none⟩ : Addr).add j = ⟨g, o + j, none⟩ := by simp [Addr.add]
/-- A word. -/
structure Lx where
  tx : List UInt8
  ln : Int
def lxV (x : Lx) : List Value := [.string (str x.tx), .int .i64 x.ln]
def lxsV (l : List Lx) : List Value := l.flatMap lxV
/-- Words where they lie, below B. -/
def LxAt (w : World) (B : Nat) (A : Option Addr) (l : List Lx) : Prop := ∀ j (h : j < l.length), ∃ g o, A = some ⟨g, o, none⟩ ∧ g < B ∧ w.cell? ⟨g, o + j * 2, none⟩ = some (.string (str l[j].tx)) ∧ w.cell? ⟨g, o + j * 2 + 1, none⟩ = some (.int .i64 l[j].ln)
theorem LxAt.next {w w' : World} {A : Option Addr} {l : List Lx} (h : LxAt w w.heap.size A l) (hb : Below w.heap.size w w') : LxAt w' w'.heap.size A l := fun j hj => by
  obtain ⟨g, o, e, hg, h0, h1⟩ := h j hj
  exact ⟨g, o, e, Nat.lt_of_lt_of_le hg hb.size, (hb.cell (p := ⟨g, o + j * 2, none⟩) hg).trans h0, (hb.cell (p := ⟨g, o + j * 2 + 1, none⟩) hg).trans h1⟩
theorem LxAt.nil (w : World) (B : Nat) (A : Option Addr) : LxAt w B A [] := fun j hj => by simp at hj
/-- A part of the words. -/
theorem LxAt.part {w : World} {B g o : Nat} {l : List Lx} (h : LxAt w B (some ⟨g, o, none⟩) l) (a n : Nat) : LxAt w B (some ⟨g, o + a * 2, none⟩) ((l.drop a).take n) := fun j hj => by
  rw [List.length_take, List.length_drop] at hj
  obtain ⟨g', o', e, hg, h0, h1⟩ := h (a + j) (by omega)
  cases e
  refine ⟨_, _, rfl, hg, ?_, ?_⟩
  · rw [show o + a * 2 + j * 2 = o + (a + j) * 2 by omega, List.getElem_take, List.getElem_drop]; exact h0
  · rw [show o + a * 2 + j * 2 + 1 = o + (a + j) * 2 + 1 by omega, List.getElem_take, List.getElem_drop]; exact h1
def Sht (l : List Lx) : Prop := ∀ x ∈ l, x.tx.length ≤ 1000000000
/-- A text of words. -/
structure Txt where
  pth : List UInt8
  ws : List Lx
abbrev txV (A : Option Addr) (c : Nat) (t : Txt) : Value := .agg #[.string (str t.pth), .slice A t.ws.length c]
def txO (A : Option Addr) (n c : Nat) (s : ByteArray) : Obj := .cells #[.string s, .slice A n c] 24 (0, 0)
/-- Whether words are valid behind a line. -/
def okw : Int → List Lx → Bool
  | _, [] => true
  | m, x :: r => isW x.tx && decide (m ≤ x.ln) && decide (x.ln < 1024) && okw x.ln r
def vld (t : Txt) : Bool := decide (Tre.path t.pth = 0) && decide (t.ws.length ≤ 8192) && okw 0 t.ws
structure TxAt (w : World) (A : Option Addr) (t : Txt) : Prop where
  ws : LxAt w w.heap.size A t.ws
  sh : Sht t.ws
  pl : t.pth.length ≤ 1000000000
  wl : t.ws.length ≤ 5864062014634
theorem TxAt.next {w w' : World} {A : Option Addr} {t : Txt} (h : TxAt w A t) (hb : Below w.heap.size w w') : TxAt w' A t := ⟨h.ws.next hb, h.sh, h.pl, h.wl⟩
theorem path_02 (s : List UInt8) : Tre.path s = 0 ∨ Tre.path s = 2 := by rw [path_def]; split <;> simp
theorem okw_next (m : Int) (x : Lx) (r : List Lx) : okw m (x :: r) = (isW x.tx && decide (m ≤ x.ln) && decide (x.ln < 1024) && okw x.ln r) := rfl
theorem cells2 {w : World} {q : Nat} {a b : Value} {T : TypeId} {z : Nat × Nat} (h : w.heap[q]? = some (.cells #[a, b] T z)) : w.cell? ⟨q, 0, none⟩ = some a ∧ w.cell? ⟨q, 1, none⟩ = some b := by
  have hc : ∀ i, w.cell? ⟨q, i, none⟩ = (#[a, b] : Array Value)[i]? := fun i => cell_of_row _ _ _ _ _ _ h
  exact ⟨(hc 0).trans rfl, (hc 1).trans rfl⟩
set_option maxHeartbeats 8000000 in
set_option maxRecDepth 100000 in
theorem valid_any (t : Txt) (A : Option Addr) (c : Nat) (w : World) (hA : TxAt w A t) (hM : MaxAt w) :
    Calls Tryd.prog 12 #[txV A c t] w fun e w' => e = .returned (.bool (vld t)) ∧ Below w.heap.size w w' := by
  have hb0 : Below w.heap.size w (w.alloc (txO A t.ws.length c (str t.pth))) := (Below.refl _ _).alloc (Nat.le_refl _) _
  have hG := heap_alloc_new w (txO A t.ws.length c (str t.pth))
  obtain ⟨W, hW⟩ : ∃ W, W = w.alloc (txO A t.ws.length c (str t.pth)) := ⟨_, rfl⟩
  rw [← hW] at hb0 hG
  obtain ⟨q0, q1⟩ := cells2 hG
  have hA0 := hA.next hb0
  have hM0 := hM.below hb0
  have HV := Lib.hid (show vld t = (decide (Tre.path t.pth = 0) && decide (t.ws.length ≤ 8192) && okw 0 t.ws) from rfl)
  have HQ := Lib.hid (blk_lt hG)
  have HB := Lib.hid hb0
  have c1 := path_any (str t.pth) W (by rw [str_size]; exact hA.pl) hM0
  rw [show (str t.pth).data.toList = t.pth from rfl] at c1
  generalize vld t = v at *
  have HA0 := Lib.hid hA0
  have hp := path_02 t.pth
  generalize hpe : Tre.path t.pth = pe at *
  clear hA hA0 hM hM0 hb0 hG hpe
  rcases hp with rfl | rfl
  case inr =>
    have HT := Lib.hid (show v = false by rw [HV.out]; rfl)
    clear HV
    go_enter Tryd.func12, Tryd.ntmps12
    go_upto_region 1 with (fail)
    rw [show w.alloc (.cells #[.string (str t.pth), .slice A t.ws.length c] 24 (0, 0)) = W from hW.symm]
    clear hW
    go_wp2_with fail
    (with_reducible refine c1.mono ?_); rintro e w1 ⟨rfl, hb⟩
    have HB1 := Lib.hid (HB.out.trans (hb.mono HB.out.size))
    clear hb c1
    go_wp2_with fail
    go_ret
    exact ⟨ret_bool (by rw [HT.out]), HB1.out⟩
  case inl =>
  by_cases hl : 8192 < t.ws.length
  · have HT := Lib.hid (show v = false by rw [HV.out, decide_eq_false (show ¬ t.ws.length ≤ 8192 by omega)]; rfl)
    have d1 : decide ((8192 : Int) < (t.ws.length : Int)) = true := decide_eq_true (by omega)
    have d1n : decide (8192 < t.ws.length) = true := decide_eq_true hl
    clear HV
    go_enter Tryd.func12, Tryd.ntmps12
    go_upto_region 1 with (fail)
    rw [show w.alloc (.cells #[.string (str t.pth), .slice A t.ws.length c] 24 (0, 0)) = W from hW.symm]
    clear hW
    go_wp2_with fail
    (with_reducible refine c1.mono ?_); rintro e w1 ⟨rfl, hb⟩
    have q1' := (hb.cell (p := ⟨w.heap.size, 1, none⟩) HQ.out).trans q1
    have HB1 := Lib.hid (HB.out.trans (hb.mono HB.out.size))
    clear hb c1
    go_wp2_with fail
    go_ret
    exact ⟨ret_bool (by rw [HT.out]), HB1.out⟩
  have HT := Lib.hid (show v = okw 0 t.ws by rw [HV.out, decide_eq_true (show t.ws.length ≤ 8192 by omega)]; rfl)
  have d1 : decide ((8192 : Int) < (t.ws.length : Int)) = false := decide_eq_false (by omega)
  have d1n : decide (8192 < t.ws.length) = false := decide_eq_false hl
  clear HV
  go_enter Tryd.func12, Tryd.ntmps12
  go_upto_region 1 with (fail)
  rw [show w.alloc (.cells #[.string (str t.pth), .slice A t.ws.length c] 24 (0, 0)) = W from hW.symm]
  clear hW
  go_wp2_with fail
  (with_reducible refine c1.mono ?_); rintro e w1 ⟨rfl, hb⟩
  have q1' := (hb.cell (p := ⟨w.heap.size, 1, none⟩) HQ.out).trans q1
  have HA1 := Lib.hid (HA0.out.next hb)
  have HB1 := Lib.hid (HB.out.trans (hb.mono HB.out.size))
  clear hb c1 q0 q1
  go_wp2_with fail
  go_loopw [3, 19] (fun s3 s19 wr => ∃ (k : Nat) (m : Int), s19 = .int .i64 k ∧ s3 = .int .i64 m ∧ k ≤ t.ws.length ∧ okw 0 t.ws = okw m (t.ws.drop k) ∧ Below w1.heap.size w1 wr) (fun _ s19 _ => t.ws.length - (intOf s19).toNat)
  case atStart => exact ⟨0, 0, rfl, rfl, by omega, by rw [List.drop_zero], Below.refl _ _⟩
  case round =>
    obtain ⟨k, m, rfl, rfl, hk, hov, hbr⟩ := hrel
    have HOV := Lib.hid hov
    clear hov
    by_cases hlt : k < t.ws.length
    · have b1 : decide ((k : Int) < (t.ws.length : Int)) = true := decide_eq_true (by omega)
      have b1n : decide (k < t.ws.length) = true := decide_eq_true hlt
      have y2 : (k : Int) < (t.ws.length : Int) := by omega
      have HD := Lib.hid (List.drop_eq_getElem_cons hlt)
      obtain ⟨g0, o, rfl, hg, hd0, hd1⟩ := (HA1.out.ws.next hbr) k hlt
      have hsx := HA1.out.sh t.ws[k] (List.getElem_mem hlt)
      generalize t.ws[k] = x at *
      obtain ⟨tx, ln⟩ := x
      dsimp only [] at hd0 hd1 hsx
      have HN := Lib.hid (show okw 0 t.ws = (isW tx && decide (m ≤ ln) && decide (ln < 1024) && okw ln (t.ws.drop (k + 1))) by rw [HOV.out, HD.out, okw_next])
      obtain ⟨U, hU⟩ : ∃ U, U = wr.alloc (.cells #[.string (str tx), .int .i64 ln] 52 (0, 0)) := ⟨_, rfl⟩
      have hUn : U.heap[wr.heap.size]? = some (.cells #[.string (str tx), .int .i64 ln] 52 (0, 0)) := by rw [hU]; exact heap_alloc_new _ _
      obtain ⟨k0, k1⟩ := cells2 hUn
      have HUB := Lib.hid (show Below w1.heap.size w1 U by rw [hU]; exact hbr.alloc hbr.size _)
      have HUQ := Lib.hid (blk_lt hUn)
      have cc := isWord_any (str tx) U
      rw [show (str tx).data.toList = tx from rfl] at cc
      clear hUn hsx hg hbr
      go_upto_region 7 with (fail)
      rw [← hU]
      clear hU hd0 hd1
      go_wp2_with fail
      (with_reducible refine cc.mono ?_); rintro e w4 ⟨rfl, hb4⟩
      have e0 := (hb4.cell (p := ⟨wr.heap.size, 1, none⟩) HUQ.out).trans k1
      have HB4 := Lib.hid (HUB.out.trans (hb4.mono HUB.out.size))
      clear hb4 k0 k1 cc
      generalize hiw : isW tx = iw at *
      have HIW := Lib.hid hiw
      clear hiw
      cases iw with
      | false =>
        have HF := Lib.hid (show v = false by rw [HT.out, HN.out]; rfl)
        go_wp2_with fail
        go_ret
        exact ⟨ret_bool (by rw [HF.out]), HB1.out.trans (HB4.out.mono HB1.out.size)⟩
      | true =>
      by_cases h1 : ln < m
      · have d2 : decide (ln < m) = true := decide_eq_true h1
        have HF := Lib.hid (show v = false by rw [HT.out, HN.out, decide_eq_false (show ¬ m ≤ ln by omega)]; rfl)
        clear h1
        go_wp2_with fail
        go_ret
        exact ⟨ret_bool (by rw [HF.out]), HB1.out.trans (HB4.out.mono HB1.out.size)⟩
      have d2 : decide (ln < m) = false := decide_eq_false h1
      by_cases h2 : 1024 ≤ ln
      · have d3 : decide (1024 ≤ ln) = true := decide_eq_true h2
        have HF := Lib.hid (show v = false by rw [HT.out, HN.out, decide_eq_true (show m ≤ ln by omega), decide_eq_false (show ¬ ln < 1024 by omega)]; rfl)
        clear h1 h2
        go_wp2_with fail
        go_ret
        exact ⟨ret_bool (by rw [HF.out]), HB1.out.trans (HB4.out.mono HB1.out.size)⟩
      have d3 : decide (1024 ≤ ln) = false := decide_eq_false h2
      have HF := Lib.hid (show okw 0 t.ws = okw ln (t.ws.drop (k + 1)) by rw [HN.out, decide_eq_true (show m ≤ ln by omega), decide_eq_true (show ln < 1024 by omega)]; rfl)
      clear h1 h2
      go_wp2_with fail
      go_roundw
      case rel => exact ⟨k + 1, ln, by go_num, rfl, by omega, HF.out, HB4.out⟩
      case measure => simp [intOf]; omega
    · have b1 : decide ((k : Int) < (t.ws.length : Int)) = false := decide_eq_false (by omega)
      have b1n : decide (k < t.ws.length) = false := decide_eq_false hlt
      have HF := Lib.hid (show v = true by rw [HT.out, HOV.out, List.drop_of_length_le (by omega)]; rfl)
      have HB5 := Lib.hid (HB1.out.trans (hbr.mono HB1.out.size))
      clear hbr
      go_wp2_with fail
      go_ret
      exact ⟨ret_bool (by rw [HF.out]), HB5.out⟩
end Nm
end Go.Proofs.YtkmldaelgbkfbaaDoor
