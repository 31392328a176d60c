/- strings.SplitSeq at a line feed: its iterator calls yield with each line. No condition but the length. -/
import Derived.Test.YtenaohnginikhaaDoorRgf
import Derived.Test.YtenaohnginikhaaDoorTrPat
import Derived.Test.YtenaohnginikhaaDoorShelf
import Derived.Lib.Hide
import Derived.Lib.IndexLaws
import Derived.Sort.LoopGhostIn
namespace Go.Proofs.YtenaohnginikhaaDoor
open Go.RowKit Go.Shelf Tr Rg
attribute [local go_sem] Oper.semAt_some
namespace Nm
/-- The three variables of the iterator: the rest of the text, the line feed, and what is kept of it. -/
def SqAt (b : Nat) (s : ByteArray) (W : World) : Prop :=
  W.heap[b]? = some (.cells #[.string s] 9 (0, 0)) ∧ W.heap[b + 1]? = some (.cells #[.string ⟨#[10]⟩] 9 (0, 0)) ∧ W.heap[b + 2]? = some (.cells #[.int .i64 0] 3 (0, 0))
theorem one_cell {w : World} {q : Nat} {u : Value} {T : TypeId} {z : Nat × Nat} (h : w.heap[q]? = some (.cells #[u] T z)) : w.cell? ⟨q, 0, none⟩ = some u := (cell_of_row _ _ _ _ _ _ h).trans rfl
theorem one_frozen {w : World} {q : Nat} {u : Value} {T : TypeId} (h : w.heap[q]? = some (.cells #[u] T (0, 0))) : w.frozen? ⟨q, 0, none⟩ = false := by simp [World.frozen?, h]
theorem one_setCell {w : World} {q : Nat} {u v : Value} {T : TypeId} {z : Nat × Nat} (h : w.heap[q]? = some (.cells #[u] T z)) : (w.setCell ⟨q, 0, none⟩ v).heap[q]? = some (.cells #[v] T z) := by simp [World.setCell, Array.getElem?_modify, h]
/-- The line in front of the first line feed, and the rest. -/
theorem line_cut (l : List UInt8) : (Lib.indexByte l 10 = -1 ∧ Tre.split 10 l = [l]) ∨ ∃ k : Nat, Lib.indexByte l 10 = (k : Int) ∧ k + 1 ≤ l.length ∧ Tre.split 10 l = l.take k :: Tre.split 10 (l.drop (k + 1)) := by
  have hge := Lib.indexByte_ge l 10
  by_cases h : Lib.indexByte l 10 = -1
  · left
    refine ⟨h, Tre.split_end 10 l fun x hx e => ?_⟩
    obtain ⟨k, hk, he⟩ := List.getElem_of_mem hx
    exact Lib.indexByte_none h k (by rw [List.getElem?_eq_getElem hk, he, e])
  · right
    obtain ⟨k, hk⟩ : ∃ k : Nat, Lib.indexByte l 10 = (k : Int) := ⟨(Lib.indexByte l 10).toNat, by omega⟩
    obtain ⟨h1, h2⟩ := Lib.indexByte_some hk
    have hlt : k < l.length := by
      rcases Nat.lt_or_ge k l.length with h | h
      · exact h
      · rw [List.getElem?_eq_none h] at h1; cases h1
    refine ⟨k, hk, hlt, ?_⟩
    have e : l = l.take k ++ 10 :: l.drop (k + 1) := by
      have h3 := List.getElem?_eq_getElem hlt
      rw [h1] at h3
      have h4 : l[k] = 10 := (Option.some.inj h3).symm
      conv => lhs; rw [← List.take_append_drop k l, List.drop_eq_getElem_cons hlt, h4]
    conv => lhs; rw [e]
    exact Tre.split_cut 10 _ _ fun x hx e => by
      obtain ⟨j, hj, he⟩ := List.getElem_of_mem hx
      rw [List.length_take] at hj
      rw [List.getElem_take] at he
      exact h2 j (by omega) (by rw [List.getElem?_eq_getElem (by omega), he, e])
set_option maxHeartbeats 8000000 in
set_option maxRecDepth 100000 in
theorem seq_each (b : Nat) (s : ByteArray) (hs : s.size ≤ 1000000000) :
    Each Tryd.prog 67 #[.pointer (some ⟨b + 1, 0, none⟩), .pointer (some ⟨b, 0, none⟩), .pointer (some ⟨b + 2, 0, none⟩)] (fun i => #[.string (str ((Tre.split 10 s.data.toList).getD i []))]) (Tre.split 10 s.data.toList).length [b, b + 1, b + 2] (SqAt b s) := by
  intro l J W hok hJs hY h0
  obtain ⟨LS, hLS⟩ : ∃ LS, LS = Tre.split 10 s.data.toList := ⟨_, rfl⟩
  rw [← hLS] at hY ⊢
  have HJS := Lib.hid hJs
  have HY := Lib.hid hY
  have HLS := Lib.hid hLS
  obtain ⟨k0, k1, k2⟩ := hok
  have c0 := one_cell k0
  have c1 := one_cell k1
  have c2 := one_cell k2
  have HK := Lib.hid (show SqAt b s W from ⟨k0, k1, k2⟩)
  have H0 := Lib.hid h0
  clear hJs hY hLS k0 k1 k2 h0
  refine (callsIn_wide (n := 3)).1 ?_
  refine callsIn_of_wp Tryd.func67 rfl trivial ?_
  simp only [Tryd.ntmps67, List.size_toArray, List.length_cons, List.length_nil, Nat.reduceAdd, Nat.reduceSub, Array.replicate_succ, Array.replicate_zero, List.push_toArray, List.append_toArray, List.nil_append, List.cons_append]
  gi_wp2
  gi_loopg [] LS.length (fun gk wr => ∃ (i : Nat) (rest : List UInt8), LS.length - i = gk ∧ i < LS.length ∧ Tre.split 10 rest = LS.drop i ∧ SqAt b (str rest) wr ∧ J i wr ∧ rest.length ≤ s.size)
  case atStart => exact ⟨0, s.data.toList, by omega, by rw [HLS.out]; exact List.length_pos_iff.2 (Tre.split_ne 10 _), by rw [List.drop_zero]; exact HLS.out.symm, HK.out, H0.out, Nat.le_refl _⟩
  case round =>
    obtain ⟨i, rest, rfl, hi, hsp, hq, hJ, hlen⟩ := hrel
    obtain ⟨q0, q1, q2⟩ := id hq
    have d0 := one_cell q0
    have d1 := one_cell q1
    have d2 := one_cell q2
    have f0 := one_frozen q0
    have HX : CallsIn Fence.wide 2 Tryd.prog 38 #[.string (str rest), .string ⟨#[10]⟩] wr fun e w' => e = .returned (.int .i64 (Lib.indexByte rest 10)) ∧ w' = wr := callsIn_wide.2 (by simpa [str] using Tryd.strings_Index_one (str rest) 10 wr)
    have HQ := Lib.hid hq
    clear hq q0 q1 q2
    have hsz : (str rest).size = rest.length := str_size rest
    rcases line_cut rest with ⟨hx, hsp2⟩ | ⟨k, hx, hk, hsp2⟩
    · rw [hx] at HX
      have hd : LS.drop i = [rest] := hsp.symm.trans hsp2
      have hL : LS.length = i + 1 := by have := congrArg List.length hd; simp at this; omega
      have hg : LS.getD i [] = rest := by
        have := congrArg (fun l => l[0]?) hd
        simp only [List.getElem?_drop, Nat.add_zero, List.getElem?_cons_zero] at this
        rw [List.getD_eq_getElem?_getD, this]; rfl
      have hy0 := HY.out i wr hi hJ
      rw [hg] at hy0
      obtain ⟨fn, tmps, assign, body, hy, hR⟩ := hy0
      have HR := Lib.hid hR
      clear hR
      gi_wp2_with (refine ⟨trivial, ?_⟩; gi_at_call 38; refine (HX).mono ?_; rintro e w1 ⟨rfl, rfl⟩)
      refine (roundIn_deep HR.out).mono ?_
      rintro e W1 ⟨rfl, hJ1, _⟩
      gi_wp2
      go_end0
      exact ⟨⟨_, rfl⟩, by rw [hL]; exact hJ1⟩
    · rw [hx] at HX
      have hd : LS.drop i = rest.take k :: Tre.split 10 (rest.drop (k + 1)) := hsp.symm.trans hsp2
      have hd2 : LS.drop (i + 1) = Tre.split 10 (rest.drop (k + 1)) := by rw [← List.drop_drop, hd]; rfl
      have hL : i + 1 < LS.length := by
        have := congrArg List.length hd2
        have h3 := List.length_pos_iff.2 (Tre.split_ne 10 (rest.drop (k + 1)))
        simp at this; omega
      have hg : LS.getD i [] = rest.take k := by
        have := congrArg (fun l => l[0]?) hd
        simp only [List.getElem?_drop, Nat.add_zero, List.getElem?_cons_zero] at this
        rw [List.getD_eq_getElem?_getD, this]; rfl
      have hk1 : (k : Int) ≤ ((str rest).size : Int) := by omega
      have hk2 : (k : Int) + 1 ≤ ((str rest).size : Int) := by omega
      have hy0 := HY.out i wr hi hJ
      have et : (str rest).extract 0 k = str (rest.take k) := by rw [ext_take, str_data]
      have ed : (str rest).extract (k + 1) rest.length = str (rest.drop (k + 1)) := by rw [← hsz, ext_drop, str_data]
      rw [hg] at hy0
      obtain ⟨fn, tmps, assign, body, hy, hR⟩ := hy0
      have HR := Lib.hid hR
      clear hR
      gi_wp2_with (refine ⟨trivial, ?_⟩; gi_at_call 38; refine (HX).mono ?_; rintro e w1 ⟨rfl, rfl⟩)
      refine (roundIn_deep HR.out).mono ?_
      rintro e W1 ⟨rfl, hJ1, hkp⟩
      obtain ⟨q0, q1, q2⟩ := HQ.out
      have p0 := (hkp b (by simp)).trans q0
      have p1 := (hkp (b + 1) (by simp)).trans q1
      have p2 := (hkp (b + 2) (by simp)).trans q2
      have d0' := one_cell p0
      have d1' := one_cell p1
      have d2' := one_cell p2
      have f0' := one_frozen p0
      have HP := Lib.hid (show SqAt b (str rest) W1 from ⟨p0, p1, p2⟩)
      clear q0 q1 q2 p0 p1 p2 hkp
      gi_wp2
      gi_roundg (LS.length - (i + 1))
      case measure => omega
      case rel =>
        refine ⟨i + 1, rest.drop (k + 1), rfl, hL, hd2.symm, ?_, HJS.out _ _ _ _ hJ1 (by simp), by rw [List.length_drop]; omega⟩
        obtain ⟨p0, p1, p2⟩ := HP.out
        exact ⟨one_setCell p0, (Below.heap_setCell _ ⟨b, 0, none⟩ _ _ (by show b + 1 ≠ b; omega)).trans p1, (Below.heap_setCell _ ⟨b, 0, none⟩ _ _ (by show b + 2 ≠ b; omega)).trans p2⟩
end Nm
end Go.Proofs.YtenaohnginikhaaDoor
