/- Fingerprints in order; pairs of places; slices.Equal of the same pairs. No condition but the lengths. -/
import Derived.Test.YtkmldaelgbkfbaaDoorQse
import Derived.Test.YtkmldaelgbkfbaaDoorArr
namespace Go.Proofs.YtkmldaelgbkfbaaDoor
open Go.RowKit Go.Deep
namespace Wn
theorem fp_cells {w : World} {B : Nat} {A : Option Addr} {l : List Fp} (h : Gr.EdAt w B A l) (h0 : 0 < l.length) : ∃ g o, A = some ⟨g, o, none⟩ ∧ g < B ∧ ∀ j (hj : j < l.length), w.cell? ⟨g, o + j * 2, none⟩ = some (.int .i64 l[j].hash) ∧ w.cell? ⟨g, o + j * 2 + 1, none⟩ = some (.int .i64 l[j].pos) := by
  obtain ⟨g, o, e, hg, hc⟩ := h.row h0
  exact ⟨g, o, e, hg, fun j hj => ⟨hc j hj 0 _ rfl, hc j hj 1 _ rfl⟩⟩
/-- Whether fingerprints are in order. -/
def ordF : List Fp → Bool
  | [] => true
  | [_] => true
  | x :: y :: t => decide (x.pos < y.pos) && ordF (y :: t)
theorem ord_step (l : List Fp) (i : Nat) (h : i + 1 < l.length) : ordF (l.drop i) = (decide (l[i].pos < l[i + 1].pos) && ordF (l.drop (i + 1))) := by
  rw [List.drop_eq_getElem_cons (by omega : i < l.length), List.drop_eq_getElem_cons h]
  rfl
theorem ord_end (l : List Fp) (i : Nat) (h : l.length ≤ i + 1) : ordF (l.drop i) = true := by
  by_cases h2 : i < l.length
  · rw [List.drop_eq_getElem_cons h2, List.drop_eq_nil_of_le (by omega)]; rfl
  · rw [List.drop_eq_nil_of_le (by omega)]; rfl
set_option maxHeartbeats 16000000 in
set_option maxRecDepth 100000 in
theorem inOrder_any (l : List Fp) (A : Option Addr) (c : Nat) (w : World) (hA : Gr.EdAt w w.heap.size A l) (hl : l.length ≤ 100000) :
    Calls Tryd.prog 28 #[.slice A l.length c] w fun e w' => e = .returned (.bool (ordF l)) ∧ Below w.heap.size w w' := by
  obtain ⟨n1, hn1⟩ : ∃ n1, n1 = l.length := ⟨_, rfl⟩
  rw [← hn1]
  rw [← hn1] at hl
  by_cases h0 : n1 = 0
  · have HV := Lib.hid (show ordF l = true by rw [List.length_eq_zero_iff.1 (show l.length = 0 by omega)]; rfl)
    subst h0
    clear hA hl hn1
    go_enter Tryd.func28, Tryd.ntmps28
    go_wp2_with fail
    go_loopw [7] (fun s wr => s = .int .i64 0 ∧ Below w.heap.size w wr) (fun _ _ => 0)
    case atStart => exact ⟨rfl, Below.refl _ _⟩
    case round =>
      obtain ⟨rfl, hb⟩ := hrel
      have HB := Lib.hid hb
      clear hb
      go_wp2_with fail
      go_ret
      exact ⟨by rw [HV.out]; rfl, HB.out⟩
  obtain ⟨g, o, rfl, hg, hc⟩ := fp_cells hA (by omega)
  have HC := Lib.hid hc
  have HN := Lib.hid (And.intro hn1 hl)
  have HV := Lib.hid (show ordF l = ordF (l.drop 0) by rw [List.drop_zero])
  generalize ordF l = V at *
  obtain ⟨D, hD⟩ : ∃ D : Nat, n1 = D + 1 := ⟨n1 - 1, by omega⟩
  have HD := Lib.hid hD
  have t0 : IntKind.i64.wrap ((n1 : Int) - 1) = (D : Int) := by rw [IntKind.wrap_i64]; omega
  clear hA hl h0 hn1 hc hD
  go_enter Tryd.func28, Tryd.ntmps28
  go_wp2_with fail
  clear t0
  go_loopw [7] (fun s wr => ∃ i : Nat, s = .int .i64 i ∧ i ≤ n1 ∧ V = ordF (l.drop i) ∧ Below w.heap.size w wr) (fun s _ => n1 + 2 - (intOf s).toNat)
  case atStart => exact ⟨0, rfl, by omega, HV.out, Below.refl _ _⟩
  case round =>
    obtain ⟨i, rfl, hi, hv, hb⟩ := hrel
    obtain ⟨hn1, hl⟩ := HN.out
    have hD := HD.out
    have HBN := Lib.hid (show ∀ q, Below w.heap.size w (wr.drewN q) from fun q => ⟨hb.os, hb.tape, hb.output, hb.size, hb.block⟩)
    by_cases hlt : i < D
    · have b1 : decide ((i : Int) < (D : Int)) = true := decide_eq_true (by omega)
      have b1n : decide (i < D) = true := decide_eq_true hlt
      obtain ⟨-, p1⟩ := HC.out i (by omega)
      obtain ⟨-, p2⟩ := HC.out (i + 1) (by omega)
      have hst := ord_step l i (by omega)
      obtain ⟨j, hj⟩ : ∃ j, j = i + 1 := ⟨_, rfl⟩
      simp only [← hj] at p2 hst
      have p1 := (hb.cell (p := ⟨g, o + i * 2 + 1, none⟩) hg).trans p1
      have p2 := (hb.cell (p := ⟨g, o + j * 2 + 1, none⟩) hg).trans p2
      have y1 : (i : Int) < (n1 : Int) := by omega
      have y2 : (j : Int) < (n1 : Int) := by omega
      have t1 : IntKind.i64.wrap ((i : Int) + 1) = (j : Int) := by rw [IntKind.wrap_i64]; omega
      have t2 : (i : Int) + 1 = (j : Int) := by omega
      have hi8 : i ≤ 100001 := by omega
      have hj8 : j ≤ 100001 := by omega
      generalize l[i].pos = a at *
      generalize l[j].pos = b at *
      have HST := Lib.hid (hv.trans hst)
      by_cases hab : b ≤ a
      · have d1 : decide (b ≤ a) = true := decide_eq_true hab
        have HT := Lib.hid (show V = false by rw [HST.out, decide_eq_false (by omega)]; rfl)
        clear HST hst hv hab hb hlt hn1 hl hD hj
        go_wp2_with fail
        go_quiet (fail)
        go_wp2_with fail
        go_ret
        exact ⟨by rw [HT.out]; rfl, HBN.out _⟩
      · have d1 : decide (b ≤ a) = false := decide_eq_false hab
        have HT := Lib.hid (show V = ordF (l.drop j) by rw [HST.out, decide_eq_true (by omega)]; rfl)
        have HI := Lib.hid (show j + 1 ≤ n1 ∧ j = i + 1 from ⟨by omega, hj⟩)
        clear HST hst hv hab hb hlt hn1 hl hD hj
        go_wp2_with fail
        go_quiet (fail)
        clear d1 p1 p2 y1 y2 t1 t2
        go_wp2_with fail
        go_roundw
        case rel => exact ⟨j, by have := HI.out; go_num, by have := HI.out; omega, HT.out, HBN.out _⟩
        case measure => have := HI.out; simp [intOf]; omega
    · have b1 : decide ((i : Int) < (D : Int)) = false := decide_eq_false (by omega)
      have b1n : decide (i < D) = false := decide_eq_false hlt
      have HT := Lib.hid (show V = true by rw [hv]; exact ord_end l i (by omega))
      have HB := Lib.hid hb
      clear hv hb hlt hn1 hl hD
      go_wp2_with fail
      go_ret
      exact ⟨by rw [HT.out]; rfl, HB.out⟩
/-- The places of the fingerprints with a hash. -/
def plc (l : List Fp) (h : Int) : List Int := (l.filter fun x => x.hash == h).map (·.pos)
theorem plc_snoc (l : List Fp) (k : Nat) (h : k < l.length) (x : Int) : plc (l.take (k + 1)) x = if x = l[k].hash then plc (l.take k) x ++ [l[k].pos] else plc (l.take k) x := by
  unfold plc
  rw [List.take_succ_eq_append_getElem h, List.filter_append, List.map_append]
  by_cases e : x = l[k].hash
  · rw [if_pos e, List.filter_cons_of_pos (by simp [e])]; simp
  · rw [if_neg e, List.filter_cons_of_neg (by simp; exact fun h => e h.symm)]; simp
theorem plc_len (l : List Fp) (h : Int) : (plc l h).length ≤ l.length := by unfold plc; rw [List.length_map]; exact List.length_filter_le _ _
/-- The pairs of one fingerprint with some places. -/
def pr1 (x : Fp) (l : List Int) : List Fp := l.map fun y => ⟨x.pos, y⟩
/-- The pairs of two lists. -/
def prs (a b : List Fp) : List Fp := a.flatMap fun x => pr1 x (plc b x.hash)
theorem prs_snoc (a b : List Fp) (k : Nat) (h : k < a.length) : prs (a.take (k + 1)) b = prs (a.take k) b ++ pr1 a[k] (plc b a[k].hash) := by
  unfold prs
  rw [List.take_succ_eq_append_getElem h, List.flatMap_append]
  simp only [List.flatMap_cons, List.flatMap_nil, List.append_nil]
theorem pr1_snoc (x : Fp) (l : List Int) (k : Nat) (h : k < l.length) : pr1 x (l.take (k + 1)) = pr1 x (l.take k) ++ [⟨x.pos, l[k]⟩] := by
  unfold pr1; rw [List.take_succ_eq_append_getElem h, List.map_append]; rfl
theorem pr1_len (x : Fp) (l : List Int) : (pr1 x l).length = l.length := List.length_map _
theorem prs_le (a b : List Fp) (k : Nat) : (prs (a.take k) b).length ≤ (prs a b).length := by
  have : prs a b = prs (a.take k) b ++ prs (a.drop k) b := by unfold prs; rw [← List.flatMap_append, List.take_append_drop]
  rw [this, List.length_append]; omega
/-- What Shared returns. -/
def shL (a b : List Fp) : List Fp := if ordF a = true ∧ ordF b = true ∧ (prs a b).length ≤ 1024 then prs a b else []
def shE (a b : List Fp) : Int := if ordF a = true ∧ ordF b = true then if (prs a b).length ≤ 1024 then 0 else 10 else 5
def GotP (w : World) (L : List Fp) (E : Int) : Ending → World → Prop := fun e w' => ∃ A c, e = .returned (.tuple #[.slice A L.length c, .int .i64 E]) ∧ L.length ≤ c ∧ c ≤ maxLen ∧ Gr.EdAt w' w'.heap.size A L ∧ Below w.heap.size w w'
end Wn
end Go.Proofs.YtkmldaelgbkfbaaDoor
