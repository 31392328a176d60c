/- Make of the reference: the table of lengths row by row in place, the pairs out of it. No condition but the lengths. -/
import Derived.Test.YtlfgnecfabdkmaaGreatDoorQkf
import Derived.Test.YtlfgnecfabdkmaaGreatDoorInv
import Derived.Test.YtlfgnecfabdkmaaGreatDoorCom
import Derived.StillTailTactics
namespace Go.Proofs.YtlfgnecfabdkmaaGreatDoor
open Go.RowKit Go.Deep Tr

theorem own_pos1 {w : World} {B : Nat} {e : TypeId} {n : Nat} {v : Value} {xs : List Value} (h : w.ownsRow B e 1 v n xs) (hn : 0 < n) : ∃ A cap, v = .slice A n cap ∧ n ≤ cap ∧ cap ≤ maxLen ∧ CellsAt w w.heap.size A xs := by
  obtain ⟨g, cap, rfl, _, _, h1, h2, _⟩ := own_pos h hn
  obtain ⟨A, c, he, hA⟩ := owns_cells h
  injection he with he _ hc
  subst he hc
  exact ⟨_, _, rfl, h1, h2, hA⟩
/-- The rows behind k are laid; row k, in block q, holds V. -/
structure Tp (w : World) (B g0 q : Nat) (a b : List (List UInt8)) (k : Nat) (V : Nat → Value) : Prop where
  ex : ∃ G : Nat → Nat, G k = q ∧ w.rowIs g0 83 (a.length + 1) (rowV k b.length G) ∧ (∀ r, k < r → r ≤ a.length → g0 < G r ∧ G r < q ∧ w.rowIs (G r) 3 (b.length + 1) (lcV a b r)) ∧ w.rowIs q 3 (b.length + 1) V
  lo : B ≤ g0
  hi : g0 < q
theorem Tp.of {w : World} {B g0 k : Nat} {a b : List (List UInt8)} (h : Tb w B g0 w.heap.size a b (k + 1)) : Tp ((w.setCell ⟨g0, k, none⟩ (.slice (some ⟨w.heap.size, 0, none⟩) (b.length + 1) (b.length + 1))).alloc (.cells (madeCells #[.int .i64 0] (b.length + 1)) 3)) B g0 w.heap.size a b k (halfV a b k b.length) := by
  obtain ⟨⟨G, h1, h2⟩, h3, h4⟩ := h
  refine ⟨⟨fun r => if r = k then w.heap.size else G r, by simp, ((h1.set k _).alloc _).congr fun r hr => ?_, fun r hr hr2 => ?_, ?_⟩, h3, h4⟩
  · unfold rowV
    by_cases e : r = k
    · subst e; simp
    · simp only [e, if_false]
      by_cases e2 : k ≤ r
      · rw [if_pos (show k + 1 ≤ r by omega), if_pos e2]
      · rw [if_neg (show ¬ k + 1 ≤ r by omega), if_neg e2]
  · obtain ⟨g1, g2, g3⟩ := h2 r (by omega) hr2
    simp only [show ¬ r = k by omega, if_false]
    exact ⟨g1, g2, (g3.setOther (a := ⟨g0, k, none⟩) (by show G r ≠ g0; omega) _).alloc _⟩
  · have h := World.rowIs_made (w.setCell ⟨g0, k, none⟩ (.slice (some ⟨w.heap.size, 0, none⟩) (b.length + 1) (b.length + 1))) (.int .i64 0) (b.length + 1) 3
    rw [show (w.setCell ⟨g0, k, none⟩ (.slice (some ⟨w.heap.size, 0, none⟩) (b.length + 1) (b.length + 1))).heap.size = w.heap.size by simp] at h
    exact h.congr fun j hj => by
      unfold halfV
      by_cases e : b.length ≤ j
      · rw [if_pos e]
        unfold lcV
        rw [List.drop_of_length_le (l := b) e, Pc.lcs_nil_r]; rfl
      · rw [if_neg e]
theorem Tp.same {w w' : World} {B g0 q k : Nat} {a b : List (List UInt8)} {V : Nat → Value} (h : Tp w B g0 q a b k V) (e : ∀ x, x ≤ q → w'.heap[x]? = w.heap[x]?) : Tp w' B g0 q a b k V := by
  obtain ⟨⟨G, h0, h1, h2, h5⟩, h3, h4⟩ := h
  exact ⟨⟨G, h0, h1.of_block (e _ (Nat.le_of_lt h4)), fun r hr hr2 => by obtain ⟨g1, g2, g3⟩ := h2 r hr hr2; exact ⟨g1, g2, g3.of_block (e _ (Nat.le_of_lt g2))⟩, h5.of_block (e _ (Nat.le_refl _))⟩, h3, h4⟩
theorem Tp.congr {w : World} {B g0 q k : Nat} {a b : List (List UInt8)} {V V' : Nat → Value} (h : Tp w B g0 q a b k V) (e : ∀ j, j < b.length + 1 → V j = V' j) : Tp w B g0 q a b k V' := by
  obtain ⟨⟨G, h0, h1, h2, h5⟩, h3, h4⟩ := h
  exact ⟨⟨G, h0, h1, h2, h5.congr e⟩, h3, h4⟩
theorem Tp.set {w : World} {B g0 q k : Nat} {a b : List (List UInt8)} {V : Nat → Value} (h : Tp w B g0 q a b k V) (l : Nat) (x : Value) : Tp (w.setCell ⟨q, l, none⟩ x) B g0 q a b k (fun j => if j = l then x else V j) := by
  obtain ⟨⟨G, h0, h1, h2, h5⟩, h3, h4⟩ := h
  refine ⟨⟨G, h0, h1.setOther (a := ⟨q, l, none⟩) (by show g0 ≠ q; omega) _, fun r hr hr2 => ?_, h5.set l x⟩, h3, h4⟩
  obtain ⟨g1, g2, g3⟩ := h2 r hr hr2
  exact ⟨g1, g2, g3.setOther (a := ⟨q, l, none⟩) (by show G r ≠ q; omega) _⟩
theorem Tp.row {w : World} {B g0 q k : Nat} {a b : List (List UInt8)} {V : Nat → Value} (h : Tp w B g0 q a b k V) (hk : k ≤ a.length) : w.cell? ⟨g0, k, none⟩ = some (.slice (some ⟨q, 0, none⟩) (b.length + 1) (b.length + 1)) := by
  obtain ⟨⟨G, h0, h1, h2, h5⟩, h3, h4⟩ := h
  rw [h1.cell (show k < a.length + 1 by omega)]
  unfold rowV
  rw [if_pos (Nat.le_refl _), h0]
theorem Tp.nxt {w : World} {B g0 q k : Nat} {a b : List (List UInt8)} {V : Nat → Value} (h : Tp w B g0 q a b k V) (hk : k < a.length) : ∃ g, w.cell? ⟨g0, k + 1, none⟩ = some (.slice (some ⟨g, 0, none⟩) (b.length + 1) (b.length + 1)) ∧ g < q ∧ w.rowIs g 3 (b.length + 1) (lcV a b (k + 1)) := by
  obtain ⟨⟨G, h0, h1, h2, h5⟩, h3, h4⟩ := h
  obtain ⟨g1, g2, g3⟩ := h2 (k + 1) (by omega) (by omega)
  refine ⟨G (k + 1), ?_, g2, g3⟩
  rw [h1.cell (show k + 1 < a.length + 1 by omega)]
  unfold rowV
  rw [if_pos (Nat.le_succ _)]
theorem Tp.cell {w : World} {B g0 q k l : Nat} {a b : List (List UInt8)} {V : Nat → Value} (h : Tp w B g0 q a b k V) (hl : l < b.length + 1) : w.cell? ⟨q, l, none⟩ = some (V l) := by
  obtain ⟨⟨G, h0, h1, h2, h5⟩, h3, h4⟩ := h
  exact h5.cell hl
theorem Tp.frz {w : World} {B g0 q k : Nat} {a b : List (List UInt8)} {V : Nat → Value} (h : Tp w B g0 q a b k V) (l : Nat) : w.frozen? ⟨q, l, none⟩ = false := by
  obtain ⟨⟨G, h0, h1, h2, h5⟩, h3, h4⟩ := h
  exact h5.frozen l
theorem Tp.done {w : World} {B g0 q k : Nat} {a b : List (List UInt8)} (h : Tp w B g0 q a b k (lcV a b k)) : Tb w B g0 w.heap.size a b k := by
  obtain ⟨⟨G, h0, h1, h2, h5⟩, h3, h4⟩ := h
  have hq := h5.lt
  refine ⟨⟨G, h1, fun r hr hr2 => ?_⟩, h3, by omega⟩
  by_cases e : r = k
  · subst e
    rw [h0]
    exact ⟨h4, hq, h5⟩
  · obtain ⟨g1, g2, g3⟩ := h2 r (by omega) hr2
    exact ⟨g1, by omega, g3⟩
theorem half_zero (a b : List (List UInt8)) (k j : Nat) : halfV a b k 0 j = lcV a b k j := by unfold halfV; rw [if_pos (Nat.zero_le _)]
theorem half_past (a b : List (List UInt8)) (l j : Nat) : halfV a b a.length l j = lcV a b a.length j := by
  unfold halfV
  split
  · rfl
  · unfold lcV; rw [List.drop_length, Pc.lcs_nil]; rfl
theorem half_fin {a b : List (List UInt8)} {k l : Nat} {x : Int} (hx : x = ((Pc.lcs (a.drop k) (b.drop l) : Nat) : Int)) (j : Nat) : (if j = l then Value.int .i64 x else halfV a b k (l + 1) j) = halfV a b k l j := by
  subst hx
  unfold halfV
  by_cases e : j = l
  · subst e; simp [lcV]
  · rw [if_neg e]
    by_cases e2 : l ≤ j
    · rw [if_pos (show l + 1 ≤ j by omega), if_pos e2]
    · rw [if_neg (show ¬ l + 1 ≤ j by omega), if_neg e2]
theorem lc_max {a b : List (List UInt8)} {k l : Nat} (hk : k < a.length) (hl : l < b.length) (h : a[k] = b[l]) : max (max (Pc.lcs (a.drop (k + 1)) (b.drop l)) (Pc.lcs (a.drop k) (b.drop (l + 1)))) (Pc.lcs (a.drop (k + 1)) (b.drop (l + 1)) + 1) = Pc.lcs (a.drop k) (b.drop l) := by
  rw [lc_eq hk hl h]
  have h1 := (Pc.lcs_b b[l] (a.drop (k + 1)) (b.drop (l + 1))).2
  have h2 := (Pc.lcs_a a[k] (a.drop (k + 1)) (b.drop (l + 1))).2
  rw [← drop_at b l hl] at h1
  rw [← drop_at a k hk] at h2
  omega
theorem lc_fall (a b : List (List UInt8)) (m d : Nat) : Pc.lcs a (b.drop (m + d)) ≤ Pc.lcs a (b.drop m) := by
  induction d with
  | zero => exact Nat.le_refl _
  | succ d ih =>
    by_cases h : m + d < b.length
    · have h1 := (Pc.lcs_b b[m + d] a (b.drop (m + d + 1))).1
      rw [← drop_at b (m + d) h] at h1
      rw [show m + (d + 1) = m + d + 1 by omega]
      omega
    · rw [List.drop_of_length_le (show b.length ≤ m + (d + 1) by omega), Pc.lcs_nil_r]
      omega
theorem lc_hit {a b : List (List UInt8)} {i j l : Nat} (hi : i < a.length) (hl : j ≤ l) (hb : l < b.length) (he : a[i] = b[l]) (h : ∀ y, j ≤ y → y < l → b[y]? ≠ some a[i]) : Pc.lcs (a.drop (i + 1)) (b.drop (l + 1)) + 1 ≤ Pc.lcs (a.drop i) (b.drop j) := by
  have h1 := Pc.first_some (a.drop (i + 1)) (com_first hi hl hb he h)
  rw [← drop_at a i hi, List.drop_drop, show j + (l - j + 1) = l + 1 by omega] at h1
  omega
theorem com_zero {a b : List (List UInt8)} {i j : Nat} (h : Pc.lcs (a.drop i) (b.drop j) = 0) : Pc.common (a.drop i) (b.drop j) i j = [] := List.length_eq_zero_iff.1 (by rw [Pc.common_len]; exact h)
/-- What the search through the second text knows at line l. -/
def Srch (a b : List (List UInt8)) (K os : List (Nat × Nat)) (i j l : Nat) (hi : i < a.length) : Prop :=
  (∀ y, j ≤ y → y < l → b[y]? ≠ some a[i]) ∨ (K = os ++ Pc.common (a.drop (i + 1)) (b.drop j) (i + 1) j ∧ ∃ m, m ≤ l ∧ Pc.lcs (a.drop (i + 1)) (b.drop m) + 1 < Pc.lcs (a.drop i) (b.drop j))
theorem Srch.miss {a b : List (List UInt8)} {K os : List (Nat × Nat)} {i j l : Nat} {hi : i < a.length} (h : Srch a b K os i j l hi) (hl : l < b.length) (he : ¬ a[i] = b[l]) : Srch a b K os i j (l + 1) hi := by
  rcases h with h | ⟨h, m, h1, h2⟩
  · refine .inl fun y hy hy2 => ?_
    by_cases e : y = l
    · subst e
      rw [List.getElem?_eq_getElem hl]
      exact fun hh => he (Option.some.inj hh).symm
    · exact h y hy (by omega)
  · exact .inr ⟨h, m, by omega, h2⟩
theorem Srch.skip {a b : List (List UInt8)} {K os : List (Nat × Nat)} {i j l : Nat} {hi : i < a.length} (hK : K = os ++ Pc.common (a.drop i) (b.drop j) i j) (h : Srch a b K os i j l hi) (hj : j ≤ l) (hl : l < b.length) (he : a[i] = b[l]) (hv : Pc.lcs (a.drop (i + 1)) (b.drop (l + 1)) + 1 < Pc.lcs (a.drop i) (b.drop j)) : Srch a b K os i j (l + 1) hi := by
  rcases h with h | ⟨h, m, h1, h2⟩
  · exact .inr ⟨by rw [hK, com_skip hi hj hl he h (by omega)], l + 1, Nat.le_refl _, hv⟩
  · exact .inr ⟨h, m, by omega, h2⟩
theorem Srch.hit {a b : List (List UInt8)} {K os : List (Nat × Nat)} {i j l : Nat} {hi : i < a.length} (hK : K = os ++ Pc.common (a.drop i) (b.drop j) i j) (h : Srch a b K os i j l hi) (hj : j ≤ l) (hl : l < b.length) (he : a[i] = b[l]) (hv : ¬ Pc.lcs (a.drop (i + 1)) (b.drop (l + 1)) + 1 < Pc.lcs (a.drop i) (b.drop j)) : K = (os ++ [(i, l)]) ++ Pc.common (a.drop (i + 1)) (b.drop (l + 1)) (i + 1) (l + 1) := by
  rcases h with h | ⟨h, m, h1, h2⟩
  · have := lc_hit hi hj hl he h
    rw [hK, com_hit hi hj hl he h (by omega), List.append_assoc]
    rfl
  · have := lc_fall (a.drop (i + 1)) b m (l + 1 - m)
    rw [show m + (l + 1 - m) = l + 1 by omega] at this
    omega
theorem Srch.over {a b : List (List UInt8)} {K os : List (Nat × Nat)} {i j l : Nat} {hi : i < a.length} (hK : K = os ++ Pc.common (a.drop i) (b.drop j) i j) (h : Srch a b K os i j l hi) (hl : ¬ l < b.length) : K = os ++ Pc.common (a.drop (i + 1)) (b.drop j) (i + 1) j := by
  rcases h with h | ⟨h, _⟩
  · rw [hK, com_none hi (fun y h1 h2 => h y h1 (by omega))]
  · exact h
set_option maxHeartbeats 16000000 in
set_option maxRecDepth 100000 in
theorem qMake_any (f t : ByteArray) (w : World) (hfs : f.size ≤ 1000000000) (hts : t.size ≤ 1000000000) :
    Calls Tryz.prog 28 #[.string f, .string t] w (GotPa w (Pc.make f.data.toList t.data.toList)) := by
  obtain ⟨i0, hi0, hz0, hz1, hz2⟩ := info_parts infoI
  obtain ⟨j0, hj0, hj1, hj2, hj3⟩ := info_parts infoIs
  obtain ⟨p0, hp0, hpz0, hpz1, hpz2⟩ := info_parts infoA2
  obtain ⟨W, hW, hb0, n3⟩ : ∃ W, W = w.alloc (.cells #[.string ⟨#[]⟩, .slice none 0 0] 24) ∧ Below w.heap.size w W ∧ W.heap[w.heap.size]? = some (.cells #[.string ⟨#[]⟩, .slice none 0 0] 24 (0, 0)) := ⟨_, rfl, (Below.refl _ _).alloc (Nat.le_refl _) _, heap_alloc_new w _⟩
  have HW := Lib.hid (show ∀ w', Below W.heap.size W w' → Below w.heap.size w w' ∧ w'.heap[w.heap.size]? = some (.cells #[.string ⟨#[]⟩, .slice none 0 0] 24 (0, 0)) from fun w' h => ⟨hb0.trans (h.mono hb0.size), (h.block _ (blk_lt n3)).trans n3⟩)
  have HD := Lib.hid (make_def f.data.toList t.data.toList)
  generalize Pc.make f.data.toList t.data.toList = R at *
  have hl1 := qLines_any f W hfs
  clear hb0 n3
  go_enter Tryz.func28, Tryz.ntmps28
  go_wp2_with fail
  rw [← hW]
  with_reducible refine hl1.mono ?_
  clear hl1 hW
  rintro x w1 ⟨v1, rfl, ho1, hb1⟩
  rcases lines_cases f.data.toList with ⟨he, hl⟩ | ⟨a, hl, a1, a2, _⟩
  · have HT := Lib.hid (HD.out.trans (if_pos he))
    rw [hl] at ho1 HT ⊢
    obtain ⟨A1, c1, rfl, _⟩ := owns_cells ho1
    obtain ⟨hbw1, kr1⟩ := HW.out _ hb1
    obtain ⟨q1, q2, r0, r1, f0, f1⟩ := fin_patch (.string ⟨#[]⟩) (.slice none 0 0) (Nat.le_refl _) kr1 hbw1 (hsT_nil w1 none)
    have Q1 := Lib.hid q1
    have Q2 := Lib.hid q2
    clear HD he hl ho1 q1 q2 kr1 hbw1 hb1
    go_wp2_with fail
    exact bodyPost_ret (v := .tuple #[.agg #[.string ⟨#[]⟩, .slice none 0 0], .int .i64 10]) (by simp [results, Tryz.results28, go_sem, r0, r1]) rfl ⟨none, 0, by rw [HT.out]; rfl, by rw [HT.out]; exact Q1.out, Q2.out⟩
  · have HD1 := Lib.hid (HD.out.trans (if_neg (by rw [hl]; simp)))
    have HLF := Lib.hid hl
    rw [hl] at ho1 HD1 ⊢
    dsimp only at ho1
    obtain ⟨A1, ca, rfl, hca, hcam, hA1⟩ := own_pos1 ho1 (by omega)
    have hl2 := qLines_any t w1 hts
    clear HD hl ho1
    go_wp2_with fail
    with_reducible refine hl2.mono ?_
    clear hl2
    rintro x w2 ⟨v2, rfl, ho2, hb2⟩
    have hb02 := hb1.trans (hb2.mono hb1.size)
    have hA2 := hA1.next hb2
    clear hb1 hb2 hA1
    rcases lines_cases t.data.toList with ⟨he, hl⟩ | ⟨b, hl, b1, b2, b3⟩
    · have HT := Lib.hid (HD1.out.trans (if_pos he))
      rw [hl] at ho2 HT ⊢
      obtain ⟨A2, c2, rfl, _⟩ := owns_cells ho2
      obtain ⟨hbw2, kr2⟩ := HW.out _ hb02
      obtain ⟨q1, q2, r0, r1, f0, f1⟩ := fin_patch (.string ⟨#[]⟩) (.slice none 0 0) (Nat.le_refl _) kr2 hbw2 (hsT_nil w2 none)
      have Q1 := Lib.hid q1
      have Q2 := Lib.hid q2
      clear HD1 he hl ho2 q1 q2 kr2 hbw2 hb02
      go_wp2_with fail
      exact bodyPost_ret (v := .tuple #[.agg #[.string ⟨#[]⟩, .slice none 0 0], .int .i64 10]) (by simp [results, Tryz.results28, go_sem, r0, r1]) rfl ⟨none, 0, by rw [HT.out]; rfl, by rw [HT.out]; exact Q1.out, Q2.out⟩
    · have HT := Lib.hid (HD1.out.trans (if_neg (by rw [hl]; simp)))
      rw [hl] at ho2 HT ⊢
      dsimp only at ho2
      have HT2 := Lib.hid (show R = Pc.keeping [] a b (Pc.common a b 0 0) from HT.out)
      obtain ⟨A2, cb, rfl, hcb, hcbm, hB2⟩ := own_pos1 ho2 (by omega)
      have HTL := Lib.hid (show t.data.toList.length ≤ 65536 from text_len hl)
      have HLB := Lib.hid b3
      have HMT := Lib.hid (Pc.common_mat a b a b 0 0 rfl rfl)
      have hcl : (Pc.common a b 0 0).length ≤ 1024 := by
        rw [Pc.common_len]
        have := lc_le a b 0 0
        simp only [List.drop_zero] at this
        omega
      have HKK := Lib.hid (show Pc.common a b 0 0 = [] ++ Pc.common (a.drop 0) (b.drop 0) 0 0 from rfl)
      generalize Pc.common a b 0 0 = K at *
      have hmk1 : ∀ w' : World, (Instr.makeSlice 82 (.int .i64 ((a.length : Int) + 1)) (.int .i64 ((a.length : Int) + 1))).run Tryz.prog w' = .ok (.slice (some ⟨w'.heap.size, 0, none⟩) (a.length + 1) (a.length + 1)) (w'.alloc (.cells (madeCells #[.slice none 0 0] (a.length + 1)) 83)) := fun w' => by
        have h := run_make_row (P := Tryz.prog) 82 83 j0 (.slice none 0 0) Tryz.underlying82 hj0 hj1 hj2 rfl .i64 .i64 (a.length + 1) (by rw [hj3]; omega) (by omega) w'
        rwa [show ((a.length + 1 : Nat) : Int) = (a.length : Int) + 1 by omega] at h
      have hmk2 : ∀ w' : World, (Instr.makeSlice 83 (.int .i64 ((b.length : Int) + 1)) (.int .i64 ((b.length : Int) + 1))).run Tryz.prog w' = .ok (.slice (some ⟨w'.heap.size, 0, none⟩) (b.length + 1) (b.length + 1)) (w'.alloc (.cells (madeCells #[.int .i64 0] (b.length + 1)) 3)) := fun w' => by
        have h := run_make_row (P := Tryz.prog) 83 3 i0 (.int .i64 0) Tryz.underlying83 hi0 hz0 hz1 rfl .i64 .i64 (b.length + 1) (by rw [hz2]; omega) (by omega) w'
        rwa [show ((b.length + 1 : Nat) : Int) = (b.length : Int) + 1 by omega] at h
      have hR0 := World.rowIs_made w2 (.slice none 0 0) (a.length + 1) 83
      have hb3 : Below w2.heap.size w2 (w2.alloc (.cells (madeCells #[.slice none 0 0] (a.length + 1)) 83)) := (Below.refl _ _).alloc (Nat.le_refl _) _
      have hT0 : Tb (w2.alloc (.cells (madeCells #[.slice none 0 0] (a.length + 1)) 83)) w2.heap.size w2.heap.size (w2.alloc (.cells (madeCells #[.slice none 0 0] (a.length + 1)) 83)).heap.size a b (a.length + 1) := ⟨⟨fun _ => 0, hR0.congr fun r hr => by unfold rowV; rw [if_neg (by omega)], fun r h1 h2 => by omega⟩, Nat.le_refl _, by simp⟩
      have HB2 := Lib.hid hb02
      have HA2 := Lib.hid hA2
      have HBB := Lib.hid hB2
      clear HD1 HT hl ho2 hR0 hb02 hA2 hB2 b3
      go_upto_region 8 with (fail)
      generalize w2.alloc (.cells (madeCells #[.slice none 0 0] (a.length + 1)) 83) = w3 at *
      generalize hg0 : w2.heap.size = g0 at *
      have HG0 := Lib.hid hg0
      clear hg0
      go_wp2_with fail
      go_loopw [10] (fun s10 wr => Below g0 w2 wr ∧ ((∃ k : Nat, k ≤ a.length ∧ s10 = .int .i64 k ∧ Tb wr g0 g0 wr.heap.size a b (k + 1)) ∨ (s10 = .int .i64 (-1) ∧ Tb wr g0 g0 wr.heap.size a b 0))) (fun s10 _ => (intOf s10 + 1).toNat)
      case atStart => exact ⟨hb3, .inl ⟨a.length, Nat.le_refl _, rfl, hT0⟩⟩
      case round =>
        clear hT0 hb3
        obtain ⟨hb, ⟨k, hk, rfl, hT⟩ | ⟨rfl, hT⟩⟩ := hrel
        · have u1 : decide ((0 : Int) ≤ (k : Int)) = true := by simp
          have x1 : (k : Int) < (a.length : Int) + 1 := by omega
          have HT := Lib.hid hT
          obtain ⟨⟨G, hG, _⟩, _, _⟩ := hT
          have hR1 := hG.alloc (.cells (madeCells #[.int .i64 0] (b.length + 1)) 3)
          have f1 := hR1.frozen k
          have c1 : (wr.alloc (.cells (madeCells #[.int .i64 0] (b.length + 1)) 3)).cell? ⟨g0, k, none⟩ = some (rowV (k + 1) b.length G k) := hR1.cell (by omega)
          clear hR1 hG
          go_upto_region 12 with (fail)
          have hP0 := Tp.of HT.out
          have hb4 : Below g0 w2 ((wr.setCell ⟨g0, k, none⟩ (.slice (some ⟨wr.heap.size, 0, none⟩) (b.length + 1) (b.length + 1))).alloc (.cells (madeCells #[.int .i64 0] (b.length + 1)) 3)) := (hb.setCell (Nat.le_refl _) _).alloc (by have h := hb.size; rw [HG0.out] at h; simp; exact h) _
          clear HT f1 c1 hb
          generalize (wr.setCell ⟨g0, k, none⟩ (.slice (some ⟨wr.heap.size, 0, none⟩) (b.length + 1) (b.length + 1))).alloc (.cells (madeCells #[.int .i64 0] (b.length + 1)) 3) = w4 at *
          generalize wr.heap.size = Q at *
          go_wp2_with fail
          obtain ⟨wo2, rfl⟩ : ∃ wo : World, wo = w4 := ⟨_, rfl⟩
          go_loopw [11] (fun s11 wq => Below g0 w2 wq ∧ ((∃ l : Nat, l < b.length ∧ s11 = .int .i64 l ∧ Tp wq g0 g0 Q a b k (halfV a b k (l + 1))) ∨ (s11 = .int .i64 (-1) ∧ Tp wq g0 g0 Q a b k (halfV a b k 0)))) (fun s11 _ => (intOf s11 + 1).toNat)
          case atStart => exact ⟨hb4, .inl ⟨b.length - 1, by omega, by rw [Value.int.injEq]; exact ⟨rfl, by omega⟩, by rw [show b.length - 1 + 1 = b.length by omega]; exact hP0⟩⟩
          case round =>
            clear hb4 hP0
            obtain ⟨hb, ⟨l, hl2, rfl, hP⟩ | ⟨rfl, hP⟩⟩ := hrel
            · have u2 : decide ((0 : Int) ≤ (l : Int)) = true := by simp
              by_cases hka : k < a.length
              · have u3 : decide ((k : Int) < (a.length : Int)) = true := decide_eq_true (by omega)
                have u3n : decide (k < a.length) = true := decide_eq_true hka
                obtain ⟨gk, k1, _, r1⟩ := hP.nxt hka
                have k0 := hP.row hk
                have e1 : wr.cell? ⟨gk, l, none⟩ = some (.int .i64 ((Pc.lcs (a.drop (k + 1)) (b.drop l) : Nat) : Int)) := r1.cell (show l < b.length + 1 by omega)
                have e2 : wr.cell? ⟨Q, l + 1, none⟩ = some (.int .i64 ((Pc.lcs (a.drop k) (b.drop (l + 1)) : Nat) : Int)) := by
                  rw [hP.cell (show l + 1 < b.length + 1 by omega)]
                  unfold halfV
                  rw [if_pos (Nat.le_refl _)]; rfl
                have f1 := hP.frz l
                have c1 := hP.cell (show l < b.length + 1 by omega)
                have hvl := lc_le a b (k + 1) l
                have hvl2 := lc_le a b k (l + 1)
                have hvl3 := lc_le a b (k + 1) (l + 1)
                have z1 : (l : Int) + 1 < (b.length : Int) + 1 := by omega
                have z2 : (0 : Int) ≤ (l : Int) + 1 := by omega
                have z3 : (l : Int) < (b.length : Int) + 1 := by omega
                have y1 : (k : Int) + 1 < (a.length : Int) + 1 := by omega
                have y2 : (0 : Int) ≤ (k : Int) + 1 := by omega
                have wk : IntKind.i64.wrap ((k : Int) + 1) = (k : Int) + 1 := IntWalk.i64_in _ (by omega)
                have wl : IntKind.i64.wrap ((l : Int) + 1) = (l : Int) + 1 := IntWalk.i64_in _ (by omega)
                have tk : ((k : Int) + 1).toNat = k + 1 := by omega
                have tl : ((l : Int) + 1).toNat = l + 1 := by omega
                have HP := Lib.hid hP
                have HBl := Lib.hid hb
                have hgq := hP.hi
                have HME := Lib.hid (fun h => lc_max hka hl2 h)
                have HNE := Lib.hid (fun h => lc_ne hka hl2 h)
                clear hP hb r1
                generalize hv1 : Pc.lcs (a.drop (k + 1)) (b.drop l) = v1 at *
                generalize hv2 : Pc.lcs (a.drop k) (b.drop (l + 1)) = v2 at *
                clear hv1 hv2
                go_upto_region 15 with (fail)
                refine wp_region_still_tail 23 (by kernel_rfl) (by kernel_rfl) ?_
                change wpStill _ _ wr.drew _ _ _
                simp only [List.take_succ_cons, List.take_zero, List.drop_succ_cons, List.drop_zero]
                repeat still_step
                refine wpStill_nil ?_
                change wpList _ _ _ _ _ wr.drew
                go_wp2_with fail
                have hP5 : Tp (wr.setCell ⟨Q, l, none⟩ (.int .i64 (max (v1 : Int) (v2 : Int)))).drew g0 g0 Q a b k (fun j => if j = l then .int .i64 (max (v1 : Int) (v2 : Int)) else halfV a b k (l + 1) j) := (HP.out.set l _).same fun _ _ => rfl
                have hb5 : Below g0 w2 (wr.setCell ⟨Q, l, none⟩ (.int .i64 (max (v1 : Int) (v2 : Int)))).drew := (HBl.out.setCell (by show g0 ≤ Q; omega) _).drew
                clear e1 e2 f1 c1 k0 k1 HP HBl
                generalize (wr.setCell ⟨Q, l, none⟩ (.int .i64 (max (v1 : Int) (v2 : Int)))).drew = w5 at *
                obtain ⟨g, o, rfl, hg, hx0⟩ := HA2.out k (by rw [strs_len]; exact hka)
                rw [strs_get a k hka] at hx0
                obtain ⟨g', o', rfl, hg', hy0⟩ := HBB.out l (by rw [strs_len]; exact hl2)
                rw [strs_get b l hl2] at hy0
                have d1 := (hb5.cell (p := ⟨g, o + k, none⟩) hg).trans hx0
                have d2 := (hb5.cell (p := ⟨g', o' + l, none⟩) hg').trans hy0
                have HP5 := Lib.hid hP5
                have HB5 := Lib.hid hb5
                clear hx0 hy0 hP5 hb5
                by_cases hab : a[k] = b[l]
                · have q : ((str a[k]).toList == (str b[l]).toList) = true := by rw [str_list, str_list, beq_iff_eq]; exact hab
                  have HE := Lib.hid (HME.out hab)
                  clear hab HME HNE
                  go_upto_region 16 with (fail)
                  go_quiet (fail)
                  have hb6 := below_drewN HB5.out nq
                  have hP6 : Tp (w5.drewN nq) g0 g0 Q a b k (fun j => if j = l then .int .i64 (max (v1 : Int) (v2 : Int)) else halfV a b k (l + 1) j) := HP5.out.same fun _ _ => rfl
                  clear d1 d2 q HP5 HB5
                  generalize w5.drewN nq = w6 at *
                  obtain ⟨gk, k1, _, r1⟩ := hP6.nxt hka
                  have k0 := hP6.row hk
                  have e1 : w6.cell? ⟨gk, l + 1, none⟩ = some (.int .i64 ((Pc.lcs (a.drop (k + 1)) (b.drop (l + 1)) : Nat) : Int)) := r1.cell (show l + 1 < b.length + 1 by omega)
                  have e2 : w6.cell? ⟨Q, l, none⟩ = some (.int .i64 (max (v1 : Int) (v2 : Int))) := by rw [hP6.cell (show l < b.length + 1 by omega), if_pos rfl]
                  have f1 := hP6.frz l
                  have HP6 := Lib.hid hP6
                  have HB6 := Lib.hid hb6
                  clear hP6 hb6 r1
                  generalize Pc.lcs (a.drop (k + 1)) (b.drop (l + 1)) = v3 at *
                  generalize hM : max (v1 : Int) (v2 : Int) = M at *
                  have hM1 : M ≤ 1024 := by omega
                  have hM2 : 0 ≤ M := by omega
                  have wv : IntKind.i64.wrap ((v3 : Int) + 1) = (v3 : Int) + 1 := IntWalk.i64_in _ (by omega)
                  go_upto_region 17 with (fail)
                  refine wp_region_still_tail 24 (by kernel_rfl) (by kernel_rfl) ?_
                  change wpStill _ _ w6.drew _ _ _
                  simp only [List.take_succ_cons, List.take_zero, List.drop_succ_cons, List.drop_zero]
                  repeat still_step
                  refine wpStill_nil ?_
                  change wpList _ _ _ _ _ w6.drew
                  go_wp2_with fail
                  have hP7 : Tp (w6.setCell ⟨Q, l, none⟩ (.int .i64 (max M ((v3 : Int) + 1)))).drew g0 g0 Q a b k (halfV a b k l) := ((HP6.out.set l (.int .i64 (max M ((v3 : Int) + 1)))).congr fun j _ => by
                    refine Eq.trans ?_ (half_fin (a := a) (b := b) (k := k) (l := l) (x := max M ((v3 : Int) + 1)) (by have := HE.out; omega) j)
                    by_cases e : j = l
                    · rw [if_pos e, if_pos e]
                    · rw [if_neg e, if_neg e, if_neg e]).same fun _ _ => rfl
                  have hb7 : Below g0 w2 (w6.setCell ⟨Q, l, none⟩ (.int .i64 (max M ((v3 : Int) + 1)))).drew := (HB6.out.setCell (by show g0 ≤ Q; omega) _).drew
                  clear e1 e2 f1 k0 k1 HP6 HB6 HE
                  generalize (w6.setCell ⟨Q, l, none⟩ (.int .i64 (max M ((v3 : Int) + 1)))).drew = w7 at *
                  go_wp2_with fail
                  go_roundw
                  case rel =>
                    refine ⟨hb7, ?_⟩
                    by_cases e : l = 0
                    · subst e; exact .inr ⟨by first | rfl | go_num, hP7⟩
                    · exact .inl ⟨l - 1, by omega, by rw [Value.int.injEq]; exact ⟨rfl, by omega⟩, by rw [show l - 1 + 1 = l by omega]; exact hP7⟩
                  case measure => first | (simp [intOf]; done) | (simp [intOf]; omega)
                · have q : ((str a[k]).toList == (str b[l]).toList) = false := by rw [str_list, str_list, beq_eq_false_iff_ne]; exact hab
                  have HE := Lib.hid (HNE.out hab)
                  clear hab HME HNE
                  go_upto_region 16 with (fail)
                  go_quiet (fail)
                  have hb6 := below_drewN HB5.out nq
                  have hP6 : Tp (w5.drewN nq) g0 g0 Q a b k (halfV a b k l) := (HP5.out.congr fun j _ => half_fin (by have := HE.out; omega) j).same fun _ _ => rfl
                  clear d1 d2 q HP5 HB5 HE
                  generalize w5.drewN nq = w6 at *
                  go_wp2_with fail
                  go_roundw
                  case rel =>
                    refine ⟨hb6, ?_⟩
                    by_cases e : l = 0
                    · subst e; exact .inr ⟨by first | rfl | go_num, hP6⟩
                    · exact .inl ⟨l - 1, by omega, by rw [Value.int.injEq]; exact ⟨rfl, by omega⟩, by rw [show l - 1 + 1 = l by omega]; exact hP6⟩
                  case measure => first | (simp [intOf]; done) | (simp [intOf]; omega)
              · have u3 : decide ((k : Int) < (a.length : Int)) = false := decide_eq_false (by omega)
                have u3n : decide (k < a.length) = false := decide_eq_false hka
                have hX : Tb wr g0 g0 wr.heap.size a b k := Tp.done (hP.congr fun j _ => by
                  obtain rfl : k = a.length := by omega
                  exact half_past a b _ j)
                clear hP
                go_wp2_with fail
                go_roundw
                case rel =>
                  refine ⟨hb, ?_⟩
                  by_cases e : k = 0
                  · subst e; exact .inr ⟨by first | rfl | go_num, hX⟩
                  · exact .inl ⟨k - 1, by omega, by rw [Value.int.injEq]; exact ⟨rfl, by omega⟩, by rw [show k - 1 + 1 = k by omega]; exact hX⟩
                case measure => first | (simp [intOf]; done) | (simp [intOf]; omega)
            · have u2 : decide ((0 : Int) ≤ (-1 : Int)) = false := by decide
              have hX : Tb wr g0 g0 wr.heap.size a b k := Tp.done (hP.congr fun j _ => half_zero a b k j)
              clear hP
              go_wp2_with fail
              go_roundw
              case rel =>
                refine ⟨hb, ?_⟩
                by_cases e : k = 0
                · subst e; exact .inr ⟨by first | rfl | go_num, hX⟩
                · exact .inl ⟨k - 1, by omega, by rw [Value.int.injEq]; exact ⟨rfl, by omega⟩, by rw [show k - 1 + 1 = k by omega]; exact hX⟩
              case measure => first | (simp [intOf]; done) | (simp [intOf]; omega)
        · have u1 : decide ((0 : Int) ≤ (-1 : Int)) = false := by decide
          obtain ⟨w5, rfl⟩ : ∃ w5 : World, wr = w5 := ⟨_, rfl⟩
          have hbA : Below w2.heap.size w2 wr := by rw [HG0.out]; exact hb
          have hA5 : CellsAt wr wr.heap.size A1 (strs a) := by have h := HA2.out; rw [← HG0.out] at h; exact h.next hbA
          have hB5 : CellsAt wr wr.heap.size A2 (strs b) := by have h := HBB.out; rw [← HG0.out] at h; exact h.next hbA
          have HB5 := Lib.hid (HB2.out.trans (hb.mono (by rw [← HG0.out]; exact HB2.out.size)))
          have hbb := Below.refl wr.heap.size wr
          clear hb hbA HA2 HBB HB2
          generalize hw5 : wr = w5 at *
          clear hw5
          go_wp2_with fail
          go_loopw [12, 13, 14] (fun s12 s13 s14 wr => ∃ (i j : Nat) (os : List (Nat × Nat)), i ≤ a.length ∧ s13 = .int .i64 i ∧ s14 = .int .i64 j ∧ j ≤ b.length ∧ os.length ≤ i ∧ wr.ownsRow w5.heap.size 79 2 s12 os.length (prsV os) ∧ K = os ++ Pc.common (a.drop i) (b.drop j) i j ∧ Below w5.heap.size w5 wr) (fun _ s13 _ _ => a.length - (intOf s13).toNat)
          case atStart => exact ⟨0, 0, [], by omega, rfl, rfl, by omega, by simp, World.ownsRow_nil _ _ _ _, HKK.out, hbb⟩
          case round =>
            clear HKK hbb
            obtain ⟨i, j, os, hi, rfl, rfl, hj, hol, hown, hK, hb⟩ := hrel
            have HK := Lib.hid hK
            clear hK
            obtain ⟨g1, k1, _, r1⟩ := (hT.next hb).cell (r := i) (Nat.zero_le _) hi
            have e1 : wr.cell? ⟨g1, j, none⟩ = some (.int .i64 ((Pc.lcs (a.drop i) (b.drop j) : Nat) : Int)) := r1.cell (show j < b.length + 1 by omega)
            have y1 : (i : Int) < (a.length : Int) + 1 := by omega
            have y2 : (j : Int) < (b.length : Int) + 1 := by omega
            have hvl := lc_le a b i j
            clear r1
            by_cases hp : 0 < Pc.lcs (a.drop i) (b.drop j)
            · have hia : i < a.length := by
                rcases Nat.lt_or_ge i a.length with h | h
                · exact h
                · rw [List.drop_of_length_le h, Pc.lcs_nil] at hp; omega
              have u2 : decide ((0 : Int) < ((Pc.lcs (a.drop i) (b.drop j) : Nat) : Int)) = true := decide_eq_true (by omega)
              have u2n : decide (0 < Pc.lcs (a.drop i) (b.drop j)) = true := decide_eq_true hp
              have hsr : Srch a b K os i j j hia := .inl fun y h1 h2 => by omega
              obtain ⟨g, o, rfl, hg, hx0⟩ := hA5 i (by rw [strs_len]; exact hia)
              rw [strs_get a i hia] at hx0
              go_wp2_with fail
              obtain ⟨wo2, rfl⟩ : ∃ wo : World, wo = wr := ⟨_, rfl⟩
              clear e1 k1
              go_loopw [15] (fun s15 wq => ∃ l : Nat, j ≤ l ∧ l ≤ b.length ∧ s15 = .int .i64 l ∧ Srch a b K os i j l hia ∧ wq.ownsRow w5.heap.size 79 2 u12 os.length (prsV os) ∧ Below w5.heap.size w5 wq) (fun s15 _ => b.length - (intOf s15).toNat)
              case atStart => exact ⟨j, Nat.le_refl _, hj, rfl, hsr, hown, hb⟩
              case round =>
                clear hown hb hsr
                obtain ⟨l, hjl, hlb, rfl, hsr, hown, hb⟩ := hrel
                by_cases hlt : l < b.length
                · have u3 : decide ((l : Int) < b.length) = true := by simp; omega
                  have u3n : decide (l < b.length) = true := by simp; omega
                  obtain ⟨g', o', rfl, hg', hy0⟩ := hB5 l (by rw [strs_len]; exact hlt)
                  rw [strs_get b l hlt] at hy0
                  have d1 := (hb.cell (p := ⟨g, o + i, none⟩) hg).trans hx0
                  have d2 := (hb.cell (p := ⟨g', o' + l, none⟩) hg').trans hy0
                  clear hy0
                  by_cases hab : a[i] = b[l]
                  · have q : ((str a[i]).toList != (str b[l]).toList) = false := by rw [str_list, str_list, hab]; simp
                    have q2 : ((str a[i]).toList == (str b[l]).toList) = true := by rw [str_list, str_list, hab]; simp
                    obtain ⟨g1, k1, _, r1⟩ := (hT.next hb).cell (r := i + 1) (Nat.zero_le _) (by omega)
                    obtain ⟨g2, k2, _, r2⟩ := (hT.next hb).cell (r := i) (Nat.zero_le _) hi
                    have e1 : wr.cell? ⟨g1, l + 1, none⟩ = some (.int .i64 ((Pc.lcs (a.drop (i + 1)) (b.drop (l + 1)) : Nat) : Int)) := r1.cell (show l + 1 < b.length + 1 by omega)
                    have e2 : wr.cell? ⟨g2, j, none⟩ = some (.int .i64 ((Pc.lcs (a.drop i) (b.drop j) : Nat) : Int)) := r2.cell (show j < b.length + 1 by omega)
                    have hv1 := lc_le a b (i + 1) (l + 1)
                    have z1 : (i : Int) + 1 < (a.length : Int) + 1 := by omega
                    have z2 : (l : Int) + 1 < (b.length : Int) + 1 := by omega
                    have z5 : (0 : Int) ≤ (i : Int) + 1 := by omega
                    have z6 : (0 : Int) ≤ (l : Int) + 1 := by omega
                    have wi : IntKind.i64.wrap ((i : Int) + 1) = (i : Int) + 1 := IntWalk.i64_in _ (by omega)
                    have wl : IntKind.i64.wrap ((l : Int) + 1) = (l : Int) + 1 := IntWalk.i64_in _ (by omega)
                    have ti : ((i : Int) + 1).toNat = i + 1 := by omega
                    have tl : ((l : Int) + 1).toNat = l + 1 := by omega
                    clear r1 r2 u2 u2n
                    by_cases hv : Pc.lcs (a.drop (i + 1)) (b.drop (l + 1)) + 1 < Pc.lcs (a.drop i) (b.drop j)
                    · have HS := Lib.hid (hsr.skip HK.out hjl hlt hab hv)
                      clear hsr hab hp
                      generalize Pc.lcs (a.drop (i + 1)) (b.drop (l + 1)) = v1 at *
                      generalize Pc.lcs (a.drop i) (b.drop j) = v2 at *
                      have q3 : decide ((v1 : Int) + 1 < (v2 : Int)) = true := decide_eq_true (by omega)
                      have wv : IntKind.i64.wrap ((v1 : Int) + 1) = (v1 : Int) + 1 := IntWalk.i64_in _ (by omega)
                      go_upto_region 22 with (fail)
                      go_quiet (fail)
                      have hb4 := below_drewN hb nq
                      have hown4 : (wr.drewN nq).ownsRow w5.heap.size 79 2 u12 os.length (prsV os) := hown
                      clear d1 d2 q q2 q3 e1 e2 k1 k2 hown hb
                      generalize wr.drewN nq = w6 at *
                      go_wp2_with fail
                      go_roundw
                      case rel => exact ⟨l + 1, by omega, by omega, by go_num, HS.out, hown4, hb4⟩
                      case measure => first | (simp [intOf]; done) | (simp [intOf]; omega)
                    · have HS := Lib.hid (hsr.hit HK.out hjl hlt hab hv)
                      clear hsr hab hp HK
                      generalize Pc.lcs (a.drop (i + 1)) (b.drop (l + 1)) = v1 at *
                      generalize Pc.lcs (a.drop i) (b.drop j) = v2 at *
                      have q3 : decide ((v1 : Int) + 1 < (v2 : Int)) = false := decide_eq_false (by omega)
                      have wv : IntKind.i64.wrap ((v1 : Int) + 1) = (v1 : Int) + 1 := IntWalk.i64_in _ (by omega)
                      go_upto_region 22 with (fail)
                      go_quiet (fail)
                      have hb4 := below_drewN hb nq
                      have hown4 : (wr.drewN nq).ownsRow w5.heap.size 79 2 u12 os.length (prsV os) := hown
                      clear d1 d2 q q2 q3 e1 e2 k1 k2 hown hb
                      generalize wr.drewN nq = w6 at *
                      have hrow := hown4.lt
                      go_wp2_with (at_builtin; refine wpList_append_lies _ (by rfl) _ _ 78 (by rfl) w5.heap.size 79 p0 _ 2 16 Tryz.underlying78 hp0 hpz0 hpz1 hpz2 rfl (by omega) u12 os.length _ (by rfl) (hown4.alloc _) ⟨w6.heap.size, 0, none⟩ 1 1 [_, _] (by rfl) (by rfl) (World.news_of_block (cs := #[_, _]) (t := 79) (fr := (0, 0)) (heap_alloc_new w6 _)) (by simp [Value.oneCell']) (by omega) (by unfold maxLen; omega) (by omega) (by have := hb4.size; simp; omega) (w6.heap.size + 1) (by simp) ?_; intro gg cap w7 hown6 hgrow hat hlt6)
                      rw [prsV_snoc] at hown6
                      have hown7 : w7.ownsRow w5.heap.size 79 2 (.slice (some ⟨gg, 0, none⟩) (os.length + 1) cap) (os ++ [(i, l)]).length (prsV (os ++ [(i, l)])) := by rw [List.length_append, List.length_singleton]; exact hown6
                      have hb6 : Below w5.heap.size w5 w7 := grown_own0 (hb4.alloc hb4.size _) hgrow (fun q' hq' => (hrow q' hq').1)
                      clear hown6 hgrow hat hlt6 hown4 hb4 hrow
                      go_roundw
                      case rel => exact ⟨i + 1, l + 1, os ++ [(i, l)], by omega, by go_num, by go_num, by omega, by simp; omega, hown7, HS.out, hb6⟩
                      case measure => first | (simp [intOf]; done) | (simp [intOf]; omega)
                  · have q : ((str a[i]).toList != (str b[l]).toList) = true := by rw [str_list, str_list, bne_iff_ne]; exact hab
                    have q2 : ((str a[i]).toList == (str b[l]).toList) = false := by rw [str_list, str_list, beq_eq_false_iff_ne]; exact hab
                    have HS := Lib.hid (hsr.miss hlt hab)
                    clear hsr hab hp u2 u2n
                    go_upto_region 22 with (fail)
                    go_quiet (fail)
                    have hb4 := below_drewN hb nq
                    have hown4 : (wr.drewN nq).ownsRow w5.heap.size 79 2 u12 os.length (prsV os) := hown
                    clear d1 d2 q q2 hown hb
                    go_wp2_with fail
                    go_roundw
                    case rel => exact ⟨l + 1, by omega, by omega, by go_num, HS.out, hown4, hb4⟩
                    case measure => first | (simp [intOf]; done) | (simp [intOf]; omega)
                · have u3 : decide ((l : Int) < b.length) = false := by simp; omega
                  have u3n : decide (l < b.length) = false := by simp; omega
                  have HS := Lib.hid (hsr.over HK.out hlt)
                  clear hsr hp HK u2 u2n
                  go_upto_region 22 with (fail)
                  go_quiet (fail)
                  have hb4 := below_drewN hb nq
                  have hown4 : (wr.drewN nq).ownsRow w5.heap.size 79 2 u12 os.length (prsV os) := hown
                  clear hown hb
                  go_wp2_with fail
                  go_roundw
                  case rel => exact ⟨i + 1, j, os, by omega, by go_num, rfl, hj, by omega, hown4, HS.out, hb4⟩
                  case measure => first | (simp [intOf]; done) | (simp [intOf]; omega)
            · have hz : Pc.lcs (a.drop i) (b.drop j) = 0 := by omega
              rw [hz] at e1
              have u2 : decide ((0 : Int) < ((0 : Nat) : Int)) = false := by decide
              have hke : os = K := by rw [HK.out, com_zero hz, List.append_nil]
              subst hke
              obtain ⟨A4, c4, rfl, hK4⟩ := owns_prs2 hown
              have HB0C := Lib.hid (HB5.out.trans (hb.mono HB5.out.size))
              have HMT2 := Lib.hid (show Pc.Mat a b 0 0 os from HMT.out)
              obtain ⟨hf1, hf2⟩ := keep_facts a1 a2 b1 b2 HMT2.out
              have co := qOf_any [] a b os A4 A2 c4 cb wr hK4 (hB5.next hb) HMT2.out a2 b2 hcl hcb hcbm
              rw [show str [] = ⟨#[]⟩ from rfl] at co
              have HF2 := Lib.hid hf2
              clear HK hown hb hA5 hB5 hK4 hf2 hT HB5 hz hp
              have HT3 := Lib.hid (HT2.out.trans (keeping_def [] a b os))
              clear HT2 HMT HMT2
              generalize Pc.keepHs [] a b 0 0 os = hs2 at *
              go_wp2_with fail
              with_reducible refine co.mono ?_
              clear co
              rintro x w7 ⟨A7, c7, rfl, hH7, hb7⟩
              rw [paV_def]
              dsimp only
              have hb07 := HB0C.out.trans (hb7.mono HB0C.out.size)
              have hy : Below w7.heap.size w7 (w7.alloc (.cells #[.string (str []), .slice A7 hs2.length c7] 24)) := (Below.refl _ _).alloc (Nat.le_refl _) _
              have hB8 := hb07.trans (hy.mono hb07.size)
              have bq : Bp (w7.alloc (.cells #[.string (str []), .slice A7 hs2.length c7] 24)) w7.heap.size ⟨[], hs2⟩ A7 c7 := heap_alloc_new w7 _
              have hH8 := hH7.next hy
              have cv := qValid_any ⟨[], hs2⟩ A7 c7 (w7.alloc (.cells #[.string (str []), .slice A7 hs2.length c7] 24)) ⟨hH8.at_, by show hs2.length ≤ _; omega, by show 0 ≤ _; omega, fun h hh l hl => by have h1 := HLB.out l (HF2.out h hh l hl); have := HTL.out; omega⟩
              rw [paV_def] at cv
              dsimp only at cv
              obtain ⟨m0, m1⟩ := bq.cells
              clear hb7 hb07 hy hH7
              go_wp2_with fail
              generalize w7.alloc (.cells #[.string (str []), .slice A7 hs2.length c7] 24) = w8 at *
              generalize w7.heap.size = q8 at *
              with_reducible refine cv.mono ?_
              clear cv m0 m1
              rintro x w9 ⟨rfl, hb9⟩
              have hB9 := hB8.trans (hb9.mono hB8.size)
              have hH9 := hH8.next hb9
              obtain ⟨m0, m1⟩ := (bq.next hb9).cells
              dsimp only at m0 m1
              obtain ⟨hbw9, kr9⟩ := HW.out _ hB9
              by_cases hva : Pc.valid ⟨[], hs2⟩ = true
              · have HE := Lib.hid (HT3.out.trans (if_pos hva))
                rw [hva]
                obtain ⟨z1, z2, r0, r1, f0, f1⟩ := fin_patch (.string (str [])) (.slice A7 hs2.length c7) (Nat.le_refl _) kr9 hbw9 hH9
                have Q1 := Lib.hid z1
                have Q2 := Lib.hid z2
                clear z1 z2 kr9 hbw9 hH9 hva hB9 hB8 hH8 bq hb9 HT3
                go_wp2_with fail
                exact bodyPost_ret (v := .tuple #[.agg #[.string (str []), .slice A7 hs2.length c7], .int .i64 0]) (by simp [results, Tryz.results28, go_sem, r0, r1]) rfl ⟨A7, c7, by rw [HE.out]; rfl, by rw [HE.out]; exact Q1.out, Q2.out⟩
              · have HE := Lib.hid (HT3.out.trans (if_neg hva))
                have hvf : Pc.valid ⟨[], hs2⟩ = false := by simpa using hva
                rw [hvf]
                obtain ⟨z1, z2, r0, r1, f0, f1⟩ := fin_patch (.string ⟨#[]⟩) (.slice none 0 0) (Nat.le_refl _) kr9 hbw9 (hsT_nil w9 none)
                have Q1 := Lib.hid z1
                have Q2 := Lib.hid z2
                clear z1 z2 kr9 hbw9 hH9 hva hvf hB9 hB8 hH8 bq hb9 HT3
                go_wp2_with fail
                exact bodyPost_ret (v := .tuple #[.agg #[.string ⟨#[]⟩, .slice none 0 0], .int .i64 10]) (by simp [results, Tryz.results28, go_sem, r0, r1]) rfl ⟨none, 0, by rw [HE.out]; rfl, by rw [HE.out]; exact Q1.out, Q2.out⟩
end Go.Proofs.YtlfgnecfabdkmaaGreatDoor
