/- The table of the longest common subsequences: lengths of the program. No condition but the lengths. -/
import Derived.Test.YtmmdldicafbjdaaGreatDoorOwn
import Derived.Test.YtmmdldicafbjdaaGreatDoorLcs
import Derived.Test.YtmmdldicafbjdaaGreatDoorTrFnd
import Derived.Deep.OwnRows
import Derived.BigQuiet
import Derived.Deep.QuietTactic
import Derived.WalkSmall
namespace Go.Proofs.YtmmdldicafbjdaaGreatDoor
open Go.RowKit Go.Deep Tr

theorem infoI : (Tryz.prog.info? 3).map (fun i => (i.zero, i.size, i.bytes)) = some (some (.int .i64 0), 1, 8) := by kernel_rfl
theorem infoIs : (Tryz.prog.info? 104).map (fun i => (i.zero, i.size, i.bytes)) = some (some (.slice none 0 0), 1, 24) := by kernel_rfl
def lcV (a b : List (List UInt8)) (i j : Nat) : Value := .int .i64 ((Pc.lcs (a.drop i) (b.drop j) : Nat) : Int)
def rowV (k m : Nat) (G : Nat → Nat) (r : Nat) : Value := if k ≤ r then .slice (some ⟨G r, 0, none⟩) (m + 1) (m + 1) else .slice none 0 0
/-- The rows from k on are laid, in blocks below Q. -/
structure Tb (w : World) (B g0 Q : Nat) (a b : List (List UInt8)) (k : Nat) : Prop where
  ex : ∃ G : Nat → Nat, w.rowIs g0 104 (a.length + 1) (rowV k b.length G) ∧ ∀ r, k ≤ r → r ≤ a.length → g0 < G r ∧ G r < Q ∧ w.rowIs (G r) 3 (b.length + 1) (lcV a b r)
  lo : B ≤ g0
  hi : g0 < Q
theorem Tb.same {w w' : World} {B g0 Q k : Nat} {a b : List (List UInt8)} (h : Tb w B g0 Q a b k) (e : ∀ x, x < Q → w'.heap[x]? = w.heap[x]?) : Tb w' B g0 Q a b k := by
  obtain ⟨⟨G, h1, h2⟩, h3, h4⟩ := h
  exact ⟨⟨G, h1.of_block (e _ h4), fun r hr hr2 => by obtain ⟨g1, g2, g3⟩ := h2 r hr hr2; exact ⟨g1, g2, g3.of_block (e _ g2)⟩⟩, h3, h4⟩
theorem Tb.next {w w' : World} {B g0 k : Nat} {a b : List (List UInt8)} (h : Tb w B g0 w.heap.size a b k) (hb : Below w.heap.size w w') : Tb w' B g0 w.heap.size a b k := h.same fun x hx => hb.block x hx
theorem Tb.mono {w : World} {B g0 Q Q' k : Nat} {a b : List (List UInt8)} (h : Tb w B g0 Q a b k) (hq : Q ≤ Q') : Tb w B g0 Q' a b k := by
  obtain ⟨⟨G, h1, h2⟩, h3, h4⟩ := h
  exact ⟨⟨G, h1, fun r hr hr2 => by obtain ⟨g1, g2, g3⟩ := h2 r hr hr2; exact ⟨g1, by omega, g3⟩⟩, h3, by omega⟩
theorem Tb.cell {w : World} {B g0 Q k r : Nat} {a b : List (List UInt8)} (h : Tb w B g0 Q a b k) (hr : k ≤ r) (hr2 : r ≤ a.length) : ∃ g, w.cell? ⟨g0, r, none⟩ = some (.slice (some ⟨g, 0, none⟩) (b.length + 1) (b.length + 1)) ∧ g < Q ∧ w.rowIs g 3 (b.length + 1) (lcV a b r) := by
  obtain ⟨⟨G, h1, h2⟩, h3, h4⟩ := h
  obtain ⟨g1, g2, g3⟩ := h2 r hr hr2
  refine ⟨G r, ?_, g2, g3⟩
  rw [h1.cell (show r < a.length + 1 by omega)]
  unfold rowV
  rw [if_pos hr]
theorem Tb.frz {w : World} {B g0 Q k : Nat} {a b : List (List UInt8)} (h : Tb w B g0 Q a b k) (i : Nat) : w.frozen? ⟨g0, i, none⟩ = false := by
  obtain ⟨⟨G, h1, _⟩, _⟩ := h
  exact h1.frozen i
/-- A further row is laid. -/
theorem Tb.step {w : World} {B g0 Q k q : Nat} {a b : List (List UInt8)} (h : Tb w B g0 Q a b (k + 1)) (hr : w.rowIs q 3 (b.length + 1) (lcV a b k)) (hq : Q ≤ q) : Tb (w.setCell ⟨g0, k, none⟩ (.slice (some ⟨q, 0, none⟩) (b.length + 1) (b.length + 1))) B g0 w.heap.size a b k := by
  obtain ⟨⟨G, h1, h2⟩, h3, h4⟩ := h
  have hlq := hr.lt
  refine ⟨⟨fun r => if r = k then q else G r, (h1.set k _).congr fun r hr => ?_, fun r hr1 hr2 => ?_⟩, h3, by omega⟩
  · unfold rowV
    by_cases e : r = k
    · subst e; simp
    · simp only [e, if_false]
      by_cases e2 : k ≤ r
      · rw [if_pos (show k + 1 ≤ r by omega), if_pos e2]
      · rw [if_neg (show ¬ k + 1 ≤ r by omega), if_neg e2]
  · by_cases e : r = k
    · subst e
      simp only [if_true]
      exact ⟨by omega, hlq, hr.setOther (a := ⟨g0, r, none⟩) (by show q ≠ g0; omega) _⟩
    · simp only [e, if_false]
      obtain ⟨g1, g2, g3⟩ := h2 r (by omega) hr2
      exact ⟨g1, by omega, g3.setOther (a := ⟨g0, k, none⟩) (by show G r ≠ g0; omega) _⟩
theorem drop_at (a : List (List UInt8)) (k : Nat) (h : k < a.length) : a.drop k = a[k] :: a.drop (k + 1) := List.drop_eq_getElem_cons h
theorem lc_eq {a b : List (List UInt8)} {i j : Nat} (hi : i < a.length) (hj : j < b.length) (h : a[i] = b[j]) : Pc.lcs (a.drop i) (b.drop j) = Pc.lcs (a.drop (i + 1)) (b.drop (j + 1)) + 1 := by
  rw [drop_at a i hi, drop_at b j hj, Pc.lcs_cons, if_pos h]
theorem lc_ne {a b : List (List UInt8)} {i j : Nat} (hi : i < a.length) (hj : j < b.length) (h : ¬ a[i] = b[j]) : Pc.lcs (a.drop i) (b.drop j) = max (Pc.lcs (a.drop (i + 1)) (b.drop j)) (Pc.lcs (a.drop i) (b.drop (j + 1))) := by
  conv => lhs; rw [drop_at a i hi, drop_at b j hj, Pc.lcs_cons, if_neg h]
  rw [← drop_at a i hi, ← drop_at b j hj]
theorem lc_le (a b : List (List UInt8)) (i j : Nat) : Pc.lcs (a.drop i) (b.drop j) ≤ a.length := by
  have : ∀ (x y : List (List UInt8)), Pc.lcs x y ≤ x.length := by
    intro x y
    induction x with
    | nil => rw [Pc.lcs_nil]; simp
    | cons z x ih => have := (Pc.lcs_a z x y).2; rw [List.length_cons]; omega
  have h := this (a.drop i) (b.drop j)
  rw [List.length_drop] at h
  omega
/-- The row that is being laid, from l on. -/
def halfV (a b : List (List UInt8)) (i l j : Nat) : Value := if l ≤ j then lcV a b i j else .int .i64 0
theorem half_set {w : World} {q i l : Nat} {a b : List (List UInt8)} {x : Int} (h : w.rowIs q 3 (b.length + 1) (halfV a b i (l + 1))) (hx : x = ((Pc.lcs (a.drop i) (b.drop l) : Nat) : Int)) : (w.setCell ⟨q, l, none⟩ (.int .i64 x)).rowIs q 3 (b.length + 1) (halfV a b i l) := by
  subst hx
  refine (h.set l _).congr fun j hj => ?_
  unfold halfV
  by_cases e : j = l
  · subst e; simp [lcV]
  · simp only [e, if_false]
    by_cases e2 : l ≤ j
    · rw [if_pos (show l + 1 ≤ j by omega), if_pos e2]
    · rw [if_neg (show ¬ l + 1 ≤ j by omega), if_neg e2]
set_option maxHeartbeats 16000000 in
set_option maxRecDepth 100000 in
theorem lengths_any (A A' : Option Addr) (c c' : Nat) (a b : List (List UInt8)) (w : World) (hA : CellsAt w w.heap.size A (strs a)) (hA' : CellsAt w w.heap.size A' (strs b)) (hl : a.length ≤ 1024) (hl' : b.length ≤ 1024) :
    Calls Tryz.prog 61 #[.slice A a.length c, .slice A' b.length c'] w fun e w' => ∃ g0, e = .returned (.slice (some ⟨g0, 0, none⟩) (a.length + 1) (a.length + 1)) ∧ Tb w' w.heap.size g0 w'.heap.size a b 0 ∧ Below w.heap.size w w' := by
  obtain ⟨i0, hi0, hz0, hz1, hz2⟩ := info_parts infoI
  obtain ⟨j0, hj0, hj1, hj2, hj3⟩ := info_parts infoIs
  have hmk1 : ∀ w' : World, (Instr.makeSlice 102 (.int .i64 ((a.length : Int) + 1)) (.int .i64 ((a.length : Int) + 1))).run Tryz.prog w' = .ok (.slice (some ⟨w'.heap.size, 0, none⟩) (a.length + 1) (a.length + 1)) (w'.alloc (.cells (madeCells #[.slice none 0 0] (a.length + 1)) 104)) := fun w' => by
    have h := run_make_row (P := Tryz.prog) 102 104 j0 (.slice none 0 0) Tryz.underlying102 hj0 hj1 hj2 rfl .i64 .i64 (a.length + 1) (by rw [hj3]; omega) (by omega) w'
    rwa [show ((a.length + 1 : Nat) : Int) = (a.length : Int) + 1 by omega] at h
  have hmk2 : ∀ w' : World, (Instr.makeSlice 104 (.int .i64 ((b.length : Int) + 1)) (.int .i64 ((b.length : Int) + 1))).run Tryz.prog w' = .ok (.slice (some ⟨w'.heap.size, 0, none⟩) (b.length + 1) (b.length + 1)) (w'.alloc (.cells (madeCells #[.int .i64 0] (b.length + 1)) 3)) := fun w' => by
    have h := run_make_row (P := Tryz.prog) 104 3 i0 (.int .i64 0) Tryz.underlying104 hi0 hz0 hz1 rfl .i64 .i64 (b.length + 1) (by rw [hz2]; omega) (by omega) w'
    rwa [show ((b.length + 1 : Nat) : Int) = (b.length : Int) + 1 by omega] at h
  have hR0 := World.rowIs_made w (.slice none 0 0) (a.length + 1) 104
  have hb0 : Below w.heap.size w (w.alloc (.cells (madeCells #[.slice none 0 0] (a.length + 1)) 104)) := (Below.refl _ _).alloc (Nat.le_refl _) _
  have hs0 : w.heap.size < (w.alloc (.cells (madeCells #[.slice none 0 0] (a.length + 1)) 104)).heap.size := by simp
  go_enter Tryz.func61, Tryz.ntmps61
  go_upto_region 2 with (fail)
  generalize w.alloc (.cells (madeCells #[.slice none 0 0] (a.length + 1)) 104) = w1 at *
  have hR1 := hR0.alloc (.cells (madeCells #[.int .i64 0] (b.length + 1)) 3)
  have f1 := hR1.frozen a.length
  have hZ1 := World.rowIs_made w1 (.int .i64 0) (b.length + 1) 3
  have hb1 := hb0.alloc hb0.size (.cells (madeCells #[.int .i64 0] (b.length + 1)) 3)
  have c1 : (w1.alloc (.cells (madeCells #[.int .i64 0] (b.length + 1)) 3)).cell? ⟨w.heap.size, a.length, none⟩ = some (.slice none 0 0) := hR1.cell (by omega)
  have x1 : (a.length : Int) < (a.length : Int) + 1 := by omega
  go_upto_region 3 with (fail)
  have hT0 : Tb ((w1.setCell ⟨w.heap.size, a.length, none⟩ (.slice (some ⟨w1.heap.size, 0, none⟩) (b.length + 1) (b.length + 1))).alloc (.cells (madeCells #[.int .i64 0] (b.length + 1)) 3)) w.heap.size w.heap.size (w1.heap.size + 1) a b a.length := by
    refine ⟨⟨fun _ => w1.heap.size, ((hR0.set a.length _).alloc _).congr fun r hr => ?_, fun r h1 h2 => ⟨hs0, Nat.lt_succ_self _, ?_⟩⟩, Nat.le_refl _, by omega⟩
    · unfold rowV
      by_cases e : r = a.length
      · subst e; simp
      · simp only [e, if_false]
        rw [if_neg (by omega)]
    · obtain rfl : r = a.length := by omega
      have h := World.rowIs_made (w1.setCell ⟨w.heap.size, a.length, none⟩ (.slice (some ⟨w1.heap.size, 0, none⟩) (b.length + 1) (b.length + 1))) (.int .i64 0) (b.length + 1) 3
      rw [show (w1.setCell ⟨w.heap.size, a.length, none⟩ (.slice (some ⟨w1.heap.size, 0, none⟩) (b.length + 1) (b.length + 1))).heap.size = w1.heap.size by simp] at h
      exact h.congr fun j _ => by unfold lcV; rw [List.drop_length, Pc.lcs_nil]; rfl
  have hb2 : Below w.heap.size w ((w1.setCell ⟨w.heap.size, a.length, none⟩ (.slice (some ⟨w1.heap.size, 0, none⟩) (b.length + 1) (b.length + 1))).alloc (.cells (madeCells #[.int .i64 0] (b.length + 1)) 3)) := (hb0.setCell (Nat.le_refl _) _).alloc (by have := hb0.size; simp; omega) _
  have hs2 : ((w1.setCell ⟨w.heap.size, a.length, none⟩ (.slice (some ⟨w1.heap.size, 0, none⟩) (b.length + 1) (b.length + 1))).alloc (.cells (madeCells #[.int .i64 0] (b.length + 1)) 3)).heap.size = w1.heap.size + 1 := by simp
  rw [← hs2] at hT0
  clear hs2 hR0 hb0 hs0 hR1 f1 hZ1 hb1 c1 x1
  generalize (w1.setCell ⟨w.heap.size, a.length, none⟩ (.slice (some ⟨w1.heap.size, 0, none⟩) (b.length + 1) (b.length + 1))).alloc (.cells (madeCells #[.int .i64 0] (b.length + 1)) 3) = w2 at *
  generalize w1.heap.size = q1 at *
  generalize hg0 : w.heap.size = g0 at *
  have HG0 := Lib.hid hg0
  clear hg0
  go_wp2_with fail
  go_loopw [6] (fun s6 wr => Below g0 w wr ∧ ((∃ k : Nat, k < a.length ∧ s6 = .int .i64 k ∧ Tb wr g0 g0 wr.heap.size a b (k + 1)) ∨ (s6 = .int .i64 (-1) ∧ Tb wr g0 g0 wr.heap.size a b 0))) (fun s6 _ => (intOf s6 + 1).toNat)
  case atStart =>
    refine ⟨hb2, ?_⟩
    by_cases e : a.length = 0
    · exact .inr ⟨by rw [e]; rfl, by rw [e] at hT0; exact hT0⟩
    · exact .inl ⟨a.length - 1, by omega, by rw [Value.int.injEq]; exact ⟨rfl, by omega⟩, by rw [show a.length - 1 + 1 = a.length by omega]; exact hT0⟩
  case round =>
    clear hT0 hb2
    obtain ⟨hb, ⟨k, hk, rfl, hT⟩ | ⟨rfl, hT⟩⟩ := hrel
    · have b1 : decide ((0 : Int) ≤ (k : Int)) = true := by simp
      obtain ⟨g, o, rfl, hg, hx0⟩ := hA k (by rw [strs_len]; exact hk)
      rw [strs_get a k hk] at hx0
      obtain ⟨gk, ck, hgk, hrk⟩ := hT.cell (Nat.le_refl _) (show k + 1 ≤ a.length by omega)
      have y1 : (k : Int) + 1 < (a.length : Int) + 1 := by omega
      have y2 : (0 : Int) ≤ (k : Int) + 1 := by omega
      have hgl := hT.hi
      have HT := Lib.hid hT
      have HGK := Lib.hid (show gk < wr.heap.size ∧ wr.rowIs gk 3 (b.length + 1) (lcV a b (k + 1)) from ⟨hgk, hrk⟩)
      clear hT hgk hrk
      go_upto_region 6 with (fail)
      go_region
      have hB3 : Below g0 w (wr.alloc (.cells (madeCells #[.int .i64 0] (b.length + 1)) 3)).drew := (hb.alloc (by have h := hb.size; rw [HG0.out] at h; exact h) _).drew
      have hT3 : Tb (wr.alloc (.cells (madeCells #[.int .i64 0] (b.length + 1)) 3)).drew g0 g0 wr.heap.size a b (k + 1) := HT.out.same fun x hx => blk_alloc_lt wr _ x hx
      have hK3 : (wr.alloc (.cells (madeCells #[.int .i64 0] (b.length + 1)) 3)).drew.rowIs gk 3 (b.length + 1) (lcV a b (k + 1)) := HGK.out.2.alloc _
      have hQ3 : (wr.alloc (.cells (madeCells #[.int .i64 0] (b.length + 1)) 3)).drew.rowIs wr.heap.size 3 (b.length + 1) (halfV a b k b.length) := by
        refine World.rowIs.congr (World.rowIs_made wr (.int .i64 0) (b.length + 1) 3) fun j hj => ?_
        unfold halfV
        by_cases e : b.length ≤ j
        · rw [if_pos e]
          unfold lcV
          rw [List.drop_of_length_le (l := b) e, Pc.lcs_nil_r]; rfl
        · rw [if_neg e]
      have hgq := HGK.out.1
      clear hb ck HGK HT
      generalize (wr.alloc (.cells (madeCells #[.int .i64 0] (b.length + 1)) 3)).drew = w3 at *
      generalize wr.heap.size = Q at *
      clear y1 y2
      go_wp2_with fail
      obtain ⟨wo2, rfl⟩ : ∃ wo : World, wo = w3 := ⟨_, rfl⟩
      go_loopw [9] (fun s9 wq => Below g0 w wq ∧ Tb wq g0 g0 Q a b (k + 1) ∧ wq.rowIs gk 3 (b.length + 1) (lcV a b (k + 1)) ∧ ((∃ l : Nat, l < b.length ∧ s9 = .int .i64 l ∧ wq.rowIs Q 3 (b.length + 1) (halfV a b k (l + 1))) ∨ (s9 = .int .i64 (-1) ∧ wq.rowIs Q 3 (b.length + 1) (halfV a b k 0)))) (fun s9 _ => (intOf s9 + 1).toNat)
      case atStart =>
        refine ⟨hB3, hT3, hK3, ?_⟩
        by_cases e : b.length = 0
        · exact .inr ⟨by rw [e]; rfl, by rw [e] at hQ3 ⊢; exact hQ3⟩
        · exact .inl ⟨b.length - 1, by omega, by rw [Value.int.injEq]; exact ⟨rfl, by omega⟩, by rw [show b.length - 1 + 1 = b.length by omega]; exact hQ3⟩
      case round =>
        clear hB3 hT3 hK3 hQ3
        obtain ⟨hb, hT, hK, ⟨l, hl2, rfl, hQ⟩ | ⟨rfl, hQ⟩⟩ := hrel
        · have b2 : decide ((0 : Int) ≤ (l : Int)) = true := by simp
          obtain ⟨g', o', rfl, hg', hy0⟩ := hA' l (by rw [strs_len]; exact hl2)
          rw [strs_get b l hl2] at hy0
          have d1 := (hb.cell (p := ⟨g, o + k, none⟩) hg).trans hx0
          have d2 := (hb.cell (p := ⟨g', o' + l, none⟩) hg').trans hy0
          have HT := Lib.hid hT
          have HK := Lib.hid hK
          have HQ := Lib.hid hQ
          clear hT hK hQ hy0
          by_cases hab : a[k] = b[l]
          · have q : ((str a[k]).toList == (str b[l]).toList) = true := by rw [str_list, str_list, beq_iff_eq]; exact hab
            have HE := Lib.hid (lc_eq hk hl2 hab)
            clear hab
            go_upto_region 10 with (fail)
            go_quiet (fail)
            have hb4 := below_drewN hb nq
            have e1 : (wr.drewN nq).cell? ⟨gk, l + 1, none⟩ = some (.int .i64 ((Pc.lcs (a.drop (k + 1)) (b.drop (l + 1)) : Nat) : Int)) := HK.out.cell (show l + 1 < b.length + 1 by omega)
            have f1 : (wr.drewN nq).frozen? ⟨Q, l, none⟩ = false := HQ.out.frozen l
            have c1 : (wr.drewN nq).cell? ⟨Q, l, none⟩ = some (halfV a b k (l + 1) l) := HQ.out.cell (show l < b.length + 1 by omega)
            have hvl := lc_le a b (k + 1) (l + 1)
            have HT4 : Tb (wr.drewN nq) g0 g0 Q a b (k + 1) := HT.out.same fun _ _ => rfl
            have HK4 : (wr.drewN nq).rowIs gk 3 (b.length + 1) (lcV a b (k + 1)) := HK.out
            have HQ4 : (wr.drewN nq).rowIs Q 3 (b.length + 1) (halfV a b k (l + 1)) := HQ.out
            clear HT HK HQ hb d1 d2 q
            generalize wr.drewN nq = w4 at *
            generalize Pc.lcs (a.drop (k + 1)) (b.drop (l + 1)) = v at *
            have z1 : (l : Int) + 1 < (b.length : Int) + 1 := by omega
            have z2 : (0 : Int) ≤ (l : Int) + 1 := by omega
            have z3 : (l : Int) < (b.length : Int) + 1 := by omega
            go_wp2_with fail
            have hX := half_set (x := (v : Int) + 1) HQ4 (by rw [HE.out]; omega)
            go_roundw
            case rel =>
              refine ⟨hb4.setCell (by have := HT4.hi; have := HT4.lo; show g0 ≤ Q; omega) _, HT4.same fun x hx => blk_setCell_other _ _ _ _ (by show x ≠ Q; omega), HK4.setOther (by show gk ≠ Q; omega) _, ?_⟩
              by_cases e : l = 0
              · subst e; exact .inr ⟨by first | rfl | go_num, hX⟩
              · exact .inl ⟨l - 1, by omega, by rw [Value.int.injEq]; exact ⟨rfl, by omega⟩, by rw [show l - 1 + 1 = l by omega]; exact hX⟩
            case measure => first | (simp [intOf]; done) | (simp [intOf]; omega)
          · have q : ((str a[k]).toList == (str b[l]).toList) = false := by rw [str_list, str_list, beq_eq_false_iff_ne]; exact hab
            have HE := Lib.hid (lc_ne hk hl2 hab)
            clear hab
            go_upto_region 10 with (fail)
            go_quiet (fail)
            have hb4 := below_drewN hb nq
            have e1 : (wr.drewN nq).cell? ⟨gk, l, none⟩ = some (.int .i64 ((Pc.lcs (a.drop (k + 1)) (b.drop l) : Nat) : Int)) := HK.out.cell (show l < b.length + 1 by omega)
            have e2 : (wr.drewN nq).cell? ⟨Q, l + 1, none⟩ = some (.int .i64 ((Pc.lcs (a.drop k) (b.drop (l + 1)) : Nat) : Int)) := by
              rw [show (wr.drewN nq).cell? ⟨Q, l + 1, none⟩ = wr.cell? ⟨Q, l + 1, none⟩ from rfl, HQ.out.cell (show l + 1 < b.length + 1 by omega)]
              unfold halfV
              rw [if_pos (Nat.le_refl _)]; rfl
            have f1 : (wr.drewN nq).frozen? ⟨Q, l, none⟩ = false := HQ.out.frozen l
            have c1 : (wr.drewN nq).cell? ⟨Q, l, none⟩ = some (halfV a b k (l + 1) l) := HQ.out.cell (show l < b.length + 1 by omega)
            have hvl := lc_le a b (k + 1) l
            have hvl2 := lc_le a b k (l + 1)
            have HT4 : Tb (wr.drewN nq) g0 g0 Q a b (k + 1) := HT.out.same fun _ _ => rfl
            have HK4 : (wr.drewN nq).rowIs gk 3 (b.length + 1) (lcV a b (k + 1)) := HK.out
            have HQ4 : (wr.drewN nq).rowIs Q 3 (b.length + 1) (halfV a b k (l + 1)) := HQ.out
            clear HT HK HQ hb d1 d2 q
            generalize wr.drewN nq = w4 at *
            generalize Pc.lcs (a.drop (k + 1)) (b.drop l) = v1 at *
            generalize Pc.lcs (a.drop k) (b.drop (l + 1)) = v2 at *
            have z1 : (l : Int) + 1 < (b.length : Int) + 1 := by omega
            have z2 : (0 : Int) ≤ (l : Int) + 1 := by omega
            have z3 : (l : Int) < (b.length : Int) + 1 := by omega
            go_wp2_with fail
            go_region
            have hX := half_set (x := max (v1 : Int) (v2 : Int)) HQ4 (by rw [HE.out]; omega)
            go_wp2_with fail
            go_roundw
            case rel =>
              refine ⟨(hb4.setCell (by have := HT4.hi; have := HT4.lo; show g0 ≤ Q; omega) _).drew, HT4.same fun x hx => blk_setCell_other _ _ _ _ (by show x ≠ Q; omega), HK4.setOther (by show gk ≠ Q; omega) _, ?_⟩
              by_cases e : l = 0
              · subst e; exact .inr ⟨by first | rfl | go_num, hX⟩
              · exact .inl ⟨l - 1, by omega, by rw [Value.int.injEq]; exact ⟨rfl, by omega⟩, by rw [show l - 1 + 1 = l by omega]; exact hX⟩
            case measure => first | (simp [intOf]; done) | (simp [intOf]; omega)
        · have b2 : decide ((0 : Int) ≤ (-1 : Int)) = false := by decide
          have f1 := hT.frz k
          have hX := hT.step (k := k) (hQ.congr fun j hj => by unfold halfV; rw [if_pos (Nat.zero_le _)]) (Nat.le_refl _)
          have hgl2 := hT.hi
          have z1 : (k : Int) < (a.length : Int) + 1 := by omega
          obtain ⟨⟨G, hG, _⟩, _, _⟩ := hT
          have c1 := hG.cell (show k < a.length + 1 by omega)
          clear hG hQ hK
          go_wp2_with fail
          go_roundw
          case rel =>
            refine ⟨hb.setCell (Nat.le_refl _) _, ?_⟩
            rw [show (wr.setCell ⟨g0, k, none⟩ (.slice (some ⟨Q, 0, none⟩) (b.length + 1) (b.length + 1))).heap.size = wr.heap.size by simp]
            by_cases e : k = 0
            · subst e; exact .inr ⟨by first | rfl | go_num, hX⟩
            · exact .inl ⟨k - 1, by omega, by rw [Value.int.injEq]; exact ⟨rfl, by omega⟩, by rw [show k - 1 + 1 = k by omega]; exact hX⟩
          case measure => first | (simp [intOf]; done) | (simp [intOf]; omega)
    · have b1 : decide ((0 : Int) ≤ (-1 : Int)) = false := by decide
      go_wp2_with fail
      go_ret
      rw [HG0.out]
      exact ⟨g0, rfl, hT, hb⟩
end Go.Proofs.YtmmdldicafbjdaaGreatDoor
