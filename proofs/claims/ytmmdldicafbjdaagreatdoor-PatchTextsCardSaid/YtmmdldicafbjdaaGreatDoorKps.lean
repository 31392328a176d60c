/- The patch that keeps the lines of some pairs, plain. No condition. -/
import Derived.Test.YtmmdldicafbjdaaGreatDoorPlc
namespace Go.Proofs.YtmmdldicafbjdaaGreatDoor
open Tr
namespace Pc

def run (o n : Nat) : Nat → List (Nat × Nat)
  | 0 => []
  | k + 1 => (o, n) :: run (o + 1) (n + 1) k
/-- The pairs of lines that hunks keep. -/
def prs : List Hk → Nat → Nat → List (Nat × Nat)
  | [], _, _ => []
  | h :: t, o, n => if h.kind = 1 then run o n h.n.toNat ++ prs t (o + h.n.toNat) (n + h.n.toNat) else if h.kind = 2 then prs t (o + h.n.toNat) n else prs t o (n + h.n.toNat)
theorem take_nil (hs : List Hk) (k : Int) : take hs k [] = hs := by unfold take; rw [if_pos rfl]
theorem take_new (hs : List Hk) (k : Int) (ls : List (List UInt8)) (hl : ls ≠ []) (h : ∀ x, hs.getLast? = some x → x.kind ≠ k) : take hs k ls = hs ++ [addTo k ls ⟨k, 0, []⟩] := by
  unfold take
  rw [if_neg hl]
  cases hg : hs.getLast? with
  | none => rw [List.getLast?_eq_none_iff.1 hg]; rfl
  | some x => simp only []; rw [if_neg (h x hg)]
theorem take_same (hs : List Hk) (x : Hk) (k : Int) (ls : List (List UInt8)) (hl : ls ≠ []) (h : x.kind = k) : take (hs ++ [x]) k ls = hs ++ [addTo k ls x] := by
  unfold take
  rw [if_neg hl]
  simp [h]
/-- The hunks for so many lines dropped and some added. -/
def pend (d : Nat) (ls : List (List UInt8)) : List Hk := (if d = 0 then [] else [⟨2, (d : Int), []⟩]) ++ (if ls = [] then [] else [⟨3, (ls.length : Int), ls⟩])
theorem take_pend (acc : List Hk) (A B : List (List UInt8)) (h : ∀ x, acc.getLast? = some x → x.kind = 1) : take (take acc 2 A) 3 B = acc ++ pend A.length B := by
  have h2 : take acc 2 A = acc ++ (if A.length = 0 then [] else [⟨2, (A.length : Int), []⟩]) := by
    cases A with
    | nil => rw [take_nil]; simp
    | cons a A =>
      rw [take_new acc 2 _ (by simp) (fun x hx => by rw [h x hx]; decide)]
      simp [addTo]
  rw [h2]
  unfold pend
  cases B with
  | nil => rw [take_nil]; simp
  | cons b B =>
    rw [take_new _ 3 _ (by simp) (fun x hx => ?_)]
    · simp [addTo]
    · split at hx
      · rw [List.append_nil] at hx; rw [h x hx]; decide
      · rw [List.getLast?_append] at hx
        simp at hx
        rw [← hx]; show (2 : Int) ≠ 3; decide
theorem pend_last (acc : List Hk) (d : Nat) (ls : List (List UInt8)) (h : ¬ (d = 0 ∧ ls = [])) : ∀ x, (acc ++ pend d ls).getLast? = some x → x.kind ≠ 1 := by
  intro x hx
  unfold pend at hx
  by_cases h1 : ls = []
  · have hd : d ≠ 0 := fun e => h ⟨e, h1⟩
    rw [if_pos h1, if_neg hd, List.append_nil, List.getLast?_append] at hx
    simp at hx
    rw [← hx]; show (2 : Int) ≠ 1; decide
  · rw [if_neg h1, ← List.append_assoc, List.getLast?_append] at hx
    simp at hx
    rw [← hx]; show (3 : Int) ≠ 1; decide
theorem seg_one {α : Type} (a : List α) (i : Nat) (h : i < a.length) : (a.take (i + 1)).drop i = [a[i]] := by
  rw [List.take_succ_eq_append_getElem h, List.drop_left' (by rw [List.length_take]; omega)]
theorem seg_none {α : Type} (a : List α) (i : Nat) : (a.take i).drop i = [] := List.drop_eq_nil_of_le (by rw [List.length_take]; omega)
theorem keep_run (a b : List (List UInt8)) (K : List (Nat × Nat)) : ∀ (m : Nat) (acc : List Hk) (c : Int) (i j : Nat), i + m ≤ a.length → keepHs (acc ++ [⟨1, c, []⟩]) a b i j (run i j m ++ K) = keepHs (acc ++ [⟨1, c + m, []⟩]) a b (i + m) (j + m) K
  | 0, acc, c, i, j, _ => by simp [run]
  | m + 1, acc, c, i, j, h => by
    rw [run, List.cons_append, keepHs, seg_none, seg_none, take_nil, take_nil, seg_one a i (by omega), take_same _ _ 1 _ (by simp) rfl]
    have := keep_run a b K m acc (c + 1) (i + 1) (j + 1) (by omega)
    have e : addTo 1 [a[i]] ⟨1, c, []⟩ = ⟨1, c + 1, []⟩ := by simp [addTo]
    rw [show c + 1 + (m : Int) = c + ((m + 1 : Nat) : Int) by omega, show i + 1 + m = i + (m + 1) by omega, show j + 1 + m = j + (m + 1) by omega] at this
    rw [e, this]
/-- Hunks in form are those that keep their pairs. -/
theorem canon (a b : List (List UInt8)) : ∀ (hs acc : List Hk) (i o j n : Nat), i ≤ o → j ≤ n → (∀ x, acc.getLast? = some x → x.kind = 1) →
    inOrder (if j < n then 3 else if i < o then 2 else match acc.getLast? with | some _ => 1 | none => 0) hs = true → (o : Int) + cnt 1 hs + cnt 2 hs = a.length → n ≤ b.length → b.drop n = change hs (a.drop o) →
    keepHs acc a b i j (prs hs o n) = acc ++ pend (o - i) ((b.take n).drop j) ++ hs
  | [], acc, i, o, j, n, hio, hjn, hacc, _, hl, hn, hb => by
    simp only [cnt] at hl
    have ho : o = a.length := by omega
    have hbn : n = b.length := by
      have := congrArg List.length hb
      rw [List.length_drop] at this
      simp [change] at this
      omega
    rw [prs, keepHs, take_pend acc _ _ hacc, List.append_nil, List.length_drop, ho, hbn, List.take_length]
  | h :: t, acc, i, o, j, n, hio, hjn, hacc, hord, hl, hn, hb => by
    have hall := inOrder_all _ _ hord
    have hh := hall h (by simp)
    obtain ⟨⟨n1, n2⟩, hk, hls⟩ := isHunk_num hh
    have c1 := cnt_nonneg 1 t fun x hx => (isHunk_num (hall x (by simp [hx]))).1.1
    have c2 := cnt_nonneg 2 t fun x hx => (isHunk_num (hall x (by simp [hx]))).1.1
    rw [inOrder, Bool.and_eq_true] at hord
    obtain ⟨hbs, hord⟩ := hord
    unfold beside at hbs
    simp only [Bool.and_eq_true, Bool.not_eq_true', Bool.and_eq_false_iff, beq_eq_false_iff_ne] at hbs
    obtain ⟨⟨_, hne⟩, hda⟩ := hbs
    obtain ⟨m, hm⟩ : ∃ m : Nat, h.n = (m : Int) := ⟨h.n.toNat, by omega⟩
    have hmt : h.n.toNat = m := by omega
    have hd : (a.drop o).drop m = a.drop (o + m) := by rw [List.drop_drop]
    simp only [cnt] at hl
    rw [change, hmt, hd] at hb
    rw [prs, hmt]
    obtain ⟨hkind, hn', hls'⟩ : True ∧ True ∧ True := ⟨trivial, trivial, trivial⟩
    have hz : h.kind ≠ 3 → h.ls = [] := fun e => by
      unfold isHunk at hh
      rw [if_pos (by omega)] at hh
      simp only [Bool.and_eq_true, decide_eq_true_eq] at hh
      exact List.length_eq_zero_iff.1 hh.2
    rcases hk with e | e | e
    · have hls0 := hz (by omega)
      have hhe : h = ⟨1, (m : Int), []⟩ := by cases h; simp at e hm hls0; rw [e, hm, hls0]
      rw [if_pos e] at hb ⊢
      simp only [e, if_true] at hl
      have hol : o + m ≤ a.length := by omega
      obtain ⟨m', rfl⟩ : ∃ m', m = m' + 1 := ⟨m - 1, by omega⟩
      have hpl : ¬ (o - i = 0 ∧ (b.take n).drop j = []) ∨ acc = [] := by
        by_cases hj : j < n
        · refine .inl fun hx => ?_
          have := congrArg List.length hx.2
          rw [List.length_drop, List.length_take] at this
          simp at this
          omega
        · by_cases hi : i < o
          · exact .inl fun hx => by omega
          · rw [if_neg hj, if_neg hi, e] at hne
            cases hg : acc.getLast? with
            | none => exact .inr (List.getLast?_eq_none_iff.1 hg)
            | some x => rw [hg] at hne; exact absurd rfl hne
      have hnew : ∀ x, (acc ++ pend (o - i) ((b.take n).drop j)).getLast? = some x → x.kind ≠ 1 := by
        rcases hpl with hp | hp
        · exact pend_last acc _ _ hp
        · by_cases hz2 : o - i = 0 ∧ (b.take n).drop j = []
          · rw [hp, hz2.1, hz2.2]
            intro x hx
            simp [pend] at hx
          · exact pend_last acc _ _ hz2
      have hseg : ((a.take o).drop i).length = o - i := by rw [List.length_drop, List.length_take]; omega
      rw [run, List.cons_append, keepHs, take_pend acc _ _ hacc, hseg, seg_one a o (by omega), take_new _ 1 _ (by simp) hnew]
      have ea : addTo 1 [a[o]] ⟨1, 0, []⟩ = ⟨1, 1, []⟩ := by simp [addTo]
      rw [ea, keep_run a b _ m' _ 1 (o + 1) (n + 1) (by omega)]
      have hblen : n + (m' + 1) ≤ b.length := by
        have := congrArg List.length hb
        rw [List.length_drop, List.length_append, List.length_take, List.length_drop] at this
        omega
      have hb2 : b.drop (n + (m' + 1)) = change t (a.drop (o + (m' + 1))) := by
        rw [← List.drop_drop, hb, List.drop_left' (by rw [List.length_take, List.length_drop]; omega)]
      have ih := canon a b t (acc ++ pend (o - i) ((b.take n).drop j) ++ [⟨1, 1 + (m' : Int), []⟩]) (o + (m' + 1)) (o + (m' + 1)) (n + (m' + 1)) (n + (m' + 1)) (Nat.le_refl _) (Nat.le_refl _) (fun x hx => by simp at hx; rw [← hx])
        (by rw [if_neg (by omega), if_neg (by omega)]; simp; rw [← e]; exact hord) (by omega) hblen hb2
      have e1 : o + 1 + m' = o + (m' + 1) := by omega
      have e2 : n + 1 + m' = n + (m' + 1) := by omega
      rw [e1, e2, ih, seg_none, Nat.sub_self]
      have ep : pend 0 [] = [] := rfl
      rw [ep, hhe]
      simp
      omega
    · have hls0 := hz (by omega)
      have hhe : h = ⟨2, (m : Int), []⟩ := by cases h; simp at e hm hls0; rw [e, hm, hls0]
      have e1 : ¬ h.kind = 1 := by omega
      have hj : ¬ j < n := fun hj => by
        rw [if_pos hj] at hda
        rcases hda with hda | hda
        · exact hda e
        · exact hda rfl
      have hi : ¬ i < o := fun hi => by rw [if_neg hj, if_pos hi] at hne; exact hne e
      rw [if_neg e1, if_pos e] at hb ⊢
      simp only [e, if_true] at hl
      obtain rfl : j = n := by omega
      obtain rfl : i = o := by omega
      have ih := canon a b t acc i (i + m) j j (by omega) (Nat.le_refl _) hacc (by rw [if_neg (by omega), if_pos (by omega), ← e]; exact hord) (by omega) hn hb
      rw [ih, seg_none, hhe, Nat.sub_self]
      have ep : pend 0 [] = [] := rfl
      have em : pend (i + m - i) [] = [⟨2, (m : Int), []⟩] := by
        unfold pend
        rw [if_neg (by omega), if_pos rfl, show i + m - i = m by omega]; rfl
      rw [ep, em]; simp
    · have hlm : h.ls.length = m := by
        unfold isHunk at hh
        rw [if_neg (by omega), if_pos e] at hh
        simp only [Bool.and_eq_true, decide_eq_true_eq] at hh
        omega
      have e1 : ¬ h.kind = 1 := by omega
      have e2 : ¬ h.kind = 2 := by omega
      have hj : ¬ j < n := fun hj => by rw [if_pos hj] at hne; exact hne e
      rw [if_neg e1, if_neg e2] at hb ⊢
      rw [if_pos e] at hb
      simp only [e] at hl
      obtain rfl : j = n := by omega
      have hblen : j + m ≤ b.length := by
        have := congrArg List.length hb
        rw [List.length_drop, List.length_append, hlm] at this
        omega
      have hb2 : b.drop (j + m) = change t (a.drop o) := by rw [← List.drop_drop, hb, List.drop_left' hlm]
      have hseg : (b.take (j + m)).drop j = h.ls := by
        rw [← List.take_drop, hb, List.take_left' hlm]
      have ih := canon a b t acc i o j (j + m) hio (by omega) hacc (by rw [if_pos (by omega), ← e]; exact hord) (by simpa using hl) hblen hb2
      rw [ih, hseg, seg_none]
      have hne2 : h.ls ≠ [] := fun hx => by rw [hx] at hlm; simp at hlm; omega
      have em : pend (o - i) h.ls = pend (o - i) [] ++ [h] := by
        unfold pend
        rw [if_neg hne2, if_pos rfl, List.append_nil]
        congr 1
        cases h
        simp at e hm hlm ⊢
        exact ⟨e.symm, by omega⟩
      rw [em]; simp
end Pc
end Go.Proofs.YtmmdldicafbjdaaGreatDoor
