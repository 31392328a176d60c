/- Where the lines of a patched text come from: plain facts. No condition. -/
import Derived.Test.YtmmdldicafbjdaaGreatDoorMem
namespace Go.Proofs.YtmmdldicafbjdaaGreatDoor
open Tr
namespace Pc

theorem keeps_len (o n : Nat) : (keeps o n).length = n := by
  induction n generalizing o with
  | zero => rfl
  | succ n ih => rw [keeps, List.length_cons, ih]
theorem adds_len (o n : Nat) : (adds o n).length = n := by
  induction n generalizing o with
  | zero => rfl
  | succ n ih => rw [adds, List.length_cons, ih]
theorem keeps_at (o n k : Nat) (h : k < n) : (keeps o n)[k]'(by rw [keeps_len]; exact h) = ⟨((o + k : Nat) : Int), -1⟩ := by
  induction n generalizing o k with
  | zero => omega
  | succ n ih =>
    cases k with
    | zero => simp [keeps]
    | succ k =>
      simp only [keeps, List.getElem_cons_succ]
      rw [ih (o + 1) k (by omega)]
      congr 1
      omega
theorem adds_at (o n k : Nat) (h : k < n) : (adds o n)[k]'(by rw [adds_len]; exact h) = ⟨-1, ((o + k : Nat) : Int)⟩ := by
  induction n generalizing o k with
  | zero => omega
  | succ n ih =>
    cases k with
    | zero => simp [adds]
    | succ k =>
      simp only [adds, List.getElem_cons_succ]
      rw [ih (o + 1) k (by omega)]
      congr 1
      omega
theorem keeps_snoc (o n : Nat) : keeps o (n + 1) = keeps o n ++ [⟨((o + n : Nat) : Int), -1⟩] := by
  induction n generalizing o with
  | zero => rfl
  | succ n ih =>
    rw [keeps, ih, keeps, List.cons_append]
    congr 4
    omega
theorem adds_snoc (o n : Nat) : adds o (n + 1) = adds o n ++ [⟨-1, ((o + n : Nat) : Int)⟩] := by
  induction n generalizing o with
  | zero => rfl
  | succ n ih =>
    rw [adds, ih, adds, List.cons_append]
    congr 4
    omega
/-- A place says what stands there, the places rise. -/
structure Says (a own : List (List UInt8)) (lo : Int) (l : List Pl) (out : List (List UInt8)) : Prop where
  len : l.length = out.length
  at_ : ∀ k (h : k < l.length) (h' : k < out.length), (∃ i : Nat, l[k] = ⟨(i : Int), -1⟩ ∧ a[i]? = some out[k]) ∨ (∃ i : Nat, l[k] = ⟨-1, (i : Int)⟩ ∧ own[i]? = some out[k])
  low : ∀ x ∈ l, x.new = -1 → lo ≤ x.old
  rise : l.Pairwise fun x y => x.new = -1 → y.new = -1 → x.old < y.old
theorem says_nil (a own : List (List UInt8)) (lo : Int) : Says a own lo [] [] := ⟨rfl, fun k h => by simp at h, by simp, .nil⟩
theorem says_app {a own : List (List UInt8)} {lo mid : Int} {l1 l2 : List Pl} {o1 o2 : List (List UInt8)} (h1 : Says a own lo l1 o1) (h2 : Says a own mid l2 o2) (hm : lo ≤ mid) (hu : ∀ x ∈ l1, x.new = -1 → x.old < mid) : Says a own lo (l1 ++ l2) (o1 ++ o2) := by
  refine ⟨by rw [List.length_append, List.length_append, h1.len, h2.len], fun k h h' => ?_, fun x hx hn => ?_, ?_⟩
  · by_cases hk : k < l1.length
    · rw [List.getElem_append_left hk, List.getElem_append_left (by rw [← h1.len]; exact hk)]
      exact h1.at_ k hk (by rw [← h1.len]; exact hk)
    · rw [List.getElem_append_right (by omega), List.getElem_append_right (by rw [← h1.len]; omega)]
      have e : k - o1.length = k - l1.length := by rw [h1.len]
      rw [List.length_append] at h
      have := h2.at_ (k - l1.length) (by omega) (by rw [← h2.len]; omega)
      simp only [e]
      exact this
  · rcases List.mem_append.1 hx with hx | hx
    · exact h1.low x hx hn
    · exact Int.le_trans hm (h2.low x hx hn)
  · rw [List.pairwise_append]
    exact ⟨h1.rise, h2.rise, fun x hx y hy hn hm' => Int.lt_of_lt_of_le (hu x hx hn) (h2.low y hy hm')⟩
theorem says_keeps (a own : List (List UInt8)) (o n : Nat) (h : o + n ≤ a.length) : Says a own o (keeps o n) ((a.drop o).take n) := by
  refine ⟨by rw [keeps_len, List.length_take, List.length_drop]; omega, fun k h1 h2 => ?_, fun x hx _ => ?_, ?_⟩
  · rw [keeps_len] at h1
    refine .inl ⟨o + k, keeps_at o n k h1, ?_⟩
    rw [List.getElem_take, List.getElem_drop, List.getElem?_eq_getElem (by omega)]
  · obtain ⟨k, hk, rfl⟩ := List.mem_iff_getElem.1 hx
    rw [keeps_at o n k (by rw [keeps_len] at hk; exact hk)]
    show (o : Int) ≤ ((o + k : Nat) : Int)
    omega
  · rw [List.pairwise_iff_getElem]
    intro i j hi hj hij _ _
    rw [keeps_len] at hi hj
    rw [keeps_at o n i hi, keeps_at o n j hj]
    show ((o + i : Nat) : Int) < ((o + j : Nat) : Int)
    omega
theorem says_adds (a own : List (List UInt8)) (lo : Int) (m n : Nat) (ls : List (List UInt8)) (hn : ls.length = n) (h : ∀ k (hk : k < ls.length), own[m + k]? = some ls[k]) : Says a own lo (adds m n) ls := by
  refine ⟨by rw [adds_len, hn], fun k h1 h2 => .inr ⟨m + k, adds_at m n k (by rw [adds_len] at h1; exact h1), h k h2⟩, fun x hx hnw => ?_, ?_⟩
  · obtain ⟨k, hk, rfl⟩ := List.mem_iff_getElem.1 hx
    rw [adds_at m n k (by rw [adds_len] at hk; exact hk)] at hnw
    have : ((m + k : Nat) : Int) = -1 := hnw
    omega
  · rw [List.pairwise_iff_getElem]
    intro i j hi hj hij hx _
    rw [adds_len] at hi
    rw [adds_at m n i hi] at hx
    have : ((m + i : Nat) : Int) = -1 := hx
    omega
/-- The lines of the result stand where the places say. -/
theorem says_change (a own : List (List UInt8)) : ∀ (hs : List Hk) (o m : Nat), (∀ h ∈ hs, isHunk h = true) → (o : Int) + cnt 1 hs + cnt 2 hs ≤ a.length → own.drop m = bodyL hs → Says a own o (places hs o m) (change hs (a.drop o))
  | [], o, m, _, _, _ => says_nil a own o
  | h :: t, o, m, hh, hl, hb => by
    obtain ⟨⟨n1, n2⟩, hk, hls⟩ := isHunk_num (hh h (by simp))
    have ht : ∀ x ∈ t, isHunk x = true := fun x hx => hh x (by simp [hx])
    have c1 := cnt_nonneg 1 t fun x hx => (isHunk_num (ht x hx)).1.1
    have c2 := cnt_nonneg 2 t fun x hx => (isHunk_num (ht x hx)).1.1
    obtain ⟨n, hn⟩ : ∃ n : Nat, h.n = (n : Int) := ⟨h.n.toNat, by omega⟩
    have hnt : h.n.toNat = n := by omega
    rw [bodyL] at hb
    have hb1 : own.drop (m + 1) = h.ls ++ bodyL t := by
      have := congrArg (List.drop 1) hb
      rw [List.drop_drop] at this
      rw [this]; rfl
    simp only [cnt] at hl
    have hd : (a.drop o).drop n = a.drop (o + n) := by rw [List.drop_drop]
    rw [places, change, hnt, hd]
    rcases hk with e | e | e
    · have hz : h.ls = [] := by
        have := hh h (by simp)
        unfold isHunk at this
        rw [if_pos (.inl e)] at this
        simp only [Bool.and_eq_true, decide_eq_true_eq] at this
        exact List.length_eq_zero_iff.1 this.2
      rw [hz, List.nil_append] at hb1
      rw [if_pos e, if_pos e]
      simp only [e, if_true] at hl
      refine says_app (mid := ((o + n : Nat) : Int)) (says_keeps a own o n (by omega)) (says_change a own t (o + n) (m + 1) ht (by omega) hb1) (by omega) fun x hx _ => ?_
      obtain ⟨k, hk2, rfl⟩ := List.mem_iff_getElem.1 hx
      rw [keeps_len] at hk2
      rw [keeps_at o n k hk2]
      show ((o + k : Nat) : Int) < ((o + n : Nat) : Int)
      omega
    · have hz : h.ls = [] := by
        have := hh h (by simp)
        unfold isHunk at this
        rw [if_pos (.inr e)] at this
        simp only [Bool.and_eq_true, decide_eq_true_eq] at this
        exact List.length_eq_zero_iff.1 this.2
      rw [hz, List.nil_append] at hb1
      have e1 : ¬ h.kind = 1 := by omega
      rw [if_neg e1, if_neg e1, if_pos e, if_pos e]
      simp only [e, if_true] at hl
      have h2 := says_change a own t (o + n) (m + 1) ht (by omega) hb1
      exact ⟨h2.len, h2.at_, fun x hx hx2 => Int.le_trans (by omega) (h2.low x hx hx2), h2.rise⟩
    · have hz : h.ls.length = n := by
        have := hh h (by simp)
        unfold isHunk at this
        rw [if_neg (by omega), if_pos e] at this
        simp only [Bool.and_eq_true, decide_eq_true_eq] at this
        omega
      have e1 : ¬ h.kind = 1 := by omega
      have e2 : ¬ h.kind = 2 := by omega
      rw [if_neg e1, if_neg e1, if_neg e2, if_neg e2, if_pos e, if_pos e]
      have hb2 : own.drop (m + 1 + n) = bodyL t := by
        rw [← List.drop_drop, hb1, List.drop_left' hz]
      refine says_app (mid := (o : Int)) (says_adds a own o (m + 1) n h.ls hz fun k hk2 => ?_) (says_change a own t o (m + 1 + n) ht (by omega) hb2) (Int.le_refl _) fun x hx hx2 => ?_
      · have := congrArg (fun l => l[k]?) hb1
        simp only [List.getElem?_drop] at this
        rw [this, List.getElem?_append_left hk2, List.getElem?_eq_getElem hk2]
      · obtain ⟨k, hk2, rfl⟩ := List.mem_iff_getElem.1 hx
        rw [adds_len] at hk2
        rw [adds_at (m + 1) n k hk2] at hx2
        have : ((m + 1 + k : Nat) : Int) = -1 := hx2
        omega
theorem pure_iff {s : List UInt8} : s.contains 10 = false ↔ ∀ x ∈ s, x ≠ 10 := by
  rw [Bool.eq_false_iff, Ne, List.contains_iff_mem]
  exact ⟨fun h x hx e => h (by rw [← e]; exact hx), fun h hm => h 10 hm rfl⟩
theorem join_ok {l : List (List UInt8)} (h : (Tre.join l).2 = 0) : Tre.join l = (Tre.joined l, 0) ∧ Tre.lines (Tre.joined l) = (l, 0) ∧ l ≠ [] ∧ l.length ≤ 1024 ∧ (Tre.joined l).length ≤ 65536 := by
  unfold Tre.join at h ⊢
  split at h
  · cases h
  · rename_i h1
    split at h
    · cases h
    · rename_i h2
      have h0 : l ≠ [] := fun e => h1 (.inl e)
      have hp : ∀ p ∈ l, ∀ x ∈ p, x ≠ 10 := fun p hp => pure_iff.1 (by
        rw [Bool.eq_false_iff]
        exact fun e => h1 (.inr (List.any_eq_true.2 ⟨p, hp, e⟩)))
      have e := Tre.split_joined l h0 hp
      refine ⟨by rw [if_neg h1, if_neg h2], ?_, h0, by omega, by omega⟩
      unfold Tre.lines
      rw [e, if_neg (by omega)]
theorem valid_parts {p : Pa} (h : valid p = true) : shape p.hs = true ∧ baseOk p.base = true ∧ (Tre.join (printL p)).2 = 0 := by
  unfold valid at h
  simp only [Bool.and_eq_true, decide_eq_true_eq] at h
  exact ⟨h.1.1, h.1.2, h.2⟩
/-- What applying a patch gives, where it gives something. -/
structure Did (p : Pa) (data s : List UInt8) (a : List (List UInt8)) : Prop where
  valid : Pc.valid p = true
  shape : Pc.shape p.hs = true
  print : Pc.print p = (Tre.joined (printL p), 0)
  own : Tre.lines (Tre.joined (printL p)) = (printL p, 0)
  old : Tre.lines data = (a, 0)
  now : Tre.lines s = (change p.hs a, 0)
  trace : Pc.trace p a.length = (placesOf p, 0)
  says : Says a (printL p) 0 (placesOf p) (change p.hs a)
theorem apply_cases (p : Pa) (data : List UInt8) : ((apply p data).2 ≠ 0 ∧ (apply p data).1 = []) ∨ ((apply p data).2 = 0 ∧ ∃ a, Did p data (apply p data).1 a) := by
  have hd : apply p data = if valid p = false then ([], 1)
      else if (Tre.lines data).2 ≠ 0 then ([], (Tre.lines data).2)
      else if cnt 1 p.hs + cnt 2 p.hs ≠ ((Tre.lines data).1.length : Int) ∨ (p.base ≠ [] ∧ p.base ≠ dig data) then ([], 9)
      else Tre.join (change p.hs (Tre.lines data).1) := rfl
  by_cases h1 : valid p = false
  · rw [if_pos h1] at hd; rw [hd]; exact .inl ⟨by decide, rfl⟩
  rw [if_neg h1] at hd
  by_cases h2 : (Tre.lines data).2 ≠ 0
  · rw [if_pos h2] at hd; rw [hd]; exact .inl ⟨h2, rfl⟩
  rw [if_neg h2] at hd
  by_cases h3 : cnt 1 p.hs + cnt 2 p.hs ≠ ((Tre.lines data).1.length : Int) ∨ (p.base ≠ [] ∧ p.base ≠ dig data)
  · rw [if_pos h3] at hd; rw [hd]; exact .inl ⟨by decide, rfl⟩
  rw [if_neg h3] at hd
  by_cases h4 : (Tre.join (change p.hs (Tre.lines data).1)).2 = 0
  · obtain ⟨j1, j2, _⟩ := join_ok h4
    rw [j1] at hd
    have hv : valid p = true := by simpa using h1
    obtain ⟨hs, _, hj⟩ := valid_parts hv
    obtain ⟨q1, q2, _⟩ := join_ok hj
    have hlen : cnt 1 p.hs + cnt 2 p.hs = ((Tre.lines data).1.length : Int) := by
      refine Classical.byContradiction fun e => h3 (.inl e)
    refine .inr ⟨by rw [hd], (Tre.lines data).1, hv, hs, by unfold Pc.print; rw [if_pos hv], q2, Prod.ext rfl (by simpa using h2), by rw [hd]; exact j2, by unfold Pc.trace; rw [if_neg h1, if_neg (by rw [hlen]; exact fun h => h rfl)], ?_⟩
    have hb : (printL p).drop (if p.base = [] then 0 else 1) = bodyL p.hs := by
      unfold printL
      split <;> rfl
    have := says_change (Tre.lines data).1 (printL p) p.hs 0 (if p.base = [] then 0 else 1) (shape_len hs).2.2 (by omega) hb
    rw [List.drop_zero] at this
    exact this
  · rw [hd]
    refine .inl ⟨h4, ?_⟩
    unfold Tre.join at h4 ⊢
    split at h4
    · rename_i h; rw [if_pos h]
    · rename_i h
      rw [if_neg h]
      split at h4
      · rename_i h'; rw [if_pos h']
      · exact absurd rfl h4
end Pc
end Go.Proofs.YtmmdldicafbjdaaGreatDoor
