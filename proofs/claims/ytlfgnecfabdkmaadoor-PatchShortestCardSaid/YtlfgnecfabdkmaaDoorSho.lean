/- The shortest patch between two short texts, plain. No condition. -/
import Derived.Test.YtlfgnecfabdkmaaDoorKp3
import Derived.Lib.ItoaNum
namespace Go.Proofs.YtlfgnecfabdkmaaDoor
open Tr
namespace Pc

theorem dd_mem : ∀ (n : Nat) (x : UInt8), x ∈ Lib.decDigits n → 48 ≤ x.toNat ∧ x.toNat ≤ 57 := by
  intro n
  induction n using Nat.strongRecOn with
  | ind n ih =>
    intro x hx
    by_cases h : n < 10
    · rw [Lib.decDigits, dif_pos h] at hx
      rw [List.mem_singleton.1 hx, UInt8.toNat_ofNat']
      omega
    · rw [Lib.decDigits, dif_neg h] at hx
      rcases List.mem_append.1 hx with hx | hx
      · exact ih (n / 10) (by omega) x hx
      · rw [List.mem_singleton.1 hx, UInt8.toNat_ofNat']
        omega
theorem dd_len : ∀ (k n : Nat), n < 10 ^ (k + 1) → (Lib.decDigits n).length ≤ k + 1 := by
  intro k
  induction k with
  | zero => intro n h; rw [Lib.decDigits, dif_pos (by omega)]; simp
  | succ k ih =>
    intro n h
    by_cases h1 : n < 10
    · rw [Lib.decDigits, dif_pos h1]; simp
    · rw [Lib.decDigits, dif_neg h1, List.length_append, List.length_singleton]
      have := ih (n / 10) (by rw [Nat.pow_succ] at h; omega)
      omega
theorem head_len (h : Hk) (hh : isHunk h = true) : (headL h).length ≤ 9 := by
  obtain ⟨⟨n1, n2⟩, _⟩ := isHunk_num hh
  have := dd_len 3 h.n.toNat (by omega)
  unfold headL word
  rw [List.length_append]
  split
  · simp; omega
  · split <;> simp <;> omega
theorem head_pure (h : Hk) : ∀ x ∈ headL h, x ≠ 10 := by
  intro x hx
  unfold headL word at hx
  rcases List.mem_append.1 hx with hx | hx
  · intro e
    subst e
    split at hx
    · exact absurd hx (by decide)
    · split at hx <;> exact absurd hx (by decide)
  · intro e
    have := dd_mem _ _ hx
    rw [e] at this
    exact absurd this.1 (by decide)
def num (k : Int) (hs : List Hk) : Nat := hs.countP fun h => h.kind == k
theorem num_cons (k : Int) (h : Hk) (t : List Hk) : num k (h :: t) = num k t + if h.kind = k then 1 else 0 := by
  unfold num
  rw [List.countP_cons]
  simp
theorem num_all : ∀ (hs : List Hk), (∀ h ∈ hs, isHunk h = true) → hs.length = num 1 hs + num 2 hs + num 3 hs ∧ (num 1 hs : Int) ≤ cnt 1 hs ∧ (num 2 hs : Int) ≤ cnt 2 hs ∧ ((bodyL hs).length : Int) = hs.length + cnt 3 hs
  | [], _ => by simp [num, cnt, bodyL]
  | h :: t, hh => by
    obtain ⟨i1, i2, i3, i4⟩ := num_all t fun x hx => hh x (by simp [hx])
    have h1 := hh h (by simp)
    obtain ⟨⟨n1, n2⟩, hk, _⟩ := isHunk_num h1
    simp only [num_cons, cnt, bodyL, List.length_cons, List.length_append]
    unfold isHunk at h1
    rcases hk with e | e | e
    · rw [if_pos (.inl e)] at h1
      simp only [Bool.and_eq_true, decide_eq_true_eq] at h1
      simp [e]; omega
    · rw [if_pos (.inr e)] at h1
      simp only [Bool.and_eq_true, decide_eq_true_eq] at h1
      simp [e]; omega
    · rw [if_neg (by omega), if_pos e] at h1
      simp only [Bool.and_eq_true, decide_eq_true_eq] at h1
      simp [e]; omega
theorem threes : ∀ (b : Int) (hs : List Hk), inOrder b hs = true → num 3 hs ≤ num 1 hs + if b = 3 then 0 else 1
  | b, [], _ => by simp [num]
  | b, h :: t, ho => by
    rw [inOrder, Bool.and_eq_true] at ho
    have ih := threes h.kind t ho.2
    have hb := ho.1
    unfold beside at hb
    simp only [Bool.and_eq_true, Bool.not_eq_true', beq_eq_false_iff_ne, Bool.and_eq_false_iff] at hb
    obtain ⟨⟨h1, h2⟩, h3⟩ := hb
    obtain ⟨_, hk, _⟩ := isHunk_num h1
    rw [num_cons, num_cons]
    rcases hk with e | e | e
    · rw [if_neg (by omega)] at ih
      rw [if_neg (by omega), if_pos e]; omega
    · rw [if_neg (by omega)] at ih
      have hb3 : b ≠ 3 := by rcases h3 with h3 | h3; exact absurd e h3; exact h3
      rw [if_neg (by omega), if_neg (by omega), if_neg hb3]; omega
    · rw [if_pos e] at ih
      have hb3 : b ≠ 3 := fun e2 => h2 (by omega)
      rw [if_pos e, if_neg (by omega), if_neg hb3]; omega
def sumLen (l : List Ln) : Nat := (l.map (·.length)).sum
theorem sumLen_app (a b : List Ln) : sumLen (a ++ b) = sumLen a + sumLen b := by unfold sumLen; rw [List.map_append, List.sum_append]
theorem body_sum : ∀ (hs : List Hk) (l : List Ln), (∀ h ∈ hs, isHunk h = true) → sumLen (bodyL hs) ≤ 9 * hs.length + sumLen (change hs l)
  | [], _, _ => by simp [bodyL, sumLen]
  | h :: t, l, hh => by
    have ih := fun l => body_sum t l fun x hx => hh x (by simp [hx])
    have h1 := hh h (by simp)
    have hl := head_len h h1
    obtain ⟨_, hk, _⟩ := isHunk_num h1
    rw [bodyL, change, sumLen_app, List.length_cons]
    have e0 : sumLen (headL h :: h.ls) = (headL h).length + sumLen h.ls := by unfold sumLen; rw [List.map_cons, List.sum_cons]
    rw [e0]
    have i1 := ih (l.drop h.n.toNat)
    have i2 := ih l
    have hz : h.kind ≠ 3 → sumLen h.ls = 0 := fun e => by
      unfold isHunk at h1
      rw [if_pos (by omega)] at h1
      simp only [Bool.and_eq_true, decide_eq_true_eq] at h1
      rw [List.length_eq_zero_iff.1 h1.2]; rfl
    rcases hk with e | e | e
    · rw [if_pos e, sumLen_app]
      have := hz (by omega); omega
    · rw [if_neg (by omega), if_pos e]
      have := hz (by omega); omega
    · rw [if_neg (by omega), if_neg (by omega), if_pos e, sumLen_app]
      omega
theorem body_pure : ∀ (hs : List Hk) (l : List Ln), (∀ h ∈ hs, isHunk h = true) → (∀ p ∈ change hs l, ∀ x ∈ p, x ≠ 10) → ∀ p ∈ bodyL hs, ∀ x ∈ p, x ≠ 10
  | [], _, _, _ => by simp [bodyL]
  | h :: t, l, hh, hc => by
    have h1 := hh h (by simp)
    obtain ⟨_, hk, _⟩ := isHunk_num h1
    have ih := fun l => body_pure t l fun x hx => hh x (by simp [hx])
    have hz : h.kind ≠ 3 → h.ls = [] := fun e => by
      unfold isHunk at h1
      rw [if_pos (by omega)] at h1
      simp only [Bool.and_eq_true, decide_eq_true_eq] at h1
      exact List.length_eq_zero_iff.1 h1.2
    rw [change] at hc
    intro p hp
    rw [bodyL] at hp
    rcases hk with e | e | e
    · rw [if_pos e] at hc
      rw [hz (by omega)] at hp
      rcases List.mem_append.1 hp with hp | hp
      · rw [List.mem_singleton.1 hp]; exact head_pure h
      · exact ih _ (fun q hq => hc q (List.mem_append_right _ hq)) p hp
    · rw [if_neg (by omega), if_pos e] at hc
      rw [hz (by omega)] at hp
      rcases List.mem_append.1 hp with hp | hp
      · rw [List.mem_singleton.1 hp]; exact head_pure h
      · exact ih _ hc p hp
    · rw [if_neg (by omega), if_neg (by omega), if_pos e] at hc
      rcases List.mem_append.1 hp with hp | hp
      · rcases List.mem_cons.1 hp with rfl | hp
        · exact head_pure h
        · exact hc p (List.mem_append_left _ hp)
      · exact ih _ (fun q hq => hc q (List.mem_append_right _ hq)) p hp
theorem bodyL_ne {hs : List Hk} (h : hs ≠ []) : bodyL hs ≠ [] := by
  cases hs with
  | nil => exact absurd rfl h
  | cons x t => simp [bodyL]
/-- Hunks between texts that are short have a text. -/
theorem short_valid {a b : List Ln} {hs : List Hk} {K : List (Nat × Nat)} (h : St a b hs a.length b.length K) (ha : 1 ≤ a.length) (hb : 1 ≤ b.length) (hab : a.length + b.length ≤ 1020) (hsum : sumLen b ≤ 1000) (hp : ∀ p ∈ b, ∀ x ∈ p, x ≠ 10) : valid ⟨[], hs⟩ = true := by
  have hall := h.all.1
  have h1 := h.src; have h2 := h.dst
  obtain ⟨i1, i2, i3, i4⟩ := num_all hs hall
  have i5 := threes 0 hs h.ord
  rw [if_neg (by decide)] at i5
  have hchg : change hs a = b := by rw [h.chg, List.take_length]
  have i6 := body_sum hs a hall
  rw [hchg] at i6
  have hne : hs ≠ [] := fun e => by rw [e] at h1; simp [cnt] at h1; omega
  have hbn := bodyL_ne hne
  have hpu := body_pure hs a hall (by rw [hchg]; exact hp)
  have hj := Tre.joined_len (bodyL hs) hbn
  have hjs : (Tre.joined (bodyL hs)).length + 1 = sumLen (bodyL hs) + (bodyL hs).length := hj
  have c1 := cnt_nonneg 1 hs fun x hx => (isHunk_num (hall x hx)).1.1
  have c2 := cnt_nonneg 2 hs fun x hx => (isHunk_num (hall x hx)).1.1
  have c3 := cnt_nonneg 3 hs fun x hx => (isHunk_num (hall x hx)).1.1
  have hsh : shape hs = true := by
    unfold shape
    rw [h.ord, h1, h2]
    simp only [Bool.true_and, Bool.and_eq_true, isNum_iff]
    omega
  have hL : printL ⟨[], hs⟩ = bodyL hs := by unfold printL; simp
  unfold valid
  simp only [Bool.and_eq_true, decide_eq_true_eq]
  refine ⟨⟨hsh, rfl⟩, ?_⟩
  rw [hL]
  unfold Tre.join
  rw [if_neg, if_neg (by omega)]
  rintro (e | e)
  · exact hbn e
  · obtain ⟨x, hx, hc⟩ := List.any_eq_true.1 e
    rw [pure_iff.2 (hpu x hx)] at hc; cases hc
theorem lcs_le : ∀ (a b : List Ln), lcs a b ≤ a.length ∧ lcs a b ≤ b.length
  | [], b => by rw [lcs_nil]; simp
  | x :: a, [] => by rw [lcs_nil_r]; simp
  | x :: a, y :: b => by
    have h1 := lcs_le a b
    have h2 := lcs_le a (y :: b)
    have h3 := lcs_le (x :: a) b
    rw [lcs_cons]
    simp only [List.length_cons] at *
    split <;> omega
termination_by a b => a.length + b.length
theorem lcs_self : ∀ (a : List Ln), lcs a a = a.length
  | [] => lcs_nil _
  | x :: a => by rw [lcs_cons, if_pos rfl, lcs_self a]; rfl
theorem lcs_full : ∀ (a b : List Ln), lcs a b = a.length → a.length = b.length → a = b
  | [], b, _, h => (List.length_eq_zero_iff.1 h.symm).symm
  | x :: a, [], _, h => by simp at h
  | x :: a, y :: b, h, hl => by
    rw [lcs_cons] at h
    simp only [List.length_cons] at h hl
    split at h
    · rename_i e
      rw [e, lcs_full a b (by omega) (by omega)]
    · have h2 := lcs_le a (y :: b)
      have h3 := lcs_le (x :: a) b
      omega
theorem count_sum (c : UInt8) (s : List UInt8) : sumLen (Tre.split c s) ≤ s.length := by
  induction s with
  | nil => simp [Tre.split, sumLen]
  | cons x s ih =>
    by_cases h : x = c
    · subst h; rw [Tre.split_hit]
      unfold sumLen at ih ⊢
      simp only [List.map_cons, List.sum_cons, List.length_nil, List.length_cons]
      omega
    · obtain ⟨p, r, h1, h2⟩ := Tre.split_miss c x s h
      rw [h1] at ih
      rw [h2]
      unfold sumLen at ih ⊢
      simp only [List.map_cons, List.sum_cons, List.length_cons] at ih ⊢
      omega
theorem lines_short {s : List UInt8} (h : s.length ≤ 500) : ∃ l, Tre.lines s = (l, 0) ∧ 1 ≤ l.length ∧ l.length ≤ 501 ∧ sumLen l ≤ 500 ∧ (∀ p ∈ l, ∀ x ∈ p, x ≠ 10) := by
  have hc := Tre.split_count 10 s
  have hcl : s.count 10 ≤ s.length := List.count_le_length
  have hl : Tre.lines s = (Tre.split 10 s, 0) := by
    unfold Tre.lines
    rw [if_neg (by omega)]
  have hs := count_sum 10 s
  exact ⟨_, hl, by omega, by omega, by omega, Tre.split_pure 10 s⟩
/-- The shortest patch: it leads to the other text, and none costs less. -/
theorem make_best {f t : List UInt8} (hf : f.length ≤ 500) (ht : t.length ≤ 500) : ∃ (r : Pa) (n : Int), make f t = (r, 0) ∧ apply r f = (t, 0) ∧ cost r = (n, 0) ∧ (n = 0 ↔ f = t) ∧ ∀ p, apply p f = (t, 0) → ∃ m, cost p = (m, 0) ∧ n ≤ m := by
  obtain ⟨a, ha, a1, a2, a3, a4⟩ := lines_short hf
  obtain ⟨b, hb, b1, b2, b3, b4⟩ := lines_short ht
  have hm := common_mat a b a b 0 0 rfl rfl
  have hst := keep_ok (by omega) (by omega) hm
  have hv := short_valid hst a1 b1 (by omega) (by omega) b4
  obtain ⟨o1, o2, o3, o4, o5, o6⟩ := lines_ok ha
  obtain ⟨n1, n2, n3, n4, n5, n6⟩ := lines_ok hb
  have hmk : make f t = (⟨[], keepHs [] a b 0 0 (common a b 0 0)⟩, 0) := by
    unfold make
    rw [ha]
    dsimp only
    rw [if_neg (by simp), hb]
    dsimp only
    rw [if_neg (by simp)]
    unfold keeping
    rw [if_pos hv]
  have happ : apply ⟨[], keepHs [] a b 0 0 (common a b 0 0)⟩ f = (t, 0) := by
    rw [apply_ok hv ha hst.src (.inl rfl)]
    show Tre.join (change (keepHs [] a b 0 0 (common a b 0 0)) a) = (t, 0)
    rw [hst.chg, List.take_length, n5]
  obtain ⟨a', b', l⟩ := led_of happ
  obtain rfl : a = a' := by have := ha.symm.trans l.old; exact (Prod.mk.inj this).1
  obtain rfl : b = b' := by have := hb.symm.trans l.now; exact (Prod.mk.inj this).1
  have hc := l.cost
  rw [show prs (⟨[], keepHs [] a b 0 0 (common a b 0 0)⟩ : Pa).hs 0 0 = common a b 0 0 from hst.prs, common_len] at hc
  have hle := lcs_le a b
  refine ⟨_, _, hmk, happ, hc, ⟨fun h => ?_, fun h => ?_⟩, fun p hp => ?_⟩
  · have := lcs_full a b (by omega) (by omega)
    rw [← o4, ← n4, this]
  · subst h
    obtain rfl : a = b := by have := ha.symm.trans hb; exact (Prod.mk.inj this).1
    have := lcs_self a
    omega
  · obtain ⟨a', b', k⟩ := led_of hp
    obtain rfl : a = a' := by have := ha.symm.trans k.old; exact (Prod.mk.inj this).1
    obtain rfl : b = b' := by have := hb.symm.trans k.now; exact (Prod.mk.inj this).1
    refine ⟨_, k.cost, ?_⟩
    have := mat_le a b _ a b 0 0 _ (Nat.le_refl _) rfl rfl k.mat
    omega
end Pc
end Go.Proofs.YtlfgnecfabdkmaaDoor
