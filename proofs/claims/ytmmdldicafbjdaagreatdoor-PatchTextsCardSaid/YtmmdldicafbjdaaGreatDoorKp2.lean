/- The patch that keeps rising pairs of equal lines leads from one text to the other one, plain. No condition. -/
import Derived.Test.YtmmdldicafbjdaaGreatDoorKps
namespace Go.Proofs.YtmmdldicafbjdaaGreatDoor
open Tr
namespace Pc

abbrev Ln := List UInt8
/-- Rising pairs of equal lines, from i and j on. -/
structure Mat (a b : List Ln) (i j : Nat) (K : List (Nat × Nat)) : Prop where
  rise : K.Pairwise fun p q => p.1 < q.1 ∧ p.2 < q.2
  at_ : ∀ p ∈ K, i ≤ p.1 ∧ j ≤ p.2 ∧ p.1 < a.length ∧ p.2 < b.length ∧ a[p.1]? = b[p.2]?
theorem mat_nil (a b : List Ln) (i j : Nat) : Mat a b i j [] := ⟨.nil, by simp⟩
theorem mat_tail {a b : List Ln} {i j x y : Nat} {K : List (Nat × Nat)} (h : Mat a b i j ((x, y) :: K)) : i ≤ x ∧ j ≤ y ∧ x < a.length ∧ y < b.length ∧ a[x]? = b[y]? ∧ Mat a b (x + 1) (y + 1) K := by
  obtain ⟨h1, h2⟩ := h
  rw [List.pairwise_cons] at h1
  obtain ⟨a1, a2, a3, a4, a5⟩ := h2 (x, y) (by simp)
  refine ⟨a1, a2, a3, a4, a5, h1.2, fun p hp => ?_⟩
  obtain ⟨b1, b2, b3, b4, b5⟩ := h2 p (by simp [hp])
  have := h1.1 p hp
  exact ⟨this.1, this.2, b3, b4, b5⟩
theorem mat_cons {a b : List Ln} {i j x y : Nat} {K : List (Nat × Nat)} (h1 : i ≤ x) (h2 : j ≤ y) (h3 : x < a.length) (h4 : y < b.length) (h5 : a[x]? = b[y]?) (h : Mat a b (x + 1) (y + 1) K) : Mat a b i j ((x, y) :: K) := by
  obtain ⟨k1, k2⟩ := h
  refine ⟨List.pairwise_cons.2 ⟨fun p hp => ?_, k1⟩, fun p hp => ?_⟩
  · obtain ⟨b1, b2, _⟩ := k2 p hp
    exact ⟨by show x < p.1; omega, by show y < p.2; omega⟩
  · rcases List.mem_cons.1 hp with rfl | hp
    · exact ⟨h1, h2, h3, h4, h5⟩
    · obtain ⟨b1, b2, b3, b4, b5⟩ := k2 p hp
      exact ⟨by omega, by omega, b3, b4, b5⟩
theorem mat_mono {a b : List Ln} {i j i' j' : Nat} {K : List (Nat × Nat)} (h : Mat a b i j K) (hi : i' ≤ i) (hj : j' ≤ j) : Mat a b i' j' K :=
  ⟨h.rise, fun p hp => by obtain ⟨b1, b2, b3, b4, b5⟩ := h.at_ p hp; exact ⟨by omega, by omega, b3, b4, b5⟩⟩
def sw (p : Nat × Nat) : Nat × Nat := (p.2, p.1)
theorem sw_sw (K : List (Nat × Nat)) : (K.map sw).map sw = K := by
  rw [List.map_map]; conv => rhs; rw [← List.map_id K]
  exact List.map_congr_left fun p _ => rfl
theorem mat_swap {a b : List Ln} {i j : Nat} {K : List (Nat × Nat)} (h : Mat a b i j K) : Mat b a j i (K.map sw) := by
  refine ⟨?_, fun p hp => ?_⟩
  · rw [List.pairwise_map]
    exact h.rise.imp fun h => ⟨h.2, h.1⟩
  · obtain ⟨q, hq, rfl⟩ := List.mem_map.1 hp
    obtain ⟨b1, b2, b3, b4, b5⟩ := h.at_ q hq
    exact ⟨b2, b1, b4, b3, b5.symm⟩
/-- The kind of the last hunk. -/
def lk : Int → List Hk → Int
  | b, [] => b
  | _, h :: t => lk h.kind t
theorem lk_snoc (b : Int) (hs : List Hk) (x : Hk) : lk b (hs ++ [x]) = x.kind := by
  induction hs generalizing b with
  | nil => rfl
  | cons h t ih => exact ih _
theorem inOrder_snoc (b : Int) (hs : List Hk) (x : Hk) : inOrder b (hs ++ [x]) = (inOrder b hs && beside (lk b hs) x) := by
  induction hs generalizing b with
  | nil => simp [inOrder, lk]
  | cons h t ih => rw [List.cons_append, inOrder, inOrder, ih, lk, Bool.and_assoc]
theorem lk_last (hs : List Hk) : (hs = [] ∧ lk 0 hs = 0) ∨ ∃ x, hs.getLast? = some x ∧ lk 0 hs = x.kind := by
  rcases List.eq_nil_or_concat hs with rfl | ⟨t, x, rfl⟩
  · exact .inl ⟨rfl, rfl⟩
  · refine .inr ⟨x, by simp, ?_⟩
    simpa using lk_snoc 0 t x
/-- Lines of the text, and of the result, that hunks take. -/
def eats : List Hk → Nat
  | [] => 0
  | h :: t => (if h.kind = 1 ∨ h.kind = 2 then h.n.toNat else 0) + eats t
def puts : List Hk → Nat
  | [] => 0
  | h :: t => (if h.kind = 1 ∨ h.kind = 3 then h.n.toNat else 0) + puts t
theorem eats_cnt : ∀ (hs : List Hk), (∀ h ∈ hs, isHunk h = true) → (eats hs : Int) = cnt 1 hs + cnt 2 hs ∧ (puts hs : Int) = cnt 1 hs + cnt 3 hs
  | [], _ => by simp [eats, puts, cnt]
  | h :: t, hh => by
    obtain ⟨i1, i2⟩ := eats_cnt t fun x hx => hh x (by simp [hx])
    obtain ⟨⟨n1, n2⟩, hk, _⟩ := isHunk_num (hh h (by simp))
    have hn : (h.n.toNat : Int) = h.n := by omega
    simp only [eats, puts, cnt]
    rcases hk with e | e | e <;> simp [e, hn] <;> omega
theorem change_app : ∀ (hs t : List Hk) (l : List Ln), (∀ h ∈ hs, isHunk h = true) → change (hs ++ t) l = change hs l ++ change t (l.drop (eats hs))
  | [], t, l, _ => by simp [change, eats]
  | h :: r, t, l, hh => by
    have ih := fun l => change_app r t l fun x hx => hh x (by simp [hx])
    obtain ⟨_, hk, _⟩ := isHunk_num (hh h (by simp))
    rw [List.cons_append, change, change, eats]
    rcases hk with e | e | e <;> simp [e, ih, List.drop_drop]
theorem prs_app : ∀ (hs t : List Hk) (o n : Nat), (∀ h ∈ hs, isHunk h = true) → prs (hs ++ t) o n = prs hs o n ++ prs t (o + eats hs) (n + puts hs)
  | [], t, o, n, _ => by simp [prs, eats, puts]
  | h :: r, t, o, n, hh => by
    have ih := fun o n => prs_app r t o n fun x hx => hh x (by simp [hx])
    obtain ⟨_, hk, _⟩ := isHunk_num (hh h (by simp))
    rw [List.cons_append, prs, prs, eats, puts]
    rcases hk with e | e | e <;> simp [e, ih, Nat.add_assoc]
theorem run_len (o n m : Nat) : (run o n m).length = m := by
  induction m generalizing o n with
  | zero => rfl
  | succ m ih => rw [run, List.length_cons, ih]
theorem run_snoc (o n m : Nat) : run o n (m + 1) = run o n m ++ [(o + m, n + m)] := by
  induction m generalizing o n with
  | zero => rfl
  | succ m ih =>
    rw [run, ih, run, List.cons_append]
    congr 4 <;> omega
/-- Hunks that lead from the first i lines of a text to the first j lines of the other one. -/
structure St (a b : List Ln) (hs : List Hk) (i j : Nat) (K : List (Nat × Nat)) : Prop where
  ord : inOrder 0 hs = true
  src : cnt 1 hs + cnt 2 hs = i
  dst : cnt 1 hs + cnt 3 hs = j
  chg : change hs a = b.take j
  prs : Pc.prs hs 0 0 = K
  kept : cnt 1 hs = K.length
  il : i ≤ a.length
  jl : j ≤ b.length
theorem St.all {a b : List Ln} {hs : List Hk} {i j : Nat} {K : List (Nat × Nat)} (h : St a b hs i j K) : (∀ x ∈ hs, isHunk x = true) ∧ eats hs = i ∧ puts hs = j := by
  have ha := inOrder_all 0 hs h.ord
  obtain ⟨e1, e2⟩ := eats_cnt hs ha
  have := h.src; have := h.dst
  exact ⟨ha, by omega, by omega⟩
theorem st_nil (a b : List Ln) : St a b [] 0 0 [] := ⟨rfl, rfl, rfl, rfl, rfl, rfl, Nat.zero_le _, Nat.zero_le _⟩
theorem isHunk_two (k : Int) (hk : k = 1 ∨ k = 2) (m : Nat) (h1 : 1 ≤ m) (h2 : m ≤ 1024) : isHunk ⟨k, (m : Int), []⟩ = true := by
  unfold isHunk
  rw [if_pos hk]
  simp only [Bool.and_eq_true, decide_eq_true_eq, isNum_iff]
  exact ⟨by omega, rfl⟩
theorem isHunk_add (ls : List Ln) (h1 : 1 ≤ ls.length) (h2 : ls.length ≤ 1024) : isHunk ⟨3, (ls.length : Int), ls⟩ = true := by
  unfold isHunk
  rw [if_neg (by simp), if_pos rfl, Bool.and_eq_true]
  exact ⟨(isNum_iff _).2 (by dsimp only; omega), decide_eq_true rfl⟩
theorem beside_of {b : Int} {h : Hk} (h1 : isHunk h = true) (h2 : h.kind ≠ b) (h3 : ¬ (h.kind = 2 ∧ b = 3)) : beside b h = true := by
  unfold beside
  simp only [Bool.and_eq_true, Bool.not_eq_true', beq_eq_false_iff_ne, Bool.and_eq_false_iff]
  exact ⟨⟨h1, h2⟩, by by_cases e : h.kind = 2 <;> simp [e] <;> exact fun e2 => h3 ⟨e, e2⟩⟩
theorem St.drop {a b : List Ln} {hs : List Hk} {i j : Nat} {K : List (Nat × Nat)} (h : St a b hs i j K) (m : Nat) (h1 : 1 ≤ m) (h2 : m ≤ 1024) (hi : i + m ≤ a.length) (hl : lk 0 hs ≠ 2) (hl3 : lk 0 hs ≠ 3) : St a b (hs ++ [⟨2, (m : Int), []⟩]) (i + m) j K := by
  obtain ⟨ha, e1, e2⟩ := h.all
  refine ⟨?_, ?_, ?_, ?_, ?_, ?_, hi, h.jl⟩
  · rw [inOrder_snoc, h.ord, beside_of (isHunk_two 2 (.inr rfl) m h1 h2) (fun e => hl e.symm) (fun e => hl3 e.2)]; rfl
  · have := h.src; simp [cnt_app, cnt]; omega
  · have := h.dst; simp [cnt_app, cnt]; omega
  · rw [change_app _ _ _ ha, h.chg]; simp [change]
  · rw [prs_app _ _ _ _ ha, h.prs]; simp [Pc.prs]
  · have := h.kept; simp [cnt_app, cnt]; omega
theorem St.add {a b : List Ln} {hs : List Hk} {i j : Nat} {K : List (Nat × Nat)} (h : St a b hs i j K) (m : Nat) (h1 : 1 ≤ m) (h2 : m ≤ 1024) (hj : j + m ≤ b.length) (hl : lk 0 hs ≠ 3) : St a b (hs ++ [⟨3, (m : Int), (b.take (j + m)).drop j⟩]) i (j + m) K := by
  obtain ⟨ha, e1, e2⟩ := h.all
  have hlen : ((b.take (j + m)).drop j).length = m := by rw [List.length_drop, List.length_take]; omega
  have hh := isHunk_add ((b.take (j + m)).drop j) (by omega) (by omega)
  rw [hlen] at hh
  refine ⟨?_, ?_, ?_, ?_, ?_, ?_, h.il, hj⟩
  · rw [inOrder_snoc, h.ord, beside_of hh (fun e => hl e.symm) (fun e => absurd e.1 (by show (3 : Int) ≠ 2; decide))]; rfl
  · have := h.src; simp [cnt_app, cnt]; omega
  · have := h.dst; simp [cnt_app, cnt]; omega
  · rw [change_app _ _ _ ha, h.chg]
    simp only [change]
    simp only [show ¬ ((3 : Int) = 1) by decide, show ¬ ((3 : Int) = 2) by decide, if_false, if_true, List.append_nil]
    have e : b.take j = (b.take (j + m)).take j := by rw [List.take_take, Nat.min_eq_left (by omega)]
    rw [e, List.take_append_drop]
  · rw [prs_app _ _ _ _ ha, h.prs]; simp [Pc.prs]
  · have := h.kept; simp [cnt_app, cnt]; omega
theorem take_at {α : Type} (l : List α) (i : Nat) (h : i < l.length) : l.take (i + 1) = l.take i ++ [l[i]] := List.take_succ_eq_append_getElem h
theorem St.keep {a b : List Ln} {hs : List Hk} {i j : Nat} {K : List (Nat × Nat)} (h : St a b hs i j K) (hi : i < a.length) (hj : j < b.length) (he : a[i]? = b[j]?) (hl : lk 0 hs ≠ 1) : St a b (hs ++ [⟨1, 1, []⟩]) (i + 1) (j + 1) (K ++ [(i, j)]) := by
  obtain ⟨ha, e1, e2⟩ := h.all
  have hh : isHunk ⟨1, 1, []⟩ = true := by decide
  refine ⟨?_, ?_, ?_, ?_, ?_, ?_, hi, hj⟩
  · rw [inOrder_snoc, h.ord, beside_of hh (fun e => hl e.symm) (fun e => absurd e.1 (by show (1 : Int) ≠ 2; decide))]; rfl
  · have := h.src; simp [cnt_app, cnt]; omega
  · have := h.dst; simp [cnt_app, cnt]; omega
  · rw [change_app _ _ _ ha, h.chg, e1, take_at b j hj]
    have ee : b[j] = a[i] := by
      rw [List.getElem?_eq_getElem hi, List.getElem?_eq_getElem hj] at he
      exact (Option.some.inj he).symm
    rw [ee]
    have : (a.drop i).take 1 = [a[i]] := by rw [List.drop_eq_getElem_cons hi]; rfl
    simp [change, this]
  · rw [prs_app _ _ _ _ ha, h.prs, e1, e2]; simp [Pc.prs, run]
  · have := h.kept; simp [cnt_app, cnt]; omega
theorem St.more {a b : List Ln} {hs : List Hk} {c : Int} {i j : Nat} {K : List (Nat × Nat)} (h : St a b (hs ++ [⟨1, c, []⟩]) i j K) (hi : i < a.length) (hj : j < b.length) (he : a[i]? = b[j]?) (ha : a.length ≤ 1024) : St a b (hs ++ [⟨1, c + 1, []⟩]) (i + 1) (j + 1) (K ++ [(i, j)]) := by
  have hall := h.all.1
  have ho := h.ord
  rw [inOrder_snoc, Bool.and_eq_true] at ho
  have hh := inOrder_all 0 hs ho.1
  obtain ⟨q1, q2⟩ := eats_cnt hs hh
  obtain ⟨⟨n1, n2⟩, _⟩ := isHunk_num (hall ⟨1, c, []⟩ (by simp))
  dsimp only at n1 n2
  have hsrc := h.src; have hdst := h.dst; have hkept := h.kept; have hchg := h.chg; have hprs := h.prs
  simp only [cnt_app, cnt] at hsrc hdst hkept
  simp at hsrc hdst hkept
  have c1 := cnt_nonneg 1 hs fun x hx => (isHunk_num (hh x hx)).1.1
  have c2 := cnt_nonneg 2 hs fun x hx => (isHunk_num (hh x hx)).1.1
  obtain ⟨m, rfl⟩ : ∃ m : Nat, c = (m : Int) := ⟨c.toNat, by omega⟩
  have hb2 := ho.2
  unfold beside at hb2
  simp only [Bool.and_eq_true, Bool.not_eq_true', beq_eq_false_iff_ne] at hb2
  have hn : isHunk ⟨1, (m : Int) + 1, []⟩ = true := by
    have h := isHunk_two 1 (.inl rfl) (m + 1) (by omega) (by omega)
    rwa [show ((m + 1 : Nat) : Int) = (m : Int) + 1 by omega] at h
  refine ⟨?_, ?_, ?_, ?_, ?_, ?_, hi, hj⟩
  · rw [inOrder_snoc, ho.1, beside_of (h := ⟨1, (m : Int) + 1, []⟩) hn hb2.1.2 (fun e => absurd e.1 (by show (1 : Int) ≠ 2; decide))]; rfl
  · simp [cnt_app, cnt]; omega
  · simp [cnt_app, cnt]; omega
  · rw [change_app _ _ _ hh] at hchg ⊢
    simp only [change, if_true, List.append_nil] at hchg ⊢
    have em : ((m : Int) + 1).toNat = m + 1 := by omega
    have em0 : (m : Int).toNat = m := by omega
    rw [em0] at hchg
    have hlt : m < (a.drop (eats hs)).length := by rw [List.length_drop]; omega
    have ee : (a.drop (eats hs))[m] = b[j] := by
      rw [List.getElem_drop]
      rw [List.getElem?_eq_getElem hi, List.getElem?_eq_getElem hj] at he
      have := Option.some.inj he
      rw [← this]
      congr 1
      omega
    rw [em, take_at _ m hlt, ← List.append_assoc, hchg, take_at b j hj, ee]
  · rw [prs_app _ _ _ _ hh] at hprs ⊢
    simp only [Pc.prs, if_true, List.append_nil] at hprs ⊢
    have em : ((m : Int) + 1).toNat = m + 1 := by omega
    have em0 : (m : Int).toNat = m := by omega
    rw [em0] at hprs
    rw [em, run_snoc, ← List.append_assoc, hprs]
    congr 3 <;> omega
  · simp [cnt_app, cnt]; omega
theorem St.pend {a b : List Ln} {hs : List Hk} {i j : Nat} {K : List (Nat × Nat)} (h : St a b hs i j K) (x y : Nat) (hx : i ≤ x) (hy : j ≤ y) (hxa : x ≤ a.length) (hyb : y ≤ b.length) (ha : a.length ≤ 1024) (hb : b.length ≤ 1024) (hl : hs = [] ∨ lk 0 hs = 1) :
    St a b (hs ++ Pc.pend ((a.take x).drop i).length ((b.take y).drop j)) x y K := by
  have l1 : ((a.take x).drop i).length = x - i := by rw [List.length_drop, List.length_take]; omega
  have l2 : ((b.take y).drop j).length = y - j := by rw [List.length_drop, List.length_take]; omega
  have hl2 : lk 0 hs ≠ 2 ∧ lk 0 hs ≠ 3 := by
    rcases hl with rfl | e
    · exact ⟨by decide, by decide⟩
    · rw [e]; exact ⟨by decide, by decide⟩
  unfold Pc.pend
  rw [l1]
  have step1 : St a b (hs ++ (if x - i = 0 then [] else [⟨2, ((x - i : Nat) : Int), []⟩])) x j K ∧ lk 0 (hs ++ (if x - i = 0 then [] else [⟨2, ((x - i : Nat) : Int), []⟩])) ≠ 3 := by
    by_cases e : x - i = 0
    · rw [if_pos e, List.append_nil, show x = i by omega]; exact ⟨h, hl2.2⟩
    · rw [if_neg e]
      have := h.drop (x - i) (by omega) (by omega) (by omega) hl2.1 hl2.2
      rw [show i + (x - i) = x by omega] at this
      exact ⟨this, by rw [lk_snoc]; show (2 : Int) ≠ 3; decide⟩
  rw [← List.append_assoc]
  by_cases e : (b.take y).drop j = []
  · rw [if_pos e, List.append_nil]
    rw [e] at l2
    simp at l2
    rw [show y = j by omega]
    exact step1.1
  · rw [if_neg e]
    have hpos : 1 ≤ y - j := by
      rw [← l2]
      exact List.length_pos_iff.2 e
    have := step1.1.add (y - j) hpos (by omega) (by omega) step1.2
    rw [show j + (y - j) = y by omega] at this
    rw [l2]
    exact this
theorem keep_st (a b : List Ln) (ha : a.length ≤ 1024) (hb : b.length ≤ 1024) : ∀ (K K0 : List (Nat × Nat)) (acc : List Hk) (i j : Nat), St a b acc i j K0 → (acc = [] ∨ lk 0 acc = 1) → Mat a b i j K → St a b (keepHs acc a b i j K) a.length b.length (K0 ++ K)
  | [], K0, acc, i, j, hs, hl, _ => by
    have hlast : ∀ x, acc.getLast? = some x → x.kind = 1 := fun x hx => by
      rcases lk_last acc with ⟨rfl, _⟩ | ⟨y, hy, e⟩
      · simp at hx
      · rw [hx] at hy
        obtain rfl := Option.some.inj hy
        rcases hl with rfl | e1
        · simp at hx
        · rw [← e, e1]
    have h := hs.pend a.length b.length hs.il hs.jl (Nat.le_refl _) (Nat.le_refl _) ha hb hl
    rw [List.take_length, List.take_length] at h
    rw [keepHs, take_pend acc _ _ hlast, List.append_nil]
    exact h
  | (x, y) :: K, K0, acc, i, j, hs, hl, hm => by
    have hlast : ∀ x, acc.getLast? = some x → x.kind = 1 := fun x hx => by
      rcases lk_last acc with ⟨rfl, _⟩ | ⟨y, hy, e⟩
      · simp at hx
      · rw [hx] at hy
        obtain rfl := Option.some.inj hy
        rcases hl with rfl | e1
        · simp at hx
        · rw [← e, e1]
    obtain ⟨m1, m2, m3, m4, m5, m6⟩ := mat_tail hm
    have h := hs.pend x y m1 m2 (by omega) (by omega) ha hb hl
    rw [keepHs, take_pend acc _ _ hlast, seg_one a x m3]
    have e1 : K0 ++ (x, y) :: K = (K0 ++ [(x, y)]) ++ K := by simp
    rw [e1]
    by_cases hp : lk 0 (acc ++ Pc.pend ((a.take x).drop i).length ((b.take y).drop j)) = 1
    · rcases List.eq_nil_or_concat (acc ++ Pc.pend ((a.take x).drop i).length ((b.take y).drop j)) with e | ⟨t, z, e⟩
      · rw [e] at hp; exact absurd hp (by decide)
      · rw [List.concat_eq_append] at e
        rw [e] at h hp ⊢
        rw [lk_snoc] at hp
        have hz := h.all.1 z (by simp)
        have hzl : z.ls = [] := by
          unfold isHunk at hz
          rw [if_pos (.inl hp)] at hz
          simp only [Bool.and_eq_true, decide_eq_true_eq] at hz
          exact List.length_eq_zero_iff.1 hz.2
        obtain ⟨zk, zn, zls⟩ := z
        simp at hp hzl
        subst hp hzl
        rw [take_same _ _ 1 _ (by simp) rfl]
        have ea : addTo 1 [a[x]] ⟨1, zn, []⟩ = ⟨1, zn + 1, []⟩ := by simp [addTo]
        rw [ea]
        exact keep_st a b ha hb K _ _ (x + 1) (y + 1) (h.more m3 m4 m5 ha) (.inr (lk_snoc _ _ _)) m6
    · have hnl : ∀ z, (acc ++ Pc.pend ((a.take x).drop i).length ((b.take y).drop j)).getLast? = some z → z.kind ≠ 1 := fun z hz => by
        rcases lk_last (acc ++ Pc.pend ((a.take x).drop i).length ((b.take y).drop j)) with ⟨e, _⟩ | ⟨w, hw, e⟩
        · rw [e] at hz; simp at hz
        · rw [hz] at hw
          obtain rfl := Option.some.inj hw
          rw [← e]; exact hp
      rw [take_new _ 1 _ (by simp) hnl]
      have ea : addTo 1 [a[x]] ⟨1, 0, []⟩ = ⟨1, 1, []⟩ := by simp [addTo]
      rw [ea]
      exact keep_st a b ha hb K _ _ (x + 1) (y + 1) (h.keep m3 m4 m5 hp) (.inr (lk_snoc _ _ _)) m6
/-- The hunks that keep rising pairs lead from one text to the other one. -/
theorem keep_ok {a b : List Ln} {K : List (Nat × Nat)} (ha : a.length ≤ 1024) (hb : b.length ≤ 1024) (h : Mat a b 0 0 K) : St a b (keepHs [] a b 0 0 K) a.length b.length K := by
  have := keep_st a b ha hb K [] [] 0 0 (st_nil a b) (.inl rfl) h
  exact this
/-- The pairs that hunks keep rise, and their lines are equal. -/
theorem prs_mat (a b : List Ln) : ∀ (hs : List Hk) (o n : Nat), (∀ h ∈ hs, isHunk h = true) → o + eats hs ≤ a.length → n ≤ b.length → b.drop n = change hs (a.drop o) → Mat a b o n (prs hs o n)
  | [], o, n, _, _, _, _ => mat_nil _ _ _ _
  | h :: t, o, n, hh, hl, hn, hb => by
    have ih := fun o n => prs_mat a b t o n fun x hx => hh x (by simp [hx])
    obtain ⟨⟨n1, n2⟩, hk, hls⟩ := isHunk_num (hh h (by simp))
    obtain ⟨m, hm⟩ : ∃ m : Nat, h.n = (m : Int) := ⟨h.n.toNat, by omega⟩
    have hmt : h.n.toNat = m := by omega
    have hd : (a.drop o).drop m = a.drop (o + m) := by rw [List.drop_drop]
    rw [eats, hmt] at hl
    rw [change, hmt, hd] at hb
    rw [prs, hmt]
    rcases hk with e | e | e
    · rw [if_pos e] at hb ⊢
      rw [if_pos (.inl e)] at hl
      have hlen : n + m ≤ b.length := by
        have := congrArg List.length hb
        rw [List.length_drop, List.length_append, List.length_take, List.length_drop] at this
        omega
      have hb2 : b.drop (n + m) = change t (a.drop (o + m)) := by
        rw [← List.drop_drop, hb, List.drop_left' (by rw [List.length_take, List.length_drop]; omega)]
      have hrun : ∀ k K, o + k ≤ a.length → k ≤ m → Mat a b (o + k) (n + k) K → Mat a b o n (run o n k ++ K) := by
        intro k
        induction k with
        | zero => intro K _ _ h; simpa [run] using h
        | succ k ihk =>
          intro K h1 h2 h3
          rw [run_snoc, List.append_assoc]
          refine ihk _ (by omega) (by omega) (mat_cons (Nat.le_refl _) (Nat.le_refl _) (by omega) (by omega) ?_ h3)
          have h5 := congrArg (fun l => l[k]?) hb
          simp only [List.getElem?_drop] at h5
          rw [h5, List.getElem?_append_left (by rw [List.length_take, List.length_drop]; omega), List.getElem?_take, if_pos (by omega), List.getElem?_drop]
      exact hrun m _ (by omega) (Nat.le_refl _) (ih (o + m) (n + m) (by omega) hlen hb2)
    · have e1 : ¬ h.kind = 1 := by omega
      rw [if_neg e1, if_pos e] at hb ⊢
      rw [if_pos (.inr e)] at hl
      exact mat_mono (ih (o + m) n (by omega) hn hb) (by omega) (Nat.le_refl _)
    · have e1 : ¬ h.kind = 1 := by omega
      have e2 : ¬ h.kind = 2 := by omega
      have hlm : h.ls.length = m := by
        have := hh h (by simp)
        unfold isHunk at this
        rw [if_neg (by omega), if_pos e] at this
        simp only [Bool.and_eq_true, decide_eq_true_eq] at this
        omega
      rw [if_neg e1, if_neg e2] at hb ⊢
      rw [if_pos e] at hb
      rw [if_neg (by omega)] at hl
      have hlen : n + m ≤ b.length := by
        have := congrArg List.length hb
        rw [List.length_drop, List.length_append, hlm] at this
        omega
      have hb2 : b.drop (n + m) = change t (a.drop o) := by rw [← List.drop_drop, hb, List.drop_left' hlm]
      exact mat_mono (ih o (n + m) (by omega) hlen hb2) (Nat.le_refl _) (by omega)
end Pc
end Go.Proofs.YtmmdldicafbjdaaGreatDoor
