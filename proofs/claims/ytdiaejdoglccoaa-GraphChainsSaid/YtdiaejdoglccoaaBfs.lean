/- Plain: labels of nodes by a queue. -/
import Derived.Test.YtdiaejdoglccoaaVis
namespace Go.Proofs.Ytdiaejdoglccoaa

namespace Gr
/-- A walk of k steps from a start to a node, not by way of the closed one. -/
inductive Wk (R : Nat → List Int) (S : List Int) (c : Int) : Nat → Nat → Prop
  | start (s : Nat) : (s : Int) ∈ S → (s : Int) ≠ c → Wk R S c 0 s
  | step (k a b : Nat) : Wk R S c k a → (b : Int) ∈ R a → (b : Int) ≠ c → Wk R S c (k + 1) b
/-- How many nodes have no label. -/
def ng (L : Nat → Int) : Nat → Nat
  | 0 => 0
  | n + 1 => ng L n + if L n < 0 then 1 else 0
theorem ng_le (L : Nat → Int) : ∀ n, ng L n ≤ n
  | 0 => Nat.le_refl _
  | n + 1 => by have := ng_le L n; rw [ng]; split <;> omega
theorem ng_out (L : Nat → Int) (b : Nat) (x : Int) : ∀ n, n ≤ b → ng (fun j => if j = b then x else L j) n = ng L n
  | 0, _ => rfl
  | n + 1, h => by
    rw [ng, ng, ng_out L b x n (by omega)]
    simp only [show ¬ n = b by omega, if_false]
theorem ng_set (L : Nat → Int) (b : Nat) (x : Int) (hx : 0 ≤ x) (hb : L b < 0) : ∀ n, b < n → ng (fun j => if j = b then x else L j) n + 1 = ng L n
  | 0, h => by omega
  | n + 1, h => by
    rw [ng, ng]
    by_cases e : n = b
    · subst e
      rw [ng_out L n x n (Nat.le_refl _)]
      simp only [if_true, hb]
      rw [if_neg (by omega)]
    · have := ng_set L b x hx hb n (by omega)
      simp only [e, if_false]
      omega
/-- What holds in whichever state. -/
structure Bas (R : Nat → List Int) (S : List Int) (c : Int) (n : Nat) (L : Nat → Int) (q : List Int) : Prop where
  neg : ∀ m, L m = -1 ∨ 0 ≤ L m
  snd : ∀ m, 0 ≤ L m → Wk R S c (L m).toNat m
  qs : ∀ x ∈ q, ∃ m : Nat, x = (m : Int) ∧ m < n ∧ 0 ≤ L m
  cnt : q.length + ng L n ≤ n
/-- The starts up to j are labelled. -/
structure Sta (R : Nat → List Int) (S : List Int) (c : Int) (n j : Nat) (L : Nat → Int) (q : List Int) : Prop where
  bas : Bas R S c n L q
  low : ∀ m, L m ≤ 0
  inq : ∀ m : Nat, 0 ≤ L m → (m : Int) ∈ q
  strt : ∀ s : Nat, (s : Int) ∈ S.take j → (s : Int) ≠ c → 0 ≤ L s
/-- The queue is worked off. -/
structure Bfs (R : Nat → List Int) (S : List Int) (c : Int) (n : Nat) (L : Nat → Int) (q : List Int) : Prop where
  bas : Bas R S c n L q
  strt : ∀ s : Nat, (s : Int) ∈ S → (s : Int) ≠ c → 0 ≤ L s ∧ L s ≤ 0
  done : ∀ m : Nat, 0 ≤ L m → (m : Int) ∉ q → ∀ b : Nat, (b : Int) ∈ R m → (b : Int) ≠ c → 0 ≤ L b ∧ L b ≤ L m + 1
  mono : q.Pairwise fun x y => L x.toNat ≤ L y.toNat
  top : ∀ x t, q = x :: t → ∀ m, L m ≤ L x.toNat + 1
/-- The first j nodes behind node a are visited. -/
structure Inn (R : Nat → List Int) (S : List Int) (c : Int) (n a j : Nat) (L : Nat → Int) (q : List Int) : Prop where
  bas : Bas R S c n L q
  strt : ∀ s : Nat, (s : Int) ∈ S → (s : Int) ≠ c → 0 ≤ L s ∧ L s ≤ 0
  done : ∀ m : Nat, 0 ≤ L m → (m : Int) ∉ q → m ≠ a → ∀ b : Nat, (b : Int) ∈ R m → (b : Int) ≠ c → 0 ≤ L b ∧ L b ≤ L m + 1
  proc : ∀ b : Nat, (b : Int) ∈ (R a).take j → (b : Int) ≠ c → 0 ≤ L b ∧ L b ≤ L a + 1
  mono : q.Pairwise fun x y => L x.toNat ≤ L y.toNat
  low : ∀ x ∈ q, L a ≤ L x.toNat
  top : ∀ m, L m ≤ L a + 1
  la : 0 ≤ L a
theorem Sta.init (R : Nat → List Int) (S : List Int) (c : Int) (n : Nat) : Sta R S c n 0 (fun _ => -1) [] :=
  ⟨⟨fun _ => .inl rfl, fun m h => by omega, fun x h => by simp at h, by have := ng_le (fun _ => -1) n; simpa using this⟩, fun _ => by omega, fun m h => by omega, fun s h => by simp at h⟩
theorem Sta.step {R : Nat → List Int} {S : List Int} {c : Int} {n j b : Nat} {L : Nat → Int} {q : List Int} (h : Sta R S c n j L q) (hj : j < S.length) (hb : S[j] = (b : Int)) (hbn : b < n) : Sta R S c n (j + 1) (visL c L b 0) (visQ c L q b) := by
  obtain ⟨⟨h1, h2, h3, h4⟩, h5, h6, h7⟩ := h
  have htk : S.take (j + 1) = S.take j ++ [(b : Int)] := by rw [List.take_succ_eq_append_getElem hj, hb]
  unfold visL visQ
  by_cases hc : L b < 0 ∧ (b : Int) ≠ c
  · rw [if_pos hc, if_pos hc]
    have hn := ng_set L b 0 (Int.le_refl _) hc.1 n hbn
    refine ⟨⟨fun m => ?_, fun m hm => ?_, fun x hx => ?_, by rw [List.length_append, List.length_singleton]; omega⟩, fun m => ?_, fun m hm => ?_, fun s hs hsc => ?_⟩
    · by_cases e : m = b
      · simp [e]
      · simp only [e, if_false]; exact h1 m
    · by_cases e : m = b
      · subst e
        simp only [if_true]
        exact .start m (by rw [← hb]; exact List.getElem_mem hj) hc.2
      · simp only [e, if_false] at hm ⊢
        exact h2 m hm
    · rcases List.mem_append.1 hx with hx | hx
      · obtain ⟨m, rfl, h8, h9⟩ := h3 x hx
        refine ⟨m, rfl, h8, ?_⟩
        split
        · omega
        · exact h9
      · rw [List.mem_singleton] at hx
        exact ⟨b, hx, hbn, by simp⟩
    · show (if m = b then 0 else L m) ≤ 0
      split
      · omega
      · exact h5 m
    · by_cases e : m = b
      · subst e; simp
      · simp only [e, if_false] at hm
        exact List.mem_append_left _ (h6 m hm)
    · show 0 ≤ if s = b then 0 else L s
      split
      · omega
      · rw [htk, List.mem_append, List.mem_singleton] at hs
        rcases hs with hs | hs
        · exact h7 s hs hsc
        · omega
  · rw [if_neg hc, if_neg hc]
    refine ⟨⟨h1, h2, h3, h4⟩, h5, h6, fun s hs hsc => ?_⟩
    rw [htk, List.mem_append, List.mem_singleton] at hs
    rcases hs with hs | hs
    · exact h7 s hs hsc
    · obtain rfl : s = b := by omega
      rcases h1 s with h | h
      · exact absurd ⟨by omega, hsc⟩ hc
      · exact h
theorem Sta.done {R : Nat → List Int} {S : List Int} {c : Int} {n j : Nat} {L : Nat → Int} {q : List Int} (h : Sta R S c n j L q) (hj : ¬ j < S.length) : Bfs R S c n L q := by
  obtain ⟨⟨h1, h2, h3, h4⟩, h5, h6, h7⟩ := h
  rw [List.take_of_length_le (by omega)] at h7
  refine ⟨⟨h1, h2, h3, h4⟩, fun s hs hc => ⟨h7 s hs hc, h5 s⟩, fun m hm hq => absurd (h6 m hm) hq, ?_, fun x t hx m => ?_⟩
  · refine List.pairwise_of_forall_mem_list fun x hx y hy => ?_
    obtain ⟨m, rfl, _, h9⟩ := h3 y hy
    have := h5 x.toNat
    rw [Int.toNat_natCast]
    omega
  · obtain ⟨k, rfl, _, h9⟩ := h3 x (by rw [hx]; simp)
    have := h5 m
    rw [Int.toNat_natCast]
    omega
theorem Bfs.pop {R : Nat → List Int} {S : List Int} {c : Int} {n a : Nat} {L : Nat → Int} {t : List Int} (h : Bfs R S c n L ((a : Int) :: t)) : Inn R S c n a 0 L t := by
  obtain ⟨⟨h1, h2, h3, h4⟩, h5, h6, h7, h8⟩ := h
  have htop := h8 _ _ rfl
  rw [Int.toNat_natCast] at htop
  rw [List.pairwise_cons] at h7
  obtain ⟨k, hk, _, hla⟩ := h3 (a : Int) (by simp)
  obtain rfl : a = k := by omega
  refine ⟨⟨h1, h2, fun x hx => h3 x (List.mem_cons_of_mem _ hx), by rw [List.length_cons] at h4; omega⟩, h5, fun m hm hq hma => h6 m hm (fun hx => ?_), fun b hb => by simp at hb, h7.2, fun x hx => by have := h7.1 x hx; rwa [Int.toNat_natCast] at this, htop, hla⟩
  rcases List.mem_cons.1 hx with e | e
  · omega
  · exact hq e
theorem Inn.step {R : Nat → List Int} {S : List Int} {c : Int} {n a j b : Nat} {L : Nat → Int} {q : List Int} (h : Inn R S c n a j L q) (hj : j < (R a).length) (hb : (R a)[j] = (b : Int)) (hbn : b < n) : Inn R S c n a (j + 1) (visL c L b (L a + 1)) (visQ c L q b) ∧ visL c L b (L a + 1) a = L a := by
  obtain ⟨⟨h1, h2, h3, h4⟩, h5, h6, h7, h8, h9, h10, h11⟩ := h
  have htk : (R a).take (j + 1) = (R a).take j ++ [(b : Int)] := by rw [List.take_succ_eq_append_getElem hj, hb]
  unfold visL visQ
  by_cases hc : L b < 0 ∧ (b : Int) ≠ c
  · rw [if_pos hc, if_pos hc]
    have hab : a ≠ b := fun e => by rw [e] at h11; omega
    have hn := ng_set L b (L a + 1) (by omega) hc.1 n hbn
    have ne : ∀ m, 0 ≤ L m → m ≠ b := fun m hm e => by rw [e] at hm; omega
    have keep : ∀ m, 0 ≤ L m → (if m = b then L a + 1 else L m) = L m := fun m hm => if_neg (ne m hm)
    refine ⟨⟨⟨fun m => ?_, fun m hm => ?_, fun x hx => ?_, by rw [List.length_append, List.length_singleton]; omega⟩, fun s hs hsc => ?_, fun m hm hq hma b' hb' hbc => ?_, fun b' hb' hbc => ?_, ?_, fun x hx => ?_, fun m => ?_, ?_⟩, if_neg hab⟩
    · by_cases e : m = b
      · right; simp only [e, if_true]; omega
      · simp only [e, if_false]; exact h1 m
    · by_cases e : m = b
      · subst e
        simp only [if_true]
        rw [show (L a + 1).toNat = (L a).toNat + 1 by omega]
        exact .step _ a m (h2 a h11) (by rw [← hb]; exact List.getElem_mem hj) hc.2
      · simp only [e, if_false] at hm ⊢
        exact h2 m hm
    · rcases List.mem_append.1 hx with hx | hx
      · obtain ⟨m, rfl, h12, h13⟩ := h3 x hx
        exact ⟨m, rfl, h12, by show 0 ≤ if m = b then L a + 1 else L m; rw [keep m h13]; exact h13⟩
      · rw [List.mem_singleton] at hx
        exact ⟨b, hx, hbn, by simp only [if_true]; omega⟩
    · have := h5 s hs hsc
      show 0 ≤ (if s = b then L a + 1 else L s) ∧ (if s = b then L a + 1 else L s) ≤ 0
      rw [keep s this.1]; exact this
    · have hmb : m ≠ b := fun e => hq (List.mem_append_right _ (by rw [e]; simp))
      simp only [hmb, if_false] at hm ⊢
      have := h6 m hm (fun hx => hq (List.mem_append_left _ hx)) hma b' hb' hbc
      show 0 ≤ (if b' = b then L a + 1 else L b') ∧ (if b' = b then L a + 1 else L b') ≤ L m + 1
      rw [keep b' this.1]; exact this
    · show 0 ≤ (if b' = b then L a + 1 else L b') ∧ (if b' = b then L a + 1 else L b') ≤ (if a = b then L a + 1 else L a) + 1
      rw [if_neg hab]
      by_cases e : b' = b
      · rw [if_pos e]; omega
      · rw [if_neg e]
        rw [htk, List.mem_append, List.mem_singleton] at hb'
        rcases hb' with hx | hx
        · exact h7 b' hx hbc
        · omega
    · rw [List.pairwise_append]
      refine ⟨List.Pairwise.imp_of_mem (fun {x y} hx hy hxy => ?_) h8, by simp, fun x hx y hy => ?_⟩
      · obtain ⟨m, rfl, _, h13⟩ := h3 x hx
        obtain ⟨m', rfl, _, h14⟩ := h3 y hy
        simp only [Int.toNat_natCast] at hxy ⊢
        rw [keep m h13, keep m' h14]; exact hxy
      · rw [List.mem_singleton] at hy
        subst hy
        obtain ⟨m, rfl, _, h13⟩ := h3 x hx
        simp only [Int.toNat_natCast, if_true]
        rw [keep m h13]; exact h10 m
    · show (if a = b then L a + 1 else L a) ≤ if x.toNat = b then L a + 1 else L x.toNat
      rw [if_neg hab]
      rcases List.mem_append.1 hx with hx | hx
      · obtain ⟨m, rfl, _, h13⟩ := h3 x hx
        have := h9 _ hx
        rw [Int.toNat_natCast] at this ⊢
        rw [keep m h13]; exact this
      · rw [List.mem_singleton] at hx
        subst hx
        simp only [Int.toNat_natCast, if_true]; omega
    · show (if m = b then L a + 1 else L m) ≤ (if a = b then L a + 1 else L a) + 1
      rw [if_neg hab]
      split
      · omega
      · exact h10 m
    · show 0 ≤ if a = b then L a + 1 else L a
      rw [if_neg hab]; exact h11
  · rw [if_neg hc, if_neg hc]
    refine ⟨⟨⟨h1, h2, h3, h4⟩, h5, h6, fun b' hb' hbc => ?_, h8, h9, h10, h11⟩, rfl⟩
    rw [htk, List.mem_append, List.mem_singleton] at hb'
    rcases hb' with hx | hx
    · exact h7 b' hx hbc
    · obtain rfl : b' = b := by omega
      refine ⟨?_, h10 b'⟩
      rcases h1 b' with h | h
      · exact absurd ⟨by omega, hbc⟩ hc
      · exact h
theorem Inn.full {R : Nat → List Int} {S : List Int} {c : Int} {n a j : Nat} {L : Nat → Int} {q : List Int} (h : Inn R S c n a j L q) (hj : ¬ j < (R a).length) : Bfs R S c n L q := by
  obtain ⟨hb, h5, h6, h7, h8, h9, h10, h11⟩ := h
  rw [List.take_of_length_le (by omega)] at h7
  refine ⟨hb, h5, fun m hm hq b hbm hbc => ?_, h8, fun x t hx m => ?_⟩
  · by_cases e : m = a
    · subst e; exact h7 b hbm hbc
    · exact h6 m hm hq e b hbm hbc
  · have := h9 x (by rw [hx]; simp)
    have := h10 m
    omega
/-- The labels are the lengths of the shortest walks. -/
structure Lab (R : Nat → List Int) (S : List Int) (c : Int) (L : Nat → Int) : Prop where
  neg : ∀ m, L m = -1 ∨ 0 ≤ L m
  snd : ∀ m, 0 ≤ L m → Wk R S c (L m).toNat m
  all : ∀ k m, Wk R S c k m → 0 ≤ L m ∧ L m ≤ (k : Int)
theorem Bfs.lab {R : Nat → List Int} {S : List Int} {c : Int} {n : Nat} {L : Nat → Int} (h : Bfs R S c n L []) : Lab R S c L := by
  refine ⟨h.bas.neg, h.bas.snd, fun k m hw => ?_⟩
  induction hw with
  | start s hs hc => have := h.strt s hs hc; exact ⟨this.1, by omega⟩
  | step k a b _ hb hc ih =>
    have := h.done a ih.1 (by simp) b hb hc
    exact ⟨this.1, by omega⟩
end Gr
end Go.Proofs.Ytdiaejdoglccoaa
