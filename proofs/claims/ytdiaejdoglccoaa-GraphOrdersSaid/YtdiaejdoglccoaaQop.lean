/- Plain: the reference's depths are the same. -/
import Derived.Test.YtdiaejdoglccoaaGpl
import Derived.Test.YtdiaejdoglccoaaDpw
namespace Go.Proofs.Ytdiaejdoglccoaa

namespace Gr
/-- A node takes its depth from an edge. -/
def pul (n : Nat) (D : Nat → Int) (x : Ed) : Nat → Int := if x.dst = (n : Int) ∧ D n < D x.src.toNat + 1 then fun i => if i = n then D x.src.toNat + 1 else D i else D
def puls (n : Nat) (D : Nat → Int) (l : List Ed) : Nat → Int := l.foldl (pul n) D
def dpq (E : List Ed) (o : List Nat) : Nat → Int := o.foldl (fun D n => puls n D E) fun _ => 0
theorem puls_step (n : Nat) (D : Nat → Int) (l : List Ed) (j : Nat) (hj : j < l.length) : puls n D (l.take (j + 1)) = pul n (puls n D (l.take j)) l[j] := by
  unfold puls
  rw [List.take_succ_eq_append_getElem hj, List.foldl_append]; rfl
theorem dpq_step (E : List Ed) (o : List Nat) (k : Nat) (hk : k < o.length) : dpq E (o.take (k + 1)) = puls o[k] (dpq E (o.take k)) E := by
  unfold dpq
  rw [List.take_succ_eq_append_getElem hk, List.foldl_append]; rfl
theorem pul_bd {n : Nat} {D : Nat → Int} {T : Nat} (h : ∀ i, 0 ≤ D i ∧ D i ≤ (T : Int)) (x : Ed) : ∀ i, 0 ≤ pul n D x i ∧ pul n D x i ≤ ((T + 1 : Nat) : Int) := fun i => by
  unfold pul
  have h1 := h i
  have h2 := h x.src.toNat
  by_cases hc : x.dst = (n : Int) ∧ D n < D x.src.toNat + 1
  · rw [if_pos hc]
    show 0 ≤ (if i = n then D x.src.toNat + 1 else D i) ∧ (if i = n then D x.src.toNat + 1 else D i) ≤ _
    split <;> omega
  · rw [if_neg hc]; omega
theorem puls_bd {n : Nat} : ∀ (l : List Ed) {D : Nat → Int} {T : Nat}, (∀ i, 0 ≤ D i ∧ D i ≤ (T : Int)) → ∀ i, 0 ≤ puls n D l i ∧ puls n D l i ≤ ((T + l.length : Nat) : Int)
  | [], D, T, h => h
  | x :: t, D, T, h => fun i => by
    have := puls_bd (n := n) t (pul_bd (n := n) h x) i
    rw [List.length_cons, show T + (t.length + 1) = T + 1 + t.length by omega]
    exact this
theorem dpq_bd (E : List Ed) (o : List Nat) : ∀ k i, 0 ≤ dpq E (o.take k) i ∧ dpq E (o.take k) i ≤ ((k * E.length : Nat) : Int)
  | 0, i => by simp [dpq]
  | k + 1, i => by
    by_cases hk : k < o.length
    · rw [dpq_step E o k hk]
      have h1 := puls_bd (n := o[k]) E (fun i => dpq_bd E o k i) i
      rw [Nat.add_one_mul]
      exact h1
    · have h1 := dpq_bd E o k i
      rw [List.take_of_length_le (by omega)] at h1
      rw [List.take_of_length_le (by omega), Nat.add_one_mul]
      omega
/-- The depths of those in p are right, the others' are 0. -/
structure Dpr (E : List Ed) (p : List Nat) (D : Nat → Int) : Prop where
  pos : ∀ m, 0 ≤ D m
  zero : ∀ m, m ∉ p → D m = 0
  le : ∀ m, m ∈ p → ∀ x ∈ E, x.dst = (m : Int) → D x.src.toNat + 1 ≤ D m
  ex : ∀ m, m ∈ p → D m = 0 ∨ ∃ x ∈ E, x.dst = (m : Int) ∧ D m = D x.src.toNat + 1
theorem snoc_rec {α : Type} {p : List α → Prop} (h0 : p []) (h1 : ∀ l x, p l → p (l ++ [x])) (l : List α) : p l := by
  rw [← List.reverse_reverse l]
  induction l.reverse with
  | nil => exact h0
  | cons x t ih => rw [List.reverse_cons]; exact h1 _ _ ih
theorem puls_get (n : Nat) (D : Nat → Int) (h0 : D n = 0) (hp : ∀ i, 0 ≤ D i) : ∀ l : List Ed, (∀ x ∈ l, x.dst = (n : Int) → x.src.toNat ≠ n) → (∀ m, m ≠ n → puls n D l m = D m) ∧ 0 ≤ puls n D l n ∧ (∀ x ∈ l, x.dst = (n : Int) → D x.src.toNat + 1 ≤ puls n D l n) ∧ (puls n D l n = 0 ∨ ∃ x ∈ l, x.dst = (n : Int) ∧ puls n D l n = D x.src.toNat + 1) := by
  refine snoc_rec ?_ ?_
  · intro _; exact ⟨fun m _ => rfl, (by show 0 ≤ D n; omega), fun x hx => (by simp at hx), .inl h0⟩
  · intro l x ih hs
    obtain ⟨h1, h2, h3, h4⟩ := ih fun y hy => hs y (List.mem_append_left _ hy)
    have e : puls n D (l ++ [x]) = pul n (puls n D l) x := by unfold puls; rw [List.foldl_append]; rfl
    rw [e]
    unfold pul
    by_cases hc : x.dst = (n : Int) ∧ puls n D l n < puls n D l x.src.toNat + 1
    · rw [if_pos hc]
      have hxn := hs x (by simp) hc.1
      have hv := h1 _ hxn
      rw [hv] at hc ⊢
      have hpx := hp x.src.toNat
      refine ⟨fun m hm => ?_, ?_, fun y hy hd => ?_, ?_⟩
      · show (if m = n then _ else _) = _
        rw [if_neg hm]; exact h1 m hm
      · show 0 ≤ if n = n then _ else _
        rw [if_pos rfl]; omega
      · show _ ≤ if n = n then _ else _
        rw [if_pos rfl]
        rcases List.mem_append.1 hy with hy | hy
        · have := h3 y hy hd; omega
        · rw [List.mem_singleton] at hy; subst hy; omega
      · right
        refine ⟨x, by simp, hc.1, ?_⟩
        show (if n = n then _ else _) = _
        rw [if_pos rfl]
    · rw [if_neg hc]
      refine ⟨h1, h2, fun y hy hd => ?_, ?_⟩
      · rcases List.mem_append.1 hy with hy | hy
        · exact h3 y hy hd
        · rw [List.mem_singleton] at hy
          subst hy
          have hv := h1 _ (hs y (by simp) hd)
          rw [hv] at hc
          have : ¬ puls n D l n < D y.src.toNat + 1 := fun h => hc ⟨hd, h⟩
          omega
      · rcases h4 with h | ⟨y, hy, hd, h⟩
        · exact .inl h
        · exact .inr ⟨y, List.mem_append_left _ hy, hd, h⟩
theorem Dpr.add {E : List Ed} {p : List Nat} {n : Nat} {D : Nat → Int} (h : Dpr E p D) (hn : n ∉ p) (hback : ∀ x ∈ E, x.dst.toNat ∈ p ++ [n] → x.src.toNat ∈ p) : Dpr E (p ++ [n]) (puls n D E) := by
  have hsn : ∀ x ∈ E, ∀ m : Nat, x.dst = (m : Int) → m ∈ p ++ [n] → x.src.toNat ≠ n := fun x hx m hd hm e => by
    have := hback x hx (by rw [hd, Int.toNat_natCast]; exact hm)
    rw [e] at this
    exact hn this
  obtain ⟨h1, h2, h3, h4⟩ := puls_get n D (h.zero n hn) h.pos E fun x hx hd => hsn x hx n hd (by simp)
  refine ⟨fun m => ?_, fun m hm => ?_, fun m hm x hx hd => ?_, fun m hm => ?_⟩
  · by_cases e : m = n
    · rw [e]; exact h2
    · rw [h1 m e]; exact h.pos m
  · rw [List.mem_append, List.mem_singleton, not_or] at hm
    rw [h1 m hm.2]; exact h.zero m hm.1
  · rw [h1 _ (hsn x hx m hd hm)]
    rcases List.mem_append.1 hm with hm' | hm'
    · rw [h1 m (fun e => hn (e ▸ hm'))]
      exact h.le m hm' x hx hd
    · rw [List.mem_singleton] at hm'
      subst hm'
      exact h3 x hx hd
  · rcases List.mem_append.1 hm with hm' | hm'
    · rw [h1 m (fun e => hn (e ▸ hm'))]
      rcases h.ex m hm' with e | ⟨x, hx, hd, e⟩
      · exact .inl e
      · exact .inr ⟨x, hx, hd, by rw [h1 _ (hsn x hx m hd hm)]; exact e⟩
    · rw [List.mem_singleton] at hm'
      subst hm'
      rcases h4 with e | ⟨x, hx, hd, e⟩
      · exact .inl e
      · exact .inr ⟨x, hx, hd, by rw [h1 _ (hsn x hx m hd (by simp))]; exact e⟩
theorem dpq_part {E : List Ed} {N : Nat} {o : List Nat} (h : Topo E N o) (hE : ∀ x ∈ E, (0 ≤ x.src ∧ x.src < (N : Int)) ∧ 0 ≤ x.dst ∧ x.dst < (N : Int)) : ∀ k, k ≤ o.length → Dpr E (o.take k) (dpq E (o.take k))
  | 0, _ => ⟨fun m => by simp [dpq], fun m _ => by simp [dpq], fun m h => by simp at h, fun m h => by simp at h⟩
  | k + 1, hk => by
    rw [dpq_step E o k hk, List.take_succ_eq_append_getElem hk]
    exact (dpq_part h hE k (by omega)).add (h.notin k hk) (h.back hE k hk)
theorem dpq_eq {E : List Ed} {N : Nat} {o : List Nat} (h : Topo E N o) (hE : ∀ x ∈ E, (0 ≤ x.src ∧ x.src < (N : Int)) ∧ 0 ≤ x.dst ∧ x.dst < (N : Int)) : (List.range N).map (dpq E o) = (List.range N).map (dps E o) := by
  have hp := dpq_part h hE o.length (Nat.le_refl _)
  rw [List.take_length] at hp
  have hD : Dok E N (dpq E o) := ⟨hp.pos, fun m hm x hx hd => hp.le m (h.all m hm) x hx hd, fun m hm => hp.ex m (h.all m hm)⟩
  refine List.map_congr_left fun m hm => ?_
  exact Dok.uniq h hD (dps_ok h hE) m (List.mem_range.1 hm)
theorem rdy_taken {E : List Ed} {o : List Nat} {m : Nat} (h : o.contains m = true) : rdy E o m = false := by unfold rdy; rw [h]; rfl
theorem rdy_open {E : List Ed} {o : List Nat} {m : Nat} (h : o.contains m = false) : rdy E o m = E.all fun x => !(x.dst == (m : Int)) || o.contains x.src.toNat := by unfold rdy; rw [h]; rfl
theorem all_take {α : Type} (p : α → Bool) (l : List α) (k : Nat) (hk : k < l.length) (h : (l.take k).all p = true) (h2 : p l[k] = true) : (l.take (k + 1)).all p = true := by
  rw [List.take_succ_eq_append_getElem hk, List.all_append, h]; simp [h2]
theorem all_miss {α : Type} (p : α → Bool) (l : List α) (k : Nat) (hk : k < l.length) (h : p l[k] = false) : l.all p = false := by
  cases hc : l.all p with
  | false => rfl
  | true => rw [List.all_eq_true.1 hc _ (List.getElem_mem hk)] at h; cases h
end Gr
end Go.Proofs.Ytdiaejdoglccoaa
