/- Plain: chains and what is reached.
Plain: gates and the graph without a node.
slices.IsSorted at numbers that ascend. No condition but the length. -/
import Derived.Test.YtjemffgidhgfjaaGreatDoorFew
import Derived.BigQuiet
section
namespace Go.Proofs.YtjemffgidhgfjaaGreatDoor

namespace Gr
/-- A walk backward from a node is one of edges to it. -/
theorem wk_tc {E : List Ed} {f t : Nat} : (∃ k, Wk (row false E) [(t : Int)] (-1) k f) ↔ f = t ∨ Tc E f t := by
  constructor
  · rintro ⟨k, hk⟩
    induction hk with
    | start s hs hc => left; rw [List.mem_singleton] at hs; omega
    | step k a b _ hm hc ih =>
      obtain ⟨y, hy, h1, h2⟩ := row_mem hm
      have e1 : y.dst = (a : Int) := h1
      have e2 : y.src = (b : Int) := h2.symm
      right
      rcases ih with rfl | h
      · exact .one y _ _ hy e2 e1
      · exact .cons y _ _ _ hy e2 e1 h
  · rintro (rfl | h)
    · exact ⟨0, .start f (by simp) (by omega)⟩
    · induction h with
      | one x a b hx ha hb => exact ⟨1, .step 0 b a (.start b (by simp) (by omega)) (by rw [← ha]; exact mem_row (fw := false) hx hb) (by omega)⟩
      | cons x a b c hx ha hb _ ih =>
        obtain ⟨k, hk⟩ := ih
        exact ⟨k + 1, .step k b a hk (by rw [← ha]; exact mem_row (fw := false) hx hb) (by omega)⟩
theorem chn_led {g : Gph} {f t : Int} {l : List Int} {ok : Bool} (h : Chn g f t l ok) : ok = true ↔ Led g f t := by
  cases ok with
  | true => exact ⟨fun _ => chn_ok h, fun _ => rfl⟩
  | false => exact ⟨fun h2 => (by cases h2), fun h2 => absurd h2 (chn_no h)⟩
/-- There is a chain exactly if the node is the same, or reached. -/
theorem chn_reach {g : Gph} {f t : Nat} {l l2 : List Int} {ok : Bool} (h : Chn g (f : Int) (t : Int) l ok) (hc : chk g = 0) (hf : isN g (f : Int) = true) (ht : isN g (t : Int) = true) (hr : Rch true g (f : Int) l2) : ok = true ↔ f = t ∨ (t : Int) ∈ l2 := by
  rw [chn_led h]
  unfold Rch at hr
  rw [if_pos ⟨hc, hf⟩, Int.toNat_natCast] at hr
  obtain ⟨p, rfl, hp⟩ := hr
  have h1 : Led g (f : Int) (t : Int) ↔ f = t ∨ Tc g.es f t := by
    rw [← wk_tc]
    exact ⟨fun h => by have := h.2.2.2; rwa [Int.toNat_natCast] at this, fun h => ⟨hc, hf, ht, by rwa [Int.toNat_natCast]⟩⟩
  rw [h1, mem_chs]
  constructor
  · rintro (e | h)
    · exact .inl e
    · exact .inr ⟨t, rfl, by have := isN_lt ht; omega, (hp t).2 (tc_wk.2 h)⟩
  · rintro (e | ⟨m, e, _, hm⟩)
    · exact .inl e
    · obtain rfl : t = m := by omega
      exact .inr (tc_wk.1 ((hp t).1 hm))
theorem chn_nil {g : Gph} {f t : Int} {l : List Int} (h : Chn g f t l false) : l = [] := by
  unfold Chn at h
  split at h
  · obtain ⟨L, hL, h⟩ := h
    split at h
    · cases h.1
    · exact h.2
  · exact h.2
theorem chn_self {g : Gph} {f : Nat} {l : List Int} {ok : Bool} (h : Chn g (f : Int) (f : Int) l ok) (hc : chk g = 0) (hf : isN g (f : Int) = true) : ok = true :=
  (chn_led h).2 ⟨hc, hf, hf, 0, by rw [Int.toNat_natCast]; exact .start f (by simp) (by omega)⟩
/-- The labels behind a chain that was found. -/
theorem chn_lab {g : Gph} {f t : Nat} {l : List Int} (h : Chn g (f : Int) (t : Int) l true) : ∃ L, Lab (row false g.es) [(t : Int)] (-1) L ∧ 0 ≤ L f ∧ l = chain L g.es (L f).toNat f := by
  unfold Chn at h
  split at h
  · obtain ⟨L, hL, h⟩ := h
    rw [Int.toNat_natCast] at h
    split at h
    · rename_i h0; exact ⟨L, hL, h0, h.2⟩
    · cases h.1
  · cases h.1
/-- The chain's next edge. -/
theorem chain_next {g : Gph} {L : Nat → Int} {t m : Nat} (hL : Lab (row false g.es) [(t : Int)] (-1) L) (h0 : 0 ≤ L m) (hm : m ≠ t) :
    ∃ i, ∃ h : i < g.es.length, g.es[i].src = (m : Int) ∧ chain L g.es (L m).toNat m = (i : Int) :: chain L g.es (L g.es[i].dst.toNat).toNat g.es[i].dst.toNat ∧ 0 ≤ L g.es[i].dst.toNat := by
  obtain ⟨hex, hpos⟩ := nx_ex hL h0 hm
  rw [List.any_eq_true] at hex
  have hlt : g.es.findIdx (nx L m) < g.es.length := List.findIdx_lt_length_of_exists hex
  have hp : nx L m g.es[g.es.findIdx (nx L m)] = true := List.findIdx_getElem
  have hb : (g.es.take (g.es.findIdx (nx L m))).any (fun x => nx L m x) = false := by
    rw [List.any_eq_false]
    intro x hx
    obtain ⟨j, hj, rfl⟩ := List.mem_take_iff_getElem.1 hx
    have := List.not_of_lt_findIdx (p := nx L m) (show j < g.es.findIdx (nx L m) by omega)
    simpa using this
  have hl := nx_lab hp
  exact ⟨_, hlt, hl.1, chain_step hlt hp hb hpos, by rw [hl.2]; omega⟩
theorem lab_zero {R : Nat → List Int} {L : Nat → Int} {t m : Nat} (hL : Lab R [(t : Int)] (-1) L) (h : L m = 0) : m = t := by
  have hw := hL.snd m (by omega)
  rw [h] at hw
  generalize hk : (0 : Int).toNat = k at hw
  cases hw with
  | start _ hs hc => rw [List.mem_singleton] at hs; omega
  | step k a _ => simp at hk
/-- No edge leads closer than one step. -/
theorem chn_edge {g : Gph} {f : Nat} {x : Ed} {s t : Nat} {a b : List Int} {q : Bool} (hx : x ∈ g.es) (hs : x.src = (s : Int)) (ht : x.dst = (t : Int)) (ha : Chn g (f : Int) (s : Int) a true) (hb : Chn g (f : Int) (t : Int) b q) (hc : chk g = 0) (hf : isN g (f : Int) = true) (hT : isN g (t : Int) = true) : q = true ∧ b.length ≤ a.length + 1 := by
  obtain ⟨L, hL, h0, rfl⟩ := chn_lab ha
  have hw := hL.snd f h0
  have ext : ∀ {k m : Nat}, Wk (row false g.es) [(s : Int)] (-1) k m → Wk (row false g.es) [(t : Int)] (-1) (k + 1) m := by
    intro k m h
    induction h with
    | start m hm hc =>
      obtain rfl : m = s := by rw [List.mem_singleton] at hm; omega
      exact .step 0 t m (.start t (by simp) (by omega)) (by rw [← hs]; exact mem_row (fw := false) hx ht) hc
    | step k c d _ hm hc ih => exact .step _ _ _ ih hm hc
  have hw2 := ext hw
  have hq : q = true := (chn_led hb).2 ⟨hc, hf, hT, _, by rw [Int.toNat_natCast]; exact hw2⟩
  subst hq
  obtain ⟨L', hL', h0', rfl⟩ := chn_lab hb
  have := hL'.all _ _ hw2
  rw [chain_len, chain_len]
  exact ⟨rfl, by omega⟩
/-- Labels are less than the number of nodes. -/
theorem lab_lt {R : Nat → List Int} {S : List Int} {c : Int} {L : Nat → Int} {n : Nat} (hL : Lab R S c L) (hS : ∀ s : Nat, (s : Int) ∈ S → s < n) (hR : ∀ a b : Nat, (b : Int) ∈ R a → b < n) (m : Nat) (h0 : 0 ≤ L m) : L m < (n : Int) := by
  have hend : ∀ k m, Wk R S c k m → m < n := fun k m hw => by
    cases hw with
    | start s hs _ => exact hS _ hs
    | step k a b _ hm _ => exact hR _ _ hm
  have hall : ∀ (k m : Nat), L m = (k : Int) → ∀ j, j ≤ k → ∃ m', m' < n ∧ L m' = (j : Int) := by
    intro k
    induction k with
    | zero =>
      intro m hm j hj
      exact ⟨m, hend _ _ (hL.snd m (by omega)), by rw [hm]; omega⟩
    | succ k ih =>
      intro m hm j hj
      have hw := hL.snd m (by omega)
      by_cases e : j = k + 1
      · exact ⟨m, hend _ _ hw, by rw [hm, e]⟩
      · rw [hm, show ((k + 1 : Nat) : Int).toNat = k + 1 by omega] at hw
        cases hw with
        | step _ a _ hwa hmem hc =>
          have h1 := hL.all k a hwa
          have h2 := hL.all _ m (.step _ a m (hL.snd a h1.1) hmem hc)
          exact ih a (by omega) j (by omega)
  refine Int.not_le.1 fun hle => ?_
  have hk : L m = ((L m).toNat : Int) := by omega
  obtain ⟨i, j, hij, hj, e⟩ := pig n (fun i => if h : i ≤ (L m).toNat then (hall _ m hk i h).choose else 0) (fun i hi => by
    show (if h : i ≤ (L m).toNat then (hall _ m hk i h).choose else 0) < n
    rw [dif_pos (by omega)]
    exact (hall _ m hk i (by omega)).choose_spec.1)
  rw [dif_pos (by omega), dif_pos (by omega)] at e
  have e1 := (hall _ m hk i (by omega)).choose_spec.2
  have e2 := (hall _ m hk j (by omega)).choose_spec.2
  rw [e] at e1
  omega
theorem chn_short {g : Gph} {f t : Int} {l : List Int} {ok : Bool} (h : Chn g f t l ok) : l.length ≤ 1024 := by
  unfold Chn at h
  split at h
  · rename_i hc
    obtain ⟨L, hL, h⟩ := h
    have hOk := chk_ok hc.1
    split at h
    · rename_i h0
      have ht := isN_lt hc.2.2
      have := lab_lt hL (n := g.ns.length) (fun s hs => by rw [List.mem_singleton] at hs; omega) (fun a b hb => by
        obtain ⟨b', e, hb'⟩ := (hOk.rows false a (by
          obtain ⟨y, hy, h1, _⟩ := row_mem hb
          have := hOk.ed false y hy
          omega)).2 _ hb
        omega) f.toNat h0
      have := hOk.nl
      rw [h.2, chain_len]
      omega
    · rw [h.2]; simp
  · rw [h.2]; simp
end Gr
end Go.Proofs.YtjemffgidhgfjaaGreatDoor
end
section
namespace Go.Proofs.YtjemffgidhgfjaaGreatDoor

namespace Gr
/-- An edge that does not touch a node. -/
def off (i : Nat) (x : Ed) : Bool := x.src != (i : Int) && x.dst != (i : Int)
/-- The graph without the edges at a node. -/
def less (g : Gph) (i : Nat) : Gph := ⟨g.ns, g.es.filter (off i)⟩
theorem off_iff {i : Nat} {x : Ed} : off i x = true ↔ x.src ≠ (i : Int) ∧ x.dst ≠ (i : Int) := by
  unfold off
  rw [Bool.and_eq_true, bne_iff_ne, bne_iff_ne]
theorem lt_iff (a b : Ed) : lt a b = true ↔ a.src < b.src ∨ (a.src = b.src ∧ (a.dst < b.dst ∨ (a.dst = b.dst ∧ a.stp < b.stp))) := by
  unfold lt cmp or3 Lib.compareInt
  rw [decide_eq_true_eq]
  repeat' split
  all_goals omega
theorem asc_filter {α : Type} (r : α → α → Bool) (p : α → Bool) (htr : ∀ a b c, r a b = true → r b c = true → r a c = true) (l : List α) (h : asc r l = true) : asc r (l.filter p) = true := by
  have key : ∀ l : List α, asc r l = true ↔ l.Pairwise fun a b => r a b = true := by
    intro l
    rw [asc_iff, List.pairwise_iff_getElem]
    constructor
    · intro h i j hi hj hij
      have : ∀ d i, (hd : i + d + 1 < l.length) → r l[i] l[i + d + 1] = true := by
        intro d
        induction d with
        | zero => intro i hd; exact h i hd
        | succ d ih =>
          intro i hd
          exact htr _ _ _ (ih i (by omega)) (h (i + d + 1) hd)
      have h2 := this (j - i - 1) i (by omega)
      have e : i + (j - i - 1) + 1 = j := by omega
      simp only [e] at h2
      exact h2
    · intro h i hi
      exact h i (i + 1) (by omega) hi (by omega)
  rw [key] at h ⊢
  exact h.filter p
theorem chk_zero {g : Gph} : chk g = 0 ↔ big g = false ∧ g.ns.any (fun s => decide (128 < s.length)) = false ∧ asc Op.bytesLess g.ns = true ∧ g.es.any (fun x => out g x) = false ∧ asc lt g.es = true := by
  unfold chk
  cases big g <;> cases g.ns.any (fun s => decide (128 < s.length)) <;> cases asc Op.bytesLess g.ns <;> cases g.es.any (fun x => out g x) <;> cases asc lt g.es <;> simp
theorem less_chk {g : Gph} (h : chk g = 0) (i : Nat) : chk (less g i) = 0 := by
  rw [chk_zero] at h ⊢
  obtain ⟨h1, h2, h3, h4, h5⟩ := h
  refine ⟨?_, h2, h3, ?_, ?_⟩
  · have h2 : decide (1024 < g.ns.length) = false ∧ decide (1024 < g.es.length) = false := by
      unfold big at h1
      rwa [Bool.or_eq_false_iff] at h1
    rw [decide_eq_false_iff_not, decide_eq_false_iff_not] at h2
    have h3 := List.length_filter_le (off i) g.es
    show (decide (1024 < g.ns.length) || decide (1024 < (g.es.filter (off i)).length)) = false
    rw [decide_eq_false h2.1, decide_eq_false (show ¬ 1024 < (g.es.filter (off i)).length by omega)]
    rfl
  · rw [List.any_eq_false] at h4 ⊢
    intro x hx
    exact h4 x (List.mem_filter.1 hx).1
  · refine asc_filter lt (off i) (fun a b c hab hbc => ?_) g.es h5
    rw [lt_iff] at hab hbc ⊢
    omega
/-- A node is on every chain exactly if there is none without it. -/
theorem less_led {g : Gph} {i f t : Nat} (hf : f ≠ i) : (∃ k, Wk (row true g.es) [(f : Int)] (i : Int) k t) ↔ f = t ∨ Tc (less g i).es f t := by
  have snoc : ∀ {E : List Ed} {a b c : Nat}, Tc E a b → ∀ x ∈ E, x.src = (b : Int) → x.dst = (c : Int) → Tc E a c := by
    intro E a b c h
    induction h with
    | one y a b hy ha hb => exact fun x hx h1 h2 => .cons y _ _ _ hy ha hb (.one x _ _ hx h1 h2)
    | cons y a b d hy ha hb _ ih => exact fun x hx h1 h2 => .cons y _ _ _ hy ha hb (ih x hx h1 h2)
  constructor
  · rintro ⟨k, hk⟩
    induction hk with
    | start s hs hc => left; rw [List.mem_singleton] at hs; omega
    | step k a b hw hm hc ih =>
      obtain ⟨y, hy, h1, h2⟩ := row_mem hm
      have e1 : y.src = (a : Int) := h1
      have e2 : y.dst = (b : Int) := h2.symm
      have ha : a ≠ i := by
        cases hw with
        | start _ hs hc => omega
        | step _ _ _ _ _ hc => omega
      have hy2 : y ∈ (less g i).es := List.mem_filter.2 ⟨hy, off_iff.2 ⟨by omega, by omega⟩⟩
      right
      rcases ih with rfl | h
      · exact .one y _ _ hy2 e1 e2
      · exact snoc h y hy2 e1 e2
  · rintro (rfl | h)
    · exact ⟨0, .start f (by simp) (by omega)⟩
    · have key : ∀ {a b : Nat}, Tc (less g i).es a b → (∃ k, Wk (row true g.es) [(f : Int)] (i : Int) k a) → ∃ k, Wk (row true g.es) [(f : Int)] (i : Int) k b := by
        intro a b h
        induction h with
        | one x a b hx ha hb =>
          rintro ⟨k, hk⟩
          obtain ⟨hx, ho⟩ := List.mem_filter.1 hx
          have ho := off_iff.1 ho
          exact ⟨k + 1, .step k a b hk (by rw [← hb]; exact mem_row (fw := true) hx ha) (by omega)⟩
        | cons x a b c hx ha hb _ ih =>
          rintro ⟨k, hk⟩
          obtain ⟨hx, ho⟩ := List.mem_filter.1 hx
          have ho := off_iff.1 ho
          exact ih ⟨k + 1, .step k a b hk (by rw [← hb]; exact mem_row (fw := true) hx ha) (by omega)⟩
      exact key h ⟨0, .start f (by simp) (by omega)⟩
/-- What the law of gates asks at a node. -/
theorem gate_at {g : Gph} {f t i : Nat} {l l' : List Int} {ok : Bool} (hc : chk g = 0) (hf : isN g (f : Int) = true) (ht : isN g (t : Int) = true) (hi : i < g.ns.length) (hl : Led g (f : Int) (t : Int)) (hg : Gts g (f : Int) (t : Int) l) (h : Chn (less g i) (f : Int) (t : Int) l' ok) :
    decide ((i : Int) ∈ l) = ((decide (i = f)) || (decide (i = t)) || !ok) := by
  obtain ⟨p, hp, rfl⟩ := hg.1 hl
  have h1 : ((i : Int) ∈ chs p g.ns.length) ↔ p i = true := by
    rw [mem_chs]
    exact ⟨fun ⟨m, e, _, hm⟩ => by obtain rfl : i = m := by omega
                                   exact hm, fun h => ⟨i, rfl, hi, h⟩⟩
  have h2 := hp i
  rw [Int.toNat_natCast] at h2
  have h3 : ok = true ↔ f = t ∨ Tc (less g i).es f t := by
    rw [chn_led h, ← wk_tc]
    constructor
    · intro hh
      have := hh.2.2.2
      rwa [Int.toNat_natCast] at this
    · intro hh
      exact ⟨less_chk hc i, hf, ht, by rwa [Int.toNat_natCast]⟩
  rw [Bool.eq_iff_iff, decide_eq_true_eq, h1, h2, Bool.or_eq_true, Bool.or_eq_true, decide_eq_true_eq, decide_eq_true_eq, Bool.not_eq_true']
  by_cases e1 : i = f
  · subst e1
    refine ⟨fun _ => .inl (.inl rfl), fun _ => ?_⟩
    rintro ⟨k, hk⟩
    have : ∀ {k m : Nat}, Wk (row true g.es) [(i : Int)] (i : Int) k m → False := by
      intro k m hw
      induction hw with
      | start s hs hc => rw [List.mem_singleton] at hs; exact hc hs
      | step k a b _ _ _ ih => exact ih
    exact this hk
  · by_cases e2 : i = t
    · subst e2
      refine ⟨fun _ => .inl (.inr rfl), fun _ => ?_⟩
      rintro ⟨k, hk⟩
      cases hk with
      | start _ _ hc => exact hc rfl
      | step _ _ _ _ _ hc => exact hc rfl
    · rw [less_led (fun e => e1 e.symm), ← h3]
      constructor
      · intro h; right; cases ok with
        | true => exact absurd rfl h
        | false => rfl
      · rintro ((e | e) | e)
        · exact absurd e e1
        · exact absurd e e2
        · rw [e]; simp
theorem chs_sorted (p : Nat → Bool) : ∀ n, (chs p n).Pairwise (fun a b => a ≤ b)
  | 0 => List.Pairwise.nil
  | n + 1 => by
    rw [chs, List.pairwise_append]
    refine ⟨chs_sorted p n, ?_, fun a ha b hb => ?_⟩
    · split <;> simp
    · obtain ⟨m, e, hm, _⟩ := (mem_chs p n a).1 ha
      by_cases hp : p n = true
      · rw [if_pos hp, List.mem_singleton] at hb; omega
      · rw [if_neg hp] at hb; simp at hb
theorem gts_sorted {g : Gph} {f t : Int} {l : List Int} (h : Gts g f t l) : (∀ i (h : i + 1 < l.length), l[i] ≤ l[i + 1]) ∧ l.length ≤ g.ns.length := by
  by_cases hl : Led g f t
  · obtain ⟨p, _, rfl⟩ := h.1 hl
    exact ⟨fun i hi => (List.pairwise_iff_getElem.1 (chs_sorted p g.ns.length)) i (i + 1) (by omega) hi (by omega), chs_len p _⟩
  · rw [h.2 hl]
    exact ⟨fun i h => by simp at h, by simp⟩
end Gr
end Go.Proofs.YtjemffgidhgfjaaGreatDoor
end
section
namespace Go.Proofs.YtjemffgidhgfjaaGreatDoor
open Go.RowKit Go.Deep Tr

theorem below_drewN {B : Nat} {w w' : World} (h : Below B w w') (n : Nat) : Below B w (w'.drewN n) := ⟨h.os, h.tape, h.output, h.size, h.block⟩
end Go.Proofs.YtjemffgidhgfjaaGreatDoor
end
