/- Plain: chains and what is reached. -/
import Derived.Test.YtdiaejdoglccoaaFew
namespace Go.Proofs.Ytdiaejdoglccoaa

namespace Gr
/-- A walk backward from a node is one of edges to it. -/
theorem wk_tc {E : List Ed} {f t : Nat} : (∃ k, Wk (row false E) [(t : Int)] (-1) k f) ↔ f = t ∨ Tc E f t := by
  constructor
  · rintro ⟨k, hk⟩
    induction hk with
    | start s hs hc => left; rw [List.mem_singleton] at hs; omega
    | step k a b _ hm hc ih =>
      obtain ⟨y, hy, h1, h2⟩ := row_mem hm
      have e1 : y.dst = (a : Int) := h1
      have e2 : y.src = (b : Int) := h2.symm
      right
      rcases ih with rfl | h
      · exact .one y _ _ hy e2 e1
      · exact .cons y _ _ _ hy e2 e1 h
  · rintro (rfl | h)
    · exact ⟨0, .start f (by simp) (by omega)⟩
    · induction h with
      | one x a b hx ha hb => exact ⟨1, .step 0 b a (.start b (by simp) (by omega)) (by rw [← ha]; exact mem_row (fw := false) hx hb) (by omega)⟩
      | cons x a b c hx ha hb _ ih =>
        obtain ⟨k, hk⟩ := ih
        exact ⟨k + 1, .step k b a hk (by rw [← ha]; exact mem_row (fw := false) hx hb) (by omega)⟩
theorem chn_led {g : Gph} {f t : Int} {l : List Int} {ok : Bool} (h : Chn g f t l ok) : ok = true ↔ Led g f t := by
  cases ok with
  | true => exact ⟨fun _ => chn_ok h, fun _ => rfl⟩
  | false => exact ⟨fun h2 => (by cases h2), fun h2 => absurd h2 (chn_no h)⟩
/-- There is a chain exactly if the node is the same, or reached. -/
theorem chn_reach {g : Gph} {f t : Nat} {l l2 : List Int} {ok : Bool} (h : Chn g (f : Int) (t : Int) l ok) (hc : chk g = 0) (hf : isN g (f : Int) = true) (ht : isN g (t : Int) = true) (hr : Rch true g (f : Int) l2) : ok = true ↔ f = t ∨ (t : Int) ∈ l2 := by
  rw [chn_led h]
  unfold Rch at hr
  rw [if_pos ⟨hc, hf⟩, Int.toNat_natCast] at hr
  obtain ⟨p, rfl, hp⟩ := hr
  have h1 : Led g (f : Int) (t : Int) ↔ f = t ∨ Tc g.es f t := by
    rw [← wk_tc]
    exact ⟨fun h => by have := h.2.2.2; rwa [Int.toNat_natCast] at this, fun h => ⟨hc, hf, ht, by rwa [Int.toNat_natCast]⟩⟩
  rw [h1, mem_chs]
  constructor
  · rintro (e | h)
    · exact .inl e
    · exact .inr ⟨t, rfl, by have := isN_lt ht; omega, (hp t).2 (tc_wk.2 h)⟩
  · rintro (e | ⟨m, e, _, hm⟩)
    · exact .inl e
    · obtain rfl : t = m := by omega
      exact .inr (tc_wk.1 ((hp t).1 hm))
theorem chn_nil {g : Gph} {f t : Int} {l : List Int} (h : Chn g f t l false) : l = [] := by
  unfold Chn at h
  split at h
  · obtain ⟨L, hL, h⟩ := h
    split at h
    · cases h.1
    · exact h.2
  · exact h.2
theorem chn_self {g : Gph} {f : Nat} {l : List Int} {ok : Bool} (h : Chn g (f : Int) (f : Int) l ok) (hc : chk g = 0) (hf : isN g (f : Int) = true) : ok = true :=
  (chn_led h).2 ⟨hc, hf, hf, 0, by rw [Int.toNat_natCast]; exact .start f (by simp) (by omega)⟩
/-- The labels behind a chain that was found. -/
theorem chn_lab {g : Gph} {f t : Nat} {l : List Int} (h : Chn g (f : Int) (t : Int) l true) : ∃ L, Lab (row false g.es) [(t : Int)] (-1) L ∧ 0 ≤ L f ∧ l = chain L g.es (L f).toNat f := by
  unfold Chn at h
  split at h
  · obtain ⟨L, hL, h⟩ := h
    rw [Int.toNat_natCast] at h
    split at h
    · rename_i h0; exact ⟨L, hL, h0, h.2⟩
    · cases h.1
  · cases h.1
/-- The chain's next edge. -/
theorem chain_next {g : Gph} {L : Nat → Int} {t m : Nat} (hL : Lab (row false g.es) [(t : Int)] (-1) L) (h0 : 0 ≤ L m) (hm : m ≠ t) :
    ∃ i, ∃ h : i < g.es.length, g.es[i].src = (m : Int) ∧ chain L g.es (L m).toNat m = (i : Int) :: chain L g.es (L g.es[i].dst.toNat).toNat g.es[i].dst.toNat ∧ 0 ≤ L g.es[i].dst.toNat := by
  obtain ⟨hex, hpos⟩ := nx_ex hL h0 hm
  rw [List.any_eq_true] at hex
  have hlt : g.es.findIdx (nx L m) < g.es.length := List.findIdx_lt_length_of_exists hex
  have hp : nx L m g.es[g.es.findIdx (nx L m)] = true := List.findIdx_getElem
  have hb : (g.es.take (g.es.findIdx (nx L m))).any (fun x => nx L m x) = false := by
    rw [List.any_eq_false]
    intro x hx
    obtain ⟨j, hj, rfl⟩ := List.mem_take_iff_getElem.1 hx
    have := List.not_of_lt_findIdx (p := nx L m) (show j < g.es.findIdx (nx L m) by omega)
    simpa using this
  have hl := nx_lab hp
  exact ⟨_, hlt, hl.1, chain_step hlt hp hb hpos, by rw [hl.2]; omega⟩
theorem lab_zero {R : Nat → List Int} {L : Nat → Int} {t m : Nat} (hL : Lab R [(t : Int)] (-1) L) (h : L m = 0) : m = t := by
  have hw := hL.snd m (by omega)
  rw [h] at hw
  generalize hk : (0 : Int).toNat = k at hw
  cases hw with
  | start _ hs hc => rw [List.mem_singleton] at hs; omega
  | step k a _ => simp at hk
/-- No edge leads closer than one step. -/
theorem chn_edge {g : Gph} {f : Nat} {x : Ed} {s t : Nat} {a b : List Int} {q : Bool} (hx : x ∈ g.es) (hs : x.src = (s : Int)) (ht : x.dst = (t : Int)) (ha : Chn g (f : Int) (s : Int) a true) (hb : Chn g (f : Int) (t : Int) b q) (hc : chk g = 0) (hf : isN g (f : Int) = true) (hT : isN g (t : Int) = true) : q = true ∧ b.length ≤ a.length + 1 := by
  obtain ⟨L, hL, h0, rfl⟩ := chn_lab ha
  have hw := hL.snd f h0
  have ext : ∀ {k m : Nat}, Wk (row false g.es) [(s : Int)] (-1) k m → Wk (row false g.es) [(t : Int)] (-1) (k + 1) m := by
    intro k m h
    induction h with
    | start m hm hc =>
      obtain rfl : m = s := by rw [List.mem_singleton] at hm; omega
      exact .step 0 t m (.start t (by simp) (by omega)) (by rw [← hs]; exact mem_row (fw := false) hx ht) hc
    | step k c d _ hm hc ih => exact .step _ _ _ ih hm hc
  have hw2 := ext hw
  have hq : q = true := (chn_led hb).2 ⟨hc, hf, hT, _, by rw [Int.toNat_natCast]; exact hw2⟩
  subst hq
  obtain ⟨L', hL', h0', rfl⟩ := chn_lab hb
  have := hL'.all _ _ hw2
  rw [chain_len, chain_len]
  exact ⟨rfl, by omega⟩
/-- Labels are less than the number of nodes. -/
theorem lab_lt {R : Nat → List Int} {S : List Int} {c : Int} {L : Nat → Int} {n : Nat} (hL : Lab R S c L) (hS : ∀ s : Nat, (s : Int) ∈ S → s < n) (hR : ∀ a b : Nat, (b : Int) ∈ R a → b < n) (m : Nat) (h0 : 0 ≤ L m) : L m < (n : Int) := by
  have hend : ∀ k m, Wk R S c k m → m < n := fun k m hw => by
    cases hw with
    | start s hs _ => exact hS _ hs
    | step k a b _ hm _ => exact hR _ _ hm
  have hall : ∀ (k m : Nat), L m = (k : Int) → ∀ j, j ≤ k → ∃ m', m' < n ∧ L m' = (j : Int) := by
    intro k
    induction k with
    | zero =>
      intro m hm j hj
      exact ⟨m, hend _ _ (hL.snd m (by omega)), by rw [hm]; omega⟩
    | succ k ih =>
      intro m hm j hj
      have hw := hL.snd m (by omega)
      by_cases e : j = k + 1
      · exact ⟨m, hend _ _ hw, by rw [hm, e]⟩
      · rw [hm, show ((k + 1 : Nat) : Int).toNat = k + 1 by omega] at hw
        cases hw with
        | step _ a _ hwa hmem hc =>
          have h1 := hL.all k a hwa
          have h2 := hL.all _ m (.step _ a m (hL.snd a h1.1) hmem hc)
          exact ih a (by omega) j (by omega)
  refine Int.not_le.1 fun hle => ?_
  have hk : L m = ((L m).toNat : Int) := by omega
  obtain ⟨i, j, hij, hj, e⟩ := pig n (fun i => if h : i ≤ (L m).toNat then (hall _ m hk i h).choose else 0) (fun i hi => by
    show (if h : i ≤ (L m).toNat then (hall _ m hk i h).choose else 0) < n
    rw [dif_pos (by omega)]
    exact (hall _ m hk i (by omega)).choose_spec.1)
  rw [dif_pos (by omega), dif_pos (by omega)] at e
  have e1 := (hall _ m hk i (by omega)).choose_spec.2
  have e2 := (hall _ m hk j (by omega)).choose_spec.2
  rw [e] at e1
  omega
theorem chn_short {g : Gph} {f t : Int} {l : List Int} {ok : Bool} (h : Chn g f t l ok) : l.length ≤ 1024 := by
  unfold Chn at h
  split at h
  · rename_i hc
    obtain ⟨L, hL, h⟩ := h
    have hOk := chk_ok hc.1
    split at h
    · rename_i h0
      have ht := isN_lt hc.2.2
      have := lab_lt hL (n := g.ns.length) (fun s hs => by rw [List.mem_singleton] at hs; omega) (fun a b hb => by
        obtain ⟨b', e, hb'⟩ := (hOk.rows false a (by
          obtain ⟨y, hy, h1, _⟩ := row_mem hb
          have := hOk.ed false y hy
          omega)).2 _ hb
        omega) f.toNat h0
      have := hOk.nl
      rw [h.2, chain_len]
      omega
    · rw [h.2]; simp
  · rw [h.2]; simp
end Gr
end Go.Proofs.Ytdiaejdoglccoaa
