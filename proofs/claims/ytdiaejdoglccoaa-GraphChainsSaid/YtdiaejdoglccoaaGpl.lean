/- Plain: gates and the graph without a node. -/
import Derived.Test.YtdiaejdoglccoaaWpl
namespace Go.Proofs.Ytdiaejdoglccoaa

namespace Gr
/-- An edge that does not touch a node. -/
def off (i : Nat) (x : Ed) : Bool := x.src != (i : Int) && x.dst != (i : Int)
/-- The graph without the edges at a node. -/
def less (g : Gph) (i : Nat) : Gph := ⟨g.ns, g.es.filter (off i)⟩
theorem off_iff {i : Nat} {x : Ed} : off i x = true ↔ x.src ≠ (i : Int) ∧ x.dst ≠ (i : Int) := by
  unfold off
  rw [Bool.and_eq_true, bne_iff_ne, bne_iff_ne]
theorem lt_iff (a b : Ed) : lt a b = true ↔ a.src < b.src ∨ (a.src = b.src ∧ (a.dst < b.dst ∨ (a.dst = b.dst ∧ a.stp < b.stp))) := by
  unfold lt cmp or3 Lib.compareInt
  rw [decide_eq_true_eq]
  repeat' split
  all_goals omega
theorem asc_filter {α : Type} (r : α → α → Bool) (p : α → Bool) (htr : ∀ a b c, r a b = true → r b c = true → r a c = true) (l : List α) (h : asc r l = true) : asc r (l.filter p) = true := by
  have key : ∀ l : List α, asc r l = true ↔ l.Pairwise fun a b => r a b = true := by
    intro l
    rw [asc_iff, List.pairwise_iff_getElem]
    constructor
    · intro h i j hi hj hij
      have : ∀ d i, (hd : i + d + 1 < l.length) → r l[i] l[i + d + 1] = true := by
        intro d
        induction d with
        | zero => intro i hd; exact h i hd
        | succ d ih =>
          intro i hd
          exact htr _ _ _ (ih i (by omega)) (h (i + d + 1) hd)
      have h2 := this (j - i - 1) i (by omega)
      have e : i + (j - i - 1) + 1 = j := by omega
      simp only [e] at h2
      exact h2
    · intro h i hi
      exact h i (i + 1) (by omega) hi (by omega)
  rw [key] at h ⊢
  exact h.filter p
theorem chk_zero {g : Gph} : chk g = 0 ↔ big g = false ∧ g.ns.any (fun s => decide (128 < s.length)) = false ∧ asc Op.bytesLess g.ns = true ∧ g.es.any (fun x => out g x) = false ∧ asc lt g.es = true := by
  unfold chk
  cases big g <;> cases g.ns.any (fun s => decide (128 < s.length)) <;> cases asc Op.bytesLess g.ns <;> cases g.es.any (fun x => out g x) <;> cases asc lt g.es <;> simp
theorem less_chk {g : Gph} (h : chk g = 0) (i : Nat) : chk (less g i) = 0 := by
  rw [chk_zero] at h ⊢
  obtain ⟨h1, h2, h3, h4, h5⟩ := h
  refine ⟨?_, h2, h3, ?_, ?_⟩
  · have h2 : decide (1024 < g.ns.length) = false ∧ decide (1024 < g.es.length) = false := by
      unfold big at h1
      rwa [Bool.or_eq_false_iff] at h1
    rw [decide_eq_false_iff_not, decide_eq_false_iff_not] at h2
    have h3 := List.length_filter_le (off i) g.es
    show (decide (1024 < g.ns.length) || decide (1024 < (g.es.filter (off i)).length)) = false
    rw [decide_eq_false h2.1, decide_eq_false (show ¬ 1024 < (g.es.filter (off i)).length by omega)]
    rfl
  · rw [List.any_eq_false] at h4 ⊢
    intro x hx
    exact h4 x (List.mem_filter.1 hx).1
  · refine asc_filter lt (off i) (fun a b c hab hbc => ?_) g.es h5
    rw [lt_iff] at hab hbc ⊢
    omega
/-- A node is on every chain exactly if there is none without it. -/
theorem less_led {g : Gph} {i f t : Nat} (hf : f ≠ i) : (∃ k, Wk (row true g.es) [(f : Int)] (i : Int) k t) ↔ f = t ∨ Tc (less g i).es f t := by
  have snoc : ∀ {E : List Ed} {a b c : Nat}, Tc E a b → ∀ x ∈ E, x.src = (b : Int) → x.dst = (c : Int) → Tc E a c := by
    intro E a b c h
    induction h with
    | one y a b hy ha hb => exact fun x hx h1 h2 => .cons y _ _ _ hy ha hb (.one x _ _ hx h1 h2)
    | cons y a b d hy ha hb _ ih => exact fun x hx h1 h2 => .cons y _ _ _ hy ha hb (ih x hx h1 h2)
  constructor
  · rintro ⟨k, hk⟩
    induction hk with
    | start s hs hc => left; rw [List.mem_singleton] at hs; omega
    | step k a b hw hm hc ih =>
      obtain ⟨y, hy, h1, h2⟩ := row_mem hm
      have e1 : y.src = (a : Int) := h1
      have e2 : y.dst = (b : Int) := h2.symm
      have ha : a ≠ i := by
        cases hw with
        | start _ hs hc => omega
        | step _ _ _ _ _ hc => omega
      have hy2 : y ∈ (less g i).es := List.mem_filter.2 ⟨hy, off_iff.2 ⟨by omega, by omega⟩⟩
      right
      rcases ih with rfl | h
      · exact .one y _ _ hy2 e1 e2
      · exact snoc h y hy2 e1 e2
  · rintro (rfl | h)
    · exact ⟨0, .start f (by simp) (by omega)⟩
    · have key : ∀ {a b : Nat}, Tc (less g i).es a b → (∃ k, Wk (row true g.es) [(f : Int)] (i : Int) k a) → ∃ k, Wk (row true g.es) [(f : Int)] (i : Int) k b := by
        intro a b h
        induction h with
        | one x a b hx ha hb =>
          rintro ⟨k, hk⟩
          obtain ⟨hx, ho⟩ := List.mem_filter.1 hx
          have ho := off_iff.1 ho
          exact ⟨k + 1, .step k a b hk (by rw [← hb]; exact mem_row (fw := true) hx ha) (by omega)⟩
        | cons x a b c hx ha hb _ ih =>
          rintro ⟨k, hk⟩
          obtain ⟨hx, ho⟩ := List.mem_filter.1 hx
          have ho := off_iff.1 ho
          exact ih ⟨k + 1, .step k a b hk (by rw [← hb]; exact mem_row (fw := true) hx ha) (by omega)⟩
      exact key h ⟨0, .start f (by simp) (by omega)⟩
/-- What the law of gates asks at a node. -/
theorem gate_at {g : Gph} {f t i : Nat} {l l' : List Int} {ok : Bool} (hc : chk g = 0) (hf : isN g (f : Int) = true) (ht : isN g (t : Int) = true) (hi : i < g.ns.length) (hl : Led g (f : Int) (t : Int)) (hg : Gts g (f : Int) (t : Int) l) (h : Chn (less g i) (f : Int) (t : Int) l' ok) :
    decide ((i : Int) ∈ l) = ((decide (i = f)) || (decide (i = t)) || !ok) := by
  obtain ⟨p, hp, rfl⟩ := hg.1 hl
  have h1 : ((i : Int) ∈ chs p g.ns.length) ↔ p i = true := by
    rw [mem_chs]
    exact ⟨fun ⟨m, e, _, hm⟩ => by obtain rfl : i = m := by omega
                                   exact hm, fun h => ⟨i, rfl, hi, h⟩⟩
  have h2 := hp i
  rw [Int.toNat_natCast] at h2
  have h3 : ok = true ↔ f = t ∨ Tc (less g i).es f t := by
    rw [chn_led h, ← wk_tc]
    constructor
    · intro hh
      have := hh.2.2.2
      rwa [Int.toNat_natCast] at this
    · intro hh
      exact ⟨less_chk hc i, hf, ht, by rwa [Int.toNat_natCast]⟩
  rw [Bool.eq_iff_iff, decide_eq_true_eq, h1, h2, Bool.or_eq_true, Bool.or_eq_true, decide_eq_true_eq, decide_eq_true_eq, Bool.not_eq_true']
  by_cases e1 : i = f
  · subst e1
    refine ⟨fun _ => .inl (.inl rfl), fun _ => ?_⟩
    rintro ⟨k, hk⟩
    have : ∀ {k m : Nat}, Wk (row true g.es) [(i : Int)] (i : Int) k m → False := by
      intro k m hw
      induction hw with
      | start s hs hc => rw [List.mem_singleton] at hs; exact hc hs
      | step k a b _ _ _ ih => exact ih
    exact this hk
  · by_cases e2 : i = t
    · subst e2
      refine ⟨fun _ => .inl (.inr rfl), fun _ => ?_⟩
      rintro ⟨k, hk⟩
      cases hk with
      | start _ _ hc => exact hc rfl
      | step _ _ _ _ _ hc => exact hc rfl
    · rw [less_led (fun e => e1 e.symm), ← h3]
      constructor
      · intro h; right; cases ok with
        | true => exact absurd rfl h
        | false => rfl
      · rintro ((e | e) | e)
        · exact absurd e e1
        · exact absurd e e2
        · rw [e]; simp
theorem chs_sorted (p : Nat → Bool) : ∀ n, (chs p n).Pairwise (fun a b => a ≤ b)
  | 0 => List.Pairwise.nil
  | n + 1 => by
    rw [chs, List.pairwise_append]
    refine ⟨chs_sorted p n, ?_, fun a ha b hb => ?_⟩
    · split <;> simp
    · obtain ⟨m, e, hm, _⟩ := (mem_chs p n a).1 ha
      by_cases hp : p n = true
      · rw [if_pos hp, List.mem_singleton] at hb; omega
      · rw [if_neg hp] at hb; simp at hb
theorem gts_sorted {g : Gph} {f t : Int} {l : List Int} (h : Gts g f t l) : (∀ i (h : i + 1 < l.length), l[i] ≤ l[i + 1]) ∧ l.length ≤ g.ns.length := by
  by_cases hl : Led g f t
  · obtain ⟨p, _, rfl⟩ := h.1 hl
    exact ⟨fun i hi => (List.pairwise_iff_getElem.1 (chs_sorted p g.ns.length)) i (i + 1) (by omega) hi (by omega), chs_len p _⟩
  · rw [h.2 hl]
    exact ⟨fun i h => by simp at h, by simp⟩
end Gr
end Go.Proofs.Ytdiaejdoglccoaa
