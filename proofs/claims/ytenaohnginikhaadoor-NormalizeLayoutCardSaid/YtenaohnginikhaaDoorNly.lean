/- Blanks widened: the words stay; plain. No condition. -/
import Derived.Test.YtenaohnginikhaaDoorNrn
namespace Go.Proofs.YtenaohnginikhaaDoor
open Go.RowKit Go.Deep Tr
namespace Nm
theorem div_blanks (p l : List UInt8) (h : p.all isBl = true) : div (p ++ l) = div l := by
  induction p with
  | nil => rfl
  | cons c r ih =>
    rw [List.all_cons, Bool.and_eq_true] at h
    rw [List.cons_append, div_blank _ h.1, ih h.2]
theorem lead_all {w : List UInt8} (t : List UInt8) (hw : w.all isLt = true) (ht : lead t = 0) : lead (w ++ t) = w.length := by
  induction w with
  | nil => exact ht
  | cons c r ih =>
    rw [List.all_cons, Bool.and_eq_true] at hw
    have := ih hw.2
    unfold lead at this ⊢
    rw [List.cons_append, List.takeWhile_cons, if_pos hw.1, List.length_cons, this, List.length_cons]
/-- What can be a word by itself, in front of t. -/
def Tk (w t : List UInt8) : Prop := (∃ c, w = [c] ∧ isLt c = false ∧ isBl c = false) ∨ (w ≠ [] ∧ w.all isLt = true ∧ lead t = 0)
theorem div_tok {w t : List UInt8} (h : Tk w t) : div (w ++ t) = w :: div t := by
  rcases h with ⟨c, rfl, h1, h2⟩ | ⟨h1, h2, h3⟩
  · have e : wid (c :: t) = 1 := by unfold wid; rw [lead_no t h1]; rfl
    show div (c :: t) = _
    rw [div_word t h2, e]; rfl
  · cases w with
    | nil => exact absurd rfl h1
    | cons c r =>
      have hl := lead_all t h2 h3
      have e : wid ((c :: r) ++ t) = (c :: r).length := by unfold wid; rw [hl]; simp
      have hc : isBl c = false := lt_bl (by rw [List.all_cons, Bool.and_eq_true] at h2; exact h2.1)
      have h4 := div_word (r ++ t) hc
      rw [← List.cons_append, e, List.take_left' rfl, List.drop_left' rfl] at h4
      exact h4
/-- A line that begins with no blank begins with a word. -/
theorem tok_of {c : UInt8} (r : List UInt8) (hc : isBl c = false) : ∃ w t, c :: r = w ++ t ∧ Tk w t ∧ w ≠ [] ∧ w.all (fun x => !isBl x) = true ∧ (∀ t', lead t' = 0 → Tk w t' ∨ ∃ y, w = [y] ∧ isLt y = false ∧ isBl y = false) := by
  cases hl : isLt c
  · exact ⟨[c], r, rfl, .inl ⟨c, rfl, hl, hc⟩, by simp, by simp [hc], fun t' _ => .inr ⟨c, rfl, hl, hc⟩⟩
  · have h1 := List.takeWhile_append_dropWhile (p := isLt) (l := c :: r)
    have h2 : (c :: r).takeWhile isLt ≠ [] := by rw [List.takeWhile_cons, if_pos hl]; simp
    have h3 : ((c :: r).takeWhile isLt).all isLt = true := List.all_takeWhile
    have h4 : lead ((c :: r).dropWhile isLt) = 0 := by
      unfold lead
      cases hd : (c :: r).dropWhile isLt with
      | nil => rfl
      | cons y s =>
        have := List.head_dropWhile_not isLt (l := c :: r) (by rw [hd]; simp)
        simp only [hd, List.head_cons] at this
        rw [List.takeWhile_cons, this]; rfl
    refine ⟨_, _, h1.symm, .inr ⟨h2, h3, h4⟩, h2, ?_, fun t' ht => .inl (.inr ⟨h2, h3, ht⟩)⟩
    rw [List.all_eq_true] at h3 ⊢
    intro x hx
    rw [lt_bl (h3 x hx)]; rfl
/-- One blank for several. -/
def wf (x : UInt8) (new : List UInt8) (c : UInt8) : List UInt8 := if c = x then new else [c]
theorem wf_no {x : UInt8} {new l : List UInt8} (h : ∀ z ∈ l, z ≠ x) : l.flatMap (wf x new) = l := by
  induction l with
  | nil => rfl
  | cons c r ih =>
    rw [List.flatMap_cons, ih fun z hz => h z (by simp [hz])]
    unfold wf
    rw [if_neg (h c (by simp))]; rfl
abbrev w2 := wf 32 [9, 32, 13]
theorem lead_w2 (t q : List UInt8) (h : lead t = 0) (hq : q.all isBl = true) : lead (t.flatMap w2 ++ q) = 0 := by
  cases t with
  | nil =>
    cases q with
    | nil => rfl
    | cons c r => rw [List.all_cons, Bool.and_eq_true] at hq; exact lead_no r (bl_lt hq.1)
  | cons c r =>
    have hc : isLt c = false := by
      cases hl : isLt c
      · rfl
      · have := lead_yes r hl; omega
    rw [List.flatMap_cons]
    unfold w2 wf
    split
    · exact lead_no _ (by decide)
    · exact lead_no _ hc
theorem div_w2 : ∀ (n : Nat) (l q : List UInt8), l.length ≤ n → q.all isBl = true → div (l.flatMap w2 ++ q) = div l := by
  intro n
  induction n with
  | zero =>
    intro l q h hq
    have : l = [] := List.length_eq_zero_iff.1 (by omega)
    subst this
    have := div_blanks q [] hq
    rw [List.append_nil] at this
    exact this
  | succ n ih =>
    intro l q h hq
    cases l with
    | nil =>
      have := div_blanks q [] hq
      rw [List.append_nil] at this
      exact this
    | cons c r =>
      rw [List.length_cons] at h
      cases hb : isBl c
      · obtain ⟨w, t, e, h1, h2, h3, h4⟩ := tok_of r hb
        have hw : ∀ z ∈ w, z ≠ 32 := fun z hz e => by
          rw [List.all_eq_true] at h3
          have := h3 z hz
          rw [e] at this
          exact absurd this (by decide)
        have hlen : t.length ≤ n := by
          have := congrArg List.length e
          have h5 := List.length_pos_iff.2 h2
          rw [List.length_cons, List.length_append] at this
          omega
        rw [e, div_tok h1, List.flatMap_append, wf_no hw, List.append_assoc]
        have htk : Tk w (t.flatMap w2 ++ q) := by
          rcases h1 with hs | ⟨a1, a2, a3⟩
          · exact .inl hs
          · exact .inr ⟨a1, a2, lead_w2 t q a3 hq⟩
        rw [div_tok htk, ih t q hlen hq]
      · rw [List.flatMap_cons, List.append_assoc, div_blanks _ _ (by unfold w2 wf; split; decide; simp [hb]), div_blank r hb]
        exact ih r q (by omega) hq
abbrev wg : UInt8 → List UInt8 := fun c => (w2 c).flatMap (wf 10 [32, 32, 10, 127, 11])
theorem wg_line {l : List UInt8} (h : ∀ z ∈ l, z ≠ 10) : l.flatMap wg = l.flatMap w2 := by
  induction l with
  | nil => rfl
  | cons c r ih =>
    rw [List.flatMap_cons, List.flatMap_cons, ih fun z hz => h z (by simp [hz])]
    congr 1
    have hc := h c (by simp)
    refine wf_no fun z hz => ?_
    unfold w2 wf at hz
    split at hz
    · intro e; rw [e] at hz; exact absurd hz (by decide)
    · rw [List.mem_singleton.1 hz]; exact hc
theorem w2_ten {l : List UInt8} (h : ∀ z ∈ l, z ≠ 10) : ∀ z ∈ l.flatMap w2, z ≠ 10 := by
  intro z hz
  obtain ⟨c, hc, hz⟩ := List.mem_flatMap.1 hz
  unfold w2 wf at hz
  split at hz
  · intro e; rw [e] at hz; exact absurd hz (by decide)
  · rw [List.mem_singleton.1 hz]; exact h c hc
theorem split_wide : ∀ (n : Nat) (d p : List UInt8), d.length ≤ n → p.all isBl = true → (∀ z ∈ p, z ≠ 10) → (Tre.split 10 (p ++ (d.flatMap wg ++ [0]))).map div = (Tre.split 10 d).map div := by
  intro n
  induction n with
  | zero =>
    intro d p h hp hp2
    have : d = [] := List.length_eq_zero_iff.1 (by omega)
    subst this
    have hn : ∀ z ∈ p ++ ([].flatMap wg ++ [0]), z ≠ 10 := fun z hz => by
      rcases List.mem_append.1 hz with hz | hz
      · exact hp2 z hz
      · have : z = 0 := by simpa using hz
        rw [this]; decide
    rw [Tre.split_end 10 _ hn]
    have e : div (p ++ ([].flatMap wg ++ [0])) = div [] := by rw [div_blanks _ _ hp]; exact div_blank [] (by decide)
    show [div (p ++ ([].flatMap wg ++ [0]))] = _
    rw [e]; rfl
  | succ n ih =>
    intro d p h hp hp2
    rcases byte_cut 10 d with ⟨_, h2⟩ | ⟨k, _, h2, h3, h4⟩
    · have hn : ∀ z ∈ p ++ (d.flatMap wg ++ [0]), z ≠ 10 := fun z hz => by
        rcases List.mem_append.1 hz with hz | hz
        · exact hp2 z hz
        · rcases List.mem_append.1 hz with hz | hz
          · rw [wg_line h2] at hz; exact w2_ten h2 z hz
          · rw [List.mem_singleton.1 hz]; decide
      rw [Tre.split_end 10 _ hn, Tre.split_end 10 d h2, wg_line h2]
      show [div (p ++ (d.flatMap w2 ++ [0]))] = [div d]
      rw [div_blanks _ _ hp, div_w2 _ d [0] (Nat.le_refl _) (by decide)]
    · obtain ⟨u, hu⟩ : ∃ u, u = d.take k := ⟨_, rfl⟩
      obtain ⟨v, hv⟩ : ∃ v, v = d.drop (k + 1) := ⟨_, rfl⟩
      have hvl : v.length ≤ n := by rw [hv, List.length_drop]; omega
      rw [← hu] at h3 h4
      rw [← hv] at h3
      have e1 : Tre.split 10 d = u :: Tre.split 10 v := by
        conv => lhs; rw [h3]
        exact Tre.split_cut 10 _ _ h4
      have e2 : p ++ (d.flatMap wg ++ [0]) = (p ++ (u.flatMap w2 ++ [32, 32])) ++ 10 :: ([127, 11] ++ (v.flatMap wg ++ [0])) := by
        rw [h3, List.flatMap_append, List.flatMap_cons, wg_line h4, show wg 10 = [32, 32, 10, 127, 11] by decide]
        simp
      rw [e1, e2, Tre.split_cut 10 _ _ fun z hz => by
        rcases List.mem_append.1 hz with hz | hz
        · exact hp2 z hz
        · rcases List.mem_append.1 hz with hz | hz
          · exact w2_ten h4 z hz
          · have : z = 32 := by simpa using hz
            rw [this]; decide]
      rw [List.map_cons, List.map_cons, ih v [127, 11] hvl (by decide) (by decide), div_blanks _ _ hp, div_w2 _ u [32, 32] (Nat.le_refl _) (by decide)]
theorem wl_div (a b : Bool) : ∀ (L L' : List (List UInt8)), L.map div = L'.map div → ∀ i k, wl a b i k L = wl a b i k L' := by
  intro L
  induction L with
  | nil => intro L' h i k; cases L' with
    | nil => rfl
    | cons l t => cases h
  | cons l t ih =>
    intro L' h i k
    cases L' with
    | nil => cases h
    | cons l' t' =>
      rw [List.map_cons, List.map_cons, List.cons.injEq] at h
      cases k with
      | succ k => rw [wl_in, wl_in, ih t' h.2]
      | zero =>
        cases hn : nte (div l) with
        | some n => rw [wl_note a b i t hn, wl_note a b i t' (by rw [← h.1]; exact hn), ih t' h.2]
        | none => rw [wl_line a b i t hn, wl_line a b i t' (by rw [← h.1]; exact hn), h.1, ih t' h.2]
/-- The text of the law. -/
def wide (d : List UInt8) : List UInt8 := [32, 9] ++ (d.flatMap wg ++ [0])
theorem wrd_wide (a b : Bool) (d : List UInt8) : wrd a b (wide d) = wrd a b d := wl_div a b _ _ (split_wide _ d [32, 9] (Nat.le_refl _) (by decide) (by decide)) 0 0
theorem wide_lines (d : List UInt8) : (Tre.split 10 (wide d)).length = (Tre.split 10 d).length := by
  have := congrArg List.length (split_wide _ d [32, 9] (Nat.le_refl _) (by decide) (by decide))
  rwa [List.length_map, List.length_map] at this
theorem wg_len (c : UInt8) : (wg c).length ≤ 5 := by
  by_cases h : c = 32
  · subst h; decide
  · by_cases h2 : c = 10
    · subst h2; decide
    · have e : wg c = [c] := by
        show (wf 32 [9, 32, 13] c).flatMap (wf 10 [32, 32, 10, 127, 11]) = [c]
        unfold wf
        rw [if_neg h]
        simp [h2]
      rw [e]; simp
theorem wide_len (d : List UInt8) : (wide d).length ≤ 5 * d.length + 3 := by
  unfold wide
  have : (d.flatMap wg).length ≤ 5 * d.length := by
    induction d with
    | nil => simp
    | cons c r ih => rw [List.flatMap_cons, List.length_append, List.length_cons]; have := wg_len c; omega
  simp only [List.length_append, List.length_cons, List.length_nil]
  omega
theorem wrE_wide (p : List UInt8) (a b : Bool) {d : List UInt8} (h : d.length ≤ 2000) : wrE p a b (wide d) = wrE p a b d := by
  have h1 := wide_len d
  have e : (Tre.lines (wide d)).2 = (Tre.lines d).2 := by
    unfold Tre.lines
    rw [wide_lines]
    by_cases hb : 1024 < (Tre.split 10 d).length
    · rw [if_pos (.inr hb), if_pos (.inr hb)]
    · rw [if_neg (by omega), if_neg (by omega)]
  unfold wrE; rw [e, wrd_wide]
theorem wrT_wide (p : List UInt8) (a b : Bool) {d : List UInt8} (h : d.length ≤ 2000) : wrT p a b (wide d) = wrT p a b d := by
  unfold wrT; rw [wrE_wide p a b h, wrd_wide]
theorem repKm (x : UInt8) (new : List UInt8) : ∀ (n : Nat) (s : List UInt8), s.length ≤ n → Lib.replaceK [x] new (Lib.count s [x]) s = s.flatMap (wf x new) := by
  intro n
  induction n with
  | zero =>
    intro s h
    have : s = [] := List.length_eq_zero_iff.1 (by omega)
    subst this
    rw [Lib.count_miss (by rfl)]; rfl
  | succ n ih =>
    intro s h
    rcases byte_cut x s with ⟨h1, h2⟩ | ⟨k, h1, h2, h3, h4⟩
    · rw [Lib.count_miss (by rw [Lib.index_one, h1]), wf_no h2]; rfl
    · have hi : Lib.index s [x] = (k : Int) := by rw [Lib.index_one, h1]
      rw [Lib.count_hit (by simp) hi, Nat.add_comm, Lib.replaceK_hit _ _ _ _ k hi]
      show s.take k ++ new ++ Lib.replaceK [x] new (Lib.count (s.drop (k + 1)) [x]) (s.drop (k + 1)) = _
      rw [ih _ (by rw [List.length_drop]; omega)]
      conv => rhs; rw [h3]
      rw [List.flatMap_append, List.flatMap_cons, wf_no h4, List.append_assoc]
      congr 2
      exact (if_pos rfl).symm
theorem repm (x : UInt8) (new : List UInt8) (h : [x] ≠ new) (s : List UInt8) : Lib.replaceAll s [x] new = s.flatMap (wf x new) := by
  unfold Lib.replaceAll Lib.replace Lib.replaceNum
  rw [if_neg (by simpa using h), if_pos (.inl (by omega)), repKm x new _ s (Nat.le_refl _)]
theorem w2_len (d : List UInt8) : (d.flatMap (wf 32 [9, 32, 13])).length ≤ 3 * d.length := by
  induction d with
  | nil => simp
  | cons c r ih =>
    have : (wf 32 [9, 32, 13] c).length ≤ 3 := by unfold wf; split <;> simp
    rw [List.flatMap_cons, List.length_append, List.length_cons]
    omega
theorem flat_wg (d : List UInt8) : (d.flatMap w2).flatMap (wf 10 [32, 32, 10, 127, 11]) = d.flatMap wg := by
  rw [List.flatMap_assoc]
end Nm
end Go.Proofs.YtenaohnginikhaaDoor
