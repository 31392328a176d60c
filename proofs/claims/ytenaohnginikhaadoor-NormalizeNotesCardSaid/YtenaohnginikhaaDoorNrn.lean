/- Letters and digits renamed: the words as classes stay; plain. No condition. -/
import Derived.Test.YtenaohnginikhaaDoorNwa
import Derived.Lib.CountLaws
import Derived.Lib.SplitLaws
import Derived.Lib.Replace
namespace Go.Proofs.YtenaohnginikhaaDoor
open Go.RowKit Go.Deep Tr
namespace Nm
theorem byte_cut (c : UInt8) (l : List UInt8) : (Lib.indexByte l c = -1 ∧ ∀ z ∈ l, z ≠ c) ∨ ∃ k : Nat, Lib.indexByte l c = (k : Int) ∧ k + 1 ≤ l.length ∧ l = l.take k ++ c :: l.drop (k + 1) ∧ ∀ z ∈ l.take k, z ≠ c := by
  have hge := Lib.indexByte_ge l c
  by_cases h : Lib.indexByte l c = -1
  · left
    refine ⟨h, fun x hx e => ?_⟩
    obtain ⟨k, hk, he⟩ := List.getElem_of_mem hx
    exact Lib.indexByte_none h k (by rw [List.getElem?_eq_getElem hk, he, e])
  · right
    obtain ⟨k, hk⟩ : ∃ k : Nat, Lib.indexByte l c = (k : Int) := ⟨(Lib.indexByte l c).toNat, by omega⟩
    obtain ⟨h1, h2⟩ := Lib.indexByte_some hk
    have hlt : k < l.length := by
      rcases Nat.lt_or_ge k l.length with h | h
      · exact h
      · rw [List.getElem?_eq_none h] at h1; cases h1
    refine ⟨k, hk, hlt, ?_, fun x hx e => ?_⟩
    · have h3 := List.getElem?_eq_getElem hlt
      rw [h1] at h3
      have h4 : l[k] = c := (Option.some.inj h3).symm
      conv => lhs; rw [← List.take_append_drop k l, List.drop_eq_getElem_cons hlt, h4]
    · obtain ⟨j, hj, he⟩ := List.getElem_of_mem hx
      rw [List.length_take] at hj
      rw [List.getElem_take] at he
      exact h2 j (by omega) (by rw [List.getElem?_eq_getElem (by omega), he, e])
/-- One byte for another. -/
def sub1 (x y c : UInt8) : UInt8 := if c = x then y else c
theorem sub1_no {x y : UInt8} {l : List UInt8} (h : ∀ z ∈ l, z ≠ x) : l.map (sub1 x y) = l := by
  conv => rhs; rw [← List.map_id l]
  exact List.map_congr_left fun z hz => if_neg (h z hz)
theorem repK (x y : UInt8) : ∀ (n : Nat) (s : List UInt8), s.length ≤ n → Lib.replaceK [x] [y] (Lib.count s [x]) s = s.map (sub1 x y) := by
  intro n
  induction n with
  | zero =>
    intro s h
    have : s = [] := List.length_eq_zero_iff.1 (by omega)
    subst this
    rw [Lib.count_miss (by rfl)]; rfl
  | succ n ih =>
    intro s h
    rcases byte_cut x s with ⟨h1, h2⟩ | ⟨k, h1, h2, h3, h4⟩
    · rw [Lib.count_miss (by rw [Lib.index_one, h1]), sub1_no h2]; rfl
    · have hi : Lib.index s [x] = (k : Int) := by rw [Lib.index_one, h1]
      rw [Lib.count_hit (by simp) hi, Nat.add_comm, Lib.replaceK_hit _ _ _ _ k hi]
      show s.take k ++ [y] ++ Lib.replaceK [x] [y] (Lib.count (s.drop (k + 1)) [x]) (s.drop (k + 1)) = _
      rw [ih _ (by rw [List.length_drop]; omega)]
      conv => rhs; rw [h3]
      rw [List.map_append, List.map_cons, sub1_no h4, List.append_assoc]
      congr 1
      show y :: _ = sub1 x y x :: _
      rw [show sub1 x y x = y from if_pos rfl]
      rfl
theorem rep1 (x y : UInt8) (h : x ≠ y) (s : List UInt8) : Lib.replaceAll s [x] [y] = s.map (sub1 x y) := by
  unfold Lib.replaceAll Lib.replace Lib.replaceNum
  rw [if_neg (by simp [h]), if_pos (.inl (by omega)), repK x y _ s (Nat.le_refl _)]
/-- The renaming of the law. -/
def ren (c : UInt8) : UInt8 := sub1 95 90 (sub1 55 51 (sub1 120 121 c))
theorem ren_cases (c : UInt8) : (c = 120 ∧ ren c = 121) ∨ (c = 55 ∧ ren c = 51) ∨ (c = 95 ∧ ren c = 90) ∨ (c ≠ 120 ∧ c ≠ 55 ∧ c ≠ 95 ∧ ren c = c) := by
  by_cases h1 : c = 120
  · subst h1; exact .inl ⟨rfl, by decide⟩
  · by_cases h2 : c = 55
    · subst h2; exact .inr (.inl ⟨rfl, by decide⟩)
    · by_cases h3 : c = 95
      · subst h3; exact .inr (.inr (.inl ⟨rfl, by decide⟩))
      · refine .inr (.inr (.inr ⟨h1, h2, h3, ?_⟩))
        unfold ren sub1
        rw [if_neg h1, if_neg h2, if_neg h3]
theorem ren_lt (c : UInt8) : isLt (ren c) = isLt c := by
  rcases ren_cases c with ⟨rfl, h⟩ | ⟨rfl, h⟩ | ⟨rfl, h⟩ | ⟨_, _, _, h⟩ <;> rw [h] <;> decide
theorem ren_bl (c : UInt8) : isBl (ren c) = isBl c := by
  rcases ren_cases c with ⟨rfl, h⟩ | ⟨rfl, h⟩ | ⟨rfl, h⟩ | ⟨_, _, _, h⟩ <;> rw [h] <;> decide
theorem ren_dg (c : UInt8) : isDg (ren c) = isDg c := by
  rcases ren_cases c with ⟨rfl, h⟩ | ⟨rfl, h⟩ | ⟨rfl, h⟩ | ⟨_, _, _, h⟩ <;> rw [h] <;> decide
theorem ren_no {c : UInt8} (h : isLt c = false) : ren c = c := by
  rcases ren_cases c with ⟨rfl, _⟩ | ⟨rfl, _⟩ | ⟨rfl, _⟩ | ⟨_, _, _, h⟩
  · exact absurd h (by decide)
  · exact absurd h (by decide)
  · exact absurd h (by decide)
  · exact h
theorem ren_back {c v : UInt8} (h : ren c = v) (hv : v ≠ 121 ∧ v ≠ 51 ∧ v ≠ 90) : c = v := by
  rcases ren_cases c with ⟨_, e⟩ | ⟨_, e⟩ | ⟨_, e⟩ | ⟨_, _, _, e⟩
  · exact absurd (h.symm.trans e) hv.1
  · exact absurd (h.symm.trans e) hv.2.1
  · exact absurd (h.symm.trans e) hv.2.2
  · rw [← h, e]
def rn (l : List UInt8) : List UInt8 := l.map ren
theorem rn_len (l : List UInt8) : (rn l).length = l.length := List.length_map _
theorem lead_rn (l : List UInt8) : lead (rn l) = lead l := by
  unfold lead rn
  induction l with
  | nil => rfl
  | cons c r ih =>
    rw [List.map_cons, List.takeWhile_cons, List.takeWhile_cons, ren_lt]
    cases isLt c
    · rfl
    · simp only [if_true, List.length_cons]; rw [ih]
theorem wid_rn (l : List UInt8) : wid (rn l) = wid l := by unfold wid; rw [lead_rn]
theorem any_rn (l : List UInt8) : (rn l).any isBl = l.any isBl := by
  unfold rn
  induction l with
  | nil => rfl
  | cons c r ih => rw [List.map_cons, List.any_cons, List.any_cons, ih, ren_bl]
theorem one_rn (l : List UInt8) : one (rn l) = (one l).map rn := by
  have e : (rn l).take (wid (rn l)) = rn (l.take (wid l)) := by rw [wid_rn]; unfold rn; rw [List.map_take]
  unfold one
  rw [e, any_rn]
  split
  · rfl
  · rfl
theorem dv_rn : ∀ f l, dv f (rn l) = (dv f l).map rn := by
  intro f
  induction f with
  | zero => intro l; rfl
  | succ f ih =>
    intro l
    rw [dv, dv]
    by_cases h : l = []
    · subst h; rfl
    · rw [if_neg h, if_neg (by intro e; have := congrArg List.length e; rw [rn_len] at this; exact h (List.length_eq_zero_iff.1 this)), one_rn, List.map_append]
      congr 1
      rw [wid_rn, ← ih]
      unfold rn; rw [List.map_drop]
theorem div_rn (l : List UInt8) : div (rn l) = (div l).map rn := by
  unfold div; rw [rn_len, dv_rn]
/-- Each word stands in the line, and is what stands at the beginning of something. -/
theorem dv_in : ∀ f s, ∀ x ∈ dv f s, x <:+: s ∧ ∃ r, r ≠ [] ∧ x = r.take (wid r) := by
  intro f
  induction f with
  | zero => intro s x hx; cases hx
  | succ f ih =>
    intro s x hx
    rw [dv] at hx
    split at hx
    · cases hx
    · rename_i h
      rcases List.mem_append.1 hx with hx | hx
      · unfold one at hx
        split at hx
        · cases hx
        · rw [List.mem_singleton.1 hx]
          exact ⟨(List.take_prefix _ _).isInfix, s, h, rfl⟩
      · obtain ⟨h1, h2⟩ := ih _ x hx
        exact ⟨h1.trans (List.drop_suffix _ _).isInfix, h2⟩
theorem cls_rn {s x : List UInt8} (hx : x ∈ div s) : cls true true (rn x) = cls true true x := by
  obtain ⟨_, r, hr, e⟩ := dv_in _ s x hx
  cases r with
  | nil => exact absurd rfl hr
  | cons c r =>
    have hx1 : ∃ t, x = c :: t := by
      have := wid_pos (c :: r)
      obtain ⟨n, hn⟩ : ∃ n, wid (c :: r) = n + 1 := ⟨wid (c :: r) - 1, by omega⟩
      rw [hn, List.take_succ_cons] at e
      exact ⟨_, e⟩
    obtain ⟨t, ht⟩ := hx1
    have hh : hd1 x = c := by rw [ht]; rfl
    have hh2 : hd1 (rn x) = ren c := by rw [ht]; rfl
    cases hd : isDg c
    · cases hl : isLt c
      · have e1 : wid (c :: r) = 1 := by unfold wid; rw [lead_no r hl]; rfl
        rw [e1] at e
        have e2 : rn x = x := by rw [e]; show [ren c] = [c]; rw [ren_no hl]
        rw [e2]
      · rw [cls_name true (by rw [hh2, ren_dg]; exact hd) (by rw [hh2, ren_lt]; exact hl), cls_name true (by rw [hh]; exact hd) (by rw [hh]; exact hl)]
    · rw [cls_num true (by rw [hh2, ren_dg]; exact hd), cls_num true (by rw [hh]; exact hd)]
theorem note_back {x : List UInt8} (h : rn x = [110, 111, 116, 101]) : x = [110, 111, 116, 101] := by
  match x, h with
  | [a, b, c, d], h =>
    simp only [rn, List.map_cons, List.map_nil, List.cons.injEq, and_true] at h
    obtain ⟨h1, h2, h3, h4⟩ := h
    rw [ren_back h1 (by decide), ren_back h2 (by decide), ren_back h3 (by decide), ren_back h4 (by decide)]
  | [], h => have := congrArg List.length h; simp [rn] at this
  | [_], h => have := congrArg List.length h; simp [rn] at this
  | [_, _], h => have := congrArg List.length h; simp [rn] at this
  | [_, _, _], h => have := congrArg List.length h; simp [rn] at this
  | _ :: _ :: _ :: _ :: _ :: _, h => have := congrArg List.length h; simp [rn] at this
theorem nte_no {l : List (List UInt8)} (h : [110, 111, 116, 101] ∉ l) : nte l = none := by
  match l, h with
  | [a, b], h => rw [nte, if_neg (by intro e; exact h (by rw [e]; simp))]
  | [], _ => rfl
  | [_], _ => rfl
  | _ :: _ :: _ :: _, _ => rfl
theorem wl_rn : ∀ (L : List (List UInt8)) (i : Nat), (∀ l ∈ L, [110, 111, 116, 101] ∉ div l) → wl true true i 0 (L.map rn) = wl true true i 0 L := by
  intro L
  induction L with
  | nil => intro i _; rfl
  | cons l t ih =>
    intro i h
    have h0 := h l (by simp)
    have h1 : [110, 111, 116, 101] ∉ div (rn l) := by
      rw [div_rn]
      intro hm
      obtain ⟨x, hx, e⟩ := List.mem_map.1 hm
      rw [note_back e] at hx
      exact h0 hx
    rw [List.map_cons, wl_line true true i _ (nte_no h1), wl_line true true i _ (nte_no h0), ih (i + 1) fun l hl => h l (by simp [hl]), div_rn, List.map_map]
    congr 1
    exact List.map_congr_left fun x hx => by
      show (⟨cls true true (rn x), (i : Int)⟩ : Lx) = _
      rw [cls_rn hx]
theorem ren_ten (c : UInt8) : ren c = 10 ↔ c = 10 := ⟨fun h => ren_back h (by decide), fun h => by rw [h]; decide⟩
theorem split_rn : ∀ (n : Nat) (d : List UInt8), d.length ≤ n → Tre.split 10 (rn d) = (Tre.split 10 d).map rn := by
  intro n
  induction n with
  | zero =>
    intro d h
    have : d = [] := List.length_eq_zero_iff.1 (by omega)
    subst this; rfl
  | succ n ih =>
    intro d h
    rcases byte_cut 10 d with ⟨_, h2⟩ | ⟨k, _, h2, h3, h4⟩
    · rw [Tre.split_end 10 d h2, Tre.split_end 10 (rn d) fun z hz => by
        obtain ⟨c, hc, rfl⟩ := List.mem_map.1 hz
        exact fun e => h2 c hc ((ren_ten c).1 e)]
      rfl
    · have e1 : Tre.split 10 d = d.take k :: Tre.split 10 (d.drop (k + 1)) := by
        conv => lhs; rw [h3]
        exact Tre.split_cut 10 _ _ h4
      have e2 : rn d = rn (d.take k) ++ 10 :: rn (d.drop (k + 1)) := by
        conv => lhs; rw [h3]
        unfold rn; rw [List.map_append, List.map_cons, (ren_ten 10).2 rfl]
      rw [e1, List.map_cons, ← ih _ (by rw [List.length_drop]; omega), e2]
      exact Tre.split_cut 10 _ _ fun z hz => by
        obtain ⟨c, hc, rfl⟩ := List.mem_map.1 hz
        exact fun e => h4 c hc ((ren_ten c).1 e)
theorem split_in : ∀ (n : Nat) (d : List UInt8), d.length ≤ n → ∀ l ∈ Tre.split 10 d, l <:+: d := by
  intro n
  induction n with
  | zero =>
    intro d h l hl
    have : d = [] := List.length_eq_zero_iff.1 (by omega)
    subst this
    have : l = [] := by simpa [Tre.split_end 10 [] (by simp)] using hl
    rw [this]; exact List.infix_refl _
  | succ n ih =>
    intro d h l hl
    rcases byte_cut 10 d with ⟨_, h2⟩ | ⟨k, _, h2, h3, h4⟩
    · rw [Tre.split_end 10 d h2, List.mem_singleton] at hl
      rw [hl]; exact List.infix_refl _
    · rw [show Tre.split 10 d = d.take k :: Tre.split 10 (d.drop (k + 1)) by
        conv => lhs; rw [h3]
        exact Tre.split_cut 10 _ _ h4] at hl
      rcases List.mem_cons.1 hl with rfl | hl
      · exact (List.take_prefix _ _).isInfix
      · exact (ih _ (by rw [List.length_drop]; omega) l hl).trans (List.drop_suffix _ _).isInfix
theorem no_note {d : List UInt8} (h : Lib.contains d [110, 111, 116, 101] = false) : ∀ l ∈ Tre.split 10 d, [110, 111, 116, 101] ∉ div l := by
  intro l hl hm
  obtain ⟨a, b, e⟩ := (dv_in _ l _ hm).1.trans (split_in _ d (Nat.le_refl _) l hl)
  unfold Lib.contains at h
  rw [decide_eq_false_iff_not] at h
  rcases Lib.index_spec d [110, 111, 116, 101] with ⟨_, h2⟩ | ⟨i, h1, _⟩
  · have h3 := h2 a.length (by rw [← e]; simp)
    unfold Lib.occAt at h3
    rw [← e, List.append_assoc, List.drop_left' rfl] at h3
    simp [List.isPrefixOf] at h3
  · omega
theorem wrd_rn {d : List UInt8} (h : Lib.contains d [110, 111, 116, 101] = false) : wrd true true (rn d) = wrd true true d := by
  unfold wrd
  rw [split_rn _ d (Nat.le_refl _)]
  exact wl_rn _ _ (no_note h)
theorem lines_rn (d : List UInt8) : (Tre.lines (rn d)).2 = (Tre.lines d).2 := by
  unfold Tre.lines
  rw [split_rn _ d (Nat.le_refl _), List.length_map, rn_len]
  split <;> rfl
theorem wrE_rn (p : List UInt8) {d : List UInt8} (h : Lib.contains d [110, 111, 116, 101] = false) : wrE p true true (rn d) = wrE p true true d := by
  unfold wrE; rw [lines_rn, wrd_rn h]
theorem wrT_rn (p : List UInt8) {d : List UInt8} (h : Lib.contains d [110, 111, 116, 101] = false) : wrT p true true (rn d) = wrT p true true d := by
  unfold wrT; rw [wrE_rn p h, wrd_rn h]
end Nm
end Go.Proofs.YtenaohnginikhaaDoor
