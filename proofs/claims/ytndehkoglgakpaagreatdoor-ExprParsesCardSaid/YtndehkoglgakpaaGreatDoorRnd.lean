/- Parsing the tokens of a valid formula gives the formula, unless it is too deep; plain. Condition: the numbers are words, and the tokens are not too many. -/
import Derived.Test.YtndehkoglgakpaaGreatDoorPrp
import Derived.Lib.ItoaLen
namespace Go.Proofs.YtndehkoglgakpaaGreatDoor
namespace Ex
open Tok (Tk)

/-- A valid token, not long. -/
def okTk (t : Tk) : Bool := Tok.valid t && decide (t.text.length ≤ 50)
theorem okTk_of {t : Tk} (h1 : Tok.valid t = true) (h2 : t.text.length ≤ 50) : okTk t = true := by unfold okTk; rw [h1]; simpa using h2
theorem dec_le (n : Nat) (h : n ≤ 4294967295) : (Lib.decDigits n).length ≤ 50 := by
  have := Lib.itoa_length_le (n : Int) (by omega) (by omega)
  rw [Lib.itoa_nonneg] at this
  omega
abbrev Tr := List Op × (List Tk × Int)
/-- A part of a formula: its operations, its tokens, its level. -/
structure Good (s : Tr) : Prop where
  lo : 1 ≤ s.2.2
  hi : s.2.2 ≤ 11
  ok : Ok s.1 s.2.1 s.2.2.toNat
  hd : ∃ t r, s.2.1 = t :: r ∧ t.text ≠ [41]
  val : s.2.1.all okTk = true
theorem inP_ok {s : Tr} (h : Good s) {n : Nat} (h2 : n ≤ 11) : Ok s.1 (inP s.2.1 s.2.2 n) n ∧ (inP s.2.1 s.2.2 n).all okTk = true ∧ ∃ t r, inP s.2.1 s.2.2 n = t :: r ∧ t.text ≠ [41] := by
  have hlo := h.lo
  have hhi := h.hi
  unfold inP
  split
  · exact ⟨h.ok.to (by omega) (by omega), h.val, h.hd⟩
  · refine ⟨(ok_par (h.ok.to (by omega) (by omega))).to h2 (by omega), ?_, ⟨3, [40]⟩, s.2.1 ++ [⟨3, [41]⟩], rfl, by decide⟩
    simp only [List.all_append, h.val, Bool.and_true]
    decide
theorem pos_ite {c : Prop} [Decidable c] {a b : Nat} (h : 0 < if c then a else b) : c ∨ 0 < b := by
  by_cases hc : c
  · exact .inl hc
  · rw [if_neg hc] at h; exact .inr h
theorem lev_sym {t : List UInt8} (h : 0 < levL t) : Tok.isSym t = true ∧ t ≠ [41] := by
  unfold levL at h
  have key : ∀ x : List UInt8, (t == x) = true → Tok.isSym x = true ∧ x ≠ [41] → Tok.isSym t = true ∧ t ≠ [41] := fun x e hx => by
    have e := eq_of_beq e
    subst e; exact hx
  iterate 18 (rcases pos_ite h with e | h; · exact key _ e (by decide))
  exact absurd h (by decide)
theorem un_sym {t : List UInt8} (h : unL t = true) : Tok.isSym t = true ∧ t ≠ [41] := by
  unfold unL at h
  simp only [Bool.or_eq_true, beq_iff_eq] at h
  rcases h with (rfl | rfl) | rfl <;> decide
theorem val_sym {t : List UInt8} (h : Tok.isSym t = true) : okTk ⟨3, t⟩ = true := okTk_of h (by
  have hm : ∀ x ∈ Tok.symsL, x.length ≤ 50 := by decide
  exact hm t (by simpa [Tok.isSym] using h))
theorem val_name {t : List UInt8} (h : Tok.nameOk t = true) : okTk ⟨1, t⟩ = true := okTk_of h (by
  unfold Tok.nameOk at h
  simp only [Bool.and_eq_true, decide_eq_true_eq] at h
  have := h.1.1.2
  show t.length ≤ 50
  omega)
theorem name_hd {t : List UInt8} (h : Tok.nameOk t = true) : t ≠ [41] := by rintro rfl; revert h; decide
theorem call_facts {t : List UInt8} (h : Tok.nameOk t = true) (L : List (List Tk)) (hL : ∀ x ∈ L, x.all okTk = true) : (callT t L).all okTk = true ∧ ∃ a r, callT t L = a :: r ∧ a.text ≠ [41] := by
  refine ⟨?_, ⟨1, t⟩, _, rfl, name_hd h⟩
  have hs : (sepd L).all okTk = true := by
    cases L with
    | nil => rfl
    | cons x L =>
      rw [sepd_cons, List.all_append, hL x (by simp), Bool.true_and]
      simp only [List.all_flatMap, List.all_eq_true]
      intro y hy
      intro z hz
      rcases List.mem_cons.1 hz with rfl | hz
      · decide
      · exact List.all_eq_true.1 (hL y (by simp [hy])) z hz
  unfold callT
  simp only [List.all_append, List.all_cons, List.all_nil, Bool.and_true, hs, val_name h, Bool.true_and]
  decide
theorem opr_cases {o : Op} (h : (opr o).2 = true) : (∃ n, o = ⟨1, [], n⟩ ∧ (opr o).1 = 0) ∨ (∃ t, o = ⟨2, t, 0⟩ ∧ idB t = true ∧ (opr o).1 = 0) ∨ (∃ t n, o = ⟨3, t, n⟩ ∧ idB t = true ∧ n ≤ 8 ∧ (opr o).1 = n) ∨ (o = ⟨4, [], 0⟩ ∧ (opr o).1 = 1) ∨ (o = ⟨5, [], 0⟩ ∧ (opr o).1 = 0) ∨ (∃ t, o = ⟨6, t, 0⟩ ∧ unL t = true ∧ (opr o).1 = 1) ∨ (∃ t, o = ⟨7, t, 0⟩ ∧ 0 < levL t ∧ (opr o).1 = 2) := by
  obtain ⟨k, t, n⟩ := o
  unfold opr at h ⊢
  dsimp only at h ⊢
  by_cases h1 : k = 1
  · subst h1; left; simp at h; subst h; exact ⟨n, rfl, rfl⟩
  · rw [if_neg h1] at h; rw [if_neg h1]; right
    by_cases h2 : k = 2
    · subst h2; left; simp at h; obtain ⟨ha, rfl⟩ := h; exact ⟨t, rfl, ha, rfl⟩
    · rw [if_neg h2] at h; rw [if_neg h2]; right
      by_cases h3 : k = 3
      · subst h3; left; simp at h; exact ⟨t, n, rfl, h.1, h.2, rfl⟩
      · rw [if_neg h3] at h; rw [if_neg h3]; right
        by_cases h4 : k = 4
        · subst h4; left; simp at h; obtain ⟨rfl, rfl⟩ := h; exact ⟨rfl, rfl⟩
        · rw [if_neg h4] at h; rw [if_neg h4]; right
          by_cases h5 : k = 5
          · subst h5; left; simp at h; obtain ⟨rfl, rfl⟩ := h; exact ⟨rfl, rfl⟩
          · rw [if_neg h5] at h; rw [if_neg h5]; right
            by_cases h6 : k = 6
            · subst h6; left; simp at h; obtain ⟨ha, rfl⟩ := h; exact ⟨t, rfl, ha, rfl⟩
            · rw [if_neg h6] at h; rw [if_neg h6]; right
              by_cases h7 : k = 7
              · subst h7; simp at h; obtain ⟨ha, rfl⟩ := h; exact ⟨t, rfl, ha, rfl⟩
              · rw [if_neg h7] at h; simp at h
theorem mk11 {g : List Op} {ts : List Tk} (h : Ok g ts 11) (hd : ∃ t r, ts = t :: r ∧ t.text ≠ [41]) (hv : ts.all okTk = true) : Good (g, (ts, 11)) :=
  ⟨by show (1 : Int) ≤ 11; decide, by show (11 : Int) ≤ 11; decide, h, hd, hv⟩
theorem good_part (a : List Tr) (o : Op) (h : ∀ s ∈ a, Good s) (ho : (opr o).2 = true) (hn : a.length = (opr o).1.toNat) (hw : 0 ≤ o.n ∧ o.n < 4294967296) : Good (a.flatMap (·.1) ++ [o], partL o (a.map (·.2))) := by
  rcases opr_cases ho with ⟨n, rfl, e⟩ | ⟨t, rfl, ht, e⟩ | ⟨t, n, rfl, ht, hn8, e⟩ | ⟨rfl, e⟩ | ⟨rfl, e⟩ | ⟨t, rfl, ht, e⟩ | ⟨t, rfl, ht, e⟩
  · rw [e] at hn
    obtain rfl := List.length_eq_zero_iff.1 hn
    dsimp only at hw
    obtain ⟨m, rfl⟩ : ∃ m : Nat, n = m := ⟨n.toNat, by omega⟩
    have hm : m ≤ 4294967295 := by omega
    have hnd := Tok.number_dec m hm
    refine mk11 (ok_num m hm) ⟨⟨2, Lib.decDigits m⟩, [], rfl, fun h => ?_⟩ ?_
    · rw [show Lib.decDigits m = [41] from h, show Tok.number [41] = (0, 4) by decide] at hnd
      simp at hnd
    · show (okTk ⟨2, Lib.decDigits m⟩ && true) = true
      rw [Bool.and_true]
      refine okTk_of ?_ (dec_le m hm)
      unfold Tok.valid
      rw [if_neg (by dsimp only; decide), if_pos rfl, hnd]; rfl
  · rw [e] at hn
    obtain rfl := List.length_eq_zero_iff.1 hn
    have hf := id_facts ht
    exact mk11 (ok_name ht) ⟨⟨1, t⟩, [], rfl, name_hd hf.2.2.2.2⟩ (by show (okTk ⟨1, t⟩ && true) = true; rw [val_name hf.2.2.2.2]; rfl)
  · rw [e] at hn
    have hf := id_facts ht
    have hn2 : n = (a.length : Int) := by dsimp only at hw; omega
    subst hn2
    have hc := ok_call ht (a.map fun s => (s.1, s.2.1)) (fun y hy => by
      obtain ⟨s, hs, rfl⟩ := List.mem_map.1 hy
      exact (h s hs).ok.to (by have := (h s hs).lo; omega) (by have := (h s hs).hi; omega)) (by rw [List.length_map]; omega) (fun y hy => by
      obtain ⟨s, hs, rfl⟩ := List.mem_map.1 hy
      exact (h s hs).hd)
    have hcf := call_facts hf.2.2.2.2 (a.map (fun s => s.2.1)) (fun x hx => by
      obtain ⟨s, hs, rfl⟩ := List.mem_map.1 hx
      exact (h s hs).val)
    have e1 : partL ⟨3, t, (a.length : Int)⟩ (a.map (·.2)) = (callT t (a.map (fun s => s.2.1)), 11) := by
      unfold partL
      rw [if_neg (by dsimp only; decide), if_neg (by dsimp only; decide), if_pos rfl, List.map_map]
      rfl
    rw [e1]
    rw [List.map_map, List.length_map, List.flatMap_map] at hc
    exact mk11 hc hcf.2 hcf.1
  · rw [e] at hn
    obtain ⟨s, rfl⟩ := List.length_eq_one_iff.1 hn
    have hs := h s (by simp)
    have hcf := call_facts (t := [108, 111, 97, 100]) (by decide) [s.2.1] (fun x hx => by simp at hx; subst hx; exact hs.val)
    have hc := ok_load (hs.ok.to (n := 1) (by have := hs.lo; omega) (by have := hs.hi; omega))
    rw [show [s].flatMap (·.1) = s.1 by simp]
    exact mk11 hc hcf.2 hcf.1
  · rw [e] at hn
    obtain rfl := List.length_eq_zero_iff.1 hn
    have hcf := call_facts (t := [105, 110]) (by decide) [] (fun x hx => by simp at hx)
    exact mk11 ok_in hcf.2 hcf.1
  · rw [e] at hn
    obtain ⟨s, rfl⟩ := List.length_eq_one_iff.1 hn
    have hs := h s (by simp)
    obtain ⟨hi1, hi2, _⟩ := inP_ok hs (n := 11) (by decide)
    have hc := ok_un ht hi1
    rw [show [s].flatMap (·.1) = s.1 by simp]
    refine mk11 hc ⟨⟨3, t⟩, _, rfl, (un_sym ht).2⟩ ?_
    show (([⟨3, t⟩] : List Tk) ++ inP s.2.1 s.2.2 (11 : Nat)).all okTk = true
    rw [List.all_append, hi2]
    simp [val_sym (un_sym ht).1]
  · rw [e] at hn
    obtain ⟨x, y, rfl⟩ : ∃ x y, a = [x, y] := by
      match a, hn with
      | [x, y], _ => exact ⟨x, y, rfl⟩
    have hx := h x (by simp)
    have hy := h y (by simp)
    have hl := lev_lt11 t
    obtain ⟨hi1, hi2, a1, r1, hi3, hi4⟩ := inP_ok hx (n := levL t) (by omega)
    obtain ⟨hj1, hj2, _⟩ := inP_ok hy (n := levL t + 1) (by omega)
    have hl10 : levL t ≤ 10 := by omega
    have hc := ok_bin (t := t) rfl ht hl10 hi1 hj1
    have e1 : partL ⟨7, t, 0⟩ ([x, y].map (·.2)) = (inP x.2.1 x.2.2 (levL t : Nat) ++ [⟨3, t⟩] ++ inP y.2.1 y.2.2 ((levL t + 1 : Nat)), ((levL t : Nat) : Int)) := rfl
    rw [e1, show [x, y].flatMap (·.1) = x.1 ++ y.1 by simp]
    refine Good.mk (by show (1 : Int) ≤ ((levL t : Nat) : Int); omega) (by show ((levL t : Nat) : Int) ≤ 11; omega) hc ?_ ?_
    · exact ⟨a1, r1 ++ [(⟨3, t⟩ : Tk)] ++ inP y.2.1 y.2.2 ((levL t + 1 : Nat)), by show inP x.2.1 x.2.2 (levL t : Nat) ++ [(⟨3, t⟩ : Tk)] ++ inP y.2.1 y.2.2 ((levL t + 1 : Nat)) = _; rw [hi3]; simp, hi4⟩
    · show (inP x.2.1 x.2.2 (levL t : Nat) ++ [(⟨3, t⟩ : Tk)] ++ inP y.2.1 y.2.2 ((levL t + 1 : Nat))).all okTk = true
      rw [List.all_append, List.all_append, hi2, hj2]
      simp [val_sym (lev_sym ht).1]
def gstep (S : List Tr) (o : Op) : List Tr := S.take (S.length - (opr o).1.toNat) ++ [((S.drop (S.length - (opr o).1.toNat)).flatMap (·.1) ++ [o], partL o ((S.drop (S.length - (opr o).1.toNat)).map (·.2)))]
theorem gstep_map (S : List Tr) (o : Op) : (gstep S o).map (·.2) = pstep (S.map (·.2)) o := by
  unfold gstep pstep
  rw [List.map_append, List.map_take, List.length_map, ← List.map_drop]
  rfl
theorem gstep_flat (S : List Tr) (o : Op) : (gstep S o).flatMap (·.1) = S.flatMap (·.1) ++ [o] := by
  unfold gstep
  rw [List.flatMap_append]
  have h : S.flatMap (·.1) = (S.take (S.length - (opr o).1.toNat)).flatMap (·.1) ++ (S.drop (S.length - (opr o).1.toNat)).flatMap (·.1) := by
    rw [← List.flatMap_append, List.take_append_drop]
  rw [h]
  simp
theorem good_fold (f : List Op) : ∀ (S : List Tr), (∀ s ∈ S, Good s) → (∀ o ∈ f, 0 ≤ o.n ∧ o.n < 4294967296) → chk (S.length : Nat) f = 0 → ∃ s, Good s ∧ f.foldl gstep S = [s] := by
  induction f with
  | nil =>
    intro S hS _ hc
    simp only [chk] at hc
    split at hc
    · rename_i h
      obtain ⟨s, rfl⟩ := List.length_eq_one_iff.1 (show S.length = 1 by omega)
      exact ⟨s, hS s (by simp), rfl⟩
    · cases hc
  | cons o f ih =>
    intro S hS hw hc
    rw [chk_cons] at hc
    have hwo := hw o (by simp)
    have hlo := opr_lo hwo.1
    split at hc
    · rename_i h
      rw [List.foldl_cons]
      have hl : (gstep S o).length = S.length - (opr o).1.toNat + 1 := by unfold gstep; simp
      refine ih (gstep S o) (fun s hs => ?_) (fun u hu => hw u (by simp [hu])) (by rw [hl]; rw [show ((S.length - (opr o).1.toNat + 1 : Nat) : Int) = (S.length : Int) + (1 - (opr o).1) by have := h.2; omega]; exact hc)
      unfold gstep at hs
      rcases List.mem_append.1 hs with hs | hs
      · exact hS s (List.mem_of_mem_take hs)
      · simp at hs
        subst hs
        have hlen : (S.drop (S.length - (opr o).1.toNat)).length = (opr o).1.toNat := by rw [List.length_drop]; have := h.2; omega
        simpa using good_part (S.drop (S.length - (opr o).1.toNat)) o (fun s hs => hS s (List.mem_of_mem_drop hs)) h.1 hlen hwo
    · cases hc
theorem fold_map (f : List Op) : ∀ S : List Tr, (f.foldl gstep S).map (·.2) = f.foldl pstep (S.map (·.2)) := by
  induction f with
  | nil => intro S; rfl
  | cons o f ih => intro S; rw [List.foldl_cons, List.foldl_cons, ih, gstep_map]
theorem fold_flat (f : List Op) : ∀ S : List Tr, (f.foldl gstep S).flatMap (·.1) = S.flatMap (·.1) ++ f := by
  induction f with
  | nil => intro S; simp
  | cons o f ih => intro S; rw [List.foldl_cons, ih, gstep_flat]; simp
/-- The tokens of a formula. -/
theorem toks_ok (f : List Op) (hw : ∀ o ∈ f, 0 ≤ o.n ∧ o.n < 4294967296) (h : chk 0 f = 0) : (toks f).all okTk = true ∧ Ok f (toks f) 1 ∧ toks f ≠ [] := by
  obtain ⟨s, hs, he⟩ := good_fold f [] (by simp) hw h
  have e1 := fold_map f []
  have e2 := fold_flat f []
  rw [he] at e1 e2
  simp at e1 e2
  have e3 : toks f = s.2.1 := by unfold toks; rw [← e1]; rfl
  rw [e3, ← e2]
  have hlo := hs.lo
  have hhi := hs.hi
  obtain ⟨t, r, hd, _⟩ := hs.hd
  exact ⟨hs.val, hs.ok.to (by omega) (by omega), by rw [hd]; simp⟩
theorem okTk_all {l : List Tk} (h : l.all okTk = true) : l.all Tok.valid = true ∧ ∀ k (h : k < l.length), l[k].text.length ≤ 50 := by
  simp only [okTk, List.all_eq_true, Bool.and_eq_true, decide_eq_true_eq] at h
  exact ⟨List.all_eq_true.2 fun t ht => (h t ht).1, fun k hk => (h _ (List.getElem_mem hk)).2⟩
theorem round_trip (f : List Op) (hw : ∀ o ∈ f, 0 ≤ o.n ∧ o.n < 4294967296) (h : chk 0 f = 0) (hl : (toks f).length ≤ 256) : parse (toks f) = ([], 11) ∨ parse (toks f) = (f, 0) := by
  obtain ⟨h1, h2, h3⟩ := toks_ok f hw h
  have hp : (Tok.printed (toks f)).2 = 0 := by unfold Tok.printed; rw [if_neg (by omega), if_pos (okTk_all h1).1]
  unfold parse
  rw [if_neg (by rw [hp]; decide)]
  dsimp only
  have he : nxt (toks f) (0 + (toks f).length) = [] := nxt_end (by omega)
  rcases h2.q (l := toks f) (k := (toks f).length * 12 + 11) (d := 0) (i := 0) (out := []) (At.all _) (by omega) (by rw [he]; decide) (by rw [he]; decide) with h4 | h4
  · left; rw [if_pos (by rw [h4]; decide), h4]
  · right; rw [h4]; dsimp only; rw [if_neg (by decide), if_neg (by omega)]; rfl
end Ex
end Go.Proofs.YtndehkoglgakpaaGreatDoor
