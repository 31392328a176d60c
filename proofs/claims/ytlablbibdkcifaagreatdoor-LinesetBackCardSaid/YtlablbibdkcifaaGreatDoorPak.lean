/- Sorted lines, merged, inserted, filtered and packed; plain. No condition. -/
import Derived.Test.YtlablbibdkcifaaGreatDoorVal
namespace Go.Proofs.YtlablbibdkcifaaGreatDoor
namespace Ls
open Tr.Tre (bl_irr bl_trans bl_total bl_asym bl_ne)

abbrev Ln := LN × Int
/-- Whether a line is before another one. -/
def bfr (x y : Ln) : Bool := less x.1 y.1 || (decide (x.1 = y.1) && decide (x.2 < y.2))
theorem bfr_iff (x y : Ln) : bfr x y = true ↔ pl x.1 x.2 y.1 y.2 := by
  unfold bfr pl
  simp only [Bool.or_eq_true, Bool.and_eq_true, decide_eq_true_eq]
/-- Lines in order; equal ones may follow each other. -/
def Srt (l : List Ln) : Prop := l.Pairwise fun x y => ¬ pl y.1 y.2 x.1 x.2
theorem srt_lns : ∀ {l : List Sp}, Apart l → Srt (lns l)
  | [], _ => .nil
  | s :: t, h => by
    unfold Srt
    rw [lns_cons, List.pairwise_append]
    refine ⟨?_, srt_lns h.tail, fun x hx y hy => ?_⟩
    · rw [List.pairwise_map]
      refine List.pairwise_lt_range.imp fun {a b} hab => ?_
      rintro (h | ⟨_, h⟩)
      · unfold less at h; rw [bl_irr] at h; cases h
      · dsimp only at h; omega
    · obtain ⟨i, hi, rfl⟩ := List.mem_map.1 hx
      rw [List.mem_range] at hi
      obtain ⟨u, hu, e1, e2, e3⟩ := has_iff.1 ((mem_lns t y.1 y.2).1 hy)
      have g := h.head.2 u hu
      intro hc
      rcases g with ⟨g1, g2⟩ | g
      · rcases hc with hc | ⟨_, hc⟩
        · dsimp only at hc; rw [← e1, ← g1] at hc; unfold less at hc; rw [bl_irr] at hc; cases hc
        · dsimp only at hc; omega
      · rcases hc with hc | ⟨hc, _⟩
        · dsimp only at hc
          rw [← e1] at hc
          unfold less at hc g
          rw [bl_asym g] at hc; cases hc
        · dsimp only at hc
          rw [← e1] at hc
          rw [hc] at g; unfold less at g; rw [bl_irr] at g; cases g
/-- Two lists of lines as one. -/
def mrg : List Ln → List Ln → List Ln
  | [], b => b
  | x :: a, [] => x :: a
  | x :: a, y :: b => if bfr x y = true then x :: mrg a (y :: b) else y :: mrg (x :: a) b
  termination_by a b => a.length + b.length
theorem mrg_nil (a : List Ln) : mrg a [] = a := by cases a <;> simp [mrg]
theorem mrg_left (a b : List Ln) (i k : Nat) (hi : i < a.length) (hk : k < b.length) (h : bfr a[i] b[k] = true) : mrg (a.drop i) (b.drop k) = a[i] :: mrg (a.drop (i + 1)) (b.drop k) := by
  rw [List.drop_eq_getElem_cons hi, List.drop_eq_getElem_cons hk, mrg, if_pos h]
theorem mrg_right (a b : List Ln) (i k : Nat) (hi : i < a.length) (hk : k < b.length) (h : bfr a[i] b[k] = false) : mrg (a.drop i) (b.drop k) = b[k] :: mrg (a.drop i) (b.drop (k + 1)) := by
  rw [List.drop_eq_getElem_cons hi, List.drop_eq_getElem_cons hk, mrg, if_neg (by rw [h]; decide)]
theorem mrg_a (a b : List Ln) (i k : Nat) (hi : i < a.length) (hk : b.length ≤ k) : mrg (a.drop i) (b.drop k) = a[i] :: mrg (a.drop (i + 1)) (b.drop k) := by
  rw [List.drop_of_length_le hk, mrg_nil, mrg_nil, List.drop_eq_getElem_cons hi]
theorem mrg_b (a b : List Ln) (i k : Nat) (hi : a.length ≤ i) (hk : k < b.length) : mrg (a.drop i) (b.drop k) = b[k] :: mrg (a.drop i) (b.drop (k + 1)) := by
  rw [List.drop_of_length_le hi, mrg, mrg, List.drop_eq_getElem_cons hk]
theorem mem_mrg : ∀ (a b : List Ln) (x : Ln), x ∈ mrg a b ↔ x ∈ a ∨ x ∈ b
  | [], b, x => by simp [mrg]
  | y :: a, [], x => by simp [mrg]
  | y :: a, z :: b, x => by
    rw [mrg]
    split
    · rw [List.mem_cons, mem_mrg a (z :: b), List.mem_cons (a := x) (b := y), or_assoc]
    · rw [List.mem_cons, mem_mrg (y :: a) b, List.mem_cons (a := x) (b := z)]
      constructor
      · rintro (h | h | h)
        · exact .inr (.inl h)
        · exact .inl h
        · exact .inr (.inr h)
      · rintro (h | h | h)
        · exact .inr (.inl h)
        · exact .inl h
        · exact .inr (.inr h)
  termination_by a b => a.length + b.length
theorem srt_mrg : ∀ {a b : List Ln}, Srt a → Srt b → Srt (mrg a b)
  | [], b, _, hb => by simpa [mrg] using hb
  | y :: a, [], ha, _ => by simpa [mrg] using ha
  | y :: a, z :: b, ha, hb => by
    have a1 := List.pairwise_cons.1 ha
    have b1 := List.pairwise_cons.1 hb
    rw [mrg]
    by_cases h : bfr y z = true
    · rw [if_pos h]
      refine List.pairwise_cons.2 ⟨fun x hx => ?_, srt_mrg a1.2 hb⟩
      have hyz := (bfr_iff y z).1 h
      rcases (mem_mrg a (z :: b) x).1 hx with hx | hx
      · exact a1.1 x hx
      · rcases List.mem_cons.1 hx with rfl | hx
        · exact fun hc => pl_irr _ _ (pl_trans hc hyz)
        · exact fun hc => b1.1 x hx (pl_trans hc hyz)
    · rw [if_neg h]
      have hyz : ¬ pl y.1 y.2 z.1 z.2 := fun hc => h ((bfr_iff y z).2 hc)
      refine List.pairwise_cons.2 ⟨fun x hx => ?_, srt_mrg ha b1.2⟩
      rcases (mem_mrg (y :: a) b x).1 hx with hx | hx
      · rcases List.mem_cons.1 hx with rfl | hx
        · exact hyz
        · exact npl_trans hyz (a1.1 x hx)
      · exact b1.1 x hx
  termination_by a b => a.length + b.length
theorem len_mrg : ∀ (a b : List Ln), (mrg a b).length = a.length + b.length
  | [], b => by simp [mrg]
  | y :: a, [] => by simp [mrg]
  | y :: a, z :: b => by
    rw [mrg]
    split
    · rw [List.length_cons, len_mrg a (z :: b)]; simp only [List.length_cons]; omega
    · rw [List.length_cons, len_mrg (y :: a) b]; simp only [List.length_cons]; omega
  termination_by a b => a.length + b.length
/-- A line is put behind those that are not behind it. -/
def ins (x : Ln) : List Ln → List Ln
  | [] => [x]
  | y :: t => if bfr x y = true then x :: y :: t else y :: ins x t
/-- Where it is put. -/
theorem ins_at (x : Ln) : ∀ (l : List Ln) (k : Nat), k ≤ l.length → (∀ j, j < k → ∀ hj : j < l.length, bfr x l[j] = false) → (∀ h : k < l.length, bfr x l[k] = true) → ins x l = l.take k ++ x :: l.drop k
  | [], k, _, _, _ => by simp [ins]
  | y :: t, 0, _, _, h => by rw [ins, if_pos (show bfr x y = true from h (by simp))]; rfl
  | y :: t, k + 1, hk, h1, h2 => by
    rw [ins, if_neg (by rw [show bfr x y = false from h1 0 (by omega) (by simp)]; decide), ins_at x t k (by simpa using hk) (fun j h hj => h1 (j + 1) (by omega) (by simpa using hj)) (fun h => h2 (by simpa using h))]
    rfl
theorem mem_ins (x : Ln) : ∀ (l : List Ln) (z : Ln), z ∈ ins x l ↔ z = x ∨ z ∈ l
  | [], z => by simp [ins]
  | y :: t, z => by
    rw [ins]
    split
    · rw [List.mem_cons]
    · rw [List.mem_cons, mem_ins x t, List.mem_cons]
      constructor
      · rintro (h | h | h)
        · exact .inr (.inl h)
        · exact .inl h
        · exact .inr (.inr h)
      · rintro (h | h | h)
        · exact .inr (.inl h)
        · exact .inl h
        · exact .inr (.inr h)
theorem srt_ins (x : Ln) : ∀ {l : List Ln}, Srt l → Srt (ins x l)
  | [], _ => by simp [ins, Srt]
  | y :: t, h => by
    have h1 := List.pairwise_cons.1 h
    rw [ins]
    by_cases hb : bfr x y = true
    · rw [if_pos hb]
      have hxy := (bfr_iff x y).1 hb
      refine List.pairwise_cons.2 ⟨fun z hz => ?_, h⟩
      rcases List.mem_cons.1 hz with rfl | hz
      · exact fun hc => pl_irr _ _ (pl_trans hc hxy)
      · exact fun hc => h1.1 z hz (pl_trans hc hxy)
    · rw [if_neg hb]
      refine List.pairwise_cons.2 ⟨fun z hz => ?_, srt_ins x h1.2⟩
      rcases (mem_ins x t z).1 hz with rfl | hz
      · exact fun hc => hb ((bfr_iff _ _).2 hc)
      · exact h1.1 z hz
theorem len_ins (x : Ln) : ∀ (l : List Ln), (ins x l).length = l.length + 1
  | [] => rfl
  | y :: t => by
    rw [ins]
    split
    · rfl
    · rw [List.length_cons, len_ins x t, List.length_cons]
/-- Lines, each put where it belongs. -/
def srt (l : List Ln) : List Ln := l.foldl (fun o x => ins x o) []
theorem srt_take (l : List Ln) (k : Nat) (h : k < l.length) : srt (l.take (k + 1)) = ins l[k] (srt (l.take k)) := by
  unfold srt
  rw [List.take_succ_eq_append_getElem h, List.foldl_append]
  rfl
theorem srt_fold (l : List Ln) : ∀ (o : List Ln), Srt o → Srt (l.foldl (fun o x => ins x o) o) ∧ (∀ z, z ∈ l.foldl (fun o x => ins x o) o ↔ z ∈ o ∨ z ∈ l) ∧ (l.foldl (fun o x => ins x o) o).length = o.length + l.length := by
  induction l with
  | nil => intro o h; exact ⟨h, by simp, by simp⟩
  | cons x t ih =>
    intro o h
    obtain ⟨h1, h2, h3⟩ := ih (ins x o) (srt_ins x h)
    refine ⟨h1, fun z => ?_, ?_⟩
    · rw [List.foldl_cons, h2, mem_ins, List.mem_cons]
      constructor
      · rintro ((h | h) | h)
        · exact .inr (.inl h)
        · exact .inl h
        · exact .inr (.inr h)
      · rintro (h | h | h)
        · exact .inl (.inr h)
        · exact .inl (.inl h)
        · exact .inr h
    · rw [List.foldl_cons, h3, len_ins, List.length_cons]; omega
theorem srt_ok (l : List Ln) : Srt (srt l) ∧ (∀ z, z ∈ srt l ↔ z ∈ l) ∧ (srt l).length = l.length := by
  obtain ⟨h1, h2, h3⟩ := srt_fold l [] .nil
  exact ⟨h1, fun z => (h2 z).trans (by simp), h3.trans (by simp)⟩
/-- One more line behind spans. -/
def pk (out : List Sp) (x : Ln) : List Sp := match out.getLast? with
  | none => out ++ [⟨x.1, x.2, x.2 + 1⟩]
  | some s => if s.path = x.1 ∧ x.2 < s.hi then out else if s.path = x.1 ∧ x.2 = s.hi then out.dropLast ++ [⟨s.path, s.lo, s.hi + 1⟩] else out ++ [⟨x.1, x.2, x.2 + 1⟩]
def pack (l : List Ln) : List Sp := l.foldl pk []
theorem pack_take (l : List Ln) (k : Nat) (h : k < l.length) : pack (l.take (k + 1)) = pk (pack (l.take k)) l[k] := by
  unfold pack
  rw [List.take_succ_eq_append_getElem h, List.foldl_append]
  rfl
theorem pk_nil (x : Ln) : pk [] x = [⟨x.1, x.2, x.2 + 1⟩] := rfl
theorem pk_in (i : List Sp) (s : Sp) (x : Ln) (h : s.path = x.1 ∧ x.2 < s.hi) : pk (i ++ [s]) x = i ++ [s] := by
  unfold pk
  rw [List.getLast?_append]
  simp only [List.getLast?_singleton, Option.some_or]
  exact if_pos h
theorem pk_on (i : List Sp) (s : Sp) (x : Ln) (h0 : s.path = x.1) (h : x.2 = s.hi) : pk (i ++ [s]) x = i ++ [⟨s.path, s.lo, s.hi + 1⟩] := by
  unfold pk
  rw [List.getLast?_append]
  simp only [List.getLast?_singleton, Option.some_or]
  rw [if_neg (by omega), if_pos ⟨h0, h⟩, List.dropLast_concat]
theorem pk_new (i : List Sp) (s : Sp) (x : Ln) (h : s.path = x.1 → s.hi < x.2) : pk (i ++ [s]) x = i ++ [s] ++ [⟨x.1, x.2, x.2 + 1⟩] := by
  unfold pk
  rw [List.getLast?_append]
  simp only [List.getLast?_singleton, Option.some_or]
  rw [if_neg (fun c => by have := h c.1; omega), if_neg (fun c => by have := h c.1; omega)]
theorem pk_len (out : List Sp) (x : Ln) : (pk out x).length ≤ out.length + 1 := by
  rcases List.eq_nil_or_concat out with rfl | ⟨i, s, rfl⟩
  · simp [pk_nil]
  · by_cases h : s.path = x.1
    · rcases Int.lt_trichotomy x.2 s.hi with c | c | c
      · rw [List.concat_eq_append, pk_in i s x ⟨h, c⟩]; omega
      · rw [List.concat_eq_append, pk_on i s x h c]; simp
      · rw [List.concat_eq_append, pk_new i s x (fun _ => c)]; simp
    · rw [List.concat_eq_append, pk_new i s x (fun c => absurd c h)]; simp
theorem pack_len (l : List Ln) : (pack l).length ≤ l.length := by
  have : ∀ (l : List Ln) (o : List Sp), (l.foldl pk o).length ≤ o.length + l.length := by
    intro l
    induction l with
    | nil => intro o; simp
    | cons x t ih => intro o; have := ih (pk o x); have := pk_len o x; simp only [List.foldl_cons, List.length_cons]; omega
  simpa [pack] using this l []
/-- What stands when lines have been packed: the spans, and the line at their end. -/
structure Pkd (out : List Sp) (done : List Ln) : Prop where
  apart : Apart out
  has : ∀ p m, has out p m = true ↔ (p, m) ∈ done
  last : ∀ i s, out = i ++ [s] → (s.path, s.hi - 1) ∈ done
  paths : ∀ s ∈ out, ∃ x ∈ done, s.path = x.1
  ends : ∀ s ∈ out, (s.path, s.lo) ∈ done ∧ (s.path, s.hi - 1) ∈ done
theorem apart_snoc {i : List Sp} {s : Sp} : Apart (i ++ [s]) ↔ Apart i ∧ s.lo < s.hi ∧ ∀ x ∈ i, Gap x s := by
  constructor
  · intro h
    have g := List.pairwise_append.1 h.gap
    exact ⟨⟨fun x hx => h.ne x (by simp [hx]), g.1⟩, h.ne s (by simp), fun x hx => g.2.2 x hx s (by simp)⟩
  · rintro ⟨h1, h2, h3⟩
    refine ⟨fun x hx => ?_, List.pairwise_append.2 ⟨h1.gap, by simp, fun x hx y hy => ?_⟩⟩
    · rcases List.mem_append.1 hx with hx | hx
      · exact h1.ne x hx
      · rw [List.mem_singleton.1 hx]; exact h2
    · rw [List.mem_singleton.1 hy]; exact h3 x hx
theorem has_append (a b : List Sp) (p : LN) (m : Int) : has (a ++ b) p m = (has a p m || has b p m) := by unfold has; rw [List.any_append]
theorem has_one (s : Sp) (p : LN) (m : Int) : has [s] p m = inSp p m s := by simp [has]
theorem Pkd.step_new {i : List Sp} {s : Sp} {done : List Ln} {x : Ln} (h : Pkd (i ++ [s]) done) (a2 : s.lo < s.hi) (a3 : ∀ u ∈ i, Gap u s) (last_inj : ∀ {i' : List Sp} {s' : Sp} {j : List Sp} {t : Sp}, j ++ [t] = i' ++ [s'] → s' = t) (hn : s.path = x.1 → s.hi < x.2) (g : (s.path = x.1 ∧ s.hi < x.2) ∨ less s.path x.1 = true) : Pkd (pk (i ++ [s]) x) (done ++ [x]) := by
  rw [pk_new i s x hn]
  have gs : Gap s ⟨x.1, x.2, x.2 + 1⟩ := g
  refine ⟨apart_snoc.2 ⟨h.apart, by show x.2 < x.2 + 1; omega, fun u hu => ?_⟩, fun p m => ?_, fun i' s' e => ?_, fun u hu => ?_, fun u hu => ?_⟩
  · rcases List.mem_append.1 hu with hu | hu
    · exact gap_trans a2 (a3 u hu) gs
    · rw [List.mem_singleton.1 hu]; exact gs
  · rw [has_append, Bool.or_eq_true, h.has, has_one, inSp_iff, List.mem_append, List.mem_singleton]
    constructor
    · rintro (q | ⟨q1, q2, q3⟩)
      · exact .inl q
      · exact .inr (Prod.ext q1.symm (by show m = x.2; dsimp only at q2 q3; omega))
    · rintro (q | rfl)
      · exact .inl q
      · exact .inr ⟨rfl, Int.le_refl _, by show m < m + 1; omega⟩
  · rw [last_inj e]
    refine List.mem_append_right _ ?_
    rw [List.mem_singleton]
    exact Prod.ext rfl (by show x.2 + 1 - 1 = x.2; omega)
  · rcases List.mem_append.1 hu with hu | hu
    · obtain ⟨y, hy, e⟩ := h.paths u hu
      exact ⟨y, List.mem_append_left _ hy, e⟩
    · rw [List.mem_singleton.1 hu]; exact ⟨x, by simp, rfl⟩
  · rcases List.mem_append.1 hu with hu | hu
    · have := h.ends u hu
      exact ⟨List.mem_append_left _ this.1, List.mem_append_left _ this.2⟩
    · rw [List.mem_singleton.1 hu]
      refine ⟨List.mem_append_right _ (by simp), List.mem_append_right _ ?_⟩
      rw [List.mem_singleton]
      exact Prod.ext rfl (by show x.2 + 1 - 1 = x.2; omega)
theorem Pkd.step {out : List Sp} {done : List Ln} {x : Ln} (h : Pkd out done) (hx : ∀ y ∈ done, ¬ pl x.1 x.2 y.1 y.2) : Pkd (pk out x) (done ++ [x]) := by
  rcases List.eq_nil_or_concat out with rfl | ⟨i, s, rfl⟩
  · have hd : ∀ p m, ¬ (p, m) ∈ done := fun p m hm => by have := (h.has p m).2 hm; simp [Ls.has] at this
    refine ⟨⟨by simp [pk_nil]; omega, by simp [pk_nil]⟩, fun p m => ?_, fun i s e => ?_, fun s hs => ⟨x, by simp, ?_⟩, fun s hs => ?_⟩
    · rw [pk_nil, has_one, inSp_iff, List.mem_append, List.mem_singleton]
      constructor
      · rintro ⟨e, h1, h2⟩
        exact .inr (Prod.ext e.symm (by show m = x.2; dsimp only at h1 h2; omega))
      · rintro (hm | rfl)
        · exact absurd hm (hd p m)
        · exact ⟨rfl, Int.le_refl _, by show m < m + 1; omega⟩
    · rw [pk_nil] at e
      have e2 := congrArg List.getLast? e
      rw [List.getLast?_append] at e2
      simp at e2
      subst e2
      simp
    · rw [pk_nil, List.mem_singleton] at hs; rw [hs]
    · rw [pk_nil, List.mem_singleton] at hs
      subst hs
      simp
  · rw [List.concat_eq_append] at h ⊢
    obtain ⟨a1, a2, a3⟩ := apart_snoc.1 h.apart
    have hl := h.last i s rfl
    have hxl := hx _ hl
    dsimp only at hxl
    have last_inj : ∀ {i' : List Sp} {s' : Sp} {j : List Sp} {t : Sp}, j ++ [t] = i' ++ [s'] → s' = t := fun e => by
      have e2 := congrArg List.getLast? e
      rw [List.getLast?_append, List.getLast?_append] at e2
      simpa using e2.symm
    by_cases hp : s.path = x.1
    · have h0 : s.hi - 1 ≤ x.2 := by
        rcases Int.lt_or_le x.2 (s.hi - 1) with c | c
        · exact absurd (.inr ⟨hp.symm, c⟩) hxl
        · exact c
      rcases Int.lt_trichotomy x.2 s.hi with c | c | c
      · rw [pk_in i s x ⟨hp, c⟩]
        have ex : x = (s.path, s.hi - 1) := Prod.ext hp.symm (by show x.2 = s.hi - 1; omega)
        refine ⟨h.apart, fun p m => ?_, fun i' s' e => ?_, fun u hu => ?_, fun u hu => ?_⟩
        · rw [h.has, List.mem_append, List.mem_singleton]
          exact ⟨.inl, fun q => q.elim id fun q => by rw [q, ex]; exact hl⟩
        · rw [last_inj e]; exact List.mem_append_left _ hl
        · obtain ⟨y, hy, e⟩ := h.paths u hu
          exact ⟨y, List.mem_append_left _ hy, e⟩
        · exact ⟨List.mem_append_left _ (h.ends u hu).1, List.mem_append_left _ (h.ends u hu).2⟩
      · rw [pk_on i s x hp c]
        have ex : x = (s.path, s.hi) := Prod.ext hp.symm c
        refine ⟨apart_snoc.2 ⟨a1, by dsimp only; omega, fun u hu => a3 u hu⟩, fun p m => ?_, fun i' s' e => ?_, fun u hu => ?_, fun u hu => ?_⟩
        · rw [List.mem_append, List.mem_singleton, ← h.has, has_append, has_append, Bool.or_eq_true, Bool.or_eq_true, has_one, has_one, inSp_iff, inSp_iff, ex]
          dsimp only
          constructor
          · rintro (q | ⟨q1, q2, q3⟩)
            · exact .inl (.inl q)
            · by_cases hm : m < s.hi
              · exact .inl (.inr ⟨q1, q2, hm⟩)
              · exact .inr (Prod.ext q1.symm (by show m = s.hi; omega))
          · rintro ((q | ⟨q1, q2, q3⟩) | q)
            · exact .inl q
            · exact .inr ⟨q1, q2, by omega⟩
            · injection q with q1 q2
              exact .inr ⟨q1.symm, by omega, by omega⟩
        · rw [last_inj e, ex]
          refine List.mem_append_right _ ?_
          rw [List.mem_singleton]
          exact Prod.ext rfl (by show s.hi + 1 - 1 = s.hi; omega)
        · rcases List.mem_append.1 hu with hu | hu
          · obtain ⟨y, hy, e⟩ := h.paths u (List.mem_append_left _ hu)
            exact ⟨y, List.mem_append_left _ hy, e⟩
          · rw [List.mem_singleton.1 hu]; exact ⟨x, by simp, hp⟩
        · rcases List.mem_append.1 hu with hu | hu
          · have := h.ends u (List.mem_append_left _ hu)
            exact ⟨List.mem_append_left _ this.1, List.mem_append_left _ this.2⟩
          · rw [List.mem_singleton.1 hu]
            refine ⟨List.mem_append_left _ (h.ends s (by simp)).1, List.mem_append_right _ ?_⟩
            rw [List.mem_singleton, ex]
            exact Prod.ext rfl (by show s.hi + 1 - 1 = s.hi; omega)
      · exact Pkd.step_new h a2 a3 last_inj (fun _ => c) (.inl ⟨hp, c⟩)
    · refine Pkd.step_new h a2 a3 last_inj (fun e => absurd e hp) (.inr ?_)
      rcases bl_total s.path x.1 with q | q | q
      · exact q
      · exact absurd q hp
      · exact absurd (.inl q) hxl
theorem pkd_fold (l : List Ln) : ∀ (out : List Sp) (done : List Ln), Pkd out done → Srt l → (∀ x ∈ l, ∀ y ∈ done, ¬ pl x.1 x.2 y.1 y.2) → Pkd (l.foldl pk out) (done ++ l) := by
  induction l with
  | nil => intro out done h _ _; simpa using h
  | cons x t ih =>
    intro out done h hs hx
    have h1 := List.pairwise_cons.1 hs
    have := ih (pk out x) (done ++ [x]) (h.step (hx x (by simp))) h1.2 (fun z hz y hy => by
      rcases List.mem_append.1 hy with hy | hy
      · exact hx z (by simp [hz]) y hy
      · rw [List.mem_singleton.1 hy]; exact h1.1 z hz)
    simpa using this
theorem pack_ok (l : List Ln) (h : Srt l) : Pkd (pack l) l := by
  have := pkd_fold l [] [] ⟨.nil, by simp [has], by simp, by simp, by simp⟩ h (by simp)
  simpa [pack] using this
/-- Two sets of the same lines, one of which was packed. -/
theorem pack_eq {l : List Ln} {u : List Sp} (h : Srt l) (hu : Apart u) (he : ∀ p m, has u p m = true ↔ (p, m) ∈ l) : u = pack l :=
  same_of_has hu (pack_ok l h).apart fun p m => by rw [Bool.eq_iff_iff, he, (pack_ok l h).has]
theorem srt_filter {l : List Ln} (q : Ln → Bool) (h : Srt l) : Srt (l.filter q) := List.Pairwise.filter q h
end Ls
end Go.Proofs.YtlablbibdkcifaaGreatDoor
