/- The edges of spans in order lead to the set of the chosen lines; plain. No condition. -/
import Derived.Test.YtlablbibdkcifaaGreatDoorSet
namespace Go.Proofs.YtlablbibdkcifaaGreatDoor
namespace Ls
open Tr.Tre (bl_irr bl_trans bl_total bl_asym bl_ne)

/-- Where a span of one of two lists begins (ent is 1) or ends (-1). -/
structure Ed where
  path : LN
  n : Int
  side : Int
  ent : Int
deriving DecidableEq, Inhabited
def edges (sd : Int) (l : List Sp) : List Ed := l.flatMap fun s => [⟨s.path, s.lo, sd, 1⟩, ⟨s.path, s.hi, sd, -1⟩]
theorem edges_cons (sd : Int) (s : Sp) (l : List Sp) : edges sd (s :: l) = [⟨s.path, s.lo, sd, 1⟩, ⟨s.path, s.hi, sd, -1⟩] ++ edges sd l := rfl
/-- What the edges of one side add up to. -/
def net (sd : Int) : List Ed → Int
  | [] => 0
  | e :: t => (if e.side = sd then e.ent else 0) + net sd t
theorem net_app (sd : Int) (a b : List Ed) : net sd (a ++ b) = net sd a + net sd b := by
  induction a with
  | nil => simp [net]
  | cons x a ih => rw [List.cons_append, net, net, ih]; omega
theorem net_perm (sd : Int) {a b : List Ed} (h : a.Perm b) : net sd a = net sd b := by
  induction h with
  | nil => rfl
  | cons x _ ih => rw [net, net, ih]
  | swap x y l => rw [net, net, net, net]; omega
  | trans _ _ ih1 ih2 => rw [ih1, ih2]
/-- The edges up to a place. -/
def upto (p : LN) (m : Int) (E : List Ed) : List Ed := E.filter fun e => !decide (pl p m e.path e.n)
def cnt (l : List Sp) (p : LN) (m : Int) : Nat := l.countP (inSp p m)
theorem cnt_has (l : List Sp) (p : LN) (m : Int) : has l p m = decide (0 < cnt l p m) := by
  unfold has cnt
  rw [Bool.eq_iff_iff, List.any_eq_true, decide_eq_true_eq, List.countP_pos_iff]
theorem upto_app (p : LN) (m : Int) (a b : List Ed) : upto p m (a ++ b) = upto p m a ++ upto p m b := List.filter_append ..
theorem upto_one (p : LN) (m : Int) (e : Ed) : upto p m [e] = if pl p m e.path e.n then [] else [e] := by
  unfold upto
  by_cases h : pl p m e.path e.n <;> simp [h]
theorem net_one (sd : Int) (s : Sp) (p : LN) (m : Int) (h : s.lo < s.hi) : net sd (upto p m [⟨s.path, s.lo, sd, 1⟩, ⟨s.path, s.hi, sd, -1⟩]) = if inSp p m s = true then 1 else 0 := by
  rw [show [(⟨s.path, s.lo, sd, 1⟩ : Ed), ⟨s.path, s.hi, sd, -1⟩] = [⟨s.path, s.lo, sd, 1⟩] ++ [⟨s.path, s.hi, sd, -1⟩] from rfl, upto_app, net_app, upto_one, upto_one]
  dsimp only
  by_cases hi : inSp p m s = true
  · obtain ⟨h1, h2, h3⟩ := inSp_iff.1 hi
    subst h1
    rw [if_pos hi, if_neg, if_pos]
    · simp [net]
    · exact .inr ⟨rfl, h3⟩
    · rintro (x | ⟨_, x⟩)
      · unfold less at x; rw [bl_irr] at x; cases x
      · omega
  · rw [if_neg hi]
    by_cases h1 : pl p m s.path s.lo
    · rw [if_pos h1, if_pos (pl_trans h1 (.inr ⟨rfl, h⟩))]; rfl
    · rw [if_neg h1]
      by_cases h2 : pl p m s.path s.hi
      · exfalso
        rcases h2 with h2 | ⟨h2, h3⟩
        · exact h1 (.inl h2)
        · refine hi (inSp_iff.2 ⟨h2.symm, ?_, h3⟩)
          rcases Int.lt_or_le m s.lo with x | x
          · exact absurd (.inr ⟨h2, x⟩) h1
          · exact x
      · rw [if_neg h2]; simp [net]
theorem net_edges (sd : Int) (l : List Sp) (p : LN) (m : Int) (h : ∀ s ∈ l, s.lo < s.hi) : net sd (upto p m (edges sd l)) = cnt l p m := by
  induction l with
  | nil => rfl
  | cons s l ih =>
    rw [edges_cons, upto_app, net_app, net_one sd s p m (h s (by simp)), ih fun x hx => h x (by simp [hx])]
    unfold cnt
    rw [List.countP_cons]
    split <;> omega
theorem net_other {sd sd' : Int} (h : sd ≠ sd') (l : List Sp) (p : LN) (m : Int) : net sd (upto p m (edges sd' l)) = 0 := by
  have : ∀ E : List Ed, (∀ e ∈ E, e.side = sd') → net sd E = 0 := by
    intro E hE
    induction E with
    | nil => rfl
    | cons x E ih => rw [net, if_neg (by rw [hE x (by simp)]; exact fun e => h e.symm), ih fun e he => hE e (by simp [he])]; rfl
  refine this _ fun e he => ?_
  have := (List.mem_filter.1 he).1
  unfold edges at this
  obtain ⟨s, _, hs⟩ := List.mem_flatMap.1 this
  simp at hs
  rcases hs with rfl | rfl <;> rfl
def upd (o : Int × Int) (e : Ed) : Int × Int := if e.side = 0 then (o.1 + e.ent, o.2) else (o.1, o.2 + e.ent)
/-- A span is added behind the others, or to the last one. -/
def ext (l : List Sp) (s : Sp) : List Sp :=
  if s.lo = s.hi then l
  else match l.getLast? with
    | some t => if t.path = s.path ∧ t.hi = s.lo then l.dropLast ++ [⟨t.path, t.lo, s.hi⟩] else l ++ [s]
    | none => [s]
def on (f : Bool → Bool → Bool) (o : Int × Int) : Bool := f (decide (0 < o.1)) (decide (0 < o.2))
/-- What is there behind an edge. -/
def nxt (f : Bool → Bool → Bool) (x : Ed) (o : Int × Int) (out : List Sp) : List Ed → List Sp
  | [] => out
  | y :: _ => if on f o = true then ext out ⟨x.path, x.n, y.n⟩ else out
/-- The spans that the edges lead to, from open numbers on. -/
def sweep (f : Bool → Bool → Bool) : List Ed → Int × Int → List Sp → List Sp
  | [], _, out => out
  | [_], _, out => out
  | x :: y :: r, o, out => sweep f (y :: r) (upd o x) (if on f (upd o x) = true then ext out ⟨x.path, x.n, y.n⟩ else out)
/-- Edges in order. -/
def Rise (d : List Ed) : Prop := d.Pairwise fun x y => ¬ pl y.path y.n x.path x.n
theorem ext_apart {out : List Sp} {s : Sp} (h : Apart out) (hs : s.lo < s.hi) (hl : ∀ t ∈ out, ¬ pl s.path s.lo t.path t.hi) : Apart (ext out s) ∧ (∀ p m, has (ext out s) p m = (has out p m || inSp p m s)) ∧ (∀ t ∈ ext out s, (t.path, t.hi) = (s.path, s.hi) ∨ t ∈ out) ∧ (∀ t ∈ ext out s, (∃ x ∈ out, t.path = x.path ∧ t.lo = x.lo) ∨ t = s) := by
  have happ : ∀ (a b : List Sp) (p : LN) (m : Int), has (a ++ b) p m = (has a p m || has b p m) := fun a b p m => List.any_append
  have hone : ∀ (x : Sp) (p : LN) (m : Int), has [x] p m = inSp p m x := fun x p m => by unfold has; simp
  rcases List.eq_nil_or_concat out with rfl | ⟨pre, t, rfl⟩
  · have e : ext [] s = [s] := by unfold ext; rw [if_neg (by omega)]; rfl
    rw [e]
    refine ⟨⟨fun x hx => by rw [List.mem_singleton.1 hx]; exact hs, List.pairwise_singleton ..⟩, fun p m => by rw [hone]; rfl, fun x hx => .inl (by rw [List.mem_singleton.1 hx]), fun x hx => .inr (List.mem_singleton.1 hx)⟩
  · rw [List.concat_eq_append] at h hl ⊢
    have hg := List.pairwise_append.1 h.gap
    have ht := h.ne t (by simp)
    have htl := hl t (by simp)
    by_cases hm : t.path = s.path ∧ t.hi = s.lo
    · have e : ext (pre ++ [t]) s = pre ++ [⟨t.path, t.lo, s.hi⟩] := by
        unfold ext; rw [if_neg (by omega)]; simp [hm]
      rw [e]
      refine ⟨⟨fun x hx => ?_, ?_⟩, fun p m => ?_, fun x hx => ?_, fun x hx => ?_⟩
      · rcases List.mem_append.1 hx with hx | hx
        · exact h.ne x (by simp [hx])
        · rw [List.mem_singleton.1 hx]; show t.lo < s.hi; omega
      · rw [List.pairwise_append]
        refine ⟨hg.1, List.pairwise_singleton .., fun x hx y hy => ?_⟩
        rw [List.mem_singleton.1 hy]
        exact hg.2.2 x hx t (by simp)
      · rw [happ, happ, hone, hone, Bool.or_assoc]
        congr 1
        rw [Bool.eq_iff_iff, Bool.or_eq_true, inSp_iff, inSp_iff, inSp_iff]
        dsimp only
        constructor
        · rintro ⟨a, b, c⟩
          rcases Int.lt_or_le m t.hi with x | x
          · exact .inl ⟨a, b, x⟩
          · exact .inr ⟨by rw [← hm.1]; exact a, by omega, c⟩
        · rintro (⟨a, b, c⟩ | ⟨a, b, c⟩)
          · exact ⟨a, b, by omega⟩
          · exact ⟨by rw [hm.1]; exact a, by omega, c⟩
      · rcases List.mem_append.1 hx with hx | hx
        · exact .inr (by simp [hx])
        · rw [List.mem_singleton.1 hx]; exact .inl (by rw [hm.1])
      · rcases List.mem_append.1 hx with hx | hx
        · exact .inl ⟨x, by simp [hx], rfl, rfl⟩
        · rw [List.mem_singleton.1 hx]; exact .inl ⟨t, by simp, rfl, rfl⟩
    · have e : ext (pre ++ [t]) s = (pre ++ [t]) ++ [s] := by
        unfold ext; rw [if_neg (by omega)]; simp [hm]
      rw [e]
      have gt : Gap t s := by
        rcases pl_tri t.path t.hi s.path s.lo with x | x | x
        · rcases x with x | ⟨x, y⟩
          · exact .inr x
          · exact .inl ⟨x, y⟩
        · exact absurd x hm
        · exact absurd x htl
      refine ⟨⟨fun x hx => ?_, ?_⟩, fun p m => by rw [happ, hone], fun x hx => ?_, fun x hx => ?_⟩
      · rcases List.mem_append.1 hx with hx | hx
        · exact h.ne x hx
        · rw [List.mem_singleton.1 hx]; exact hs
      · rw [List.pairwise_append]
        refine ⟨h.gap, List.pairwise_singleton .., fun x hx y hy => ?_⟩
        rw [List.mem_singleton.1 hy]
        rcases List.mem_append.1 hx with hx | hx
        · exact gap_trans ht (hg.2.2 x hx t (by simp)) gt
        · rw [List.mem_singleton.1 hx]; exact gt
      · rcases List.mem_append.1 hx with hx | hx
        · exact .inr hx
        · rw [List.mem_singleton.1 hx]; exact .inl rfl
      · rcases List.mem_append.1 hx with hx | hx
        · exact .inl ⟨x, hx, rfl, rfl⟩
        · exact .inr (List.mem_singleton.1 hx)
/-- What is said of two lists of spans, and of their edges in order. -/
structure Two (a b : List Sp) (d : List Ed) (B : Int) : Prop where
  an : ∀ s ∈ a, s.lo < s.hi
  bn : ∀ s ∈ b, s.lo < s.hi
  ah : ∀ s ∈ a, s.hi ≤ B
  bh : ∀ s ∈ b, s.hi ≤ B
  perm : d.Perm (edges 0 a ++ edges 1 b)
  rise : Rise d
theorem Two.at_ {a b : List Sp} {d : List Ed} {B : Int} (h : Two a b d B) {pre r : List Ed} (hd : d = pre ++ r) (p : LN) (m : Int) (h1 : ∀ e ∈ pre, ¬ pl p m e.path e.n) (h2 : ∀ e ∈ r, pl p m e.path e.n) : net 0 pre = cnt a p m ∧ net 1 pre = cnt b p m := by
  have e : upto p m d = pre := by
    rw [hd, upto_app]
    have x1 : upto p m pre = pre := List.filter_eq_self.2 fun e he => by simp [h1 e he]
    have x2 : upto p m r = [] := List.filter_eq_nil_iff.2 fun e he => by simp [h2 e he]
    rw [x1, x2, List.append_nil]
  have hp : (upto p m d).Perm (upto p m (edges 0 a ++ edges 1 b)) := h.perm.filter _
  rw [e, upto_app] at hp
  refine ⟨?_, ?_⟩
  · rw [net_perm 0 hp, net_app, net_edges 0 a p m h.an, net_other (by decide)]; omega
  · rw [net_perm 1 hp, net_app, net_edges 1 b p m h.bn, net_other (by decide)]; omega
theorem upd_net (pre : List Ed) (x : Ed) (hx : x.side = 0 ∨ x.side = 1) (o : Int × Int) (ho : o = (net 0 pre, net 1 pre)) : upd o x = (net 0 (pre ++ [x]), net 1 (pre ++ [x])) := by
  subst ho
  unfold upd
  rw [net_app, net_app]
  rcases hx with e | e
  · rw [if_pos e]; simp [net, e]
  · rw [if_neg (by omega)]; simp [net, e]
theorem Two.side {a b : List Sp} {d : List Ed} {B : Int} (h : Two a b d B) : ∀ e ∈ d, e.side = 0 ∨ e.side = 1 := fun e he => by
  have := h.perm.mem_iff.1 he
  rcases List.mem_append.1 this with x | x <;>
  · unfold edges at x
    obtain ⟨s, _, hs⟩ := List.mem_flatMap.1 x
    simp at hs
    rcases hs with rfl | rfl <;> simp
theorem Two.sides {a b : List Sp} {d : List Ed} {B : Int} (h : Two a b d B) : ∀ e ∈ d, (∃ s, (s ∈ a ∨ s ∈ b) ∧ e.path = s.path ∧ (e.n = s.lo ∨ e.n = s.hi)) ∧ (e.ent = 1 ∨ e.ent = -1) := fun e he => by
  have := h.perm.mem_iff.1 he
  rcases List.mem_append.1 this with x | x
  · unfold edges at x
    obtain ⟨s, hs0, hs⟩ := List.mem_flatMap.1 x
    simp at hs
    rcases hs with rfl | rfl
    · exact ⟨⟨s, .inl hs0, rfl, .inl rfl⟩, .inl rfl⟩
    · exact ⟨⟨s, .inl hs0, rfl, .inr rfl⟩, .inr rfl⟩
  · unfold edges at x
    obtain ⟨s, hs0, hs⟩ := List.mem_flatMap.1 x
    simp at hs
    rcases hs with rfl | rfl
    · exact ⟨⟨s, .inr hs0, rfl, .inl rfl⟩, .inl rfl⟩
    · exact ⟨⟨s, .inr hs0, rfl, .inr rfl⟩, .inr rfl⟩
theorem cnt_far {l : List Sp} {B : Int} (h : ∀ s ∈ l, s.hi ≤ B) (p : LN) (m : Int) (hm : B ≤ m) : cnt l p m = 0 := by
  unfold cnt
  rw [List.countP_eq_zero]
  intro s hs hi
  have := (inSp_iff.1 hi).2.2
  have := h s hs
  omega
/-- Behind the last edge of a path nothing is open. -/
theorem Two.closed {a b : List Sp} {d : List Ed} {B : Int} (h : Two a b d B) {pre r : List Ed} {x : Ed} (hd : d = (pre ++ [x]) ++ r) (hr : ∀ y, r.head? = some y → less x.path y.path = true) : net 0 (pre ++ [x]) = 0 ∧ net 1 (pre ++ [x]) = 0 := by
  have hri := h.rise
  rw [hd] at hri
  obtain ⟨h1, h2, h3⟩ := List.pairwise_append.1 hri
  have h4 := (List.pairwise_append.1 h1).2.2
  have := h.at_ hd x.path (max B x.n) (fun e he => ?_) (fun e he => ?_)
  · rw [cnt_far h.ah _ _ (by omega), cnt_far h.bh _ _ (by omega)] at this
    exact this
  · rcases List.mem_append.1 he with he | he
    · exact npl_trans (q := x.path) (n := x.n) (h4 e he x (by simp)) (by
        rintro (y | ⟨_, y⟩)
        · unfold less at y; rw [bl_irr] at y; cases y
        · omega)
    · rw [List.mem_singleton.1 he]
      rintro (y | ⟨_, y⟩)
      · unfold less at y; rw [bl_irr] at y; cases y
      · omega
  · cases hr' : r with
    | nil => rw [hr'] at he; simp at he
    | cons y t =>
      have hy := hr y (by rw [hr']; rfl)
      rw [hr'] at he h2
      rcases List.mem_cons.1 he with rfl | he
      · exact .inl hy
      · have := (List.pairwise_cons.1 h2).1 e he
        have := npl_lt (p := x.path) (m := x.n) (q := y.path) (n := y.n) (.inl hy) this
        rcases this with z | ⟨z, z2⟩
        · exact .inl z
        · exfalso
          rw [z] at hy
          exact (by assumption : ¬ pl e.path e.n y.path y.n) (.inl hy)
/-- The state in front of the edges that are left. -/
structure Inv (f : Bool → Bool → Bool) (a b : List Sp) (pre r : List Ed) (o : Int × Int) (out : List Sp) : Prop where
  op : o = (net 0 pre, net 1 pre)
  apart : Apart out
  low : ∀ s ∈ out, ∀ y, r.head? = some y → ¬ pl y.path y.n s.path s.hi
  pts : ∀ p m, (∀ y, r.head? = some y → pl p m y.path y.n) → has out p m = f (has a p m) (has b p m)
  from_ : ∀ s ∈ out, (∃ e ∈ pre, s.path = e.path ∧ s.lo = e.n) ∧ ∃ e ∈ pre ++ r, s.hi = e.n
theorem has_low {out : List Sp} {y : Ed} (h : ∀ s ∈ out, ¬ pl y.path y.n s.path s.hi) {p : LN} {m : Int} (hp : ¬ pl p m y.path y.n) : has out p m = false := by
  rw [Bool.eq_false_iff]
  intro hh
  obtain ⟨s, hs, rfl, h1, h2⟩ := has_iff.1 hh
  exact hp (npl_lt (q := s.path) (n := s.hi) (.inr ⟨rfl, h2⟩) (h s hs))
theorem Inv.step {f : Bool → Bool → Bool} (hf : f false false = false) {a b : List Sp} {d : List Ed} {B : Int} (h : Two a b d B) {pre r : List Ed} {x : Ed} {o : Int × Int} {out : List Sp} (hd : d = pre ++ x :: r) (hi : Inv f a b pre (x :: r) o out) :
    (r = [] → on f (upd o x) = false) ∧ (∀ y t, r = y :: t → on f (upd o x) = true → y.path = x.path ∧ x.n ≤ y.n) ∧ Inv f a b (pre ++ [x]) r (upd o x) (nxt f x (upd o x) out r) := by
  have hd2 : d = (pre ++ [x]) ++ r := by rw [hd]; simp
  have hx : x.side = 0 ∨ x.side = 1 := h.side x (by rw [hd]; simp)
  have ho := upd_net pre x hx o hi.op
  have hri := h.rise
  rw [hd] at hri
  obtain ⟨r1, r2, r3⟩ := List.pairwise_append.1 hri
  obtain ⟨r4, r5⟩ := List.pairwise_cons.1 r2
  have hlow : ∀ s ∈ out, ¬ pl x.path x.n s.path s.hi := fun s hs => hi.low s hs x rfl
  -- what is open between x and what follows
  have hat : ∀ p m, ¬ pl p m x.path x.n → (∀ y, r.head? = some y → pl p m y.path y.n) → on f (upd o x) = f (has a p m) (has b p m) := fun p m h1 h2 => by
    have := h.at_ hd2 p m (fun e he => ?_) (fun e he => ?_)
    · rw [ho]
      unfold on
      rw [this.1, this.2, cnt_has, cnt_has]
      congr 1 <;> simp
    · rcases List.mem_append.1 he with he | he
      · exact npl_trans (r3 e he x (by simp)) h1
      · rw [List.mem_singleton.1 he]; exact h1
    · cases hr : r with
      | nil => rw [hr] at he; simp at he
      | cons y t =>
        have hy := h2 y (by rw [hr]; rfl)
        rw [hr] at he r5
        rcases List.mem_cons.1 he with rfl | he
        · exact hy
        · exact npl_lt hy ((List.pairwise_cons.1 r5).1 e he)
  have hoff : (∀ y, r.head? = some y → less x.path y.path = true) → on f (upd o x) = false := fun hr => by
    have := h.closed hd2 hr
    rw [ho]
    unfold on
    rw [this.1, this.2]
    exact hf
  have hkeep : on f (upd o x) = false → Inv f a b (pre ++ [x]) r (upd o x) out := fun hc => by
    refine ⟨ho, hi.apart, fun s hs y hy => ?_, fun p m hp => ?_, fun s hs => ?_⟩
    · have hym : y ∈ r := List.mem_of_head? hy
      exact npl_trans (hlow s hs) (r4 y hym)
    · by_cases hpx : pl p m x.path x.n
      · exact hi.pts p m fun y hy => by
          simp only [List.head?_cons, Option.some.injEq] at hy
          rw [← hy]; exact hpx
      · rw [has_low hlow hpx, ← hat p m hpx hp, hc]
    · obtain ⟨⟨e, he, h1⟩, e', he', h2⟩ := hi.from_ s hs
      exact ⟨⟨e, by simp [he], h1⟩, e', by simpa using he', h2⟩
  refine ⟨fun hr => hoff (fun y hy => (by rw [hr] at hy; cases hy)), fun y t hr hc => ?_, ?_⟩
  · have hxy := r4 y (by rw [hr]; simp)
    rcases pl_tri x.path x.n y.path y.n with z | ⟨z1, z2⟩ | z
    · rcases z with z | ⟨z1, z2⟩
      · rw [hoff fun y' hy' => by rw [hr] at hy'; simp only [List.head?_cons, Option.some.injEq] at hy'; rw [← hy']; exact z] at hc
        cases hc
      · exact ⟨z1.symm, by omega⟩
    · exact ⟨z1.symm, by omega⟩
    · exact absurd z hxy
  · cases hr : r with
    | nil =>
      have := hkeep (hoff fun y hy => by rw [hr] at hy; cases hy)
      rw [hr] at this
      exact this
    | cons y t =>
      simp only [nxt]
      have hxy := r4 y (by rw [hr]; simp)
      by_cases hc : on f (upd o x) = true
      · rw [if_pos hc]
        have hpn : y.path = x.path ∧ x.n ≤ y.n := by
          rcases pl_tri x.path x.n y.path y.n with z | ⟨z1, z2⟩ | z
          · rcases z with z | ⟨z1, z2⟩
            · rw [hoff fun y' hy' => by rw [hr] at hy'; simp only [List.head?_cons, Option.some.injEq] at hy'; rw [← hy']; exact z] at hc
              cases hc
            · exact ⟨z1.symm, by omega⟩
          · exact ⟨z1.symm, by omega⟩
          · exact absurd z hxy
        rcases Int.lt_or_eq_of_le hpn.2 with hn | hn
        · obtain ⟨e1, e2, e3, e4⟩ := ext_apart hi.apart (s := ⟨x.path, x.n, y.n⟩) hn hlow
          refine ⟨ho, e1, fun s hs y' hy' => ?_, fun p m hp => ?_, fun s hs => ?_⟩
          · simp only [List.head?_cons, Option.some.injEq] at hy'
            subst hy'
            rcases e3 s hs with z | z
            · have z1 := congrArg Prod.fst z
              have z2 := congrArg Prod.snd z
              dsimp only at z1 z2
              rw [z1, z2, hpn.1]
              exact pl_irr _ _
            · exact npl_trans (hlow s z) hxy
          · have hpy := hp y rfl
            rw [e2]
            by_cases hpx : pl p m x.path x.n
            · rw [hi.pts p m fun y' hy' => by
                simp only [List.head?_cons, Option.some.injEq] at hy'
                rw [← hy']; exact hpx]
              have : inSp p m ⟨x.path, x.n, y.n⟩ = false := by
                rw [Bool.eq_false_iff]
                intro z
                obtain ⟨z1, z2, z3⟩ := inSp_iff.1 z
                dsimp only at z1 z2 z3
                rcases hpx with w | ⟨_, w⟩
                · rw [z1] at w; unfold less at w; rw [bl_irr] at w; cases w
                · omega
              rw [this, Bool.or_false]
            · have z := hat p m hpx (fun y' hy' => by rw [hr] at hy'; simp only [List.head?_cons, Option.some.injEq] at hy'; rw [← hy']; exact hpy)
              rw [← z, hc]
              have : inSp p m ⟨x.path, x.n, y.n⟩ = true := by
                rcases hpy with w | ⟨w1, w2⟩
                · exact absurd (.inl (by rw [← hpn.1]; exact w)) hpx
                · refine inSp_iff.2 ⟨by rw [w1, hpn.1], ?_, w2⟩
                  rcases Int.lt_or_le m x.n with q | q
                  · exact absurd (.inr ⟨by rw [w1, hpn.1], q⟩) hpx
                  · exact q
              rw [this, Bool.or_true]
          · refine ⟨?_, ?_⟩
            · rcases e4 s hs with ⟨z, hz, z1, z2⟩ | z
              · obtain ⟨⟨e, he, q1, q2⟩, _⟩ := hi.from_ z hz
                exact ⟨e, by simp [he], z1.trans q1, z2.trans q2⟩
              · exact ⟨x, by simp, by rw [z], by rw [z]⟩
            · rcases e3 s hs with z | z
              · exact ⟨y, by simp, congrArg Prod.snd z⟩
              · obtain ⟨_, e, he, q⟩ := hi.from_ s z
                exact ⟨e, by rw [hr] at he; simpa using he, q⟩
        · have he : ext out ⟨x.path, x.n, y.n⟩ = out := by unfold ext; rw [if_pos hn]
          rw [he]
          refine ⟨ho, hi.apart, fun s hs y' hy' => ?_, fun p m hp => ?_, fun s hs => ?_⟩
          · simp only [List.head?_cons, Option.some.injEq] at hy'
            subst hy'
            exact npl_trans (hlow s hs) hxy
          · have hpy := hp y rfl
            exact hi.pts p m fun y' hy' => by
              simp only [List.head?_cons, Option.some.injEq] at hy'
              rw [← hy']
              rcases hpy with w | ⟨w1, w2⟩
              · exact .inl (by rw [← hpn.1]; exact w)
              · exact .inr ⟨by rw [w1, hpn.1], by omega⟩
          · obtain ⟨⟨e, he, h1⟩, e', he', h2⟩ := hi.from_ s hs
            exact ⟨⟨e, by simp [he], h1⟩, e', by rw [hr] at he'; simpa using he', h2⟩
      · rw [if_neg hc]
        have := hkeep (by simpa using hc)
        rw [hr] at this
        exact this
theorem inv_start (f : Bool → Bool → Bool) (hf : f false false = false) {a b : List Sp} {d : List Ed} {B : Int} (h : Two a b d B) : Inv f a b [] d (0, 0) [] := by
  refine ⟨rfl, .nil, by simp, fun p m hp => ?_, by simp⟩
  have := h.at_ (pre := []) (r := d) rfl p m (by simp) (fun e he => ?_)
  · have z1 : cnt a p m = 0 := by have := this.1; simp only [net] at this; omega
    have z2 : cnt b p m = 0 := by have := this.2; simp only [net] at this; omega
    rw [cnt_has a, cnt_has b, z1, z2]
    simp [has, hf]
  · cases d with
    | nil => simp at he
    | cons y t =>
      have hy := hp y rfl
      rcases List.mem_cons.1 he with rfl | he
      · exact hy
      · exact npl_lt hy ((List.pairwise_cons.1 h.rise).1 e he)
/-- A line is in what was chosen exactly if it should be. -/
theorem inv_end {f : Bool → Bool → Bool} {a b : List Sp} {d : List Ed} {o : Int × Int} {out : List Sp} (h : Inv f a b d [] o out) : Apart out ∧ (∀ p m, has out p m = f (has a p m) (has b p m)) ∧ ∀ s ∈ out, (∃ e ∈ d, s.path = e.path ∧ s.lo = e.n) ∧ ∃ e ∈ d, s.hi = e.n :=
  ⟨h.apart, fun p m => h.pts p m (fun y hy => (by cases hy)), fun s hs => by have := h.from_ s hs; rwa [List.append_nil] at this⟩
end Ls
end Go.Proofs.YtlablbibdkcifaaGreatDoor
