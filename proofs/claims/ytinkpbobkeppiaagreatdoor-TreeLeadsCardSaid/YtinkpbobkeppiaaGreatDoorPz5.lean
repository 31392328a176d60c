/- Order of files, and what Check asks of them, as a property; plain. No condition.
Put and Replace as plain functions, and that the reference's ways are the program's. No condition.
Replacing a line keeps the other lines and files, and leads back: plain facts. No condition.
Putting and dropping files of trees, and what the changes lead to: plain facts. No condition.
Where a file is put in a sorted list: plain facts. No condition. -/
import Derived.Test.YtinkpbobkeppiaaGreatDoorTre
import Derived.Lib.Bytealg
section
namespace Go.Proofs.YtinkpbobkeppiaaGreatDoor
namespace Tre

theorem bl_cons (a b : UInt8) (x y : List UInt8) : Op.bytesLess (a :: x) (b :: y) = true ↔ a.toNat < b.toNat ∨ (a = b ∧ Op.bytesLess x y = true) := by
  simp [Op.bytesLess, UInt8.lt_iff_toNat_lt]
theorem bl_nil (x : List UInt8) : Op.bytesLess x [] = false := by cases x <;> rfl
theorem bl_irr : ∀ a : List UInt8, Op.bytesLess a a = false
  | [] => rfl
  | a :: x => by
    rw [Bool.eq_false_iff]
    intro h
    rcases (bl_cons a a x x).1 h with h | ⟨_, h⟩
    · omega
    · rw [bl_irr x] at h; cases h
theorem bl_trans : ∀ a b c : List UInt8, Op.bytesLess a b = true → Op.bytesLess b c = true → Op.bytesLess a c = true
  | _, [], _, h, _ => by rw [bl_nil] at h; cases h
  | _, _ :: _, [], _, h => by rw [bl_nil] at h; cases h
  | [], _ :: _, _ :: _, _, _ => rfl
  | a :: x, b :: y, c :: z, h1, h2 => by
    rw [bl_cons] at h1 h2 ⊢
    rcases h1 with h1 | ⟨rfl, h1⟩
    · rcases h2 with h2 | ⟨rfl, _⟩
      · exact .inl (by omega)
      · exact .inl h1
    · rcases h2 with h2 | ⟨rfl, h2⟩
      · exact .inl h2
      · exact .inr ⟨rfl, bl_trans x y z h1 h2⟩
theorem bl_total : ∀ a b : List UInt8, Op.bytesLess a b = true ∨ a = b ∨ Op.bytesLess b a = true
  | [], [] => .inr (.inl rfl)
  | [], _ :: _ => .inl rfl
  | _ :: _, [] => .inr (.inr rfl)
  | a :: x, b :: y => by
    rw [bl_cons, bl_cons]
    rcases Nat.lt_trichotomy a.toNat b.toNat with h | h | h
    · exact .inl (.inl h)
    · have e : a = b := UInt8.toNat_inj.1 h
      subst e
      rcases bl_total x y with h | h | h
      · exact .inl (.inr ⟨rfl, h⟩)
      · exact .inr (.inl (by rw [h]))
      · exact .inr (.inr (.inr ⟨rfl, h⟩))
    · exact .inr (.inr (.inl h))
theorem bl_ne {a b : List UInt8} (h : Op.bytesLess a b = true) : a ≠ b := fun e => by rw [e, bl_irr] at h; cases h
theorem bl_asym {a b : List UInt8} (h : Op.bytesLess a b = true) : Op.bytesLess b a = false := by
  rw [Bool.eq_false_iff]
  intro h2
  have := bl_trans a b a h h2
  rw [bl_irr] at this; cases this
theorem bl_prefix : ∀ (a b : List UInt8), b ≠ [] → Op.bytesLess a (a ++ b) = true
  | [], [], h => absurd rfl h
  | [], _ :: _, _ => rfl
  | x :: a, b, h => by rw [List.cons_append, bl_cons]; exact .inr ⟨rfl, bl_prefix a b h⟩
/-- Two rising lists of the same things are one. -/
theorem rising_eq {l m : List (List UInt8)} (hl : l.Pairwise fun a b => Op.bytesLess a b = true) (hm : m.Pairwise fun a b => Op.bytesLess a b = true) (h : ∀ x, x ∈ l ↔ x ∈ m) : l = m := by
  have hp : l.Perm m := (List.perm_ext_iff_of_nodup (hl.imp fun h => bl_ne h) (hm.imp fun h => bl_ne h)).2 h
  refine List.Perm.eq_of_pairwise (le := fun a b => Op.bytesLess a b = true) (fun a b _ _ h1 h2 => ?_) hl hm hp
  rw [bl_asym h1] at h2; cases h2

/-- What Check asks. -/
structure Good (ts : List Fl) : Prop where
  len : ts.length ≤ 64
  ok : ∀ f ∈ ts, pathOk f.path = true
  size : ∀ f ∈ ts, f.data.length ≤ 65536
  sorted : ts.Pairwise fun f g => Op.bytesLess f.path g.path = true
  apart : ts.Pairwise fun f g => below g.path f.path = false
theorem last_split {α : Type} (l : List α) (x : α) (h : l.getLast? = some x) : ∃ i, l = i ++ [x] := by
  rw [List.getLast?_eq_some_iff] at h
  exact h
theorem checkAt_good : ∀ (ts seen : List Fl), seen.Pairwise (fun f g => Op.bytesLess f.path g.path = true) → seen.Pairwise (fun f g => below g.path f.path = false) → checkAt seen ts = 0 →
    (∀ f ∈ ts, pathOk f.path = true ∧ f.data.length ≤ 65536) ∧ (seen ++ ts).Pairwise (fun f g => Op.bytesLess f.path g.path = true) ∧ (seen ++ ts).Pairwise (fun f g => below g.path f.path = false)
  | [], seen, h1, h2, _ => ⟨by simp, by simpa using h1, by simpa using h2⟩
  | f :: t, seen, h1, h2, h => by
    rw [checkAt_cons] at h
    split at h
    · cases h
    · split at h
      · cases h
      · split at h
        · cases h
        · split at h
          · cases h
          · rename_i a1 a2 a3 a4
            have hlt : ∀ x ∈ seen, Op.bytesLess x.path f.path = true := by
              intro x hx
              cases hg : seen.getLast? with
              | none => rw [List.getLast?_eq_none_iff] at hg; subst hg; simp at hx
              | some g =>
                obtain ⟨i, rfl⟩ := last_split _ _ hg
                rw [hg] at a3
                simp only [Option.any_some, Bool.or_eq_true, beq_iff_eq, not_or] at a3
                have hgf : Op.bytesLess g.path f.path = true := by
                  rcases bl_total g.path f.path with h | h | h
                  · exact h
                  · exact absurd h.symm a3.2
                  · exact absurd h a3.1
                rcases List.mem_append.1 hx with hx | hx
                · exact bl_trans _ _ _ ((List.pairwise_append.1 h1).2.2 x hx g (by simp)) hgf
                · simp at hx; subst hx; exact hgf
            have hap : ∀ x ∈ seen, below f.path x.path = false := by
              intro x hx
              rw [Bool.eq_false_iff]
              intro hb
              exact a4 (List.any_eq_true.2 ⟨x, hx, hb⟩)
            obtain ⟨r1, r2, r3⟩ := checkAt_good t (seen ++ [f]) (List.pairwise_append.2 ⟨h1, by simp, fun a ha b hb => by simp at hb; subst hb; exact hlt a ha⟩) (List.pairwise_append.2 ⟨h2, by simp, fun a ha b hb => by simp at hb; subst hb; exact hap a ha⟩) h
            rw [List.append_assoc] at r2 r3
            refine ⟨fun g hg => ?_, r2, r3⟩
            rcases List.mem_cons.1 hg with rfl | hg
            · exact ⟨by simpa using a1, by omega⟩
            · exact r1 g hg
theorem good_checkAt : ∀ (ts seen : List Fl), (∀ f ∈ ts, pathOk f.path = true ∧ f.data.length ≤ 65536) → (seen ++ ts).Pairwise (fun f g => Op.bytesLess f.path g.path = true) → (seen ++ ts).Pairwise (fun f g => below g.path f.path = false) → checkAt seen ts = 0
  | [], _, _, _, _ => rfl
  | f :: t, seen, h0, h1, h2 => by
    obtain ⟨o1, o2⟩ := h0 f (by simp)
    rw [checkAt_cons, if_neg (by rw [o1]; decide), if_neg (by omega), if_neg, if_neg]
    · refine good_checkAt t (seen ++ [f]) (fun g hg => h0 g (by simp [hg])) ?_ ?_
      · rw [List.append_assoc]; exact h1
      · rw [List.append_assoc]; exact h2
    · intro hb
      obtain ⟨x, hx, hb⟩ := List.any_eq_true.1 hb
      have := (List.pairwise_append.1 h2).2.2 x hx f (by simp)
      rw [this] at hb; cases hb
    · intro hb
      cases hg : seen.getLast? with
      | none => rw [hg] at hb; cases hb
      | some g =>
        rw [hg] at hb
        have hm : g ∈ seen := List.mem_of_getLast? hg
        have := (List.pairwise_append.1 h1).2.2 g hm f (by simp)
        simp only [Option.any_some, Bool.or_eq_true, beq_iff_eq] at hb
        rcases hb with hb | hb
        · rw [bl_asym this] at hb; cases hb
        · exact bl_ne this hb.symm
theorem good_iff (ts : List Fl) : check ts = 0 ↔ Good ts := by
  unfold check
  constructor
  · intro h
    split at h
    · cases h
    · obtain ⟨a, b, c⟩ := checkAt_good ts [] .nil .nil h
      exact ⟨by omega, fun f hf => (a f hf).1, fun f hf => (a f hf).2, b, c⟩
  · intro g
    rw [if_neg (by have := g.len; omega)]
    exact good_checkAt ts [] (fun f hf => ⟨g.ok f hf, g.size f hf⟩) g.sorted g.apart
theorem Good.sub {ts us : List Fl} (g : Good ts) (h : us.Sublist ts) : Good us :=
  ⟨Nat.le_trans h.length_le g.len, fun f hf => g.ok f (h.subset hf), fun f hf => g.size f (h.subset hf), g.sorted.sublist h, g.apart.sublist h⟩
theorem good_nil : Good [] := ⟨by simp, by simp, by simp, .nil, .nil⟩
/-- A file of a tree is the one with its path. -/
theorem Good.one {ts : List Fl} (g : Good ts) {f h : Fl} (hf : f ∈ ts) (hh : h ∈ ts) (e : f.path = h.path) : f = h := by
  induction ts with
  | nil => simp at hf
  | cons x t ih =>
    have gs := List.pairwise_cons.1 g.sorted
    rcases List.mem_cons.1 hf with e1 | hf2
    · rcases List.mem_cons.1 hh with e2 | hh2
      · rw [e1, e2]
      · exact absurd e (bl_ne (by rw [e1]; exact gs.1 h hh2))
    · rcases List.mem_cons.1 hh with e2 | hh2
      · exact absurd e.symm (bl_ne (by rw [e2]; exact gs.1 f hf2))
      · exact ih (g.sub (List.sublist_cons_self x t)) hf2 hh2
theorem find_mem {ts : List Fl} {p : List UInt8} (h : (find ts p).2 = true) : ∃ f ∈ ts, f.path = p ∧ (find ts p).1 = f.data := by
  unfold find at h ⊢
  cases hf : ts.find? (fun f => f.path == p) with
  | none => rw [hf] at h; cases h
  | some f => exact ⟨f, List.mem_of_find?_eq_some hf, by simpa using List.find?_some hf, rfl⟩
theorem find_none {ts : List Fl} {p : List UInt8} (h : (find ts p).2 = false) : (∀ f ∈ ts, f.path ≠ p) ∧ (find ts p).1 = [] := by
  unfold find at h ⊢
  cases hf : ts.find? (fun f => f.path == p) with
  | none =>
    refine ⟨fun f hm e => ?_, rfl⟩
    have := List.find?_eq_none.1 hf f hm
    simp [e] at this
  | some f => rw [hf] at h; cases h
theorem Good.find_of {ts : List Fl} (g : Good ts) {f : Fl} (hf : f ∈ ts) : find ts f.path = (f.data, true) := by
  cases h : (find ts f.path).2 with
  | false => exact absurd rfl ((find_none h).1 f hf)
  | true =>
    obtain ⟨x, hx, e, hd⟩ := find_mem h
    have := g.one hf hx e.symm
    subst this
    exact Prod.ext hd h
end Tre
end Go.Proofs.YtinkpbobkeppiaaGreatDoor
end
section
namespace Go.Proofs.YtinkpbobkeppiaaGreatDoor
namespace Tre

def bad (f x : Fl) : Bool := below x.path f.path || below f.path x.path
def ins : List Fl → Fl → List Fl
  | [], f => [f]
  | g :: t, f => if Op.bytesLess g.path f.path = true then g :: ins t f else f :: g :: t
def put (ts : List Fl) (f : Fl) : List Fl × Int :=
  if check ts ≠ 0 then ([], 1)
  else if pathOk f.path = false then ([], 2)
  else if 65536 < f.data.length then ([], 10)
  else if (ts.any (bad f)) = true then ([], 6)
  else if (drop ts f.path).length = 64 then ([], 10) else (ins (drop ts f.path) f, 0)
/-- The reference's loop: what it has by now, whether the file is in it; none: a path is below another one. -/
def qput (f : Fl) : List Fl → Bool → List Fl → Option (List Fl)
  | [], done, out => some (if done = true then out else out ++ [f])
  | x :: t, done, out => if bad f x = true then none
    else qput f t (done || !Op.bytesLess x.path f.path) ((if (!done && !Op.bytesLess x.path f.path) = true then out ++ [f] else out) ++ (if x.path = f.path then [] else [x]))
def qi (f : Fl) : List Fl → Bool → List Fl
  | [], done => if done = true then [] else [f]
  | x :: t, done => (if (!done && !Op.bytesLess x.path f.path) = true then [f] else []) ++ (if x.path = f.path then [] else [x]) ++ qi f t (done || !Op.bytesLess x.path f.path)
theorem qput_qi (f : Fl) : ∀ (ts : List Fl) (done : Bool) (out : List Fl), qput f ts done out = if ts.any (bad f) = true then none else some (out ++ qi f ts done)
  | [], done, out => by cases done <;> simp [qput, qi]
  | x :: t, done, out => by
    rw [qput, List.any_cons]
    cases hb : bad f x with
    | true => simp
    | false =>
      rw [if_neg (by decide), qput_qi f t, Bool.false_or, qi]
      split
      · rfl
      · congr 1
        split <;> simp
theorem drop_cons_hit (x : Fl) (t : List Fl) (p : List UInt8) (h : x.path = p) : drop (x :: t) p = drop t p := by simp [drop, h]
theorem drop_cons_miss (x : Fl) (t : List Fl) (p : List UInt8) (h : x.path ≠ p) : drop (x :: t) p = x :: drop t p := by simp [drop, h]
theorem drop_keep (t : List Fl) (p : List UInt8) (h : ∀ x ∈ t, x.path ≠ p) : drop t p = t := by
  unfold drop
  rw [List.filter_eq_self]
  intro x hx
  simp [h x hx]
theorem qi_done (f : Fl) : ∀ ts : List Fl, qi f ts true = drop ts f.path
  | [] => rfl
  | x :: t => by
    rw [qi, Bool.true_or, qi_done f t]
    by_cases h : x.path = f.path
    · rw [drop_cons_hit x t _ h]; simp [h]
    · rw [drop_cons_miss x t _ h]; simp [h]
theorem ins_front (f : Fl) (t : List Fl) (h : ∀ x ∈ t, Op.bytesLess x.path f.path = false) : ins t f = f :: t := by
  cases t with
  | nil => rfl
  | cons x t => rw [ins, if_neg (by rw [h x (by simp)]; decide)]
theorem qi_ins (f : Fl) : ∀ ts : List Fl, (ts.Pairwise fun f g => Op.bytesLess f.path g.path = true) → qi f ts false = ins (drop ts f.path) f
  | [], _ => rfl
  | x :: t, h => by
    obtain ⟨h1, h2⟩ := List.pairwise_cons.1 h
    rw [qi]
    cases hb : Op.bytesLess x.path f.path with
    | true =>
      rw [drop_cons_miss x t _ (bl_ne hb), ins, if_pos hb, show (!false && !true) = false from rfl, show (false || !true) = false from rfl, qi_ins f t h2, if_neg (bl_ne hb)]
      simp
    | false =>
      rw [show (!false && !false) = true from rfl, show (false || !false) = true from rfl, qi_done, if_pos rfl]
      by_cases he : x.path = f.path
      · have hd : drop t f.path = t := drop_keep t _ fun y hy e => bl_ne (h1 y hy) (by rw [he, e])
        rw [drop_cons_hit x t _ he, if_pos he, hd, ins_front f t fun y hy => by rw [← he]; exact bl_asym (h1 y hy)]
        simp
      · have hg : Op.bytesLess f.path x.path = true := by
          rcases bl_total x.path f.path with h | h | h
          · rw [hb] at h; cases h
          · exact absurd h he
          · exact h
        have hd : drop t f.path = t := drop_keep t _ fun y hy e => by
          have := bl_trans _ _ _ hg (h1 y hy)
          rw [e, bl_irr] at this; cases this
        rw [drop_cons_miss x t _ he, if_neg he, hd, ins, if_neg (by rw [hb]; decide)]
        simp
theorem ins_len (f : Fl) : ∀ t : List Fl, (ins t f).length = t.length + 1
  | [] => rfl
  | x :: t => by
    rw [ins]
    split
    · simp [ins_len f t]
    · simp
theorem drop_le (ts : List Fl) (p : List UInt8) : (drop ts p).length ≤ ts.length := List.length_filter_le _ _
/-- The reference's Put. -/
theorem put_q (ts : List Fl) (f : Fl) : put ts f = (if check ts ≠ 0 then ([], 1) else if pathOk f.path = false then ([], 2) else if 65536 < f.data.length then ([], 10)
    else match qput f ts false [] with | none => ([], 6) | some out => if 64 < out.length then ([], 10) else (out, 0) : List Fl × Int) := by
  unfold put
  split
  · rfl
  · rename_i h0
    have g : Good ts := (good_iff ts).1 (by simpa using h0)
    split
    · rfl
    · split
      · rfl
      · rw [qput_qi, qi_ins f ts g.sorted]
        have hl := g.len
        have hd := drop_le ts f.path
        cases ts.any (bad f) with
        | true => rfl
        | false =>
          simp only [Bool.false_eq_true, if_false, List.nil_append, ins_len]
          by_cases h : (drop ts f.path).length = 64
          · rw [if_pos h, if_pos (by omega)]
          · rw [if_neg h, if_neg (by omega)]

/-- The files with other data at a path. -/
def setF (p s : List UInt8) (f : Fl) : Fl := if f.path = p then ⟨f.path, s⟩ else f
def setPath (ts : List Fl) (p s : List UInt8) : List Fl := ts.map (setF p s)
theorem setPath_keep (t : List Fl) (p s : List UInt8) (h : ∀ x ∈ t, x.path ≠ p) : setPath t p s = t := by
  unfold setPath setF
  conv => rhs; rw [← List.map_id t]
  exact List.map_congr_left fun x hx => by rw [if_neg (h x hx)]; rfl
theorem ins_set (p s : List UInt8) : ∀ ts : List Fl, (ts.Pairwise fun f g => Op.bytesLess f.path g.path = true) → (∃ x ∈ ts, x.path = p) → ins (drop ts p) ⟨p, s⟩ = setPath ts p s
  | [], _, h => by obtain ⟨x, hx, _⟩ := h; simp at hx
  | x :: t, h, he => by
    obtain ⟨h1, h2⟩ := List.pairwise_cons.1 h
    by_cases hx : x.path = p
    · have hk : ∀ y ∈ t, y.path ≠ p := fun y hy e => bl_ne (h1 y hy) (by rw [hx, e])
      rw [drop_cons_hit x t _ hx, drop_keep t _ hk, ins_front _ t fun y hy => by show Op.bytesLess y.path p = false; rw [← hx]; exact bl_asym (h1 y hy)]
      show _ = setF p s x :: setPath t p s
      rw [setPath_keep t p s hk]
      unfold setF
      rw [if_pos hx, hx]
    · have he2 : ∃ y ∈ t, y.path = p := by
        obtain ⟨y, hy, e⟩ := he
        rcases List.mem_cons.1 hy with rfl | hy
        · exact absurd e hx
        · exact ⟨y, hy, e⟩
      have hlt : Op.bytesLess x.path p = true := by obtain ⟨y, hy, e⟩ := he2; rw [← e]; exact h1 y hy
      rw [drop_cons_miss x t _ hx, ins, if_pos hlt, ins_set p s t h2 he2]
      show _ = setF p s x :: setPath t p s
      unfold setF
      rw [if_neg hx]
theorem below_self (p : List UInt8) : below p p = false := by simp [below]
theorem below_less {p d : List UInt8} (h : below p d = true) : Op.bytesLess d p = true := by
  unfold below at h
  simp only [Bool.and_eq_true, decide_eq_true_eq, beq_iff_eq] at h
  obtain ⟨⟨h1, h2⟩, _⟩ := h
  have e := List.take_append_drop d.length p
  rw [h2] at e
  rw [← e]
  exact bl_prefix d _ (fun e2 => by have := congrArg List.length e2; rw [List.length_drop, List.length_nil] at this; omega)
theorem Good.below {ts : List Fl} (g : Good ts) {f h : Fl} (hf : f ∈ ts) (hh : h ∈ ts) : Tre.below f.path h.path = false := by
  induction ts with
  | nil => simp at hf
  | cons x t ih =>
    have gs := List.pairwise_cons.1 g.sorted
    have ga := List.pairwise_cons.1 g.apart
    rcases List.mem_cons.1 hf with e1 | hf2
    · rcases List.mem_cons.1 hh with e2 | hh2
      · rw [e1, e2]; exact below_self _
      · rw [Bool.eq_false_iff]
        intro hb
        have h1 := below_less hb
        have h2 := gs.1 h hh2
        rw [← e1, bl_asym h1] at h2; cases h2
    · rcases List.mem_cons.1 hh with e2 | hh2
      · rw [e2]; exact ga.1 f hf2
      · exact ih (g.sub (List.sublist_cons_self x t)) hf2 hh2
theorem put_set {ts : List Fl} (g : Good ts) {p s : List UInt8} (hf : (find ts p).2 = true) (hs : s.length ≤ 65536) : put ts ⟨p, s⟩ = (setPath ts p s, 0) := by
  obtain ⟨x, hx, e, _⟩ := find_mem hf
  have hc := (good_iff ts).2 g
  have hbad : ts.any (bad ⟨p, s⟩) = false := by
    rw [List.any_eq_false]
    intro y hy
    simp only [bad, ← e]
    rw [g.below hy hx, g.below hx hy]
    decide
  have hlen : ∀ us : List Fl, x ∈ us → (drop us p).length < us.length := by
    intro us
    induction us with
    | nil => simp
    | cons y u ih =>
      intro hm
      have hl := drop_le u p
      rcases List.mem_cons.1 hm with rfl | hm
      · rw [drop_cons_hit x u _ e]; simp; omega
      · by_cases hy : y.path = p
        · rw [drop_cons_hit y u _ hy]; simp; omega
        · rw [drop_cons_miss y u _ hy]; have := ih hm; simp; omega
  have hl := hlen ts hx
  have hg := g.len
  unfold put
  rw [if_neg (by rw [hc]; decide), if_neg (by show ¬ pathOk p = false; rw [← e, g.ok x hx]; decide), if_neg (by show ¬ 65536 < s.length; omega), hbad, if_neg (by decide), if_neg (by show ¬ (drop ts p).length = 64; omega)]
  exact congrArg (·, 0) (ins_set p s ts g.sorted ⟨x, hx, e⟩)

/-- Replace. -/
def repl (ts : List Fl) (p : List UInt8) (n : Int) (text : List UInt8) : List Fl × Int :=
  if check ts ≠ 0 then ([], 1)
  else if (find ts p).2 = false then ([], 7)
  else if (lines (find ts p).1).2 ≠ 0 then ([], (lines (find ts p).1).2)
  else if n < 0 ∨ ((lines (find ts p).1).1.length : Int) ≤ n then ([], 3)
  else if (join ((lines (find ts p).1).1.set n.toNat text)).2 ≠ 0 then ([], (join ((lines (find ts p).1).1.set n.toNat text)).2)
  else (setPath ts p (join ((lines (find ts p).1).1.set n.toNat text)).1, 0)
theorem lines_range (s : List UInt8) : ((lines s).2 = 0 ∧ (lines s).1 = split 10 s ∧ s.length ≤ 65536) ∨ (lines s).2 = 10 := by
  unfold lines
  split
  · exact .inr rfl
  · exact .inl ⟨rfl, rfl, by omega⟩
theorem join_range (l : List (List UInt8)) : ((join l).2 = 0 ∧ (join l).1 = joined l ∧ (joined l).length ≤ 65536) ∨ (join l).2 = 1 ∨ (join l).2 = 10 := by
  unfold join
  split
  · exact .inr (.inl rfl)
  · split
    · exact .inr (.inr rfl)
    · exact .inl ⟨rfl, rfl, by omega⟩
/-- A line with a line feed in it cannot be joined. -/
theorem join_bad (s : List UInt8) (n : Nat) (text : List UInt8) (hn : n < (split 10 s).length) (ht : (split 10 text).length ≠ 1) : (join ((split 10 s).set n text)).2 = 1 := by
  unfold join
  rw [if_pos]
  right
  rw [List.any_eq_true]
  refine ⟨text, List.mem_set hn text, ?_⟩
  rw [contains_iff, decide_eq_true_iff]
  have := split_ne 10 text
  have : 0 < (split 10 text).length := List.length_pos_iff.2 this
  omega
/-- The reference's Replace. -/
theorem repl_q (ts : List Fl) (p : List UInt8) (n : Int) (text : List UInt8) : repl ts p n text =
    if check ts ≠ 0 then ([], 1)
    else if (find ts p).2 = false then ([], 7)
    else if (lines (find ts p).1).2 ≠ 0 then ([], (lines (find ts p).1).2)
    else if n < 0 ∨ ((lines (find ts p).1).1.length : Int) ≤ n then ([], 3)
    else if (split 10 text).length ≠ 1 then ([], 1)
    else if (join ((lines (find ts p).1).1.set n.toNat text)).2 ≠ 0 then ([], (join ((lines (find ts p).1).1.set n.toNat text)).2)
    else put ts ⟨p, (join ((lines (find ts p).1).1.set n.toNat text)).1⟩ := by
  unfold repl
  split
  · rfl
  · rename_i h0
    split
    · rfl
    · rename_i h1
      split
      · rfl
      · rename_i h2
        have hl := (lines_range (find ts p).1).resolve_right (by omega)
        split
        · rfl
        · rename_i h3
          rw [hl.2.1] at h3 ⊢
          by_cases ht : (split 10 text).length ≠ 1
          · have := join_bad (find ts p).1 n.toNat text (by omega) ht
            rw [if_pos ht, this, if_pos (by decide)]
          · rw [if_neg ht]
            rcases join_range ((split 10 (find ts p).1).set n.toNat text) with ⟨j1, j2, j3⟩ | j | j
            · rw [j1, if_neg (by decide), if_neg (by decide), put_set ((good_iff ts).1 (by simpa using h0)) (by simpa using h1) (by rw [j2]; exact j3)]
            · rw [j, if_pos (by decide), if_pos (by decide)]
            · rw [j, if_pos (by decide), if_pos (by decide)]
end Tre
end Go.Proofs.YtinkpbobkeppiaaGreatDoor
end
section
namespace Go.Proofs.YtinkpbobkeppiaaGreatDoor
namespace Tre

theorem setF_path (p s : List UInt8) (f : Fl) : (setF p s f).path = f.path := by
  unfold setF; split <;> rfl
theorem setF_keep (p s : List UInt8) (f : Fl) (h : f.path ≠ p) : setF p s f = f := by
  unfold setF; rw [if_neg h]
theorem find_setPath (ts : List Fl) (p s : List UInt8) (h : (find ts p).2 = true) : find (setPath ts p s) p = (s, true) := by
  induction ts with
  | nil => simp [find] at h
  | cons x t ih =>
    unfold find setPath at *
    rw [List.map_cons, List.find?_cons, setF_path]
    rw [List.find?_cons] at h
    by_cases hx : x.path = p
    · have e : (x.path == p) = true := by simp [hx]
      rw [e]
      simp [setF, hx]
    · have e : (x.path == p) = false := by simp [hx]
      rw [e] at h ⊢
      exact ih h
theorem setPath_back {ts : List Fl} (g : Good ts) (p s : List UInt8) : setPath (setPath ts p s) p (find ts p).1 = ts := by
  unfold setPath
  rw [List.map_map]
  conv => rhs; rw [← List.map_id ts]
  refine List.map_congr_left fun x hx => ?_
  show setF p _ (setF p s x) = x
  by_cases hp : x.path = p
  · have := g.find_of hx
    rw [hp] at this
    rw [this]
    unfold setF
    simp only [hp, if_true]
    rw [← hp]
  · rw [setF_keep p s x hp, setF_keep p _ x hp]
theorem good_setPath {ts : List Fl} (g : Good ts) (p s : List UInt8) (hs : s.length ≤ 65536) : Good (setPath ts p s) := by
  refine ⟨by unfold setPath; rw [List.length_map]; exact g.len, fun f hf => ?_, fun f hf => ?_, ?_, ?_⟩
  · obtain ⟨x, hx, rfl⟩ := List.mem_map.1 hf
    rw [setF_path]; exact g.ok x hx
  · obtain ⟨x, hx, rfl⟩ := List.mem_map.1 hf
    unfold setF; split
    · exact hs
    · exact g.size x hx
  · unfold setPath
    rw [List.pairwise_map]
    exact g.sorted.imp fun h => by rw [setF_path, setF_path]; exact h
  · unfold setPath
    rw [List.pairwise_map]
    exact g.apart.imp fun h => by rw [setF_path, setF_path]; exact h
/-- What Replace gives. -/
structure Did (ts : List Fl) (p : List UInt8) (n : Nat) (text : List UInt8) (us : List Fl) : Prop where
  good : Good ts
  goodu : Good us
  was : (find ts p).2 = true
  lns : lines (find ts p).1 = (split 10 (find ts p).1, 0)
  lt : n < (split 10 (find ts p).1).length
  now : find us p = (joined ((split 10 (find ts p).1).set n text), true)
  nows : lines (joined ((split 10 (find ts p).1).set n text)) = ((split 10 (find ts p).1).set n text, 0)
  joins : Tre.join ((split 10 (find ts p).1).set n text) = (joined ((split 10 (find ts p).1).set n text), 0)
  eqs : us = setPath ts p (joined ((split 10 (find ts p).1).set n text))
  pure : text.contains 10 = false
  back : repl us p n (split 10 (find ts p).1)[n] = (ts, 0)
theorem join_pure {l : List (List UInt8)} (h : (Tre.join l).2 = 0) : l ≠ [] ∧ (∀ s ∈ l, s.contains 10 = false) ∧ (joined l).length ≤ 65536 ∧ l.length ≤ 1024 ∧ Tre.join l = (joined l, 0) := by
  unfold Tre.join at h ⊢
  split at h
  · cases h
  · rename_i h1
    split at h
    · cases h
    · rename_i h2
      refine ⟨fun e => h1 (.inl e), fun s hs => ?_, by omega, by omega, by rw [if_neg h1, if_neg h2]⟩
      rw [Bool.eq_false_iff]
      intro e
      exact h1 (.inr (List.any_eq_true.2 ⟨s, hs, e⟩))
theorem pure_iff {s : List UInt8} : s.contains 10 = false ↔ ∀ x ∈ s, x ≠ 10 := by
  rw [Bool.eq_false_iff, Ne, List.contains_iff_mem]
  exact ⟨fun h x hx e => h (by rw [← e]; exact hx), fun h hm => h 10 hm rfl⟩
theorem lines_joined {l : List (List UInt8)} (h : (Tre.join l).2 = 0) : lines (joined l) = (l, 0) := by
  obtain ⟨h1, h2, h3, h4, _⟩ := join_pure h
  have e := split_joined l h1 fun p hp => pure_iff.1 (h2 p hp)
  unfold lines
  rw [e, if_neg (by omega)]
theorem set_back {α : Type} (l : List α) (n : Nat) (x : α) (h : n < l.length) : (l.set n x).set n l[n] = l := by
  rw [List.set_set, List.set_getElem_self]
theorem join_lines {s : List UInt8} (h : (lines s).2 = 0) : Tre.join (split 10 s) = (s, 0) := by
  unfold lines at h
  split at h
  · cases h
  · rename_i hh
    unfold Tre.join
    rw [if_neg, if_neg, joined_split]
    · rw [joined_split]; omega
    · rintro (e | e)
      · exact split_ne 10 s e
      · obtain ⟨x, hx, hc⟩ := List.any_eq_true.1 e
        have := pure_iff.2 (split_pure 10 s x hx)
        rw [this] at hc; cases hc
theorem repl_cases (ts : List Fl) (p : List UInt8) (n : Int) (text : List UInt8) : ((repl ts p n text).2 ≠ 0 ∧ (repl ts p n text).1 = []) ∨ ((repl ts p n text).2 = 0 ∧ ∃ m : Nat, n = (m : Int) ∧ Did ts p m text (repl ts p n text).1) := by
  have hd : repl ts p n text = if check ts ≠ 0 then ([], 1)
    else if (find ts p).2 = false then ([], 7)
    else if (lines (find ts p).1).2 ≠ 0 then ([], (lines (find ts p).1).2)
    else if n < 0 ∨ ((lines (find ts p).1).1.length : Int) ≤ n then ([], 3)
    else if (Tre.join ((lines (find ts p).1).1.set n.toNat text)).2 ≠ 0 then ([], (Tre.join ((lines (find ts p).1).1.set n.toNat text)).2)
    else (setPath ts p (Tre.join ((lines (find ts p).1).1.set n.toNat text)).1, 0) := rfl
  by_cases h0 : check ts ≠ 0
  · rw [if_pos h0] at hd; rw [hd]; exact .inl ⟨by decide, rfl⟩
  rw [if_neg h0] at hd
  by_cases h1 : (find ts p).2 = false
  · rw [if_pos h1] at hd; rw [hd]; exact .inl ⟨by decide, rfl⟩
  rw [if_neg h1] at hd
  by_cases h2 : (lines (find ts p).1).2 ≠ 0
  · rw [if_pos h2] at hd; rw [hd]; exact .inl ⟨h2, rfl⟩
  rw [if_neg h2] at hd
  by_cases h3 : n < 0 ∨ ((lines (find ts p).1).1.length : Int) ≤ n
  · rw [if_pos h3] at hd; rw [hd]; exact .inl ⟨by decide, rfl⟩
  rw [if_neg h3] at hd
  by_cases h4 : (Tre.join ((lines (find ts p).1).1.set n.toNat text)).2 ≠ 0
  · rw [if_pos h4] at hd; rw [hd]; exact .inl ⟨h4, rfl⟩
  rw [if_neg h4] at hd
  have g : Good ts := (good_iff ts).1 (by simpa using h0)
  have hwas : (find ts p).2 = true := by simpa using h1
  have hl0 : (lines (find ts p).1).2 = 0 := by simpa using h2
  have hlr := (lines_range (find ts p).1).resolve_right (by rw [hl0]; decide)
  obtain ⟨m, rfl⟩ : ∃ m : Nat, n = (m : Int) := ⟨n.toNat, by omega⟩
  rw [hlr.2.1] at h3 h4 hd
  rw [Int.toNat_natCast] at h4 hd
  have hj0 : (Tre.join ((split 10 (find ts p).1).set m text)).2 = 0 := by simpa using h4
  obtain ⟨j1, j2, j3, j4, j5⟩ := join_pure hj0
  have hlt : m < (split 10 (find ts p).1).length := by omega
  rw [j5] at hd
  have hus : (repl ts p (m : Int) text).1 = setPath ts p (joined ((split 10 (find ts p).1).set m text)) := by rw [hd]
  refine .inr ⟨by rw [hd], m, rfl, ?_⟩
  rw [hus]
  have gu := good_setPath g p _ j3
  have hnow := find_setPath ts p (joined ((split 10 (find ts p).1).set m text)) hwas
  have hnows := lines_joined hj0
  refine ⟨g, gu, hwas, Prod.ext hlr.2.1 hl0, hlt, hnow, hnows, j5, rfl, j2 text (List.mem_set hlt text), ?_⟩
  unfold repl
  rw [if_neg (by rw [(good_iff _).2 gu]; decide), hnow]
  simp only []
  rw [if_neg (by decide), hnows]
  simp only [List.length_set, Int.toNat_natCast]
  rw [if_neg (by decide), if_neg (by omega), set_back _ _ _ hlt, join_lines hl0, if_neg (fun h => h rfl), setPath_back g p _]
end Tre
end Go.Proofs.YtinkpbobkeppiaaGreatDoor
end
section
namespace Go.Proofs.YtinkpbobkeppiaaGreatDoor
namespace Tre

theorem mem_ins (us : List Fl) (f x : Fl) : x ∈ ins us f ↔ x = f ∨ x ∈ us := by
  induction us with
  | nil => simp [ins]
  | cons g t ih =>
    rw [ins]
    split
    · rw [List.mem_cons, ih, List.mem_cons]
      constructor
      · rintro (h | h | h)
        · exact .inr (.inl h)
        · exact .inl h
        · exact .inr (.inr h)
      · rintro (h | h | h)
        · exact .inr (.inl h)
        · exact .inl h
        · exact .inr (.inr h)
    · rw [List.mem_cons]
theorem mem_drop (us : List Fl) (p : List UInt8) (x : Fl) : x ∈ drop us p ↔ x ∈ us ∧ x.path ≠ p := by
  unfold drop; rw [List.mem_filter]; simp
theorem ins_sorted (f : Fl) : ∀ us : List Fl, (us.Pairwise fun f g => Op.bytesLess f.path g.path = true) → (∀ x ∈ us, x.path ≠ f.path) → (ins us f).Pairwise fun f g => Op.bytesLess f.path g.path = true
  | [], _, _ => by simp [ins]
  | g :: t, h, hn => by
    obtain ⟨h1, h2⟩ := List.pairwise_cons.1 h
    rw [ins]
    split
    · rename_i hb
      rw [List.pairwise_cons]
      refine ⟨fun x hx => ?_, ins_sorted f t h2 fun x hx => hn x (by simp [hx])⟩
      rcases (mem_ins t f x).1 hx with rfl | hx
      · exact hb
      · exact h1 x hx
    · rename_i hb
      have hg : Op.bytesLess f.path g.path = true := by
        rcases bl_total g.path f.path with h | h | h
        · exact absurd h hb
        · exact absurd h (hn g (by simp))
        · exact h
      rw [List.pairwise_cons]
      refine ⟨fun x hx => ?_, h⟩
      rcases List.mem_cons.1 hx with rfl | hx
      · exact hg
      · exact bl_trans _ _ _ hg (h1 x hx)
theorem drop_sub (ts : List Fl) (p : List UInt8) : (drop ts p).Sublist ts := List.filter_sublist
theorem find_iff {ts : List Fl} (g : Good ts) (p s : List UInt8) : find ts p = (s, true) ↔ ⟨p, s⟩ ∈ ts := by
  constructor
  · intro h
    obtain ⟨f, hf, e, hd⟩ := find_mem (ts := ts) (p := p) (by rw [h])
    rw [h] at hd
    have : f = ⟨p, s⟩ := by cases f; simp at e hd; rw [e, hd]
    rw [← this]; exact hf
  · intro h
    exact g.find_of h
theorem find_nott (a : List Fl) (p : List UInt8) (h : ∀ f ∈ a, f.path ≠ p) : find a p = ([], false) := by
  unfold find
  rw [List.find?_eq_none.2 fun x hx => by simpa using h x hx]
theorem find_taill (x : Fl) (a : List Fl) (p : List UInt8) (h : x.path ≠ p) : find (x :: a) p = find a p := by unfold find; rw [List.find?_cons_of_neg (by simpa using h)]
theorem find_false {ts : List Fl} {p : List UInt8} (h : ∀ f ∈ ts, f.path ≠ p) : find ts p = ([], false) := find_nott ts p h
theorem find_two (ts : List Fl) (p : List UInt8) : (find ts p).2 = true ∨ find ts p = ([], false) := by
  cases h : (find ts p).2 with
  | true => exact .inl rfl
  | false => exact .inr (Prod.ext (find_none h).2 h)
theorem find_drop {ts : List Fl} (g : Good ts) (p q : List UInt8) : find (drop ts p) q = if q = p then ([], false) else find ts q := by
  by_cases h : q = p
  · rw [if_pos h]
    exact find_false fun f hf e => ((mem_drop ts p f).1 hf).2 (by rw [e, h])
  · rw [if_neg h]
    rcases find_two ts q with h2 | h2
    · obtain ⟨f, hf, e, hd⟩ := find_mem h2
      have : find ts q = (f.data, true) := Prod.ext hd h2
      rw [this, find_iff (g.sub (drop_sub ts p)), mem_drop]
      exact ⟨by rw [← e]; exact hf, h⟩
    · rw [h2]
      refine find_false fun f hf e => ?_
      have := (find_none (ts := ts) (p := q) (by rw [h2])).1 f ((mem_drop ts p f).1 hf).1
      exact this e
theorem drop_ins (f : Fl) : ∀ us : List Fl, (∀ x ∈ us, x.path ≠ f.path) → drop (ins us f) f.path = us
  | [], _ => by simp [ins, drop]
  | g :: t, h => by
    rw [ins]
    split
    · rw [drop_cons_miss _ _ _ (h g (by simp)), drop_ins f t fun x hx => h x (by simp [hx])]
    · rw [drop_cons_hit _ _ _ rfl, drop_keep _ _ h]
/-- What Put gives, where it gives something. -/
structure Had (ts : List Fl) (f : Fl) : Prop where
  put : put ts f = (ins (drop ts f.path) f, 0)
  good : Good (ins (drop ts f.path) f)
  found : find (ins (drop ts f.path) f) f.path = (f.data, true)
  other : ∀ q, q ≠ f.path → find (ins (drop ts f.path) f) q = find ts q
  back : drop (ins (drop ts f.path) f) f.path = drop ts f.path
theorem good_ins {ts : List Fl} (g : Good ts) (f : Fl) (h1 : pathOk f.path = true) (h2 : f.data.length ≤ 65536) (h3 : ts.any (bad f) = false) (h4 : (drop ts f.path).length ≠ 64) : Had ts f := by
  have gd := g.sub (drop_sub ts f.path)
  have hl := gd.len
  have hne : ∀ x ∈ drop ts f.path, x.path ≠ f.path := fun x hx => ((mem_drop _ _ _).1 hx).2
  have hbad : ∀ x ∈ drop ts f.path, below x.path f.path = false ∧ below f.path x.path = false := fun x hx => by
    have := List.any_eq_false.1 h3 x ((mem_drop _ _ _).1 hx).1
    unfold bad at this
    simpa using this
  have gg : Good (ins (drop ts f.path) f) := by
    refine ⟨by rw [ins_len]; omega, fun x hx => ?_, fun x hx => ?_, ins_sorted f _ gd.sorted hne, ?_⟩
    · rcases (mem_ins _ _ _).1 hx with rfl | hx
      · exact h1
      · exact gd.ok x hx
    · rcases (mem_ins _ _ _).1 hx with rfl | hx
      · exact h2
      · exact gd.size x hx
    · have hall : ∀ x ∈ ins (drop ts f.path) f, ∀ y ∈ ins (drop ts f.path) f, below y.path x.path = false := by
        intro x hx y hy
        rcases (mem_ins _ _ _).1 hx with rfl | hx
        · rcases (mem_ins _ _ _).1 hy with rfl | hy
          · exact below_self _
          · exact (hbad y hy).1
        · rcases (mem_ins _ _ _).1 hy with rfl | hy
          · exact (hbad x hx).2
          · exact gd.below hy hx
      exact List.pairwise_of_forall_mem_list hall
  refine ⟨?_, gg, (find_iff gg _ _).2 ((mem_ins _ _ _).2 (.inl rfl)), fun q hq => ?_, drop_ins f _ hne⟩
  · unfold Tre.put
    rw [if_neg (by rw [(good_iff ts).2 g]; decide), if_neg (by rw [h1]; decide), if_neg (by omega), h3, if_neg (by decide), if_neg h4]
  · rcases find_two ts q with h | h
    · obtain ⟨x, hx, e, hd⟩ := find_mem h
      have : find ts q = (x.data, true) := Prod.ext hd h
      rw [this, find_iff gg, mem_ins, mem_drop]
      exact .inr ⟨by rw [← e]; exact hx, hq⟩
    · rw [h]
      refine find_false fun x hx e => ?_
      rcases (mem_ins _ _ _).1 hx with rfl | hx
      · exact hq e.symm
      · exact (find_none (ts := ts) (p := q) (by rw [h])).1 x ((mem_drop _ _ _).1 hx).1 e
theorem put_cases {ts : List Fl} (g : Good ts) (f : Fl) : ((put ts f).2 ≠ 0 ∧ (put ts f).1 = []) ∨ Had ts f := by
  have hd : put ts f = if check ts ≠ 0 then ([], 1) else if pathOk f.path = false then ([], 2) else if 65536 < f.data.length then ([], 10) else if (ts.any (bad f)) = true then ([], 6) else if (drop ts f.path).length = 64 then ([], 10) else (ins (drop ts f.path) f, 0) := rfl
  rw [if_neg (by rw [(good_iff ts).2 g]; decide)] at hd
  by_cases h1 : pathOk f.path = false
  · rw [if_pos h1] at hd; rw [hd]; exact .inl ⟨by decide, rfl⟩
  rw [if_neg h1] at hd
  by_cases h2 : 65536 < f.data.length
  · rw [if_pos h2] at hd; rw [hd]; exact .inl ⟨by decide, rfl⟩
  rw [if_neg h2] at hd
  by_cases h3 : (ts.any (bad f)) = true
  · rw [if_pos h3] at hd; rw [hd]; exact .inl ⟨by decide, rfl⟩
  rw [if_neg h3] at hd
  by_cases h4 : (drop ts f.path).length = 64
  · rw [if_pos h4] at hd; rw [hd]; exact .inl ⟨by decide, rfl⟩
  exact .inr (good_ins g f (by simpa using h1) (by omega) (by simpa using h3) h4)
/-- Dropping what is there once. -/
theorem drop_one {ts : List Fl} (g : Good ts) {p : List UInt8} (h : (find ts p).2 = true) : (drop ts p).length + 1 = ts.length := by
  induction ts with
  | nil => simp [find] at h
  | cons x t ih =>
    have gs := List.pairwise_cons.1 g.sorted
    by_cases hx : x.path = p
    · rw [drop_cons_hit x t _ hx, drop_keep t _ fun y hy e => bl_ne (gs.1 y hy) (by rw [hx, e])]; rfl
    · rw [drop_cons_miss x t _ hx]
      have h2 : (find t p).2 = true := by rw [find_taill x t p hx] at h; exact h
      have := ih (g.sub (List.sublist_cons_self x t)) h2
      simp; omega
/-- Good lists that find the same are one. -/
theorem good_eq {a b : List Fl} (ga : Good a) (gb : Good b) (h1 : ∀ f ∈ a, (find b f.path).2 = true) (h2 : ∀ p, (find b p).2 = true → find a p = find b p) : a = b := by
  have hm : ∀ x : Fl, x ∈ a ↔ x ∈ b := by
    intro x
    rw [show x = ⟨x.path, x.data⟩ from rfl, ← find_iff ga, ← find_iff gb]
    constructor
    · intro h
      obtain ⟨f, hf, e, hd⟩ := find_mem (ts := a) (p := x.path) (by rw [h])
      rw [← h2 x.path (by rw [← e]; exact h1 f hf)]; exact h
    · intro h
      rw [h2 x.path (by rw [h])]; exact h
  have key : ∀ (a b : List Fl), (a.Pairwise fun f g => Op.bytesLess f.path g.path = true) → (b.Pairwise fun f g => Op.bytesLess f.path g.path = true) → (∀ x, x ∈ a ↔ x ∈ b) → a = b := by
    intro a
    induction a with
    | nil =>
      intro b _ _ h
      cases b with
      | nil => rfl
      | cons y b => have := (h y).2 (by simp); simp at this
    | cons x a ih =>
      intro b ha hb h
      cases b with
      | nil => have := (h x).1 (by simp); simp at this
      | cons y b =>
        have ha' := List.pairwise_cons.1 ha
        have hb' := List.pairwise_cons.1 hb
        have hxy : x = y := by
          have m1 := (h x).1 (by simp)
          have m2 := (h y).2 (by simp)
          rcases List.mem_cons.1 m1 with e | m1
          · exact e
          · rcases List.mem_cons.1 m2 with e | m2
            · exact e.symm
            · have l1 := hb'.1 x m1
              have l2 := ha'.1 y m2
              rw [bl_asym l1] at l2; cases l2
        subst hxy
        rw [ih b ha'.2 hb'.2 fun z => ?_]
        have hz := h z
        simp only [List.mem_cons] at hz
        constructor
        · intro hm
          rcases hz.1 (.inr hm) with e | h
          · rw [e] at hm; have := ha'.1 x hm; rw [bl_irr] at this; cases this
          · exact h
        · intro hm
          rcases hz.2 (.inr hm) with e | h
          · rw [e] at hm; have := hb'.1 x hm; rw [bl_irr] at this; cases this
          · exact h
  exact key a b ga.sorted gb.sorted hm
end Tre
end Go.Proofs.YtinkpbobkeppiaaGreatDoor
end
section
namespace Go.Proofs.YtinkpbobkeppiaaGreatDoor
namespace Tre

def pos : List Fl → List UInt8 → Nat
  | [], _ => 0
  | g :: t, p => if Op.bytesLess g.path p = true then pos t p + 1 else 0
theorem pos_le : ∀ (us : List Fl) (p : List UInt8), pos us p ≤ us.length
  | [], _ => Nat.le_refl _
  | g :: t, p => by
    rw [pos]
    split
    · have := pos_le t p; simp; omega
    · simp
theorem ins_pos : ∀ (us : List Fl) (f : Fl), ins us f = us.take (pos us f.path) ++ f :: us.drop (pos us f.path)
  | [], _ => rfl
  | g :: t, f => by
    rw [ins, pos]
    split
    · rw [ins_pos t f]; rfl
    · rfl
theorem pos_of : ∀ (us : List Fl) (p : List UInt8) (i : Nat) (_ : i ≤ us.length) (_ : ∀ k (h : k < us.length), k < i → Op.bytesLess us[k].path p = true) (_ : ∀ k (h : k < us.length), i ≤ k → Op.bytesLess us[k].path p = false), pos us p = i
  | [], _, i, h, _, _ => by simp at h; rw [h]; rfl
  | g :: t, p, 0, _, _, h2 => by
    rw [pos, if_neg (by have := h2 0 (by simp) (Nat.le_refl _); simp at this; rw [this]; decide)]
  | g :: t, p, i + 1, h, h1, h2 => by
    rw [pos, if_pos (by have := h1 0 (by simp) (by omega); simpa using this)]
    rw [pos_of t p i (by simpa using h) (fun k hk hlt => by have := h1 (k + 1) (by simp; omega) (by omega); simpa using this) (fun k hk hge => by have := h2 (k + 1) (by simp; omega) (by omega); simpa using this)]
theorem cb_less : ∀ a b : List UInt8, (Lib.compareBytes a b < 0) ↔ Op.bytesLess a b = true
  | [], [] => by simp [Lib.compareBytes, Op.bytesLess]
  | [], _ :: _ => by simp [Lib.compareBytes, Op.bytesLess]
  | _ :: _, [] => by simp [Lib.compareBytes, Op.bytesLess]
  | a :: x, b :: y => by
    rw [bl_cons, Lib.compareBytes]
    by_cases h1 : a < b
    · rw [if_pos h1]
      have : a.toNat < b.toNat := UInt8.lt_iff_toNat_lt.1 h1
      simp [this]
    · rw [if_neg h1]
      by_cases h2 : b < a
      · rw [if_pos h2]
        have h3 : b.toNat < a.toNat := UInt8.lt_iff_toNat_lt.1 h2
        have h4 : a ≠ b := fun e => by rw [e] at h3; omega
        simp [h4]; omega
      · rw [if_neg h2, cb_less x y]
        have h3 : a = b := UInt8.le_antisymm (UInt8.not_lt.1 h2) (UInt8.not_lt.1 h1)
        rw [h3]; simp
theorem less_mono {us : List Fl} (hs : us.Pairwise fun f g => Op.bytesLess f.path g.path = true) {p : List UInt8} {h k : Nat} (hh : h < us.length) (hk : k ≤ h) (hl : Op.bytesLess us[h].path p = true) : Op.bytesLess (us[k]'(by omega)).path p = true := by
  rcases Nat.lt_or_ge k h with h1 | h1
  · exact bl_trans _ _ _ (List.pairwise_iff_getElem.1 hs k h (by omega) hh h1) hl
  · obtain rfl : k = h := by omega
    exact hl
theorem notless_mono {us : List Fl} (hs : us.Pairwise fun f g => Op.bytesLess f.path g.path = true) {p : List UInt8} {h k : Nat} (hk : h ≤ k) (hkl : k < us.length) (hl : Op.bytesLess (us[h]'(by omega)).path p = false) : Op.bytesLess us[k].path p = false := by
  rw [Bool.eq_false_iff]
  intro e
  rw [less_mono hs hkl hk e] at hl
  cases hl
theorem any_bad (ts : List Fl) (f : Fl) : ts.any (bad f) = ((ts.any fun x => below f.path x.path) || (ts.any fun x => below x.path f.path)) := by
  induction ts with
  | nil => rfl
  | cons x t ih =>
    rw [List.any_cons, List.any_cons, List.any_cons, ih, bad]
    cases below x.path f.path <;> cases below f.path x.path <;> cases (t.any fun x => below f.path x.path) <;> rfl
end Tre
end Go.Proofs.YtinkpbobkeppiaaGreatDoor
end
