/- Put and Replace as plain functions, and that the reference's ways are the program's. No condition. -/
import Derived.Test.YtjgjkbkpdpacnaaGreatDoorOrd
namespace Go.Proofs.YtjgjkbkpdpacnaaGreatDoor
namespace Tre

def bad (f x : Fl) : Bool := below x.path f.path || below f.path x.path
def ins : List Fl → Fl → List Fl
  | [], f => [f]
  | g :: t, f => if Op.bytesLess g.path f.path = true then g :: ins t f else f :: g :: t
def put (ts : List Fl) (f : Fl) : List Fl × Int :=
  if check ts ≠ 0 then ([], 1)
  else if pathOk f.path = false then ([], 2)
  else if 65536 < f.data.length then ([], 10)
  else if (ts.any (bad f)) = true then ([], 6)
  else if (drop ts f.path).length = 64 then ([], 10) else (ins (drop ts f.path) f, 0)
/-- The reference's loop: what it has by now, whether the file is in it; none: a path is below another one. -/
def qput (f : Fl) : List Fl → Bool → List Fl → Option (List Fl)
  | [], done, out => some (if done = true then out else out ++ [f])
  | x :: t, done, out => if bad f x = true then none
    else qput f t (done || !Op.bytesLess x.path f.path) ((if (!done && !Op.bytesLess x.path f.path) = true then out ++ [f] else out) ++ (if x.path = f.path then [] else [x]))
def qi (f : Fl) : List Fl → Bool → List Fl
  | [], done => if done = true then [] else [f]
  | x :: t, done => (if (!done && !Op.bytesLess x.path f.path) = true then [f] else []) ++ (if x.path = f.path then [] else [x]) ++ qi f t (done || !Op.bytesLess x.path f.path)
theorem qput_qi (f : Fl) : ∀ (ts : List Fl) (done : Bool) (out : List Fl), qput f ts done out = if ts.any (bad f) = true then none else some (out ++ qi f ts done)
  | [], done, out => by cases done <;> simp [qput, qi]
  | x :: t, done, out => by
    rw [qput, List.any_cons]
    cases hb : bad f x with
    | true => simp
    | false =>
      rw [if_neg (by decide), qput_qi f t, Bool.false_or, qi]
      split
      · rfl
      · congr 1
        split <;> simp
theorem drop_cons_hit (x : Fl) (t : List Fl) (p : List UInt8) (h : x.path = p) : drop (x :: t) p = drop t p := by simp [drop, h]
theorem drop_cons_miss (x : Fl) (t : List Fl) (p : List UInt8) (h : x.path ≠ p) : drop (x :: t) p = x :: drop t p := by simp [drop, h]
theorem drop_keep (t : List Fl) (p : List UInt8) (h : ∀ x ∈ t, x.path ≠ p) : drop t p = t := by
  unfold drop
  rw [List.filter_eq_self]
  intro x hx
  simp [h x hx]
theorem qi_done (f : Fl) : ∀ ts : List Fl, qi f ts true = drop ts f.path
  | [] => rfl
  | x :: t => by
    rw [qi, Bool.true_or, qi_done f t]
    by_cases h : x.path = f.path
    · rw [drop_cons_hit x t _ h]; simp [h]
    · rw [drop_cons_miss x t _ h]; simp [h]
theorem ins_front (f : Fl) (t : List Fl) (h : ∀ x ∈ t, Op.bytesLess x.path f.path = false) : ins t f = f :: t := by
  cases t with
  | nil => rfl
  | cons x t => rw [ins, if_neg (by rw [h x (by simp)]; decide)]
theorem qi_ins (f : Fl) : ∀ ts : List Fl, (ts.Pairwise fun f g => Op.bytesLess f.path g.path = true) → qi f ts false = ins (drop ts f.path) f
  | [], _ => rfl
  | x :: t, h => by
    obtain ⟨h1, h2⟩ := List.pairwise_cons.1 h
    rw [qi]
    cases hb : Op.bytesLess x.path f.path with
    | true =>
      rw [drop_cons_miss x t _ (bl_ne hb), ins, if_pos hb, show (!false && !true) = false from rfl, show (false || !true) = false from rfl, qi_ins f t h2, if_neg (bl_ne hb)]
      simp
    | false =>
      rw [show (!false && !false) = true from rfl, show (false || !false) = true from rfl, qi_done, if_pos rfl]
      by_cases he : x.path = f.path
      · have hd : drop t f.path = t := drop_keep t _ fun y hy e => bl_ne (h1 y hy) (by rw [he, e])
        rw [drop_cons_hit x t _ he, if_pos he, hd, ins_front f t fun y hy => by rw [← he]; exact bl_asym (h1 y hy)]
        simp
      · have hg : Op.bytesLess f.path x.path = true := by
          rcases bl_total x.path f.path with h | h | h
          · rw [hb] at h; cases h
          · exact absurd h he
          · exact h
        have hd : drop t f.path = t := drop_keep t _ fun y hy e => by
          have := bl_trans _ _ _ hg (h1 y hy)
          rw [e, bl_irr] at this; cases this
        rw [drop_cons_miss x t _ he, if_neg he, hd, ins, if_neg (by rw [hb]; decide)]
        simp
theorem ins_len (f : Fl) : ∀ t : List Fl, (ins t f).length = t.length + 1
  | [] => rfl
  | x :: t => by
    rw [ins]
    split
    · simp [ins_len f t]
    · simp
theorem drop_le (ts : List Fl) (p : List UInt8) : (drop ts p).length ≤ ts.length := List.length_filter_le _ _
/-- The reference's Put. -/
theorem put_q (ts : List Fl) (f : Fl) : put ts f = (if check ts ≠ 0 then ([], 1) else if pathOk f.path = false then ([], 2) else if 65536 < f.data.length then ([], 10)
    else match qput f ts false [] with | none => ([], 6) | some out => if 64 < out.length then ([], 10) else (out, 0) : List Fl × Int) := by
  unfold put
  split
  · rfl
  · rename_i h0
    have g : Good ts := (good_iff ts).1 (by simpa using h0)
    split
    · rfl
    · split
      · rfl
      · rw [qput_qi, qi_ins f ts g.sorted]
        have hl := g.len
        have hd := drop_le ts f.path
        cases ts.any (bad f) with
        | true => rfl
        | false =>
          simp only [Bool.false_eq_true, if_false, List.nil_append, ins_len]
          by_cases h : (drop ts f.path).length = 64
          · rw [if_pos h, if_pos (by omega)]
          · rw [if_neg h, if_neg (by omega)]

/-- The files with other data at a path. -/
def setF (p s : List UInt8) (f : Fl) : Fl := if f.path = p then ⟨f.path, s⟩ else f
def setPath (ts : List Fl) (p s : List UInt8) : List Fl := ts.map (setF p s)
theorem setPath_keep (t : List Fl) (p s : List UInt8) (h : ∀ x ∈ t, x.path ≠ p) : setPath t p s = t := by
  unfold setPath setF
  conv => rhs; rw [← List.map_id t]
  exact List.map_congr_left fun x hx => by rw [if_neg (h x hx)]; rfl
theorem ins_set (p s : List UInt8) : ∀ ts : List Fl, (ts.Pairwise fun f g => Op.bytesLess f.path g.path = true) → (∃ x ∈ ts, x.path = p) → ins (drop ts p) ⟨p, s⟩ = setPath ts p s
  | [], _, h => by obtain ⟨x, hx, _⟩ := h; simp at hx
  | x :: t, h, he => by
    obtain ⟨h1, h2⟩ := List.pairwise_cons.1 h
    by_cases hx : x.path = p
    · have hk : ∀ y ∈ t, y.path ≠ p := fun y hy e => bl_ne (h1 y hy) (by rw [hx, e])
      rw [drop_cons_hit x t _ hx, drop_keep t _ hk, ins_front _ t fun y hy => by show Op.bytesLess y.path p = false; rw [← hx]; exact bl_asym (h1 y hy)]
      show _ = setF p s x :: setPath t p s
      rw [setPath_keep t p s hk]
      unfold setF
      rw [if_pos hx, hx]
    · have he2 : ∃ y ∈ t, y.path = p := by
        obtain ⟨y, hy, e⟩ := he
        rcases List.mem_cons.1 hy with rfl | hy
        · exact absurd e hx
        · exact ⟨y, hy, e⟩
      have hlt : Op.bytesLess x.path p = true := by obtain ⟨y, hy, e⟩ := he2; rw [← e]; exact h1 y hy
      rw [drop_cons_miss x t _ hx, ins, if_pos hlt, ins_set p s t h2 he2]
      show _ = setF p s x :: setPath t p s
      unfold setF
      rw [if_neg hx]
theorem below_self (p : List UInt8) : below p p = false := by simp [below]
theorem below_less {p d : List UInt8} (h : below p d = true) : Op.bytesLess d p = true := by
  unfold below at h
  simp only [Bool.and_eq_true, decide_eq_true_eq, beq_iff_eq] at h
  obtain ⟨⟨h1, h2⟩, _⟩ := h
  have e := List.take_append_drop d.length p
  rw [h2] at e
  rw [← e]
  exact bl_prefix d _ (fun e2 => by have := congrArg List.length e2; rw [List.length_drop, List.length_nil] at this; omega)
theorem Good.below {ts : List Fl} (g : Good ts) {f h : Fl} (hf : f ∈ ts) (hh : h ∈ ts) : Tre.below f.path h.path = false := by
  induction ts with
  | nil => simp at hf
  | cons x t ih =>
    have gs := List.pairwise_cons.1 g.sorted
    have ga := List.pairwise_cons.1 g.apart
    rcases List.mem_cons.1 hf with e1 | hf2
    · rcases List.mem_cons.1 hh with e2 | hh2
      · rw [e1, e2]; exact below_self _
      · rw [Bool.eq_false_iff]
        intro hb
        have h1 := below_less hb
        have h2 := gs.1 h hh2
        rw [← e1, bl_asym h1] at h2; cases h2
    · rcases List.mem_cons.1 hh with e2 | hh2
      · rw [e2]; exact ga.1 f hf2
      · exact ih (g.sub (List.sublist_cons_self x t)) hf2 hh2
theorem put_set {ts : List Fl} (g : Good ts) {p s : List UInt8} (hf : (find ts p).2 = true) (hs : s.length ≤ 65536) : put ts ⟨p, s⟩ = (setPath ts p s, 0) := by
  obtain ⟨x, hx, e, _⟩ := find_mem hf
  have hc := (good_iff ts).2 g
  have hbad : ts.any (bad ⟨p, s⟩) = false := by
    rw [List.any_eq_false]
    intro y hy
    simp only [bad, ← e]
    rw [g.below hy hx, g.below hx hy]
    decide
  have hlen : ∀ us : List Fl, x ∈ us → (drop us p).length < us.length := by
    intro us
    induction us with
    | nil => simp
    | cons y u ih =>
      intro hm
      have hl := drop_le u p
      rcases List.mem_cons.1 hm with rfl | hm
      · rw [drop_cons_hit x u _ e]; simp; omega
      · by_cases hy : y.path = p
        · rw [drop_cons_hit y u _ hy]; simp; omega
        · rw [drop_cons_miss y u _ hy]; have := ih hm; simp; omega
  have hl := hlen ts hx
  have hg := g.len
  unfold put
  rw [if_neg (by rw [hc]; decide), if_neg (by show ¬ pathOk p = false; rw [← e, g.ok x hx]; decide), if_neg (by show ¬ 65536 < s.length; omega), hbad, if_neg (by decide), if_neg (by show ¬ (drop ts p).length = 64; omega)]
  exact congrArg (·, 0) (ins_set p s ts g.sorted ⟨x, hx, e⟩)

/-- Replace. -/
def repl (ts : List Fl) (p : List UInt8) (n : Int) (text : List UInt8) : List Fl × Int :=
  if check ts ≠ 0 then ([], 1)
  else if (find ts p).2 = false then ([], 7)
  else if (lines (find ts p).1).2 ≠ 0 then ([], (lines (find ts p).1).2)
  else if n < 0 ∨ ((lines (find ts p).1).1.length : Int) ≤ n then ([], 3)
  else if (join ((lines (find ts p).1).1.set n.toNat text)).2 ≠ 0 then ([], (join ((lines (find ts p).1).1.set n.toNat text)).2)
  else (setPath ts p (join ((lines (find ts p).1).1.set n.toNat text)).1, 0)
theorem lines_range (s : List UInt8) : ((lines s).2 = 0 ∧ (lines s).1 = split 10 s ∧ s.length ≤ 65536) ∨ (lines s).2 = 10 := by
  unfold lines
  split
  · exact .inr rfl
  · exact .inl ⟨rfl, rfl, by omega⟩
theorem join_range (l : List (List UInt8)) : ((join l).2 = 0 ∧ (join l).1 = joined l ∧ (joined l).length ≤ 65536) ∨ (join l).2 = 1 ∨ (join l).2 = 10 := by
  unfold join
  split
  · exact .inr (.inl rfl)
  · split
    · exact .inr (.inr rfl)
    · exact .inl ⟨rfl, rfl, by omega⟩
/-- A line with a line feed in it cannot be joined. -/
theorem join_bad (s : List UInt8) (n : Nat) (text : List UInt8) (hn : n < (split 10 s).length) (ht : (split 10 text).length ≠ 1) : (join ((split 10 s).set n text)).2 = 1 := by
  unfold join
  rw [if_pos]
  right
  rw [List.any_eq_true]
  refine ⟨text, List.mem_set hn text, ?_⟩
  rw [contains_iff, decide_eq_true_iff]
  have := split_ne 10 text
  have : 0 < (split 10 text).length := List.length_pos_iff.2 this
  omega
/-- The reference's Replace. -/
theorem repl_q (ts : List Fl) (p : List UInt8) (n : Int) (text : List UInt8) : repl ts p n text =
    if check ts ≠ 0 then ([], 1)
    else if (find ts p).2 = false then ([], 7)
    else if (lines (find ts p).1).2 ≠ 0 then ([], (lines (find ts p).1).2)
    else if n < 0 ∨ ((lines (find ts p).1).1.length : Int) ≤ n then ([], 3)
    else if (split 10 text).length ≠ 1 then ([], 1)
    else if (join ((lines (find ts p).1).1.set n.toNat text)).2 ≠ 0 then ([], (join ((lines (find ts p).1).1.set n.toNat text)).2)
    else put ts ⟨p, (join ((lines (find ts p).1).1.set n.toNat text)).1⟩ := by
  unfold repl
  split
  · rfl
  · rename_i h0
    split
    · rfl
    · rename_i h1
      split
      · rfl
      · rename_i h2
        have hl := (lines_range (find ts p).1).resolve_right (by omega)
        split
        · rfl
        · rename_i h3
          rw [hl.2.1] at h3 ⊢
          by_cases ht : (split 10 text).length ≠ 1
          · have := join_bad (find ts p).1 n.toNat text (by omega) ht
            rw [if_pos ht, this, if_pos (by decide)]
          · rw [if_neg ht]
            rcases join_range ((split 10 (find ts p).1).set n.toNat text) with ⟨j1, j2, j3⟩ | j | j
            · rw [j1, if_neg (by decide), if_neg (by decide), put_set ((good_iff ts).1 (by simpa using h0)) (by simpa using h1) (by rw [j2]; exact j3)]
            · rw [j, if_pos (by decide), if_pos (by decide)]
            · rw [j, if_pos (by decide), if_pos (by decide)]
end Tre
end Go.Proofs.YtjgjkbkpdpacnaaGreatDoor
