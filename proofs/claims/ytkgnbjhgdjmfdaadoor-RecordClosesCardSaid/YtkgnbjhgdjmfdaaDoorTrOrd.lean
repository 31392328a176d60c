/- Order of files, and what Check asks of them, as a property; plain. No condition. -/
import Derived.Test.YtkgnbjhgdjmfdaaDoorTrTre
namespace Go.Proofs.YtkgnbjhgdjmfdaaDoor.Tr
namespace Tre

theorem bl_cons (a b : UInt8) (x y : List UInt8) : Op.bytesLess (a :: x) (b :: y) = true ↔ a.toNat < b.toNat ∨ (a = b ∧ Op.bytesLess x y = true) := by
  simp [Op.bytesLess, UInt8.lt_iff_toNat_lt]
theorem bl_nil (x : List UInt8) : Op.bytesLess x [] = false := by cases x <;> rfl
theorem bl_irr : ∀ a : List UInt8, Op.bytesLess a a = false
  | [] => rfl
  | a :: x => by
    rw [Bool.eq_false_iff]
    intro h
    rcases (bl_cons a a x x).1 h with h | ⟨_, h⟩
    · omega
    · rw [bl_irr x] at h; cases h
theorem bl_trans : ∀ a b c : List UInt8, Op.bytesLess a b = true → Op.bytesLess b c = true → Op.bytesLess a c = true
  | _, [], _, h, _ => by rw [bl_nil] at h; cases h
  | _, _ :: _, [], _, h => by rw [bl_nil] at h; cases h
  | [], _ :: _, _ :: _, _, _ => rfl
  | a :: x, b :: y, c :: z, h1, h2 => by
    rw [bl_cons] at h1 h2 ⊢
    rcases h1 with h1 | ⟨rfl, h1⟩
    · rcases h2 with h2 | ⟨rfl, _⟩
      · exact .inl (by omega)
      · exact .inl h1
    · rcases h2 with h2 | ⟨rfl, h2⟩
      · exact .inl h2
      · exact .inr ⟨rfl, bl_trans x y z h1 h2⟩
theorem bl_total : ∀ a b : List UInt8, Op.bytesLess a b = true ∨ a = b ∨ Op.bytesLess b a = true
  | [], [] => .inr (.inl rfl)
  | [], _ :: _ => .inl rfl
  | _ :: _, [] => .inr (.inr rfl)
  | a :: x, b :: y => by
    rw [bl_cons, bl_cons]
    rcases Nat.lt_trichotomy a.toNat b.toNat with h | h | h
    · exact .inl (.inl h)
    · have e : a = b := UInt8.toNat_inj.1 h
      subst e
      rcases bl_total x y with h | h | h
      · exact .inl (.inr ⟨rfl, h⟩)
      · exact .inr (.inl (by rw [h]))
      · exact .inr (.inr (.inr ⟨rfl, h⟩))
    · exact .inr (.inr (.inl h))
theorem bl_ne {a b : List UInt8} (h : Op.bytesLess a b = true) : a ≠ b := fun e => by rw [e, bl_irr] at h; cases h
theorem bl_asym {a b : List UInt8} (h : Op.bytesLess a b = true) : Op.bytesLess b a = false := by
  rw [Bool.eq_false_iff]
  intro h2
  have := bl_trans a b a h h2
  rw [bl_irr] at this; cases this
theorem bl_prefix : ∀ (a b : List UInt8), b ≠ [] → Op.bytesLess a (a ++ b) = true
  | [], [], h => absurd rfl h
  | [], _ :: _, _ => rfl
  | x :: a, b, h => by rw [List.cons_append, bl_cons]; exact .inr ⟨rfl, bl_prefix a b h⟩
/-- Two rising lists of the same things are one. -/
theorem rising_eq {l m : List (List UInt8)} (hl : l.Pairwise fun a b => Op.bytesLess a b = true) (hm : m.Pairwise fun a b => Op.bytesLess a b = true) (h : ∀ x, x ∈ l ↔ x ∈ m) : l = m := by
  have hp : l.Perm m := (List.perm_ext_iff_of_nodup (hl.imp fun h => bl_ne h) (hm.imp fun h => bl_ne h)).2 h
  refine List.Perm.eq_of_pairwise (le := fun a b => Op.bytesLess a b = true) (fun a b _ _ h1 h2 => ?_) hl hm hp
  rw [bl_asym h1] at h2; cases h2

/-- What Check asks. -/
structure Good (ts : List Fl) : Prop where
  len : ts.length ≤ 64
  ok : ∀ f ∈ ts, pathOk f.path = true
  size : ∀ f ∈ ts, f.data.length ≤ 65536
  sorted : ts.Pairwise fun f g => Op.bytesLess f.path g.path = true
  apart : ts.Pairwise fun f g => below g.path f.path = false
theorem last_split {α : Type} (l : List α) (x : α) (h : l.getLast? = some x) : ∃ i, l = i ++ [x] := by
  rw [List.getLast?_eq_some_iff] at h
  exact h
theorem checkAt_good : ∀ (ts seen : List Fl), seen.Pairwise (fun f g => Op.bytesLess f.path g.path = true) → seen.Pairwise (fun f g => below g.path f.path = false) → checkAt seen ts = 0 →
    (∀ f ∈ ts, pathOk f.path = true ∧ f.data.length ≤ 65536) ∧ (seen ++ ts).Pairwise (fun f g => Op.bytesLess f.path g.path = true) ∧ (seen ++ ts).Pairwise (fun f g => below g.path f.path = false)
  | [], seen, h1, h2, _ => ⟨by simp, by simpa using h1, by simpa using h2⟩
  | f :: t, seen, h1, h2, h => by
    rw [checkAt_cons] at h
    split at h
    · cases h
    · split at h
      · cases h
      · split at h
        · cases h
        · split at h
          · cases h
          · rename_i a1 a2 a3 a4
            have hlt : ∀ x ∈ seen, Op.bytesLess x.path f.path = true := by
              intro x hx
              cases hg : seen.getLast? with
              | none => rw [List.getLast?_eq_none_iff] at hg; subst hg; simp at hx
              | some g =>
                obtain ⟨i, rfl⟩ := last_split _ _ hg
                rw [hg] at a3
                simp only [Option.any_some, Bool.or_eq_true, beq_iff_eq, not_or] at a3
                have hgf : Op.bytesLess g.path f.path = true := by
                  rcases bl_total g.path f.path with h | h | h
                  · exact h
                  · exact absurd h.symm a3.2
                  · exact absurd h a3.1
                rcases List.mem_append.1 hx with hx | hx
                · exact bl_trans _ _ _ ((List.pairwise_append.1 h1).2.2 x hx g (by simp)) hgf
                · simp at hx; subst hx; exact hgf
            have hap : ∀ x ∈ seen, below f.path x.path = false := by
              intro x hx
              rw [Bool.eq_false_iff]
              intro hb
              exact a4 (List.any_eq_true.2 ⟨x, hx, hb⟩)
            obtain ⟨r1, r2, r3⟩ := checkAt_good t (seen ++ [f]) (List.pairwise_append.2 ⟨h1, by simp, fun a ha b hb => by simp at hb; subst hb; exact hlt a ha⟩) (List.pairwise_append.2 ⟨h2, by simp, fun a ha b hb => by simp at hb; subst hb; exact hap a ha⟩) h
            rw [List.append_assoc] at r2 r3
            refine ⟨fun g hg => ?_, r2, r3⟩
            rcases List.mem_cons.1 hg with rfl | hg
            · exact ⟨by simpa using a1, by omega⟩
            · exact r1 g hg
theorem good_checkAt : ∀ (ts seen : List Fl), (∀ f ∈ ts, pathOk f.path = true ∧ f.data.length ≤ 65536) → (seen ++ ts).Pairwise (fun f g => Op.bytesLess f.path g.path = true) → (seen ++ ts).Pairwise (fun f g => below g.path f.path = false) → checkAt seen ts = 0
  | [], _, _, _, _ => rfl
  | f :: t, seen, h0, h1, h2 => by
    obtain ⟨o1, o2⟩ := h0 f (by simp)
    rw [checkAt_cons, if_neg (by rw [o1]; decide), if_neg (by omega), if_neg, if_neg]
    · refine good_checkAt t (seen ++ [f]) (fun g hg => h0 g (by simp [hg])) ?_ ?_
      · rw [List.append_assoc]; exact h1
      · rw [List.append_assoc]; exact h2
    · intro hb
      obtain ⟨x, hx, hb⟩ := List.any_eq_true.1 hb
      have := (List.pairwise_append.1 h2).2.2 x hx f (by simp)
      rw [this] at hb; cases hb
    · intro hb
      cases hg : seen.getLast? with
      | none => rw [hg] at hb; cases hb
      | some g =>
        rw [hg] at hb
        have hm : g ∈ seen := List.mem_of_getLast? hg
        have := (List.pairwise_append.1 h1).2.2 g hm f (by simp)
        simp only [Option.any_some, Bool.or_eq_true, beq_iff_eq] at hb
        rcases hb with hb | hb
        · rw [bl_asym this] at hb; cases hb
        · exact bl_ne this hb.symm
theorem good_iff (ts : List Fl) : check ts = 0 ↔ Good ts := by
  unfold check
  constructor
  · intro h
    split at h
    · cases h
    · obtain ⟨a, b, c⟩ := checkAt_good ts [] .nil .nil h
      exact ⟨by omega, fun f hf => (a f hf).1, fun f hf => (a f hf).2, b, c⟩
  · intro g
    rw [if_neg (by have := g.len; omega)]
    exact good_checkAt ts [] (fun f hf => ⟨g.ok f hf, g.size f hf⟩) g.sorted g.apart
theorem Good.sub {ts us : List Fl} (g : Good ts) (h : us.Sublist ts) : Good us :=
  ⟨Nat.le_trans h.length_le g.len, fun f hf => g.ok f (h.subset hf), fun f hf => g.size f (h.subset hf), g.sorted.sublist h, g.apart.sublist h⟩
theorem good_nil : Good [] := ⟨by simp, by simp, by simp, .nil, .nil⟩
/-- A file of a tree is the one with its path. -/
theorem Good.one {ts : List Fl} (g : Good ts) {f h : Fl} (hf : f ∈ ts) (hh : h ∈ ts) (e : f.path = h.path) : f = h := by
  induction ts with
  | nil => simp at hf
  | cons x t ih =>
    have gs := List.pairwise_cons.1 g.sorted
    rcases List.mem_cons.1 hf with e1 | hf2
    · rcases List.mem_cons.1 hh with e2 | hh2
      · rw [e1, e2]
      · exact absurd e (bl_ne (by rw [e1]; exact gs.1 h hh2))
    · rcases List.mem_cons.1 hh with e2 | hh2
      · exact absurd e.symm (bl_ne (by rw [e2]; exact gs.1 f hf2))
      · exact ih (g.sub (List.sublist_cons_self x t)) hf2 hh2
theorem find_mem {ts : List Fl} {p : List UInt8} (h : (find ts p).2 = true) : ∃ f ∈ ts, f.path = p ∧ (find ts p).1 = f.data := by
  unfold find at h ⊢
  cases hf : ts.find? (fun f => f.path == p) with
  | none => rw [hf] at h; cases h
  | some f => exact ⟨f, List.mem_of_find?_eq_some hf, by simpa using List.find?_some hf, rfl⟩
theorem find_none {ts : List Fl} {p : List UInt8} (h : (find ts p).2 = false) : (∀ f ∈ ts, f.path ≠ p) ∧ (find ts p).1 = [] := by
  unfold find at h ⊢
  cases hf : ts.find? (fun f => f.path == p) with
  | none =>
    refine ⟨fun f hm e => ?_, rfl⟩
    have := List.find?_eq_none.1 hf f hm
    simp [e] at this
  | some f => rw [hf] at h; cases h
theorem Good.find_of {ts : List Fl} (g : Good ts) {f : Fl} (hf : f ∈ ts) : find ts f.path = (f.data, true) := by
  cases h : (find ts f.path).2 with
  | false => exact absurd rfl ((find_none h).1 f hf)
  | true =>
    obtain ⟨x, hx, e, hd⟩ := find_mem h
    have := g.one hf hx e.symm
    subst this
    exact Prod.ext hd h
end Tre
end Go.Proofs.YtkgnbjhgdjmfdaaDoor.Tr
