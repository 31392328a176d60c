/- Valid sets of lines, their lines and their number; plain. No condition. -/
import Derived.Test.YtlablbibdkcifaaGreatDoorSwp
import Derived.Test.YtlablbibdkcifaaGreatDoorTrTre
namespace Go.Proofs.YtlablbibdkcifaaGreatDoor
namespace Ls
open Tr.Tre (bl_irr bl_trans bl_total bl_asym bl_ne)

def isSp (lo hi : Int) : Bool := decide (0 ≤ lo) && (decide (lo < hi) && decide (hi ≤ 1024))
def fol (s b : Sp) : Bool := if s.path = b.path then decide (b.hi < s.lo) else less b.path s.path
/-- Whether a span is right behind another one, or at the beginning. -/
def behind (b : Option Sp) (s : Sp) : Bool := match b with
  | none => Tr.Tre.pathOk s.path && isSp s.lo s.hi
  | some b => (decide (b.path = s.path) || Tr.Tre.pathOk s.path) && (isSp s.lo s.hi && fol s b)
def vldB : Option Sp → List Sp → Bool
  | _, [] => true
  | b, s :: t => behind b s && vldB (some s) t
def vld (l : List Sp) : Bool := vldB none l
structure Valid (l : List Sp) : Prop where
  apart : Apart l
  each : ∀ s ∈ l, Tr.Tre.pathOk s.path = true ∧ 0 ≤ s.lo ∧ s.hi ≤ 1024
theorem fol_gap (s b : Sp) : fol s b = true ↔ Gap b s := by
  unfold fol Gap
  by_cases h : s.path = b.path
  · rw [if_pos h, decide_eq_true_eq]
    constructor
    · exact fun x => .inl ⟨h.symm, x⟩
    · rintro (⟨_, x⟩ | x)
      · exact x
      · rw [h] at x; unfold less at x; rw [bl_irr] at x; cases x
  · rw [if_neg h]
    constructor
    · exact fun x => .inr x
    · rintro (⟨x, _⟩ | x)
      · exact absurd x.symm h
      · exact x
theorem isSp_iff (lo hi : Int) : isSp lo hi = true ↔ 0 ≤ lo ∧ lo < hi ∧ hi ≤ 1024 := by unfold isSp; simp only [Bool.and_eq_true, decide_eq_true_eq]
theorem vldB_iff : ∀ (l : List Sp) (b : Sp), Tr.Tre.pathOk b.path = true → (vldB (some b) l = true ↔ Valid l ∧ ∀ s ∈ l, Gap b s)
  | [], b, _ => by
    constructor
    · intro _; exact ⟨⟨.nil, by simp⟩, by simp⟩
    · intro _; rfl
  | s :: t, b, hb => by
    rw [vldB, Bool.and_eq_true]
    unfold behind
    simp only [Bool.and_eq_true, Bool.or_eq_true, decide_eq_true_eq, isSp_iff, fol_gap]
    constructor
    · rintro ⟨⟨h1, h2, h3⟩, h4⟩
      have hs : Tr.Tre.pathOk s.path = true := by
        rcases h1 with h1 | h1
        · rw [← h1]; exact hb
        · exact h1
      obtain ⟨v, g⟩ := (vldB_iff t s hs).1 h4
      refine ⟨⟨⟨fun x hx => ?_, List.pairwise_cons.2 ⟨g, v.apart.gap⟩⟩, fun x hx => ?_⟩, fun x hx => ?_⟩
      · rcases List.mem_cons.1 hx with rfl | hx
        · exact h2.2.1
        · exact v.apart.ne x hx
      · rcases List.mem_cons.1 hx with rfl | hx
        · exact ⟨hs, h2.1, h2.2.2⟩
        · exact v.each x hx
      · rcases List.mem_cons.1 hx with rfl | hx
        · exact h3
        · exact gap_trans h2.2.1 h3 (g x hx)
    · rintro ⟨v, g⟩
      have hs := v.each s (by simp)
      have hn := v.apart.ne s (by simp)
      refine ⟨⟨.inr hs.1, ⟨hs.2.1, hn, hs.2.2⟩, g s (by simp)⟩, (vldB_iff t s hs.1).2 ⟨⟨v.apart.tail, fun x hx => v.each x (by simp [hx])⟩, v.apart.head.2⟩⟩
theorem vld_iff (l : List Sp) : vld l = true ↔ Valid l := by
  unfold vld
  cases l with
  | nil => exact ⟨fun _ => ⟨.nil, by simp⟩, fun _ => rfl⟩
  | cons s t =>
    rw [vldB, Bool.and_eq_true]
    unfold behind
    simp only [Bool.and_eq_true, isSp_iff]
    constructor
    · rintro ⟨⟨h1, h2⟩, h4⟩
      obtain ⟨v, g⟩ := (vldB_iff t s h1).1 h4
      refine ⟨⟨fun x hx => ?_, List.pairwise_cons.2 ⟨g, v.apart.gap⟩⟩, fun x hx => ?_⟩
      · rcases List.mem_cons.1 hx with rfl | hx
        · exact h2.2.1
        · exact v.apart.ne x hx
      · rcases List.mem_cons.1 hx with rfl | hx
        · exact ⟨h1, h2.1, h2.2.2⟩
        · exact v.each x hx
    · intro v
      have hs := v.each s (by simp)
      have hn := v.apart.ne s (by simp)
      exact ⟨⟨hs.1, hs.2.1, hn, hs.2.2⟩, (vldB_iff t s hs.1).2 ⟨⟨v.apart.tail, fun x hx => v.each x (by simp [hx])⟩, v.apart.head.2⟩⟩
/-- The lines of a set. -/
def lns (l : List Sp) : List (LN × Int) := l.flatMap fun s => (List.range (s.hi - s.lo).toNat).map fun (i : Nat) => (s.path, s.lo + (i : Int))
def count (l : List Sp) : Int := (l.map fun s => s.hi - s.lo).sum
theorem mem_lns (l : List Sp) (p : LN) (m : Int) : (p, m) ∈ lns l ↔ has l p m = true := by
  unfold lns
  rw [List.mem_flatMap, has_iff]
  constructor
  · rintro ⟨s, hs, h⟩
    obtain ⟨i, hi, e⟩ := List.mem_map.1 h
    injection e with e1 e2
    rw [List.mem_range] at hi
    exact ⟨s, hs, e1, by omega, by omega⟩
  · rintro ⟨s, hs, rfl, h1, h2⟩
    refine ⟨s, hs, List.mem_map.2 ⟨(m - s.lo).toNat, List.mem_range.2 (by omega), ?_⟩⟩
    rw [show s.lo + ((m - s.lo).toNat : Int) = m by omega]
theorem lns_cons (s : Sp) (t : List Sp) : lns (s :: t) = ((List.range (s.hi - s.lo).toNat).map fun (i : Nat) => (s.path, s.lo + (i : Int))) ++ lns t := rfl
theorem nodup_lns : ∀ {l : List Sp}, Apart l → (lns l).Nodup
  | [], _ => .nil
  | s :: t, h => by
    rw [lns_cons, List.nodup_append]
    refine ⟨?_, nodup_lns h.tail, fun x hx y hy e => ?_⟩
    · unfold List.Nodup
      rw [List.pairwise_map]
      refine List.nodup_range.imp fun h e => h ?_
      injection e with _ e
      omega
    · subst e
      obtain ⟨i, hi, rfl⟩ := List.mem_map.1 hx
      rw [List.mem_range] at hi
      have := h.not_tail (inSp_iff.2 ⟨rfl, (by omega : s.lo ≤ s.lo + (i : Int)), by omega⟩)
      rw [mem_lns, this] at hy
      cases hy
theorem length_lns : ∀ {l : List Sp}, (∀ s ∈ l, s.lo < s.hi) → ((lns l).length : Int) = count l
  | [], _ => rfl
  | s :: t, h => by
    have h1 := h s (by simp)
    have h2 := length_lns (l := t) fun x hx => h x (by simp [hx])
    rw [lns_cons, List.length_append, List.length_map, List.length_range]
    unfold count at *
    rw [List.map_cons, List.sum_cons]
    omega
/-- The numbers of lines of two sets, as filters of the lines of one. -/
theorem count_of {u : List Sp} (hu : Apart u) {L : List (LN × Int)} (hL : L.Nodup) (h : ∀ p m, has u p m = true ↔ (p, m) ∈ L) : count u = L.length := by
  rw [← length_lns hu.ne]
  have : (lns u).Perm L := (List.perm_ext_iff_of_nodup (nodup_lns hu) hL).2 fun x => by rw [← h x.1 x.2, ← mem_lns]
  rw [this.length_eq]
theorem filter_len {α : Type} (q : α → Bool) (L : List α) : (L.filter q).length + (L.filter fun x => !q x).length = L.length := by
  induction L with
  | nil => rfl
  | cons x L ih => cases h : q x <;> simp [h] <;> omega
theorem count_meet {a b m d : List Sp} (ha : Apart a) (hm : Apart m) (hd : Apart d) (h1 : ∀ p n, has m p n = (has a p n && has b p n)) (h2 : ∀ p n, has d p n = (has a p n && !has b p n)) : count d + count m = count a := by
  rw [count_of hm (L := (lns a).filter fun x => has b x.1 x.2) ((nodup_lns ha).filter _) (fun p n => by rw [h1, List.mem_filter, mem_lns, Bool.and_eq_true]),
    count_of hd (L := (lns a).filter fun x => !has b x.1 x.2) ((nodup_lns ha).filter _) (fun p n => by rw [h2, List.mem_filter, mem_lns, Bool.and_eq_true]), ← length_lns ha.ne]
  have := filter_len (fun x : LN × Int => has b x.1 x.2) (lns a)
  omega
theorem count_union {a b u m : List Sp} (ha : Apart a) (hb : Apart b) (hu : Apart u) (hm : Apart m) (h1 : ∀ p n, has m p n = (has a p n && has b p n)) (h2 : ∀ p n, has u p n = (has a p n || has b p n)) : count u + count m = count a + count b := by
  rw [count_of hm (L := (lns b).filter fun x => has a x.1 x.2) ((nodup_lns hb).filter _) (fun p n => by rw [h1, List.mem_filter, mem_lns, Bool.and_comm, Bool.and_eq_true]),
    count_of hu (L := lns a ++ (lns b).filter fun x => !has a x.1 x.2) ?_ (fun p n => ?_), ← length_lns ha.ne, ← length_lns hb.ne, List.length_append]
  · have := filter_len (fun x : LN × Int => has a x.1 x.2) (lns b)
    omega
  · rw [List.nodup_append]
    refine ⟨nodup_lns ha, (nodup_lns hb).filter _, fun x hx y hy e => ?_⟩
    subst e
    rw [List.mem_filter] at hy
    rw [(mem_lns a x.1 x.2).1 hx] at hy
    cases hy.2
  · rw [h2, List.mem_append, List.mem_filter, mem_lns, mem_lns, Bool.or_eq_true, Bool.not_eq_true']
    cases has a p n <;> simp
/-- What the calls of a set return. -/
def list (l : List Sp) : List (LN × Int) := if vld l = true then lns l else []
def hasV (l : List Sp) (p : LN) (m : Int) : Bool := vld l && has l p m
def countV (l : List Sp) : Int := if vld l = true then count l else 0
theorem valid_of {a b out : List Sp} {d : List Ed} (hA : ∀ s, s ∈ a ∨ s ∈ b → Tr.Tre.pathOk s.path = true ∧ 0 ≤ s.lo ∧ s.hi ≤ 1024 ∧ s.lo < s.hi) (hd : ∀ e ∈ d, ∃ s, (s ∈ a ∨ s ∈ b) ∧ e.path = s.path ∧ (e.n = s.lo ∨ e.n = s.hi)) (ho : Apart out) (hf : ∀ s ∈ out, (∃ e ∈ d, s.path = e.path ∧ s.lo = e.n) ∧ ∃ e ∈ d, s.hi = e.n) : Valid out := by
  refine ⟨ho, fun s hs => ?_⟩
  obtain ⟨⟨e, he, h1, h2⟩, e', he', h3⟩ := hf s hs
  obtain ⟨x, hx, k1, k2⟩ := hd e he
  obtain ⟨y, hy, _, k4⟩ := hd e' he'
  have hxx := hA x hx
  have hyy := hA y hy
  rw [h1, k1, h2, h3]
  refine ⟨hxx.1, ?_, ?_⟩
  · rcases k2 with k | k <;> omega
  · rcases k4 with k | k <;> omega
end Ls
end Go.Proofs.YtlablbibdkcifaaGreatDoor
