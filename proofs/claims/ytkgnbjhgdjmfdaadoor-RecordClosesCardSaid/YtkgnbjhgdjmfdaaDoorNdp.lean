/- Plain: the steps that are needed for a path. -/
import Derived.Test.YtkgnbjhgdjmfdaaDoorWrt
namespace Go.Proofs.YtkgnbjhgdjmfdaaDoor
open Tr

namespace Rc
inductive Ned (r : List Dn) (p : List UInt8) : Nat → Prop
  | base {i : Nat} : wr0 r p = some i → Ned r p i
  | step {i j : Nat} {s : Dn} {t : Tch} : Ned r p j → r[j]? = some s → t ∈ s.rds → wr0 r t.pth = some i → Ned r p i
/-- What is read was written before. -/
theorem rd_lt {r : List Dn} {j i : Nat} {s : Dn} {t : Tch} (hs : r[j]? = some s) (ht : t ∈ s.rds) (hw : wr0 r t.pth = some i) : i < j := by
  obtain ⟨hc, hi, s', hs', hp⟩ := wr0_some hw
  refine Classical.byContradiction fun hn => ?_
  obtain ⟨_, hst⟩ := zero_chk hc
  have hz := hst i hi
  have e1 : r[i] = s' := by rw [List.getElem?_eq_getElem hi] at hs'; exact Option.some.inj hs'
  rw [e1] at hz
  have hk : s'.rds.length < (tcs s').length := by rw [tcs_len]; omega
  have h2 := (zero_step hz).2 s'.rds.length hk
  have hget : (tcs s')[s'.rds.length]'hk = s'.wr := by unfold tcs; exact List.getElem_concat_length rfl _
  rw [hget] at h2
  have hcond : (among s'.rds s'.rds.length s'.wr.pth || (decide (s'.rds.length = s'.rds.length) && (touched r i s'.wr.pth).isSome)) = true := by
    rw [Bool.or_eq_true]
    by_cases hji : j = i
    · subst hji
      rw [hs] at hs'
      cases hs'
      left
      unfold among
      rw [List.take_length, List.any_eq_true]
      exact ⟨t, ht, by rw [hp]; simp⟩
    · right
      rw [decide_eq_true rfl, Bool.true_and]
      unfold touched
      rw [Option.isSome_map, List.find?_isSome]
      obtain ⟨hjl, e2⟩ := List.getElem?_eq_some_iff.1 hs
      refine ⟨t, List.mem_flatMap.2 ⟨s, List.mem_take_iff_getElem.2 ⟨j, by omega, e2⟩, ?_⟩, by rw [hp]; simp⟩
      unfold tcs
      exact List.mem_append_left _ ht
  unfold tchE at h2
  by_cases c1 : (!Tre.pathOk s'.wr.pth) = true
  · rw [if_pos c1] at h2; cases h2
  · rw [if_neg c1] at h2
    by_cases c2 : s'.wr.dig.length ≠ 32
    · rw [if_pos c2] at h2; cases h2
    · rw [if_neg c2, if_pos hcond] at h2; cases h2
theorem ned_le {r : List Dn} {p : List UInt8} {last : Nat} (h0 : wr0 r p = some last) {i : Nat} (h : Ned r p i) : i ≤ last := by
  induction h with
  | base h => rw [h0] at h; cases h; exact Nat.le_refl _
  | step _ hs ht hw ih => have := rd_lt hs ht hw; omega
theorem ned_none {r : List Dn} {p : List UInt8} (h0 : wr0 r p = none) {i : Nat} (h : Ned r p i) : False := by
  induction h with
  | base h => rw [h0] at h; cases h
  | step _ _ _ _ ih => exact ih
/-- The marks when the steps from k on were looked at. -/
def Mk (r : List Dn) (last : Nat) (nb : Nat → Bool) (k : Nat) (M : Nat → Bool) : Prop := ∀ m, m ≤ last → (M m = true ↔ (m = last ∨ ∃ j s t, k ≤ j ∧ j ≤ last ∧ nb j = true ∧ r[j]? = some s ∧ t ∈ s.rds ∧ wr0 r t.pth = some m))
theorem Mk.init (r : List Dn) (last : Nat) (nb : Nat → Bool) : Mk r last nb (last + 1) fun m => decide (m = last) := fun m _ => by
  rw [decide_eq_true_eq]
  exact ⟨.inl, fun h => h.elim id fun ⟨j, _, _, h1, h2, _⟩ => by omega⟩
theorem Mk.at {r : List Dn} {p : List UInt8} {last : Nat} {nb : Nat → Bool} {i : Nat} {M : Nat → Bool} (h0 : wr0 r p = some last) (hnb : ∀ j, nb j = true ↔ Ned r p j) (h : Mk r last nb (i + 1) M) (hi : i ≤ last) : M i = nb i := by
  rw [Bool.eq_iff_iff, h i hi, hnb i]
  constructor
  · rintro (rfl | ⟨j, s, t, _, _, hj, hs, ht, hw⟩)
    · exact .base h0
    · exact .step ((hnb j).1 hj) hs ht hw
  · intro hn
    cases hn with
    | base h => rw [h0] at h; cases h; exact .inl rfl
    | step hj hs ht hw => exact .inr ⟨_, _, _, rd_lt hs ht hw, ned_le h0 hj, (hnb _).2 hj, hs, ht, hw⟩
theorem Mk.skip {r : List Dn} {last : Nat} {nb : Nat → Bool} {i : Nat} {M : Nat → Bool} (h : Mk r last nb (i + 1) M) (hn : nb i = false) : Mk r last nb i M := fun m hm => by
  rw [h m hm]
  refine or_congr Iff.rfl ⟨fun ⟨j, s, t, h1, h2⟩ => ⟨j, s, t, by omega, h2⟩, fun ⟨j, s, t, h1, h2, h3, h4⟩ => ⟨j, s, t, ?_, h2, h3, h4⟩⟩
  by_cases e : j = i
  · subst e; rw [hn] at h3; cases h3
  · omega
theorem Mk.take {r : List Dn} {last : Nat} {nb : Nat → Bool} {i : Nat} {M M' : Nat → Bool} {s : Dn} (h : Mk r last nb (i + 1) M) (hi : i ≤ last) (hs : r[i]? = some s) (hn : nb i = true) (hM : ∀ m, M' m = true ↔ (M m = true ∨ ∃ t ∈ s.rds, wr0 r t.pth = some m)) : Mk r last nb i M' := fun m hm => by
  rw [hM m, h m hm]
  constructor
  · rintro ((rfl | ⟨j, s, t, h1, h2⟩) | ⟨t, ht, hw⟩)
    · exact .inl rfl
    · exact .inr ⟨j, s, t, by omega, h2⟩
    · exact .inr ⟨i, s, t, Nat.le_refl _, hi, hn, hs, ht, hw⟩
  · rintro (rfl | ⟨j, s2, t, h1, h2, h3, h4, h5, h6⟩)
    · exact .inl (.inl rfl)
    · by_cases e : j = i
      · subst e; rw [hs] at h4; cases h4; exact .inr ⟨t, h5, h6⟩
      · exact .inl (.inr ⟨j, s2, t, by omega, h2, h3, h4, h5, h6⟩)
/-- The marked ones from k on. -/
def nds (nb : Nat → Bool) (k n : Nat) : List Nat := (List.range' k n).filter nb
theorem nds_cons (nb : Nat → Bool) (k n : Nat) : nds nb k (n + 1) = if nb k = true then k :: nds nb (k + 1) n else nds nb (k + 1) n := by
  unfold nds
  rw [List.range'_succ, List.filter_cons]
theorem nds_len (nb : Nat → Bool) (k n : Nat) : (nds nb k n).length ≤ n := by
  unfold nds
  have := List.length_filter_le nb (List.range' k n)
  rwa [List.length_range'] at this
theorem nds_mem {nb : Nat → Bool} {k n i : Nat} : i ∈ nds nb k n ↔ (k ≤ i ∧ i < k + n ∧ nb i = true) := by
  unfold nds
  rw [List.mem_filter, List.mem_range'_1, and_assoc]
theorem nds_asc (nb : Nat → Bool) (k n : Nat) : (nds nb k n).Pairwise (· < ·) := List.Pairwise.filter _ List.pairwise_lt_range'
def nats (l : List Nat) : List Int := l.map fun (n : Nat) => (n : Int)
theorem nats_len (l : List Nat) : (nats l).length = l.length := by unfold nats; simp
theorem nats_app (a b : List Nat) : nats (a ++ b) = nats a ++ nats b := List.map_append
/-- The needed steps, in order. -/
def NdL (r : List Dn) (p : List UInt8) (L : List Nat) : Prop := L.Pairwise (· < ·) ∧ ∀ i, i ∈ L ↔ Ned r p i
theorem NdL.none {r : List Dn} {p : List UInt8} (h0 : wr0 r p = none) : NdL r p [] := ⟨List.Pairwise.nil, fun i => ⟨fun h => (by cases h), fun h => (ned_none h0 h).elim⟩⟩
theorem NdL.of {r : List Dn} {p : List UInt8} {last : Nat} {nb : Nat → Bool} (h0 : wr0 r p = some last) (hnb : ∀ j, nb j = true ↔ Ned r p j) : NdL r p (nds nb 0 (last + 1)) := ⟨nds_asc _ _ _, fun i => by
  rw [nds_mem, hnb i]
  exact ⟨fun h => h.2.2, fun h => ⟨Nat.zero_le _, by have := ned_le h0 h; omega, h⟩⟩⟩
end Rc
end Go.Proofs.YtkgnbjhgdjmfdaaDoor
