/- Plain: a source affects the writer of a path exactly if it is one of those needed for it. -/
import Derived.Test.YtjemffgidhgfjaaGreatDoorRkSrc
import Derived.Test.YtjemffgidhgfjaaGreatDoorRkQwr
namespace Go.Proofs.YtjemffgidhgfjaaGreatDoor.Rk
open Tr

namespace Rc
/-- The steps that a path affects. -/
inductive Afd (r : List Dn) (q : List UInt8) : Nat → Prop
  | base {k : Nat} {s : Dn} {t : Tch} : r[k]? = some s → t ∈ s.rds → t.pth = q → Afd r q k
  | step {j k : Nat} {s : Dn} {t : Tch} : Afd r q j → r[k]? = some s → t ∈ s.rds → wr0 r t.pth = some j → Afd r q k
theorem wr0_self {r : List Dn} (hc : chk r = 0) {j : Nat} {s : Dn} (hs : r[j]? = some s) : wr0 r s.wr.pth = some j := by
  have hj := (List.getElem?_eq_some_iff.1 hs).1
  have h0 : wr0 r s.wr.pth = wrtN r r.length s.wr.pth := by unfold wr0; rw [if_pos hc]
  rw [h0]
  cases hw : wrtN r r.length s.wr.pth with
  | none => exact absurd rfl (wrtN_none hw j s hj hs)
  | some i =>
    obtain ⟨hi, s', hs', hp⟩ := wrtN_some hw
    rcases Nat.lt_trichotomy i j with h | h | h
    · exact (wr_uniq hc h hs hs' hp).elim
    · rw [h]
    · exact (wr_uniq hc h hs' hs hp.symm).elim
theorem aft_is {r : List Dn} (hc : chk r = 0) (q : List UInt8) : ∀ k, k ≤ r.length → (∀ x, x ∈ (aft r [q] k).1 ↔ (x = q ∨ ∃ j s, j < k ∧ Afd r q j ∧ r[j]? = some s ∧ s.wr.pth = x)) ∧ (∀ j, j ∈ (aft r [q] k).2 ↔ (j < k ∧ Afd r q j))
  | 0, _ => ⟨fun x => ⟨fun h => .inl (List.mem_singleton.1 h), fun h => h.elim (fun e => List.mem_singleton.2 e) fun ⟨_, _, h, _⟩ => by omega⟩, fun j => ⟨fun h => (by cases h), fun h => by omega⟩⟩
  | k + 1, hk => by
    obtain ⟨ih1, ih2⟩ := aft_is hc q k (by omega)
    have hs := List.getElem?_eq_getElem (show k < r.length by omega)
    generalize r[k]'(show k < r.length by omega) = s at hs
    rw [aft_succ hs]
    have hh : hitB (aft r [q] k).1 s = true ↔ Afd r q k := by
      unfold hitB
      rw [List.any_eq_true]
      constructor
      · rintro ⟨t, ht, h⟩
        rcases (ih1 t.pth).1 (List.contains_iff_mem.1 h) with h | ⟨j, s', hj, ha, hs', hp⟩
        · exact .base hs ht h
        · exact .step ha hs ht (by rw [← hp]; exact wr0_self hc hs')
      · intro h
        cases h with
        | base hs2 ht hp => rw [hs] at hs2; cases hs2; exact ⟨_, ht, List.contains_iff_mem.2 ((ih1 _).2 (.inl hp))⟩
        | @step j _ _ t ha hs2 ht hw =>
          rw [hs] at hs2; cases hs2
          have hjk := rd_lt hs ht hw
          obtain ⟨_, _, s', hs', hp⟩ := wr0_some hw
          exact ⟨_, ht, List.contains_iff_mem.2 ((ih1 _).2 (.inr ⟨j, s', hjk, ha, hs', hp⟩))⟩
    cases hb : hitB (aft r [q] k).1 s with
    | false =>
      have hn : ¬ Afd r q k := fun h => by rw [hh.2 h] at hb; cases hb
      rw [if_neg (by decide)]
      refine ⟨fun x => ?_, fun j => ?_⟩
      · rw [ih1 x]
        refine or_congr Iff.rfl ⟨fun ⟨j, s', h1, h2⟩ => ⟨j, s', by omega, h2⟩, fun ⟨j, s', h1, h2, h3⟩ => ⟨j, s', ?_, h2, h3⟩⟩
        by_cases e : j = k
        · subst e; exact absurd h2 hn
        · omega
      · rw [ih2 j]
        refine ⟨fun ⟨h1, h2⟩ => ⟨by omega, h2⟩, fun ⟨h1, h2⟩ => ⟨?_, h2⟩⟩
        by_cases e : j = k
        · subst e; exact absurd h2 hn
        · omega
    | true =>
      have hn := hh.1 hb
      rw [if_pos rfl]
      refine ⟨fun x => ?_, fun j => ?_⟩
      · rw [List.mem_append, ih1 x, List.mem_singleton]
        constructor
        · rintro ((h | ⟨j, s', h1, h2⟩) | h)
          · exact .inl h
          · exact .inr ⟨j, s', by omega, h2⟩
          · exact .inr ⟨k, s, by omega, hn, hs, h.symm⟩
        · rintro (h | ⟨j, s', h1, h2, h3, h4⟩)
          · exact .inl (.inl h)
          · by_cases e : j = k
            · subst e; rw [hs] at h3; cases h3; exact .inr h4.symm
            · exact .inl (.inr ⟨j, s', by omega, h2, h3, h4⟩)
      · rw [List.mem_append, ih2 j, List.mem_singleton]
        constructor
        · rintro (⟨h1, h2⟩ | rfl)
          · exact ⟨by omega, h2⟩
          · exact ⟨by omega, hn⟩
        · rintro ⟨h1, h2⟩
          by_cases e : j = k
          · exact .inr e
          · exact .inl ⟨by omega, h2⟩
theorem afd_ned {r : List Dn} {p q : List UInt8} (hq : wr0 r q = none) {k : Nat} (h : Afd r q k) (hn : Ned r p k) : SrcOf r (Ned r p) q := by
  induction h with
  | base hs ht hp => exact ⟨_, _, _, hn, hs, ht, hp, hq⟩
  | step _ hs ht hw ih => exact ih (.step hn hs ht hw)
theorem ned_afd {r : List Dn} {p q : List UInt8} {w i : Nat} (hw : wr0 r p = some w) (hn : Ned r p i) (ha : Afd r q i) : Afd r q w := by
  induction hn with
  | base h => rw [hw] at h; cases h; exact ha
  | step _ hs ht h ih => exact ih (.step ha hs ht h)
/-- The law's last part. -/
theorem aff_src {r : List Dn} (hc : chk r = 0) {p q : List UInt8} {w : Nat} (hw : wr0 r p = some w) (hq : wr0 r q = none) : w ∈ affL r [q] ↔ SrcOf r (Ned r p) q := by
  unfold affL
  rw [if_pos hc, (aft_is hc q r.length (Nat.le_refl _)).2 w]
  constructor
  · rintro ⟨_, h⟩
    exact afd_ned hq h (.base hw)
  · rintro ⟨i, s, t, hi, hs, ht, hp, _⟩
    exact ⟨(wr0_some hw).2.1, ned_afd hw hi (.base hs ht hp)⟩
end Rc
end Go.Proofs.YtjemffgidhgfjaaGreatDoor.Rk
