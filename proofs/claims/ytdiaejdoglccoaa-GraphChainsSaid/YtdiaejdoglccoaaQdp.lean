/- Plain: labels by relaxing edges until nothing changes. -/
import Derived.Test.YtdiaejdoglccoaaGpl
namespace Go.Proofs.Ytdiaejdoglccoaa

namespace Gr
/-- What holds while edges are relaxed: labels of nodes toward t, not by way of c. -/
structure Rlx (g : Gph) (t : Nat) (c : Int) (L : Nat → Int) : Prop where
  neg : ∀ m, L m = -1 ∨ 0 ≤ L m
  snd : ∀ m, 0 ≤ L m → Wk (row false g.es) [(t : Int)] c (L m).toNat m
  bd : Bd L g.ns.length
  st : (t : Int) ≠ c → L t = 0
/-- An edge that changes nothing. -/
def idle (c : Int) (L : Nat → Int) (x : Ed) : Prop := x.src = c ∨ L x.dst.toNat < 0 ∨ (0 ≤ L x.src.toNat ∧ L x.src.toNat ≤ L x.dst.toNat + 1)
/-- What is left to do. -/
def pot (N : Nat) (L : Nat → Int) : Nat → Nat
  | 0 => 0
  | n + 1 => pot N L n + if L n < 0 then N + 1 else (L n).toNat
theorem pot_out (N : Nat) (L : Nat → Int) (b : Nat) (x : Int) : ∀ n, n ≤ b → pot N (fun j => if j = b then x else L j) n = pot N L n
  | 0, _ => rfl
  | n + 1, h => by
    rw [pot, pot, pot_out N L b x n (by omega)]
    simp only [show ¬ n = b by omega, if_false]
theorem pot_set (N : Nat) (L : Nat → Int) (b : Nat) (x : Int) (hx : 0 ≤ x) (hxN : x ≤ (N : Int)) (hlt : L b < 0 ∨ x < L b) : ∀ n, b < n → pot N (fun j => if j = b then x else L j) n < pot N L n
  | 0, h => by omega
  | n + 1, h => by
    rw [pot, pot]
    by_cases e : n = b
    · subst e
      rw [pot_out N L n x n (Nat.le_refl _)]
      simp only [if_true]
      rw [if_neg (by omega)]
      split <;> omega
    · have := pot_set N L b x hx hxN hlt n (by omega)
      simp only [e, if_false]
      omega
theorem Rlx.init (g : Gph) (t : Nat) (c : Int) (ht : t < g.ns.length) : Rlx g t c (if (t : Int) ≠ c then fun j => if j = t then 0 else -1 else fun _ => -1) := by
  by_cases h : (t : Int) ≠ c
  · rw [if_pos h]
    have hv := (Bd.init g.ns.length).vis (c := c) (b := t) (x := 0) ht (Int.le_refl _) (by have := ng_le (fun _ => -1) g.ns.length; omega)
    unfold visL at hv
    rw [if_pos ⟨(show (-1 : Int) < 0 by decide), h⟩] at hv
    refine ⟨fun m => ?_, fun m hm => ?_, hv, fun _ => by simp⟩
    · show (if m = t then (0 : Int) else -1) = -1 ∨ 0 ≤ (if m = t then (0 : Int) else -1)
      split <;> omega
    · by_cases e : m = t
      · subst e
        simp only [if_true]
        exact .start m (by simp) h
      · simp only [e, if_false] at hm
        omega
  · rw [if_neg h]
    exact ⟨fun m => .inl rfl, fun m hm => by omega, Bd.init _, fun h2 => absurd h2 h⟩
/-- An edge is relaxed. -/
theorem Rlx.relax {g : Gph} {t : Nat} {c : Int} {L : Nat → Int} (h : Rlx g t c L) (hOk : Ok g) {x : Ed} (hx : x ∈ g.es) (hn : ¬ idle c L x) {s d : Nat} (hs : x.src = (s : Int)) (hd : x.dst = (d : Int)) : Rlx g t c (fun j => if j = s then L d + 1 else L j) ∧ pot g.ns.length (fun j => if j = s then L d + 1 else L j) g.ns.length < pot g.ns.length L g.ns.length ∧ 0 ≤ L d := by
  unfold idle at hn
  rw [hs, hd, Int.toNat_natCast, Int.toNat_natCast] at hn
  have hsc : (s : Int) ≠ c := fun e => hn (.inl e)
  have hd0 : 0 ≤ L d := Int.not_lt.1 fun e => hn (.inr (.inl e))
  have hlt : L s < 0 ∨ L d + 1 < L s := by
    by_cases h1 : L s < 0
    · exact .inl h1
    · right
      refine Int.not_le.1 fun h2 => hn (.inr (.inr ⟨by omega, h2⟩))
  have hsl : s < g.ns.length := by have := hOk.ed true x hx; rw [show eA true x = x.src from rfl, hs] at this; omega
  have hb := h.bd d
  have hng := ng_le L g.ns.length
  have hbd : Bd (fun j => if j = s then L d + 1 else L j) g.ns.length ∧ L d + 1 ≤ (g.ns.length : Int) := by
    rcases Int.lt_or_le (L s) 0 with h1 | h1
    · have hv := h.bd.vis (c := c) (b := s) (x := L d + 1) hsl (by omega) (by omega)
      unfold visL at hv
      rw [if_pos ⟨h1, hsc⟩] at hv
      have := hv s
      simp only [if_true] at this
      exact ⟨hv, by omega⟩
    · have h2 : L d + 1 < L s := by omega
      have hbs := h.bd s
      have hsame : ∀ n, ng (fun j => if j = s then L d + 1 else L j) n = ng L n := by
        intro n
        induction n with
        | zero => rfl
        | succ n ih =>
          rw [ng, ng, ih]
          by_cases e : n = s
          · subst e
            simp only [if_true]
            rw [if_neg (by omega), if_neg (by omega)]
          · simp only [e, if_false]
      refine ⟨fun m => ?_, by omega⟩
      rw [hsame]
      show (if m = s then L d + 1 else L m) + _ ≤ _
      have := h.bd m
      split <;> omega
  refine ⟨⟨fun m => ?_, fun m hm => ?_, hbd.1, fun ht => ?_⟩, pot_set _ _ _ _ (by omega) hbd.2 hlt _ hsl, hd0⟩
  · show (if m = s then L d + 1 else L m) = -1 ∨ 0 ≤ (if m = s then L d + 1 else L m)
    have := h.neg m
    split <;> omega
  · by_cases e : m = s
    · subst e
      simp only [if_true]
      rw [show (L d + 1).toNat = (L d).toNat + 1 by omega]
      exact .step _ d m (h.snd d hd0) (by rw [← hs]; exact mem_row (fw := false) hx hd) hsc
    · simp only [e, if_false] at hm ⊢
      exact h.snd m hm
  · have h0 := h.st ht
    show (if t = s then L d + 1 else L t) = 0
    by_cases e : t = s
    · subst e
      omega
    · rw [if_neg e]; exact h0
/-- Where nothing changes the labels are the lengths of the shortest walks. -/
theorem Rlx.lab {g : Gph} {t : Nat} {c : Int} {L : Nat → Int} (h : Rlx g t c L) (hid : ∀ x ∈ g.es, idle c L x) : Lab (row false g.es) [(t : Int)] c L := by
  refine ⟨h.neg, h.snd, fun k m hw => ?_⟩
  induction hw with
  | start s hs hc =>
    rw [List.mem_singleton] at hs
    obtain rfl : s = t := by omega
    have := h.st hc
    omega
  | step k a b _ hm hc ih =>
    obtain ⟨y, hy, h1, h2⟩ := row_mem hm
    have e1 : y.dst = (a : Int) := h1
    have e2 : y.src = (b : Int) := h2.symm
    have := hid y hy
    unfold idle at this
    rw [e1, e2, Int.toNat_natCast, Int.toNat_natCast] at this
    rcases this with h3 | h3 | h3
    · exact absurd h3 hc
    · omega
    · exact ⟨h3.1, by omega⟩
end Gr
end Go.Proofs.Ytdiaejdoglccoaa
