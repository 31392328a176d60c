/- Plain: the graph of a record. -/
import Derived.Test.YtjemffgidhgfjaaGreatDoorMz7
import Derived.Test.YtjemffgidhgfjaaGreatDoorRkQin
namespace Go.Proofs.YtjemffgidhgfjaaGreatDoor
open Tr

namespace Gr
/-- The paths that steps touch. -/
def pths (l : List Rk.Dn) : List (List UInt8) := l.flatMap fun s => (Rk.Rc.tcs s).map (·.pth)
/-- The nodes of a record: the paths that it touches, each once, in order. -/
def NodL (r : List Rk.Dn) (L : List (List UInt8)) : Prop := Rk.Rc.Asc L ∧ ∀ x, x ∈ L ↔ x ∈ pths r
theorem NodL.uniq {r : List Rk.Dn} {a b : List (List UInt8)} (ha : NodL r a) (hb : NodL r b) : a = b := Tre.rising_eq ha.1 hb.1 fun x => by rw [ha.2 x, hb.2 x]
theorem pths_take {r : List Rk.Dn} {k : Nat} (h : k < r.length) : pths (r.take (k + 1)) = pths (r.take k) ++ (Rk.Rc.tcs r[k]).map (·.pth) := by
  unfold pths
  rw [List.take_succ_eq_append_getElem h, List.flatMap_append, List.flatMap_singleton]
/-- Where a node stands. -/
def idx (L : List (List UInt8)) (x : List UInt8) : Int := match L.findIdx? (· == x) with | some i => (i : Int) | none => -1
theorem idx_some {L : List (List UInt8)} {k : Nat} {p : List UInt8} (hk : k < L.length) (hb : (L.take k).any (· == p) = false) (h : (L[k] == p) = true) : idx L p = (k : Int) := by
  have e : L.findIdx? (· == p) = some k := by
    rw [List.findIdx?_eq_some_iff_getElem]
    refine ⟨hk, h, fun j hj hc => ?_⟩
    have : (L.take k).any (· == p) = true := List.any_eq_true.2 ⟨L[j]'(by omega), List.mem_take_iff_getElem.2 ⟨j, by omega, rfl⟩, hc⟩
    rw [hb] at this; cases this
  unfold idx
  rw [e]
theorem idx_none {L : List (List UInt8)} {p : List UInt8} (hb : L.any (· == p) = false) : idx L p = -1 := by
  have e : L.findIdx? (· == p) = none := by
    rw [List.findIdx?_eq_none_iff]
    intro t ht
    cases h : (t == p) with
    | false => rfl
    | true => rw [List.any_eq_true.2 ⟨t, ht, h⟩] at hb; cases hb
  unfold idx
  rw [e]
theorem idx_asc {L : List (List UInt8)} (hL : Rk.Rc.Asc L) {k : Nat} (hk : k < L.length) : idx L L[k] = (k : Int) := by
  refine idx_some hk ?_ (beq_self_eq_true _)
  rw [List.any_eq_false]
  intro x hx hxe
  obtain ⟨j, hj, rfl⟩ := List.mem_take_iff_getElem.1 hx
  have h1 := List.pairwise_iff_getElem.1 hL j k (by omega) hk (by omega)
  rw [beq_iff_eq] at hxe
  exact Tre.bl_ne h1 hxe
/-- The edges of step i, in the order of its files. -/
def edsS (L : List (List UInt8)) (i : Nat) (s : Rk.Dn) (n : Nat) : List Ed := (s.rds.take n).map fun t => ⟨idx L t.pth, idx L s.wr.pth, (i : Int)⟩
def edsN (r : List Rk.Dn) (L : List (List UInt8)) : Nat → List Ed
  | 0 => []
  | k + 1 => edsN r L k ++ match r[k]? with | some s => edsS L k s s.rds.length | none => []
theorem edsN_succ {r : List Rk.Dn} {L : List (List UInt8)} {k : Nat} (h : k < r.length) : edsN r L (k + 1) = edsN r L k ++ edsS L k r[k] r[k].rds.length := by
  show edsN r L k ++ (match r[k]? with | some s => edsS L k s s.rds.length | none => []) = _
  rw [List.getElem?_eq_getElem h]
theorem edsS_succ {L : List (List UInt8)} {i : Nat} {s : Rk.Dn} {n : Nat} (h : n < s.rds.length) : edsS L i s (n + 1) = edsS L i s n ++ [⟨idx L s.rds[n].pth, idx L s.wr.pth, (i : Int)⟩] := by
  unfold edsS
  rw [List.take_succ_eq_append_getElem h, List.map_append]
  rfl
theorem edsS_len (L : List (List UInt8)) (i : Nat) (s : Rk.Dn) (n : Nat) : (edsS L i s n).length ≤ n := by unfold edsS; rw [List.length_map, List.length_take]; omega
/-- No edge is less than one before it. -/
def Srt (d : List Ed) : Prop := d.Pairwise fun x y => lt y x = false
/-- Sorted lists of the same edges are one. -/
theorem srt_uniq {a b : List Ed} (ha : Srt a) (hb : Srt b) (h : a.Perm b) : a = b := by
  refine List.Perm.eq_of_pairwise (le := fun x y => lt y x = false) (fun x y _ _ h1 h2 => ?_) ha hb h
  have h1' : ¬ lt y x = true := by rw [h1]; decide
  have h2' : ¬ lt x y = true := by rw [h2]; decide
  rw [lt_iff] at h1' h2'
  obtain ⟨a1, a2, a3⟩ := x
  obtain ⟨b1, b2, b3⟩ := y
  simp only [Ed.mk.injEq] at *
  omega
def EdL (r : List Rk.Dn) (L : List (List UInt8)) (es : List Ed) : Prop := es.Perm (edsN r L r.length) ∧ Srt es
/-- What Of returns. -/
def OfP (r : List Rk.Dn) (g : Gph) (x : Int) : Prop := (Rk.Rc.chk r ≠ 0 ∧ g = ⟨[], []⟩ ∧ x = 1) ∨ (Rk.Rc.chk r = 0 ∧ x = 0 ∧ NodL r g.ns ∧ EdL r g.ns g.es)
theorem OfP.uniq {r : List Rk.Dn} {g g' : Gph} {x x' : Int} (h : OfP r g x) (h' : OfP r g' x') : g = g' ∧ x = x' := by
  rcases h with ⟨h1, rfl, rfl⟩ | ⟨h1, rfl, h2, h3⟩
  · rcases h' with ⟨_, rfl, rfl⟩ | ⟨h4, _⟩
    · exact ⟨rfl, rfl⟩
    · exact absurd h4 h1
  · rcases h' with ⟨h4, _⟩ | ⟨_, rfl, h5, h6⟩
    · exact absurd h1 h4
    · obtain ⟨ns, es⟩ := g
      obtain ⟨ns', es'⟩ := g'
      have e1 : ns = ns' := h2.uniq h5
      subst e1
      have e2 : es = es' := srt_uniq h3.2 h6.2 (h3.1.trans h6.1.symm)
      rw [e2]
      exact ⟨rfl, rfl⟩
/-- L is l with x. -/
def InsE (l : List Ed) (x : Ed) (L : List Ed) : Prop := ∃ k, k ≤ l.length ∧ (∀ j (h : j < l.length), j < k → lt l[j] x = true) ∧ (∀ h : k < l.length, lt l[k] x = false) ∧ L = l.take k ++ x :: l.drop k
theorem InsE.srt {l L : List Ed} {x : Ed} (h : InsE l x L) (hl : Srt l) : Srt L ∧ L.Perm (l ++ [x]) ∧ L.length = l.length + 1 := by
  obtain ⟨k, hk, h1, h2, rfl⟩ := h
  have hlow : ∀ a ∈ l.take k, lt a x = true := fun a ha => by
    obtain ⟨j, hj, rfl⟩ := List.mem_take_iff_getElem.1 ha
    exact h1 j (by omega) (by omega)
  have hhigh : ∀ b ∈ l.drop k, lt b x = false := fun b hb => by
    obtain ⟨j, hj, e⟩ := List.mem_iff_getElem.1 hb
    rw [List.length_drop] at hj
    rw [List.getElem_drop] at e
    have hkl : k < l.length := by omega
    have h0 := h2 hkl
    by_cases hj0 : j = 0
    · subst hj0; subst e; exact h0
    · subst e
      have h3 := List.pairwise_iff_getElem.1 hl k (k + j) hkl (by omega) (by omega)
      rw [Bool.eq_false_iff] at *
      intro h4
      rw [ne_eq, lt_iff] at h3 h0
      rw [lt_iff] at h4
      omega
  refine ⟨?_, ?_, by rw [List.length_append, List.length_cons, List.length_take, List.length_drop]; omega⟩
  · refine List.pairwise_append.2 ⟨hl.sublist (List.take_sublist _ _), List.pairwise_cons.2 ⟨fun b hb => hhigh b hb, hl.sublist (List.drop_sublist _ _)⟩, fun a ha b hb => ?_⟩
    have ha2 := hlow a ha
    rcases List.mem_cons.1 hb with rfl | hb
    · rw [Bool.eq_false_iff]
      intro h4
      rw [lt_iff] at ha2 h4
      omega
    · have hb2 := hhigh b hb
      rw [Bool.eq_false_iff] at *
      intro h4
      rw [ne_eq, lt_iff] at hb2
      rw [lt_iff] at h4 ha2
      omega
  · have e : l ++ [x] = l.take k ++ (l.drop k ++ [x]) := by rw [← List.append_assoc, List.take_append_drop]
    rw [e]
    exact List.Perm.append_left _ (List.perm_append_singleton x _).symm
end Gr
end Go.Proofs.YtjemffgidhgfjaaGreatDoor
