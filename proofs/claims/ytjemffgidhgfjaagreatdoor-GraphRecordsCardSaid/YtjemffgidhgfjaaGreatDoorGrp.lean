/- Plain: the graph of a valid record: its edges, that it has no cycle, and that its nodes reach what the record's steps affect. -/
import Derived.Test.YtjemffgidhgfjaaGreatDoorEpl
import Derived.Test.YtjemffgidhgfjaaGreatDoorKah
import Derived.Test.YtjemffgidhgfjaaGreatDoorRkAfp
namespace Go.Proofs.YtjemffgidhgfjaaGreatDoor
open Tr

theorem Rk.Rc.aft_asc (r : List Rk.Dn) (ps : List (List UInt8)) : ∀ k, (Rk.Rc.aft r ps k).2.Pairwise (· < ·) ∧ ∀ j ∈ (Rk.Rc.aft r ps k).2, j < k
  | 0 => ⟨List.Pairwise.nil, fun j h => by cases h⟩
  | k + 1 => by
    obtain ⟨h1, h2⟩ := Rk.Rc.aft_asc r ps k
    cases hs : r[k]? with
    | none =>
      have e : Rk.Rc.aft r ps (k + 1) = Rk.Rc.aft r ps k := by rw [Rk.Rc.aft, hs]
      rw [e]
      exact ⟨h1, fun j hj => by have := h2 j hj; omega⟩
    | some s =>
      rw [Rk.Rc.aft_succ hs]
      split
      · refine ⟨List.pairwise_append.2 ⟨h1, List.pairwise_singleton _ _, fun a ha b hb => ?_⟩, fun j hj => ?_⟩
        · rw [List.mem_singleton] at hb; have := h2 a ha; omega
        · rcases List.mem_append.1 hj with h | h
          · have := h2 j h; omega
          · rw [List.mem_singleton] at h; omega
      · exact ⟨h1, fun j hj => by have := h2 j hj; omega⟩
namespace Gr
theorem mem_edsS {L : List (List UInt8)} {i : Nat} {s : Rk.Dn} {x : Ed} : x ∈ edsS L i s s.rds.length ↔ ∃ t ∈ s.rds, x = ⟨idx L t.pth, idx L s.wr.pth, (i : Int)⟩ := by
  unfold edsS
  rw [List.take_length, List.mem_map]
  exact ⟨fun ⟨t, h, e⟩ => ⟨t, h, e.symm⟩, fun ⟨t, h, e⟩ => ⟨t, h, e.symm⟩⟩
theorem mem_edsN {r : List Rk.Dn} {L : List (List UInt8)} {x : Ed} : ∀ n, x ∈ edsN r L n ↔ ∃ (k : Nat) (s : Rk.Dn), k < n ∧ r[k]? = some s ∧ ∃ t ∈ s.rds, x = ⟨idx L t.pth, idx L s.wr.pth, (k : Int)⟩
  | 0 => ⟨fun h => (by cases h), fun ⟨_, _, h, _⟩ => by omega⟩
  | n + 1 => by
    show x ∈ edsN r L n ++ (match r[n]? with | some s => edsS L n s s.rds.length | none => []) ↔ _
    rw [List.mem_append, mem_edsN n]
    constructor
    · rintro (⟨k, s, h1, h2⟩ | h)
      · exact ⟨k, s, by omega, h2⟩
      · cases hs : r[n]? with
        | none => rw [hs] at h; cases h
        | some s => rw [hs] at h; exact ⟨n, s, by omega, hs, mem_edsS.1 h⟩
    · rintro ⟨k, s, h1, h2, h3⟩
      by_cases e : k = n
      · subst e; right; rw [h2]; exact mem_edsS.2 h3
      · exact .inl ⟨k, s, by omega, h2, h3⟩
theorem EdL.mem {r : List Rk.Dn} {L : List (List UInt8)} {es : List Ed} (h : EdL r L es) {x : Ed} : x ∈ es ↔ ∃ (k : Nat) (s : Rk.Dn), r[k]? = some s ∧ ∃ t ∈ s.rds, x = ⟨idx L t.pth, idx L s.wr.pth, (k : Int)⟩ := by
  rw [h.1.mem_iff, mem_edsN]
  exact ⟨fun ⟨k, s, _, h⟩ => ⟨k, s, h⟩, fun ⟨k, s, h1, h2⟩ => ⟨k, s, (List.getElem?_eq_some_iff.1 h1).1, h1, h2⟩⟩
theorem idx_at {L : List (List UInt8)} (hA : Rk.Rc.Asc L) {p : List UInt8} (hp : p ∈ L) : ∃ m, ∃ h : m < L.length, L[m] = p ∧ idx L p = (m : Int) := by
  obtain ⟨m, h, rfl⟩ := List.mem_iff_getElem.1 hp
  exact ⟨m, h, rfl, idx_asc hA h⟩
theorem idx_inj {L : List (List UInt8)} (hA : Rk.Rc.Asc L) {p q : List UInt8} (hp : p ∈ L) (hq : q ∈ L) (h : idx L p = idx L q) : p = q := by
  obtain ⟨m, h1, rfl, e1⟩ := idx_at hA hp
  obtain ⟨k, h2, rfl, e2⟩ := idx_at hA hq
  have : m = k := by omega
  subst this
  rfl
theorem rd_in {r : List Rk.Dn} {L : List (List UInt8)} (hn : NodL r L) {k : Nat} {s : Rk.Dn} {t : Rk.Tch} (hs : r[k]? = some s) (ht : t ∈ s.rds) : t.pth ∈ L :=
  (hn.2 _).2 (List.mem_flatMap.2 ⟨s, List.mem_of_getElem? hs, List.mem_map.2 ⟨t, by unfold Rk.Rc.tcs; exact List.mem_append_left _ ht, rfl⟩⟩)
theorem wr_in {r : List Rk.Dn} {L : List (List UInt8)} (hn : NodL r L) {k : Nat} {s : Rk.Dn} (hs : r[k]? = some s) : s.wr.pth ∈ L :=
  (hn.2 _).2 (List.mem_flatMap.2 ⟨s, List.mem_of_getElem? hs, List.mem_map.2 ⟨s.wr, by unfold Rk.Rc.tcs; exact List.mem_append_right _ (List.mem_singleton.2 rfl), rfl⟩⟩)
theorem tc_snoc {E : List Ed} {a b c : Nat} (h : Tc E a b) : ∀ x ∈ E, x.src = (b : Int) → x.dst = (c : Int) → Tc E a c := by
  induction h with
  | one y a b hy ha hb => exact fun x hx h1 h2 => .cons y _ _ _ hy ha hb (.one x _ _ hx h1 h2)
  | cons y a b d hy ha hb _ ih => exact fun x hx h1 h2 => .cons y _ _ _ hy ha hb (ih x hx h1 h2)
theorem afd_trans {r : List Rk.Dn} (hc : Rk.Rc.chk r = 0) {q : List UInt8} {k k2 : Nat} {s : Rk.Dn} (hs : r[k]? = some s) (ha : Rk.Rc.Afd r q k) (h : Rk.Rc.Afd r s.wr.pth k2) : Rk.Rc.Afd r q k2 := by
  induction h with
  | base hs2 ht hp => exact .step ha hs2 ht (by rw [hp]; exact Rk.Rc.wr0_self hc hs)
  | step _ hs2 ht hw ih => exact .step ih hs2 ht hw
theorem tc_to {r : List Rk.Dn} {L : List (List UInt8)} {es : List Ed} (hc : Rk.Rc.chk r = 0) (hn : NodL r L) (hE : EdL r L es) {a c : Nat} (h : Tc es a c) : ∀ q, q ∈ L → idx L q = (a : Int) → ∃ k s, Rk.Rc.Afd r q k ∧ r[k]? = some s ∧ idx L s.wr.pth = (c : Int) := by
  induction h with
  | one x a b hx ha hb =>
    intro q hq e
    obtain ⟨k, s, hs, t, ht, rfl⟩ := hE.mem.1 hx
    have hp : t.pth = q := idx_inj hn.1 (rd_in hn hs ht) hq (ha.trans e.symm)
    exact ⟨k, s, .base hs ht hp, hs, hb⟩
  | cons x a b c hx ha hb _ ih =>
    intro q hq e
    obtain ⟨k, s, hs, t, ht, rfl⟩ := hE.mem.1 hx
    have hp : t.pth = q := idx_inj hn.1 (rd_in hn hs ht) hq (ha.trans e.symm)
    obtain ⟨k2, s2, h2, hs2, e2⟩ := ih s.wr.pth (wr_in hn hs) hb
    exact ⟨k2, s2, afd_trans hc hs (.base hs ht hp) h2, hs2, e2⟩
theorem to_tc {r : List Rk.Dn} {L : List (List UInt8)} {es : List Ed} (hn : NodL r L) (hE : EdL r L es) {q : List UInt8} {i : Nat} (hi : idx L q = (i : Int)) {k : Nat} (h : Rk.Rc.Afd r q k) : ∀ s, r[k]? = some s → ∀ m : Nat, idx L s.wr.pth = (m : Int) → Tc es i m := by
  induction h with
  | base hs ht hp =>
    intro s2 hs2 m hm
    rw [hs] at hs2
    cases hs2
    exact .one _ _ _ (hE.mem.2 ⟨_, _, hs, _, ht, rfl⟩) (by show idx L _ = _; rw [hp]; exact hi) hm
  | step _ hs ht hw ih =>
    intro s2 hs2 m hm
    rw [hs] at hs2
    cases hs2
    obtain ⟨_, _, s', hs', hp⟩ := Rk.Rc.wr0_some hw
    obtain ⟨m', _, _, e'⟩ := idx_at hn.1 (rd_in hn hs ht)
    exact tc_snoc (ih s' hs' m' (by rw [hp]; exact e')) _ (hE.mem.2 ⟨_, _, hs, _, ht, rfl⟩) e' hm
/-- A node reaches what the steps write that its path affects. -/
theorem tc_afd {r : List Rk.Dn} {L : List (List UInt8)} {es : List Ed} (hc : Rk.Rc.chk r = 0) (hn : NodL r L) (hE : EdL r L es) {i m : Nat} (hi : i < L.length) : Tc es i m ↔ ∃ k s, Rk.Rc.Afd r L[i] k ∧ r[k]? = some s ∧ idx L s.wr.pth = (m : Int) :=
  ⟨fun h => tc_to hc hn hE h L[i] (List.getElem_mem hi) (idx_asc hn.1 hi), fun ⟨_, s, ha, hs, e⟩ => to_tc hn hE (idx_asc hn.1 hi) ha s hs m e⟩
theorem afd_lt {r : List Rk.Dn} {q : List UInt8} {j k : Nat} (h : Rk.Rc.Afd r q k) (hw : Rk.Rc.wr0 r q = some j) : j < k := by
  induction h with
  | base hs ht hp => exact Rk.Rc.rd_lt hs ht (by rw [hp]; exact hw)
  | step _ hs ht h2 ih => exact Nat.lt_trans ih (Rk.Rc.rd_lt hs ht h2)
/-- No cycle. -/
theorem of_acyc {r : List Rk.Dn} {L : List (List UInt8)} {es : List Ed} (hc : Rk.Rc.chk r = 0) (hn : NodL r L) (hE : EdL r L es) {m : Nat} (hm : m < L.length) : ¬ Tc es m m := fun h => by
  obtain ⟨k, s, ha, hs, e⟩ := (tc_afd hc hn hE hm).1 h
  have hp : s.wr.pth = L[m] := idx_inj hn.1 (wr_in hn hs) (List.getElem_mem hm) (e.trans (idx_asc hn.1 hm).symm)
  have := afd_lt ha (by rw [← hp]; exact Rk.Rc.wr0_self hc hs)
  omega
/-- Order does not fail. -/
theorem of_kahn {r : List Rk.Dn} {L : List (List UInt8)} {es : List Ed} (hc : Rk.Rc.chk r = 0) (hn : NodL r L) (hE : EdL r L es) : ∃ o, kahn es L.length L.length [] = some o := by
  cases h : kahn es L.length L.length [] with
  | some o => exact ⟨o, rfl⟩
  | none =>
    obtain ⟨m, hm, ht⟩ := kahn_loop (fun x hx => by
      obtain ⟨k, s, hs, t, ht, rfl⟩ := hE.mem.1 hx
      obtain ⟨a, ha, _, e⟩ := idx_at hn.1 (rd_in hn hs ht)
      show 0 ≤ idx L t.pth ∧ idx L t.pth < _
      omega) h
    exact absurd ht (of_acyc hc hn hE hm)
/-- A source's nodes and the sources of a path. -/
theorem tc_src {r : List Rk.Dn} {L : List (List UInt8)} {es : List Ed} (hc : Rk.Rc.chk r = 0) (hn : NodL r L) (hE : EdL r L es) {i j : Nat} (hi : i < L.length) (hj : j < L.length) (hq : Rk.Rc.wr0 r L[i] = none) : Tc es i j ↔ Rk.SrcOf r (Rk.Rc.Ned r L[j]) L[i] := by
  rw [tc_afd hc hn hE hi]
  cases hw : Rk.Rc.wr0 r L[j] with
  | none =>
    refine ⟨fun ⟨k, s, _, hs, e⟩ => ?_, fun ⟨_, _, _, h, _⟩ => (Rk.Rc.ned_none hw h).elim⟩
    have hp : s.wr.pth = L[j] := idx_inj hn.1 (wr_in hn hs) (List.getElem_mem hj) (e.trans (idx_asc hn.1 hj).symm)
    rw [← hp, Rk.Rc.wr0_self hc hs] at hw
    cases hw
  | some w =>
    rw [← Rk.Rc.aff_src hc hw hq, Rk.affL, if_pos hc, (Rk.Rc.aft_is hc L[i] r.length (Nat.le_refl _)).2 w]
    obtain ⟨_, hwl, s', hs', hp'⟩ := Rk.Rc.wr0_some hw
    constructor
    · rintro ⟨k, s, ha, hs, e⟩
      have hp : s.wr.pth = L[j] := idx_inj hn.1 (wr_in hn hs) (List.getElem_mem hj) (e.trans (idx_asc hn.1 hj).symm)
      have := Rk.Rc.wr0_self hc hs
      rw [hp, hw] at this
      cases this
      exact ⟨hwl, ha⟩
    · rintro ⟨_, ha⟩
      exact ⟨w, s', ha, hs', by rw [hp']; exact idx_asc hn.1 hj⟩
end Gr
end Go.Proofs.YtjemffgidhgfjaaGreatDoor
