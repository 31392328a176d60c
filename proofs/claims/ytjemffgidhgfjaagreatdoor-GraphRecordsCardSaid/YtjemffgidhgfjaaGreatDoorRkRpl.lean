/- Plain: the faults of a record. -/
import Derived.Test.YtjemffgidhgfjaaGreatDoorRkRel
namespace Go.Proofs.YtjemffgidhgfjaaGreatDoor.Rk
open Tr

namespace Rc
/-- The touched files of a step: those that it has read, then the one that it has written. -/
def tcs (s : Dn) : List Tch := s.rds ++ [s.wr]
theorem tcs_len (s : Dn) : (tcs s).length = s.rds.length + 1 := by unfold tcs; simp
def isF (n a b : Int) : Bool := decide (a ≤ n) && decide (n ≤ b)
/-- A step may stand behind another one. -/
def fol (s b : Dn) : Bool := if s.pkg = b.pkg then decide (b.lin < s.lin) else decide (b.pkg < s.pkg)
/-- The step before step i may not stand before s. -/
def ordE (r : List Dn) (i : Nat) (s : Dn) : Bool := decide (0 < i) && !(match r[i - 1]? with | some b => fol s b | none => true)
/-- The fault of a step without its files. -/
def headE (r : List Dn) (i : Nat) (s : Dn) : Int :=
  if !isF s.pkg 0 15 || !isF s.lin 0 1023 || !isF s.knd 1 8 then 3
  else if ordE r i s then 5
  else if !isF (s.rds.length : Int) 1 1024 then 1 else 0
/-- What the steps before a number say of a path. -/
def touched (r : List Dn) (n : Nat) (p : List UInt8) : Option (List UInt8) := (((r.take n).flatMap tcs).find? fun t => t.pth == p).map (·.dig)
def among (l : List Tch) (k : Nat) (p : List UInt8) : Bool := (l.take k).any fun t => t.pth == p
/-- The fault of file k of a step. -/
def tchE (r : List Dn) (i : Nat) (s : Dn) (k : Nat) (t : Tch) : Int :=
  if !Tre.pathOk t.pth then 2 else if t.dig.length ≠ 32 then 17
  else if among s.rds k t.pth || (decide (k = s.rds.length) && (touched r i t.pth).isSome) then 6
  else match touched r i t.pth with | some d => if d = t.dig then 0 else 9 | none => 0
def fileE (r : List Dn) (i : Nat) (s : Dn) : Nat → List Tch → Int
  | _, [] => 0
  | k, t :: l => if tchE r i s k t = 0 then fileE r i s (k + 1) l else tchE r i s k t
def stepE (r : List Dn) (i : Nat) (s : Dn) : Int := if headE r i s = 0 then fileE r i s 0 (tcs s) else headE r i s
def allE (r : List Dn) : Nat → List Dn → Int
  | _, [] => 0
  | i, s :: l => if stepE r i s = 0 then allE r (i + 1) l else stepE r i s
/-- The first fault of a record. -/
def chk (r : List Dn) : Int := if 1024 < r.length then 10 else allE r 0 r
theorem fileE_hit {r : List Dn} {i : Nat} {s : Dn} : ∀ (l : List Tch) (k0 k : Nat) (hk : k < l.length), (∀ j (hj : j < k), tchE r i s (k0 + j) (l[j]'(by omega)) = 0) → tchE r i s (k0 + k) l[k] ≠ 0 → fileE r i s k0 l = tchE r i s (k0 + k) l[k]
  | t :: l, k0, 0, _, _, h => by
    have h' : tchE r i s k0 t ≠ 0 := h
    rw [fileE, if_neg h']; rfl
  | t :: l, k0, k + 1, hk, h1, h2 => by
    have h0 : tchE r i s k0 t = 0 := h1 0 (by omega)
    rw [fileE, if_pos h0]
    have := fileE_hit (r := r) (i := i) (s := s) l (k0 + 1) k (by simpa using hk) (fun j hj => by
      have := h1 (j + 1) (by omega)
      rwa [show k0 + (j + 1) = k0 + 1 + j by omega] at this) (by rw [show k0 + 1 + k = k0 + (k + 1) by omega]; exact h2)
    rw [this, show k0 + 1 + k = k0 + (k + 1) by omega]
    rfl
theorem fileE_zero {r : List Dn} {i : Nat} {s : Dn} : ∀ (l : List Tch) (k0 : Nat), (∀ j (hj : j < l.length), tchE r i s (k0 + j) l[j] = 0) → fileE r i s k0 l = 0
  | [], _, _ => rfl
  | t :: l, k0, h => by
    have h0 : tchE r i s k0 t = 0 := h 0 (by simp)
    rw [fileE, if_pos h0]
    exact fileE_zero l (k0 + 1) fun j hj => by
      have := h (j + 1) (by simpa using hj)
      rwa [show k0 + (j + 1) = k0 + 1 + j by omega] at this
theorem zero_fileE {r : List Dn} {i : Nat} {s : Dn} : ∀ (l : List Tch) (k0 : Nat), fileE r i s k0 l = 0 → ∀ j (hj : j < l.length), tchE r i s (k0 + j) l[j] = 0
  | t :: l, k0, h, j, hj => by
    rw [fileE] at h
    by_cases h0 : tchE r i s k0 t = 0
    · rw [if_pos h0] at h
      cases j with
      | zero => exact h0
      | succ j =>
        have := zero_fileE l (k0 + 1) h j (by simpa using hj)
        rwa [show k0 + 1 + j = k0 + (j + 1) by omega] at this
    · rw [if_neg h0] at h; exact absurd h h0
theorem allE_hit {r : List Dn} : ∀ (l : List Dn) (i0 i : Nat) (hi : i < l.length), (∀ j (hj : j < i), stepE r (i0 + j) (l[j]'(by omega)) = 0) → stepE r (i0 + i) l[i] ≠ 0 → allE r i0 l = stepE r (i0 + i) l[i]
  | t :: l, i0, 0, _, _, h => by
    have h' : stepE r i0 t ≠ 0 := h
    rw [allE, if_neg h']; rfl
  | t :: l, i0, i + 1, hi, h1, h2 => by
    have h0 : stepE r i0 t = 0 := h1 0 (by omega)
    rw [allE, if_pos h0]
    have := allE_hit (r := r) l (i0 + 1) i (by simpa using hi) (fun j hj => by
      have := h1 (j + 1) (by omega)
      rwa [show i0 + (j + 1) = i0 + 1 + j by omega] at this) (by rw [show i0 + 1 + i = i0 + (i + 1) by omega]; exact h2)
    rw [this, show i0 + 1 + i = i0 + (i + 1) by omega]
    rfl
theorem allE_zero {r : List Dn} : ∀ (l : List Dn) (i0 : Nat), (∀ j (hj : j < l.length), stepE r (i0 + j) l[j] = 0) → allE r i0 l = 0
  | [], _, _ => rfl
  | t :: l, i0, h => by
    have h0 : stepE r i0 t = 0 := h 0 (by simp)
    rw [allE, if_pos h0]
    exact allE_zero l (i0 + 1) fun j hj => by
      have := h (j + 1) (by simpa using hj)
      rwa [show i0 + (j + 1) = i0 + 1 + j by omega] at this
theorem zero_allE {r : List Dn} : ∀ (l : List Dn) (i0 : Nat), allE r i0 l = 0 → ∀ j (hj : j < l.length), stepE r (i0 + j) l[j] = 0
  | t :: l, i0, h, j, hj => by
    rw [allE] at h
    by_cases h0 : stepE r i0 t = 0
    · rw [if_pos h0] at h
      cases j with
      | zero => exact h0
      | succ j =>
        have := zero_allE l (i0 + 1) h j (by simpa using hj)
        rwa [show i0 + 1 + j = i0 + (j + 1) by omega] at this
    · rw [if_neg h0] at h; exact absurd h h0
/-- The first faulty step decides. -/
theorem chk_step {r : List Dn} (hr : r.length ≤ 1024) {i : Nat} (hi : i < r.length) (h : ∀ j (hj : j < i), stepE r j (r[j]'(by omega)) = 0) (h2 : stepE r i r[i] ≠ 0) : chk r = stepE r i r[i] := by
  unfold chk
  rw [if_neg (by omega)]
  have := allE_hit (r := r) r 0 i hi (fun j hj => by rw [Nat.zero_add]; exact h j hj) (by rw [Nat.zero_add]; exact h2)
  rwa [Nat.zero_add] at this
theorem chk_zero {r : List Dn} (hr : r.length ≤ 1024) (h : ∀ j (hj : j < r.length), stepE r j r[j] = 0) : chk r = 0 := by
  unfold chk
  rw [if_neg (by omega)]
  exact allE_zero r 0 fun j hj => by rw [Nat.zero_add]; exact h j hj
theorem zero_chk {r : List Dn} (h : chk r = 0) : r.length ≤ 1024 ∧ ∀ j (hj : j < r.length), stepE r j r[j] = 0 := by
  unfold chk at h
  by_cases h0 : 1024 < r.length
  · rw [if_pos h0] at h; cases h
  · rw [if_neg h0] at h
    exact ⟨by omega, fun j hj => by have := zero_allE r 0 h j hj; rwa [Nat.zero_add] at this⟩
theorem chk_big {r : List Dn} (h : 1024 < r.length) : chk r = 10 := by unfold chk; rw [if_pos h]
theorem step_head {r : List Dn} {i : Nat} {s : Dn} (h : headE r i s ≠ 0) : stepE r i s = headE r i s := by unfold stepE; rw [if_neg h]
theorem step_file {r : List Dn} {i : Nat} {s : Dn} (h : headE r i s = 0) {k : Nat} (hk : k < (tcs s).length) (h1 : ∀ j (hj : j < k), tchE r i s j ((tcs s)[j]'(by omega)) = 0) (h2 : tchE r i s k (tcs s)[k] ≠ 0) : stepE r i s = tchE r i s k (tcs s)[k] := by
  unfold stepE
  rw [if_pos h]
  have := fileE_hit (r := r) (i := i) (s := s) (tcs s) 0 k hk (fun j hj => by rw [Nat.zero_add]; exact h1 j hj) (by rw [Nat.zero_add]; exact h2)
  rwa [Nat.zero_add] at this
theorem step_zero {r : List Dn} {i : Nat} {s : Dn} (h : headE r i s = 0) (h1 : ∀ j (hj : j < (tcs s).length), tchE r i s j (tcs s)[j] = 0) : stepE r i s = 0 := by
  unfold stepE
  rw [if_pos h]
  exact fileE_zero _ 0 fun j hj => by rw [Nat.zero_add]; exact h1 j hj
theorem zero_step {r : List Dn} {i : Nat} {s : Dn} (h : stepE r i s = 0) : headE r i s = 0 ∧ ∀ j (hj : j < (tcs s).length), tchE r i s j (tcs s)[j] = 0 := by
  unfold stepE at h
  by_cases h0 : headE r i s = 0
  · rw [if_pos h0] at h
    exact ⟨h0, fun j hj => by have := zero_fileE _ 0 h j hj; rwa [Nat.zero_add] at this⟩
  · rw [if_neg h0] at h; exact absurd h h0
theorem touched_succ {r : List Dn} {i : Nat} (hi : i < r.length) (p : List UInt8) : touched r (i + 1) p = match touched r i p with | some d => some d | none => ((tcs r[i]).find? fun t => t.pth == p).map (·.dig) := by
  unfold touched
  rw [List.take_succ_eq_append_getElem hi, List.flatMap_append, List.find?_append]
  cases h : ((r.take i).flatMap tcs).find? fun t => t.pth == p with
  | some t => rfl
  | none => simp
/-- What the map of known files says while a step is looked at: F p is a digest and the last step. -/
def Known (r : List Dn) (i k : Nat) (s : Dn) (F : List UInt8 → Option (List UInt8 × Nat)) : Prop := ∀ p, match F p with
  | none => touched r i p = none ∧ ∀ j (hj : j < (tcs s).length), j < k → (tcs s)[j].pth ≠ p
  | some (d, m) => (∀ d', touched r i p = some d' → d' = d) ∧ (∀ j (hj : j < (tcs s).length), j < k → (tcs s)[j].pth = p → (tcs s)[j].dig = d) ∧ (m ≠ i → touched r i p ≠ none) ∧ (m = i ↔ ∃ j, ∃ hj : j < (tcs s).length, j < k ∧ (tcs s)[j].pth = p) ∧ m ≤ i
theorem Known.init (r : List Dn) (s : Dn) : Known r 0 0 s fun _ => none := fun p => ⟨rfl, fun j _ h => by omega⟩
theorem Known.again {r : List Dn} {i : Nat} {s s' : Dn} {F : List UInt8 → Option (List UInt8 × Nat)} (h : Known r i 0 s F) : Known r i 0 s' F := fun p => by
  have hp := h p
  cases hF : F p with
  | none => rw [hF] at hp; exact ⟨hp.1, fun j _ h => by omega⟩
  | some q =>
    rw [hF] at hp
    obtain ⟨d, m⟩ := q
    obtain ⟨h1, h2, h3, h4, h5⟩ := hp
    refine ⟨h1, fun j _ h => by omega, h3, ?_, h5⟩
    rw [h4]
    exact ⟨fun ⟨j, _, h, _⟩ => by omega, fun ⟨j, _, h, _⟩ => by omega⟩
theorem tcs_get {s : Dn} {j : Nat} (hj : j < s.rds.length) (h : j < (tcs s).length) : (tcs s)[j] = s.rds[j] := by
  unfold tcs
  exact List.getElem_append_left hj
theorem among_iff {s : Dn} {k : Nat} (hk : k ≤ s.rds.length) (p : List UInt8) : among s.rds k p = true ↔ ∃ j, ∃ hj : j < (tcs s).length, j < k ∧ (tcs s)[j].pth = p := by
  unfold among
  rw [List.any_eq_true]
  constructor
  · rintro ⟨t, ht, he⟩
    obtain ⟨j, hj, e⟩ := List.mem_take_iff_getElem.1 ht
    refine ⟨j, by rw [tcs_len]; omega, by omega, ?_⟩
    rw [tcs_get (by omega), e]
    simpa using he
  · rintro ⟨j, hj, hjk, e⟩
    refine ⟨s.rds[j]'(by omega), List.mem_take_iff_getElem.2 ⟨j, by omega, rfl⟩, ?_⟩
    rw [tcs_get (by omega)] at e
    simpa using e
/-- What the map says of file k is its fault. -/
theorem Known.fault {r : List Dn} {i k : Nat} {s : Dn} {F : List UInt8 → Option (List UInt8 × Nat)} (h : Known r i k s F) (hk : k < (tcs s).length) (hp : Tre.pathOk (tcs s)[k].pth = true) (hd : (tcs s)[k].dig.length = 32) :
    tchE r i s k (tcs s)[k] = match F (tcs s)[k].pth with | none => 0 | some (d, m) => if k = s.rds.length ∨ m = i then 6 else if d = (tcs s)[k].dig then 0 else 9 := by
  have hks : k ≤ s.rds.length := by rw [tcs_len] at hk; omega
  have hx := h (tcs s)[k].pth
  have ha := among_iff hks (tcs s)[k].pth
  unfold tchE
  rw [if_neg (by rw [hp]; decide), if_neg (by rw [hd]; decide)]
  generalize (tcs s)[k].pth = p at *
  cases hF : F p with
  | none =>
    rw [hF] at hx
    obtain ⟨h1, h2⟩ := hx
    have hf : among s.rds k p = false := by
      cases hb : among s.rds k p with
      | false => rfl
      | true => obtain ⟨j, hj, hjk, e⟩ := ha.1 hb; exact absurd e (h2 j hj hjk)
    rw [hf, h1]
    simp
  | some q =>
    rw [hF] at hx
    obtain ⟨d, m⟩ := q
    obtain ⟨h1, h2, h3, h4, h5⟩ := hx
    have hmi : m = i ↔ among s.rds k p = true := h4.trans ha.symm
    dsimp only
    by_cases hm : m = i
    · rw [hmi.1 hm, Bool.true_or, if_pos rfl, if_pos (Or.inr hm)]
    · have hf : among s.rds k p = false := by
        cases hb : among s.rds k p with
        | false => rfl
        | true => exact absurd (hmi.2 hb) hm
      obtain ⟨d', hd'⟩ := Option.ne_none_iff_exists'.1 (h3 hm)
      have hdd := h1 d' hd'
      subst hdd
      rw [hf, hd']
      by_cases hkl : k = s.rds.length
      · rw [decide_eq_true hkl, if_pos (Or.inl hkl)]; rfl
      · have hn : ¬ (k = s.rds.length ∨ m = i) := fun h => h.elim hkl hm
        rw [decide_eq_false hkl, Bool.false_and, Bool.or_false, if_neg Bool.false_ne_true]
        show _ = if k = s.rds.length ∨ m = i then _ else _
        rw [if_neg hn]
/-- File k is noted. -/
theorem Known.note {r : List Dn} {i k : Nat} {s : Dn} {F : List UInt8 → Option (List UInt8 × Nat)} (h : Known r i k s F) (hk : k < (tcs s).length) (h0 : ∀ d m, F (tcs s)[k].pth = some (d, m) → ¬ (k = s.rds.length ∨ m = i) ∧ d = (tcs s)[k].dig) :
    Known r i (k + 1) s fun p => if p = (tcs s)[k].pth then some ((tcs s)[k].dig, i) else F p := fun p => by
  have hx := h p
  by_cases hp : p = (tcs s)[k].pth
  · simp only [hp, if_true]
    refine ⟨fun d' hd' => ?_, fun j hj hjk e => ?_, fun hc => absurd rfl hc, ⟨fun _ => ⟨k, hk, by omega, rfl⟩, fun _ => trivial⟩, Nat.le_refl _⟩
    · cases hF : F p with
      | none => rw [hF] at hx; rw [← hp, hx.1] at hd'; cases hd'
      | some q =>
        obtain ⟨d, m⟩ := q
        rw [hF] at hx
        have := (h0 d m (by rw [← hp]; exact hF)).2
        rw [← this]
        exact hx.1 d' (by rw [hp]; exact hd')
    · by_cases hjk2 : j = k
      · subst hjk2; rfl
      · cases hF : F p with
        | none => rw [hF] at hx; exact absurd (by rw [hp]; exact e) (hx.2 j hj (by omega))
        | some q =>
          obtain ⟨d, m⟩ := q
          rw [hF] at hx
          have hm : m = i := hx.2.2.2.1.2 ⟨j, hj, by omega, by rw [hp]; exact e⟩
          exact absurd (.inr hm) (h0 d m (by rw [← hp]; exact hF)).1
  · simp only [hp, if_false]
    cases hF : F p with
    | none =>
      rw [hF] at hx
      exact ⟨hx.1, fun j hj hjk => by
        by_cases hjk2 : j = k
        · subst hjk2; exact fun e => hp e.symm
        · exact hx.2 j hj (by omega)⟩
    | some q =>
      obtain ⟨d, m⟩ := q
      rw [hF] at hx
      obtain ⟨h1, h2, h3, h4, h5⟩ := hx
      refine ⟨h1, fun j hj hjk e => ?_, h3, ?_, h5⟩
      · by_cases hjk2 : j = k
        · subst hjk2; exact absurd e.symm hp
        · exact h2 j hj (by omega) e
      · rw [h4]
        exact ⟨fun ⟨j, hj, hjk, e⟩ => ⟨j, hj, by omega, e⟩, fun ⟨j, hj, hjk, e⟩ => ⟨j, hj, by
          by_cases hjk2 : j = k
          · subst hjk2; exact absurd e.symm hp
          · omega, e⟩⟩
/-- A step is done. -/
theorem Known.next {r : List Dn} {i : Nat} {s' : Dn} {F : List UInt8 → Option (List UInt8 × Nat)} (hi : i < r.length) {k : Nat} (hk : (tcs r[i]).length ≤ k) (h : Known r i k r[i] F) : Known r (i + 1) 0 s' F := fun p => by
  have hx := h p
  have hs := touched_succ hi p
  cases hF : F p with
  | none =>
    rw [hF] at hx
    refine ⟨?_, fun j _ h => by omega⟩
    rw [hs, hx.1]
    have : (tcs r[i]).find? (fun t => t.pth == p) = none := by
      rw [List.find?_eq_none]
      intro t ht
      obtain ⟨j, hj, e⟩ := List.mem_iff_getElem.1 ht
      have := hx.2 j hj (by omega)
      rw [e] at this
      simpa using this
    rw [this]; rfl
  | some q =>
    obtain ⟨d, m⟩ := q
    rw [hF] at hx
    obtain ⟨h1, h2, h3, h4, h5⟩ := hx
    refine ⟨fun d' hd' => ?_, fun j _ h => by omega, fun _ hc => ?_, ⟨fun e => by omega, fun ⟨j, _, h, _⟩ => by omega⟩, by omega⟩
    · rw [hs] at hd'
      cases ht : touched r i p with
      | some d2 => rw [ht] at hd'; injection hd' with hd'; rw [← hd']; exact h1 d2 ht
      | none =>
        rw [ht] at hd'
        cases hf : (tcs r[i]).find? (fun t => t.pth == p) with
        | none => rw [hf] at hd'; cases hd'
        | some t =>
          rw [hf] at hd'
          have hd2 : t.dig = d' := by simpa using hd'
          have htm := List.mem_of_find?_eq_some hf
          have htp := List.find?_some hf
          obtain ⟨j, hj, e⟩ := List.mem_iff_getElem.1 htm
          have := h2 j hj (by omega) (by rw [e]; simpa using htp)
          rw [e] at this
          rw [← hd2]; exact this
    · rw [hs] at hc
      cases ht : touched r i p with
      | some d2 => rw [ht] at hc; cases hc
      | none =>
        rw [ht] at hc
        by_cases hm : m = i
        · obtain ⟨j, hj, _, e⟩ := h4.1 hm
          have hf : (tcs r[i]).find? (fun t => t.pth == p) = none := by simpa using hc
          rw [List.find?_eq_none] at hf
          exact hf _ (List.getElem_mem hj) (by simpa using e)
        · exact h3 hm ht
end Rc
end Go.Proofs.YtjemffgidhgfjaaGreatDoor.Rk
