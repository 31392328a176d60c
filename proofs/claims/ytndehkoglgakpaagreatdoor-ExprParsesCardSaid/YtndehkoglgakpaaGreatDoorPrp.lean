/- The tokens of any formula, as plain functions. No condition. -/
import Derived.Test.YtndehkoglgakpaaGreatDoorFrm
import Derived.Test.YtndehkoglgakpaaGreatDoorPa2
import Derived.Test.YtndehkoglgakpaaGreatDoorTokMore
namespace Go.Proofs.YtndehkoglgakpaaGreatDoor
namespace Ex
open Tok (Tk)

def inP (ts : List Tk) (lv n : Int) : List Tk := if n ≤ lv then ts else [⟨3, [40]⟩] ++ ts ++ [⟨3, [41]⟩]
def sepStep (s : Bool × List Tk) (x : List Tk) : Bool × List Tk := (true, s.2 ++ (if s.1 = true then [⟨3, [44]⟩] else []) ++ x)
/-- Rows of tokens with commas between them. -/
def sepd (L : List (List Tk)) : List Tk := (L.foldl sepStep (false, [])).2
def callT (t : List UInt8) (L : List (List Tk)) : List Tk := [⟨1, t⟩, ⟨3, [40]⟩] ++ sepd L ++ [⟨3, [41]⟩]
/-- The part that an operation and its operands are. -/
def partL (o : Op) (a : List (List Tk × Int)) : List Tk × Int :=
  if o.kind = 1 then ([⟨2, Lib.decDigits o.n.toNat⟩], 11)
  else if o.kind = 2 then ([⟨1, o.text⟩], 11)
  else if o.kind = 3 then (callT o.text (a.map (·.1)), 11)
  else if o.kind = 4 then (callT [108, 111, 97, 100] (a.map (·.1)), 11)
  else if o.kind = 5 then (callT [105, 110] (a.map (·.1)), 11)
  else if o.kind = 6 then ([⟨3, o.text⟩] ++ inP (a.getD 0 default).1 (a.getD 0 default).2 11, 11)
  else (inP (a.getD 0 default).1 (a.getD 0 default).2 (levL o.text : Nat) ++ [⟨3, o.text⟩] ++ inP (a.getD 1 default).1 (a.getD 1 default).2 ((levL o.text : Nat) + 1), ((levL o.text : Nat) : Int))
def pstep (acc : List (List Tk × Int)) (o : Op) : List (List Tk × Int) :=
  acc.take (acc.length - (opr o).1.toNat) ++ [partL o (acc.drop (acc.length - (opr o).1.toNat))]
def toks (f : List Op) : List Tk := ((f.foldl pstep []).getD 0 default).1
theorem sepd_true (L : List (List Tk)) : ∀ a, L.foldl sepStep (true, a) = (true, a ++ L.flatMap (fun x => ⟨3, [44]⟩ :: x)) := by
  induction L with
  | nil => intro a; simp
  | cons x L ih => intro a; rw [List.foldl_cons, show sepStep (true, a) x = (true, a ++ [⟨3, [44]⟩] ++ x) from rfl, ih]; simp
theorem sepd_cons (x : List Tk) (L : List (List Tk)) : sepd (x :: L) = x ++ L.flatMap (fun x => ⟨3, [44]⟩ :: x) := by
  unfold sepd
  rw [List.foldl_cons, show sepStep (false, []) x = (true, x) by simp [sepStep], sepd_true]
/-- The tokens stand in a row from a place on. -/
def At (l : List Tk) (i : Nat) (ts : List Tk) : Prop := ∀ j, j < ts.length → l[i + j]? = ts[j]?
theorem At.app {l : List Tk} {i : Nat} {a b : List Tk} (h : At l i (a ++ b)) : At l i a ∧ At l (i + a.length) b := by
  refine ⟨fun j hj => ?_, fun j hj => ?_⟩
  · rw [h j (by simp; omega), List.getElem?_append_left hj]
  · rw [Nat.add_assoc, h (a.length + j) (by simp; omega), List.getElem?_append_right (by omega)]
    congr 1; omega
theorem At.head {l : List Tk} {i : Nat} {t : Tk} {r : List Tk} (h : At l i (t :: r)) : nxt l i = t.text ∧ At l (i + 1) r := by
  have h0 := h 0 (by simp)
  refine ⟨?_, fun j hj => ?_⟩
  · simp at h0
    obtain ⟨hi, h1⟩ := List.getElem?_eq_some_iff.1 h0
    unfold nxt
    rw [dif_pos hi, h1]
  · rw [show i + 1 + j = i + (j + 1) by omega, h (j + 1) (by simp; omega)]; rfl
theorem nxt_end {l : List Tk} {i : Nat} (h : l.length ≤ i) : nxt l i = [] := by unfold nxt; rw [dif_neg (by omega)]
theorem At.all (l : List Tk) : At l 0 l := fun j _ => by rw [Nat.zero_add]
/-- From a place where the tokens stand, an expression of level n gives the operations, unless it is too deep; the loop of the level goes on behind them. -/
def Ok (g : List Op) (ts : List Tk) (n : Nat) : Prop :=
  ∀ (l : List Tk) (k d i : Nat) (out : List Op), At l i ts → 12 * ts.length + (11 - n) ≤ k → levL (nxt l (i + ts.length)) ≤ n → nxt l (i + ts.length) ≠ [40] →
    (lev l (k + 1) n d i out).e = 11 ∨ lev l (k + 1) n d i out = if n < 11 then bins l n (lev l k (n + 1)) d (l.length + 1) ⟨0, i + ts.length, out ++ g⟩ else ⟨0, i + ts.length, out ++ g⟩
theorem bins_err {l : List Tk} {n : Nat} {f : Pr} {d : Nat} : ∀ {j : Nat} {r : Rs}, r.e ≠ 0 → bins l n f d j r = r
  | 0, _, _ => rfl
  | j + 1, r, h => by rw [bins_succ, if_neg (fun c => h c.1)]
theorem bins_stop {l : List Tk} {n : Nat} {f : Pr} {d : Nat} : ∀ {j : Nat} {r : Rs}, levL (nxt l r.i) ≠ n → bins l n f d j r = r
  | 0, _, _ => rfl
  | j + 1, r, h => by rw [bins_succ, if_neg (fun c => h c.2)]
theorem lev_nil : levL [] = 0 := by decide
theorem bins_fuel {l : List Tk} {n : Nat} (hn : 1 ≤ n) {f : Pr} (hf : Fwd f) (d : Nat) : ∀ (j : Nat) (r : Rs), l.length < r.i + j → bins l n f d j r = bins l n f d (j + 1) r
  | 0, r, h => by rw [bins_stop (j := 1)]; rfl; rw [nxt_end (by omega), lev_nil]; omega
  | j + 1, r, h => by
    rw [bins_succ, bins_succ l n f d (j + 1)]
    split
    · refine bins_fuel hn hf d j _ ?_
      have := hf d (r.i + 1) r.out
      rw [then_i]; omega
    · rfl
theorem Ok.q {g : List Op} {ts : List Tk} {n : Nat} (h : Ok g ts n) {l : List Tk} {k d i : Nat} {out : List Op} (hA : At l i ts) (hk : 12 * ts.length + (11 - n) ≤ k) (hs : levL (nxt l (i + ts.length)) < n) (hp : nxt l (i + ts.length) ≠ [40]) :
    (lev l (k + 1) n d i out).e = 11 ∨ lev l (k + 1) n d i out = ⟨0, i + ts.length, out ++ g⟩ := by
  rcases h l k d i out hA hk (by omega) hp with h1 | h1
  · exact .inl h1
  · right
    rw [h1]
    split
    · rw [bins_stop]; dsimp only; omega
    · rfl
theorem lev_lt (l : List Tk) (k n d i : Nat) (out : List Op) (h : n < 11) : lev l (k + 1) n d i out = bins l n (lev l k (n + 1)) d (l.length + 1) (lev l k (n + 1) d i out) := by
  rw [lev]; dsimp only; rw [if_pos h]
theorem lev_un (l : List Tk) (k d i : Nat) (out : List Op) (h : unL (nxt l i) = true) : lev l (k + 1) 11 d i out = then_ (nest (lev l k 11) d i out) ⟨6, nxt l i, 0⟩ := by
  rw [lev]; dsimp only; rw [if_neg (by omega), if_pos h]
theorem lev_pr (l : List Tk) (k d i : Nat) (out : List Op) (h : unL (nxt l i) = false) : lev l (k + 1) 11 d i out = prim l (lev l k 1) d i out := by
  rw [lev]; dsimp only; rw [if_neg (by omega), if_neg (by rw [h]; decide)]
theorem Ok.down {g : List Op} {ts : List Tk} {n : Nat} (h : Ok g ts (n + 1)) (hn : n + 1 ≤ 11) : Ok g ts n := by
  intro l k d i out hA hk hs hp
  obtain ⟨k, rfl⟩ : ∃ m, k = m + 1 := ⟨k - 1, by omega⟩
  rw [lev_lt _ _ _ _ _ _ (by omega), if_pos (by omega)]
  rcases h.q (k := k) (d := d) (out := out) hA (by omega) (by omega) hp with h1 | h1
  · left; rw [bins_err (by rw [h1]; decide)]; exact h1
  · right; rw [h1]
theorem Ok.le {g : List Op} {ts : List Tk} {n : Nat} : ∀ {m : Nat}, Ok g ts (n + m) → n + m ≤ 11 → Ok g ts n
  | 0, h, _ => h
  | m + 1, h, hm => Ok.le (m := m) (Ok.down h hm) (by omega)
theorem Ok.to {g : List Op} {ts : List Tk} {n m : Nat} (h : Ok g ts m) (hn : n ≤ m) (hm : m ≤ 11) : Ok g ts n := by
  obtain ⟨j, rfl⟩ : ∃ j, m = n + j := ⟨m - n, by omega⟩
  exact Ok.le h hm
/-- What is in parentheses. -/
theorem inPar_ok {l : List Tk} {f : Pr} {d i j : Nat} {out o2 : List Op} (h0 : nxt l i = [40]) (hf : (f (d + 1) (i + 1) out).e = 11 ∨ f (d + 1) (i + 1) out = ⟨0, j, o2⟩) (h1 : nxt l j = [41]) :
    (inPar l f d i out).e = 11 ∨ inPar l f d i out = ⟨0, j + 1, o2⟩ := by
  unfold inPar
  rw [if_pos h0]
  dsimp only
  unfold nest
  split
  · left; rfl
  · rcases hf with hf | hf
    · left; rw [if_neg (by rw [hf]; decide)]; exact hf
    · right; rw [hf]; dsimp only; rw [if_pos rfl, if_pos h1]
theorem then_ok {r : Rs} {j : Nat} {o2 : List Op} (o : Op) (h : r.e = 11 ∨ r = ⟨0, j, o2⟩) : (then_ r o).e = 11 ∨ then_ r o = ⟨0, j, o2 ++ [o]⟩ := by
  rcases h with h | h
  · left; unfold then_; rw [if_neg (by rw [h]; decide)]; exact h
  · right; rw [h]; rfl
/-- At level 11 a place suffices. -/
theorem ok_prim {g : List Op} {ts : List Tk} (h : ∀ (l : List Tk) (k d i : Nat) (out : List Op), At l i ts → 12 * ts.length ≤ k → nxt l (i + ts.length) ≠ [40] →
    (lev l (k + 1) 11 d i out).e = 11 ∨ lev l (k + 1) 11 d i out = ⟨0, i + ts.length, out ++ g⟩) : Ok g ts 11 := fun l k d i out hA hk _ hp => by
  rw [if_neg (by omega)]
  exact h l k d i out hA (by omega) hp
theorem ok_par {g : List Op} {ts : List Tk} (h : Ok g ts 1) : Ok g ([⟨3, [40]⟩] ++ ts ++ [⟨3, [41]⟩]) 11 := by
  refine ok_prim fun l k d i out hA hk _ => ?_
  obtain ⟨hA1, hA3⟩ := hA.app
  obtain ⟨hA1, hA2⟩ := hA1.app
  have e0 := hA1.head.1
  have e1 := hA3.head.1
  simp only [List.length_append, List.length_cons, List.length_nil, Nat.zero_add] at hA2 e1 hk ⊢
  rw [lev_pr _ _ _ _ _ (by rw [e0]; decide)]
  obtain ⟨k, rfl⟩ : ∃ m, k = m + 1 := ⟨k - 1, by omega⟩
  unfold prim
  dsimp only
  rw [if_pos e0]
  have e1' : nxt l (i + 1 + ts.length) = [41] := by rw [← e1]; congr 1; omega
  have := inPar_ok (l := l) (f := lev l (k + 1) 1) (d := d) (out := out) e0 (h.q (d := d + 1) hA2 (by omega) (by rw [e1']; decide) (by rw [e1']; decide)) e1'
  rw [show i + 1 + ts.length + 1 = i + (1 + ts.length + 1) by omega] at this
  exact this
theorem ok_bin {g1 g2 : List Op} {A B : List Tk} {n : Nat} {t : List UInt8} (ht : levL t = n) (h1 : 1 ≤ n) (h2 : n ≤ 10) (hA : Ok g1 A n) (hB : Ok g2 B (n + 1)) : Ok (g1 ++ g2 ++ [⟨7, t, 0⟩]) (A ++ [⟨3, t⟩] ++ B) n := by
  intro l k d i out hT hk hs hp
  obtain ⟨hT1, hT3⟩ := hT.app
  obtain ⟨hT1, hT2⟩ := hT1.app
  have e0 := hT2.head.1
  simp only [List.length_append, List.length_cons, List.length_nil, Nat.zero_add] at hT3 hk hs hp ⊢
  obtain ⟨k, rfl⟩ : ∃ m, k = m + 1 := ⟨k - 1, by omega⟩
  rw [if_pos (by omega)]
  have hp0 : t ≠ [40] := by rintro rfl; revert ht; rw [show levL [40] = 0 by decide]; omega
  rcases hA l (k + 1) d i out hT1 (by omega) (by rw [e0, ht]; exact Nat.le_refl _) (by rw [e0]; exact hp0) with h | h
  · exact .inl h
  · rw [if_pos (by omega), bins_succ, if_pos ⟨rfl, by dsimp only; rw [e0]; exact ht⟩] at h
    rw [h]
    dsimp only
    rw [e0]
    rw [← Nat.add_assoc i A.length 1] at hT3
    have hq := hB.q (k := k) (d := d) (out := out ++ g1) hT3 (by omega) (by rw [show i + A.length + 1 + B.length = i + (A.length + 1 + B.length) by omega]; omega) (by rw [show i + A.length + 1 + B.length = i + (A.length + 1 + B.length) by omega]; exact hp)
    rcases then_ok ⟨7, t, 0⟩ hq with h3 | h3
    · left; rw [bins_err (by rw [h3]; decide)]; exact h3
    · right
      rw [h3, bins_fuel h1 (lev_fwd l (k + 1) (n + 1)) d l.length _ (by dsimp only; omega)]
      rw [show i + A.length + 1 + B.length = i + (A.length + 1 + B.length) by omega]
      simp
theorem dig_facts (n : Nat) (h : n ≤ 4294967295) : unL (Lib.decDigits n) = false ∧ Lib.decDigits n ≠ [40] ∧ Lib.decDigits n ≠ [108, 111, 97, 100] ∧ Lib.decDigits n ≠ [105, 110] ∧ idB (Lib.decDigits n) = false := by
  have hn := Tok.number_dec n h
  have hne : ∀ x : List UInt8, (Tok.number x).2 ≠ 0 → Lib.decDigits n ≠ x := fun x hx e => hx (by rw [← e, hn])
  refine ⟨?_, hne _ (by decide), hne _ (by decide), hne _ (by decide), ?_⟩
  · unfold unL
    simp only [Bool.or_eq_false_iff, beq_eq_false_iff_ne]
    exact ⟨⟨hne _ (by decide), hne _ (by decide)⟩, hne _ (by decide)⟩
  · have hf := (Tok.dec_facts n).1
    have hz := (Tok.dec_facts n).2.2.1
    generalize Lib.decDigits n = x at *
    unfold idB Tok.nameOk
    cases x with
    | nil => exact absurd rfl hz
    | cons c r =>
      have hc : Tok.isDig c = true := by simp only [List.all_cons, Bool.and_eq_true] at hf; exact hf.1
      have hl : Tok.isLet c = false := by
        unfold Tok.isDig at hc; unfold Tok.isLet
        simp only [decide_eq_true_eq, decide_eq_false_iff_not] at hc ⊢
        omega
      simp [hl]
theorem ok_num (n : Nat) (h : n ≤ 4294967295) : Ok [⟨1, [], n⟩] [⟨2, Lib.decDigits n⟩] 11 := by
  obtain ⟨h1, h2, h3, h4, h5⟩ := dig_facts n h
  refine ok_prim fun l k d i out hA hk _ => .inr ?_
  have e0 := hA.head.1
  dsimp only at e0
  rw [lev_pr _ _ _ _ _ (by rw [e0]; exact h1)]
  unfold prim
  dsimp only
  rw [e0, if_neg h2, if_neg h3, if_neg h4, if_neg (by rw [h5]; decide), Tok.number_dec n h]
  simp
theorem id_facts {t : List UInt8} (h : idB t = true) : unL t = false ∧ t ≠ [40] ∧ t ≠ [108, 111, 97, 100] ∧ t ≠ [105, 110] ∧ Tok.nameOk t = true := by
  have hne : ∀ x : List UInt8, idB x = false → t ≠ x := fun x hx e => by rw [e, hx] at h; cases h
  refine ⟨?_, hne _ (by decide), hne _ (by decide), hne _ (by decide), ?_⟩
  · unfold unL
    simp only [Bool.or_eq_false_iff, beq_eq_false_iff_ne]
    exact ⟨⟨hne _ (by decide), hne _ (by decide)⟩, hne _ (by decide)⟩
  · unfold idB at h; simp only [Bool.and_eq_true] at h; exact h.1
theorem ok_name {t : List UInt8} (h : idB t = true) : Ok [⟨2, t, 0⟩] [⟨1, t⟩] 11 := by
  obtain ⟨h1, h2, h3, h4, _⟩ := id_facts h
  refine ok_prim fun l k d i out hA hk hp => .inr ?_
  have e0 := hA.head.1
  dsimp only at e0
  rw [lev_pr _ _ _ _ _ (by rw [e0]; exact h1)]
  unfold prim
  dsimp only
  rw [e0, if_neg h2, if_neg h3, if_neg h4, if_pos h]
  unfold named
  rw [if_neg (by simpa using hp)]
  simp
theorem ite_lt {c : Prop} [Decidable c] {a b m : Nat} (ha : a < m) (hb : b < m) : (if c then a else b) < m := by split <;> assumption
theorem lev_lt11 (x : List UInt8) : levL x < 11 := by
  unfold levL
  repeat' (refine ite_lt ?_ ?_)
  all_goals decide
theorem ok_un {g : List Op} {A : List Tk} {t : List UInt8} (ht : unL t = true) (hA : Ok g A 11) : Ok (g ++ [⟨6, t, 0⟩]) ([⟨3, t⟩] ++ A) 11 := by
  refine ok_prim fun l k d i out hT hk hp => ?_
  obtain ⟨hT1, hT2⟩ := hT.app
  have e0 := hT1.head.1
  simp only [List.length_append, List.length_cons, List.length_nil, Nat.zero_add] at hT2 hk hp ⊢
  obtain ⟨k, rfl⟩ : ∃ m, k = m + 1 := ⟨k - 1, by omega⟩
  rw [lev_un _ _ _ _ _ (by rw [e0]; exact ht), e0]
  have hn : (nest (lev l (k + 1) 11) d i out).e = 11 ∨ nest (lev l (k + 1) 11) d i out = ⟨0, i + 1 + A.length, out ++ g⟩ := by
    unfold nest
    split
    · left; rfl
    · exact hA.q hT2 (by omega) (lev_lt11 _) (by rw [Nat.add_assoc]; exact hp)
  have := then_ok ⟨6, t, 0⟩ hn
  rw [Nat.add_assoc, List.append_assoc] at this
  exact this
/-- The arguments of a call from one on. -/
theorem args_ok (l : List Tk) (k d : Nat) (M : List (List Op × List Tk)) : ∀ (x : List Op × List Tk) (j c i : Nat) (out : List Op), Ok x.1 x.2 1 → (∀ y ∈ M, Ok y.1 y.2 1) → M.length < j → c + M.length ≤ 8 →
    At l i (x.2 ++ M.flatMap (fun y => ⟨3, [44]⟩ :: y.2) ++ [⟨3, [41]⟩]) → 12 * (x.2 ++ M.flatMap (fun y => (⟨3, [44]⟩ : Tk) :: y.2)).length + 10 ≤ k →
    (args l (lev l (k + 1) 1) d j c i out).2.e = 11 ∨ args l (lev l (k + 1) 1) d j c i out = (c + M.length, ⟨0, i + (x.2 ++ M.flatMap (fun y => (⟨3, [44]⟩ : Tk) :: y.2)).length, out ++ x.1 ++ M.flatMap (·.1)⟩) := by
  induction M with
  | nil =>
    intro x j c i out hx _ hj hc hA hk
    obtain ⟨j, rfl⟩ : ∃ m, j = m + 1 := ⟨j - 1, by simp at hj; omega⟩
    simp only [List.flatMap_nil, List.append_nil] at hA hk ⊢
    obtain ⟨hA1, hA2⟩ := hA.app
    have e0 := hA2.head.1
    dsimp only at e0
    rw [args_succ]
    rcases hx.q (k := k) (d := d) (out := out) hA1 (by omega) (by rw [e0]; decide) (by rw [e0]; decide) with h | h
    · left; rw [if_neg (by rw [h]; decide)]; exact h
    · right
      rw [h]
      dsimp only
      rw [if_pos rfl, if_neg (by rw [e0]; decide)]
      simp
  | cons y M ih =>
    intro x j c i out hx hM hj hc hA hk
    obtain ⟨j, rfl⟩ : ∃ m, j = m + 1 := ⟨j - 1, by simp at hj; omega⟩
    have hy : Ok y.1 y.2 1 := hM y (by simp)
    rw [List.flatMap_cons] at hA hk ⊢
    rw [List.append_assoc, show (⟨3, [44]⟩ :: y.2 ++ M.flatMap (fun y => ⟨3, [44]⟩ :: y.2)) ++ [⟨3, [41]⟩] = ⟨3, [44]⟩ :: (y.2 ++ M.flatMap (fun y => ⟨3, [44]⟩ :: y.2) ++ [⟨3, [41]⟩]) by simp] at hA
    obtain ⟨hA1, hA2⟩ := hA.app
    obtain ⟨e0, hA3⟩ := hA2.head
    dsimp only at e0
    simp only [List.length_append, List.length_cons] at hk hj hc
    rw [args_succ]
    rcases hx.q (k := k) (d := d) (out := out) hA1 (by omega) (by rw [e0]; decide) (by rw [e0]; decide) with h | h
    · left; rw [if_neg (by rw [h]; decide)]; exact h
    · rw [h]
      dsimp only
      rw [if_pos rfl, if_pos e0, if_neg (by omega)]
      rcases ih y j (c + 1) (i + x.2.length + 1) (out ++ x.1) hy (fun z hz => hM z (by simp [hz])) (by omega) (by omega) hA3 (by simp only [List.length_append]; omega) with h2 | h2
      · exact .inl h2
      · right
        rw [h2]
        simp [Nat.add_assoc, Nat.add_comm, Nat.add_left_comm]
theorem sep_map (x : List Op × List Tk) (M : List (List Op × List Tk)) : sepd ((x :: M).map (·.2)) = x.2 ++ M.flatMap (fun y => ⟨3, [44]⟩ :: y.2) := by
  rw [List.map_cons, sepd_cons]
  congr 1
  induction M with
  | nil => rfl
  | cons y M ih => rw [List.map_cons, List.flatMap_cons, List.flatMap_cons, ih]
theorem allArgs_ok (l : List Tk) (k d i : Nat) (out : List Op) (M : List (List Op × List Tk)) (hM : ∀ y ∈ M, Ok y.1 y.2 1) (hn : M.length ≤ 8) (hne : ∀ y ∈ M, ∃ t r, y.2 = t :: r ∧ t.text ≠ [41]) (hA : At l i (sepd (M.map (·.2)) ++ [⟨3, [41]⟩])) (hk : 12 * (sepd (M.map (·.2))).length + 10 ≤ k) :
    (allArgs l (lev l (k + 1) 1) d i out).2.e = 11 ∨ allArgs l (lev l (k + 1) 1) d i out = (M.length, ⟨0, i + (sepd (M.map (·.2))).length, out ++ M.flatMap (·.1)⟩) := by
  unfold allArgs
  cases M with
  | nil =>
    right
    rw [if_pos (show nxt l i = [41] from hA.head.1)]
    simp [sepd]
  | cons x M =>
    rw [sep_map] at hA hk ⊢
    obtain ⟨t, r, hx, ht⟩ := hne x (by simp)
    have e0 : nxt l i = t.text := by
      have h := hA
      rw [hx] at h
      exact h.head.1
    rw [if_neg (by rw [e0]; exact ht)]
    rcases args_ok l k d M x 9 1 i out (hM x (by simp)) (fun y hy => hM y (by simp [hy])) (by simp at hn; omega) (by simp at hn; omega) hA hk with h | h
    · exact .inl h
    · right; rw [h]; simp [Nat.add_comm]
theorem ok_call {t : List UInt8} (ht : idB t = true) (M : List (List Op × List Tk)) (hM : ∀ y ∈ M, Ok y.1 y.2 1) (hn : M.length ≤ 8) (hne : ∀ y ∈ M, ∃ t r, y.2 = t :: r ∧ t.text ≠ [41]) : Ok (M.flatMap (·.1) ++ [⟨3, t, M.length⟩]) (callT t (M.map (·.2))) 11 := by
  obtain ⟨h1, h2, h3, h4, _⟩ := id_facts ht
  refine ok_prim fun l k d i out hT hk hp => ?_
  unfold callT at hT hk ⊢
  rw [List.append_assoc] at hT
  obtain ⟨e0, hT⟩ := hT.head
  obtain ⟨e1, hT⟩ := hT.head
  simp only [List.length_append, List.length_cons, List.length_nil, Nat.zero_add] at hk ⊢
  rw [lev_pr _ _ _ _ _ (by rw [e0]; exact h1)]
  obtain ⟨k, rfl⟩ : ∃ m, k = m + 1 := ⟨k - 1, by omega⟩
  unfold prim
  dsimp only at e0 e1 ⊢
  rw [e0, if_neg h2, if_neg h3, if_neg h4, if_pos ht]
  unfold named
  rw [if_pos e1]
  have hT' : At l (i + 1 + 1) (sepd (M.map (·.2)) ++ [⟨3, [41]⟩]) := hT
  have hcl : nxt l (i + 1 + 1 + (sepd (M.map (·.2))).length) = [41] := hT'.app.2.head.1
  have hall := allArgs_ok l k (d + 1) (i + 1 + 1) out M hM hn hne hT' (by omega)
  have hpar := inPar_ok (l := l) (f := fun d i out => (allArgs l (lev l (k + 1) 1) d i out).2) (d := d) (i := i + 1) (j := i + 1 + 1 + (sepd (M.map (·.2))).length) (out := out) (o2 := out ++ M.flatMap (·.1)) e1 (by rcases hall with h | h; exact .inl h; exact .inr (by rw [h])) hcl
  rcases hpar with h | h
  · left; unfold then_; rw [if_neg (by rw [h]; decide)]; exact h
  · have hcount : (allArgs l (lev l (k + 1) 1) (d + 1) (i + 1 + 1) out).1 = M.length := by
      rcases hall with h5 | h5
      · exfalso
        unfold inPar at h
        rw [if_pos e1] at h
        dsimp only at h
        unfold nest at h
        split at h
        · simp at h
        · dsimp only at h
          rw [if_neg (by rw [h5]; decide)] at h
          rw [h] at h5; simp at h5
      · rw [h5]
    right
    rw [h]
    unfold then_
    dsimp only
    rw [if_pos rfl, hcount]
    simp [Nat.add_assoc, Nat.add_comm, Nat.add_left_comm]
theorem ok_load {g : List Op} {A : List Tk} (hA : Ok g A 1) : Ok (g ++ [⟨4, [], 0⟩]) (callT [108, 111, 97, 100] [A]) 11 := by
  refine ok_prim fun l k d i out hT hk hp => ?_
  unfold callT at hT hk ⊢
  rw [show sepd [A] = A by simp [sepd, sepStep]] at hT hk ⊢
  rw [List.append_assoc] at hT
  obtain ⟨e0, hT⟩ := hT.head
  obtain ⟨e1, hT⟩ := hT.head
  simp only [List.length_append, List.length_cons, List.length_nil, Nat.zero_add] at hk ⊢
  dsimp only at e0 e1 ⊢
  rw [lev_pr _ _ _ _ _ (by rw [e0]; decide)]
  obtain ⟨k, rfl⟩ : ∃ m, k = m + 1 := ⟨k - 1, by omega⟩
  unfold prim
  dsimp only
  rw [e0, if_neg (by decide), if_pos rfl]
  have hT' : At l (i + 1 + 1) (A ++ [⟨3, [41]⟩]) := hT
  have hcl : nxt l (i + 1 + 1 + A.length) = [41] := hT'.app.2.head.1
  have hpar := then_ok ⟨4, [], 0⟩ (inPar_ok (l := l) (f := lev l (k + 1) 1) (d := d) (out := out) e1 (hA.q (d := d + 1) hT'.app.1 (by omega) (by rw [hcl]; decide) (by rw [hcl]; decide)) hcl)
  rw [show i + 1 + 1 + A.length + 1 = i + (1 + 1 + A.length + 1) by omega, List.append_assoc] at hpar
  exact hpar
theorem ok_in : Ok [⟨5, [], 0⟩] (callT [105, 110] []) 11 := by
  refine ok_prim fun l k d i out hT hk hp => ?_
  unfold callT at hT hk ⊢
  rw [show sepd [] = [] from rfl] at hT hk ⊢
  obtain ⟨e0, hT⟩ := hT.head
  obtain ⟨e1, hT⟩ := hT.head
  have hcl := hT.head.1
  dsimp only at e0 e1 hcl ⊢
  rw [lev_pr _ _ _ _ _ (by rw [e0]; decide)]
  unfold prim
  dsimp only
  rw [e0, if_neg (by decide), if_neg (by decide), if_pos rfl]
  have hpar := then_ok ⟨5, [], 0⟩ (inPar_ok (l := l) (f := fun _ i out => ⟨0, i, out⟩) (d := d) (out := out) (j := i + 1 + 1) (o2 := out) e1 (.inr rfl) hcl)
  exact hpar
end Ex
end Go.Proofs.YtndehkoglgakpaaGreatDoor
