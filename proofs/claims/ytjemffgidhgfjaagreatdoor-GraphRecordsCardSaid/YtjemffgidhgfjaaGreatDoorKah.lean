/- Plain: the order of Kahn and depths. -/
import Derived.Test.YtjemffgidhgfjaaGreatDoorChn
namespace Go.Proofs.YtjemffgidhgfjaaGreatDoor

namespace Gr
/-- A node that was not taken, and all nodes from which edges lead to it were. -/
def rdy (E : List Ed) (o : List Nat) (m : Nat) : Bool := !o.contains m && E.all fun x => !(x.dst == (m : Int)) || o.contains x.src.toNat
/-- The order: k more nodes, the least ones first. -/
def kahn (E : List Ed) (N : Nat) : Nat → List Nat → Option (List Nat)
  | 0, o => some o
  | k + 1, o => match (List.range N).find? (rdy E o) with
    | none => none
    | some n => kahn E N k (o ++ [n])
/-- How many edges lead to a node from nodes that were not taken. -/
def cnt (E : List Ed) (o : List Nat) (m : Nat) : Nat := (E.filter fun x => x.dst == (m : Int) && !o.contains x.src.toNat).length
theorem cnt_le (E : List Ed) (o : List Nat) (m : Nat) : cnt E o m ≤ E.length := List.length_filter_le _ _
theorem cnt_app (E : List Ed) (x : Ed) (o : List Nat) (m : Nat) : cnt (E ++ [x]) o m = cnt E o m + if x.dst = (m : Int) ∧ ¬ x.src.toNat ∈ o then 1 else 0 := by
  unfold cnt
  rw [List.filter_append, List.length_append]
  congr 1
  by_cases h : x.dst = (m : Int) ∧ ¬ x.src.toNat ∈ o
  · rw [if_pos h, List.filter_cons_of_pos (by simp [h.1, h.2])]; rfl
  · rw [if_neg h, List.filter_cons_of_neg (by simp; intro h1; exact Decidable.not_not.1 fun h2 => h ⟨h1, h2⟩)]; rfl
theorem cnt_zero {E : List Ed} {o : List Nat} {m : Nat} : cnt E o m = 0 ↔ ∀ x ∈ E, x.dst = (m : Int) → x.src.toNat ∈ o := by
  unfold cnt
  rw [List.length_eq_zero_iff, List.filter_eq_nil_iff]
  constructor
  · intro h x hx hd
    have := h x hx
    simpa [hd] using this
  · intro h x hx
    simp
    exact h x hx
/-- Taking one more node. -/
theorem cnt_take (E : List Ed) (o : List Nat) (n m : Nat) (hn : n ∉ o) (hE : ∀ x ∈ E, 0 ≤ x.src) : cnt E o m = cnt E (o ++ [n]) m + (row true E n).count (m : Int) := by
  induction E with
  | nil => rfl
  | cons x t ih =>
    have ih := ih fun y hy => hE y (List.mem_cons_of_mem _ hy)
    have hx := hE x (by simp)
    unfold cnt row at ih ⊢
    by_cases hs : x.src = (n : Int)
    · have hsn : x.src.toNat = n := by omega
      rw [List.filter_cons_of_pos (p := fun x => eA true x == (n : Int)) (by simp [eA, hs]), List.map_cons, List.count_cons]
      by_cases hd : x.dst = (m : Int)
      · rw [List.filter_cons_of_pos (by simp [hd, hsn, hn]), List.filter_cons_of_neg (by simp [hsn]), List.length_cons, ih]
        simp [eB, hd]
        omega
      · rw [List.filter_cons_of_neg (by simp [hd]), List.filter_cons_of_neg (by simp [hd]), ih]
        simp [eB, hd]
    · have hsn : ¬ x.src.toNat = n := by omega
      rw [List.filter_cons_of_neg (p := fun x => eA true x == (n : Int)) (by simp [eA, hs])]
      by_cases hd : x.dst = (m : Int) ∧ ¬ x.src.toNat ∈ o
      · rw [List.filter_cons_of_pos (by simp [hd.1, hd.2]), List.filter_cons_of_pos (by simp [hd.1, hd.2, hsn]), List.length_cons, List.length_cons, ih]
        omega
      · rw [List.filter_cons_of_neg (by simp; intro h1; exact Decidable.not_not.1 fun h2 => hd ⟨h1, h2⟩), List.filter_cons_of_neg (by simp; intro h1 h3; exact absurd ⟨h1, h3⟩ hd), ih]
/-- What the waits say. -/
structure Wts (E : List Ed) (N : Nat) (o : List Nat) (W : Nat → Int) : Prop where
  w : ∀ m, m < N → W m = if m ∈ o then -1 else (cnt E o m : Int)
  cl : ∀ x ∈ E, ∀ m : Nat, x.dst = (m : Int) → m ∈ o → x.src.toNat ∈ o
  lt : ∀ m ∈ o, m < N
  nd : o.Nodup
theorem rdy_iff {E : List Ed} {o : List Nat} {m : Nat} : rdy E o m = true ↔ m ∉ o ∧ cnt E o m = 0 := by
  unfold rdy
  rw [cnt_zero, Bool.and_eq_true, List.all_eq_true]
  constructor
  · rintro ⟨h1, h2⟩
    refine ⟨by simpa using h1, fun x hx hd => ?_⟩
    have := h2 x hx
    simpa [hd] using this
  · rintro ⟨h1, h2⟩
    refine ⟨by simpa using h1, fun x hx => ?_⟩
    by_cases hd : x.dst = (m : Int)
    · simp [h2 x hx hd]
    · simp [hd]
theorem Wts.zero {E : List Ed} {N : Nat} {o : List Nat} {W : Nat → Int} (h : Wts E N o W) {m : Nat} (hm : m < N) : W m = 0 ↔ rdy E o m = true := by
  rw [h.w m hm, rdy_iff]
  split
  · rename_i hx; simp [hx]
  · rename_i hx; simp [hx]
/-- One more node is taken; j of the nodes behind it are seen to. -/
def wjt (E : List Ed) (o : List Nat) (n j : Nat) (m : Nat) : Int := (if m ∈ o ++ [n] then -1 else (cnt E o m : Int)) - (((row true E n).take j).count (m : Int) : Int)
theorem Wts.done {E : List Ed} {N : Nat} {o : List Nat} {W : Nat → Int} {n : Nat} (h : Wts E N o W) (hn : n < N) (hr : rdy E o n = true) (hE : ∀ x ∈ E, 0 ≤ x.src) {j : Nat} (hj : ¬ j < (row true E n).length) : Wts E N (o ++ [n]) (wjt E o n j) := by
  have hr := rdy_iff.1 hr
  have hcl : ∀ x ∈ E, ∀ m : Nat, x.dst = (m : Int) → m ∈ o ++ [n] → x.src.toNat ∈ o := fun x hx m hd hm => by
    rcases List.mem_append.1 hm with hm | hm
    · exact h.cl x hx m hd hm
    · rw [List.mem_singleton] at hm
      subst hm
      exact cnt_zero.1 hr.2 x hx hd
  refine ⟨fun m hm => ?_, fun x hx m hd hm => List.mem_append_left _ (hcl x hx m hd hm), fun m hm => ?_, ?_⟩
  · unfold wjt
    rw [List.take_of_length_le (by omega)]
    by_cases hmo : m ∈ o ++ [n]
    · rw [if_pos hmo, if_pos hmo]
      have : (row true E n).count (m : Int) = 0 := by
        rw [List.count_eq_zero]
        intro hmem
        obtain ⟨y, hy, h1, h2⟩ := row_mem hmem
        have := hcl y hy m (by simpa [eB] using h2.symm) hmo
        have h1 : y.src = (n : Int) := by simpa [eA] using h1
        rw [h1] at this
        exact hr.1 (by simpa using this)
      omega
    · rw [if_neg hmo, if_neg hmo]
      have := cnt_take E o n m hr.1 hE
      omega
  · rcases List.mem_append.1 hm with hm | hm
    · exact h.lt m hm
    · rw [List.mem_singleton] at hm; omega
  · rw [List.nodup_append]
    refine ⟨h.nd, by simp, fun a ha b hb e => ?_⟩
    rw [List.mem_singleton] at hb
    subst hb e
    exact hr.1 ha
theorem wjt_zero (E : List Ed) (o : List Nat) (n m : Nat) : wjt E o n 0 m = if m ∈ o ++ [n] then -1 else (cnt E o m : Int) := by
  unfold wjt; simp
theorem Wts.taken {E : List Ed} {N : Nat} {o : List Nat} {W : Nat → Int} (h : Wts E N o W) {n m : Nat} (hm : m < N) : (if m = n then -1 else W m) = wjt E o n 0 m := by
  rw [wjt_zero]
  by_cases e : m = n
  · rw [if_pos e, if_pos (by simp [e])]
  · rw [if_neg e, h.w m hm]
    by_cases e2 : m ∈ o
    · rw [if_pos e2, if_pos (by simp [e2])]
    · rw [if_neg e2, if_neg (by simp [e2, e])]
theorem wjt_step {E : List Ed} {o : List Nat} {n j : Nat} (hj : j < (row true E n).length) {b : Nat} (hb : (row true E n)[j] = (b : Int)) (m : Nat) : (if m = b then wjt E o n j m - 1 else wjt E o n j m) = wjt E o n (j + 1) m := by
  unfold wjt
  rw [List.take_succ_eq_append_getElem hj, hb, List.count_append]
  by_cases e : m = b
  · rw [if_pos e, e]; simp; omega
  · rw [if_neg e]
    have : List.count (m : Int) [(b : Int)] = 0 := by
      rw [List.count_eq_zero]; simp; omega
    omega
theorem wjt_bd (E : List Ed) (o : List Nat) (n j m : Nat) : -1 - (j : Int) ≤ wjt E o n j m ∧ wjt E o n j m ≤ (E.length : Int) := by
  unfold wjt
  have h1 := cnt_le E o m
  have h2 : ((row true E n).take j).count (m : Int) ≤ j := Nat.le_trans List.count_le_length (by rw [List.length_take]; omega)
  split <;> omega
theorem Wts.init {E : List Ed} {N : Nat} : Wts E N [] (fun m => (cnt E [] m : Int)) := ⟨fun m _ => by simp, fun _ _ _ _ h => by simp at h, fun _ h => by simp at h, List.nodup_nil⟩
/-- One step of the order. -/
theorem kahn_none {E : List Ed} {N k : Nat} {o : List Nat} (h : ∀ m, m < N → rdy E o m = false) : kahn E N (k + 1) o = none := by
  rw [kahn, List.find?_eq_none.2 (fun x hx => by rw [List.mem_range] at hx; simp [h x hx])]
theorem kahn_some {E : List Ed} {N k n : Nat} {o : List Nat} (hn : n < N) (hr : rdy E o n = true) (h : ∀ m, m < n → rdy E o m = false) : kahn E N (k + 1) o = kahn E N k (o ++ [n]) := by
  have : (List.range N).find? (rdy E o) = some n := by
    rw [List.find?_range_eq_some]
    exact ⟨hr, by simpa using hn, fun j hj => by simp [h j hj]⟩
  rw [kahn, this]
end Gr
namespace Gr
theorem pig : ∀ (N : Nat) (f : Nat → Nat), (∀ i, i ≤ N → f i < N) → ∃ i j, i < j ∧ j ≤ N ∧ f i = f j
  | 0, f, h => absurd (h 0 (Nat.le_refl _)) (by omega)
  | N + 1, f, h => by
    by_cases hx : ∃ i, i ≤ N ∧ f i = f (N + 1)
    · obtain ⟨i, hi, e⟩ := hx
      exact ⟨i, N + 1, by omega, Nat.le_refl _, e⟩
    · have hne : ∀ i, i ≤ N → f i ≠ f (N + 1) := fun i hi e => hx ⟨i, hi, e⟩
      obtain ⟨i, j, hij, hj, e⟩ := pig N (fun i => if f i = N then f (N + 1) else f i) (fun i hi => by
        have h1 := h i (by omega)
        have h2 := h (N + 1) (Nat.le_refl _)
        have h3 := hne i hi
        show (if f i = N then f (N + 1) else f i) < N
        split <;> omega)
      refine ⟨i, j, hij, by omega, ?_⟩
      have h1 := hne i (by omega)
      have h2 := hne j hj
      split at e <;> split at e <;> omega
/-- An order in which edges lead forward. -/
structure Topo (E : List Ed) (N : Nat) (o : List Nat) : Prop where
  len : o.length = N
  nd : o.Nodup
  lt : ∀ m ∈ o, m < N
  all : ∀ m, m < N → m ∈ o
  fwd : ∀ i (h : i < o.length), ∀ x ∈ E, x.dst = (o[i] : Int) → x.src.toNat ∈ o.take i
/-- What holds while nodes are taken. -/
structure Part (E : List Ed) (N : Nat) (o : List Nat) : Prop where
  nd : o.Nodup
  lt : ∀ m ∈ o, m < N
  fwd : ∀ i (h : i < o.length), ∀ x ∈ E, x.dst = (o[i] : Int) → x.src.toNat ∈ o.take i
theorem Part.add {E : List Ed} {N : Nat} {o : List Nat} (h : Part E N o) {n : Nat} (hn : n < N) (hr : rdy E o n = true) : Part E N (o ++ [n]) := by
  have hr := rdy_iff.1 hr
  refine ⟨?_, fun m hm => ?_, fun i hi x hx hd => ?_⟩
  · rw [List.nodup_append]
    refine ⟨h.nd, by simp, fun a ha b hb e => ?_⟩
    rw [List.mem_singleton] at hb
    subst hb e
    exact hr.1 ha
  · rcases List.mem_append.1 hm with hm | hm
    · exact h.lt m hm
    · rw [List.mem_singleton] at hm; omega
  · rw [List.length_append, List.length_singleton] at hi
    by_cases e : i < o.length
    · rw [List.getElem_append_left e] at hd
      rw [List.take_append_of_le_length (by omega)]
      exact h.fwd i e x hx hd
    · have e : i = o.length := by omega
      subst e
      rw [List.getElem_append_right (Nat.le_refl _)] at hd
      rw [List.take_append_of_le_length (by omega), List.take_length]
      exact cnt_zero.1 hr.2 x hx (by simpa using hd)
theorem nodup_full {N : Nat} {o : List Nat} (hl : o.length = N) (hnd : o.Nodup) (hlt : ∀ m ∈ o, m < N) : ∀ m, m < N → m ∈ o := by
  intro m hm
  refine Decidable.byContradiction fun hno => ?_
  obtain ⟨i, j, hij, hj, e⟩ := pig N (fun i => if h : i < o.length then o[i] else m) (fun i hi => by
    show (if h : i < o.length then o[i] else m) < N
    split
    · exact hlt _ (List.getElem_mem _)
    · exact hm)
  rw [dif_pos (by omega)] at e
  split at e
  · exact absurd e (by
      rw [List.Nodup, List.pairwise_iff_getElem] at hnd
      exact hnd i j (by omega) (by omega) hij)
  · exact hno (e ▸ List.getElem_mem _)
theorem kahn_topo {E : List Ed} {N : Nat} : ∀ (k : Nat) (o o' : List Nat), Part E N o → o.length + k = N → kahn E N k o = some o' → Topo E N o'
  | 0, o, o', h, hl, e => by
    rw [kahn] at e
    injection e with e
    subst e
    have hl : o.length = N := hl
    exact ⟨hl, h.nd, h.lt, nodup_full hl h.nd h.lt, h.fwd⟩
  | k + 1, o, o', h, hl, e => by
    rw [kahn] at e
    split at e
    · cases e
    · rename_i n hn
      rw [List.find?_range_eq_some] at hn
      exact kahn_topo k (o ++ [n]) o' (h.add (by simpa using hn.2.1) hn.1) (by simp; omega) e
theorem Part.nil (E : List Ed) (N : Nat) : Part E N [] := ⟨List.nodup_nil, fun _ h => by simp at h, fun i h => by simp at h⟩
theorem kahn_ok {E : List Ed} {N : Nat} {o : List Nat} (h : kahn E N N [] = some o) : Topo E N o := kahn_topo N [] o (Part.nil E N) (by simp) h
/-- No node is ready, and not all were taken. -/
theorem kahn_stuck {E : List Ed} {N : Nat} : ∀ (k : Nat) (o : List Nat), Part E N o → o.length + k = N → kahn E N k o = none → ∃ o', Part E N o' ∧ o'.length < N ∧ ∀ m, m < N → rdy E o' m = false
  | 0, o, h, hl, e => by rw [kahn] at e; cases e
  | k + 1, o, h, hl, e => by
    rw [kahn] at e
    split at e
    · rename_i hn
      rw [List.find?_eq_none] at hn
      exact ⟨o, h, by omega, fun m hm => by simpa using hn m (List.mem_range.2 hm)⟩
    · rename_i n hn
      rw [List.find?_range_eq_some] at hn
      exact kahn_stuck k (o ++ [n]) (h.add (by simpa using hn.2.1) hn.1) (by simp; omega) e
/-- Edges one after another. -/
inductive Tc (E : List Ed) : Nat → Nat → Prop
  | one (x : Ed) (a b : Nat) : x ∈ E → x.src = (a : Int) → x.dst = (b : Int) → Tc E a b
  | cons (x : Ed) (a b c : Nat) : x ∈ E → x.src = (a : Int) → x.dst = (b : Int) → Tc E b c → Tc E a c
theorem kahn_loop {E : List Ed} {N : Nat} (hE : ∀ x ∈ E, 0 ≤ x.src ∧ x.src < (N : Int)) (h : kahn E N N [] = none) : ∃ m, m < N ∧ Tc E m m := by
  obtain ⟨o, hp, hl, hno⟩ := kahn_stuck N [] (Part.nil E N) (by simp) h
  have hu : ∃ u, u < N ∧ u ∉ o := by
    refine Decidable.byContradiction fun hc => ?_
    have hall : ∀ m, m < N → m ∈ o := fun m hm => Decidable.byContradiction fun hx => hc ⟨m, hm, hx⟩
    obtain ⟨i, j, hij, hj, e⟩ := pig o.length (fun i => if h : i < N then o.idxOf i else 0) (fun i hi => by
      show (if h : i < N then o.idxOf i else 0) < o.length
      rw [dif_pos (by omega)]
      exact List.idxOf_lt_length_of_mem (hall i (by omega)))
    rw [dif_pos (by omega), dif_pos (by omega)] at e
    have h1 := List.getElem_idxOf (List.idxOf_lt_length_of_mem (hall i (by omega)))
    have h2 := List.getElem_idxOf (List.idxOf_lt_length_of_mem (hall j (by omega)))
    simp only [e] at h1
    omega
  have hpre : ∀ u, u < N ∧ u ∉ o → ∃ v, (v < N ∧ v ∉ o) ∧ ∃ x ∈ E, x.src = (v : Int) ∧ x.dst = (u : Int) := by
    rintro u ⟨hu, huo⟩
    have hf := hno u hu
    have : ¬ cnt E o u = 0 := fun hz => by rw [rdy_iff.2 ⟨huo, hz⟩] at hf; cases hf
    rw [cnt_zero] at this
    refine Classical.byContradiction fun hc => this fun x hx hd => Decidable.byContradiction fun hs => hc ?_
    have := hE x hx
    exact ⟨x.src.toNat, ⟨by omega, hs⟩, x, hx, by omega, hd⟩
  obtain ⟨u0, hu0⟩ := hu
  let f : Nat → { u : Nat // u < N ∧ u ∉ o } := fun i => Nat.rec ⟨u0, hu0⟩ (fun _ u => ⟨(hpre u.1 u.2).choose, (hpre u.1 u.2).choose_spec.1⟩) i
  have hstep : ∀ i, ∃ x ∈ E, x.src = ((f (i + 1)).1 : Int) ∧ x.dst = ((f i).1 : Int) := fun i => (hpre (f i).1 (f i).2).choose_spec.2
  have htc : ∀ d i, Tc E (f (i + d + 1)).1 (f i).1 := by
    intro d
    induction d with
    | zero => intro i; obtain ⟨x, hx, h1, h2⟩ := hstep i; exact .one x _ _ hx h1 h2
    | succ d ih =>
      intro i
      obtain ⟨x, hx, h1, h2⟩ := hstep (i + d + 1)
      exact .cons x _ _ _ hx h1 h2 (ih i)
  obtain ⟨i, j, hij, hj, e⟩ := pig N (fun i => (f i).1) (fun i _ => (f i).2.1)
  have := htc (j - i - 1) i
  rw [show i + (j - i - 1) + 1 = j by omega] at this
  rw [← e] at this
  exact ⟨_, (f i).2.1, this⟩
theorem Topo.idx {E : List Ed} {N : Nat} {o : List Nat} (h : Topo E N o) {x : Ed} (hx : x ∈ E) {a b : Nat} (ha : x.src = (a : Int)) (hb : x.dst = (b : Int)) (hbN : b < N) : o.idxOf a < o.idxOf b := by
  have hm := List.idxOf_lt_length_of_mem (h.all b hbN)
  have h1 := h.fwd _ hm x hx (by rw [List.getElem_idxOf hm]; exact hb)
  rw [ha, Int.toNat_natCast] at h1
  obtain ⟨i, hi, e⟩ := List.mem_take_iff_getElem.1 h1
  have hi2 : i < o.length := by omega
  have h3 := List.idxOf_lt_length_of_mem (l := o) (a := a) (by rw [← e]; exact List.getElem_mem _)
  have h2 : o.idxOf a ≤ i := by
    refine Decidable.byContradiction fun hc => ?_
    have hnd := h.nd
    rw [List.Nodup, List.pairwise_iff_getElem] at hnd
    have := hnd i (o.idxOf a) hi2 h3 (by omega)
    rw [List.getElem_idxOf h3] at this
    exact this e
  omega
theorem Topo.acyc {E : List Ed} {N : Nat} {o : List Nat} (h : Topo E N o) (hE : ∀ x ∈ E, 0 ≤ x.dst ∧ x.dst < (N : Int)) {a b : Nat} (ht : Tc E a b) : o.idxOf a < o.idxOf b := by
  induction ht with
  | one x a b hx ha hb => exact h.idx hx ha hb (by have := hE x hx; omega)
  | cons x a b c hx ha hb _ ih =>
    have := h.idx hx ha hb (by have := hE x hx; omega)
    omega
/-- Nodes reach others by edges. -/
theorem tc_wk {E : List Ed} {a b : Nat} : (∃ k, Wk (row true E) (row true E a) (-1) k b) ↔ Tc E a b := by
  constructor
  · rintro ⟨k, hk⟩
    have snoc : ∀ {a b c : Nat}, Tc E a b → ∀ x ∈ E, x.src = (b : Int) → x.dst = (c : Int) → Tc E a c := by
      intro a b c h
      induction h with
      | one y a b hy ha hb => exact fun x hx h1 h2 => .cons y _ _ _ hy ha hb (.one x _ _ hx h1 h2)
      | cons y a b d hy ha hb _ ih => exact fun x hx h1 h2 => .cons y _ _ _ hy ha hb (ih x hx h1 h2)
    induction hk with
    | start s hs hc =>
      obtain ⟨y, hy, h1, h2⟩ := row_mem hs
      exact .one y _ _ hy h1 h2.symm
    | step k c d _ hm hc ih =>
      obtain ⟨y, hy, h1, h2⟩ := row_mem hm
      exact snoc ih y hy h1 h2.symm
  · intro h
    induction h with
    | one x a b hx ha hb => exact ⟨0, .start b (by rw [← hb]; exact mem_row (fw := true) hx ha) (by omega)⟩
    | cons x a b c hx ha hb _ ih =>
      obtain ⟨k, hk⟩ := ih
      have lift : ∀ {k c : Nat}, Wk (row true E) (row true E b) (-1) k c → Wk (row true E) (row true E a) (-1) (k + 1) c := by
        intro k c hk
        induction hk with
        | start s hs hc => exact .step 0 b s (.start b (by rw [← hb]; exact mem_row (fw := true) hx ha) (by omega)) hs hc
        | step k c d _ hm hc ih => exact .step _ _ _ ih hm hc
      exact ⟨_, lift hk⟩
end Gr
namespace Gr
/-- Depths: a node hands its depth on. -/
def psh (n : Nat) (D : Nat → Int) (m : Int) : Nat → Int := fun i => if i = m.toNat then max (D m.toNat) (D n + 1) else D i
def pshs (n : Nat) (D : Nat → Int) (l : List Int) : Nat → Int := l.foldl (psh n) D
def dps (E : List Ed) (o : List Nat) : Nat → Int := o.foldl (fun D n => pshs n D (row true E n)) fun _ => 0
theorem pshs_step (n : Nat) (D : Nat → Int) (l : List Int) (j : Nat) (hj : j < l.length) : pshs n D (l.take (j + 1)) = psh n (pshs n D (l.take j)) l[j] := by
  unfold pshs
  rw [List.take_succ_eq_append_getElem hj, List.foldl_append]; rfl
theorem dps_step (E : List Ed) (o : List Nat) (k : Nat) (hk : k < o.length) : dps E (o.take (k + 1)) = pshs o[k] (dps E (o.take k)) (row true E o[k]) := by
  unfold dps
  rw [List.take_succ_eq_append_getElem hk, List.foldl_append]; rfl
theorem psh_bd {n : Nat} {D : Nat → Int} {T : Nat} (h : ∀ i, 0 ≤ D i ∧ D i ≤ (T : Int)) (m : Int) : ∀ i, 0 ≤ psh n D m i ∧ psh n D m i ≤ ((T + 1 : Nat) : Int) := fun i => by
  unfold psh
  have h1 := h i
  have h2 := h m.toNat
  have h3 := h n
  split <;> omega
theorem pshs_bd {n : Nat} : ∀ (l : List Int) {D : Nat → Int} {T : Nat}, (∀ i, 0 ≤ D i ∧ D i ≤ (T : Int)) → ∀ i, 0 ≤ pshs n D l i ∧ pshs n D l i ≤ ((T + l.length : Nat) : Int)
  | [], D, T, h => h
  | m :: t, D, T, h => fun i => by
    have := pshs_bd (n := n) t (psh_bd (n := n) h m) i
    rw [List.length_cons, show T + (t.length + 1) = T + 1 + t.length by omega]
    exact this
theorem dps_bd (E : List Ed) (o : List Nat) : ∀ k i, 0 ≤ dps E (o.take k) i ∧ dps E (o.take k) i ≤ ((k * E.length : Nat) : Int)
  | 0, i => by simp [dps]
  | k + 1, i => by
    by_cases hk : k < o.length
    · rw [dps_step E o k hk]
      have h1 := pshs_bd (n := o[k]) (row true E o[k]) (fun i => dps_bd E o k i) i
      have h2 : (row true E o[k]).length ≤ E.length := by
        unfold row
        rw [List.length_map]
        exact List.length_filter_le _ _
      rw [Nat.add_one_mul]
      omega
    · have h1 := dps_bd E o k i
      rw [List.take_of_length_le (by omega)] at h1
      rw [List.take_of_length_le (by omega), Nat.add_one_mul]
      omega
/-- What depths are: one more than the greatest one of a node from which an edge leads here. -/
structure Dok (E : List Ed) (N : Nat) (D : Nat → Int) : Prop where
  pos : ∀ m, 0 ≤ D m
  le : ∀ m, m < N → ∀ x ∈ E, x.dst = (m : Int) → D x.src.toNat + 1 ≤ D m
  ex : ∀ m, m < N → D m = 0 ∨ ∃ x ∈ E, x.dst = (m : Int) ∧ D m = D x.src.toNat + 1
/-- The depths while nodes are handled: what came from those in p. -/
structure Dpt (E : List Ed) (p : List Nat) (D : Nat → Int) : Prop where
  pos : ∀ m, 0 ≤ D m
  le : ∀ x ∈ E, x.src.toNat ∈ p → D x.src.toNat + 1 ≤ D x.dst.toNat
  ex : ∀ m, D m = 0 ∨ ∃ x ∈ E, x.src.toNat ∈ p ∧ x.dst = (m : Int) ∧ D m = D x.src.toNat + 1
theorem pshs_get (n : Nat) : ∀ (l : List Int) (D : Nat → Int), (∀ y ∈ l, y.toNat ≠ n) → pshs n D l n = D n ∧ ∀ m, (m ∈ l.map Int.toNat → pshs n D l m = max (D m) (D n + 1)) ∧ (m ∉ l.map Int.toNat → pshs n D l m = D m)
  | [], D, _ => ⟨rfl, fun m => ⟨fun h => by simp at h, fun _ => rfl⟩⟩
  | y :: t, D, h => by
    have hy := h y (by simp)
    obtain ⟨h1, h2⟩ := pshs_get n t (psh n D y) fun z hz => h z (List.mem_cons_of_mem _ hz)
    have hn : psh n D y n = D n := by unfold psh; rw [if_neg (fun e => hy e.symm)]
    have e : pshs n D (y :: t) = pshs n (psh n D y) t := rfl
    rw [e]
    refine ⟨h1.trans hn, fun m => ⟨fun hm => ?_, fun hm => ?_⟩⟩
    · by_cases hmt : m ∈ t.map Int.toNat
      · rw [(h2 m).1 hmt, hn]
        unfold psh
        split
        · rename_i e; rw [e]; omega
        · rfl
      · rw [(h2 m).2 hmt]
        rw [List.map_cons, List.mem_cons] at hm
        rcases hm with hm | hm
        · unfold psh; rw [if_pos hm, hm]
        · exact absurd hm hmt
    · rw [List.map_cons, List.mem_cons, not_or] at hm
      rw [(h2 m).2 hm.2]
      unfold psh; rw [if_neg hm.1]
theorem Dpt.add {E : List Ed} {N : Nat} {p : List Nat} {n : Nat} {D : Nat → Int} (h : Dpt E p D) (hE : ∀ x ∈ E, (0 ≤ x.src ∧ x.src < (N : Int)) ∧ 0 ≤ x.dst ∧ x.dst < (N : Int)) (hn : n ∉ p) (hback : ∀ x ∈ E, x.dst.toNat ∈ p ++ [n] → x.src.toNat ∈ p) : Dpt E (p ++ [n]) (pshs n D (row true E n)) := by
  have hrow : ∀ y ∈ row true E n, ∃ x ∈ E, x.src = (n : Int) ∧ y = x.dst := fun y hy => by
    obtain ⟨x, hx, h1, h2⟩ := row_mem hy
    exact ⟨x, hx, h1, h2⟩
  have hnp : ∀ m, m ∈ p ++ [n] → m ∉ (row true E n).map Int.toNat := fun m hm hmm => by
    rw [List.mem_map] at hmm
    obtain ⟨y, hy, e⟩ := hmm
    obtain ⟨x, hx, h1, h2⟩ := hrow y hy
    have := hback x hx (by rw [← h2, e]; exact hm)
    rw [h1, Int.toNat_natCast] at this
    exact hn this
  obtain ⟨_, hg⟩ := pshs_get n (row true E n) D fun y hy e => hnp n (by simp) (List.mem_map.2 ⟨y, hy, e⟩)
  have hold : ∀ m, m ∈ p ++ [n] → pshs n D (row true E n) m = D m := fun m hm => (hg m).2 (hnp m hm)
  have hge : ∀ m, D m ≤ pshs n D (row true E n) m := fun m => by
    by_cases hm : m ∈ (row true E n).map Int.toNat
    · rw [(hg m).1 hm]; omega
    · rw [(hg m).2 hm]; omega
  refine ⟨fun m => by have := h.pos m; have := hge m; omega, fun x hx hs => ?_, fun m => ?_⟩
  · rw [hold _ hs]
    rcases List.mem_append.1 hs with hs | hs
    · have := h.le x hx hs; have := hge x.dst.toNat; omega
    · rw [List.mem_singleton] at hs
      have hxs := (hE x hx).1
      have hm : x.dst.toNat ∈ (row true E n).map Int.toNat := List.mem_map.2 ⟨x.dst, mem_row (fw := true) hx (by show x.src = _; omega), rfl⟩
      rw [(hg _).1 hm, hs]
      omega
  · by_cases hm : m ∈ (row true E n).map Int.toNat
    · rw [(hg m).1 hm]
      by_cases hc : D n + 1 ≤ D m
      · rw [show max (D m) (D n + 1) = D m by omega]
        rcases h.ex m with e | ⟨x, hx, h1, h2, h3⟩
        · have := h.pos n; omega
        · exact .inr ⟨x, hx, List.mem_append_left _ h1, h2, by rw [hold _ (List.mem_append_left _ h1)]; exact h3⟩
      · rw [show max (D m) (D n + 1) = D n + 1 by omega]
        rw [List.mem_map] at hm
        obtain ⟨y, hy, e⟩ := hm
        obtain ⟨x, hx, h1, h2⟩ := hrow y hy
        have hxd := (hE x hx).2
        have e2 : x.src.toNat = n := by omega
        exact .inr ⟨x, hx, by rw [e2]; simp, by omega, by rw [e2, hold n (by simp)]⟩
    · rw [(hg m).2 hm]
      rcases h.ex m with e | ⟨x, hx, h1, h2, h3⟩
      · exact .inl e
      · exact .inr ⟨x, hx, List.mem_append_left _ h1, h2, by rw [hold _ (List.mem_append_left _ h1)]; exact h3⟩
theorem Topo.back {E : List Ed} {N : Nat} {o : List Nat} (h : Topo E N o) (hE : ∀ x ∈ E, (0 ≤ x.src ∧ x.src < (N : Int)) ∧ 0 ≤ x.dst ∧ x.dst < (N : Int)) (k : Nat) (hk : k < o.length) : ∀ x ∈ E, x.dst.toNat ∈ o.take k ++ [o[k]] → x.src.toNat ∈ o.take k := fun x hx hm => by
  have hxd := (hE x hx).2
  rcases List.mem_append.1 hm with hm | hm
  · obtain ⟨i, hi, e⟩ := List.mem_take_iff_getElem.1 hm
    have := h.fwd i (by omega) x hx (by rw [e]; omega)
    obtain ⟨j, hj, e2⟩ := List.mem_take_iff_getElem.1 this
    exact List.mem_take_iff_getElem.2 ⟨j, by omega, e2⟩
  · rw [List.mem_singleton] at hm
    exact h.fwd k hk x hx (by omega)
theorem Topo.notin {E : List Ed} {N : Nat} {o : List Nat} (h : Topo E N o) (k : Nat) (hk : k < o.length) : o[k] ∉ o.take k := fun hm => by
  obtain ⟨i, hi, e⟩ := List.mem_take_iff_getElem.1 hm
  have hnd := h.nd
  rw [List.Nodup, List.pairwise_iff_getElem] at hnd
  exact hnd i k (by omega) hk (by omega) e
theorem dps_part {E : List Ed} {N : Nat} {o : List Nat} (h : Topo E N o) (hE : ∀ x ∈ E, (0 ≤ x.src ∧ x.src < (N : Int)) ∧ 0 ≤ x.dst ∧ x.dst < (N : Int)) : ∀ k, k ≤ o.length → Dpt E (o.take k) (dps E (o.take k))
  | 0, _ => ⟨fun m => by simp [dps], fun x _ h => by simp at h, fun m => .inl (by simp [dps])⟩
  | k + 1, hk => by
    rw [dps_step E o k hk, List.take_succ_eq_append_getElem hk]
    exact (dps_part h hE k (by omega)).add hE (h.notin k hk) (h.back hE k hk)
theorem dps_ok {E : List Ed} {N : Nat} {o : List Nat} (h : Topo E N o) (hE : ∀ x ∈ E, (0 ≤ x.src ∧ x.src < (N : Int)) ∧ 0 ≤ x.dst ∧ x.dst < (N : Int)) : Dok E N (dps E o) := by
  have hp := dps_part h hE o.length (Nat.le_refl _)
  rw [List.take_length] at hp
  refine ⟨hp.pos, fun m hm x hx hd => ?_, fun m hm => ?_⟩
  · have := hp.le x hx (h.all _ (by have := (hE x hx).1; omega))
    rw [hd, Int.toNat_natCast] at this
    exact this
  · rcases hp.ex m with e | ⟨x, hx, _, h2, h3⟩
    · exact .inl e
    · exact .inr ⟨x, hx, h2, h3⟩
theorem Dok.uniq {E : List Ed} {N : Nat} {o : List Nat} {D D' : Nat → Int} (h : Topo E N o) (h1 : Dok E N D) (h2 : Dok E N D') : ∀ m, m < N → D m = D' m := by
  have key : ∀ k i (hi : i < o.length), i < k → D o[i] = D' o[i] := by
    intro k
    induction k with
    | zero => intro i hi hik; omega
    | succ k ih =>
      intro i hi hik
      have hmN := h.lt _ (List.getElem_mem hi)
      have hs : ∀ x ∈ E, x.dst = (o[i] : Int) → D x.src.toNat = D' x.src.toNat := fun x hx hd => by
        obtain ⟨j, hj, e⟩ := List.mem_take_iff_getElem.1 (h.fwd i hi x hx hd)
        have := ih j (by omega) (by omega)
        rwa [e] at this
      have a1 := h1.pos o[i]
      have a2 := h2.pos o[i]
      rcases h1.ex _ hmN with e | ⟨x, hx, hd, e⟩
      · rcases h2.ex _ hmN with e' | ⟨y, hy, hd', e'⟩
        · omega
        · have := h1.le _ hmN y hy hd'
          rw [hs y hy hd'] at this
          omega
      · have b1 := h2.le _ hmN x hx hd
        rw [← hs x hx hd] at b1
        rcases h2.ex _ hmN with e' | ⟨y, hy, hd', e'⟩
        · have := h1.pos x.src.toNat; omega
        · have := h1.le _ hmN y hy hd'
          rw [hs y hy hd'] at this
          omega
  intro m hm
  have hm2 := List.idxOf_lt_length_of_mem (h.all m hm)
  have := key o.length _ hm2 hm2
  rwa [List.getElem_idxOf hm2] at this
end Gr
end Go.Proofs.YtjemffgidhgfjaaGreatDoor
