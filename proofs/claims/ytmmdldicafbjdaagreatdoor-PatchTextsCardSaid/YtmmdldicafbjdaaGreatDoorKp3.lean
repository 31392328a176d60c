/- Undoing a patch, and joining two, plain. No condition but that no digest is empty. -/
import Derived.Test.YtmmdldicafbjdaaGreatDoorLcs
namespace Go.Proofs.YtmmdldicafbjdaaGreatDoor
open Tr
namespace Pc

/-- The pairs that undo places. -/
def invK : List Pl → Nat → List (Nat × Nat)
  | [], _ => []
  | x :: t, i => if 0 ≤ x.old then (i, x.old.toNat) :: invK t (i + 1) else invK t (i + 1)
/-- The pairs that lead through two lists of places. -/
def thenK (first : List Pl) : List Pl → Nat → List (Nat × Nat)
  | [], _ => []
  | x :: t, i => if 0 ≤ x.old ∧ 0 ≤ (first.getD x.old.toNat default).old then ((first.getD x.old.toNat default).old.toNat, i) :: thenK first t (i + 1) else thenK first t (i + 1)
def invert (p : Pa) (data : List UInt8) : Pa × Int :=
  if (apply p data).2 ≠ 0 then (⟨[], []⟩, (apply p data).2)
  else keeping (if p.base = [] then [] else dig (apply p data).1) (Tre.lines (apply p data).1).1 (Tre.lines data).1 (invK (placesOf p) 0)
def thenP (p q : Pa) (data : List UInt8) : Pa × Int :=
  if (apply p data).2 ≠ 0 then (⟨[], []⟩, (apply p data).2)
  else if (apply q (apply p data).1).2 ≠ 0 then (⟨[], []⟩, (apply q (apply p data).1).2)
  else keeping p.base (Tre.lines data).1 (Tre.lines (apply q (apply p data).1).1).1 (thenK (placesOf p) (placesOf q) 0)
def make (f t : List UInt8) : Pa × Int :=
  if (Tre.lines f).2 ≠ 0 then (⟨[], []⟩, (Tre.lines f).2)
  else if (Tre.lines t).2 ≠ 0 then (⟨[], []⟩, (Tre.lines t).2)
  else keeping [] (Tre.lines f).1 (Tre.lines t).1 (common (Tre.lines f).1 (Tre.lines t).1 0 0)
theorem invK_app (l1 l2 : List Pl) (n : Nat) : invK (l1 ++ l2) n = invK l1 n ++ invK l2 (n + l1.length) := by
  induction l1 generalizing n with
  | nil => rfl
  | cons x t ih =>
    rw [List.cons_append, invK, invK, ih, List.length_cons, show n + 1 + t.length = n + (t.length + 1) by omega]
    split <;> simp
theorem thenK_app (f l1 l2 : List Pl) (n : Nat) : thenK f (l1 ++ l2) n = thenK f l1 n ++ thenK f l2 (n + l1.length) := by
  induction l1 generalizing n with
  | nil => rfl
  | cons x t ih =>
    rw [List.cons_append, thenK, thenK, ih, List.length_cons, show n + 1 + t.length = n + (t.length + 1) by omega]
    split <;> simp
theorem invK_keeps (o n m : Nat) : invK (keeps o m) n = (run o n m).map sw := by
  induction m generalizing o n with
  | zero => rfl
  | succ m ih =>
    rw [keeps, invK, if_pos (by show (0 : Int) ≤ (o : Int); omega), ih, run, List.map_cons]
    rfl
theorem invK_adds (l n m : Nat) : invK (adds l m) n = [] := by
  induction m generalizing l n with
  | zero => rfl
  | succ m ih => rw [adds, invK, if_neg (by show ¬ (0 : Int) ≤ -1; decide), ih]
/-- What joining takes out of a pair. -/
def thr (f : List Pl) (p : Nat × Nat) : Option (Nat × Nat) := if 0 ≤ (f.getD p.1 default).old then some ((f.getD p.1 default).old.toNat, p.2) else none
theorem thenK_keeps (f : List Pl) (o n m : Nat) : thenK f (keeps o m) n = (run o n m).filterMap (thr f) := by
  induction m generalizing o n with
  | zero => rfl
  | succ m ih =>
    rw [keeps, thenK, ih, run, List.filterMap_cons]
    simp only [Int.toNat_natCast, thr]
    by_cases h : 0 ≤ (f.getD o default).old
    · rw [if_pos ⟨by omega, h⟩, if_pos h]
    · rw [if_neg (fun e => h e.2), if_neg h]
theorem thenK_adds (f : List Pl) (l n m : Nat) : thenK f (adds l m) n = [] := by
  induction m generalizing l n with
  | zero => rfl
  | succ m ih => rw [adds, thenK, if_neg (by rintro ⟨h, _⟩; exact absurd h (by show ¬ (0 : Int) ≤ -1; decide)), ih]
theorem inv_places : ∀ (hs : List Hk) (o m n : Nat), (∀ h ∈ hs, isHunk h = true) → invK (places hs o m) n = (prs hs o n).map sw
  | [], _, _, _, _ => rfl
  | h :: t, o, m, n, hh => by
    have ih := fun o m n => inv_places t o m n fun x hx => hh x (by simp [hx])
    obtain ⟨_, hk, _⟩ := isHunk_num (hh h (by simp))
    rw [places, prs]
    rcases hk with e | e | e
    · rw [if_pos e, if_pos e, invK_app, invK_keeps, keeps_len, ih, List.map_append]
    · have e1 : ¬ h.kind = 1 := by omega
      rw [if_neg e1, if_neg e1, if_pos e, if_pos e, ih]
    · have e1 : ¬ h.kind = 1 := by omega
      have e2 : ¬ h.kind = 2 := by omega
      rw [if_neg e1, if_neg e1, if_neg e2, if_neg e2, if_pos e, invK_app, invK_adds, adds_len, ih, List.nil_append]
theorem then_places (f : List Pl) : ∀ (hs : List Hk) (o m n : Nat), (∀ h ∈ hs, isHunk h = true) → thenK f (places hs o m) n = (prs hs o n).filterMap (thr f)
  | [], _, _, _, _ => rfl
  | h :: t, o, m, n, hh => by
    have ih := fun o m n => then_places f t o m n fun x hx => hh x (by simp [hx])
    obtain ⟨_, hk, _⟩ := isHunk_num (hh h (by simp))
    rw [places, prs]
    rcases hk with e | e | e
    · rw [if_pos e, if_pos e, thenK_app, thenK_keeps, keeps_len, ih, List.filterMap_append]
    · have e1 : ¬ h.kind = 1 := by omega
      rw [if_neg e1, if_neg e1, if_pos e, if_pos e, ih]
    · have e1 : ¬ h.kind = 1 := by omega
      have e2 : ¬ h.kind = 2 := by omega
      rw [if_neg e1, if_neg e1, if_neg e2, if_neg e2, if_pos e, thenK_app, thenK_adds, adds_len, ih, List.nil_append]
/-- The lines of a text. -/
theorem lines_ok {s : List UInt8} {l : List Ln} (h : Tre.lines s = (l, 0)) : l ≠ [] ∧ 1 ≤ l.length ∧ l.length ≤ 1024 ∧ Tre.joined l = s ∧ Tre.join l = (s, 0) ∧ l = Tre.split 10 s := by
  unfold Tre.lines at h
  split at h
  · cases (Prod.mk.inj h).2
  · rename_i hn
    obtain ⟨rfl, _⟩ := Prod.mk.inj h
    have h0 := Tre.split_ne 10 s
    have hj := Tre.joined_split s
    have hp : ¬ (Tre.split 10 s = [] ∨ ((Tre.split 10 s).any fun x => x.contains 10) = true) := by
      rintro (e | e)
      · exact h0 e
      · obtain ⟨x, hx, hc⟩ := List.any_eq_true.1 e
        have := pure_iff.2 (Tre.split_pure 10 s x hx)
        rw [this] at hc; cases hc
    refine ⟨h0, ?_, by omega, hj, ?_, rfl⟩
    · exact List.length_pos_iff.2 h0
    · unfold Tre.join
      rw [if_neg hp, hj, if_neg (by omega)]
theorem apply_ok {p : Pa} {data : List UInt8} {a : List Ln} (hv : valid p = true) (hl : Tre.lines data = (a, 0)) (hn : cnt 1 p.hs + cnt 2 p.hs = a.length) (hb : p.base = [] ∨ p.base = dig data) : apply p data = Tre.join (change p.hs a) := by
  unfold apply
  rw [if_neg (by rw [hv]; simp), hl, if_neg (by simp), if_neg]
  rintro (e | ⟨e1, e2⟩)
  · exact e hn
  · rcases hb with h | h
    · exact e1 h
    · exact e2 h
theorem apply_base {p : Pa} {data s : List UInt8} {a : List Ln} (h : apply p data = (s, 0)) (hl : Tre.lines data = (a, 0)) : cnt 1 p.hs + cnt 2 p.hs = a.length ∧ (p.base = [] ∨ p.base = dig data) := by
  unfold apply at h
  split at h
  · cases (Prod.mk.inj h).2
  · rw [hl] at h
    rw [if_neg (by simp)] at h
    split at h
    · cases (Prod.mk.inj h).2
    · rename_i hn
      exact ⟨Classical.byContradiction fun e => hn (.inl e), Classical.byContradiction fun e => hn (.inr ⟨fun e1 => e (.inl e1), fun e2 => e (.inr e2)⟩)⟩
theorem keeping_ok {base : List UInt8} {a b : List Ln} {K : List (Nat × Nat)} {r : Pa} (h : keeping base a b K = (r, 0)) : r = ⟨base, keepHs [] a b 0 0 K⟩ ∧ valid r = true := by
  unfold keeping at h
  split at h
  · rename_i hv
    obtain ⟨rfl, _⟩ := Prod.mk.inj h
    exact ⟨rfl, hv⟩
  · cases (Prod.mk.inj h).2
theorem keeping_err {base : List UInt8} {a b : List Ln} {K : List (Nat × Nat)} (h : (keeping base a b K).2 ≠ 0) : (keeping base a b K).1 = ⟨[], []⟩ := by
  unfold keeping at h ⊢
  split at h
  · exact absurd rfl h
  · rename_i hv
    rw [if_neg hv]
/-- What a patch that was applied does, in one. -/
structure Led (p : Pa) (data s : List UInt8) (a b : List Ln) : Prop where
  old : Tre.lines data = (a, 0)
  now : Tre.lines s = (b, 0)
  chg : b = change p.hs a
  valid : Pc.valid p = true
  base : p.base = [] ∨ p.base = dig data
  app : apply p data = (s, 0)
  all : ∀ h ∈ p.hs, isHunk h = true
  st : St a b p.hs a.length b.length (prs p.hs 0 0)
  mat : Mat a b 0 0 (prs p.hs 0 0)
  says : Says a (printL p) 0 (placesOf p) b
  canon : keepHs [] a b 0 0 (prs p.hs 0 0) = p.hs
theorem led_of {p : Pa} {data s : List UInt8} (h : apply p data = (s, 0)) : ∃ a b, Led p data s a b := by
  rcases apply_cases p data with ⟨h1, _⟩ | ⟨_, a, D⟩
  · exact absurd (by rw [h]) h1
  · rw [h] at D
    obtain ⟨hn, hb⟩ := apply_base h D.old
    obtain ⟨o1, o2, o3, o4, o5, o6⟩ := lines_ok D.old
    obtain ⟨n1, n2, n3, n4, n5, n6⟩ := lines_ok D.now
    have hall := (shape_len D.shape).2.2
    obtain ⟨e1, e2⟩ := eats_cnt p.hs hall
    have hord : inOrder 0 p.hs = true := by
      have := D.shape
      unfold shape at this
      simp only [Bool.and_eq_true] at this
      exact this.1.1
    have hm : Mat a (change p.hs a) 0 0 (prs p.hs 0 0) := prs_mat a (change p.hs a) p.hs 0 0 hall (by omega) (Nat.zero_le _) (by simp)
    have hc := Pc.canon a (change p.hs a) p.hs [] 0 0 0 0 (Nat.le_refl _) (Nat.le_refl _) (by simp) (by simpa using hord) (by simpa using hn) (Nat.zero_le _) (by simp)
    have hc' : keepHs [] a (change p.hs a) 0 0 (prs p.hs 0 0) = p.hs := by
      rw [hc]; simp [Pc.pend]
    have hst := keep_ok o3 n3 hm
    rw [hc'] at hst
    exact ⟨a, change p.hs a, D.old, D.now, rfl, D.valid, hb, h, hall, hst, hm, D.says, hc'⟩
/-- The cost of a patch is what it does not keep. -/
theorem Led.cost {p : Pa} {data s : List UInt8} {a b : List Ln} (h : Led p data s a b) : Pc.cost p = ((a.length : Int) + b.length - 2 * (prs p.hs 0 0).length, 0) := by
  have h1 := h.st.src; have h2 := h.st.dst; have h3 := h.st.kept
  unfold Pc.cost
  rw [if_pos h.valid]
  congr 1
  omega
theorem invert_eq {p : Pa} {data s : List UInt8} {a b : List Ln} (h : Led p data s a b) : invert p data = keeping (if p.base = [] then [] else dig s) b a ((prs p.hs 0 0).map sw) := by
  unfold invert
  rw [h.app, if_neg (by simp), h.now, h.old]
  congr 1
  unfold placesOf
  exact inv_places p.hs 0 _ 0 h.all
/-- Applying a patch and then its inverse leads back. -/
theorem back_ok (hdig : ∀ s, dig s ≠ []) {p q : Pa} {data s : List UInt8} {a b : List Ln} (h : Led p data s a b) (hq : invert p data = (q, 0)) :
    apply q s = (data, 0) ∧ invert q s = (p, 0) ∧ Pc.cost q = Pc.cost p ∧ (p.base = [] ↔ q.base = []) := by
  rw [invert_eq h] at hq
  obtain ⟨rfl, hv⟩ := keeping_ok hq
  obtain ⟨o1, o2, o3, o4, o5, o6⟩ := lines_ok h.old
  obtain ⟨n1, n2, n3, n4, n5, n6⟩ := lines_ok h.now
  have hst := keep_ok n3 o3 (mat_swap h.mat)
  have happ : apply ⟨if p.base = [] then [] else dig s, keepHs [] b a 0 0 ((prs p.hs 0 0).map sw)⟩ s = (data, 0) := by
    rw [apply_ok hv h.now hst.src (by by_cases e : p.base = [] <;> simp [e])]
    show Tre.join (change (keepHs [] b a 0 0 ((prs p.hs 0 0).map sw)) b) = (data, 0)
    rw [hst.chg, List.take_length, o5]
  obtain ⟨a', b', h'⟩ := led_of happ
  obtain rfl : b = a' := by have := h.now.symm.trans h'.old; exact (Prod.mk.inj this).1
  obtain rfl : a = b' := by have := h.old.symm.trans h'.now; exact (Prod.mk.inj this).1
  refine ⟨happ, ?_, ?_, ?_⟩
  · rw [invert_eq h']
    have hb2 : (if (if p.base = [] then [] else dig s) = [] then [] else dig data) = p.base := by
      by_cases e : p.base = []
      · simp [e]
      · rw [if_neg e, if_neg (hdig s)]
        exact (h.base.resolve_left e).symm
    dsimp only
    rw [hb2, hst.prs, sw_sw]
    unfold keeping
    rw [h.canon, if_pos h.valid]
  · rw [h.cost, h'.cost, h'.st.prs.symm]
    dsimp only
    rw [hst.prs, List.length_map]
    congr 1
    omega
  · by_cases e : p.base = []
    · simp [e]
    · simp [e, hdig s]
theorem invert_err {p : Pa} {data : List UInt8} : (invert p data).2 ≠ 0 → (invert p data).1 = ⟨[], []⟩ := by
  unfold invert
  split
  · exact fun _ => rfl
  · exact keeping_err
theorem then_err {p q : Pa} {data : List UInt8} : (thenP p q data).2 ≠ 0 → (thenP p q data).1 = ⟨[], []⟩ := by
  unfold thenP
  split
  · exact fun _ => rfl
  · split
    · exact fun _ => rfl
    · exact keeping_err
theorem then_eq {p q : Pa} {data m s : List UInt8} {a b c : List Ln} (h : Led p data m a b) (k : Led q m s b c) : thenP p q data = keeping p.base a c ((prs q.hs 0 0).filterMap (thr (placesOf p))) := by
  unfold thenP
  rw [h.app]
  dsimp only
  rw [if_neg (by simp), k.app]
  dsimp only
  rw [if_neg (by simp), k.now, h.old]
  congr 1
  unfold placesOf
  exact then_places _ q.hs 0 _ 0 k.all
theorem getD_at {α : Type} (l : List α) (d : α) (i : Nat) (h : i < l.length) : l.getD i d = l[i] := by
  rw [List.getD_eq_getElem?_getD, List.getElem?_eq_getElem h]; rfl
theorem then_mat {p q : Pa} {data m s : List UInt8} {a b c : List Ln} (h : Led p data m a b) (k : Led q m s b c) : Mat a c 0 0 ((prs q.hs 0 0).filterMap (thr (placesOf p))) := by
  have hlen := h.says.len
  have key : ∀ r ∈ prs q.hs 0 0, ∀ z, thr (placesOf p) r = some z → ∃ (hr : r.1 < (placesOf p).length) (o : Nat), (placesOf p)[r.1] = ⟨(o : Int), -1⟩ ∧ z = (o, r.2) ∧ a[o]? = c[r.2]? ∧ r.2 < c.length := by
    intro r hr z hz
    obtain ⟨_, _, h3, h4, h5⟩ := k.mat.at_ r hr
    have hl : r.1 < (placesOf p).length := by rw [hlen]; exact h3
    unfold thr at hz
    rw [getD_at _ _ _ hl] at hz
    rcases h.says.at_ r.1 hl h3 with ⟨o, e, ho⟩ | ⟨o, e, _⟩
    · rw [e, if_pos (by show (0 : Int) ≤ (o : Int); omega)] at hz
      refine ⟨hl, o, e, (Option.some.inj hz).symm, ?_, h4⟩
      rw [ho, ← h5, List.getElem?_eq_getElem h3]
    · rw [e, if_neg (by show ¬ (0 : Int) ≤ -1; decide)] at hz; cases hz
  refine ⟨?_, fun z hz => ?_⟩
  · rw [List.pairwise_filterMap]
    refine k.mat.rise.imp_of_mem fun {r1 r2} hr1 hr2 hlt z1 hz1 z2 hz2 => ?_
    obtain ⟨l1, o1, e1, rfl, _⟩ := key r1 hr1 z1 hz1
    obtain ⟨l2, o2, e2, rfl, _⟩ := key r2 hr2 z2 hz2
    have := List.pairwise_iff_getElem.1 h.says.rise r1.1 r2.1 l1 l2 hlt.1 (by rw [e1]) (by rw [e2])
    rw [e1, e2] at this
    have : (o1 : Int) < (o2 : Int) := this
    exact ⟨by show o1 < o2; omega, hlt.2⟩
  · obtain ⟨r, hr, hz'⟩ := List.mem_filterMap.1 hz
    obtain ⟨l, o, e, rfl, ho, hc⟩ := key r hr z hz'
    refine ⟨Nat.zero_le _, Nat.zero_le _, ?_, hc, ho⟩
    rw [List.getElem?_eq_getElem hc] at ho
    exact (List.getElem?_eq_some_iff.1 ho).1
theorem invK_len : ∀ (l : List Pl) (n : Nat), (invK l n).length = l.countP fun x => decide (0 ≤ x.old)
  | [], _ => rfl
  | x :: t, n => by
    rw [invK, List.countP_cons]
    by_cases h : 0 ≤ x.old
    · rw [if_pos h, List.length_cons, invK_len t]; simp [h]
    · rw [if_neg h, invK_len t]; simp [h]
theorem thr_len (f : List Pl) : ∀ K : List (Nat × Nat), (K.filterMap (thr f)).length = K.countP fun r => decide (0 ≤ (f.getD r.1 default).old)
  | [] => rfl
  | r :: K => by
    by_cases h : 0 ≤ (f.getD r.1 default).old
    · have e : thr f r = some ((f.getD r.1 default).old.toNat, r.2) := if_pos h
      rw [List.filterMap_cons, e, List.countP_cons, decide_eq_true h]
      simp only [List.length_cons, thr_len f K, if_true]
    · have e : thr f r = none := if_neg h
      rw [List.filterMap_cons, e, List.countP_cons, decide_eq_false h]
      simp only [thr_len f K, Bool.false_eq_true, if_false, Nat.add_zero]
theorem sub_range : ∀ (n lo : Nat) (l : List Nat), l.Pairwise (· < ·) → (∀ x ∈ l, lo ≤ x ∧ x < lo + n) → l.Sublist (List.range' lo n)
  | 0, lo, l, _, h => by
    cases l with
    | nil => simp
    | cons x t => have := h x (by simp); omega
  | n + 1, lo, [], _, _ => List.nil_sublist _
  | n + 1, lo, x :: t, hp, h => by
    rw [List.pairwise_cons] at hp
    rw [List.range'_succ]
    have hx := h x (by simp)
    by_cases e : x = lo
    · subst e
      exact List.Sublist.cons_cons _ (sub_range n (x + 1) t hp.2 fun y hy => ⟨hp.1 y hy, by have := h y (by simp [hy]); omega⟩)
    · exact List.Sublist.cons _ (sub_range n (lo + 1) (x :: t) (List.pairwise_cons.2 hp) fun y hy => by
        have h1 := h y hy
        rcases List.mem_cons.1 hy with rfl | hy
        · omega
        · have := hp.1 y hy; omega)
theorem countP_not {α : Type} (p : α → Bool) (l : List α) : l.countP p + l.countP (fun x => !p x) = l.length := by
  induction l with
  | nil => rfl
  | cons x t ih =>
    rw [List.countP_cons, List.countP_cons, List.length_cons]
    cases p x <;> simp <;> omega
theorem range_map (f : List Pl) : (List.range' 0 f.length).map (fun i => f.getD i default) = f := by
  apply List.ext_getElem
  · simp
  · intro i h1 h2
    rw [List.getElem_map, List.getElem_range', getD_at _ _ _ (by omega)]
    congr 1; omega
/-- Enough pairs lead through. -/
theorem then_len {p q : Pa} {data m s : List UInt8} {a b c : List Ln} (h : Led p data m a b) (k : Led q m s b c) : (prs p.hs 0 0).length + (prs q.hs 0 0).length ≤ ((prs q.hs 0 0).filterMap (thr (placesOf p))).length + b.length := by
  have hlen := h.says.len
  have e1 : (prs p.hs 0 0).length = (placesOf p).countP fun x => decide (0 ≤ x.old) := by
    rw [← invK_len (placesOf p) 0]
    unfold placesOf
    rw [inv_places p.hs 0 _ 0 h.all, List.length_map]
  have e2 := countP_not (fun x : Pl => decide (0 ≤ x.old)) (placesOf p)
  have e3 := countP_not (fun r : Nat × Nat => decide (0 ≤ ((placesOf p).getD r.1 default).old)) (prs q.hs 0 0)
  rw [thr_len]
  have hsub : ((prs q.hs 0 0).map Prod.fst).Sublist (List.range' 0 b.length) := by
    refine sub_range _ 0 _ ?_ fun x hx => ?_
    · rw [List.pairwise_map]
      exact k.mat.rise.imp fun h => h.1
    · obtain ⟨r, hr, rfl⟩ := List.mem_map.1 hx
      obtain ⟨_, _, h3, _⟩ := k.mat.at_ r hr
      omega
  have e4 : (prs q.hs 0 0).countP (fun r => !decide (0 ≤ ((placesOf p).getD r.1 default).old)) ≤ (placesOf p).countP fun x => !decide (0 ≤ x.old) := by
    have h1 := hsub.countP_le (p := fun i => !decide (0 ≤ ((placesOf p).getD i default).old))
    rw [List.countP_map] at h1
    have h2 : (List.range' 0 b.length).countP (fun i => !decide (0 ≤ ((placesOf p).getD i default).old)) = (placesOf p).countP fun x => !decide (0 ≤ x.old) := by
      conv => rhs; rw [← range_map (placesOf p)]
      rw [List.countP_map, hlen]
      rfl
    rw [h2] at h1
    exact h1
  omega
/-- Applying both joined is applying one and then the other one. -/
theorem join_both {p q r : Pa} {data m s : List UInt8} (h1 : apply p data = (m, 0)) (h2 : apply q m = (s, 0)) (h3 : thenP p q data = (r, 0)) :
    apply r data = (s, 0) ∧ r.base = p.base ∧ (Pc.cost r).2 = 0 ∧ (Pc.cost p).2 = 0 ∧ (Pc.cost q).2 = 0 ∧ (Pc.cost r).1 ≤ (Pc.cost p).1 + (Pc.cost q).1 := by
  obtain ⟨a, b, h⟩ := led_of h1
  obtain ⟨b', c, k⟩ := led_of h2
  obtain rfl : b = b' := by have := h.now.symm.trans k.old; exact (Prod.mk.inj this).1
  rw [then_eq h k] at h3
  obtain ⟨rfl, hv⟩ := keeping_ok h3
  obtain ⟨o1, o2, o3, o4, o5, o6⟩ := lines_ok h.old
  obtain ⟨n1, n2, n3, n4, n5, n6⟩ := lines_ok k.now
  have hst := keep_ok o3 n3 (then_mat h k)
  have happ : apply ⟨p.base, keepHs [] a c 0 0 ((prs q.hs 0 0).filterMap (thr (placesOf p)))⟩ data = (s, 0) := by
    rw [apply_ok hv h.old hst.src h.base]
    show Tre.join (change (keepHs [] a c 0 0 ((prs q.hs 0 0).filterMap (thr (placesOf p)))) a) = (s, 0)
    rw [hst.chg, List.take_length, n5]
  obtain ⟨a', c', l⟩ := led_of happ
  obtain rfl : a = a' := by have := h.old.symm.trans l.old; exact (Prod.mk.inj this).1
  obtain rfl : c = c' := by have := k.now.symm.trans l.now; exact (Prod.mk.inj this).1
  refine ⟨happ, rfl, by rw [l.cost], by rw [h.cost], by rw [k.cost], ?_⟩
  rw [l.cost, h.cost, k.cost, l.st.prs.symm]
  dsimp only
  rw [hst.prs]
  have := then_len h k
  omega
theorem keeps_prs (n : Nat) : prs [⟨1, (n : Int), []⟩] 0 0 = run 0 0 n := by simp [prs]
/-- The patch that keeps so many lines. -/
def keepAll (n : Nat) : Pa := ⟨[], [⟨1, (n : Int), []⟩]⟩
/-- Joined with a patch that keeps everything, a patch stays the same. -/
theorem join_keep {p : Pa} {data m : List UInt8} {a b : List Ln} (h : Led p data m a b) (hv : valid (keepAll b.length) = true) : thenP p (keepAll b.length) data = (p, 0) := by
  have happ : apply (keepAll b.length) m = (m, 0) := by
    obtain ⟨n1, n2, n3, n4, n5, n6⟩ := lines_ok h.now
    rw [apply_ok hv h.now (by simp [keepAll, cnt]) (.inl rfl)]
    simp [keepAll, change, n5]
  obtain ⟨b', c, k⟩ := led_of happ
  obtain rfl : b = b' := by have := h.now.symm.trans k.old; exact (Prod.mk.inj this).1
  obtain rfl : b = c := by have := h.now.symm.trans k.now; exact (Prod.mk.inj this).1
  rw [then_eq h k]
  have hpr : prs (keepAll b.length).hs 0 0 = run 0 0 b.length := keeps_prs _
  rw [hpr]
  have hlen := h.says.len
  have hK : (run 0 0 b.length).filterMap (thr (placesOf p)) = prs p.hs 0 0 := by
    have e1 : (invK (placesOf p) 0).map sw = prs p.hs 0 0 := by
      unfold placesOf
      rw [inv_places p.hs 0 _ 0 h.all, sw_sw]
    rw [← e1, ← hlen]
    have gen : ∀ (l pre : List Pl), placesOf p = pre ++ l → (run pre.length pre.length l.length).filterMap (thr (placesOf p)) = (invK l pre.length).map sw := by
      intro l
      induction l with
      | nil => intro pre _; rfl
      | cons x t ih =>
        intro pre hp
        have := ih (pre ++ [x]) (by rw [hp]; simp)
        rw [List.length_append, List.length_singleton] at this
        rw [List.length_cons, run, List.filterMap_cons, invK]
        have hx : (placesOf p).getD pre.length default = x := by rw [hp]; simp
        simp only [thr, hx]
        by_cases e : 0 ≤ x.old
        · rw [if_pos e, if_pos e]
          simp only [List.map_cons]
          rw [this]; rfl
        · rw [if_neg e, if_neg e]
          exact this
    have := gen (placesOf p) [] rfl
    exact this
  rw [hK]
  unfold keeping
  rw [h.canon, if_pos h.valid]
end Pc
end Go.Proofs.YtmmdldicafbjdaaGreatDoor
