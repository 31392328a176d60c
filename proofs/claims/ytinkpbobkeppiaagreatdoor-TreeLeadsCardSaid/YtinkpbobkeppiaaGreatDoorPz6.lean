/- The names of a directory, its parts, and the identifier of a tree, as plain functions. No condition.
The changes between two trees, plain: path by path, and by merging. No condition. -/
import Derived.Test.YtinkpbobkeppiaaGreatDoorPz5
import Derived.Test.YtinkpbobkeppiaaGreatDoorPz1
import Derived.Test.YtinkpbobkeppiaaGreatDoorPz4
section
namespace Go.Proofs.YtinkpbobkeppiaaGreatDoor
namespace Tre

/-- What stands in front of the first slash, and behind it. -/
def nameOf (p : List UInt8) : List UInt8 := p.takeWhile (fun c => !(c == 47))
def restOf (p : List UInt8) : List UInt8 := p.drop ((nameOf p).length + 1)
def slash (p : List UInt8) : Bool := p.contains 47
theorem name_cons (c : UInt8) (p : List UInt8) : nameOf (c :: p) = if c = 47 then [] else c :: nameOf p := by
  unfold nameOf; rw [List.takeWhile_cons]
  by_cases h : c = 47 <;> simp [h]
theorem name_pure : ∀ (p : List UInt8), ∀ x ∈ nameOf p, x ≠ 47
  | [], x, hx => by simp [nameOf] at hx
  | c :: p, x, hx => by
    rw [name_cons] at hx
    split at hx
    · simp at hx
    · rename_i h
      rcases List.mem_cons.1 hx with rfl | hx
      · exact h
      · exact name_pure p x hx
theorem name_cut : ∀ p : List UInt8, slash p = true → p = nameOf p ++ 47 :: restOf p
  | [], h => by cases h
  | c :: p, h => by
    by_cases hc : c = 47
    · subst hc; simp [nameOf, restOf]
    · have hs : slash p = true := by
        unfold slash at h ⊢
        rw [List.contains_cons] at h
        have : ((47 : UInt8) == c) = false := by rw [beq_eq_false_iff_ne]; exact fun e => hc e.symm
        rwa [this, Bool.false_or] at h
      have ih := name_cut p hs
      have hn : nameOf (c :: p) = c :: nameOf p := by unfold nameOf; rw [List.takeWhile_cons, if_pos (by simp [hc])]
      have hr : restOf (c :: p) = restOf p := by unfold restOf; rw [hn]; rfl
      rw [hn, hr, List.cons_append, ← ih]
theorem name_self : ∀ p : List UInt8, (∀ x ∈ p, x ≠ 47) → nameOf p = p
  | [], _ => rfl
  | c :: p, h => by rw [name_cons, if_neg (h c (by simp)), name_self p fun x hx => h x (by simp [hx])]
theorem name_all : ∀ p : List UInt8, slash p = false → nameOf p = p ∧ restOf p = [] := fun p h => by
  have hn : nameOf p = p := name_self p fun x hx e => by
    have : slash p = true := by unfold slash; rw [List.contains_iff_mem]; exact e ▸ hx
    rw [h] at this; cases this
  exact ⟨hn, by unfold restOf; rw [hn, List.drop_of_length_le (by omega)]⟩
theorem split_name (p : List UInt8) : split 47 p = nameOf p :: (if slash p = true then split 47 (restOf p) else []) := by
  cases h : slash p with
  | true =>
    conv => lhs; rw [name_cut p h]
    rw [split_cut 47 _ _ (name_pure p), if_pos rfl]
  | false =>
    have := name_all p h
    rw [this.1, if_neg (by decide), split_end 47 p fun x hx => by rw [← this.1] at hx; exact name_pure p x hx]
def dep (p : List UInt8) : Nat := (split 47 p).length
theorem dep_pos (p : List UInt8) : 1 ≤ dep p := List.length_pos_iff.2 (split_ne 47 p)
theorem dep_rest (p : List UInt8) (h : slash p = true) : dep p = dep (restOf p) + 1 := by
  unfold dep; rw [split_name p, if_pos h]; rfl
theorem ok_dep {p : List UInt8} (h : pathOk p = true) : dep p ≤ 8 := by
  unfold pathOk at h
  simp only [Bool.and_eq_true, decide_eq_true_eq] at h
  exact h.1.2
theorem ok_len {p : List UInt8} (h : pathOk p = true) : p.length ≤ 128 := by
  unfold pathOk at h
  simp only [Bool.and_eq_true, decide_eq_true_eq] at h
  exact h.1.1
theorem ok_name {p : List UInt8} (h : pathOk p = true) : part (nameOf p) = true := by
  unfold pathOk at h
  rw [split_name p] at h
  simp only [Bool.and_eq_true, List.all_cons] at h
  exact h.2.1
theorem part_ne {p : List UInt8} (h : part p = true) : p ≠ [] := fun e => by subst e; cases h
theorem ok_rest {p : List UInt8} (h : pathOk p = true) (hs : slash p = true) : pathOk (restOf p) = true := by
  have hl : (restOf p).length ≤ p.length := by unfold restOf; rw [List.length_drop]; omega
  have hd := dep_rest p hs
  unfold dep at hd
  unfold pathOk at h ⊢
  simp only [Bool.and_eq_true, decide_eq_true_eq] at h ⊢
  refine ⟨⟨by omega, by omega⟩, ?_⟩
  have h3 := h.2
  rw [split_name p, if_pos hs] at h3
  simp only [List.all_cons, Bool.and_eq_true] at h3
  exact h3.2
/-- A name part is a path. -/
theorem part_ok {n : List UInt8} (h : part n = true) (hs : ∀ x ∈ n, x ≠ 47) : pathOk n = true := by
  have hl : n.length ≤ 32 := by
    unfold part at h
    simp only [Bool.and_eq_true, decide_eq_true_eq] at h
    exact h.1.1.1.2
  unfold pathOk
  rw [split_end 47 n hs]
  simp [h]
  omega
theorem bl_app (c a b : List UInt8) : Op.bytesLess (c ++ a) (c ++ b) = Op.bytesLess a b := by
  induction c with
  | nil => rfl
  | cons x c ih => simp [Op.bytesLess, ih]
theorem below_app (c a b : List UInt8) : below (c ++ a) (c ++ b) = below a b := by
  unfold below
  rw [List.length_append, List.length_append, List.take_append, List.take_of_length_le (show c.length ≤ c.length + b.length by omega), show c.length + b.length - c.length = b.length by omega, List.getElem?_append_right (by omega), show c.length + b.length - c.length = b.length by omega]
  congr 1
  congr 1
  · rw [Bool.eq_iff_iff]; simp
  · rw [Bool.eq_iff_iff]; simp
theorem below_name {p n : List UInt8} (hn : ∀ x ∈ n, x ≠ 47) : below p n = (slash p && (nameOf p == n)) := by
  rw [Bool.eq_iff_iff]
  constructor
  · intro h
    unfold below at h
    simp only [Bool.and_eq_true, decide_eq_true_eq, beq_iff_eq] at h
    obtain ⟨⟨h1, h2⟩, h3⟩ := h
    have hs : slash p = true := by
      unfold slash; rw [List.contains_iff_mem]
      exact List.mem_of_getElem? h3
    have e : p = n ++ 47 :: p.drop (n.length + 1) := by
      conv => lhs; rw [← List.take_append_drop n.length p]
      rw [h2, List.drop_eq_getElem_cons h1]
      rw [List.getElem?_eq_getElem h1] at h3
      rw [Option.some.inj h3]
    have e2 : nameOf p = n := by
      rw [e]
      unfold nameOf
      rw [List.takeWhile_append_of_pos (fun x hx => by simp [hn x hx])]
      simp
    simp [hs, e2]
  · intro h
    simp only [Bool.and_eq_true, beq_iff_eq] at h
    obtain ⟨hs, e⟩ := h
    have := name_cut p hs
    rw [e] at this
    have hl := congrArg List.length this
    rw [List.length_append, List.length_cons] at hl
    unfold below
    simp only [Bool.and_eq_true, decide_eq_true_eq, beq_iff_eq]
    refine ⟨⟨by omega, ?_⟩, ?_⟩
    · rw [this]; simp
    · rw [this]; simp

/-- The files of an entry, with the rests of their paths. -/
def cutF (f : Fl) : Fl := ⟨restOf f.path, f.data⟩
def group (ts : List Fl) (n : List UInt8) : List Fl := (ts.filter fun f => nameOf f.path == n).map cutF
theorem group_nil (n : List UInt8) : group [] n = [] := rfl
theorem group_snoc (ts : List Fl) (f : Fl) (n : List UInt8) : group (ts ++ [f]) n = if (nameOf f.path == n) = true then group ts n ++ [cutF f] else group ts n := by
  unfold group
  rw [List.filter_append, List.map_append, List.filter_cons]
  split <;> simp
theorem group_len (ts : List Fl) (n : List UInt8) : (group ts n).length ≤ ts.length := by
  unfold group; rw [List.length_map]; exact List.length_filter_le _ _
theorem group_ne {ts : List Fl} {n : List UInt8} : group ts n ≠ [] ↔ n ∈ ts.map fun f => nameOf f.path := by
  unfold group
  rw [List.mem_map]
  constructor
  · intro h
    obtain ⟨g, hg⟩ := List.exists_mem_of_ne_nil _ h
    obtain ⟨f, hf, _⟩ := List.mem_map.1 hg
    have := List.mem_filter.1 hf
    exact ⟨f, this.1, by simpa using this.2⟩
  · rintro ⟨f, hf, e⟩ h
    have : cutF f ∈ (ts.filter fun f => nameOf f.path == n).map cutF := List.mem_map.2 ⟨f, List.mem_filter.2 ⟨hf, by simp [e]⟩, rfl⟩
    rw [h] at this; simp at this
/-- What is below a name in a tree whose files don't have it. -/
theorem group_slash {ts : List Fl} {n : List UInt8} (hn : ∀ f ∈ ts, f.path ≠ n) : ∀ f ∈ ts, nameOf f.path = n → slash f.path = true := fun f hf e => by
  cases h : slash f.path with
  | true => rfl
  | false => exact absurd ((name_all _ h).1.symm.trans e) (hn f hf)
theorem Good.group {ts : List Fl} (g : Good ts) {n : List UInt8} (hn : ∀ f ∈ ts, f.path ≠ n) : Good (group ts n) := by
  have hs := group_slash hn
  have gf := g.sub (List.filter_sublist (p := fun f => nameOf f.path == n))
  have hm : ∀ f ∈ ts.filter (fun f => nameOf f.path == n), nameOf f.path = n ∧ slash f.path = true := fun f hf => by
    have := List.mem_filter.1 hf
    have e : nameOf f.path = n := by simpa using this.2
    exact ⟨e, hs f this.1 e⟩
  have hp : ∀ f ∈ ts.filter (fun f => nameOf f.path == n), f.path = (n ++ [47]) ++ restOf f.path := fun f hf => by
    have := hm f hf
    conv => lhs; rw [name_cut _ this.2, this.1]
    simp
  unfold Tre.group
  refine ⟨by rw [List.length_map]; exact gf.len, fun f hf => ?_, fun f hf => ?_, ?_, ?_⟩
  · obtain ⟨x, hx, rfl⟩ := List.mem_map.1 hf
    exact ok_rest (gf.ok x hx) (hm x hx).2
  · obtain ⟨x, hx, rfl⟩ := List.mem_map.1 hf
    exact gf.size x hx
  · rw [List.pairwise_map]
    refine gf.sorted.imp_of_mem fun {a b} ha hb h => ?_
    rw [hp a ha, hp b hb, bl_app] at h
    exact h
  · rw [List.pairwise_map]
    refine gf.apart.imp_of_mem fun {a b} ha hb h => ?_
    rw [hp a ha, hp b hb, below_app] at h
    exact h
theorem group_dep {ts : List Fl} {n : List UInt8} {k : Nat} (hn : ∀ f ∈ ts, f.path ≠ n) (hk : ∀ f ∈ ts, dep f.path ≤ k + 1) : ∀ f ∈ group ts n, dep f.path ≤ k := fun f hf => by
  obtain ⟨x, hx, rfl⟩ := List.mem_map.1 hf
  have := List.mem_filter.1 hx
  have hs := group_slash hn x this.1 (by simpa using this.2)
  have := hk x this.1
  rw [dep_rest _ hs] at this
  show dep (restOf x.path) ≤ k
  omega
/-- A file with the name stands alone, and first. -/
theorem Good.alone {ts : List Fl} (g : Good ts) {f : Fl} (hf : f ∈ ts) (hs : ∀ x ∈ f.path, x ≠ 47) : Tre.group ts f.path = [⟨[], f.data⟩] := by
  have hno : slash f.path = false := by
    rw [Bool.eq_false_iff]; intro h
    unfold slash at h; rw [List.contains_iff_mem] at h
    exact hs 47 h rfl
  have hname := name_all _ hno
  have key : ∀ x ∈ ts, nameOf x.path = f.path → x = f := fun x hx e => by
    cases hx2 : slash x.path with
    | false => exact g.one hx hf (by rw [← e]; exact (name_all _ hx2).1.symm)
    | true =>
      have := g.below hx hf
      rw [below_name hs, hx2, e] at this
      simp at this
  have hfil : ∀ us : List Fl, us.Sublist ts → f ∈ us → us.filter (fun x => nameOf x.path == f.path) = [f] := by
    intro us
    induction us with
    | nil => intro _ h; simp at h
    | cons y u ih =>
      intro hsub hm
      have gs := List.pairwise_cons.1 (g.sorted.sublist hsub)
      by_cases hy : nameOf y.path = f.path
      · have : y = f := key y (hsub.subset (by simp)) hy
        subst this
        rw [List.filter_cons, if_pos (by simp [hy])]
        congr 1
        rw [List.filter_eq_nil_iff]
        intro z hz e
        have : z = y := key z (hsub.subset (by simp [hz])) (by simpa using e)
        exact bl_ne (gs.1 z hz) (by rw [this])
      · rw [List.filter_cons, if_neg (by simp [hy])]
        refine ih ((List.sublist_cons_self y u).trans hsub) ?_
        rcases List.mem_cons.1 hm with e | hm
        · exact absurd (by rw [← e]; exact hname.1) hy
        · exact hm
  unfold Tre.group
  rw [hfil ts (List.Sublist.refl _) hf]
  simp [cutF, hname.2]
theorem under_eq {ts : List Fl} {n : List UInt8} (hs : ∀ x ∈ n, x ≠ 47) (hn : ∀ f ∈ ts, f.path ≠ n) : Tre.group ts n = (ts.filter fun f => Tre.below f.path n).map fun f => ⟨f.path.drop (n.length + 1), f.data⟩ := by
  have e : ts.filter (fun f => Tre.below f.path n) = ts.filter (fun f => nameOf f.path == n) := by
    refine List.filter_congr fun f hf => ?_
    rw [below_name hs]
    cases h : nameOf f.path == n with
    | false => simp
    | true => rw [group_slash hn f hf (by simpa using h)]; rfl
  unfold Tre.group
  rw [e]
  refine List.map_congr_left fun f hf => ?_
  have := (List.mem_filter.1 hf).2
  unfold cutF restOf
  rw [show nameOf f.path = n by simpa using this]

/-- The names, rising. -/
def insD (l : List (List UInt8)) (x : List UInt8) : List (List UInt8) := if l.contains x = true then l else l.filter (fun y => Op.bytesLess y x) ++ x :: l.filter (fun y => !Op.bytesLess y x)
def namesOf (ts : List Fl) : List (List UInt8) := (ts.map fun f => nameOf f.path).foldl insD []
abbrev Rising (l : List (List UInt8)) : Prop := l.Pairwise fun a b => Op.bytesLess a b = true
theorem insD_spec {l : List (List UInt8)} (h : Rising l) (x : List UInt8) : Rising (insD l x) ∧ ∀ y, y ∈ insD l x ↔ y ∈ l ∨ y = x := by
  unfold insD
  split
  · rename_i hc
    rw [List.contains_iff_mem] at hc
    exact ⟨h, fun y => ⟨.inl, fun hy => hy.elim id fun e => e ▸ hc⟩⟩
  · rename_i hc
    rw [List.contains_iff_mem] at hc
    refine ⟨?_, fun y => ?_⟩
    · refine List.pairwise_append.2 ⟨h.sublist List.filter_sublist, List.pairwise_cons.2 ⟨fun y hy => ?_, h.sublist List.filter_sublist⟩, fun a ha b hb => ?_⟩
      · have := List.mem_filter.1 hy
        rcases bl_total x y with h1 | h1 | h1
        · exact h1
        · exact absurd (h1 ▸ this.1) hc
        · rw [h1] at this; simp at this
      · have ha2 := (List.mem_filter.1 ha).2
        rcases List.mem_cons.1 hb with e | hb
        · rw [e]; exact ha2
        · have hb2 := List.mem_filter.1 hb
          rcases bl_total x b with h1 | h1 | h1
          · exact bl_trans _ _ _ ha2 h1
          · rw [← h1]; exact ha2
          · rw [h1] at hb2; simp at hb2
    · rw [List.mem_append, List.mem_cons, List.mem_filter, List.mem_filter]
      constructor
      · rintro (h | h | h)
        · exact .inl h.1
        · exact .inr h
        · exact .inl h.1
      · rintro (h | h)
        · cases hb : Op.bytesLess y x with
          | true => exact .inl ⟨h, rfl⟩
          | false => exact .inr (.inr ⟨h, rfl⟩)
        · exact .inr (.inl h)
theorem foldD_spec : ∀ (xs l : List (List UInt8)), Rising l → Rising (xs.foldl insD l) ∧ ∀ y, y ∈ xs.foldl insD l ↔ y ∈ l ∨ y ∈ xs
  | [], l, h => ⟨h, fun y => by simp⟩
  | x :: xs, l, h => by
    obtain ⟨h1, h2⟩ := insD_spec h x
    obtain ⟨h3, h4⟩ := foldD_spec xs (insD l x) h1
    refine ⟨h3, fun y => ?_⟩
    rw [List.foldl_cons, h4, h2, List.mem_cons, or_assoc]
theorem names_spec (ts : List Fl) : Rising (namesOf ts) ∧ ∀ y, y ∈ namesOf ts ↔ y ∈ ts.map fun f => nameOf f.path := by
  obtain ⟨h1, h2⟩ := foldD_spec (ts.map fun f => nameOf f.path) [] .nil
  exact ⟨h1, fun y => by unfold namesOf; rw [h2]; simp⟩
theorem names_eq {ts : List Fl} {l : List (List UInt8)} (h : Rising l) (hm : ∀ y, y ∈ l ↔ y ∈ ts.map fun f => nameOf f.path) : l = namesOf ts :=
  rising_eq h (names_spec ts).1 fun y => by rw [hm, (names_spec ts).2]
theorem names_snoc (ts : List Fl) (f : Fl) : namesOf (ts ++ [f]) = insD (namesOf ts) (nameOf f.path) := by
  unfold namesOf; rw [List.map_append, List.foldl_append]; rfl
theorem rising_len : ∀ {l m : List (List UInt8)}, Rising l → (∀ y, y ∈ l → y ∈ m) → l.length ≤ m.length
  | [], _, _, _ => by simp
  | x :: l, m, h, hs => by
    obtain ⟨h1, h2⟩ := List.pairwise_cons.1 h
    have hm := hs x (by simp)
    have := rising_len (m := m.erase x) h2 fun y hy => (List.mem_erase_of_ne (bl_ne (h1 y hy)).symm).2 (hs y (by simp [hy]))
    rw [List.length_erase_of_mem hm] at this
    have := List.length_pos_of_mem hm
    simp; omega
theorem names_len (ts : List Fl) : (namesOf ts).length ≤ ts.length := by
  have := rising_len (m := ts.map fun f => nameOf f.path) (names_spec ts).1 fun y hy => (names_spec ts).2 y |>.1 hy
  rwa [List.length_map] at this
/-- The place at which the reference puts a name in. -/
theorem insD_at {l : List (List UInt8)} (h : Rising l) (x : List UInt8) (at_ : Nat) (ha : at_ ≤ l.length) (hx : l.contains x = false) (hlo : ∀ i (hi : i < l.length), i < at_ → Op.bytesLess l[i] x = true ∨ l[i] = x) (hhi : ∀ (hi : at_ < l.length), ¬ (Op.bytesLess l[at_] x = true ∨ l[at_] = x)) :
    insD l x = l.take at_ ++ x :: l.drop at_ := by
  have hne : ∀ y ∈ l, y ≠ x := fun y hy e => by
    have : l.contains x = true := by rw [List.contains_iff_mem]; exact e ▸ hy
    rw [hx] at this; cases this
  have e1 : ∀ y ∈ l.take at_, Op.bytesLess y x = true := fun y hy => by
    obtain ⟨i, hi, rfl⟩ := List.mem_take_iff_getElem.1 hy
    exact (hlo i (by omega) (by omega)).resolve_right (hne _ (List.getElem_mem _))
  have e2 : ∀ y ∈ l.drop at_, Op.bytesLess y x = false := fun y hy => by
    by_cases hl : at_ < l.length
    · have hh := hhi hl
      rw [not_or] at hh
      rw [List.drop_eq_getElem_cons hl] at hy
      have hp : Rising (l.drop at_) := h.sublist (List.drop_sublist _ _)
      rw [List.drop_eq_getElem_cons hl] at hp
      rcases List.mem_cons.1 hy with e | hy
      · rw [e]; simpa using hh.1
      · have h1 := (List.pairwise_cons.1 hp).1 y hy
        rw [Bool.eq_false_iff]
        intro h2
        exact hh.1 (bl_trans _ _ _ h1 h2)
    · rw [List.drop_of_length_le (by omega)] at hy; simp at hy
  unfold insD
  rw [hx, if_neg (by decide)]
  have f1 : l.filter (fun y => Op.bytesLess y x) = l.take at_ := by
    conv => lhs; rw [← List.take_append_drop at_ l]
    rw [List.filter_append, List.filter_eq_self.2 e1, List.filter_eq_nil_iff.2 (fun y hy => by rw [e2 y hy]; decide), List.append_nil]
  have f2 : l.filter (fun y => !Op.bytesLess y x) = l.drop at_ := by
    conv => lhs; rw [← List.take_append_drop at_ l]
    rw [List.filter_append, List.filter_eq_nil_iff.2 (fun y hy => by rw [e1 y hy]; decide), List.filter_eq_self.2 (fun y hy => by rw [e2 y hy]; rfl), List.nil_append]
  rw [f1, f2]

/-- The bytes of texts; the identifier of a file; that of files with paths of so many parts. -/
def tx (l : List (List UInt8)) : List UInt8 := Cd.Cod.num l.length ++ l.flatMap Cd.Cod.txt
def fid (d : List UInt8) : List UInt8 := Dg.Spo.dig (102 :: d)
def pid : Nat → List Fl → List UInt8
  | 0, _ => []
  | k + 1, ts => Dg.Spo.dig (100 :: tx ((namesOf ts).flatMap fun n => [n, match group ts n with | [] => [] | f :: r => if f.path = [] then fid f.data else pid k (f :: r)]))
def ent (k : Nat) (fs : List Fl) : List UInt8 := match fs with | [] => [] | f :: r => if f.path = [] then fid f.data else pid k (f :: r)
theorem pid_succ (k : Nat) (ts : List Fl) : pid (k + 1) ts = Dg.Spo.dig (100 :: tx ((namesOf ts).flatMap fun n => [n, ent k (group ts n)])) := rfl
def idR (ts : List Fl) : List UInt8 × Int := if check ts ≠ 0 then ([], 1) else (pid 9 ts, 0)
theorem dig_len (l : List UInt8) : (Dg.Spo.dig l).length = 32 := by unfold Dg.Spo.dig Dg.Spo.sq; simp
theorem ent_len (k : Nat) (fs : List Fl) : (ent k fs).length ≤ 32 := by
  unfold ent
  split
  · simp
  · split
    · unfold fid; rw [dig_len]; omega
    · cases k with
      | zero => simp [pid]
      | succ k => rw [pid_succ, dig_len]; omega
end Tre
end Go.Proofs.YtinkpbobkeppiaaGreatDoor
end
section
namespace Go.Proofs.YtinkpbobkeppiaaGreatDoor
namespace Tre

structure Ch where
  path : List UInt8
  kind : Int
  old : List UInt8
  new : List UInt8
deriving DecidableEq, Inhabited
def chg (a b : List Fl) (p : List UInt8) : List Ch :=
  if (find a p).2 = false then [⟨p, 1, [], fid (find b p).1⟩]
  else if (find b p).2 = false then [⟨p, 2, fid (find a p).1, []⟩]
  else if (find a p).1 = (find b p).1 then [] else [⟨p, 3, fid (find a p).1, fid (find b p).1⟩]
def pathsOf (a b : List Fl) : List (List UInt8) := ((a ++ b).map (·.path)).foldl insD []
def diff (a b : List Fl) : List Ch := (pathsOf a b).flatMap (chg a b)
def diffR (a b : List Fl) : List Ch × Int := if check a ≠ 0 ∨ check b ≠ 0 then ([], 1) else (diff a b, 0)
def mrg : List Fl → List Fl → List Ch
  | [], [] => []
  | x :: a, [] => ⟨x.path, 2, fid x.data, []⟩ :: mrg a []
  | [], y :: b => ⟨y.path, 1, [], fid y.data⟩ :: mrg [] b
  | x :: a, y :: b =>
    if Op.bytesLess x.path y.path = true then ⟨x.path, 2, fid x.data, []⟩ :: mrg a (y :: b)
    else if Op.bytesLess y.path x.path = true then ⟨y.path, 1, [], fid y.data⟩ :: mrg (x :: a) b
    else (if x.data = y.data then [] else [⟨x.path, 3, fid x.data, fid y.data⟩]) ++ mrg a b
termination_by a b => a.length + b.length
def mp : List Fl → List Fl → List (List UInt8)
  | [], [] => []
  | x :: a, [] => x.path :: mp a []
  | [], y :: b => y.path :: mp [] b
  | x :: a, y :: b =>
    if Op.bytesLess x.path y.path = true then x.path :: mp a (y :: b)
    else if Op.bytesLess y.path x.path = true then y.path :: mp (x :: a) b
    else x.path :: mp a b
termination_by a b => a.length + b.length
theorem bl_same {a b : List UInt8} (h1 : ¬ Op.bytesLess a b = true) (h2 : ¬ Op.bytesLess b a = true) : a = b := by
  rcases bl_total a b with h | h | h
  · exact absurd h h1
  · exact h
  · exact absurd h h2
theorem mp_mem (a b : List Fl) (p : List UInt8) : p ∈ mp a b ↔ (p ∈ a.map (·.path) ∨ p ∈ b.map (·.path)) := by
  induction a, b using mp.induct with
  | case1 => simp [mp]
  | case2 x a ih => rw [mp, List.mem_cons, ih]; simp
  | case3 y b ih => rw [mp, List.mem_cons, ih]; simp
  | case4 x a y b h ih => rw [mp, if_pos h, List.mem_cons, ih]; simp [or_assoc]
  | case5 x a y b h1 h2 ih =>
    rw [mp, if_neg h1, if_pos h2, List.mem_cons, ih]
    simp only [List.map_cons, List.mem_cons]
    constructor
    · rintro (h | h | h)
      · exact .inr (.inl h)
      · exact .inl h
      · exact .inr (.inr h)
    · rintro (h | h | h)
      · exact .inr (.inl h)
      · exact .inl h
      · exact .inr (.inr h)
  | case6 x a y b h1 h2 ih =>
    have e := bl_same h1 h2
    rw [mp, if_neg h1, if_neg h2, List.mem_cons, ih]
    simp only [List.map_cons, List.mem_cons, ← e]
    constructor
    · rintro (h | h | h)
      · exact .inl (.inl h)
      · exact .inl (.inr h)
      · exact .inr (.inr h)
    · rintro ((h | h) | (h | h))
      · exact .inl h
      · exact .inr (.inl h)
      · exact .inl h
      · exact .inr (.inr h)
abbrev Sorted (a : List Fl) : Prop := a.Pairwise fun f g => Op.bytesLess f.path g.path = true
theorem low_of {a : List Fl} {z p : List UInt8} (h : ∀ f ∈ a, Op.bytesLess z f.path = true) (hp : p ∈ a.map (·.path)) : Op.bytesLess z p = true := by
  obtain ⟨f, hf, rfl⟩ := List.mem_map.1 hp
  exact h f hf
theorem mp_low {a b : List Fl} {z : List UInt8} (ha : ∀ f ∈ a, Op.bytesLess z f.path = true) (hb : ∀ f ∈ b, Op.bytesLess z f.path = true) : ∀ p ∈ mp a b, Op.bytesLess z p = true := fun p hp =>
  ((mp_mem a b p).1 hp).elim (low_of ha) (low_of hb)
theorem above_head {y : Fl} {b : List Fl} {z : List UInt8} (hb : Sorted (y :: b)) (h : Op.bytesLess z y.path = true) : ∀ f ∈ y :: b, Op.bytesLess z f.path = true := fun f hf => by
  rcases List.mem_cons.1 hf with rfl | hf
  · exact h
  · exact bl_trans _ _ _ h ((List.pairwise_cons.1 hb).1 f hf)
theorem mp_rising (a b : List Fl) : Sorted a → Sorted b → Rising (mp a b) := by
  induction a, b using mp.induct with
  | case1 => intro _ _; rw [mp]; exact .nil
  | case2 x a ih => intro h1 h2; rw [mp]; exact List.pairwise_cons.2 ⟨mp_low (List.pairwise_cons.1 h1).1 (by simp), ih (List.pairwise_cons.1 h1).2 h2⟩
  | case3 y b ih => intro h1 h2; rw [mp]; exact List.pairwise_cons.2 ⟨mp_low (by simp) (List.pairwise_cons.1 h2).1, ih h1 (List.pairwise_cons.1 h2).2⟩
  | case4 x a y b h ih => intro h1 h2; rw [mp, if_pos h]; exact List.pairwise_cons.2 ⟨mp_low (List.pairwise_cons.1 h1).1 (above_head h2 h), ih (List.pairwise_cons.1 h1).2 h2⟩
  | case5 x a y b h h' ih => intro h1 h2; rw [mp, if_neg h, if_pos h']; exact List.pairwise_cons.2 ⟨mp_low (above_head h1 h') (List.pairwise_cons.1 h2).1, ih h1 (List.pairwise_cons.1 h2).2⟩
  | case6 x a y b h h' ih =>
    intro h1 h2
    have e := bl_same h h'
    rw [mp, if_neg h, if_neg h']
    exact List.pairwise_cons.2 ⟨mp_low (List.pairwise_cons.1 h1).1 (by rw [e]; exact (List.pairwise_cons.1 h2).1), ih (List.pairwise_cons.1 h1).2 (List.pairwise_cons.1 h2).2⟩
theorem find_head (x : Fl) (a : List Fl) : find (x :: a) x.path = (x.data, true) := by unfold find; rw [List.find?_cons_of_pos (by simp)]
theorem find_tail (x : Fl) (a : List Fl) (p : List UInt8) (h : x.path ≠ p) : find (x :: a) p = find a p := by unfold find; rw [List.find?_cons_of_neg (by simpa using h)]
theorem find_not (a : List Fl) (p : List UInt8) (h : ∀ f ∈ a, f.path ≠ p) : find a p = ([], false) := by
  unfold find
  rw [List.find?_eq_none.2 fun x hx => by simpa using h x hx]
theorem mrg_mp (a b : List Fl) : ∀ (A B : List Fl), Sorted a → Sorted b → (∀ p ∈ mp a b, find A p = find a p ∧ find B p = find b p) → mrg a b = (mp a b).flatMap (chg A B) := by
  induction a, b using mp.induct with
  | case1 => intro A B _ _ _; rw [mrg, mp]; rfl
  | case2 x a ih =>
    intro A B h1 h2 hf
    obtain ⟨g1, g2⟩ := List.pairwise_cons.1 h1
    rw [mrg, mp, List.flatMap_cons]
    rw [mp] at hf
    have hx := hf x.path (by simp)
    rw [ih A B g2 h2 fun p hp => ⟨(hf p (by simp [hp])).1.trans (find_tail x a p (bl_ne (mp_low g1 (by simp) p hp))), (hf p (by simp [hp])).2⟩]
    unfold chg
    rw [hx.1, hx.2, find_head, find_not [] _ (by simp)]
    rfl
  | case3 y b ih =>
    intro A B h1 h2 hf
    obtain ⟨g1, g2⟩ := List.pairwise_cons.1 h2
    rw [mrg, mp, List.flatMap_cons]
    rw [mp] at hf
    have hx := hf y.path (by simp)
    rw [ih A B h1 g2 fun p hp => ⟨(hf p (by simp [hp])).1, (hf p (by simp [hp])).2.trans (find_tail y b p (bl_ne (mp_low (by simp) g1 p hp)))⟩]
    unfold chg
    rw [hx.1, hx.2, find_head, find_not [] _ (by simp)]
    rfl
  | case4 x a y b h ih =>
    intro A B h1 h2 hf
    obtain ⟨g1, g2⟩ := List.pairwise_cons.1 h1
    rw [mrg, mp, if_pos h, if_pos h, List.flatMap_cons]
    rw [mp, if_pos h] at hf
    have hx := hf x.path (by simp)
    rw [ih A B g2 h2 fun p hp => ⟨(hf p (by simp [hp])).1.trans (find_tail x a p (bl_ne (mp_low g1 (above_head h2 h) p hp))), (hf p (by simp [hp])).2⟩]
    unfold chg
    rw [hx.1, hx.2, find_head, find_not (y :: b) _ (fun f hm => (bl_ne (above_head h2 h f hm)).symm)]
    rfl
  | case5 x a y b h h' ih =>
    intro A B h1 h2 hf
    obtain ⟨g1, g2⟩ := List.pairwise_cons.1 h2
    rw [mrg, mp, if_neg h, if_neg h, if_pos h', if_pos h', List.flatMap_cons]
    rw [mp, if_neg h, if_pos h'] at hf
    have hx := hf y.path (by simp)
    rw [ih A B h1 g2 fun p hp => ⟨(hf p (by simp [hp])).1, (hf p (by simp [hp])).2.trans (find_tail y b p (bl_ne (mp_low (above_head h1 h') g1 p hp)))⟩]
    unfold chg
    rw [hx.1, hx.2, find_head, find_not (x :: a) _ (fun f hm => (bl_ne (above_head h1 h' f hm)).symm)]
    rfl
  | case6 x a y b h h' ih =>
    intro A B h1 h2 hf
    have e := bl_same h h'
    obtain ⟨g1, g2⟩ := List.pairwise_cons.1 h1
    obtain ⟨k1, k2⟩ := List.pairwise_cons.1 h2
    rw [mrg, mp, if_neg h, if_neg h, if_neg h', if_neg h', List.flatMap_cons]
    rw [mp, if_neg h, if_neg h'] at hf
    have hx := hf x.path (by simp)
    have hlow : ∀ p ∈ mp a b, Op.bytesLess x.path p = true := mp_low g1 (by rw [e]; exact k1)
    rw [ih A B g2 k2 fun p hp => ⟨(hf p (by simp [hp])).1.trans (find_tail x a p (bl_ne (hlow p hp))), (hf p (by simp [hp])).2.trans (find_tail y b p (by rw [← e]; exact bl_ne (hlow p hp)))⟩]
    unfold chg
    rw [hx.1, hx.2, find_head]
    conv => rhs; rw [e, find_head]
    simp [e]
theorem paths_spec (a b : List Fl) : Rising (pathsOf a b) ∧ ∀ y, y ∈ pathsOf a b ↔ (y ∈ a.map (·.path) ∨ y ∈ b.map (·.path)) := by
  obtain ⟨h1, h2⟩ := foldD_spec ((a ++ b).map (·.path)) [] .nil
  exact ⟨h1, fun y => by unfold pathsOf; rw [h2, List.map_append, List.mem_append]; simp⟩
theorem paths_eq {a b : List Fl} {l : List (List UInt8)} (h : Rising l) (hm : ∀ y, y ∈ l ↔ (y ∈ a.map (·.path) ∨ y ∈ b.map (·.path))) : l = pathsOf a b :=
  rising_eq h (paths_spec a b).1 fun y => by rw [hm, (paths_spec a b).2]
theorem diff_mrg {a b : List Fl} (ha : Sorted a) (hb : Sorted b) : diff a b = mrg a b := by
  rw [mrg_mp a b a b ha hb fun _ _ => ⟨rfl, rfl⟩, paths_eq (a := a) (b := b) (mp_rising a b ha hb) (mp_mem a b)]
  rfl
theorem paths_len (a b : List Fl) : (pathsOf a b).length ≤ a.length + b.length := by
  have := rising_len (m := (a ++ b).map (·.path)) (paths_spec a b).1 fun y hy => by
    rw [List.map_append, List.mem_append]; exact (paths_spec a b).2 y |>.1 hy
  rwa [List.length_map, List.length_append] at this
theorem chg_len (a b : List Fl) (p : List UInt8) : (chg a b p).length ≤ 1 := by
  unfold chg
  split
  · simp
  · split
    · simp
    · split <;> simp
end Tre
end Go.Proofs.YtinkpbobkeppiaaGreatDoor
end
