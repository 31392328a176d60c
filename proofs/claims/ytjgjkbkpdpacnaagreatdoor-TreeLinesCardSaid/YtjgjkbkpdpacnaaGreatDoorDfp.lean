/- The changes between two trees, plain: path by path, and by merging. No condition. -/
import Derived.Test.YtjgjkbkpdpacnaaGreatDoorIdp
namespace Go.Proofs.YtjgjkbkpdpacnaaGreatDoor
namespace Tre

structure Ch where
  path : List UInt8
  kind : Int
  old : List UInt8
  new : List UInt8
deriving DecidableEq, Inhabited
def chg (a b : List Fl) (p : List UInt8) : List Ch :=
  if (find a p).2 = false then [⟨p, 1, [], fid (find b p).1⟩]
  else if (find b p).2 = false then [⟨p, 2, fid (find a p).1, []⟩]
  else if (find a p).1 = (find b p).1 then [] else [⟨p, 3, fid (find a p).1, fid (find b p).1⟩]
def pathsOf (a b : List Fl) : List (List UInt8) := ((a ++ b).map (·.path)).foldl insD []
def diff (a b : List Fl) : List Ch := (pathsOf a b).flatMap (chg a b)
def diffR (a b : List Fl) : List Ch × Int := if check a ≠ 0 ∨ check b ≠ 0 then ([], 1) else (diff a b, 0)
def mrg : List Fl → List Fl → List Ch
  | [], [] => []
  | x :: a, [] => ⟨x.path, 2, fid x.data, []⟩ :: mrg a []
  | [], y :: b => ⟨y.path, 1, [], fid y.data⟩ :: mrg [] b
  | x :: a, y :: b =>
    if Op.bytesLess x.path y.path = true then ⟨x.path, 2, fid x.data, []⟩ :: mrg a (y :: b)
    else if Op.bytesLess y.path x.path = true then ⟨y.path, 1, [], fid y.data⟩ :: mrg (x :: a) b
    else (if x.data = y.data then [] else [⟨x.path, 3, fid x.data, fid y.data⟩]) ++ mrg a b
termination_by a b => a.length + b.length
def mp : List Fl → List Fl → List (List UInt8)
  | [], [] => []
  | x :: a, [] => x.path :: mp a []
  | [], y :: b => y.path :: mp [] b
  | x :: a, y :: b =>
    if Op.bytesLess x.path y.path = true then x.path :: mp a (y :: b)
    else if Op.bytesLess y.path x.path = true then y.path :: mp (x :: a) b
    else x.path :: mp a b
termination_by a b => a.length + b.length
theorem bl_same {a b : List UInt8} (h1 : ¬ Op.bytesLess a b = true) (h2 : ¬ Op.bytesLess b a = true) : a = b := by
  rcases bl_total a b with h | h | h
  · exact absurd h h1
  · exact h
  · exact absurd h h2
theorem mp_mem (a b : List Fl) (p : List UInt8) : p ∈ mp a b ↔ (p ∈ a.map (·.path) ∨ p ∈ b.map (·.path)) := by
  induction a, b using mp.induct with
  | case1 => simp [mp]
  | case2 x a ih => rw [mp, List.mem_cons, ih]; simp
  | case3 y b ih => rw [mp, List.mem_cons, ih]; simp
  | case4 x a y b h ih => rw [mp, if_pos h, List.mem_cons, ih]; simp [or_assoc]
  | case5 x a y b h1 h2 ih =>
    rw [mp, if_neg h1, if_pos h2, List.mem_cons, ih]
    simp only [List.map_cons, List.mem_cons]
    constructor
    · rintro (h | h | h)
      · exact .inr (.inl h)
      · exact .inl h
      · exact .inr (.inr h)
    · rintro (h | h | h)
      · exact .inr (.inl h)
      · exact .inl h
      · exact .inr (.inr h)
  | case6 x a y b h1 h2 ih =>
    have e := bl_same h1 h2
    rw [mp, if_neg h1, if_neg h2, List.mem_cons, ih]
    simp only [List.map_cons, List.mem_cons, ← e]
    constructor
    · rintro (h | h | h)
      · exact .inl (.inl h)
      · exact .inl (.inr h)
      · exact .inr (.inr h)
    · rintro ((h | h) | (h | h))
      · exact .inl h
      · exact .inr (.inl h)
      · exact .inl h
      · exact .inr (.inr h)
abbrev Sorted (a : List Fl) : Prop := a.Pairwise fun f g => Op.bytesLess f.path g.path = true
theorem low_of {a : List Fl} {z p : List UInt8} (h : ∀ f ∈ a, Op.bytesLess z f.path = true) (hp : p ∈ a.map (·.path)) : Op.bytesLess z p = true := by
  obtain ⟨f, hf, rfl⟩ := List.mem_map.1 hp
  exact h f hf
theorem mp_low {a b : List Fl} {z : List UInt8} (ha : ∀ f ∈ a, Op.bytesLess z f.path = true) (hb : ∀ f ∈ b, Op.bytesLess z f.path = true) : ∀ p ∈ mp a b, Op.bytesLess z p = true := fun p hp =>
  ((mp_mem a b p).1 hp).elim (low_of ha) (low_of hb)
theorem above_head {y : Fl} {b : List Fl} {z : List UInt8} (hb : Sorted (y :: b)) (h : Op.bytesLess z y.path = true) : ∀ f ∈ y :: b, Op.bytesLess z f.path = true := fun f hf => by
  rcases List.mem_cons.1 hf with rfl | hf
  · exact h
  · exact bl_trans _ _ _ h ((List.pairwise_cons.1 hb).1 f hf)
theorem mp_rising (a b : List Fl) : Sorted a → Sorted b → Rising (mp a b) := by
  induction a, b using mp.induct with
  | case1 => intro _ _; rw [mp]; exact .nil
  | case2 x a ih => intro h1 h2; rw [mp]; exact List.pairwise_cons.2 ⟨mp_low (List.pairwise_cons.1 h1).1 (by simp), ih (List.pairwise_cons.1 h1).2 h2⟩
  | case3 y b ih => intro h1 h2; rw [mp]; exact List.pairwise_cons.2 ⟨mp_low (by simp) (List.pairwise_cons.1 h2).1, ih h1 (List.pairwise_cons.1 h2).2⟩
  | case4 x a y b h ih => intro h1 h2; rw [mp, if_pos h]; exact List.pairwise_cons.2 ⟨mp_low (List.pairwise_cons.1 h1).1 (above_head h2 h), ih (List.pairwise_cons.1 h1).2 h2⟩
  | case5 x a y b h h' ih => intro h1 h2; rw [mp, if_neg h, if_pos h']; exact List.pairwise_cons.2 ⟨mp_low (above_head h1 h') (List.pairwise_cons.1 h2).1, ih h1 (List.pairwise_cons.1 h2).2⟩
  | case6 x a y b h h' ih =>
    intro h1 h2
    have e := bl_same h h'
    rw [mp, if_neg h, if_neg h']
    exact List.pairwise_cons.2 ⟨mp_low (List.pairwise_cons.1 h1).1 (by rw [e]; exact (List.pairwise_cons.1 h2).1), ih (List.pairwise_cons.1 h1).2 (List.pairwise_cons.1 h2).2⟩
theorem find_head (x : Fl) (a : List Fl) : find (x :: a) x.path = (x.data, true) := by unfold find; rw [List.find?_cons_of_pos (by simp)]
theorem find_tail (x : Fl) (a : List Fl) (p : List UInt8) (h : x.path ≠ p) : find (x :: a) p = find a p := by unfold find; rw [List.find?_cons_of_neg (by simpa using h)]
theorem find_not (a : List Fl) (p : List UInt8) (h : ∀ f ∈ a, f.path ≠ p) : find a p = ([], false) := by
  unfold find
  rw [List.find?_eq_none.2 fun x hx => by simpa using h x hx]
theorem mrg_mp (a b : List Fl) : ∀ (A B : List Fl), Sorted a → Sorted b → (∀ p ∈ mp a b, find A p = find a p ∧ find B p = find b p) → mrg a b = (mp a b).flatMap (chg A B) := by
  induction a, b using mp.induct with
  | case1 => intro A B _ _ _; rw [mrg, mp]; rfl
  | case2 x a ih =>
    intro A B h1 h2 hf
    obtain ⟨g1, g2⟩ := List.pairwise_cons.1 h1
    rw [mrg, mp, List.flatMap_cons]
    rw [mp] at hf
    have hx := hf x.path (by simp)
    rw [ih A B g2 h2 fun p hp => ⟨(hf p (by simp [hp])).1.trans (find_tail x a p (bl_ne (mp_low g1 (by simp) p hp))), (hf p (by simp [hp])).2⟩]
    unfold chg
    rw [hx.1, hx.2, find_head, find_not [] _ (by simp)]
    rfl
  | case3 y b ih =>
    intro A B h1 h2 hf
    obtain ⟨g1, g2⟩ := List.pairwise_cons.1 h2
    rw [mrg, mp, List.flatMap_cons]
    rw [mp] at hf
    have hx := hf y.path (by simp)
    rw [ih A B h1 g2 fun p hp => ⟨(hf p (by simp [hp])).1, (hf p (by simp [hp])).2.trans (find_tail y b p (bl_ne (mp_low (by simp) g1 p hp)))⟩]
    unfold chg
    rw [hx.1, hx.2, find_head, find_not [] _ (by simp)]
    rfl
  | case4 x a y b h ih =>
    intro A B h1 h2 hf
    obtain ⟨g1, g2⟩ := List.pairwise_cons.1 h1
    rw [mrg, mp, if_pos h, if_pos h, List.flatMap_cons]
    rw [mp, if_pos h] at hf
    have hx := hf x.path (by simp)
    rw [ih A B g2 h2 fun p hp => ⟨(hf p (by simp [hp])).1.trans (find_tail x a p (bl_ne (mp_low g1 (above_head h2 h) p hp))), (hf p (by simp [hp])).2⟩]
    unfold chg
    rw [hx.1, hx.2, find_head, find_not (y :: b) _ (fun f hm => (bl_ne (above_head h2 h f hm)).symm)]
    rfl
  | case5 x a y b h h' ih =>
    intro A B h1 h2 hf
    obtain ⟨g1, g2⟩ := List.pairwise_cons.1 h2
    rw [mrg, mp, if_neg h, if_neg h, if_pos h', if_pos h', List.flatMap_cons]
    rw [mp, if_neg h, if_pos h'] at hf
    have hx := hf y.path (by simp)
    rw [ih A B h1 g2 fun p hp => ⟨(hf p (by simp [hp])).1, (hf p (by simp [hp])).2.trans (find_tail y b p (bl_ne (mp_low (above_head h1 h') g1 p hp)))⟩]
    unfold chg
    rw [hx.1, hx.2, find_head, find_not (x :: a) _ (fun f hm => (bl_ne (above_head h1 h' f hm)).symm)]
    rfl
  | case6 x a y b h h' ih =>
    intro A B h1 h2 hf
    have e := bl_same h h'
    obtain ⟨g1, g2⟩ := List.pairwise_cons.1 h1
    obtain ⟨k1, k2⟩ := List.pairwise_cons.1 h2
    rw [mrg, mp, if_neg h, if_neg h, if_neg h', if_neg h', List.flatMap_cons]
    rw [mp, if_neg h, if_neg h'] at hf
    have hx := hf x.path (by simp)
    have hlow : ∀ p ∈ mp a b, Op.bytesLess x.path p = true := mp_low g1 (by rw [e]; exact k1)
    rw [ih A B g2 k2 fun p hp => ⟨(hf p (by simp [hp])).1.trans (find_tail x a p (bl_ne (hlow p hp))), (hf p (by simp [hp])).2.trans (find_tail y b p (by rw [← e]; exact bl_ne (hlow p hp)))⟩]
    unfold chg
    rw [hx.1, hx.2, find_head]
    conv => rhs; rw [e, find_head]
    simp [e]
theorem paths_spec (a b : List Fl) : Rising (pathsOf a b) ∧ ∀ y, y ∈ pathsOf a b ↔ (y ∈ a.map (·.path) ∨ y ∈ b.map (·.path)) := by
  obtain ⟨h1, h2⟩ := foldD_spec ((a ++ b).map (·.path)) [] .nil
  exact ⟨h1, fun y => by unfold pathsOf; rw [h2, List.map_append, List.mem_append]; simp⟩
theorem paths_eq {a b : List Fl} {l : List (List UInt8)} (h : Rising l) (hm : ∀ y, y ∈ l ↔ (y ∈ a.map (·.path) ∨ y ∈ b.map (·.path))) : l = pathsOf a b :=
  rising_eq h (paths_spec a b).1 fun y => by rw [hm, (paths_spec a b).2]
theorem diff_mrg {a b : List Fl} (ha : Sorted a) (hb : Sorted b) : diff a b = mrg a b := by
  rw [mrg_mp a b a b ha hb fun _ _ => ⟨rfl, rfl⟩, paths_eq (a := a) (b := b) (mp_rising a b ha hb) (mp_mem a b)]
  rfl
theorem paths_len (a b : List Fl) : (pathsOf a b).length ≤ a.length + b.length := by
  have := rising_len (m := (a ++ b).map (·.path)) (paths_spec a b).1 fun y hy => by
    rw [List.map_append, List.mem_append]; exact (paths_spec a b).2 y |>.1 hy
  rwa [List.length_map, List.length_append] at this
theorem chg_len (a b : List Fl) (p : List UInt8) : (chg a b p).length ≤ 1 := by
  unfold chg
  split
  · simp
  · split
    · simp
    · split <;> simp
end Tre
end Go.Proofs.YtjgjkbkpdpacnaaGreatDoor
