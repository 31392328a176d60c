/- Files grouped by the first part of their paths, in a map of slices. No condition. -/
import Derived.Test.YtinkpbobkeppiaaGreatDoorPz6
import Derived.Test.YtinkpbobkeppiaaGreatDoorSme
import Derived.Maps.OwnOps
import Derived.Maps.RangeWalk
import Derived.Maps.Views
import Derived.Sort.KeysCollected
namespace Go.Proofs.YtinkpbobkeppiaaGreatDoor
open Go.RowKit Go.Maps

/-- How an element is kept: as it is. -/
def tokR (v : Value) : Option (DataW Value × List MemPlace) := some (.held v, [])
theorem isKeyS (n : List UInt8) : WideAt.IsKeyLit (.string n) := by first | trivial | exact rfl | simp [WideAt.IsKeyLit]
theorem kStr : Keyed Tryz.prog 9 := string_keyed Tryz.underlying9
theorem ownsMap_block {H : Type} {w w' : World} {P : Program} {k : TypeId} {R : Value → Option (DataW H × List MemPlace)} {b n : Nat} {D : DataW H} (h : w.ownsMap P k R b n D) (e : w'.heap[b]? = w.heap[b]?) : w'.ownsMap P k R b n D := by
  obtain ⟨es, clock, hb, r⟩ := h
  exact ⟨es, clock, e.trans hb, r⟩
theorem row_block {w w' : World} {B size n : Nat} {e : TypeId} {v : Value} {xs : List Value} (h : w.ownsRow B e size v n xs) (hb : ∀ g, v.ownBlock = some g → w'.heap[g]? = w.heap[g]?) : w'.ownsRow B e size v n xs := by
  refine ⟨h.1, ?_⟩
  rcases h.2 with h0 | ⟨g, cap, cur, rfl, h1, h2, h3⟩
  · exact .inl h0
  · exact .inr ⟨g, cap, cur, rfl, h1, (hb g rfl).trans h2, h3⟩
theorem row_lt {w : World} {B size n g : Nat} {e : TypeId} {v : Value} {xs : List Value} (h : w.ownsRow B e size v n xs) (hg : v.ownBlock = some g) : B ≤ g ∧ g < w.heap.size := by
  rcases h.2 with ⟨rfl, _⟩ | ⟨g', cap, cur, rfl, h1, h2, _⟩
  · cases hg
  · have hg2 : some g' = some g := hg
    obtain rfl := Option.some.inj hg2
    exact ⟨h1, (Array.getElem?_eq_some_iff.1 h2).1⟩
/-- Block b is a map that has the files of each name. -/
structure Grp (w : World) (B b : Nat) (ts : List Tre.Fl) (V : List UInt8 → Value) (D : DataW Value) : Prop where
  own : w.ownsMap Tryz.prog 9 tokR b ts.length D
  isMap : IsMap D
  rows : ∀ n, w.ownsRow B 31 2 (V n) (Tre.group ts n).length (flsOf (Tre.group ts n))
  nils : ∀ n, Tre.group ts n = [] → V n = .slice none 0 0
  look : ∀ n z, D.atKey (.string n) z = if Tre.group ts n = [] then z else .held (V n)
  apart : ∀ a c g, a ≠ c → (V a).ownBlock = some g → (V c).ownBlock ≠ some g
  off : ∀ a, (V a).ownBlock ≠ some b
theorem Grp.made (w : World) (B : Nat) : Grp (w.alloc (.map #[] 0)) B w.heap.size [] (fun _ => .slice none 0 0) (.map []) :=
  ⟨World.ownsMap_made w _ _ _, isMap_empty, fun _ => World.ownsRow_nil _ _ _ _, fun _ _ => rfl, fun _ _ => rfl, fun _ _ _ _ h => (by cases h), fun _ h => (by cases h)⟩
section
variable {w w' : World} {B b : Nat} {ts : List Tre.Fl} {V : List UInt8 → Value} {D : DataW Value}
theorem Grp.lt (h : Grp w B b ts V D) : b < w.heap.size := h.own.lt
theorem Grp.block (h : Grp w B b ts V D) (hb : ∀ g, (g = b ∨ B ≤ g) → g < w.heap.size → w'.heap[g]? = w.heap[g]?) : Grp w' B b ts V D :=
  ⟨ownsMap_block h.own (hb b (.inl rfl) h.lt), h.isMap, fun n => row_block (h.rows n) fun g hg => hb g (.inr (row_lt (h.rows n) hg).1) (row_lt (h.rows n) hg).2, h.nils, h.look, h.apart, h.off⟩
theorem Grp.below (h : Grp w B b ts V D) (hb : Below w.heap.size w w') : Grp w' B b ts V D := h.block fun g _ hg => hb.block g hg
theorem Grp.alloc (h : Grp w B b ts V D) (o : Obj) : Grp (w.alloc o) B b ts V D := h.below ((Below.refl _ _).alloc (Nat.le_refl _) _)
theorem Grp.grown {row : Option Nat} (h : Grp w B b ts V D) (hg : w.grownBy w' row) (hb : some b ≠ row) (hr : ∀ a, (V a).ownBlock = none ∨ (V a).ownBlock ≠ row) : Grp w' B b ts V D :=
  ⟨ownsMap_block h.own (hg.block b h.lt hb), h.isMap, fun n => row_block (h.rows n) fun g hq => hg.block g (row_lt (h.rows n) hq).2 fun e => by
    rcases hr n with h0 | h0
    · rw [h0] at hq; cases hq
    · exact h0 (hq.trans e), h.nils, h.look, h.apart, h.off⟩
/-- The element at a name. -/
theorem Grp.run (h : Grp w B b ts V D) (n : List UInt8) (hn : n.length ≤ maxLen) (hz : (zeroValue 23).run Tryz.prog w = .ok (.slice none 0 0) w) :
    (Instr.lookup 93 (.map (some b)) (.string (str n)) false).run Tryz.prog w = .ok (V n) w := by
  have hk : keyOf Tryz.prog 9 (.string (str n)) = some (.string n) := by
    have := WideMaps.keyOf_string_mk (P := Tryz.prog) Tryz.underlying9 (s := str n) (by rw [str_size]; exact hn)
    simpa [str] using this
  obtain ⟨v, ps, hrun, hR⟩ := h.own.lookup kStr Tryz.underlying93 hz (zd := .held (.slice none 0 0)) (zp := []) rfl hk
  have hR2 : (DataW.held v : DataW Value) = D.atKey (.string n) (.held (.slice none 0 0)) := by
    have h1 := Option.some.inj (show some ((DataW.held v : DataW Value), ([] : List MemPlace)) = some (_, ps) from hR)
    exact congrArg (·.1) h1
  rw [h.look n] at hR2
  have hv : v = V n := by
    by_cases hg : Tre.group ts n = []
    · rw [if_pos hg] at hR2; rw [h.nils n hg]; exact DataW.held.inj hR2
    · rw [if_neg hg] at hR2; exact DataW.held.inj hR2
  rw [hrun, hv]
/-- One more file. -/
theorem Grp.step (h : Grp w B b ts V D) (f : Tre.Fl) {w1 w2 : World} {v1 : Value} {g H : Nat}
    (hown : w1.ownsRow B 31 2 v1 ((Tre.group ts (Tre.nameOf f.path)).length + 1) (flsOf (Tre.group ts (Tre.nameOf f.path) ++ [Tre.cutF f])))
    (hgrow : w.grownBy w1 (V (Tre.nameOf f.path)).ownBlock) (hv1 : v1.ownBlock = some g) (hat : (V (Tre.nameOf f.path)).ownBlock = some g ∨ g = H) (hH : w.heap.size ≤ H)
    (hM : w2.ownsMap Tryz.prog 9 tokR b (ts.length + 1) (D.put (.string (Tre.nameOf f.path)) (.held v1))) (hgM : w1.grownBy w2 (some b)) :
    Grp w2 B b (ts ++ [f]) (fun x => if x = Tre.nameOf f.path then v1 else V x) (D.put (.string (Tre.nameOf f.path)) (.held v1)) := by
  have hgb : g ≠ b := fun e => by
    rcases hat with h1 | h1
    · exact h.off _ (by rw [← e]; exact h1)
    · have := h.lt; omega
  have hne : ∀ x, x ≠ Tre.nameOf f.path → ¬ (Tre.nameOf f.path == x) = true := fun x hx e => hx (by simpa using (beq_iff_eq.1 e).symm)
  have hgs : ∀ x, x ≠ Tre.nameOf f.path → Tre.group (ts ++ [f]) x = Tre.group ts x := fun x hx => by rw [Tre.group_snoc, if_neg (hne x hx)]
  have hg1 : Tre.group (ts ++ [f]) (Tre.nameOf f.path) = Tre.group ts (Tre.nameOf f.path) ++ [Tre.cutF f] := by rw [Tre.group_snoc, if_pos (by simp)]
  have hoth : ∀ x, x ≠ Tre.nameOf f.path → (V x).ownBlock ≠ some g := fun x hx e => by
    rcases hat with h1 | h1
    · exact h.apart _ _ g hx e h1
    · have := (row_lt (h.rows x) e).2; omega
  refine ⟨by rw [List.length_append, List.length_singleton]; exact hM, h.isMap.put _ _, fun n => ?_, fun n hn => ?_, fun n z => ?_, fun a c q hac ha => ?_, fun a => ?_⟩
  · by_cases hx : n = Tre.nameOf f.path
    · subst hx
      rw [if_pos rfl, hg1, List.length_append, List.length_singleton]
      exact row_block hown fun q hq => hgM.block q (row_lt hown hq).2 fun e => by
        rw [hv1] at hq
        have e1 := Option.some.inj hq; have e2 := Option.some.inj e
        omega
    · rw [if_neg hx, hgs n hx]
      have hr1 : w1.ownsRow B 31 2 (V n) (Tre.group ts n).length (flsOf (Tre.group ts n)) := row_block (h.rows n) fun q hq => hgrow.block q (row_lt (h.rows n) hq).2 fun e => h.apart n _ q hx hq e.symm
      exact row_block hr1 fun q hq => hgM.block q (row_lt hr1 hq).2 fun e => h.off n (by rw [hq]; exact e)
  · by_cases hx : n = Tre.nameOf f.path
    · subst hx; rw [hg1] at hn; simp at hn
    · rw [if_neg hx]; rw [hgs n hx] at hn; exact h.nils n hn
  · by_cases hx : n = Tre.nameOf f.path
    · subst hx
      rw [atKey_put_same h.isMap (isKeyS _), if_neg (by rw [hg1]; simp)]
      rw [if_pos rfl]
    · rw [atKey_put_other (fun e => hx (by injection e)), h.look n z, hgs n hx]
      rw [if_neg hx]
  · by_cases h1 : a = Tre.nameOf f.path
    · rw [if_pos h1, hv1] at ha
      have e1 := Option.some.inj ha
      subst e1
      rw [if_neg (fun e => hac (h1.trans e.symm))]
      exact hoth c (fun e => hac (h1.trans e.symm))
    · rw [if_neg h1] at ha
      by_cases h2 : c = Tre.nameOf f.path
      · rw [if_pos h2, hv1]
        intro e
        have e1 := Option.some.inj e
        subst e1
        exact hoth a h1 ha
      · rw [if_neg h2]; exact h.apart a c q hac ha
  · by_cases h1 : a = Tre.nameOf f.path
    · rw [if_pos h1, hv1]; exact fun e => hgb (Option.some.inj e)
    · rw [if_neg h1]; exact h.off a
theorem Grp.has_ (h : Grp w B b ts V D) (n : List UInt8) : Maps.has D (Lit.string n) = true ↔ n ∈ ts.map fun f => Tre.nameOf f.path := by
  rw [← Tre.group_ne]
  constructor
  · intro hh e
    have : Maps.has D (Lit.string n) = false := has_false_of_atKey fun z => by rw [h.look n z, if_pos e]
    rw [this] at hh; cases hh
  · intro e
    exact has_true_of_atKey fun z => by rw [h.look n z, if_neg e]
theorem Grp.mem (h : Grp w B b ts V D) {left : Lit → Bool} {ss : List (List UInt8)} (hC : Collected D left ss) {x : List UInt8} (hx : x ∈ ss) : x ∈ ts.map fun f => Tre.nameOf f.path := (h.has_ x).1 ((hC.2 x).1 hx).1
/-- What was collected rises behind the sort. -/
theorem collected_rising {left : Lit → Bool} {ss : List (List UInt8)} {D : DataW Value} (hC : Collected D left ss) : Tre.Rising (ss.mergeSort leB) := by
  have tr : ∀ a b c : List UInt8, leB a b = true → leB b c = true → leB a c = true := fun a b c h1 h2 => by simp only [leB, decide_eq_true_eq] at *; exact List.le_trans h1 h2
  have hto : ∀ a b : List UInt8, (leB a b || leB b a) = true := fun a b => by simp only [leB, Bool.or_eq_true, decide_eq_true_eq]; exact List.le_total a b
  have hs := List.pairwise_mergeSort tr hto ss
  have hn : (ss.mergeSort leB).Nodup := ((List.mergeSort_perm ss leB).nodup_iff).2 hC.1
  exact (hs.and hn).imp fun {a b} ⟨h1, h2⟩ => by
    rw [bytesLess_eq, decide_eq_true_iff]
    simp only [leB, decide_eq_true_eq] at h1
    exact Classical.byContradiction fun hc => h2 (List.le_antisymm h1 (by simpa using hc))
theorem Grp.count (h : Grp w B b ts V D) {left : Lit → Bool} {ss : List (List UInt8)} (hC : Collected D left ss) : ss.length ≤ ts.length := by
  have h1 := Tre.rising_len (m := Tre.namesOf ts) (collected_rising hC) fun y hy => ((Tre.names_spec ts).2 y).2 (h.mem hC ((List.mergeSort_perm ss leB).mem_iff.1 hy))
  have h2 := Tre.names_len ts
  have h3 : (ss.mergeSort leB).length = ss.length := List.length_mergeSort ss
  omega
/-- What was collected and then sorted are the names. -/
theorem Grp.names (h : Grp w B b ts V D) {left : Lit → Bool} {ss : List (List UInt8)} (hC : Collected D left ss) (hl : ∀ kl, left kl = false) : ss.mergeSort leB = Tre.namesOf ts := by
  refine Tre.names_eq (collected_rising hC) fun x => ?_
  rw [(List.mergeSort_perm ss leB).mem_iff, hC.2 x, hl, h.has_ x]; simp
end
end Go.Proofs.YtinkpbobkeppiaaGreatDoor
