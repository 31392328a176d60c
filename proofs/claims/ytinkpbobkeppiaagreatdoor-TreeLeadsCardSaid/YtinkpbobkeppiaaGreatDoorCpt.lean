/- slices.Compact of a row of the call's own, sorted: the paths of two trees, each once. No condition. -/
import Derived.Test.YtinkpbobkeppiaaGreatDoorPz6
import Derived.Test.YtinkpbobkeppiaaGreatDoorDir
namespace Go.Proofs.YtinkpbobkeppiaaGreatDoor
open Go.RowKit Go.Sort

theorem compact_own (v : Value) (B : Nat) (ss : List (List UInt8)) (w : World) (h : w.ownsRow B 9 1 v ss.length (strs ss)) (hl : ss.length ≤ 1000000) :
    Calls Tryz.prog 68 #[v] w fun e w' => ∃ v', e = .returned v' ∧ w'.ownsRow B 9 1 v' (Lib.compact ss).length (strs (Lib.compact ss)) ∧ w.grownBy w' v.ownBlock := by
  rcases h.2 with ⟨rfl, h0⟩ | ⟨g, cap, cur, rfl, hB, hb, h1, h2, h3, h4⟩
  · have e : ss = [] := List.eq_nil_of_length_eq_zero h0
    subst e
    exact (Tryz.slices_Compact_string_empty none 0 w).mono fun e w' hw => ⟨_, hw.1, by rw [hw.2]; exact World.ownsRow_nil _ _ _ _, by rw [hw.2]; exact World.grownBy.refl _ _⟩
  · have hH : Holds encStr w g 0 ss.toArray := holds_of_block hb (by rw [Nat.mul_one] at h4; exact h4)
    refine (Tryz.slices_Compact_string g 0 cap ss w hH (by omega) h1).mono ?_
    rintro e w' ⟨rfl, q, rfl⟩
    have hle := Lib.compact_length_le ss
    generalize Lib.compact ss = cs at *
    have eg : ∀ d : Array (List UInt8), putRow encStr (Sort.ahead w q) g 0 d = grow (putRow encStr (Sort.ahead w q) g 0 d) #[] := fun d => by simp [grow]; rfl
    rw [eg]
    refine ⟨_, rfl, ⟨by simp [strs], .inr ⟨g, cap, _, rfl, hB, heap_sorted _ hb, by omega, h2, by simp [putCells, h3], ?_⟩⟩, grownBy_sorted _⟩
    have ht := take_putCells cur (cs ++ List.replicate (ss.length - cs.length) []) (by rw [List.length_append, List.length_replicate]; omega)
    have ht2 := congrArg (List.take cs.length) ht
    rw [List.take_take, Nat.min_eq_left (by rw [List.length_append]; omega), List.map_append, List.take_left' (by simp)] at ht2
    rw [Nat.mul_one, ht2]
    rfl
namespace Tre
theorem compact_step (l : List (List UInt8)) (hs : l.Pairwise fun a b => Op.bytesLess b a = false) (m : Nat) (hm : m ≤ l.length) :
    Rising (Lib.compactUpTo l.toArray m) ∧ (∀ y, y ∈ Lib.compactUpTo l.toArray m ↔ y ∈ l.take m) ∧ (∀ y ∈ Lib.compactUpTo l.toArray m, ∀ k (hk : k < l.length), k + 1 = m → y = l[k] ∨ Op.bytesLess y l[k] = true) := by
  induction m with
  | zero => exact ⟨by simp [Lib.compactUpTo], by simp [Lib.compactUpTo], by simp [Lib.compactUpTo]⟩
  | succ m ih =>
    obtain ⟨h1, h2, h3⟩ := ih (by omega)
    have hlt : m < l.length := by omega
    have hg : l.toArray[m]! = l[m] := by simp [hlt]
    rw [Lib.compactUpTo_succ, List.take_succ_eq_append_getElem hlt, hg]
    by_cases hk : Lib.keeps l.toArray m = true
    · rw [if_pos hk]
      have hlow : ∀ y ∈ Lib.compactUpTo l.toArray m, Op.bytesLess y l[m] = true := fun y hy => by
        match m, hlt, hk, h3, hy with
        | 0, _, _, _, hy => simp [Lib.compactUpTo] at hy
        | m + 1, hlt, hk, h3, hy =>
          have hne : l[m + 1] ≠ l[m] := fun e => by
            have : Lib.keeps l.toArray (m + 1) = false := Lib.keeps_neg (by omega) (by simp [hlt, show m < l.length by omega, e])
            rw [this] at hk; cases hk
          have hp := List.pairwise_iff_getElem.1 hs m (m + 1) (by omega) hlt (by omega)
          have hl : Op.bytesLess l[m] l[m + 1] = true := by
            rcases bl_total l[m] l[m + 1] with h | h | h
            · exact h
            · exact absurd h.symm hne
            · rw [h] at hp; cases hp
          rcases h3 y hy m (by omega) rfl with rfl | h
          · exact hl
          · exact bl_trans _ _ _ h hl
      refine ⟨List.pairwise_append.2 ⟨h1, List.pairwise_singleton _ _, fun y hy z hz => by rw [List.mem_singleton.1 hz]; exact hlow y hy⟩, fun y => by rw [List.mem_append, List.mem_append, h2], fun y hy k hk2 hkm => ?_⟩
      obtain rfl : k = m := by omega
      rcases List.mem_append.1 hy with hy | hy
      · exact .inr (hlow y hy)
      · exact .inl (List.mem_singleton.1 hy)
    · have hk2 : Lib.keeps l.toArray m = false := by simpa using hk
      rw [if_neg hk, List.append_nil]
      match m, hlt, hk, h1, h2, h3, hk2 with
      | 0, _, hk, _, _, _, _ => exact absurd (Lib.keeps_lt_one _ 0 (by omega)) hk
      | m + 1, hlt, hk, h1, h2, h3, _ =>
        have he : l[m + 1] = l[m] := by
          refine Classical.byContradiction fun hne => hk (Lib.keeps_pos ?_)
          simpa [hlt, show m < l.length by omega] using hne
        refine ⟨h1, fun y => ?_, fun y hy k hk3 hkm => ?_⟩
        · rw [h2, List.mem_append, List.mem_singleton]
          refine ⟨.inl, fun h => h.elim id fun e => ?_⟩
          rw [e, he]
          exact List.mem_take_iff_getElem.2 ⟨m, by omega, rfl⟩
        · obtain rfl : k = m + 1 := by omega
          rw [he]
          exact h3 y hy m (by omega) rfl
theorem paths_compact (a b : List Fl) : Lib.compact ((((a ++ b).map (·.path))).mergeSort leB) = pathsOf a b := by
  have tr : ∀ a b c : List UInt8, leB a b = true → leB b c = true → leB a c = true := fun a b c h1 h2 => by simp only [leB, decide_eq_true_eq] at *; exact List.le_trans h1 h2
  have hto : ∀ a b : List UInt8, (leB a b || leB b a) = true := fun a b => by simp only [leB, Bool.or_eq_true, decide_eq_true_eq]; exact List.le_total a b
  have hp := List.pairwise_mergeSort tr hto ((a ++ b).map (·.path))
  have hmem : ∀ y, y ∈ ((a ++ b).map (·.path)).mergeSort leB ↔ y ∈ (a ++ b).map (·.path) := fun y => (List.mergeSort_perm _ leB).mem_iff
  generalize ((a ++ b).map (·.path)).mergeSort leB = l at *
  have hs : l.Pairwise fun a b => Op.bytesLess b a = false := hp.imp fun {x y} h => by
    simp only [leB, decide_eq_true_eq] at h
    rw [bytesLess_eq, decide_eq_false_iff_not]; exact fun hc => absurd h (by simpa using hc)
  obtain ⟨h1, h2, _⟩ := compact_step l hs l.length (Nat.le_refl _)
  exact paths_eq h1 fun y => by
    show y ∈ Lib.compactUpTo l.toArray l.length ↔ _
    rw [h2, List.take_length, hmem, List.map_append, List.mem_append]
end Tre
end Go.Proofs.YtinkpbobkeppiaaGreatDoor
