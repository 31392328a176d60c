/- slices.Sorted of the keys of a map; Sources. -/
import Derived.Test.YtjemffgidhgfjaaGreatDoorRkSrc
import Derived.Test.YtjemffgidhgfjaaGreatDoorIter
namespace Go.Proofs.YtjemffgidhgfjaaGreatDoor.Rk
open Go.RowKit Go.Deep Go.Maps Tr

theorem keysOf1 : KeysOf1 := fun mb W => callsIn_wide.1 (Tryz.maps_Keys_60 mb W)
theorem enc_flat (l : List (List UInt8)) : l.map encStr = l.flatMap Rc.stV := by
  induction l with
  | nil => rfl
  | cons x t ih => rw [List.map_cons, List.flatMap_cons, ih]; rfl
theorem has_cF {D : DataW Value} {C : List (List UInt8)} (hat : ∀ p z, D.atKey (.string p) z = match cF C p with | some v => DataW.held v | none => z) (x : List UInt8) : Maps.has D (.string x) = true ↔ x ∈ C := by
  by_cases h : C.contains x = true
  · have h1 : cF C x = some (.bool true) := by unfold cF; rw [if_pos h]
    exact ⟨fun _ => List.contains_iff_mem.1 h, fun _ => has_true_of_atKey fun z => by rw [hat x z, h1]⟩
  · have h1 : cF C x = none := by unfold cF; rw [if_neg h]
    have h2 := has_false_of_atKey (D := D) (k := .string x) fun z => by rw [hat x z, h1]
    exact ⟨fun h3 => (by rw [h2] at h3; cases h3), fun h3 => absurd (List.contains_iff_mem.2 h3) h⟩
theorem nodup_of (C : List (List UInt8)) : ∃ l : List (List UInt8), l.Nodup ∧ ∀ x, x ∈ l ↔ x ∈ C := by
  induction C with
  | nil => exact ⟨[], List.nodup_nil, fun _ => Iff.rfl⟩
  | cons a t ih =>
    obtain ⟨l, h1, h2⟩ := ih
    by_cases ha : a ∈ t
    · exact ⟨l, h1, fun x => by
        rw [h2 x, List.mem_cons]
        exact ⟨.inr, fun h => h.elim (fun e => e ▸ ha) id⟩⟩
    · exact ⟨a :: l, List.nodup_cons.2 ⟨fun h => ha ((h2 a).1 h), h1⟩, fun x => by rw [List.mem_cons, List.mem_cons, h2 x]⟩
theorem sortedKeys : SortedKeys := fun b n C w h hn => by
  obtain ⟨D, hown, hD, hat⟩ := h
  have hsz := hown.size_le
  refine (callsIn_wide.1 (Tryz.slices_Sorted_keys_28_60 b n D tokR w hown (by unfold maxLen; omega) (by omega))).mono ?_
  rintro e w' ⟨v, ss, rfl, hperm, hrow, _, hb⟩
  obtain ⟨C', hC1, hC2⟩ := nodup_of C
  have hcol : Collected D (fun _ => false) C' := ⟨hC1, fun x => by rw [hC2 x, has_cF hat x]; simp⟩
  have hp2 : ss.Perm C' := hperm.trans (hcol.perm hown kStr Tryz.underlying9 fun _ => rfl).symm
  have hms := List.mergeSort_perm ss leB
  have hlen : (ss.mergeSort leB).length = ss.length := List.length_mergeSort ss
  have hsl : ss.length ≤ n := by
    obtain ⟨es, rfl⟩ := hD
    have h1 := hperm.length_eq
    have h2 : (strKeys (DataW.map es)).length = es.length := List.length_map _
    have h3 : Maps.size (DataW.map es) = es.length := by simp [Maps.size]
    omega
  have hrow2 : w'.ownsRow (w.alloc (.cells #[.map (some b)] 91)).heap.size 9 1 v (ss.mergeSort leB).length ((ss.mergeSort leB).flatMap Rc.stV) := by
    rw [hlen, ← enc_flat]; exact hrow
  obtain ⟨A, c, rfl, _, _, hel⟩ := Rc.own_el Rc.stV 1 Rc.stV_len hrow2
  have tr : ∀ a b c : List UInt8, leB a b = true → leB b c = true → leB a c = true := fun a b c h1 h2 => by simp only [leB, decide_eq_true_eq] at *; exact List.le_trans h1 h2
  have hto : ∀ a b : List UInt8, (leB a b || leB b a) = true := fun a b => by simp only [leB, Bool.or_eq_true, decide_eq_true_eq]; exact List.le_total a b
  exact ⟨ss.mergeSort leB, A, c, rfl, ⟨List.pairwise_mergeSort tr hto ss, ((hms.trans hp2).nodup_iff).2 hC1, fun x => by rw [(hms.trans hp2).mem_iff, hC2 x]⟩, by omega, hel, hb⟩
theorem sources_any (r : List Dn) (p : List UInt8) (A : Option Addr) (c : Nat) (w : World) (hA : RcAt w A r) (hS : r.length ≤ 1024 → Sht r) (hM : MaxAt w) (hp : p.length ≤ maxLen) :
    Calls Tryz.prog 23 #[.slice A r.length c, .string (str p)] w (GotT w (SrcL r p)) := sources_of sortedKeys keysOf1 r p A c w hA hS hM hp
end Go.Proofs.YtjemffgidhgfjaaGreatDoor.Rk
