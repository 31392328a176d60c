/- slices.Sorted of the keys of a map of numbers. No condition. -/
import Derived.Test.YtjemffgidhgfjaaGreatDoorEpl
import Derived.Test.YtjemffgidhgfjaaGreatDoorIter
namespace Go.Proofs.YtjemffgidhgfjaaGreatDoor
open Go.RowKit Go.Deep Go.Maps Tr

/-- What the map of the touched paths says. -/
def nF (C : List (List UInt8)) (v : List UInt8 → Int) (p : List UInt8) : Option Value := if C.contains p then some (.int .i64 (v p)) else none
theorem keysN1 (mb : Option Nat) (W : World) : Calls Tryz.prog 29 #[.map mb] W fun e w' => e = .returned (.func (.func 69) #[] #[.pointer (some ⟨W.heap.size, 0, none⟩)]) ∧ w' = W.alloc (.cells #[.map mb] 60) := callsIn_wide.1 (Tryz.maps_Keys_29 mb W)
theorem enc_flatN (l : List (List UInt8)) : l.map encStr = l.flatMap Rk.Rc.stV := by
  induction l with
  | nil => rfl
  | cons x t ih => rw [List.map_cons, List.flatMap_cons, ih]; rfl
theorem has_nF {D : DataW Value} {C : List (List UInt8)} {f : List UInt8 → Int} (hat : ∀ p z, D.atKey (.string p) z = match nF C f p with | some v => DataW.held v | none => z) (x : List UInt8) : Maps.has D (.string x) = true ↔ x ∈ C := by
  by_cases h : C.contains x = true
  · have h1 : nF C f x = some (.int .i64 (f x)) := by unfold nF; rw [if_pos h]
    exact ⟨fun _ => List.contains_iff_mem.1 h, fun _ => has_true_of_atKey fun z => by rw [hat x z, h1]⟩
  · have h1 : nF C f x = none := by unfold nF; rw [if_neg h]
    have h2 := has_false_of_atKey (D := D) (k := .string x) fun z => by rw [hat x z, h1]
    exact ⟨fun h3 => (by rw [h2] at h3; cases h3), fun h3 => absurd (List.contains_iff_mem.2 h3) h⟩
theorem nodup_ofN (C : List (List UInt8)) : ∃ l : List (List UInt8), l.Nodup ∧ ∀ x, x ∈ l ↔ x ∈ C := by
  induction C with
  | nil => exact ⟨[], List.nodup_nil, fun _ => Iff.rfl⟩
  | cons a t ih =>
    obtain ⟨l, h1, h2⟩ := ih
    by_cases ha : a ∈ t
    · exact ⟨l, h1, fun x => by
        rw [h2 x, List.mem_cons]
        exact ⟨.inr, fun h => h.elim (fun e => e ▸ ha) id⟩⟩
    · exact ⟨a :: l, List.nodup_cons.2 ⟨fun h => ha ((h2 a).1 h), h1⟩, fun x => by rw [List.mem_cons, List.mem_cons, h2 x]⟩
theorem srt_asc {l : List (List UInt8)} (h : l.Pairwise fun a b => leB a b = true) (hn : l.Nodup) : Rk.Rc.Asc l := by
  refine (h.and hn).imp fun {a b} hab => ?_
  obtain ⟨h1, h2⟩ := hab
  rcases Tre.bl_total a b with h3 | h3 | h3
  · exact h3
  · exact absurd h3 h2
  · rw [bytesLess_eq, decide_eq_true_eq] at h3
    simp only [leB, decide_eq_true_eq] at h1
    exact absurd h1 (by simpa using h3)
/-- A list of texts comes back. -/
def GotNd (w : World) (n : Nat) (P : List (List UInt8) → Prop) (e : Ending) (w' : World) : Prop := ∃ (L : List (List UInt8)) (A : Option Addr) (c : Nat), e = .returned (.slice A L.length c) ∧ P L ∧ L.length ≤ n ∧ (∀ g o, A = some ⟨g, o, none⟩ → w.heap.size ≤ g) ∧ Rk.Rc.StAt w' w'.heap.size A L ∧ Below w.heap.size w w'
theorem sortedN (b n : Nat) (C : List (List UInt8)) (f : List UInt8 → Int) (w : World) (h : Rk.Mp w b n (nF C f)) (hn : n ≤ 3000000) :
    Calls Tryz.prog 28 #[.func (.func 69) #[] #[.pointer (some ⟨w.heap.size, 0, none⟩)]] (w.alloc (.cells #[.map (some b)] 60)) (GotNd (w.alloc (.cells #[.map (some b)] 60)) n fun L => Rk.Rc.Asc L ∧ ∀ x, x ∈ L ↔ x ∈ C) := by
  obtain ⟨D, hown, hD, hat⟩ := h
  have hsz := hown.size_le
  refine (callsIn_wide.1 (Tryz.slices_Sorted_keys_28_29 b n D Rk.tokR w hown (by unfold maxLen; omega) (by omega))).mono ?_
  rintro e w' ⟨v, ss, rfl, hperm, hrow, _, hb⟩
  obtain ⟨C', hC1, hC2⟩ := nodup_ofN C
  have hcol : Collected D (fun _ => false) C' := ⟨hC1, fun x => by rw [hC2 x, has_nF hat x]; simp⟩
  have hp2 : ss.Perm C' := hperm.trans (hcol.perm hown Rk.kStr Tryz.underlying9 fun _ => rfl).symm
  have hms := List.mergeSort_perm ss leB
  have hlen : (ss.mergeSort leB).length = ss.length := List.length_mergeSort ss
  have hsl : ss.length ≤ n := by
    obtain ⟨es, rfl⟩ := hD
    have h1 := hperm.length_eq
    have h2 : (strKeys (DataW.map es)).length = es.length := List.length_map _
    have h3 : Maps.size (DataW.map es) = es.length := by simp [Maps.size]
    omega
  have hrow2 : w'.ownsRow (w.alloc (.cells #[.map (some b)] 60)).heap.size 9 1 v (ss.mergeSort leB).length ((ss.mergeSort leB).flatMap Rk.Rc.stV) := by
    rw [hlen, ← enc_flatN]; exact hrow
  obtain ⟨A, c, rfl, _, _, hel⟩ := Rk.Rc.own_el Rk.Rc.stV 1 Rk.Rc.stV_len hrow2
  have tr : ∀ a b c : List UInt8, leB a b = true → leB b c = true → leB a c = true := fun a b c h1 h2 => by simp only [leB, decide_eq_true_eq] at *; exact List.le_trans h1 h2
  have hto : ∀ a b : List UInt8, (leB a b || leB b a) = true := fun a b => by simp only [leB, Bool.or_eq_true, decide_eq_true_eq]; exact List.le_total a b
  exact ⟨ss.mergeSort leB, A, c, rfl, ⟨srt_asc (List.pairwise_mergeSort tr hto ss) (((hms.trans hp2).nodup_iff).2 hC1), fun x => by rw [(hms.trans hp2).mem_iff, hC2 x]⟩, by omega, fun g o e => by subst e; exact (hrow2.lt g rfl).1, hel, hb⟩
/-- The map while the nodes are numbered: the first i of them have their numbers. -/
def gF (L C : List (List UInt8)) (i : Nat) (p : List UInt8) : Option Value := match (L.take i).findIdx? (· == p) with | some k => some (.int .i64 (k : Int)) | none => nF C (fun _ => 0) p
theorem gF_zero (L C : List (List UInt8)) : gF L C 0 = nF C fun _ => 0 := by
  funext p
  unfold gF
  rw [List.take_zero]
  rfl
theorem gF_succ {L C : List (List UInt8)} (hL : Rk.Rc.Asc L) {i : Nat} (hi : i < L.length) : gF L C (i + 1) = fun x => if x = L[i] then some (.int .i64 (i : Int)) else gF L C i x := by
  funext x
  unfold gF
  rw [List.take_succ_eq_append_getElem hi, List.findIdx?_append]
  by_cases hx : x = L[i]
  · have hn : (L.take i).findIdx? (· == x) = none := by
      rw [List.findIdx?_eq_none_iff]
      intro y hy
      obtain ⟨j, hj, rfl⟩ := List.mem_take_iff_getElem.1 hy
      have h1 := Tre.bl_ne (List.pairwise_iff_getElem.1 hL j i (by omega) hi (by omega))
      rw [beq_eq_false_iff_ne, hx]
      exact h1
    rw [hn, if_pos hx, hx]
    simp
    omega
  · rw [if_neg hx]
    have hs : [L[i]].findIdx? (· == x) = none := by
      rw [List.findIdx?_eq_none_iff]
      intro y hy
      rw [List.mem_singleton.1 hy, beq_eq_false_iff_ne]
      exact fun e => hx e.symm
    rw [hs]
    cases (L.take i).findIdx? (· == x) <;> rfl
theorem gF_all {L C : List (List UInt8)} {p : List UInt8} (hp : p ∈ L) : gF L C L.length p = some (.int .i64 (Gr.idx L p)) := by
  unfold gF Gr.idx
  rw [List.take_length]
  cases h : L.findIdx? (· == p) with
  | some k => rfl
  | none =>
    rw [List.findIdx?_eq_none_iff] at h
    have := h p hp
    simp at this
end Go.Proofs.YtjemffgidhgfjaaGreatDoor
