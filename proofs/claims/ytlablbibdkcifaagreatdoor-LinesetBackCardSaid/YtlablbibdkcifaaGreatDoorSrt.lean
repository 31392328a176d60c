/- A row of structs of the call's own, sorted by the library: before and behind. No condition. -/
import Derived.Test.YtlablbibdkcifaaGreatDoorSpn
import Derived.Shelf.GgSortFunc.InsertionK
namespace Go.Proofs.YtlablbibdkcifaaGreatDoor
open Go.RowKit Go.Deep Tr

namespace Ls
section
variable {α : Type} [Inhabited α]
theorem flatK_list (enc : α → List Value) (k : Nat) (h0 : 0 < k) (hk : ∀ x, (enc x).length = k) (d : Array α) : (Go.Sort.flatK enc k d).toList = d.toList.flatMap enc := by
  apply List.ext_getElem?
  intro t
  by_cases ht : t < d.size * k
  · have h1 : t / k < d.toList.length := by
      rw [Array.length_toList]; exact Nat.div_lt_of_lt_mul (by rwa [Nat.mul_comm])
    have h2 := flat_at enc k hk d.toList (t / k) (t % k) h1 (Nat.mod_lt _ h0)
    rw [Nat.div_add_mod'] at h2
    rw [h2]
    have h3 := Go.Sort.get_flatK enc k d t ht
    have h4 : t < (Go.Sort.flatK enc k d).size := by simpa using ht
    rw [Array.getElem?_toList, Array.getElem?_eq_getElem h4]
    rw [getElem!_pos _ t h4] at h3
    have h5 : t / k < d.size := by simpa using h1
    have h6 : t % k < (enc d[t / k]).length := by rw [hk]; exact Nat.mod_lt _ h0
    have h7 : (enc d.toList[t / k])[t % k]? = some ((enc d[t / k])[t % k]) := by rw [Array.getElem_toList]; exact List.getElem?_eq_getElem h6
    rw [h3, getElem!_pos d (t / k) h5, getElem!_pos _ (t % k) h6, h7]
  · rw [List.getElem?_eq_none (by simp; omega), List.getElem?_eq_none (by rw [flat_len enc k hk]; simp; omega)]
theorem own_holds (enc : α → List Value) (k : Nat) (h0 : 0 < k) (hk : ∀ x, (enc x).length = k) {w : World} {B g cap : Nat} {e : TypeId} {d : Array α} (h : w.ownsRow B e k (.slice (some ⟨g, 0, none⟩) d.size cap) d.size (d.toList.flatMap enc)) : Go.Sort.HoldsK enc k w g 0 d := by
  intro j hj
  have hj' : j < d.size * k := by simpa using hj
  refine ⟨?_, h.frozenAt _⟩
  rw [Nat.zero_add, h.cellAt j hj', ← flatK_list enc k h0 hk, Array.getElem?_toList, Array.getElem?_eq_getElem hj]
  rw [getElem!_pos _ j hj]
  rfl
theorem sort_own (enc : α → List Value) (k : Nat) (h0 : 0 < k) (hk : ∀ x, (enc x).length = k) {w : World} {B g cap n : Nat} {e : TypeId} {os : Array Obj} {d d' : Array α} (hl : d'.size = d.size) (h : w.ownsRow B e k (.slice (some ⟨g, 0, none⟩) d.size cap) d.size (d.toList.flatMap enc)) :
    (Go.Proofs.sortWorldK enc k w g 0 n d' os).ownsRow B e k (.slice (some ⟨g, 0, none⟩) d.size cap) d.size (d'.toList.flatMap enc) ∧ Below B w (Go.Proofs.sortWorldK enc k w g 0 n d' os) := by
  rcases h.2 with ⟨e1, _⟩ | ⟨g', cap', cur, e1, hb, hg, h1, h2, h3, h4⟩
  · cases e1
  · injection e1 with e1 _ e3
    injection e1 with e1
    injection e1 with e1
    subst e1 e3
    have hgl : g < w.heap.size := (Array.getElem?_eq_some_iff.1 hg).1
    have hw : (Go.Proofs.sortWorldK enc k w g 0 n d' os).heap[g]? = some (.cells (Go.Sort.putCells id 0 (Go.Sort.flatK enc k d') cur) e (0, 0)) := by
      unfold Go.Proofs.sortWorldK Go.Sort.putRowK
      rw [Go.Sort.heap_grow_old _ _ (by simpa using hgl)]
      simp [Go.Sort.putRow, Go.Sort.mapBlock, Go.Sort.ahead, Array.getElem?_modify, hg, Go.Sort.onCells]
    refine ⟨⟨?_, .inr ⟨g, cap, _, rfl, hb, hw, h1, h2, by simp [Go.Sort.putCells, h3], ?_⟩⟩, ?_⟩
    · rw [flat_len enc k hk, Array.length_toList, hl]
    · rw [← flatK_list enc k h0 hk]
      apply List.ext_getElem?
      intro j
      have hcs : d.size * k ≤ cur.size := by rw [h3]; exact Nat.mul_le_mul_right k h1
      by_cases hj : j < d.size * k
      · rw [List.getElem?_take_of_lt hj, Array.getElem?_toList, Array.getElem?_toList]
        have hj2 : j < (Go.Sort.flatK enc k d').size := by simpa [hl] using hj
        simp only [Go.Sort.putCells]
        rw [Array.getElem?_eq_getElem hj2]
        simp [show j < cur.size by omega, show j < d'.size * k by rw [hl]; exact hj]
      · rw [List.getElem?_take_eq_none (by omega), List.getElem?_eq_none (by simp [hl]; omega)]
    · refine ⟨rfl, rfl, rfl, by simp [Go.Proofs.sortWorldK, Go.Sort.putRowK], fun q hq => ?_⟩
      have hqg : g ≠ q := by omega
      have hql : q < w.heap.size := by omega
      unfold Go.Proofs.sortWorldK Go.Sort.putRowK
      rw [Go.Sort.heap_grow_old _ _ (by simpa using hql)]
      simp [Go.Sort.putRow, Go.Sort.mapBlock, Go.Sort.ahead, Array.getElem?_modify, hqg]
end
end Ls
end Go.Proofs.YtlablbibdkcifaaGreatDoor
