/- slices.SortFunc at a row of edges of the call's own. No condition but the length. -/
import Derived.Test.YtjemffgidhgfjaaGreatDoorMz2
import Derived.Test.YtjemffgidhgfjaaGreatDoorSrtShelf
import Derived.Test.YtjemffgidhgfjaaGreatDoorEpl
import Derived.Shelf.GgSortFunc.InsertionK
import Derived.Shelf.SlSortCmp.NoneTotal
namespace Go.Proofs.YtjemffgidhgfjaaGreatDoor
open Go.RowKit Go.Deep Tr

instance : Inhabited Ed := ⟨⟨0, 0, 0⟩⟩
namespace Gr
section
variable {α : Type} [Inhabited α]
theorem flatK_list (enc : α → List Value) (k : Nat) (h0 : 0 < k) (hk : ∀ x, (enc x).length = k) (d : Array α) : (Go.Sort.flatK enc k d).toList = d.toList.flatMap enc := by
  apply List.ext_getElem?
  intro t
  by_cases ht : t < d.size * k
  · have h1 : t / k < d.toList.length := by
      rw [Array.length_toList]; exact Nat.div_lt_of_lt_mul (by rwa [Nat.mul_comm])
    have h2 := flat_at enc k hk d.toList (t / k) (t % k) h1 (Nat.mod_lt _ h0)
    rw [Nat.div_add_mod'] at h2
    rw [h2]
    have h3 := Go.Sort.get_flatK enc k d t ht
    have h4 : t < (Go.Sort.flatK enc k d).size := by simpa using ht
    rw [Array.getElem?_toList, Array.getElem?_eq_getElem h4]
    rw [getElem!_pos _ t h4] at h3
    have h5 : t / k < d.size := by simpa using h1
    have h6 : t % k < (enc d[t / k]).length := by rw [hk]; exact Nat.mod_lt _ h0
    have h7 : (enc d.toList[t / k])[t % k]? = some ((enc d[t / k])[t % k]) := by rw [Array.getElem_toList]; exact List.getElem?_eq_getElem h6
    rw [h3, getElem!_pos d (t / k) h5, getElem!_pos _ (t % k) h6, h7]
  · rw [List.getElem?_eq_none (by simp; omega), List.getElem?_eq_none (by rw [flat_len enc k hk]; simp; omega)]
theorem own_holds (enc : α → List Value) (k : Nat) (h0 : 0 < k) (hk : ∀ x, (enc x).length = k) {w : World} {B g cap : Nat} {e : TypeId} {d : Array α} (h : w.ownsRow B e k (.slice (some ⟨g, 0, none⟩) d.size cap) d.size (d.toList.flatMap enc)) : Go.Sort.HoldsK enc k w g 0 d := by
  intro j hj
  have hj' : j < d.size * k := by simpa using hj
  refine ⟨?_, h.frozenAt _⟩
  rw [Nat.zero_add, h.cellAt j hj', ← flatK_list enc k h0 hk, Array.getElem?_toList, Array.getElem?_eq_getElem hj]
  rw [getElem!_pos _ j hj]
  rfl
theorem sort_own (enc : α → List Value) (k : Nat) (h0 : 0 < k) (hk : ∀ x, (enc x).length = k) {w : World} {B g cap n : Nat} {e : TypeId} {os : Array Obj} {d d' : Array α} (hl : d'.size = d.size) (h : w.ownsRow B e k (.slice (some ⟨g, 0, none⟩) d.size cap) d.size (d.toList.flatMap enc)) :
    (Go.Proofs.sortWorldK enc k w g 0 n d' os).ownsRow B e k (.slice (some ⟨g, 0, none⟩) d.size cap) d.size (d'.toList.flatMap enc) ∧ Below B w (Go.Proofs.sortWorldK enc k w g 0 n d' os) := by
  rcases h.2 with ⟨e1, _⟩ | ⟨g', cap', cur, e1, hb, hg, h1, h2, h3, h4⟩
  · cases e1
  · injection e1 with e1 _ e3
    injection e1 with e1
    injection e1 with e1
    subst e1 e3
    have hgl : g < w.heap.size := (Array.getElem?_eq_some_iff.1 hg).1
    have hw : (Go.Proofs.sortWorldK enc k w g 0 n d' os).heap[g]? = some (.cells (Go.Sort.putCells id 0 (Go.Sort.flatK enc k d') cur) e (0, 0)) := by
      unfold Go.Proofs.sortWorldK Go.Sort.putRowK
      rw [Go.Sort.heap_grow_old _ _ (by simpa using hgl)]
      simp [Go.Sort.putRow, Go.Sort.mapBlock, Go.Sort.ahead, Array.getElem?_modify, hg, Go.Sort.onCells]
    refine ⟨⟨?_, .inr ⟨g, cap, _, rfl, hb, hw, h1, h2, by simp [Go.Sort.putCells, h3], ?_⟩⟩, ?_⟩
    · rw [flat_len enc k hk, Array.length_toList, hl]
    · rw [← flatK_list enc k h0 hk]
      apply List.ext_getElem?
      intro j
      have hcs : d.size * k ≤ cur.size := by rw [h3]; exact Nat.mul_le_mul_right k h1
      by_cases hj : j < d.size * k
      · rw [List.getElem?_take_of_lt hj, Array.getElem?_toList, Array.getElem?_toList]
        have hj2 : j < (Go.Sort.flatK enc k d').size := by simpa [hl] using hj
        simp only [Go.Sort.putCells]
        rw [Array.getElem?_eq_getElem hj2]
        simp [show j < cur.size by omega, show j < d'.size * k by rw [hl]; exact hj]
      · rw [List.getElem?_take_eq_none (by omega), List.getElem?_eq_none (by simp [hl]; omega)]
    · refine ⟨rfl, rfl, rfl, by simp [Go.Proofs.sortWorldK, Go.Sort.putRowK], fun q hq => ?_⟩
      have hqg : g ≠ q := by omega
      have hql : q < w.heap.size := by omega
      unfold Go.Proofs.sortWorldK Go.Sort.putRowK
      rw [Go.Sort.heap_grow_old _ _ (by simpa using hql)]
      simp [Go.Sort.putRow, Go.Sort.mapBlock, Go.Sort.ahead, Array.getElem?_modify, hqg]
end
theorem perm_of {d d' : Array Ed} (h : Go.Sort.PermIn 0 d.size d d') : d'.toList.Perm d.toList ∧ d'.size = d.size := by
  obtain ⟨h1, _, h3⟩ := h
  refine ⟨?_, h1⟩
  have e1 : d'.extract 0 d.size = d' := by rw [← h1]; simp
  have e2 : d.extract 0 d.size = d := by simp
  rw [e1, e2] at h3
  exact h3
theorem ltOf_lt (x y : Ed) : Go.Proofs.ltOf cmp x y = lt x y := rfl
theorem swo : Go.Sort.SWO (Go.Proofs.ltOf cmp) where
  irrefl x := by rw [ltOf_lt, Bool.eq_false_iff]; intro h; have := (lt_iff x x).1 h; omega
  trans x y z h1 h2 := by rw [ltOf_lt] at *; rw [lt_iff] at *; omega
  ntrans x y z h1 h2 := by
    rw [ltOf_lt, Bool.eq_false_iff] at *
    intro h
    rw [ne_eq, lt_iff] at h1 h2
    rw [lt_iff] at h
    omega
theorem srt_of {d' : Array Ed} (h : Go.Sort.SortedIn (Go.Proofs.ltOf cmp) 0 d'.size d') : Srt d'.toList := by
  unfold Srt
  rw [List.pairwise_iff_getElem]
  intro i j hi hj hij
  have hi' : i < d'.size := by simpa using hi
  have hj' : j < d'.size := by simpa using hj
  have := h i j (Nat.zero_le _) hij hj'
  rw [getElem!_pos d' i hi', getElem!_pos d' j hj', ltOf_lt] at this
  simpa using this
end Gr
/-- The same slice has the edges in order. -/
def GotSo (w : World) (B : Nat) (l : List Ed) (v : Value) : Ending → World → Prop := fun e w' => e = .returned (.tuple #[]) ∧ ∃ d, d.Perm l ∧ Gr.Srt d ∧ d.length = l.length ∧ w'.ownsRow B 56 3 v d.length (Gr.edsV d) ∧ Below B w w'
theorem edV_oneS (x : Ed) : ∀ v ∈ Gr.edV x, v.oneCell' = true := fun v hv => by
  simp only [Gr.edV, List.mem_cons, List.not_mem_nil, or_false] at hv
  rcases hv with rfl | rfl | rfl <;> rfl
theorem sort_any (l : List Ed) (B : Nat) (v : Value) (w : World) (hown : w.ownsRow B 56 3 v l.length (Gr.edsV l)) (hl : l.length ≤ 10000000) :
    Calls Tryz.prog 31 #[v, .func (.func 32) #[] #[]] w (GotSo w B l v) := by
  by_cases h0 : l = []
  · subst h0
    obtain ⟨A, c, rfl, _, _, _⟩ := Gr.own_el Gr.edV 3 Gr.edV_len hown
    have hcon := AnyF.slices_SortFunc_none Tryz.sortEd A c (.func (.func 32) #[] #[]) w
    change Calls Tryz.prog 31 _ _ _ at hcon
    refine hcon.mono ?_
    rintro e w' ⟨rfl, rfl⟩
    exact ⟨rfl, [], .refl _, .nil, rfl, hown, Below.refl _ _⟩
  · rcases hown.2 with ⟨_, e0⟩ | ⟨g, c, cur, rfl, hb, hg, _⟩
    · exact absurd (List.length_eq_zero_iff.1 e0) h0
    · have hown2 : w.ownsRow B 56 3 (.slice (some ⟨g, 0, none⟩) l.toArray.size c) l.toArray.size (l.toArray.toList.flatMap Gr.edV) := hown
      have eg : ∀ args w, (callFunc 32 args).run Tryz.prog w = .ok (.enter 32 args) w := Go.Proofs.enters_of Tryz.func32 (by kernel_rfl) rfl
      have hcon := AnyQ.slices_SortFunc Tryz.sortEd 3 Tryz.isAgg56 Tryz.sizeOf56 Gr.edV Gr.edV_len edV_oneS Gr.cmp Gr.swo 32 #[] g 0 c l.toArray w eg (fun _ _ _ _ x y => compare_grow x y _) (Gr.own_holds Gr.edV 3 (by decide) Gr.edV_len hown2) (Array.getElem?_eq_some_iff.1 hg).1 (by simp; omega)
      change Calls Tryz.prog 31 _ _ _ at hcon
      refine hcon.mono ?_
      rintro e w' ⟨rfl, d', n, os, hp, hs, rfl⟩
      obtain ⟨hperm, hsz⟩ := Gr.perm_of hp
      have h1 := Gr.sort_own Gr.edV 3 (by decide) Gr.edV_len (n := n) (os := os) hsz hown2
      have hdl : d'.toList.length = l.length := by simpa using hsz
      refine ⟨rfl, d'.toList, hperm, Gr.srt_of (by rw [hsz]; exact hs), hdl, ?_, h1.2⟩
      rw [hdl]
      exact h1.1
end Go.Proofs.YtjemffgidhgfjaaGreatDoor
