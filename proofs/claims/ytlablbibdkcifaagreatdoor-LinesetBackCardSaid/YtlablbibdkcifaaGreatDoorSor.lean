/- slices.SortFunc at a row of edges of the call's own. No condition but the length. -/
import Derived.Test.YtlablbibdkcifaaGreatDoorOrd
import Derived.Test.YtlablbibdkcifaaGreatDoorSrtShelf
import Derived.Shelf.SlSortCmp.NoneTotal
namespace Go.Proofs.YtlablbibdkcifaaGreatDoor
open Go.RowKit Go.Deep Tr

/-- The same slice has the edges in order. -/
def GotSo (w : World) (B : Nat) (l : List Ls.Ed) (v : Value) : Ending → World → Prop := fun e w' => e = .returned (.tuple #[]) ∧ ∃ d, d.Perm l ∧ Ls.Rise d ∧ d.length = l.length ∧ w'.ownsRow B 85 4 v d.length (Ls.edsV d) ∧ Below B w w'
theorem edV_one (x : Ls.Ed) : ∀ v ∈ Ls.edV x, v.oneCell' = true := fun v hv => by
  simp only [Ls.edV, List.mem_cons, List.not_mem_nil, or_false] at hv
  rcases hv with rfl | rfl | rfl | rfl <;> rfl
theorem sort_any (l : List Ls.Ed) (B : Nat) (v : Value) (w : World) (hown : w.ownsRow B 85 4 v l.length (Ls.edsV l)) (hl : l.length ≤ 10000000) :
    Calls Tryz.prog 67 #[v, .func (.func 68) #[] #[]] w (GotSo w B l v) := by
  by_cases h0 : l = []
  · subst h0
    obtain ⟨A, c, rfl, _, _, _⟩ := Ls.own_el Ls.edV 4 Ls.edV_len hown
    have hcon := AnyF.slices_SortFunc_none Tryz.sortEd A c (.func (.func 68) #[] #[]) w
    change Calls Tryz.prog 67 _ _ _ at hcon
    refine hcon.mono ?_
    rintro e w' ⟨rfl, rfl⟩
    exact ⟨rfl, [], .refl _, .nil, rfl, hown, Below.refl _ _⟩
  · rcases hown.2 with ⟨_, e0⟩ | ⟨g, c, cur, rfl, hb, hg, _⟩
    · exact absurd (List.length_eq_zero_iff.1 e0) h0
    · have hown2 : w.ownsRow B 85 4 (.slice (some ⟨g, 0, none⟩) l.toArray.size c) l.toArray.size (l.toArray.toList.flatMap Ls.edV) := hown
      have eg : ∀ args w, (callFunc 68 args).run Tryz.prog w = .ok (.enter 68 args) w := Go.Proofs.enters_of Tryz.func68 (by kernel_rfl) rfl
      have hcon := AnyQ.slices_SortFunc Tryz.sortEd 4 Tryz.isAgg85 Tryz.sizeOf85 Ls.edV Ls.edV_len edV_one Ls.cf Ls.swo 68 #[] g 0 c l.toArray w eg (fun _ _ _ _ x y => cmp_any x y _) (Ls.own_holds Ls.edV 4 (by decide) Ls.edV_len hown2) (Array.getElem?_eq_some_iff.1 hg).1 (by simp; omega)
      change Calls Tryz.prog 67 _ _ _ at hcon
      refine hcon.mono ?_
      rintro e w' ⟨rfl, d', n, os, hp, hs, rfl⟩
      obtain ⟨hperm, hsz⟩ := Ls.perm_of hp
      have h1 := Ls.sort_own Ls.edV 4 (by decide) Ls.edV_len (n := n) (os := os) hsz hown2
      have hdl : d'.toList.length = l.length := by simpa using hsz
      refine ⟨rfl, d'.toList, hperm, Ls.rise_of (by rw [hsz]; exact hs), hdl, ?_, h1.2⟩
      rw [hdl]
      exact h1.1
end Go.Proofs.YtlablbibdkcifaaGreatDoor
