/- Lists of changes where they lie; whether two trees are small. No condition but the lengths. -/
import Derived.Test.YtinkpbobkeppiaaGreatDoorDif
import Derived.Test.YtinkpbobkeppiaaGreatDoorFws
namespace Go.Proofs.YtinkpbobkeppiaaGreatDoor
open Go.RowKit Go.Deep

def ChsAt (w : World) (B : Nat) (A : Option Addr) (l : List Tre.Ch) : Prop := ∀ k (hk : k < l.length), ∃ g o, A = some ⟨g, o, none⟩ ∧ g < B ∧ w.cell? ⟨g, o + k * 4, none⟩ = some (.string (str l[k].path)) ∧ w.cell? ⟨g, o + k * 4 + 1, none⟩ = some (.int .i64 l[k].kind) ∧ w.cell? ⟨g, o + k * 4 + 2, none⟩ = some (.string (str l[k].old)) ∧ w.cell? ⟨g, o + k * 4 + 3, none⟩ = some (.string (str l[k].new))
theorem chsOf_at : ∀ (l : List Tre.Ch) (k : Nat) (hk : k < l.length), (chsOf l)[k * 4]? = some (.string (str l[k].path)) ∧ (chsOf l)[k * 4 + 1]? = some (.int .i64 l[k].kind) ∧ (chsOf l)[k * 4 + 2]? = some (.string (str l[k].old)) ∧ (chsOf l)[k * 4 + 3]? = some (.string (str l[k].new))
  | t :: l, 0, _ => ⟨rfl, rfl, rfl, rfl⟩
  | t :: l, k + 1, hk => by
    have h := chsOf_at l k (by simpa using hk)
    have e : ∀ m, (chsOf (t :: l))[(k + 1) * 4 + m]? = (chsOf l)[k * 4 + m]? := fun m => by
      rw [show (k + 1) * 4 + m = (k * 4 + m) + 4 by omega]
      rfl
    have e0 := e 0
    simp only [Nat.add_zero] at e0
    rw [e0, e 1, e 2, e 3]
    exact h
theorem chsOf_len (l : List Tre.Ch) : (chsOf l).length = l.length * 4 := by
  induction l with
  | nil => rfl
  | cons t l ih => rw [show chsOf (t :: l) = chOf t ++ chsOf l from rfl, List.length_append, ih]; show 4 + _ = _; simp; omega
theorem owns_chs {w : World} {B : Nat} {v : Value} {l : List Tre.Ch} (h : w.ownsRow B 59 4 v l.length (chsOf l)) : ∃ A c, v = .slice A l.length c ∧ ChsAt w w.heap.size A l := by
  by_cases hn : 0 < l.length
  · obtain ⟨g, c, rfl, _, hg, _, _, hcell⟩ := own_pos h hn
    refine ⟨_, c, rfl, fun k hk => ⟨g, 0, rfl, hg, ?_⟩⟩
    obtain ⟨h0, h1, h2, h3⟩ := chsOf_at l k hk
    rw [Nat.zero_add]
    exact ⟨(hcell _ (by omega)).trans h0, (hcell _ (by omega)).trans h1, (hcell _ (by omega)).trans h2, (hcell _ (by omega)).trans h3⟩
  · rcases h.2 with ⟨rfl, h0⟩ | ⟨g, cap, cur, rfl, _⟩
    · exact ⟨none, 0, by rw [h0], fun k hk => absurd hk (by omega)⟩
    · exact ⟨_, cap, rfl, fun k hk => absurd hk (by omega)⟩
theorem ChsAt.next {w w' : World} {A : Option Addr} {l : List Tre.Ch} (h : ChsAt w w.heap.size A l) (hb : Below w.heap.size w w') : ChsAt w' w'.heap.size A l := fun k hk => by
  obtain ⟨g, o, rfl, hg, h0, h1, h2, h3⟩ := h k hk
  exact ⟨g, o, rfl, Nat.lt_of_lt_of_le hg hb.size, (hb.cell (p := ⟨g, o + k * 4, none⟩) hg).trans h0, (hb.cell (p := ⟨g, o + k * 4 + 1, none⟩) hg).trans h1, (hb.cell (p := ⟨g, o + k * 4 + 2, none⟩) hg).trans h2, (hb.cell (p := ⟨g, o + k * 4 + 3, none⟩) hg).trans h3⟩
/-- Few of two trees. -/
theorem few_two (t u : Tr) (w : World) (hok : TrOk w t) (hou : TrOk w u) :
    Calls Tryz.prog 12 #[.slice (some ⟨w.heap.size, 0, none⟩) 2 2] (w.alloc (.cells #[.slice t.A t.ts.length t.c, .slice u.A u.ts.length u.c] 23)) fun x w' => (∃ b, x = .returned (.bool b) ∧ (b = true → (FlsLen t.ts ∧ t.ts.length ≤ 70) ∧ (FlsLen u.ts ∧ u.ts.length ≤ 70))) ∧ Below w.heap.size w w' := by
  have hb : Below w.heap.size w (w.alloc (.cells #[.slice t.A t.ts.length t.c, .slice u.A u.ts.length u.c] 23)) := (Below.refl _ _).alloc (Nat.le_refl _) _
  have h := few_all w.heap.size 2 [t, u] (w.alloc (.cells #[.slice t.A t.ts.length t.c, .slice u.A u.ts.length u.c] 23)) (by simp)
    (fun i h => by
      rw [cell_of_row _ _ _ _ _ _ (heap_alloc_new w _)]
      match i, h with
      | 0, _ => rfl
      | 1, _ => rfl)
    (fun p hp => by
      simp only [List.mem_cons, List.not_mem_nil, or_false] at hp
      rcases hp with rfl | rfl
      · exact ⟨hok.at_.next hb, hok.len, hok.each⟩
      · exact ⟨hou.at_.next hb, hou.len, hou.each⟩) (by simp)
  exact h.mono fun x w' ⟨⟨b, e, h1⟩, h2⟩ => ⟨⟨b, e, fun hb => ⟨few_lens (h1 hb t (by simp)), few_lens (h1 hb u (by simp))⟩⟩, hb.trans (h2.mono hb.size)⟩
theorem diffR_len (a b : List Tre.Fl) : (Tre.diffR a b).1.length ≤ a.length + b.length := by
  rw [diffR_def]
  split
  · simp
  · have h1 := Tre.paths_len a b
    have h2 : ∀ l : List (List UInt8), (l.flatMap (Tre.chg a b)).length ≤ l.length := fun l => by
      induction l with
      | nil => simp
      | cons p l ih => rw [List.flatMap_cons, List.length_append, List.length_cons]; have := Tre.chg_len a b p; omega
    exact Nat.le_trans (h2 _) h1
end Go.Proofs.YtinkpbobkeppiaaGreatDoor
