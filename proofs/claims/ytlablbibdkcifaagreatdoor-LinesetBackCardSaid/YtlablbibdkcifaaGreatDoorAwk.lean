/- The chapter's example: awake of the law. Condition: bytealg's MaxLen and the table of powers lie in their variables. -/
import Derived.Test.YtlablbibdkcifaaGreatDoorUnd
import Derived.Test.YtlablbibdkcifaaGreatDoorHas
namespace Go.Proofs.YtlablbibdkcifaaGreatDoor
open Go.RowKit Go.Deep Tr

namespace Ls
theorem el_of_block {α : Type} (f : α → List Value) (k : Nat) (hk : ∀ x, (f x).length = k) {w : World} {g : Nat} {cs : Array Value} {t : TypeId} {fr : Nat × Nat} {l : List α} (h : w.heap[g]? = some (.cells cs t fr)) (hcs : cs.toList = l.flatMap f) : ElAt f k w w.heap.size (some ⟨g, 0, none⟩) l := fun j hj => by
  refine ⟨g, 0, rfl, blk_lt h, fun i u hu => ?_⟩
  have hi : i < k := by have := (List.getElem?_eq_some_iff.1 hu).1; rw [hk] at this; exact this
  rw [cell_of_row _ _ _ _ _ _ h, Nat.zero_add, ← Array.getElem?_toList, hcs, flat_at f k hk l j i hj hi]
  exact hu
def ax : LN := [97, 47, 120]
def ay : LN := [97, 47, 121]
def L0 : List (LN × Int) := [(ax, 3), (ay, 0), (ax, 1), (ax, 2)]
def E1 : List Sp := [⟨ax, 1, 4⟩, ⟨ay, 0, 1⟩]
def D1 : List Sp := [⟨ax, 2, 3⟩]
def E2 : List Sp := [⟨ax, 1, 2⟩, ⟨ax, 3, 4⟩, ⟨ay, 0, 1⟩]
theorem vE1 : vld E1 = true := by decide +kernel
theorem vD1 : vld D1 = true := by decide +kernel
theorem vE2 : vld E2 = true := by decide +kernel
theorem ne_ax : ax ≠ ay := by decide
theorem has_E1 (p : LN) (m : Int) : has E1 p m = decide ((p, m) ∈ L0) := by
  rw [Bool.eq_iff_iff, has_iff, decide_eq_true_eq]
  unfold E1 L0
  simp only [List.mem_cons, List.not_mem_nil, or_false, Prod.mk.injEq]
  constructor
  · rintro ⟨s, rfl | rfl, h1, h2, h3⟩
    · dsimp only at h1 h2 h3
      subst h1
      rcases (show m = 1 ∨ m = 2 ∨ m = 3 by omega) with rfl | rfl | rfl <;> simp
    · dsimp only at h1 h2 h3
      subst h1
      obtain rfl : m = 0 := by omega
      simp
  · rintro (⟨rfl, rfl⟩ | ⟨rfl, rfl⟩ | ⟨rfl, rfl⟩ | ⟨rfl, rfl⟩)
    · exact ⟨_, .inl rfl, rfl, by decide, by decide⟩
    · exact ⟨_, .inr rfl, rfl, by decide, by decide⟩
    · exact ⟨_, .inl rfl, rfl, by decide, by decide⟩
    · exact ⟨_, .inl rfl, rfl, by decide, by decide⟩
theorem has_E2 (p : LN) (m : Int) : has E2 p m = (has E1 p m && !has D1 p m) := by
  have hne := ne_ax
  rw [Bool.eq_iff_iff, Bool.and_eq_true, Bool.not_eq_true', Bool.eq_false_iff, ne_eq, has_iff, has_iff, has_iff]
  unfold E1 E2 D1
  simp only [List.mem_cons, List.not_mem_nil, or_false]
  constructor
  · rintro ⟨s, rfl | rfl | rfl, h1, h2, h3⟩
    · dsimp only at h1 h2 h3
      exact ⟨⟨_, .inl rfl, h1, by show (1 : Int) ≤ m; omega, by show m < 4; omega⟩, by rintro ⟨s, rfl, _, h4, _⟩; dsimp only at h4; omega⟩
    · dsimp only at h1 h2 h3
      exact ⟨⟨_, .inl rfl, h1, by show (1 : Int) ≤ m; omega, by show m < 4; omega⟩, by rintro ⟨s, rfl, _, _, h4⟩; dsimp only at h4; omega⟩
    · dsimp only at h1 h2 h3
      exact ⟨⟨_, .inr rfl, h1, h2, h3⟩, by rintro ⟨s, rfl, h4, _, _⟩; dsimp only at h4; exact hne (h4.trans h1.symm)⟩
  · rintro ⟨⟨s, rfl | rfl, h1, h2, h3⟩, hn⟩
    · dsimp only at h1 h2 h3
      by_cases h4 : m < 2
      · exact ⟨_, .inl rfl, h1, h2, h4⟩
      · by_cases h5 : m < 3
        · exact absurd ⟨_, rfl, h1, by show (2 : Int) ≤ m; omega, h5⟩ hn
        · exact ⟨_, .inr (.inl rfl), h1, by show (3 : Int) ≤ m; omega, h3⟩
    · exact ⟨_, .inr (.inr rfl), h1, h2, h3⟩
theorem is_E1 {out : List Sp} (hv : Valid out) (h : ∀ p m, has out p m = decide ((p, m) ∈ L0)) : out = E1 := same_of_has hv.apart ((vld_iff E1).1 vE1).apart fun p m => by rw [h, has_E1]
theorem is_E2 {out : List Sp} (hv : Valid out) (h : ∀ p m, has out p m = (has E1 p m && !has D1 p m)) : out = E2 := same_of_has hv.apart ((vld_iff E2).1 vE2).apart fun p m => by rw [h, has_E2]
theorem prt_E1 : prt E1 = [97, 47, 120, 32, 49, 32, 52, 10, 97, 47, 121, 32, 48, 32, 49, 10] := by decide +kernel
theorem und_E1 : und E1 ax = [] := by decide +kernel
theorem ok_ax : Tre.pathOk ax = true := by decide +kernel
theorem cnt_E1 : countV E1 = 4 := by decide +kernel
theorem has_ay : hasV E1 ay 0 = true := by decide +kernel
theorem ok_L0 : ∀ x ∈ L0, Tre.pathOk x.1 = true ∧ 0 ≤ x.2 ∧ x.2 < 1024 := by decide +kernel
theorem path_E : (∀ s ∈ E1, s.path.length ≤ 1000000) ∧ (∀ s ∈ D1, s.path.length ≤ 1000000) := by decide +kernel
end Ls
set_option maxHeartbeats 8000000 in
set_option maxRecDepth 100000 in
theorem awake_any (w : World) (hM : MaxAt w) (hT : Cd.Tabs w) :
    Calls Tryz.prog 6 #[] w fun e w' => e = .returned (.bool true) ∧ Below w.heap.size w w' := by
  have hb0 : Below w.heap.size w (w.alloc (.cells #[.string ⟨#[97, 47, 120]⟩, .int .i64 3, .string ⟨#[97, 47, 121]⟩, .int .i64 0, .string ⟨#[97, 47, 120]⟩, .int .i64 1, .string ⟨#[97, 47, 120]⟩, .int .i64 2] 44)) := (Below.refl _ _).alloc (Nat.le_refl _) _
  have hN0 := heap_alloc_new w (.cells #[.string ⟨#[97, 47, 120]⟩, .int .i64 3, .string ⟨#[97, 47, 121]⟩, .int .i64 0, .string ⟨#[97, 47, 120]⟩, .int .i64 1, .string ⟨#[97, 47, 120]⟩, .int .i64 2] 44)
  have h1 := of_any Ls.L0 (some ⟨w.heap.size, 0, none⟩) 4 _ (Ls.el_of_block Ls.lnV 2 Ls.lnV_len hN0 rfl) (by decide) Ls.ok_L0 (hM.below hb0)
  rw [show Ls.L0.length = 4 from rfl] at h1
  clear hN0
  go_enter Tryz.func6, Tryz.ntmps6
  go_wp2_with fail
  generalize w.alloc (.cells #[.string ⟨#[97, 47, 120]⟩, .int .i64 3, .string ⟨#[97, 47, 121]⟩, .int .i64 0, .string ⟨#[97, 47, 120]⟩, .int .i64 1, .string ⟨#[97, 47, 120]⟩, .int .i64 2] 44) = W0 at *
  with_reducible refine h1.mono ?_
  clear h1
  rintro e w1 ⟨out, A1, c1, rfl, ⟨o1, o2, _⟩, hS1, hb1⟩
  obtain rfl := Ls.is_E1 o1 o2
  have hB1 := hb0.trans (hb1.mono hb0.size)
  clear o1 o2 hb0 hb1
  rw [show Ls.E1.length = 2 from rfl]
  have hb2 : Below w1.heap.size w1 (w1.alloc (.cells #[.string ⟨#[97, 47, 120]⟩, .int .i64 2, .int .i64 3] 32)) := (Below.refl _ _).alloc (Nat.le_refl _) _
  have hN2 := heap_alloc_new w1 (.cells #[.string ⟨#[97, 47, 120]⟩, .int .i64 2, .int .i64 3] 32)
  have hB2 := hB1.trans (hb2.mono hB1.size)
  have h2 := minus_any Ls.E1 Ls.D1 A1 (some ⟨w1.heap.size, 0, none⟩) c1 1 _ ⟨hS1.next hb2, by decide, Ls.path_E.1⟩ ⟨Ls.el_of_block Ls.spV 3 Ls.spV_len hN2 rfl, by decide, Ls.path_E.2⟩ (hM.below hB2)
  rw [show Ls.E1.length = 2 from rfl, show Ls.D1.length = 1 from rfl] at h2
  have hS2 := hS1.next hb2
  clear hN2 hS1 hB1 hb2
  go_wp2_with fail
  generalize w1.alloc (.cells #[.string ⟨#[97, 47, 120]⟩, .int .i64 2, .int .i64 3] 32) = W2 at *
  with_reducible refine h2.mono ?_
  clear h2
  rintro e w3 ⟨hor, hb3⟩
  rcases hor with ⟨_, out, A3, c3, rfl, ⟨o1, o2, _⟩, hS3⟩ | ⟨hv, _⟩
  rotate_left
  · rw [Ls.vE1, Ls.vD1] at hv; cases hv
  obtain rfl := Ls.is_E2 o1 o2
  rw [show Ls.E2.length = 3 from rfl]
  have hB3 := hB2.trans (hb3.mono hB2.size)
  have hE3 := hS2.next hb3
  have h4 := lprint_any Ls.E1 A1 c1 w3 ⟨hE3, by decide, Ls.path_E.1⟩ Ls.vE1 (hM.below hB3) (hT.below hB3)
  rw [show Ls.E1.length = 2 from rfl, Ls.prt_E1, show str [97, 47, 120, 32, 49, 32, 52, 10, 97, 47, 121, 32, 48, 32, 49, 10] = ⟨#[97, 47, 120, 32, 49, 32, 52, 10, 97, 47, 121, 32, 48, 32, 49, 10]⟩ from rfl] at h4
  clear o1 o2 hB2 hb3 hS2
  go_wp2_with fail
  with_reducible refine h4.mono ?_
  clear h4
  rintro e w4 ⟨rfl, hb4⟩
  have hB4 := hB3.trans (hb4.mono hB3.size)
  have hE4 := hE3.next hb4
  have hS4 := hS3.next hb4
  have h5 := under_any Ls.E1 Ls.ax A1 c1 w4 ⟨hE4, by decide, Ls.path_E.1⟩ Ls.vE1 (hM.below hB4) (by decide)
  rw [show Ls.E1.length = 2 from rfl, show str Ls.ax = ⟨#[97, 47, 120]⟩ from rfl] at h5
  clear hB3 hb4 hE3 hS3
  go_wp2_with fail
  with_reducible refine h5.mono ?_
  clear h5
  rintro e w5 ⟨hor, hb5⟩
  rcases hor with ⟨_, A5, c5, rfl, _⟩ | ⟨hv, _⟩
  rotate_left
  · rw [Ls.ok_ax] at hv; cases hv
  rw [Ls.und_E1, List.length_nil]
  have hB5 := hB4.trans (hb5.mono hB4.size)
  have hE5 := hE4.next hb5
  have hS5 := hS4.next hb5
  have h6 := count_any Ls.E1 A1 c1 w5 hE5 (by decide) Ls.path_E.1 (hM.below hB5)
  rw [show Ls.E1.length = 2 from rfl, Ls.cnt_E1] at h6
  clear hB4 hb5 hE4 hS4
  go_wp2_with fail
  with_reducible refine h6.mono ?_
  clear h6
  rintro e w6 ⟨rfl, hb6⟩
  have hB6 := hB5.trans (hb6.mono hB5.size)
  have hE6 := hE5.next hb6
  have hS6 := hS5.next hb6
  have h7 := has_any Ls.E1 Ls.ay 0 A1 c1 w6 hE6 (by decide) Ls.path_E.1 (hM.below hB6)
  rw [show Ls.E1.length = 2 from rfl, Ls.has_ay, show str Ls.ay = ⟨#[97, 47, 121]⟩ from rfl] at h7
  obtain ⟨g, o, rfl, hg, hc⟩ := hS6 1 (by decide)
  have x0 : w6.cell? ⟨g, o + 1 * 3, none⟩ = some (.string ⟨#[97, 47, 120]⟩) := hc 0 _ rfl
  have x1 : w6.cell? ⟨g, o + 1 * 3 + 1, none⟩ = some (.int .i64 3) := hc 1 _ rfl
  have x2 : w6.cell? ⟨g, o + 1 * 3 + 2, none⟩ = some (.int .i64 4) := hc 2 _ rfl
  rw [Nat.one_mul] at x0 x1 x2
  clear hB5 hb6 hE5 hS5 hc hS6
  go_wp2_with fail
  with_reducible refine h7.mono ?_
  clear h7
  rintro e w7 ⟨rfl, hb7⟩
  have hB7 := hB6.trans (hb7.mono hB6.size)
  go_wp2_with fail
  go_ret
  exact ⟨rfl, hB7⟩
end Go.Proofs.YtlablbibdkcifaaGreatDoor
