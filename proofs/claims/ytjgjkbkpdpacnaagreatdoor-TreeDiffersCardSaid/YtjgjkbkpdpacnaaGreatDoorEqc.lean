/- slices.Equal of two equal lists of changes; the law of TreeDiffers. Condition: the tables of digest, codec and the library lie. -/
import Derived.Test.YtjgjkbkpdpacnaaGreatDoorQdf
import Derived.Test.YtjgjkbkpdpacnaaGreatDoorFws
namespace Go.Proofs.YtjgjkbkpdpacnaaGreatDoor
open Go.RowKit Go.Deep

def ChsAt (w : World) (B : Nat) (A : Option Addr) (l : List Tre.Ch) : Prop := ∀ k (hk : k < l.length), ∃ g o, A = some ⟨g, o, none⟩ ∧ g < B ∧ w.cell? ⟨g, o + k * 4, none⟩ = some (.string (str l[k].path)) ∧ w.cell? ⟨g, o + k * 4 + 1, none⟩ = some (.int .i64 l[k].kind) ∧ w.cell? ⟨g, o + k * 4 + 2, none⟩ = some (.string (str l[k].old)) ∧ w.cell? ⟨g, o + k * 4 + 3, none⟩ = some (.string (str l[k].new))
theorem chsOf_at : ∀ (l : List Tre.Ch) (k : Nat) (hk : k < l.length), (chsOf l)[k * 4]? = some (.string (str l[k].path)) ∧ (chsOf l)[k * 4 + 1]? = some (.int .i64 l[k].kind) ∧ (chsOf l)[k * 4 + 2]? = some (.string (str l[k].old)) ∧ (chsOf l)[k * 4 + 3]? = some (.string (str l[k].new))
  | t :: l, 0, _ => ⟨rfl, rfl, rfl, rfl⟩
  | t :: l, k + 1, hk => by
    have h := chsOf_at l k (by simpa using hk)
    have e : ∀ m, (chsOf (t :: l))[(k + 1) * 4 + m]? = (chsOf l)[k * 4 + m]? := fun m => by
      rw [show (k + 1) * 4 + m = (k * 4 + m) + 4 by omega]
      rfl
    have e0 := e 0
    simp only [Nat.add_zero] at e0
    rw [e0, e 1, e 2, e 3]
    exact h
theorem chsOf_len (l : List Tre.Ch) : (chsOf l).length = l.length * 4 := by
  induction l with
  | nil => rfl
  | cons t l ih => rw [show chsOf (t :: l) = chOf t ++ chsOf l from rfl, List.length_append, ih]; show 4 + _ = _; simp; omega
theorem owns_chs {w : World} {B : Nat} {v : Value} {l : List Tre.Ch} (h : w.ownsRow B 59 4 v l.length (chsOf l)) : ∃ A c, v = .slice A l.length c ∧ ChsAt w w.heap.size A l := by
  by_cases hn : 0 < l.length
  · obtain ⟨g, c, rfl, _, hg, _, _, hcell⟩ := own_pos h hn
    refine ⟨_, c, rfl, fun k hk => ⟨g, 0, rfl, hg, ?_⟩⟩
    obtain ⟨h0, h1, h2, h3⟩ := chsOf_at l k hk
    rw [Nat.zero_add]
    exact ⟨(hcell _ (by omega)).trans h0, (hcell _ (by omega)).trans h1, (hcell _ (by omega)).trans h2, (hcell _ (by omega)).trans h3⟩
  · rcases h.2 with ⟨rfl, h0⟩ | ⟨g, cap, cur, rfl, _⟩
    · exact ⟨none, 0, by rw [h0], fun k hk => absurd hk (by omega)⟩
    · exact ⟨_, cap, rfl, fun k hk => absurd hk (by omega)⟩
theorem ChsAt.next {w w' : World} {A : Option Addr} {l : List Tre.Ch} (h : ChsAt w w.heap.size A l) (hb : Below w.heap.size w w') : ChsAt w' w'.heap.size A l := fun k hk => by
  obtain ⟨g, o, rfl, hg, h0, h1, h2, h3⟩ := h k hk
  exact ⟨g, o, rfl, Nat.lt_of_lt_of_le hg hb.size, (hb.cell (p := ⟨g, o + k * 4, none⟩) hg).trans h0, (hb.cell (p := ⟨g, o + k * 4 + 1, none⟩) hg).trans h1, (hb.cell (p := ⟨g, o + k * 4 + 2, none⟩) hg).trans h2, (hb.cell (p := ⟨g, o + k * 4 + 3, none⟩) hg).trans h3⟩
set_option maxHeartbeats 4000000 in
set_option maxRecDepth 100000 in
theorem eqc_true (A A' : Option Addr) (c c' : Nat) (l : List Tre.Ch) (w : World) (hA : ChsAt w w.heap.size A l) (hA' : ChsAt w w.heap.size A' l) (hl : l.length ≤ 1000000000) :
    Calls Tryz.prog 39 #[.slice A l.length c, .slice A' l.length c'] w fun x w' => x = .returned (.bool true) ∧ Below w.heap.size w w' := by
  go_enter Tryz.func39, Tryz.ntmps39
  go_wp2_with fail
  go_loopw [13] (fun v wr => ∃ k : Nat, k ≤ l.length ∧ v = .int .i64 k ∧ Below w.heap.size w wr) (fun v _ => l.length - (intOf v).toNat)
  case atStart => exact ⟨0, by omega, rfl, Below.refl _ _⟩
  case round =>
    obtain ⟨k, hk, rfl, hb⟩ := hrel
    by_cases hlt : k < l.length
    · obtain ⟨g, o, rfl, hg, hc0, hc1, hc2, hc3⟩ := hA k hlt
      obtain ⟨g', o', rfl, hg', hc0', hc1', hc2', hc3'⟩ := hA' k hlt
      have hd0 := (hb.cell (p := ⟨g, o + k * 4, none⟩) hg).trans hc0
      have hd1 := (hb.cell (p := ⟨g, o + k * 4 + 1, none⟩) hg).trans hc1
      have hd2 := (hb.cell (p := ⟨g, o + k * 4 + 2, none⟩) hg).trans hc2
      have hd3 := (hb.cell (p := ⟨g, o + k * 4 + 3, none⟩) hg).trans hc3
      have hd0' := (hb.cell (p := ⟨g', o' + k * 4, none⟩) hg').trans hc0'
      have hd1' := (hb.cell (p := ⟨g', o' + k * 4 + 1, none⟩) hg').trans hc1'
      have hd2' := (hb.cell (p := ⟨g', o' + k * 4 + 2, none⟩) hg').trans hc2'
      have hd3' := (hb.cell (p := ⟨g', o' + k * 4 + 3, none⟩) hg').trans hc3'
      clear hc0 hc1 hc2 hc3 hc0' hc1' hc2' hc3' hA hA'
      have hki : (k : Int) < (l.length : Int) := by omega
      go_upto_region 6 with (fail)
      generalize l[k] = t at *
      go_quiet (fail)
      have hb2 := below_drewN hb nq
      generalize wr.drewN nq = w2 at *
      clear hd0 hd1 hd2 hd3 hd0' hd1' hd2' hd3' hb
      go_wp2_with fail
      go_roundw
      case rel => exact ⟨k + 1, by omega, by go_num, hb2⟩
      case measure => simp [intOf]; omega
    · have hki : decide ((k : Int) < (l.length : Int)) = false := by simp; omega
      go_wp2_with fail
      go_ret
      exact ⟨rfl, hb⟩
/-- Few of two trees. -/
theorem few_two (t u : Tr) (w : World) (hok : TrOk w t) (hou : TrOk w u) :
    Calls Tryz.prog 12 #[.slice (some ⟨w.heap.size, 0, none⟩) 2 2] (w.alloc (.cells #[.slice t.A t.ts.length t.c, .slice u.A u.ts.length u.c] 23)) fun x w' => (∃ b, x = .returned (.bool b) ∧ (b = true → (FlsLen t.ts ∧ t.ts.length ≤ 70) ∧ (FlsLen u.ts ∧ u.ts.length ≤ 70))) ∧ Below w.heap.size w w' := by
  have hb : Below w.heap.size w (w.alloc (.cells #[.slice t.A t.ts.length t.c, .slice u.A u.ts.length u.c] 23)) := (Below.refl _ _).alloc (Nat.le_refl _) _
  have h := few_all w.heap.size 2 [t, u] (w.alloc (.cells #[.slice t.A t.ts.length t.c, .slice u.A u.ts.length u.c] 23)) (by simp)
    (fun i h => by
      rw [cell_of_row _ _ _ _ _ _ (heap_alloc_new w _)]
      match i, h with
      | 0, _ => rfl
      | 1, _ => rfl)
    (fun p hp => by
      simp only [List.mem_cons, List.not_mem_nil, or_false] at hp
      rcases hp with rfl | rfl
      · exact ⟨hok.at_.next hb, hok.len, hok.each⟩
      · exact ⟨hou.at_.next hb, hou.len, hou.each⟩) (by simp)
  exact h.mono fun x w' ⟨⟨b, e, h1⟩, h2⟩ => ⟨⟨b, e, fun hb => ⟨few_lens (h1 hb t (by simp)), few_lens (h1 hb u (by simp))⟩⟩, hb.trans (h2.mono hb.size)⟩
theorem diffR_len (a b : List Tre.Fl) : (Tre.diffR a b).1.length ≤ a.length + b.length := by
  rw [diffR_def]
  split
  · simp
  · have h1 := Tre.paths_len a b
    have h2 : ∀ l : List (List UInt8), (l.flatMap (Tre.chg a b)).length ≤ l.length := fun l => by
      induction l with
      | nil => simp
      | cons p l ih => rw [List.flatMap_cons, List.length_append, List.length_cons]; have := Tre.chg_len a b p; omega
    exact Nat.le_trans (h2 _) h1
set_option maxHeartbeats 4000000 in
set_option maxRecDepth 100000 in
theorem differs_law (t u : Tr) (w : World) (hI : IdAt w) (ht : TrOk w t) (hcap : t.ts.length ≤ t.c) (hcap2 : t.c ≤ maxLen) (hu : TrOk w u) (hcap' : u.ts.length ≤ u.c) (hcap2' : u.c ≤ maxLen) :
    Calls Tryz.prog 7 #[.slice t.A t.ts.length t.c, .slice u.A u.ts.length u.c] w fun e w' => e = .returned (.bool true) ∧ Below w.heap.size w w' := by
  have haw := awake_any w hI
  go_enter Tryz.func7, Tryz.ntmps7
  go_wp2_with fail
  with_reducible refine haw.mono ?_
  clear haw
  rintro x w1 ⟨rfl, hb1⟩
  have hI1 := hI.below hb1
  have ht1 : TrOk w1 t := ⟨ht.at_.next hb1, ht.len, ht.each⟩
  have hu1 : TrOk w1 u := ⟨hu.at_.next hb1, hu.len, hu.each⟩
  clear hI ht hu
  have hfew := few_two t u w1 ht1 hu1
  go_wp2_with fail
  with_reducible refine hfew.mono ?_
  clear hfew
  rintro x w2 ⟨⟨b, rfl, hfw⟩, hb2⟩
  have hb02 := hb1.trans (hb2.mono hb1.size)
  have hI2 := hI1.below hb2
  have hA2 := ht1.at_.next hb2
  have hA2' := hu1.at_.next hb2
  clear hI1 ht1 hu1 hb1 hb2
  cases b with
  | false =>
    clear hfw
    go_wp2_with fail
    go_ret
    exact ⟨rfl, hb02⟩
  | true =>
    obtain ⟨⟨hL, hn⟩, ⟨hL', hn'⟩⟩ := hfw rfl
    clear hfw
    have hc1 := differ_any t.A u.A t.c u.c t.ts u.ts w2 hA2 hA2' (by omega) (by omega) hL hL' hI2 hcap hcap2 hcap' hcap2'
    have hc2 := fun w' (h : Below w2.heap.size w2 w') => qDiffer_any t.A u.A t.c u.c t.ts u.ts w' (hA2.next h) (hA2'.next h) (by omega) (by omega) hL hL' hcap hcap2 hcap' hcap2'
    have hlen := diffR_len t.ts u.ts
    clear hA2 hA2' hI2
    generalize Tre.diffR t.ts u.ts = R at *
    obtain ⟨R1, R2⟩ := R
    dsimp only at hlen
    have e2 : decide (R2 = R2) = true := decide_eq_true rfl
    go_wp2_with fail
    with_reducible refine hc1.mono ?_
    clear hc1
    rintro x w3 ⟨v3, rfl, hown3, hb3⟩
    dsimp only at hown3
    obtain ⟨B3, k3, rfl, hB3⟩ := owns_chs hown3
    have hq := hc2 w3 hb3
    clear hc2 hown3
    go_wp2_with fail
    with_reducible refine hq.mono ?_
    clear hq
    rintro x w4 ⟨v4, rfl, hown4, hb4⟩
    dsimp only at hown4
    obtain ⟨B4, k4, rfl, hB4⟩ := owns_chs hown4
    have hb24 := hb3.trans (hb4.mono hb3.size)
    have hq := eqc_true B3 B4 k3 k4 R1 w4 (hB3.next hb4) hB4 (by omega)
    clear hb3 hb4 hown4 hB3 hB4
    go_wp2_with fail
    with_reducible refine hq.mono ?_
    clear hq
    rintro x w5 ⟨rfl, hb5⟩
    have hb25 := hb24.trans (hb5.mono hb24.size)
    clear hb24 hb5
    go_wp2_with fail
    go_ret
    exact ⟨by first | rfl | simp, hb02.trans (hb25.mono hb02.size)⟩
end Go.Proofs.YtjgjkbkpdpacnaaGreatDoor
