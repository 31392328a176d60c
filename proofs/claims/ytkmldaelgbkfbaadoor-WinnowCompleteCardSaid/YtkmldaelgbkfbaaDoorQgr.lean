/- Grams of the reference; slices.Equal of numbers. No condition but the lengths. -/
import Derived.Test.YtkmldaelgbkfbaaDoorGrm
namespace Go.Proofs.YtkmldaelgbkfbaaDoor
open Go.RowKit Go.Deep
namespace Rl
set_option maxHeartbeats 4000000 in
set_option maxRecDepth 100000 in
theorem qgrams_any (l : List Lx) (k : Int) (A : Option Addr) (c : Nat) (w : World) (hA : LxAt w w.heap.size A l) (hl : l.length ≤ 5864062014634) (hc : l.length ≤ c) (hs : Sht l) :
    Calls Tryd.prog 24 #[.slice A l.length c, .int .i64 k] w (GotGm w (gramsL l k) (gramsE l k)) := by
  obtain ⟨i0, hi0, hz0, hz1, hz2⟩ := info_parts infoIn
  have HL := Lib.hid (show gramsL l k = if k < 1 ∨ 8192 < k then [] else if 8192 < l.length then [] else grm l k.toNat (l.length + 1 - k.toNat) from rfl)
  have HE := Lib.hid (show gramsE l k = if k < 1 ∨ 8192 < k then 3 else if 8192 < l.length then 10 else 0 from rfl)
  generalize gramsL l k = L at *
  generalize gramsE l k = E at *
  have HAA := Lib.hid hA
  have HS := Lib.hid hs
  clear hA hs
  by_cases h1 : k < 1
  · have b1 : decide (k < 1) = true := decide_eq_true h1
    have HL2 := Lib.hid (HL.out.trans (if_pos (.inl h1)))
    have HE2 := Lib.hid (HE.out.trans (if_pos (.inl h1)))
    clear HL HE h1
    go_enter Tryd.func24, Tryd.ntmps24
    go_wp2_with fail
    go_ret2
    exact ⟨_, by rw [HE2.out]; rfl, by rw [HL2.out]; exact World.ownsRow_nil _ _ _ _, Below.refl _ _⟩
  have b1 : decide (k < 1) = false := decide_eq_false h1
  by_cases h2 : 8192 < k
  · have b2 : decide (8192 < k) = true := decide_eq_true h2
    have HL2 := Lib.hid (HL.out.trans (if_pos (.inr h2)))
    have HE2 := Lib.hid (HE.out.trans (if_pos (.inr h2)))
    clear HL HE h1 h2
    go_enter Tryd.func24, Tryd.ntmps24
    go_wp2_with fail
    go_ret2
    exact ⟨_, by rw [HE2.out]; rfl, by rw [HL2.out]; exact World.ownsRow_nil _ _ _ _, Below.refl _ _⟩
  have b2 : decide (8192 < k) = false := decide_eq_false h2
  have HL2 := Lib.hid (HL.out.trans (if_neg (fun h => h.elim h1 h2)))
  have HE2 := Lib.hid (HE.out.trans (if_neg (fun h => h.elim h1 h2)))
  clear HL HE
  by_cases h3 : 8192 < l.length
  · have b3 : decide ((8192 : Int) < (l.length : Int)) = true := decide_eq_true (by omega)
    have b3n : decide (8192 < l.length) = true := decide_eq_true h3
    have HL3 := Lib.hid (HL2.out.trans (if_pos h3))
    have HE3 := Lib.hid (HE2.out.trans (if_pos h3))
    clear h1 h2 h3 HL2 HE2
    go_enter Tryd.func24, Tryd.ntmps24
    go_wp2_with fail
    go_ret2
    exact ⟨_, by rw [HE3.out]; rfl, by rw [HL3.out]; exact World.ownsRow_nil _ _ _ _, Below.refl _ _⟩
  have b3 : decide ((8192 : Int) < (l.length : Int)) = false := decide_eq_false (by omega)
  have b3n : decide (8192 < l.length) = false := decide_eq_false h3
  have HL3 := Lib.hid (HL2.out.trans (if_neg h3))
  have HE3 := Lib.hid (HE2.out.trans (if_neg h3))
  obtain ⟨K, rfl⟩ : ∃ K : Nat, k = K := ⟨k.toNat, by omega⟩
  have b1n : decide (K < 1) = false := decide_eq_false (by omega)
  have b2n : decide (8192 < K) = false := decide_eq_false (by omega)
  have HL4 := Lib.hid (show L = grm l K (l.length + 1 - K) from HL3.out)
  have HK := Lib.hid (show 1 ≤ K ∧ K ≤ 8192 ∧ l.length ≤ 8192 by omega)
  have HC := Lib.hid hc
  clear h1 h2 h3 HL2 HE2 HL3 hl hc
  go_enter Tryd.func24, Tryd.ntmps24
  go_wp2_with fail
  go_loopw [6, 7] (fun s6 s7 wr => ∃ i : Nat, s7 = .int .i64 i ∧ i ≤ l.length + 1 - K ∧ wr.ownsRow w.heap.size 3 1 s6 i (insV (grm l K i)) ∧ Below w.heap.size w wr) (fun _ s7 _ => l.length + 1 - K - (intOf s7).toNat)
  case atStart =>
    exact ⟨0, rfl, by omega, own_empty w w.heap.size (Nat.le_refl _) _ _, (Below.refl _ _).alloc (Nat.le_refl _) _⟩
  case round =>
    obtain ⟨i, rfl, hi, hown, hb⟩ := hrel
    have hKb := HK.out
    have t3 : IntKind.i64.wrap ((i : Int) + (K : Int)) = (i : Int) + (K : Int) := by rw [IntKind.wrap_i64]; omega
    by_cases hlt : i + K ≤ l.length
    · have b5 : decide ((i : Int) + (K : Int) ≤ (l.length : Int)) = true := decide_eq_true (by omega)
      have b5n : decide (i + K ≤ l.length) = true := decide_eq_true hlt
      have hcc := HC.out
      obtain ⟨g, o, e1, hg1, -, -⟩ := HAA.out i (by omega)
      cases e1
      have y1 : (i : Int) + (K : Int) ≤ (c : Int) := by omega
      have y1n : i + K ≤ c := by omega
      have y2 : (i : Int) ≤ (i : Int) + (K : Int) := by omega
      have y3 : ¬ c = i := by omega
      have y4 : (0 : Int) ≤ (i : Int) + (K : Int) := by omega
      have y5 : (i : Int) + (K : Int) - (i : Int) = (K : Int) := by omega
      have y6 : i + K - i = K := by omega
      have c1 := qhash_at ((l.drop i).take K) (some ⟨g, o + i * 2, none⟩) K (c - i) wr (part_len (by omega)) ((HAA.out.next hb).part i K) (by omega) (sht_part HS.out i K)
      rw [show hash (txs ((l.drop i).take K)) = run l K i from rfl] at c1
      have HT := Lib.hid (grm_succ l K i)
      generalize run l K i = r1 at *
      have HO := Lib.hid hown
      have HB := Lib.hid hb
      have hik : i ≤ 8192 := by omega
      have HI := Lib.hid (show i + 1 ≤ l.length + 1 - K by omega)
      clear hown hb hcc hKb hg1 hlt hi
      go_wp2_with fail
      (with_reducible refine c1.mono ?_); rintro e w5 ⟨rfl, hb5⟩
      have hown4 := own_below HO.out hb5
      have hb04 := HB.out.trans (hb5.mono HB.out.size)
      have hsz := hb04.size
      clear HO HB c1 hb5 y1 y2 y3 y4 y5 y6 y1n
      go_wp2_with (at_builtin; refine wpList_append_own_wide _ (by rfl) _ _ 47 (by rfl) w.heap.size 3 i0 _ 1 8 Tryd.underlying47 hi0 hz0 hz1 hz2 rfl (by omega) _ i _ (by rfl) (hown4.alloc _) ⟨w5.heap.size, 0, none⟩ 1 1 [_] (by rfl) (by rfl) (World.news_of_block (cs := #[_]) (t := 3) (fr := (0, 0)) (heap_alloc_new w5 _)) (by simp [Value.oneCell']) (by unfold maxLen; omega) (by omega) (by simp; omega) ?_; intro v6 w6 hown6 hgrow6 _)
      have HO := Lib.hid hown6
      have HB4 := Lib.hid (below_grown (hb04.alloc hsz _) (by simp; omega) (hown4.alloc _) hgrow6)
      clear hown6 hgrow6 hown4 hb04
      go_wp2_with fail
      go_roundw
      case rel => exact ⟨i + 1, by go_num, HI.out, by rw [HT.out, insV_app, insV_one]; exact HO.out, HB4.out⟩
      case measure => have := HI.out; simp [intOf]; omega
    · have b5 : decide ((i : Int) + (K : Int) ≤ (l.length : Int)) = false := decide_eq_false (by omega)
      have b5n : decide (i + K ≤ l.length) = false := decide_eq_false hlt
      have HO := Lib.hid hown
      have HB2 := Lib.hid hb
      have HI := Lib.hid (show i = l.length + 1 - K by omega)
      clear hown hb hKb hlt hi
      go_wp2_with fail
      go_ret2
      refine ⟨_, by rw [HE3.out]; rfl, ?_, HB2.out⟩
      rw [HL4.out, grm_len, ← HI.out]
      exact HO.out
/-- A row of numbers of the call's own: its form and its cells. -/
theorem own_ints {w : World} {B : Nat} {v : Value} {l : List Int} (h : w.ownsRow B 3 1 v l.length (insV l)) : ∃ A c, v = .slice A l.length c ∧ (0 < l.length → ∃ g, A = some ⟨g, 0, none⟩ ∧ g < w.heap.size ∧ ∀ j, j < l.length → w.cell? ⟨g, 0 + j, none⟩ = some (.int .i64 (l.getD j 0))) := by
  rcases h.2 with ⟨rfl, h0⟩ | ⟨g, cap, cur, rfl, hb, hg, h1, h2, _, _⟩
  · exact ⟨none, 0, by rw [h0], fun h => by omega⟩
  · refine ⟨_, cap, rfl, fun _ => ⟨g, rfl, blk_lt hg, fun j hj => ?_⟩⟩
    rw [Nat.zero_add, h.cellAt _ (by omega), insV_map, List.getElem?_map, List.getD_eq_getElem?_getD, List.getElem?_eq_getElem hj]
    rfl
/-- Equal of two rows of the same numbers. -/
theorem equal_same (l : List Int) (v1 v2 : Value) (B1 B2 : Nat) (w : World) (h1 : w.ownsRow B1 3 1 v1 l.length (insV l)) (h2 : w.ownsRow B2 3 1 v2 l.length (insV l)) (hl : l.length ≤ 9223372036854775807) :
    Calls Tryd.prog 19 #[v1, v2] w fun e w' => e = .returned (.bool true) ∧ Below w.heap.size w w' := by
  obtain ⟨A, c, rfl, ha⟩ := own_ints h1
  obtain ⟨A', c', rfl, ha'⟩ := own_ints h2
  by_cases h0 : l.length = 0
  · rw [h0]
    refine (Tryd.slices_Equal_int_empty A A' c 0 c' w (by omega)).mono fun e w' h => ⟨?_, by rw [h.2]; exact Below.refl _ _⟩
    rw [h.1]; rfl
  · obtain ⟨g, rfl, _, hx⟩ := ha (by omega)
    obtain ⟨g', rfl, _, hy⟩ := ha' (by omega)
    refine (Tryd.slices_Equal_int g 0 l.length c g' 0 l.length c' l l w (Nat.le_refl _) (Nat.le_refl _) hl hl hx hy).mono fun e w' h => ⟨?_, ?_⟩
    · rw [h.1]; simp
    · obtain ⟨q, h⟩ := h.2
      rw [h]; exact below_drewN w q
end Rl
end Go.Proofs.YtkmldaelgbkfbaaDoor
