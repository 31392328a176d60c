/- The reference's Parse returns the digest with a text, or the error. No condition. -/
import Derived.Test.YtkcpncgngblooaaDoorRefHex
import Derived.Deep.QuietTactic
import Derived.BigQuiet
namespace Go.Proofs.YtkcpncgngblooaaDoor
open Go.RowKit

theorem hv_val : ∀ n, n < 256 → hv (UInt8.ofNat n) = if 48 ≤ n ∧ n ≤ 57 then (n : Int) - 48 else if 97 ≤ n ∧ n ≤ 102 then (n : Int) - 87 else -1 := by decide +kernel
theorem hv_of (c : UInt8) : hv c = if 48 ≤ c.toNat ∧ c.toNat ≤ 57 then (c.toNat : Int) - 48 else if 97 ≤ c.toNat ∧ c.toNat ≤ 102 then (c.toNat : Int) - 87 else -1 := by
  have := hv_val c.toNat c.toNat_lt
  rwa [UInt8.ofNat_toNat] at this
theorem ret_int {k : IntKind} {a b : Int} (h : a = b) : Ending.returned (.int k a) = .returned (.int k b) := by rw [h]

set_option maxHeartbeats 1000000 in
theorem refDigit_any (c : UInt8) (w : World) :
    Calls Tryd.prog 30 #[.int .u8 (c.toNat : Int)] w fun e w' => e = .returned (.int .i64 (hv c)) ∧ w = w' := by
  have hval := Lib.hid (hv_of c)
  have hlt := c.toNat_lt
  have hlt' : (c.toNat : Int) < 256 := by omega
  by_cases h1 : (48 : Int) ≤ c.toNat
  all_goals (by_cases h2 : (c.toNat : Int) ≤ 57)
  all_goals (by_cases h3 : (97 : Int) ≤ c.toNat)
  all_goals (by_cases h4 : (c.toNat : Int) ≤ 102)
  all_goals (try (exfalso; omega))
  all_goals
    have d1 : decide ((48 : Int) ≤ c.toNat) = decide ((48 : Int) ≤ c.toNat) := rfl
    go_enter Tryd.func30, Tryd.ntmps30
    go_wp2_with fail
    go_ret
    refine ⟨ret_int ?_, rfl⟩
    rw [hval.out]
    split
    · omega
    · split <;> omega

theorem refDigit_q (c : UInt8) (w : World) :
    Calls Tryd.prog 30 #[.int .u8 (c.toNat : Int)] w fun e w' => e = .returned (.int .i64 (hv c)) ∧ w' = w := (refDigit_any c w).mono fun _ _ h => ⟨h.1, h.2.symm⟩

set_option maxHeartbeats 1000000 in
set_option maxRecDepth 100000 in
theorem refParse_long (t : ByteArray) (hs : t.size ≠ 64) (w : World) :
    Calls Tryd.prog 22 #[.string t] w fun e w' => e = .returned (parV t) ∧ Below w.heap.size w w' := by
  have h : ((t.size : Int) != 64) = true := by rw [bne_iff_ne]; omega
  have hv := Lib.hid (show parV t = .tuple #[.string ⟨#[]⟩, .int .i64 4] from if_neg fun h => hs h.1)
  clear hs
  go_enter Tryd.func22, Tryd.ntmps22
  go_wp2_with fail
  go_ret2
  exact ⟨by rw [hv.out]; rfl, Below.refl _ _⟩

set_option maxHeartbeats 4000000 in
set_option maxRecDepth 100000 in
theorem refParse_64 (t : ByteArray) (hs : t.size = 64) (w : World) :
    Calls Tryd.prog 22 #[.string t] w fun e w' => e = .returned (parV t) ∧ Below w.heap.size w w' := by
  have h : ((t.size : Int) != 64) = false := by rw [bne_eq_false_iff_eq]; omega
  have HS := Lib.hid hs
  have hs1 : t.size ≤ 64 := by omega
  have hs2 : 64 ≤ t.size := by omega
  clear hs
  obtain ⟨i0, hi0, hz0, hz1, hz2⟩ := info_parts info8
  go_enter Tryd.func22, Tryd.ntmps22
  go_wp2_with fail
  go_loopw [4, 5] (fun v u wr => ∃ j : Nat, j ≤ 64 ∧ j % 2 = 0 ∧ u = .int .i64 j ∧ AllHex t.data.toList j ∧ Apd w wr v ((List.range (j / 2)).map (parAt t.data.toList))) (fun _ u _ => 64 - (intOf u).toNat)
  case atStart => exact ⟨0, by omega, rfl, rfl, fun j hj => by omega, World.ownsRow_nil _ _ _ _, Below.refl _ _⟩
  case round =>
    obtain ⟨j, hj, hev, rfl, hA, hown, hB⟩ := hrel
    have HA := Lib.hid hA
    have HEV := Lib.hid hev
    clear hA hev
    by_cases hlt : j < 64
    · have hjs : j < t.size := by omega
      have hjs1 : j + 1 < t.size := by have := HEV.out; omega
      have hgd0 := Lib.hid (get_D t j hjs)
      have hgd1 := Lib.hid (get_D t (j + 1) hjs1)
      have hd0 := (hv_lt t[j]).1
      have hd1 := (hv_lt t[j + 1]).1
      have x1 : IntKind.i64.wrap ((j : Int) + 1) = (j : Int) + 1 := IntWalk.i64_in _ (by omega)
      have x2 : 0 ≤ (j : Int) + 1 := by omega
      have x3 : ((j : Int) + 1).toNat = j + 1 := by omega
      have x4 : (j : Int) + 1 < (t.size : Int) := by omega
      go_upto_region 7 with (fail)
      go_quiet ((go_at_call 30; exact Calls.quiet_of_same (refDigit_q _ _)))
      have H : Apd w (wr.drewN nq) u4 ((List.range (j / 2)).map (parAt t.data.toList)) := ⟨hown, below_drewN hB _⟩
      clear hown hB x1
      generalize t[j + 1] = c1 at *
      generalize t[j] = c0 at *
      clear x3
      generalize wr.drewN nq = w1 at *
      by_cases ha : 0 ≤ hv c0
      · by_cases hb : 0 ≤ hv c1
        · obtain ⟨p, hp⟩ := Int.eq_ofNat_of_zero_le ha
          obtain ⟨q, hq⟩ := Int.eq_ofNat_of_zero_le hb
          have hA2 : AllHex t.data.toList (j + 2) := fun i hi => by
            by_cases e0 : i = j
            · subst e0; rw [hgd0.out]; exact ha
            · by_cases e1 : i = j + 1
              · subst e1; rw [hgd1.out]; exact hb
              · exact HA.out i (by omega)
          have hpar : parAt t.data.toList (j / 2) = ((16 * p + q : Nat) : Int) := by
            have := HEV.out
            unfold parAt
            rw [show 2 * (j / 2) = j by omega, hgd0.out, hgd1.out, hp, hq]
            omega
          have hp16 : p < 16 := by omega
          have hq16 : q < 16 := by omega
          have HPar := Lib.hid hpar
          have HA2 := Lib.hid hA2
          rw [hp, hq]
          clear hp hq ha hb hd0 hd1 hpar hA2
          have hl : ((List.range (j / 2)).map (parAt t.data.toList)).length = j / 2 := by simp
          obtain ⟨hown, hB⟩ := H
          rw [hl] at hown
          clear hl
          have hsz := hB.size
          have o1 : decide ((p : Int) < 0) = false := by simp
          have o2 : decide ((q : Int) < 0) = false := by simp
          go_wp2_with (at_builtin; refine wpList_append_lies _ (by rfl) _ _ 42 (by rfl) w.heap.size 5 i0 _ 1 1 Tryd.underlying42 hi0 hz0 hz1 hz2 rfl (by omega) u4 (j / 2) _ (by rfl) (hown.alloc _) ⟨w1.heap.size, 0, none⟩ 1 1 [_] (by rfl) (by rfl) (World.news_of_block (cs := #[_]) (t := 5) (fr := (0, 0)) (heap_alloc_new w1 _)) (by simp [Value.oneCell']) (by omega) (by unfold maxLen; omega) (by omega) (by simp; omega) (w1.heap.size + 1) (by simp) ?_; intro gg cap w2 hown2 hgrow hat hlt2)
          have hB2 : Below w.heap.size w w2 := (hB.alloc hB.size _).trans (below_owned (hown.alloc _) hgrow (by simp; omega))
          have hA3 : Apd w w2 (.slice (some ⟨gg, 0, none⟩) (j / 2 + 1) cap) ((List.range ((j + 2) / 2)).map (parAt t.data.toList)) := by
            refine ⟨?_, hB2⟩
            rw [List.length_map, List.length_range, show (j + 2) / 2 = j / 2 + 1 by omega, List.range_succ, List.map_append, List.map_append, List.map_cons, List.map_nil, List.map_cons, List.map_nil, HPar.out]
            exact hown2
          have hev2 := HEV.out
          clear hown hB hown2 hgrow hat hlt2 hB2
          go_roundw
          case rel => exact ⟨j + 2, by omega, by omega, by go_num, HA2.out, hA3⟩
          case measure => simp [intOf]; omega
        · have hbad : parV t = .tuple #[.string ⟨#[]⟩, .int .i64 4] := if_neg fun h => hb (by rw [← hgd1.out]; exact h.2 (j + 1) (by omega))
          have HB := Lib.hid hbad
          have o1 : decide (hv c0 < 0) = false := by simp; omega
          have o2 : decide (hv c1 < 0) = true := by simp; omega
          have hB := H.2
          clear hbad hd0 hd1 H ha hb
          generalize hv c0 = v0 at *
          generalize hv c1 = v1 at *
          go_wp2_with fail
          go_ret2
          exact ⟨by rw [HB.out]; rfl, hB⟩
      · have hbad : parV t = .tuple #[.string ⟨#[]⟩, .int .i64 4] := if_neg fun h => ha (by rw [← hgd0.out]; exact h.2 j hlt)
        have HB := Lib.hid hbad
        have o1 : decide (hv c0 < 0) = true := by simp; omega
        have hB := H.2
        clear hbad hd0 hd1 H ha
        generalize hv c0 = v0 at *
        generalize hv c1 = v1 at *
        go_wp2_with fail
        go_ret2
        exact ⟨by rw [HB.out]; rfl, hB⟩
    · obtain rfl : j = 64 := by omega
      have hcv := own_str hown Tryd.underlying42 Tryd.underlying5 Tryd.underlying9
      rw [show strOfNums ((List.range (64 / 2)).map (parAt t.data.toList)) = parS t from rfl] at hcv
      have HP := Lib.hid (show parV t = .tuple #[.string (parS t), .int .i64 0] from if_pos ⟨HS.out, HA.out⟩)
      go_wp2_with fail
      go_ret2
      exact ⟨by rw [HP.out]; rfl, hB⟩
theorem refParse_any (t : ByteArray) (w : World) :
    Calls Tryd.prog 22 #[.string t] w fun e w' => e = .returned (parV t) ∧ Below w.heap.size w w' := by
  by_cases h : t.size = 64
  · exact refParse_64 t h w
  · exact refParse_long t h w
end Go.Proofs.YtkcpncgngblooaaDoor
