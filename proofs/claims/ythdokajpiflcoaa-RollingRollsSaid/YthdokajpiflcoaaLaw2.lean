/- The laws of hashes, of runs that roll on, and of joined lists. No condition. -/
import Derived.Test.YthdokajpiflcoaaQgr
import Derived.Test.YthdokajpiflcoaaLaw
import Derived.Deep.RegionHeld3
namespace Go.Proofs.Ythdokajpiflcoaa
open Go.RowKit Go.Deep
namespace Rl
theorem sht_of {l : List Lx} (h : ∀ x ∈ l, (str x.tx).size ≤ 40) : Sht l := fun x hx => by have := h x hx; rw [str_size] at this; omega
set_option maxHeartbeats 8000000 in
set_option maxRecDepth 100000 in
theorem hashes_law (l : List Lx) (k : Int) (A : Option Addr) (c : Nat) (w : World) (hA : LxAt w w.heap.size A l) (hl : l.length ≤ 5864062014634) (hc : l.length ≤ c) :
    Calls Try.prog 4 #[.slice A l.length c, .int .i64 k] w fun e w' => e = .returned (.bool true) ∧ Below w.heap.size w w' := by
  have HAA := Lib.hid hA
  clear hA
  have c0 := awake_any w
  go_enter Try.func4, Try.ntmps4
  go_wp2_with fail
  (with_reducible refine c0.mono ?_); rintro e w1 ⟨rfl, hb⟩
  have HB := Lib.hid hb
  have hA1 := HAA.out.next hb
  have c1 := few_any l A c w1 hA1 (by omega)
  clear hb c0
  go_wp2_with fail
  (with_reducible refine c1.mono ?_); rintro e w' ⟨b, rfl, hfew, rfl⟩
  clear c1
  cases b with
  | false =>
    clear hfew
    go_wp2_with fail
    go_ret
    exact ⟨rfl, HB.out⟩
  | true =>
  obtain ⟨hl40, hx40⟩ := hfew rfl
  clear hfew
  have hsh := sht_of hx40
  clear hx40
  have c2 := grams_any l k A c w1 hA1 hl hc hsh
  have HL := Lib.hid (show (gramsL l k).length ≤ 41 by
    unfold gramsL
    split
    · simp
    · split
      · simp
      · rw [grm_len]; omega)
  generalize hLg : gramsL l k = L at *
  generalize hEg : gramsE l k = E at *
  have HLg := Lib.hid hLg
  have HEg := Lib.hid hEg
  clear hLg hEg
  have HHC := Lib.hid hc
  have HSH := Lib.hid hsh
  clear hc hsh
  go_wp2_with fail
  (with_reducible refine c2.mono ?_); rintro e w2 ⟨v2, rfl, own2, hb2⟩
  have HB2 := Lib.hid (HB.out.trans (hb2.mono HB.out.size))
  have HA2 := Lib.hid (hA1.next hb2)
  have HO2 := Lib.hid own2
  clear hb2 own2 c2 hA1
  have c3 := qgrams_any l k A c w2 HA2.out hl HHC.out HSH.out
  rw [HLg.out, HEg.out] at c3
  go_wp2_with fail
  (with_reducible refine c3.mono ?_); rintro e w3 ⟨v3, rfl, own3, hb3⟩
  have HB3 := Lib.hid (HB2.out.trans (hb3.mono HB2.out.size))
  have HA3 := Lib.hid (HA2.out.next hb3)
  have HO3 := Lib.hid own3
  have HO23 := Lib.hid (own_below HO2.out hb3)
  clear hb3 own3 c3
  have c4 := hash_any l A c w3 HA3.out (by omega) HSH.out
  obtain ⟨hh, hhe⟩ : ∃ hh, hash (txs l) = hh := ⟨_, rfl⟩
  rw [hhe] at c4
  have HHE := Lib.hid hhe
  clear hhe
  go_wp2_with fail
  (with_reducible refine c4.mono ?_); rintro e w4 ⟨rfl, hb4⟩
  have HB4 := Lib.hid (HB3.out.trans (hb4.mono HB3.out.size))
  have HA4 := Lib.hid (HA3.out.next hb4)
  have HO34 := Lib.hid (own_below HO3.out hb4)
  have HO24 := Lib.hid (own_below HO23.out hb4)
  clear hb4 c4
  have c5 := qhash_any l A c w4 HA4.out (by omega) HSH.out
  rw [HHE.out] at c5
  go_wp2_with fail
  (with_reducible refine c5.mono ?_); rintro e w5 ⟨rfl, hb5⟩
  have HB5 := Lib.hid (HB4.out.trans (hb5.mono HB4.out.size))
  have c6 := equal_same L v2 v3 _ _ w5 (own_below HO24.out hb5) (own_below HO34.out hb5) (by have := HL.out; omega)
  clear hb5 c5
  go_wp2_with fail
  (with_reducible refine c6.mono ?_); rintro e w6 ⟨rfl, hb6⟩
  have HB6 := Lib.hid (HB5.out.trans (hb6.mono HB5.out.size))
  clear hb6 c6
  go_wp2_with fail
  go_ret
  exact ⟨rfl, HB6.out⟩
set_option maxHeartbeats 8000000 in
set_option maxRecDepth 100000 in
theorem rolls_law (l : List Lx) (k : Nat) (A : Option Addr) (c : Nat) (w : World) (hA : LxAt w w.heap.size A l) (hl : l.length ≤ 5864062014634) (hc : l.length ≤ c) (hk : k ≤ 255) :
    Calls Try.prog 6 #[.slice A l.length c, .int .u8 (k : Int)] w fun e w' => e = .returned (.bool true) ∧ Below w.heap.size w w' := by
  have HAA := Lib.hid hA
  clear hA
  obtain ⟨n, hn⟩ : ∃ n, n = 1 + k % 12 := ⟨_, rfl⟩
  have hn1 : 1 ≤ n ∧ n ≤ 12 := by omega
  have u1 := wr_nat (n := k) (by omega)
  have u2 := wr64_nat (n := k) (by omega)
  have r1 : IntKind.i64.wrap (1 + (k : Int) % 12) = (n : Int) := by rw [IntKind.wrap_i64]; omega
  have r1t : IntKind.i64.wrap (1 + ((k : Int)).tmod 12) = (n : Int) := by rw [Int.tmod_eq_emod_of_nonneg (by omega)]; exact r1
  have HHC := Lib.hid hc
  clear hn hk hc
  have c0 := awake_any w
  go_enter Try.func6, Try.ntmps6
  go_wp2_with fail
  (with_reducible refine c0.mono ?_); rintro e w1 ⟨rfl, hb⟩
  have HB := Lib.hid hb
  have hA1 := HAA.out.next hb
  have c1 := few_any l A c w1 hA1 (by omega)
  clear hb c0
  go_wp2_with fail
  (with_reducible refine c1.mono ?_); rintro e w' ⟨b, rfl, hfew, rfl⟩
  clear c1
  cases b with
  | false =>
    clear hfew
    go_wp2_with fail
    go_ret
    exact ⟨rfl, HB.out⟩
  | true =>
  obtain ⟨hl40, hx40⟩ := hfew rfl
  clear hfew
  have hsh := sht_of hx40
  clear hx40
  have c2 := grams_any l (n : Int) A c w1 hA1 hl HHC.out hsh
  rw [show gramsL l (n : Int) = grm l n (l.length + 1 - n) by unfold gramsL; rw [if_neg (by omega), if_neg (by omega)]; rfl, show gramsE l (n : Int) = 0 by unfold gramsE; rw [if_neg (by omega), if_neg (by omega)]] at c2
  have HSH := Lib.hid hsh
  clear hsh
  obtain ⟨M, hM⟩ : ∃ M, M = l.length + 1 - n := ⟨_, rfl⟩
  rw [← hM] at c2
  have mx : max (0 : Int) ((l.length : Int) - (n : Int) + 1) = (M : Int) := by omega
  have t4 : IntKind.i64.wrap ((l.length : Int) - (n : Int)) = (l.length : Int) - (n : Int) := by rw [IntKind.wrap_i64]; omega
  have t5 : IntKind.i64.wrap ((l.length : Int) - (n : Int) + 1) = (l.length : Int) - (n : Int) + 1 := by rw [IntKind.wrap_i64]; omega
  have HM := Lib.hid hM
  clear hM
  go_wp2_with fail
  (with_reducible refine c2.mono ?_); rintro e w2 ⟨v2, rfl, own2, hb2⟩
  have HB2 := Lib.hid (HB.out.trans (hb2.mono HB.out.size))
  have HA2 := Lib.hid (hA1.next hb2)
  obtain ⟨G, cg, rfl, hG⟩ := own_ints own2
  rw [grm_len] at hG ⊢
  have HG := Lib.hid (show 0 < M → ∃ g, G = some ⟨g, 0, none⟩ ∧ g < w2.heap.size ∧ ∀ j, j < M → w2.cell? ⟨g, j, none⟩ = some (.int .i64 (run l n j : Int)) by
    intro h
    obtain ⟨g, e, h1, h2⟩ := hG h
    refine ⟨g, e, h1, fun j hj => ?_⟩
    have := h2 j hj
    rw [Nat.zero_add] at this
    rw [this]
    unfold grm
    rw [List.getD_eq_getElem?_getD, List.getElem?_map, List.getElem?_range hj]
    rfl)
  clear hb2 own2 c2 hA1 hG
  go_wp2_with fail
  go_loopw [41] (fun s41 wr => ∃ i : Nat, s41 = .int .i64 i ∧ i ≤ M ∧ Below w2.heap.size w2 wr) (fun s41 _ => M - (intOf s41).toNat)
  case atStart => exact ⟨0, rfl, by omega, Below.refl _ _⟩
  case round =>
    obtain ⟨i, rfl, hi, hb⟩ := hrel
    by_cases hlt : i < M
    · have b5 : decide ((i : Int) < (M : Int)) = true := decide_eq_true (by omega)
      have b5n : decide (i < M) = true := decide_eq_true hlt
      have hMe := HM.out
      have hcc := HHC.out
      obtain ⟨gb, rfl, hgb, hG⟩ := HG.out (by omega)
      obtain ⟨g, o, e1, hg1, hd0, -⟩ := HA2.out i (by omega)
      cases e1
      have g0 := (hb.cell (p := ⟨gb, i, none⟩) hgb).trans (hG i hlt)
      have y1 : (i : Int) + (n : Int) ≤ (c : Int) := by omega
      have y1n : i + n ≤ c := by omega
      have y2 : (i : Int) ≤ (i : Int) + (n : Int) := by omega
      have y3 : ¬ c = i := by omega
      have y4 : (0 : Int) ≤ (i : Int) + (n : Int) := by omega
      have y5 : (i : Int) + (n : Int) - (i : Int) = (n : Int) := by omega
      have y6 : i + n - i = n := by omega
      have y7 : (i : Int) < (M : Int) := by omega
      have t6 : IntKind.i64.wrap ((i : Int) + (n : Int)) = (i : Int) + (n : Int) := by rw [IntKind.wrap_i64]; omega
      have y8 : ((i : Int) + (n : Int)).toNat - i = n := by omega
      have hbd : Below wr.heap.size wr wr.drew := ⟨rfl, rfl, rfl, Nat.le_refl _, fun _ _ => rfl⟩
      have cc := hash_at ((l.drop i).take n) (some ⟨g, o + i * 2, none⟩) (((i : Int) + (n : Int)).toNat - i) (c - i) wr.drew (by rw [y8]; exact part_len (by omega)) (((HA2.out.next hb).part i n).next hbd) (by omega) (sht_part HSH.out i n)
      clear hbd y8
      rw [show hash (txs ((l.drop i).take n)) = run l n i from rfl] at cc
      obtain ⟨ri, hri⟩ : ∃ ri, run l n i = ri := ⟨_, rfl⟩
      rw [hri] at cc g0
      have HRI := Lib.hid hri
      have HBR := Lib.hid hb
      have HGB := Lib.hid hgb
      have HGC := Lib.hid hG
      have HG1 := Lib.hid hg1
      have HML := Lib.hid hMe
      clear hri hb hgb hG hg1 hd0 hMe hcc y5 y6
      have hgw : gb < wr.heap.size := Nat.lt_of_lt_of_le HGB.out HBR.out.size
      go_wp2_with fail
      go_region_held3 (fun w' => w'.cell? ⟨gb, i, none⟩ = some (.int .i64 (ri : Int))) (first | exact g0 | exact s0) (first | (go_at_call 19; (with_reducible refine cc.mono ?_); rintro e w5 ⟨rfl, hb5⟩; have s0 := (hb5.cell (p := ⟨gb, i, none⟩) hgw).trans g0))
      all_goals
        have HB5 := Lib.hid (HBR.out.trans ((show Below wr.heap.size wr wr.drew from ⟨rfl, rfl, rfl, Nat.le_refl _, fun _ _ => rfl⟩).trans (hb5.mono (Nat.le_refl _)) |>.mono HBR.out.size))
        clear hb5 cc
        by_cases hi0 : i = 0
        · have b6 : ((i : Int) == 0) = true := by rw [beq_iff_eq]; omega
          have b6n : (i == 0) = true := by rw [beq_iff_eq]; omega
          have HI0 := Lib.hid hi0
          clear hi0
          go_wp2_with fail
          go_roundw
          case rel => exact ⟨i + 1, by go_num, by omega, HB5.out⟩
          case measure => simp [intOf]; omega
        · have b6 : ((i : Int) == 0) = false := by rw [beq_eq_false_iff_ne]; omega
          have b6n : (i == 0) = false := by rw [beq_eq_false_iff_ne]; omega
          obtain ⟨p, hp⟩ : ∃ p, i = p + 1 := ⟨i - 1, by omega⟩
          have hMe := HML.out
          have hw25 := HB5.out
          obtain ⟨g2, o2, e2, hg2, hd2, -⟩ := HA2.out p (by omega)
          cases e2
          obtain ⟨g3, o3, e3, hg3, hd3, -⟩ := HA2.out (p + n) (by omega)
          cases e3
          have hrl := run_roll l n p (by omega) (by omega)
          have hsx := HSH.out _ (List.getElem_mem (show p < l.length by omega))
          have hsy := HSH.out _ (List.getElem_mem (show p + n < l.length by omega))
          generalize l[p]'(by omega) = x at *
          generalize l[p + n]'(by omega) = y at *
          have q0 := (hw25.cell (p := ⟨g, o + p * 2, none⟩) hg2).trans hd2
          have q1 := (hw25.cell (p := ⟨g, o + (p + n) * 2, none⟩) hg2).trans hd3
          have q2 := (hw25.cell (p := ⟨gb, p, none⟩) HGB.out).trans (HGC.out p (by omega))
          have q3 := (hw25.cell (p := ⟨gb, i, none⟩) HGB.out).trans (HGC.out i hlt)
          rw [HRI.out] at q3
          have z1 : IntKind.i64.wrap ((i : Int) - 1) = (p : Int) := by rw [IntKind.wrap_i64]; omega
          have z2 : IntKind.i64.wrap ((i : Int) + (n : Int) - 1) = ((p + n : Nat) : Int) := by rw [IntKind.wrap_i64]; omega
          have y13 : (p : Int) < (M : Int) := by omega
          have y14 : (p : Int) < (l.length : Int) := by omega
          have y15 : (p : Int) + (n : Int) < (l.length : Int) := by omega
          have y16 : ((p + n : Nat) : Int) < (l.length : Int) := by omega
          have dd := fun w => roll_any (run l n p : Int) (str x.tx) (str y.tx) (n : Int) w (by rw [str_size]; exact hsx) (by rw [str_size]; exact hsy)
          have hok : okR (run l n p : Int) (n : Int) := ⟨by rw [isR_nat]; exact decide_eq_true (run_lt _ _ _), by omega, by omega⟩
          rw [show rollI (run l n p : Int) (str x.tx).data.toList (str y.tx).data.toList (n : Int) = ri by unfold rollI; rw [if_pos hok, ← HRI.out, hp]; exact hrl, show rollE (run l n p : Int) (n : Int) = 0 from if_pos hok] at dd
          generalize run l n p = rp at *
          generalize str x.tx = sx at *
          generalize str y.tx = sy at *
          have HP := Lib.hid hp
          clear hp hrl hok hsx hsy hd2 hd3 hMe hw25 hg2 hg3 hi0
          go_wp2_with fail
          go_quiet ((go_at_call 24; exact Calls.quiet_of_same ((dd _).mono fun e w' h => ⟨h.1, h.2.symm⟩)))
          have HB6 := Lib.hid (HB5.out.trans ((below_drewN w5 nq).mono HB5.out.size))
          go_wp2_with fail
          go_roundw
          case rel => exact ⟨i + 1, by go_num, by omega, HB6.out⟩
          case measure => simp [intOf]; omega
    · have b5 : decide ((i : Int) < (M : Int)) = false := decide_eq_false (by omega)
      have b5n : decide (i < M) = false := decide_eq_false hlt
      have HB5 := Lib.hid (HB2.out.trans (hb.mono HB2.out.size))
      clear hb
      go_wp2_with fail
      go_ret
      exact ⟨rfl, HB5.out⟩
end Rl
end Go.Proofs.Ythdokajpiflcoaa
