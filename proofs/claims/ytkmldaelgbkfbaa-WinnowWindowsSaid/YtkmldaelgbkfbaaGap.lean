/- The law of gaps. No condition but the lengths. -/
import Derived.Test.YtkmldaelgbkfbaaAwk
namespace Go.Proofs.Ytkmldaelgbkfbaa
open Go.RowKit Go.Deep
namespace Wn
theorem sel_first (l : List Int) (w : Nat) : ∀ m, (sel l w (m + 1))[0]? = some (lst l 0 w)
  | 0 => by
    have : sel l w 1 = [lst l 0 w] := by unfold sel sel; simp
    rw [this]; rfl
  | m + 1 => by
    have ih := sel_first l w m
    rw [sel_step]
    split
    · exact ih
    · rw [List.getElem?_append_left (sel_pos l w (m + 1) (by omega))]; exact ih
theorem wr_nat {n : Nat} (h : n ≤ 9223372036854775807) : IntKind.i64.wrap (n : Int) = (n : Int) := by rw [IntKind.wrap_i64]; omega
theorem wr64_nat {n : Nat} (h : n ≤ 9223372036854775807) : wrap64 (n : Int) = (n : Int) := by unfold wrap64; omega
theorem selL_ok (l : List Int) (K : Nat) (h1 : 1 ≤ K) (h2 : K ≤ 1024) (hl : l.length ≤ 8192) : selL l (K : Int) = ints (sel l K (l.length + 1 - K)) ∧ selE l (K : Int) = 0 :=
  ⟨by unfold selL; rw [if_pos ⟨sz_nat h1 h2, hl⟩, Int.toNat_natCast], by unfold selE; rw [if_pos (sz_nat h1 h2), if_neg (by omega)]⟩
/-- The numbers of a list where they lie, by place. -/
theorem ints_cell {w : World} {B g o : Nat} {S : List Nat} (h : Gr.InAt w B (some ⟨g, o, none⟩) (ints S)) {j : Nat} (hj : j < S.length) : w.cell? ⟨g, o + j, none⟩ = some (.int .i64 (S[j] : Int)) := by
  have := in_zs h j (by rw [ints_len]; exact hj)
  rwa [List.getD_eq_getElem?_getD, List.getElem?_eq_getElem (by rw [ints_len]; exact hj), ints_get _ _ hj] at this
set_option maxHeartbeats 16000000 in
set_option maxRecDepth 100000 in
theorem gaps_law (l : List Int) (m : Nat) (A : Option Addr) (c : Nat) (w : World) (hA : Gr.InAt w w.heap.size A l) (hl : l.length ≤ 140737488351232) (hc : l.length ≤ c) (hm : m ≤ 255) :
    Calls Try.prog 6 #[.slice A l.length c, .int .u8 (m : Int)] w fun e w' => e = .returned (.bool true) ∧ Below w.heap.size w w' := by
  have c0 := awake_any w
  have u1 := wr_nat (n := m) (by omega)
  have u2 := wr64_nat (n := m) (by omega)
  obtain ⟨K, hK⟩ : ∃ K, K = 1 + m % 20 := ⟨_, rfl⟩
  have r1 : IntKind.i64.wrap (1 + (m : Int) % 20) = (K : Int) := by rw [IntKind.wrap_i64]; omega
  have r1t : IntKind.i64.wrap (1 + ((m : Int)).tmod 20) = (K : Int) := by rw [Int.tmod_eq_emod_of_nonneg (by omega)]; exact r1
  have hK1 : 1 ≤ K ∧ K ≤ 20 := by omega
  clear hK
  by_cases h : 100 < l.length
  · have d1 : decide ((100 : Int) < (l.length : Int)) = true := decide_eq_true (by omega)
    have d1n : decide (100 < l.length) = true := decide_eq_true h
    go_enter Try.func6, Try.ntmps6
    go_wp2_with fail
    (with_reducible refine c0.mono ?_); rintro e w1 ⟨rfl, hb⟩
    have HB := Lib.hid hb
    clear hb c0
    go_wp2_with fail
    go_ret
    exact ⟨rfl, HB.out⟩
  have d1 : decide ((100 : Int) < (l.length : Int)) = false := decide_eq_false (by omega)
  have d1n : decide (100 < l.length) = false := decide_eq_false h
  have h5 : l.length ≤ 100000 := by omega
  go_enter Try.func6, Try.ntmps6
  go_wp2_with fail
  (with_reducible refine c0.mono ?_); rintro e w1 ⟨rfl, hb1⟩
  have hA1 := hA.next hb1
  have c1 := select_any l K A c w1 hA1 h5 hc
  obtain ⟨hs1, hs2⟩ := selL_ok l K hK1.1 (by omega) (by omega)
  rw [hs1, hs2] at c1
  have HB1 := Lib.hid hb1
  clear c0 hs1 hs2 hb1
  go_wp2_with fail
  (with_reducible refine c1.mono ?_); rintro e w2 ⟨A2, k2, rfl, -, -, hin2, hb2⟩
  have HB2 := Lib.hid (HB1.out.trans (hb2.mono HB1.out.size))
  have hA2 := hA1.next hb2
  clear c1 hb2 hA1 u1 u2 r1 r1t
  by_cases hlen : l.length < K
  · have b1 : decide ((l.length : Int) < (K : Int)) = true := decide_eq_true (by omega)
    have b1n : decide (l.length < K) = true := decide_eq_true hlen
    have hz : l.length + 1 - K = 0 := by omega
    rw [hz, show (ints (sel l K 0)).length = 0 from rfl]
    clear hin2 hz hlen hK1
    go_wp2_with fail
    go_ret
    exact ⟨rfl, HB2.out⟩
  have b1 : decide ((l.length : Int) < (K : Int)) = false := decide_eq_false (by omega)
  have b1n : decide (l.length < K) = false := decide_eq_false hlen
  obtain ⟨N, hN⟩ : ∃ N, l.length = N + K := ⟨l.length - K, by omega⟩
  rw [show l.length + 1 - K = N + 1 by omega] at hin2 ⊢
  obtain ⟨S, hS⟩ : ∃ S, S = sel l K (N + 1) := ⟨_, rfl⟩
  have hpos : 0 < S.length := by subst hS; exact sel_pos l K (N + 1) (by omega)
  have hlast : S.getLast? = some (lst l N K) := by subst hS; exact sel_last l K N
  have hfirst : S[0]? = some (lst l 0 K) := by subst hS; exact sel_first l K N
  have hasc : S.Pairwise (· < ·) := by subst hS; exact sel_asc l K hK1.1 (N + 1)
  have hgap : ∀ i (h : i + 1 < S.length), S[i + 1] ≤ S[i] + K := by subst hS; exact sel_gap l K hK1.1 (N + 1)
  have hlen2 : S.length ≤ N + 1 := by subst hS; exact sel_len l K (N + 1)
  have hL0 := lst_of (l := l) (f := 0) (show 0 < K by omega)
  have hLN := lst_of (l := l) (f := N) (show 0 < K by omega)
  rw [← hS] at hin2 ⊢
  rw [ints_len]
  clear hS
  obtain ⟨n1, hn1⟩ : ∃ n1, n1 = S.length := ⟨_, rfl⟩
  obtain ⟨g, o, rfl, hg, -⟩ := in_at hin2 (by rw [ints_len]; exact hpos)
  have q0 := ints_cell hin2 hpos
  rw [List.getElem?_eq_getElem hpos] at hfirst
  rw [Option.some.inj hfirst, Nat.add_zero] at q0
  obtain ⟨n0, hn0⟩ : ∃ n0, n1 = n0 + 1 := ⟨n1 - 1, by omega⟩
  have qL := ints_cell hin2 (show n0 < S.length by omega)
  rw [List.getLast?_eq_getElem?, show S.length - 1 = n0 by omega, List.getElem?_eq_getElem (by omega)] at hlast
  rw [Option.some.inj hlast] at qL
  rw [← hn1]
  have z1 : ((n1 : Int) == 0) = false := by rw [beq_eq_false_iff_ne]; omega
  have z2 : (0 : Int) < (n1 : Int) := by omega
  have z3 : IntKind.i64.wrap ((n1 : Int) - 1) = (n0 : Int) := by rw [IntKind.wrap_i64]; omega
  have z4 : (n0 : Int) < (n1 : Int) := by omega
  have z5 : IntKind.i64.wrap ((l.length : Int) - (K : Int)) = (N : Int) := by rw [IntKind.wrap_i64]; omega
  have e1 : decide ((lst l 0 K : Int) < 0) = false := decide_eq_false (by omega)
  have e2 : decide ((K : Int) ≤ (lst l 0 K : Int)) = false := decide_eq_false (by have := hL0.lt; omega)
  have e2n : decide (K ≤ lst l 0 K) = false := decide_eq_false (by have := hL0.lt; omega)
  have e3 : decide ((lst l N K : Int) < (N : Int)) = false := decide_eq_false (by have := hLN.ge; omega)
  have e3n : decide (lst l N K < N) = false := decide_eq_false (by have := hLN.ge; omega)
  have e4 : decide ((l.length : Int) ≤ (lst l N K : Int)) = false := decide_eq_false (by have := hLN.lt; omega)
  have e4n : decide (l.length ≤ lst l N K) = false := decide_eq_false (by have := hLN.lt; omega)
  generalize lst l 0 K = x0 at *
  generalize lst l N K = xN at *
  have HIN := Lib.hid hin2
  have HAS := Lib.hid hasc
  have HGP := Lib.hid hgap
  have HN1 := Lib.hid (show n1 = S.length ∧ n1 ≤ 8192 from ⟨hn1, by omega⟩)
  have HKK := Lib.hid hK1
  have hz1 : 1 ≤ n1 := by omega
  clear hin2 hasc hgap hn1 hn0 hpos hfirst hlast hlen hN hlen2 hL0 hLN hK1 hA2
  go_upto_region 11 with (fail)
  clear q0 qL z1 z2 z3 z4 z5 e1 e2 e2n e3 e3n e4 e4n
  go_wp2_with fail
  go_loopw [8] (fun s8 wr => ∃ i : Nat, s8 = .int .i64 i ∧ 1 ≤ i ∧ i ≤ n1 ∧ Below w2.heap.size w2 wr) (fun s8 _ => n1 - (intOf s8).toNat)
  case atStart => exact ⟨1, rfl, by omega, hz1, Below.refl _ _⟩
  case round =>
    obtain ⟨i, rfl, hi1, hi, hb⟩ := hrel
    obtain ⟨hn1, hn2⟩ := HN1.out
    by_cases hlt : i < n1
    · have b2 : decide ((i : Int) < (n1 : Int)) = true := decide_eq_true (by omega)
      have b2n : decide (i < n1) = true := decide_eq_true hlt
      obtain ⟨j, hj⟩ : ∃ j, i = j + 1 := ⟨i - 1, by omega⟩
      have q1 := (hb.cell (p := ⟨g, o + i, none⟩) hg).trans (ints_cell HIN.out (show i < S.length by omega))
      have q0 := (hb.cell (p := ⟨g, o + j, none⟩) hg).trans (ints_cell HIN.out (show j < S.length by omega))
      have h1 := asc_get HAS.out (show j < i by omega) (by omega)
      have h2 := HGP.out j (by omega)
      simp only [← hj] at h2
      have t1 : IntKind.i64.wrap ((i : Int) - 1) = (j : Int) := by rw [IntKind.wrap_i64]; omega
      have y1 : (i : Int) < (n1 : Int) := by omega
      have y2 : (j : Int) < (n1 : Int) := by omega
      have d2 : decide ((S[i] : Int) ≤ (S[j] : Int)) = false := decide_eq_false (by omega)
      have d2n : decide (S[i] ≤ S[j]) = false := decide_eq_false (by omega)
      obtain ⟨df, hdf⟩ : ∃ df : Nat, S[i] = S[j] + df := ⟨S[i] - S[j], by omega⟩
      have hbig : S[i] ≤ 100000000 ∨ 100000000 < S[i] := by omega
      have t2 : IntKind.i64.wrap ((S[i] : Int) - (S[j] : Int)) = (df : Int) := by rw [IntKind.wrap_i64]; have := HKK.out; omega
      have d3 : decide ((K : Int) < (df : Int)) = false := decide_eq_false (by omega)
      have d3n : decide (K < df) = false := decide_eq_false (by omega)
      have HX := Lib.hid (show i + 1 ≤ n1 ∧ n1 ≤ 8192 ∧ i ≤ 8192 from ⟨hlt, hn2, by omega⟩)
      generalize S[i] = a at *
      generalize S[j] = b at *
      have HB := Lib.hid hb
      clear hb h1 h2 hdf hj hn1 hi hi1 hlt hbig
      go_wp2_with fail
      go_quiet (fail)
      clear t1 t2 d2 d2n d3 d3n q0 q1 y1 y2
      have hi8 : i ≤ 8192 := HX.out.2.2
      go_wp2_with fail
      go_roundw
      case rel => exact ⟨i + 1, by go_num, by omega, HX.out.1, by have := HB.out; exact ⟨this.os, this.tape, this.output, this.size, this.block⟩⟩
      case measure => have := HX.out; simp [intOf]; omega
    · have b2 : decide ((i : Int) < (n1 : Int)) = false := decide_eq_false (by omega)
      have b2n : decide (i < n1) = false := decide_eq_false hlt
      have HB := Lib.hid (HB2.out.trans (hb.mono HB2.out.size))
      clear hb hn1 hlt hi
      go_wp2_with fail
      go_ret
      exact ⟨rfl, HB.out⟩
end Wn
end Go.Proofs.Ytkmldaelgbkfbaa
