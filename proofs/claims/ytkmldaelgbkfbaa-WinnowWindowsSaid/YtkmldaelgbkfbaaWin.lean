/- The law of windows. No condition but the lengths. -/
import Derived.Test.YtkmldaelgbkfbaaGap
import Derived.Test.YtkmldaelgbkfbaaSrd
import Derived.Test.YtkmldaelgbkfbaaMpi
namespace Go.Proofs.Ytkmldaelgbkfbaa
open Go.RowKit Go.Deep Go.Maps
namespace Wn
theorem lst_one (l : List Int) (i : Nat) : lst l i 1 = i := by have h := lst_of (l := l) (f := i) (show 0 < 1 by omega); have := h.ge; have := h.lt; omega
theorem sel_one (l : List Int) : ∀ m, (sel l 1 m).length = m
  | 0 => rfl
  | 1 => by rw [sel_step, lst_one]; simp [sel]
  | m + 2 => by
    rw [sel_step, if_neg, List.length_append, sel_one l (m + 1)]
    · rfl
    · rw [sel_last, lst_one, lst_one]
      intro h
      have := Option.some.inj h
      omega
theorem lea_ok (l : List Int) (i K Q : Nat) (hQ : Q = i + K) (hK : 1 ≤ K) (h : Q ≤ l.length) : leaI l (i : Int) (Q : Int) = (lst l i K : Int) ∧ leaE l (i : Int) (Q : Int) = 0 :=
  ⟨by unfold leaI; rw [if_pos (by omega), Int.toNat_natCast, Int.toNat_natCast, show Q - i = K by omega], by unfold leaE; rw [if_pos (by omega)]⟩
/-- The map of what is selected. -/
def selF (S : List Nat) : Int → Option Value := fun x => if x ∈ ints S then some (.bool true) else none
theorem selF_step (l : List Int) (K i : Nat) (hK : 0 < K) : (fun x => if x = (lst l i K : Int) then some (Value.bool true) else selF (sel l K i) x) = selF (sel l K (i + 1)) ∧ (if (selF (sel l K i) (lst l i K : Int)).isSome then (sel l K i).length else (sel l K i).length + 1) = (sel l K (i + 1)).length := by
  have hm : ∀ (T : List Nat) (x : Int), x ∈ ints T ↔ ∃ n, n ∈ T ∧ (n : Int) = x := fun T x => List.mem_map
  constructor
  · funext x
    unfold selF
    by_cases h : x = (lst l i K : Int)
    · rw [if_pos h, if_pos]
      rw [hm]
      exact ⟨lst l i K, (sel_mem l K (i + 1) _).2 ⟨i, by omega, rfl⟩, h.symm⟩
    · rw [if_neg h]
      have : x ∈ ints (sel l K i) ↔ x ∈ ints (sel l K (i + 1)) := by
        rw [hm, hm]
        constructor
        · rintro ⟨n, h1, h2⟩
          obtain ⟨j, hj, e⟩ := (sel_mem l K i n).1 h1
          exact ⟨n, (sel_mem l K (i + 1) n).2 ⟨j, by omega, e⟩, h2⟩
        · rintro ⟨n, h1, h2⟩
          obtain ⟨j, hj, e⟩ := (sel_mem l K (i + 1) n).1 h1
          refine ⟨n, (sel_mem l K i n).2 ⟨j, ?_, e⟩, h2⟩
          rcases Nat.lt_or_ge j i with h3 | h3
          · exact h3
          · exfalso; apply h; rw [← h2, e, show j = i by omega]
      simp only [this]
  · have hmem : (selF (sel l K i) (lst l i K : Int)).isSome = decide (lst l i K ∈ sel l K i) := by
      unfold selF
      by_cases h : lst l i K ∈ sel l K i
      · rw [if_pos ((hm _ _).2 ⟨_, h, rfl⟩), decide_eq_true h]; rfl
      · rw [if_neg (fun h' => h (by obtain ⟨n, h1, h2⟩ := (hm _ _).1 h'; rwa [show n = lst l i K by omega] at h1)), decide_eq_false h]; rfl
    rw [hmem, sel_step]
    by_cases h : lst l i K ∈ sel l K i
    · rw [if_pos (decide_eq_true h), if_pos]
      cases i with
      | zero => simp [sel] at h
      | succ i =>
        rcases sel_new l K hK i with h' | h'
        · exact h'
        · have := h' _ h; omega
    · rw [if_neg (by rw [decide_eq_false h]; simp), if_neg (fun h' => h (List.mem_of_getLast? h')), List.length_append]
      rfl
set_option maxHeartbeats 16000000 in
set_option maxRecDepth 100000 in
theorem windows_law (l : List Int) (m : Nat) (A : Option Addr) (c : Nat) (w : World) (hA : Gr.InAt w w.heap.size A l) (hl : l.length ≤ 140737488351232) (hc : l.length ≤ c) (hm : m ≤ 255) :
    Calls Try.prog 5 #[.slice A l.length c, .int .u8 (m : Int)] w fun e w' => e = .returned (.bool true) ∧ Below w.heap.size w w' := by
  by_cases hl0 : l.length = 0
  · have HL0 := Lib.hid hl0
    clear hl0
    have c0 := awake_any w
    have u1 := wr_nat (n := m) (by omega)
    have u2 := wr64_nat (n := m) (by omega)
    obtain ⟨K, hK⟩ : ∃ K, K = 1 + m % 20 := ⟨_, rfl⟩
    have r1 : IntKind.i64.wrap (1 + (m : Int) % 20) = (K : Int) := by rw [IntKind.wrap_i64]; omega
    have r1t : IntKind.i64.wrap (1 + ((m : Int)).tmod 20) = (K : Int) := by rw [Int.tmod_eq_emod_of_nonneg (by omega)]; exact r1
    have hK1 : 1 ≤ K ∧ K ≤ 20 := by omega
    clear hK
    by_cases h : 100 < l.length
    · have d1 : decide ((100 : Int) < (l.length : Int)) = true := decide_eq_true (by omega)
      have d1n : decide (100 < l.length) = true := decide_eq_true h
      go_enter Try.func5, Try.ntmps5
      go_wp2_with fail
      (with_reducible refine c0.mono ?_); rintro e w1 ⟨rfl, hb⟩
      have HB := Lib.hid hb
      clear hb c0
      go_wp2_with fail
      go_ret
      exact ⟨rfl, HB.out⟩
    have d1 : decide ((100 : Int) < (l.length : Int)) = false := decide_eq_false (by omega)
    have d1n : decide (100 < l.length) = false := decide_eq_false h
    have h5 : l.length ≤ 100000 := by omega
    go_enter Try.func5, Try.ntmps5
    go_wp2_with fail
    (with_reducible refine c0.mono ?_); rintro e w1 ⟨rfl, hb1⟩
    have hA1 := hA.next hb1
    have c1 := select_any l K A c w1 hA1 h5 hc
    obtain ⟨hs1, hs2⟩ := selL_ok l K hK1.1 (by omega) (by omega)
    rw [hs1, hs2] at c1
    have HB1 := Lib.hid hb1
    clear c0 hs1 hs2 hb1
    go_wp2_with fail
    (with_reducible refine c1.mono ?_); rintro e w2 ⟨A2, k2, rfl, -, -, hin2, hb2⟩
    have HB2 := Lib.hid (HB1.out.trans (hb2.mono HB1.out.size))
    have hA2 := hA1.next hb2
    clear c1 hb2 hA1 u1 u2 r1 r1t
    obtain ⟨S, hS⟩ : ∃ S, S = sel l K (l.length + 1 - K) := ⟨_, rfl⟩
    have hasc : S.Pairwise (· < ·) := by subst hS; exact sel_asc l K hK1.1 _
    have hlen2 : S.length ≤ l.length + 1 - K := by subst hS; exact sel_len l K _
    have hone : K = 1 → S.length = l.length := by subst hS; intro h; rw [h, sel_one]; omega
    have hshort : l.length < K → S.length = 0 := by subst hS; intro h; rw [show l.length + 1 - K = 0 by omega]; rfl
    have cs := sorted_any (ints S) A2 k2 w2 (by rw [hS]; exact hin2) (by rw [ints_len]; omega) (fun i hi => by
      rw [ints_len] at hi
      rw [ints_get _ _ (by omega), ints_get _ _ (by omega)]
      have := asc_get hasc (show i < i + 1 by omega) hi
      omega)
    rw [← hS] at hin2 ⊢
    rw [ints_len] at cs ⊢
    obtain ⟨n1, hn1⟩ : ∃ n1, n1 = S.length := ⟨_, rfl⟩
    rw [← hn1] at cs ⊢
    rw [← hn1] at hlen2 hone hshort
    have hkeq : ∃ bk : Bool, ((K : Int) == 1) = bk ∧ (bk = true → K = 1) ∧ (bk = false → K ≠ 1) := by
      refine ⟨_, rfl, fun h => ?_, fun h => ?_⟩
      · rw [beq_iff_eq] at h; omega
      · rw [beq_eq_false_iff_ne] at h; omega
    obtain ⟨bk, e1, hb1, hb2⟩ := hkeq
    have hsh : ∃ bs : Bool, decide ((l.length : Int) < (K : Int)) = bs ∧ decide (l.length < K) = bs ∧ (bs = true → n1 = 0) := by
      refine ⟨_, rfl, by rw [decide_eq_decide]; omega, fun h => hshort ?_⟩
      have := of_decide_eq_true h
      omega
    obtain ⟨bs, e3, e3n, hs1⟩ := hsh
    have e2 : bk = true → ((n1 : Int) != (l.length : Int)) = false := fun h => by rw [hone (hb1 h)]; simp
    have e4 : bs = true → ((n1 : Int) != 0) = false := fun h => by rw [hs1 h]; simp
    have HN1 := Lib.hid (show n1 = S.length ∧ n1 ≤ 101 from ⟨hn1, by omega⟩)
    have HSS := Lib.hid hS
    have HK := Lib.hid hK1
    have HIN := Lib.hid hin2
    have HLL := Lib.hid (show l.length ≤ 100 by omega)
    have HC := Lib.hid hc
    clear hasc hlen2 hone hshort hn1 hK1 hin2 hb1 hb2 hs1 hS hc hl h d1n
    have goal2 : ∀ w3, Below w2.heap.size w2 w3 → True := fun _ _ => trivial
    clear goal2
    cases bk with
    | false =>
      cases bs with
      | false =>
        clear e2 e4
        go_wp2_with fail
        (with_reducible refine cs.mono ?_); rintro e w3 ⟨rfl, hb3⟩
        have HB3 := Lib.hid (HB2.out.trans (hb3.mono HB2.out.size))
        have HIN3 := Lib.hid (HIN.out.next hb3)
        have hA3 := hA2.next hb3
        clear hb3 cs
        go_upto_region 9 with (fail)
        clear e1 e3 e3n
        have hM0 := Mq.made w3
        have hF0 : (fun _ => none) = selF (sel l K 0) := by funext x; unfold selF; rw [if_neg (by simp [sel, ints])]
        rw [hF0, show (0 : Nat) = (sel l K 0).length from rfl] at hM0
        have HM0 := Lib.hid hM0
        have HBM := Lib.hid (show Below w3.heap.size w3 (w3.alloc (.map #[] 0)) from (Below.refl _ _).alloc (Nat.le_refl _) _)
        have HA3 := Lib.hid hA3
        clear hM0 hF0 hA3 hA2
        have hmm := @run_makeMap Try.prog
        go_wp2_with fail
        clear hmm
        go_loopw [9] (fun s9 wr => ∃ i : Nat, s9 = .int .i64 i ∧ i ≤ l.length + 1 - K ∧ Mq wr w3.heap.size i (selF (sel l K i)) (sel l K i).length ∧ Below w3.heap.size w3 wr) (fun s9 _ => l.length + 1 - K - (intOf s9).toNat)
        case atStart => exact ⟨0, rfl, by omega, HM0.out, HBM.out⟩
        case round =>
          obtain ⟨i, rfl, hi, hM, hb⟩ := hrel
          obtain ⟨w00, rfl⟩ : ∃ x : World, x = wr := ⟨wr, rfl⟩
          have hKK := HK.out
          have hll := HLL.out
          have t5 : IntKind.i64.wrap ((i : Int) + (K : Int)) = (i : Int) + (K : Int) := by rw [IntKind.wrap_i64]; omega
          obtain ⟨Q, hQ⟩ : ∃ Q, Q = i + K := ⟨_, rfl⟩
          have t6 : IntKind.i64.wrap ((i : Int) + (K : Int)) = (Q : Int) := by rw [t5]; omega
          clear t5
          by_cases hlt : i + K ≤ l.length
          · exact absurd hlt (by have := HL0.out; omega)
          · have b1 : decide ((Q : Int) ≤ (l.length : Int)) = false := decide_eq_false (by omega)
            have b1n : decide (Q ≤ l.length) = false := decide_eq_false (by omega)
            have hlen := hM.len Try.underlying39
            have hi2 : (sel l K i).length = n1 := by rw [HN1.out.1, HSS.out, show l.length + 1 - K = i by omega]
            rw [hi2] at hlen
            have HB := Lib.hid (HB3.out.trans (hb.mono HB3.out.size))
            clear hM hb hlt hi hQ hi2 hKK hll
            go_wp2_with fail
            go_ret
            exact ⟨by simp, HB.out⟩
      | true =>
        have e4c := e4 rfl
        clear e2 e4
        go_wp2_with fail
        (with_reducible refine cs.mono ?_); rintro e w3 ⟨rfl, hb3⟩
        have HB3 := Lib.hid (HB2.out.trans (hb3.mono HB2.out.size))
        have HIN3 := Lib.hid (HIN.out.next hb3)
        have hA3 := hA2.next hb3
        clear hb3 cs
        go_upto_region 9 with (fail)
        clear e1 e3 e3n e4c
        have hM0 := Mq.made w3
        have hF0 : (fun _ => none) = selF (sel l K 0) := by funext x; unfold selF; rw [if_neg (by simp [sel, ints])]
        rw [hF0, show (0 : Nat) = (sel l K 0).length from rfl] at hM0
        have HM0 := Lib.hid hM0
        have HBM := Lib.hid (show Below w3.heap.size w3 (w3.alloc (.map #[] 0)) from (Below.refl _ _).alloc (Nat.le_refl _) _)
        have HA3 := Lib.hid hA3
        clear hM0 hF0 hA3 hA2
        have hmm := @run_makeMap Try.prog
        go_wp2_with fail
        clear hmm
        go_loopw [9] (fun s9 wr => ∃ i : Nat, s9 = .int .i64 i ∧ i ≤ l.length + 1 - K ∧ Mq wr w3.heap.size i (selF (sel l K i)) (sel l K i).length ∧ Below w3.heap.size w3 wr) (fun s9 _ => l.length + 1 - K - (intOf s9).toNat)
        case atStart => exact ⟨0, rfl, by omega, HM0.out, HBM.out⟩
        case round =>
          obtain ⟨i, rfl, hi, hM, hb⟩ := hrel
          obtain ⟨w00, rfl⟩ : ∃ x : World, x = wr := ⟨wr, rfl⟩
          have hKK := HK.out
          have hll := HLL.out
          have t5 : IntKind.i64.wrap ((i : Int) + (K : Int)) = (i : Int) + (K : Int) := by rw [IntKind.wrap_i64]; omega
          obtain ⟨Q, hQ⟩ : ∃ Q, Q = i + K := ⟨_, rfl⟩
          have t6 : IntKind.i64.wrap ((i : Int) + (K : Int)) = (Q : Int) := by rw [t5]; omega
          clear t5
          by_cases hlt : i + K ≤ l.length
          · exact absurd hlt (by have := HL0.out; omega)
          · have b1 : decide ((Q : Int) ≤ (l.length : Int)) = false := decide_eq_false (by omega)
            have b1n : decide (Q ≤ l.length) = false := decide_eq_false (by omega)
            have hlen := hM.len Try.underlying39
            have hi2 : (sel l K i).length = n1 := by rw [HN1.out.1, HSS.out, show l.length + 1 - K = i by omega]
            rw [hi2] at hlen
            have HB := Lib.hid (HB3.out.trans (hb.mono HB3.out.size))
            clear hM hb hlt hi hQ hi2 hKK hll
            go_wp2_with fail
            go_ret
            exact ⟨by simp, HB.out⟩
    | true =>
      cases bs with
      | false =>
        have e2c := e2 rfl
        clear e2 e4
        go_wp2_with fail
        (with_reducible refine cs.mono ?_); rintro e w3 ⟨rfl, hb3⟩
        have HB3 := Lib.hid (HB2.out.trans (hb3.mono HB2.out.size))
        have HIN3 := Lib.hid (HIN.out.next hb3)
        have hA3 := hA2.next hb3
        clear hb3 cs
        go_upto_region 9 with (fail)
        clear e1 e3 e3n e2c
        have hM0 := Mq.made w3
        have hF0 : (fun _ => none) = selF (sel l K 0) := by funext x; unfold selF; rw [if_neg (by simp [sel, ints])]
        rw [hF0, show (0 : Nat) = (sel l K 0).length from rfl] at hM0
        have HM0 := Lib.hid hM0
        have HBM := Lib.hid (show Below w3.heap.size w3 (w3.alloc (.map #[] 0)) from (Below.refl _ _).alloc (Nat.le_refl _) _)
        have HA3 := Lib.hid hA3
        clear hM0 hF0 hA3 hA2
        have hmm := @run_makeMap Try.prog
        go_wp2_with fail
        clear hmm
        go_loopw [9] (fun s9 wr => ∃ i : Nat, s9 = .int .i64 i ∧ i ≤ l.length + 1 - K ∧ Mq wr w3.heap.size i (selF (sel l K i)) (sel l K i).length ∧ Below w3.heap.size w3 wr) (fun s9 _ => l.length + 1 - K - (intOf s9).toNat)
        case atStart => exact ⟨0, rfl, by omega, HM0.out, HBM.out⟩
        case round =>
          obtain ⟨i, rfl, hi, hM, hb⟩ := hrel
          obtain ⟨w00, rfl⟩ : ∃ x : World, x = wr := ⟨wr, rfl⟩
          have hKK := HK.out
          have hll := HLL.out
          have t5 : IntKind.i64.wrap ((i : Int) + (K : Int)) = (i : Int) + (K : Int) := by rw [IntKind.wrap_i64]; omega
          obtain ⟨Q, hQ⟩ : ∃ Q, Q = i + K := ⟨_, rfl⟩
          have t6 : IntKind.i64.wrap ((i : Int) + (K : Int)) = (Q : Int) := by rw [t5]; omega
          clear t5
          by_cases hlt : i + K ≤ l.length
          · exact absurd hlt (by have := HL0.out; omega)
          · have b1 : decide ((Q : Int) ≤ (l.length : Int)) = false := decide_eq_false (by omega)
            have b1n : decide (Q ≤ l.length) = false := decide_eq_false (by omega)
            have hlen := hM.len Try.underlying39
            have hi2 : (sel l K i).length = n1 := by rw [HN1.out.1, HSS.out, show l.length + 1 - K = i by omega]
            rw [hi2] at hlen
            have HB := Lib.hid (HB3.out.trans (hb.mono HB3.out.size))
            clear hM hb hlt hi hQ hi2 hKK hll
            go_wp2_with fail
            go_ret
            exact ⟨by simp, HB.out⟩
      | true =>
        have e2c := e2 rfl
        have e4c := e4 rfl
        clear e2 e4
        go_wp2_with fail
        (with_reducible refine cs.mono ?_); rintro e w3 ⟨rfl, hb3⟩
        have HB3 := Lib.hid (HB2.out.trans (hb3.mono HB2.out.size))
        have HIN3 := Lib.hid (HIN.out.next hb3)
        have hA3 := hA2.next hb3
        clear hb3 cs
        go_upto_region 9 with (fail)
        clear e1 e3 e3n e2c e4c
        have hM0 := Mq.made w3
        have hF0 : (fun _ => none) = selF (sel l K 0) := by funext x; unfold selF; rw [if_neg (by simp [sel, ints])]
        rw [hF0, show (0 : Nat) = (sel l K 0).length from rfl] at hM0
        have HM0 := Lib.hid hM0
        have HBM := Lib.hid (show Below w3.heap.size w3 (w3.alloc (.map #[] 0)) from (Below.refl _ _).alloc (Nat.le_refl _) _)
        have HA3 := Lib.hid hA3
        clear hM0 hF0 hA3 hA2
        have hmm := @run_makeMap Try.prog
        go_wp2_with fail
        clear hmm
        go_loopw [9] (fun s9 wr => ∃ i : Nat, s9 = .int .i64 i ∧ i ≤ l.length + 1 - K ∧ Mq wr w3.heap.size i (selF (sel l K i)) (sel l K i).length ∧ Below w3.heap.size w3 wr) (fun s9 _ => l.length + 1 - K - (intOf s9).toNat)
        case atStart => exact ⟨0, rfl, by omega, HM0.out, HBM.out⟩
        case round =>
          obtain ⟨i, rfl, hi, hM, hb⟩ := hrel
          obtain ⟨w00, rfl⟩ : ∃ x : World, x = wr := ⟨wr, rfl⟩
          have hKK := HK.out
          have hll := HLL.out
          have t5 : IntKind.i64.wrap ((i : Int) + (K : Int)) = (i : Int) + (K : Int) := by rw [IntKind.wrap_i64]; omega
          obtain ⟨Q, hQ⟩ : ∃ Q, Q = i + K := ⟨_, rfl⟩
          have t6 : IntKind.i64.wrap ((i : Int) + (K : Int)) = (Q : Int) := by rw [t5]; omega
          clear t5
          by_cases hlt : i + K ≤ l.length
          · exact absurd hlt (by have := HL0.out; omega)
          · have b1 : decide ((Q : Int) ≤ (l.length : Int)) = false := decide_eq_false (by omega)
            have b1n : decide (Q ≤ l.length) = false := decide_eq_false (by omega)
            have hlen := hM.len Try.underlying39
            have hi2 : (sel l K i).length = n1 := by rw [HN1.out.1, HSS.out, show l.length + 1 - K = i by omega]
            rw [hi2] at hlen
            have HB := Lib.hid (HB3.out.trans (hb.mono HB3.out.size))
            clear hM hb hlt hi hQ hi2 hKK hll
            go_wp2_with fail
            go_ret
            exact ⟨by simp, HB.out⟩
  obtain ⟨ga, oa, rfl, hga, -⟩ := in_at hA (by omega)
  clear hl0
  have c0 := awake_any w
  have u1 := wr_nat (n := m) (by omega)
  have u2 := wr64_nat (n := m) (by omega)
  obtain ⟨K, hK⟩ : ∃ K, K = 1 + m % 20 := ⟨_, rfl⟩
  have r1 : IntKind.i64.wrap (1 + (m : Int) % 20) = (K : Int) := by rw [IntKind.wrap_i64]; omega
  have r1t : IntKind.i64.wrap (1 + ((m : Int)).tmod 20) = (K : Int) := by rw [Int.tmod_eq_emod_of_nonneg (by omega)]; exact r1
  have hK1 : 1 ≤ K ∧ K ≤ 20 := by omega
  clear hK
  by_cases h : 100 < l.length
  · have d1 : decide ((100 : Int) < (l.length : Int)) = true := decide_eq_true (by omega)
    have d1n : decide (100 < l.length) = true := decide_eq_true h
    go_enter Try.func5, Try.ntmps5
    go_wp2_with fail
    (with_reducible refine c0.mono ?_); rintro e w1 ⟨rfl, hb⟩
    have HB := Lib.hid hb
    clear hb c0
    go_wp2_with fail
    go_ret
    exact ⟨rfl, HB.out⟩
  have d1 : decide ((100 : Int) < (l.length : Int)) = false := decide_eq_false (by omega)
  have d1n : decide (100 < l.length) = false := decide_eq_false h
  have h5 : l.length ≤ 100000 := by omega
  go_enter Try.func5, Try.ntmps5
  go_wp2_with fail
  (with_reducible refine c0.mono ?_); rintro e w1 ⟨rfl, hb1⟩
  have hA1 := hA.next hb1
  have c1 := select_any l K (some ⟨ga, oa, none⟩) c w1 hA1 h5 hc
  obtain ⟨hs1, hs2⟩ := selL_ok l K hK1.1 (by omega) (by omega)
  rw [hs1, hs2] at c1
  have HB1 := Lib.hid hb1
  clear c0 hs1 hs2 hb1
  go_wp2_with fail
  (with_reducible refine c1.mono ?_); rintro e w2 ⟨A2, k2, rfl, -, -, hin2, hb2⟩
  have HB2 := Lib.hid (HB1.out.trans (hb2.mono HB1.out.size))
  have hA2 := hA1.next hb2
  clear c1 hb2 hA1 u1 u2 r1 r1t
  obtain ⟨S, hS⟩ : ∃ S, S = sel l K (l.length + 1 - K) := ⟨_, rfl⟩
  have hasc : S.Pairwise (· < ·) := by subst hS; exact sel_asc l K hK1.1 _
  have hlen2 : S.length ≤ l.length + 1 - K := by subst hS; exact sel_len l K _
  have hone : K = 1 → S.length = l.length := by subst hS; intro h; rw [h, sel_one]; omega
  have hshort : l.length < K → S.length = 0 := by subst hS; intro h; rw [show l.length + 1 - K = 0 by omega]; rfl
  have cs := sorted_any (ints S) A2 k2 w2 (by rw [hS]; exact hin2) (by rw [ints_len]; omega) (fun i hi => by
    rw [ints_len] at hi
    rw [ints_get _ _ (by omega), ints_get _ _ (by omega)]
    have := asc_get hasc (show i < i + 1 by omega) hi
    omega)
  rw [← hS] at hin2 ⊢
  rw [ints_len] at cs ⊢
  obtain ⟨n1, hn1⟩ : ∃ n1, n1 = S.length := ⟨_, rfl⟩
  rw [← hn1] at cs ⊢
  rw [← hn1] at hlen2 hone hshort
  have hkeq : ∃ bk : Bool, ((K : Int) == 1) = bk ∧ (bk = true → K = 1) ∧ (bk = false → K ≠ 1) := by
    refine ⟨_, rfl, fun h => ?_, fun h => ?_⟩
    · rw [beq_iff_eq] at h; omega
    · rw [beq_eq_false_iff_ne] at h; omega
  obtain ⟨bk, e1, hb1, hb2⟩ := hkeq
  have hsh : ∃ bs : Bool, decide ((l.length : Int) < (K : Int)) = bs ∧ decide (l.length < K) = bs ∧ (bs = true → n1 = 0) := by
    refine ⟨_, rfl, by rw [decide_eq_decide]; omega, fun h => hshort ?_⟩
    have := of_decide_eq_true h
    omega
  obtain ⟨bs, e3, e3n, hs1⟩ := hsh
  have e2 : bk = true → ((n1 : Int) != (l.length : Int)) = false := fun h => by rw [hone (hb1 h)]; simp
  have e4 : bs = true → ((n1 : Int) != 0) = false := fun h => by rw [hs1 h]; simp
  have HN1 := Lib.hid (show n1 = S.length ∧ n1 ≤ 101 from ⟨hn1, by omega⟩)
  have HSS := Lib.hid hS
  have HK := Lib.hid hK1
  have HIN := Lib.hid hin2
  have HLL := Lib.hid (show l.length ≤ 100 by omega)
  have HC := Lib.hid hc
  clear hasc hlen2 hone hshort hn1 hK1 hin2 hb1 hb2 hs1 hS hc hl h d1n
  have goal2 : ∀ w3, Below w2.heap.size w2 w3 → True := fun _ _ => trivial
  clear goal2
  cases bk with
  | false =>
    cases bs with
    | false =>
      clear e2 e4
      go_wp2_with fail
      (with_reducible refine cs.mono ?_); rintro e w3 ⟨rfl, hb3⟩
      have HB3 := Lib.hid (HB2.out.trans (hb3.mono HB2.out.size))
      have HIN3 := Lib.hid (HIN.out.next hb3)
      have hA3 := hA2.next hb3
      clear hb3 cs
      go_upto_region 9 with (fail)
      clear e1 e3 e3n
      have hM0 := Mq.made w3
      have hF0 : (fun _ => none) = selF (sel l K 0) := by funext x; unfold selF; rw [if_neg (by simp [sel, ints])]
      rw [hF0, show (0 : Nat) = (sel l K 0).length from rfl] at hM0
      have HM0 := Lib.hid hM0
      have HBM := Lib.hid (show Below w3.heap.size w3 (w3.alloc (.map #[] 0)) from (Below.refl _ _).alloc (Nat.le_refl _) _)
      have HA3 := Lib.hid hA3
      clear hM0 hF0 hA3 hA2
      have hmm := @run_makeMap Try.prog
      go_wp2_with fail
      clear hmm
      go_loopw [9] (fun s9 wr => ∃ i : Nat, s9 = .int .i64 i ∧ i ≤ l.length + 1 - K ∧ Mq wr w3.heap.size i (selF (sel l K i)) (sel l K i).length ∧ Below w3.heap.size w3 wr) (fun s9 _ => l.length + 1 - K - (intOf s9).toNat)
      case atStart => exact ⟨0, rfl, by omega, HM0.out, HBM.out⟩
      case round =>
        obtain ⟨i, rfl, hi, hM, hb⟩ := hrel
        obtain ⟨w00, rfl⟩ : ∃ x : World, x = wr := ⟨wr, rfl⟩
        have hKK := HK.out
        have hll := HLL.out
        have t5 : IntKind.i64.wrap ((i : Int) + (K : Int)) = (i : Int) + (K : Int) := by rw [IntKind.wrap_i64]; omega
        obtain ⟨Q, hQ⟩ : ∃ Q, Q = i + K := ⟨_, rfl⟩
        have t6 : IntKind.i64.wrap ((i : Int) + (K : Int)) = (Q : Int) := by rw [t5]; omega
        clear t5
        by_cases hlt : i + K ≤ l.length
        · have b1 : decide ((Q : Int) ≤ (l.length : Int)) = true := decide_eq_true (by omega)
          have b1n : decide (Q ≤ l.length) = true := decide_eq_true (by omega)
          have cc := least_any l i Q (some ⟨ga, oa, none⟩) c w00 (HA3.out.next hb) h5
          obtain ⟨ho1, ho2⟩ := lea_ok l i K Q hQ hKK.1 (by omega)
          rw [ho1, ho2] at cc
          obtain ⟨hs1, hs2⟩ := selF_step l K i hKK.1
          have hL := lst_of (l := l) (f := i) (show 0 < K by omega)
          have hmem : (lst l i K : Int) ∈ ints S := List.mem_map.2 ⟨lst l i K, by rw [HSS.out]; exact (sel_mem l K _ _).2 ⟨i, by omega, rfl⟩, rfl⟩
          have HS1 := Lib.hid hs1
          have HS2 := Lib.hid hs2
          clear ho1 ho2 hs1 hs2
          generalize lst l i K = y at *
          have d1 : decide ((y : Int) < (i : Int)) = false := decide_eq_false (by have := hL.ge; omega)
          have d1n : decide (y < i) = false := decide_eq_false (by have := hL.ge; omega)
          have d2 : decide ((Q : Int) ≤ (y : Int)) = false := decide_eq_false (by have := hL.lt; omega)
          have d2n : decide (Q ≤ y) = false := decide_eq_false (by have := hL.lt; omega)
          have hyl : y < l.length := by have := hL.lt; omega
          have HX := Lib.hid (show i + 1 ≤ l.length + 1 - K ∧ i ≤ 100 ∧ Q = i + K ∧ Q ≤ l.length ∧ Q ≤ 100 from ⟨by omega, by omega, hQ, by omega, by omega⟩)
          have HLL2 := Lib.hid hL
          have HM := Lib.hid hM
          have HB := Lib.hid hb
          have HME := Lib.hid hmem
          clear hL hM hb hmem hlt hi hQ hKK hll
          go_wp2_with fail
          (with_reducible refine cc.mono ?_); rintro e w4 ⟨rfl, hb4⟩
          have hM4 := HM.out.next hb4
          have HB4 := Lib.hid (HB.out.trans (hb4.mono HB.out.size))
          have c5 := containsIn_any (ints S) y A2 k2 w4 (HIN3.out.next HB4.out) (by rw [ints_len]; have := HN1.out; omega)
          rw [decide_eq_true HME.out, show (ints S).length = n1 by rw [ints_len]; exact HN1.out.1.symm] at c5
          obtain ⟨w6, hrun, hM6, hg⟩ := hM4.store Try.underlying39 (by unfold maxLen; have := HX.out; omega) (y : Int) (fit_of (by omega) (by omega)) (.bool true)
          rw [HS1.out, HS2.out] at hM6
          have HM6 := Lib.hid hM6
          have HB6 := Lib.hid (show Below w3.heap.size w3 w6 from HB4.out.trans (below_map hg (Nat.le_refl _) HB4.out.size))
          have hAA := (HA3.out.next HB6.out)
          obtain ⟨_, _, e, hga6, hcl⟩ := in_at hAA (by omega)
          cases e
          have HCL := Lib.hid hcl
          clear hb4 hM4 hM6 hg cc hAA hcl
          go_wp2_with fail
          (with_reducible refine c5.mono ?_); rintro e w5 ⟨rfl, rfl⟩
          clear c5
          have hy8 : i ≤ 8192 := by have := HX.out; omega
          go_wp2_with fail
          clear hrun b1 b1n d1 d1n d2 d2n
          go_loopw [12] (fun s12 wr => ∃ k : Nat, s12 = .int .i64 k ∧ i ≤ k ∧ k ≤ Q ∧ Below w6.heap.size w6 wr) (fun s12 _ => Q - (intOf s12).toNat)
          case atStart => exact ⟨i, rfl, by omega, by have := HX.out; have := HK.out; omega, Below.refl _ _⟩
          case round =>
            obtain ⟨k, rfl, hik, hkQ, hbk⟩ := hrel
            have hX := HX.out
            by_cases hlt : k < Q
            · have b2 : decide ((k : Int) < (Q : Int)) = true := decide_eq_true (by omega)
              have b2n : decide (k < Q) = true := decide_eq_true hlt
              have q1 := (hbk.cell (p := ⟨ga, oa + k, none⟩) hga6).trans (HCL.out k (by omega))
              have q2 := (hbk.cell (p := ⟨ga, oa + y, none⟩) hga6).trans (HCL.out y hyl)
              have y1 : (k : Int) < (l.length : Int) := by omega
              have y2 : (y : Int) < (l.length : Int) := by omega
              have h1 := HLL2.out.le k (by omega) (by omega)
              have h2 := fun h => HLL2.out.ls k h (by omega)
              have hk8 : k ≤ 8192 := by omega
              have HKQ := Lib.hid (show i ≤ k + 1 ∧ k + 1 ≤ Q from ⟨by omega, by omega⟩)
              generalize l.getD k 0 = zk at *
              generalize l.getD y 0 = zy at *
              have d3 : decide (zk < zy) = false := decide_eq_false (by omega)
              have HB := Lib.hid hbk
              by_cases he : zk = zy
              · have d5 : decide ((y : Int) < (k : Int)) = false := decide_eq_false (by intro h; have := h2 (by omega); omega)
                have d5n : decide (y < k) = false := decide_eq_false (by intro h; have := h2 h; omega)
                subst he
                clear hbk h1 h2 hX hik hkQ hlt
                go_wp2_with fail
                go_quiet (fail)
                clear d3 d5 d5n q1 q2 y1 y2
                go_wp2_with fail
                go_roundw
                case rel => exact ⟨k + 1, by go_num, HKQ.out.1, HKQ.out.2, by have := HB.out; exact ⟨this.os, this.tape, this.output, this.size, this.block⟩⟩
                case measure => have := HKQ.out; simp [intOf]; omega
              · have d4 : (zk == zy) = false := by rw [beq_eq_false_iff_ne]; exact he
                clear hbk h1 h2 hX hik hkQ hlt he
                go_wp2_with fail
                go_quiet (fail)
                clear d3 d4 q1 q2 y1 y2
                go_wp2_with fail
                go_roundw
                case rel => exact ⟨k + 1, by go_num, HKQ.out.1, HKQ.out.2, by have := HB.out; exact ⟨this.os, this.tape, this.output, this.size, this.block⟩⟩
                case measure => have := HKQ.out; simp [intOf]; omega
            · have b2 : decide ((k : Int) < (Q : Int)) = false := decide_eq_false (by omega)
              have b2n : decide (k < Q) = false := decide_eq_false hlt
              have HM7 := Lib.hid (HM6.out.next hbk)
              have HB7 := Lib.hid (HB6.out.trans (hbk.mono HB6.out.size))
              clear hbk hX hik hkQ hlt
              go_wp2_with fail
              go_roundw
              case rel => exact ⟨i + 1, by go_num, HX.out.1, HM7.out, HB7.out⟩
              case measure => have := HX.out; simp [intOf]; omega
        · have b1 : decide ((Q : Int) ≤ (l.length : Int)) = false := decide_eq_false (by omega)
          have b1n : decide (Q ≤ l.length) = false := decide_eq_false (by omega)
          have hlen := hM.len Try.underlying39
          have hi2 : (sel l K i).length = n1 := by rw [HN1.out.1, HSS.out, show l.length + 1 - K = i by omega]
          rw [hi2] at hlen
          have HB := Lib.hid (HB3.out.trans (hb.mono HB3.out.size))
          clear hM hb hlt hi hQ hi2 hKK hll
          go_wp2_with fail
          go_ret
          exact ⟨by simp, HB.out⟩
    | true =>
      have e4c := e4 rfl
      clear e2 e4
      go_wp2_with fail
      (with_reducible refine cs.mono ?_); rintro e w3 ⟨rfl, hb3⟩
      have HB3 := Lib.hid (HB2.out.trans (hb3.mono HB2.out.size))
      have HIN3 := Lib.hid (HIN.out.next hb3)
      have hA3 := hA2.next hb3
      clear hb3 cs
      go_upto_region 9 with (fail)
      clear e1 e3 e3n e4c
      have hM0 := Mq.made w3
      have hF0 : (fun _ => none) = selF (sel l K 0) := by funext x; unfold selF; rw [if_neg (by simp [sel, ints])]
      rw [hF0, show (0 : Nat) = (sel l K 0).length from rfl] at hM0
      have HM0 := Lib.hid hM0
      have HBM := Lib.hid (show Below w3.heap.size w3 (w3.alloc (.map #[] 0)) from (Below.refl _ _).alloc (Nat.le_refl _) _)
      have HA3 := Lib.hid hA3
      clear hM0 hF0 hA3 hA2
      have hmm := @run_makeMap Try.prog
      go_wp2_with fail
      clear hmm
      go_loopw [9] (fun s9 wr => ∃ i : Nat, s9 = .int .i64 i ∧ i ≤ l.length + 1 - K ∧ Mq wr w3.heap.size i (selF (sel l K i)) (sel l K i).length ∧ Below w3.heap.size w3 wr) (fun s9 _ => l.length + 1 - K - (intOf s9).toNat)
      case atStart => exact ⟨0, rfl, by omega, HM0.out, HBM.out⟩
      case round =>
        obtain ⟨i, rfl, hi, hM, hb⟩ := hrel
        obtain ⟨w00, rfl⟩ : ∃ x : World, x = wr := ⟨wr, rfl⟩
        have hKK := HK.out
        have hll := HLL.out
        have t5 : IntKind.i64.wrap ((i : Int) + (K : Int)) = (i : Int) + (K : Int) := by rw [IntKind.wrap_i64]; omega
        obtain ⟨Q, hQ⟩ : ∃ Q, Q = i + K := ⟨_, rfl⟩
        have t6 : IntKind.i64.wrap ((i : Int) + (K : Int)) = (Q : Int) := by rw [t5]; omega
        clear t5
        by_cases hlt : i + K ≤ l.length
        · have b1 : decide ((Q : Int) ≤ (l.length : Int)) = true := decide_eq_true (by omega)
          have b1n : decide (Q ≤ l.length) = true := decide_eq_true (by omega)
          have cc := least_any l i Q (some ⟨ga, oa, none⟩) c w00 (HA3.out.next hb) h5
          obtain ⟨ho1, ho2⟩ := lea_ok l i K Q hQ hKK.1 (by omega)
          rw [ho1, ho2] at cc
          obtain ⟨hs1, hs2⟩ := selF_step l K i hKK.1
          have hL := lst_of (l := l) (f := i) (show 0 < K by omega)
          have hmem : (lst l i K : Int) ∈ ints S := List.mem_map.2 ⟨lst l i K, by rw [HSS.out]; exact (sel_mem l K _ _).2 ⟨i, by omega, rfl⟩, rfl⟩
          have HS1 := Lib.hid hs1
          have HS2 := Lib.hid hs2
          clear ho1 ho2 hs1 hs2
          generalize lst l i K = y at *
          have d1 : decide ((y : Int) < (i : Int)) = false := decide_eq_false (by have := hL.ge; omega)
          have d1n : decide (y < i) = false := decide_eq_false (by have := hL.ge; omega)
          have d2 : decide ((Q : Int) ≤ (y : Int)) = false := decide_eq_false (by have := hL.lt; omega)
          have d2n : decide (Q ≤ y) = false := decide_eq_false (by have := hL.lt; omega)
          have hyl : y < l.length := by have := hL.lt; omega
          have HX := Lib.hid (show i + 1 ≤ l.length + 1 - K ∧ i ≤ 100 ∧ Q = i + K ∧ Q ≤ l.length ∧ Q ≤ 100 from ⟨by omega, by omega, hQ, by omega, by omega⟩)
          have HLL2 := Lib.hid hL
          have HM := Lib.hid hM
          have HB := Lib.hid hb
          have HME := Lib.hid hmem
          clear hL hM hb hmem hlt hi hQ hKK hll
          go_wp2_with fail
          (with_reducible refine cc.mono ?_); rintro e w4 ⟨rfl, hb4⟩
          have hM4 := HM.out.next hb4
          have HB4 := Lib.hid (HB.out.trans (hb4.mono HB.out.size))
          have c5 := containsIn_any (ints S) y A2 k2 w4 (HIN3.out.next HB4.out) (by rw [ints_len]; have := HN1.out; omega)
          rw [decide_eq_true HME.out, show (ints S).length = n1 by rw [ints_len]; exact HN1.out.1.symm] at c5
          obtain ⟨w6, hrun, hM6, hg⟩ := hM4.store Try.underlying39 (by unfold maxLen; have := HX.out; omega) (y : Int) (fit_of (by omega) (by omega)) (.bool true)
          rw [HS1.out, HS2.out] at hM6
          have HM6 := Lib.hid hM6
          have HB6 := Lib.hid (show Below w3.heap.size w3 w6 from HB4.out.trans (below_map hg (Nat.le_refl _) HB4.out.size))
          have hAA := (HA3.out.next HB6.out)
          obtain ⟨_, _, e, hga6, hcl⟩ := in_at hAA (by omega)
          cases e
          have HCL := Lib.hid hcl
          clear hb4 hM4 hM6 hg cc hAA hcl
          go_wp2_with fail
          (with_reducible refine c5.mono ?_); rintro e w5 ⟨rfl, rfl⟩
          clear c5
          have hy8 : i ≤ 8192 := by have := HX.out; omega
          go_wp2_with fail
          clear hrun b1 b1n d1 d1n d2 d2n
          go_loopw [12] (fun s12 wr => ∃ k : Nat, s12 = .int .i64 k ∧ i ≤ k ∧ k ≤ Q ∧ Below w6.heap.size w6 wr) (fun s12 _ => Q - (intOf s12).toNat)
          case atStart => exact ⟨i, rfl, by omega, by have := HX.out; have := HK.out; omega, Below.refl _ _⟩
          case round =>
            obtain ⟨k, rfl, hik, hkQ, hbk⟩ := hrel
            have hX := HX.out
            by_cases hlt : k < Q
            · have b2 : decide ((k : Int) < (Q : Int)) = true := decide_eq_true (by omega)
              have b2n : decide (k < Q) = true := decide_eq_true hlt
              have q1 := (hbk.cell (p := ⟨ga, oa + k, none⟩) hga6).trans (HCL.out k (by omega))
              have q2 := (hbk.cell (p := ⟨ga, oa + y, none⟩) hga6).trans (HCL.out y hyl)
              have y1 : (k : Int) < (l.length : Int) := by omega
              have y2 : (y : Int) < (l.length : Int) := by omega
              have h1 := HLL2.out.le k (by omega) (by omega)
              have h2 := fun h => HLL2.out.ls k h (by omega)
              have hk8 : k ≤ 8192 := by omega
              have HKQ := Lib.hid (show i ≤ k + 1 ∧ k + 1 ≤ Q from ⟨by omega, by omega⟩)
              generalize l.getD k 0 = zk at *
              generalize l.getD y 0 = zy at *
              have d3 : decide (zk < zy) = false := decide_eq_false (by omega)
              have HB := Lib.hid hbk
              by_cases he : zk = zy
              · have d5 : decide ((y : Int) < (k : Int)) = false := decide_eq_false (by intro h; have := h2 (by omega); omega)
                have d5n : decide (y < k) = false := decide_eq_false (by intro h; have := h2 h; omega)
                subst he
                clear hbk h1 h2 hX hik hkQ hlt
                go_wp2_with fail
                go_quiet (fail)
                clear d3 d5 d5n q1 q2 y1 y2
                go_wp2_with fail
                go_roundw
                case rel => exact ⟨k + 1, by go_num, HKQ.out.1, HKQ.out.2, by have := HB.out; exact ⟨this.os, this.tape, this.output, this.size, this.block⟩⟩
                case measure => have := HKQ.out; simp [intOf]; omega
              · have d4 : (zk == zy) = false := by rw [beq_eq_false_iff_ne]; exact he
                clear hbk h1 h2 hX hik hkQ hlt he
                go_wp2_with fail
                go_quiet (fail)
                clear d3 d4 q1 q2 y1 y2
                go_wp2_with fail
                go_roundw
                case rel => exact ⟨k + 1, by go_num, HKQ.out.1, HKQ.out.2, by have := HB.out; exact ⟨this.os, this.tape, this.output, this.size, this.block⟩⟩
                case measure => have := HKQ.out; simp [intOf]; omega
            · have b2 : decide ((k : Int) < (Q : Int)) = false := decide_eq_false (by omega)
              have b2n : decide (k < Q) = false := decide_eq_false hlt
              have HM7 := Lib.hid (HM6.out.next hbk)
              have HB7 := Lib.hid (HB6.out.trans (hbk.mono HB6.out.size))
              clear hbk hX hik hkQ hlt
              go_wp2_with fail
              go_roundw
              case rel => exact ⟨i + 1, by go_num, HX.out.1, HM7.out, HB7.out⟩
              case measure => have := HX.out; simp [intOf]; omega
        · have b1 : decide ((Q : Int) ≤ (l.length : Int)) = false := decide_eq_false (by omega)
          have b1n : decide (Q ≤ l.length) = false := decide_eq_false (by omega)
          have hlen := hM.len Try.underlying39
          have hi2 : (sel l K i).length = n1 := by rw [HN1.out.1, HSS.out, show l.length + 1 - K = i by omega]
          rw [hi2] at hlen
          have HB := Lib.hid (HB3.out.trans (hb.mono HB3.out.size))
          clear hM hb hlt hi hQ hi2 hKK hll
          go_wp2_with fail
          go_ret
          exact ⟨by simp, HB.out⟩
  | true =>
    cases bs with
    | false =>
      have e2c := e2 rfl
      clear e2 e4
      go_wp2_with fail
      (with_reducible refine cs.mono ?_); rintro e w3 ⟨rfl, hb3⟩
      have HB3 := Lib.hid (HB2.out.trans (hb3.mono HB2.out.size))
      have HIN3 := Lib.hid (HIN.out.next hb3)
      have hA3 := hA2.next hb3
      clear hb3 cs
      go_upto_region 9 with (fail)
      clear e1 e3 e3n e2c
      have hM0 := Mq.made w3
      have hF0 : (fun _ => none) = selF (sel l K 0) := by funext x; unfold selF; rw [if_neg (by simp [sel, ints])]
      rw [hF0, show (0 : Nat) = (sel l K 0).length from rfl] at hM0
      have HM0 := Lib.hid hM0
      have HBM := Lib.hid (show Below w3.heap.size w3 (w3.alloc (.map #[] 0)) from (Below.refl _ _).alloc (Nat.le_refl _) _)
      have HA3 := Lib.hid hA3
      clear hM0 hF0 hA3 hA2
      have hmm := @run_makeMap Try.prog
      go_wp2_with fail
      clear hmm
      go_loopw [9] (fun s9 wr => ∃ i : Nat, s9 = .int .i64 i ∧ i ≤ l.length + 1 - K ∧ Mq wr w3.heap.size i (selF (sel l K i)) (sel l K i).length ∧ Below w3.heap.size w3 wr) (fun s9 _ => l.length + 1 - K - (intOf s9).toNat)
      case atStart => exact ⟨0, rfl, by omega, HM0.out, HBM.out⟩
      case round =>
        obtain ⟨i, rfl, hi, hM, hb⟩ := hrel
        obtain ⟨w00, rfl⟩ : ∃ x : World, x = wr := ⟨wr, rfl⟩
        have hKK := HK.out
        have hll := HLL.out
        have t5 : IntKind.i64.wrap ((i : Int) + (K : Int)) = (i : Int) + (K : Int) := by rw [IntKind.wrap_i64]; omega
        obtain ⟨Q, hQ⟩ : ∃ Q, Q = i + K := ⟨_, rfl⟩
        have t6 : IntKind.i64.wrap ((i : Int) + (K : Int)) = (Q : Int) := by rw [t5]; omega
        clear t5
        by_cases hlt : i + K ≤ l.length
        · have b1 : decide ((Q : Int) ≤ (l.length : Int)) = true := decide_eq_true (by omega)
          have b1n : decide (Q ≤ l.length) = true := decide_eq_true (by omega)
          have cc := least_any l i Q (some ⟨ga, oa, none⟩) c w00 (HA3.out.next hb) h5
          obtain ⟨ho1, ho2⟩ := lea_ok l i K Q hQ hKK.1 (by omega)
          rw [ho1, ho2] at cc
          obtain ⟨hs1, hs2⟩ := selF_step l K i hKK.1
          have hL := lst_of (l := l) (f := i) (show 0 < K by omega)
          have hmem : (lst l i K : Int) ∈ ints S := List.mem_map.2 ⟨lst l i K, by rw [HSS.out]; exact (sel_mem l K _ _).2 ⟨i, by omega, rfl⟩, rfl⟩
          have HS1 := Lib.hid hs1
          have HS2 := Lib.hid hs2
          clear ho1 ho2 hs1 hs2
          generalize lst l i K = y at *
          have d1 : decide ((y : Int) < (i : Int)) = false := decide_eq_false (by have := hL.ge; omega)
          have d1n : decide (y < i) = false := decide_eq_false (by have := hL.ge; omega)
          have d2 : decide ((Q : Int) ≤ (y : Int)) = false := decide_eq_false (by have := hL.lt; omega)
          have d2n : decide (Q ≤ y) = false := decide_eq_false (by have := hL.lt; omega)
          have hyl : y < l.length := by have := hL.lt; omega
          have HX := Lib.hid (show i + 1 ≤ l.length + 1 - K ∧ i ≤ 100 ∧ Q = i + K ∧ Q ≤ l.length ∧ Q ≤ 100 from ⟨by omega, by omega, hQ, by omega, by omega⟩)
          have HLL2 := Lib.hid hL
          have HM := Lib.hid hM
          have HB := Lib.hid hb
          have HME := Lib.hid hmem
          clear hL hM hb hmem hlt hi hQ hKK hll
          go_wp2_with fail
          (with_reducible refine cc.mono ?_); rintro e w4 ⟨rfl, hb4⟩
          have hM4 := HM.out.next hb4
          have HB4 := Lib.hid (HB.out.trans (hb4.mono HB.out.size))
          have c5 := containsIn_any (ints S) y A2 k2 w4 (HIN3.out.next HB4.out) (by rw [ints_len]; have := HN1.out; omega)
          rw [decide_eq_true HME.out, show (ints S).length = n1 by rw [ints_len]; exact HN1.out.1.symm] at c5
          obtain ⟨w6, hrun, hM6, hg⟩ := hM4.store Try.underlying39 (by unfold maxLen; have := HX.out; omega) (y : Int) (fit_of (by omega) (by omega)) (.bool true)
          rw [HS1.out, HS2.out] at hM6
          have HM6 := Lib.hid hM6
          have HB6 := Lib.hid (show Below w3.heap.size w3 w6 from HB4.out.trans (below_map hg (Nat.le_refl _) HB4.out.size))
          have hAA := (HA3.out.next HB6.out)
          obtain ⟨_, _, e, hga6, hcl⟩ := in_at hAA (by omega)
          cases e
          have HCL := Lib.hid hcl
          clear hb4 hM4 hM6 hg cc hAA hcl
          go_wp2_with fail
          (with_reducible refine c5.mono ?_); rintro e w5 ⟨rfl, rfl⟩
          clear c5
          have hy8 : i ≤ 8192 := by have := HX.out; omega
          go_wp2_with fail
          clear hrun b1 b1n d1 d1n d2 d2n
          go_loopw [12] (fun s12 wr => ∃ k : Nat, s12 = .int .i64 k ∧ i ≤ k ∧ k ≤ Q ∧ Below w6.heap.size w6 wr) (fun s12 _ => Q - (intOf s12).toNat)
          case atStart => exact ⟨i, rfl, by omega, by have := HX.out; have := HK.out; omega, Below.refl _ _⟩
          case round =>
            obtain ⟨k, rfl, hik, hkQ, hbk⟩ := hrel
            have hX := HX.out
            by_cases hlt : k < Q
            · have b2 : decide ((k : Int) < (Q : Int)) = true := decide_eq_true (by omega)
              have b2n : decide (k < Q) = true := decide_eq_true hlt
              have q1 := (hbk.cell (p := ⟨ga, oa + k, none⟩) hga6).trans (HCL.out k (by omega))
              have q2 := (hbk.cell (p := ⟨ga, oa + y, none⟩) hga6).trans (HCL.out y hyl)
              have y1 : (k : Int) < (l.length : Int) := by omega
              have y2 : (y : Int) < (l.length : Int) := by omega
              have h1 := HLL2.out.le k (by omega) (by omega)
              have h2 := fun h => HLL2.out.ls k h (by omega)
              have hk8 : k ≤ 8192 := by omega
              have HKQ := Lib.hid (show i ≤ k + 1 ∧ k + 1 ≤ Q from ⟨by omega, by omega⟩)
              generalize l.getD k 0 = zk at *
              generalize l.getD y 0 = zy at *
              have d3 : decide (zk < zy) = false := decide_eq_false (by omega)
              have HB := Lib.hid hbk
              by_cases he : zk = zy
              · have d5 : decide ((y : Int) < (k : Int)) = false := decide_eq_false (by intro h; have := h2 (by omega); omega)
                have d5n : decide (y < k) = false := decide_eq_false (by intro h; have := h2 h; omega)
                subst he
                clear hbk h1 h2 hX hik hkQ hlt
                go_wp2_with fail
                go_quiet (fail)
                clear d3 d5 d5n q1 q2 y1 y2
                go_wp2_with fail
                go_roundw
                case rel => exact ⟨k + 1, by go_num, HKQ.out.1, HKQ.out.2, by have := HB.out; exact ⟨this.os, this.tape, this.output, this.size, this.block⟩⟩
                case measure => have := HKQ.out; simp [intOf]; omega
              · have d4 : (zk == zy) = false := by rw [beq_eq_false_iff_ne]; exact he
                clear hbk h1 h2 hX hik hkQ hlt he
                go_wp2_with fail
                go_quiet (fail)
                clear d3 d4 q1 q2 y1 y2
                go_wp2_with fail
                go_roundw
                case rel => exact ⟨k + 1, by go_num, HKQ.out.1, HKQ.out.2, by have := HB.out; exact ⟨this.os, this.tape, this.output, this.size, this.block⟩⟩
                case measure => have := HKQ.out; simp [intOf]; omega
            · have b2 : decide ((k : Int) < (Q : Int)) = false := decide_eq_false (by omega)
              have b2n : decide (k < Q) = false := decide_eq_false hlt
              have HM7 := Lib.hid (HM6.out.next hbk)
              have HB7 := Lib.hid (HB6.out.trans (hbk.mono HB6.out.size))
              clear hbk hX hik hkQ hlt
              go_wp2_with fail
              go_roundw
              case rel => exact ⟨i + 1, by go_num, HX.out.1, HM7.out, HB7.out⟩
              case measure => have := HX.out; simp [intOf]; omega
        · have b1 : decide ((Q : Int) ≤ (l.length : Int)) = false := decide_eq_false (by omega)
          have b1n : decide (Q ≤ l.length) = false := decide_eq_false (by omega)
          have hlen := hM.len Try.underlying39
          have hi2 : (sel l K i).length = n1 := by rw [HN1.out.1, HSS.out, show l.length + 1 - K = i by omega]
          rw [hi2] at hlen
          have HB := Lib.hid (HB3.out.trans (hb.mono HB3.out.size))
          clear hM hb hlt hi hQ hi2 hKK hll
          go_wp2_with fail
          go_ret
          exact ⟨by simp, HB.out⟩
    | true =>
      have e2c := e2 rfl
      have e4c := e4 rfl
      clear e2 e4
      go_wp2_with fail
      (with_reducible refine cs.mono ?_); rintro e w3 ⟨rfl, hb3⟩
      have HB3 := Lib.hid (HB2.out.trans (hb3.mono HB2.out.size))
      have HIN3 := Lib.hid (HIN.out.next hb3)
      have hA3 := hA2.next hb3
      clear hb3 cs
      go_upto_region 9 with (fail)
      clear e1 e3 e3n e2c e4c
      have hM0 := Mq.made w3
      have hF0 : (fun _ => none) = selF (sel l K 0) := by funext x; unfold selF; rw [if_neg (by simp [sel, ints])]
      rw [hF0, show (0 : Nat) = (sel l K 0).length from rfl] at hM0
      have HM0 := Lib.hid hM0
      have HBM := Lib.hid (show Below w3.heap.size w3 (w3.alloc (.map #[] 0)) from (Below.refl _ _).alloc (Nat.le_refl _) _)
      have HA3 := Lib.hid hA3
      clear hM0 hF0 hA3 hA2
      have hmm := @run_makeMap Try.prog
      go_wp2_with fail
      clear hmm
      go_loopw [9] (fun s9 wr => ∃ i : Nat, s9 = .int .i64 i ∧ i ≤ l.length + 1 - K ∧ Mq wr w3.heap.size i (selF (sel l K i)) (sel l K i).length ∧ Below w3.heap.size w3 wr) (fun s9 _ => l.length + 1 - K - (intOf s9).toNat)
      case atStart => exact ⟨0, rfl, by omega, HM0.out, HBM.out⟩
      case round =>
        obtain ⟨i, rfl, hi, hM, hb⟩ := hrel
        obtain ⟨w00, rfl⟩ : ∃ x : World, x = wr := ⟨wr, rfl⟩
        have hKK := HK.out
        have hll := HLL.out
        have t5 : IntKind.i64.wrap ((i : Int) + (K : Int)) = (i : Int) + (K : Int) := by rw [IntKind.wrap_i64]; omega
        obtain ⟨Q, hQ⟩ : ∃ Q, Q = i + K := ⟨_, rfl⟩
        have t6 : IntKind.i64.wrap ((i : Int) + (K : Int)) = (Q : Int) := by rw [t5]; omega
        clear t5
        by_cases hlt : i + K ≤ l.length
        · have b1 : decide ((Q : Int) ≤ (l.length : Int)) = true := decide_eq_true (by omega)
          have b1n : decide (Q ≤ l.length) = true := decide_eq_true (by omega)
          have cc := least_any l i Q (some ⟨ga, oa, none⟩) c w00 (HA3.out.next hb) h5
          obtain ⟨ho1, ho2⟩ := lea_ok l i K Q hQ hKK.1 (by omega)
          rw [ho1, ho2] at cc
          obtain ⟨hs1, hs2⟩ := selF_step l K i hKK.1
          have hL := lst_of (l := l) (f := i) (show 0 < K by omega)
          have hmem : (lst l i K : Int) ∈ ints S := List.mem_map.2 ⟨lst l i K, by rw [HSS.out]; exact (sel_mem l K _ _).2 ⟨i, by omega, rfl⟩, rfl⟩
          have HS1 := Lib.hid hs1
          have HS2 := Lib.hid hs2
          clear ho1 ho2 hs1 hs2
          generalize lst l i K = y at *
          have d1 : decide ((y : Int) < (i : Int)) = false := decide_eq_false (by have := hL.ge; omega)
          have d1n : decide (y < i) = false := decide_eq_false (by have := hL.ge; omega)
          have d2 : decide ((Q : Int) ≤ (y : Int)) = false := decide_eq_false (by have := hL.lt; omega)
          have d2n : decide (Q ≤ y) = false := decide_eq_false (by have := hL.lt; omega)
          have hyl : y < l.length := by have := hL.lt; omega
          have HX := Lib.hid (show i + 1 ≤ l.length + 1 - K ∧ i ≤ 100 ∧ Q = i + K ∧ Q ≤ l.length ∧ Q ≤ 100 from ⟨by omega, by omega, hQ, by omega, by omega⟩)
          have HLL2 := Lib.hid hL
          have HM := Lib.hid hM
          have HB := Lib.hid hb
          have HME := Lib.hid hmem
          clear hL hM hb hmem hlt hi hQ hKK hll
          go_wp2_with fail
          (with_reducible refine cc.mono ?_); rintro e w4 ⟨rfl, hb4⟩
          have hM4 := HM.out.next hb4
          have HB4 := Lib.hid (HB.out.trans (hb4.mono HB.out.size))
          have c5 := containsIn_any (ints S) y A2 k2 w4 (HIN3.out.next HB4.out) (by rw [ints_len]; have := HN1.out; omega)
          rw [decide_eq_true HME.out, show (ints S).length = n1 by rw [ints_len]; exact HN1.out.1.symm] at c5
          obtain ⟨w6, hrun, hM6, hg⟩ := hM4.store Try.underlying39 (by unfold maxLen; have := HX.out; omega) (y : Int) (fit_of (by omega) (by omega)) (.bool true)
          rw [HS1.out, HS2.out] at hM6
          have HM6 := Lib.hid hM6
          have HB6 := Lib.hid (show Below w3.heap.size w3 w6 from HB4.out.trans (below_map hg (Nat.le_refl _) HB4.out.size))
          have hAA := (HA3.out.next HB6.out)
          obtain ⟨_, _, e, hga6, hcl⟩ := in_at hAA (by omega)
          cases e
          have HCL := Lib.hid hcl
          clear hb4 hM4 hM6 hg cc hAA hcl
          go_wp2_with fail
          (with_reducible refine c5.mono ?_); rintro e w5 ⟨rfl, rfl⟩
          clear c5
          have hy8 : i ≤ 8192 := by have := HX.out; omega
          go_wp2_with fail
          clear hrun b1 b1n d1 d1n d2 d2n
          go_loopw [12] (fun s12 wr => ∃ k : Nat, s12 = .int .i64 k ∧ i ≤ k ∧ k ≤ Q ∧ Below w6.heap.size w6 wr) (fun s12 _ => Q - (intOf s12).toNat)
          case atStart => exact ⟨i, rfl, by omega, by have := HX.out; have := HK.out; omega, Below.refl _ _⟩
          case round =>
            obtain ⟨k, rfl, hik, hkQ, hbk⟩ := hrel
            have hX := HX.out
            by_cases hlt : k < Q
            · have b2 : decide ((k : Int) < (Q : Int)) = true := decide_eq_true (by omega)
              have b2n : decide (k < Q) = true := decide_eq_true hlt
              have q1 := (hbk.cell (p := ⟨ga, oa + k, none⟩) hga6).trans (HCL.out k (by omega))
              have q2 := (hbk.cell (p := ⟨ga, oa + y, none⟩) hga6).trans (HCL.out y hyl)
              have y1 : (k : Int) < (l.length : Int) := by omega
              have y2 : (y : Int) < (l.length : Int) := by omega
              have h1 := HLL2.out.le k (by omega) (by omega)
              have h2 := fun h => HLL2.out.ls k h (by omega)
              have hk8 : k ≤ 8192 := by omega
              have HKQ := Lib.hid (show i ≤ k + 1 ∧ k + 1 ≤ Q from ⟨by omega, by omega⟩)
              generalize l.getD k 0 = zk at *
              generalize l.getD y 0 = zy at *
              have d3 : decide (zk < zy) = false := decide_eq_false (by omega)
              have HB := Lib.hid hbk
              by_cases he : zk = zy
              · have d5 : decide ((y : Int) < (k : Int)) = false := decide_eq_false (by intro h; have := h2 (by omega); omega)
                have d5n : decide (y < k) = false := decide_eq_false (by intro h; have := h2 h; omega)
                subst he
                clear hbk h1 h2 hX hik hkQ hlt
                go_wp2_with fail
                go_quiet (fail)
                clear d3 d5 d5n q1 q2 y1 y2
                go_wp2_with fail
                go_roundw
                case rel => exact ⟨k + 1, by go_num, HKQ.out.1, HKQ.out.2, by have := HB.out; exact ⟨this.os, this.tape, this.output, this.size, this.block⟩⟩
                case measure => have := HKQ.out; simp [intOf]; omega
              · have d4 : (zk == zy) = false := by rw [beq_eq_false_iff_ne]; exact he
                clear hbk h1 h2 hX hik hkQ hlt he
                go_wp2_with fail
                go_quiet (fail)
                clear d3 d4 q1 q2 y1 y2
                go_wp2_with fail
                go_roundw
                case rel => exact ⟨k + 1, by go_num, HKQ.out.1, HKQ.out.2, by have := HB.out; exact ⟨this.os, this.tape, this.output, this.size, this.block⟩⟩
                case measure => have := HKQ.out; simp [intOf]; omega
            · have b2 : decide ((k : Int) < (Q : Int)) = false := decide_eq_false (by omega)
              have b2n : decide (k < Q) = false := decide_eq_false hlt
              have HM7 := Lib.hid (HM6.out.next hbk)
              have HB7 := Lib.hid (HB6.out.trans (hbk.mono HB6.out.size))
              clear hbk hX hik hkQ hlt
              go_wp2_with fail
              go_roundw
              case rel => exact ⟨i + 1, by go_num, HX.out.1, HM7.out, HB7.out⟩
              case measure => have := HX.out; simp [intOf]; omega
        · have b1 : decide ((Q : Int) ≤ (l.length : Int)) = false := decide_eq_false (by omega)
          have b1n : decide (Q ≤ l.length) = false := decide_eq_false (by omega)
          have hlen := hM.len Try.underlying39
          have hi2 : (sel l K i).length = n1 := by rw [HN1.out.1, HSS.out, show l.length + 1 - K = i by omega]
          rw [hi2] at hlen
          have HB := Lib.hid (HB3.out.trans (hb.mono HB3.out.size))
          clear hM hb hlt hi hQ hi2 hKK hll
          go_wp2_with fail
          go_ret
          exact ⟨by simp, HB.out⟩
end Wn
end Go.Proofs.Ytkmldaelgbkfbaa
