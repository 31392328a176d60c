/- The law of a list that is part of two others. No condition but the lengths. -/
import Derived.Test.YtkmldaelgbkfbaaLoc0
namespace Go.Proofs.Ytkmldaelgbkfbaa
open Go.RowKit Go.Deep
namespace Wn
def bxO (A : Option Addr) (n c : Nat) : Obj := .cells #[.slice A n c] 22 (0, 0)
theorem width12 (u : Nat) (hu : u ≤ 255) : ∃ K : Nat, IntKind.i64.wrap (1 + (u : Int) % 12) = (K : Int) ∧ IntKind.i64.wrap (1 + ((u : Int)).tmod 12) = (K : Int) ∧ 1 ≤ K ∧ K ≤ 12 := by
  have r1 : IntKind.i64.wrap (1 + (u : Int) % 12) = ((1 + u % 12 : Nat) : Int) := by rw [IntKind.wrap_i64]; omega
  exact ⟨1 + u % 12, r1, by rw [Int.tmod_eq_emod_of_nonneg (by omega)]; exact r1, by omega, by omega⟩
theorem boxes3 (w : World) (x y z : Obj) : ∃ W, W = ((w.alloc x).alloc y).alloc z ∧ W.heap[w.heap.size]? = some x ∧ W.heap[w.heap.size + 1]? = some y ∧ W.heap[w.heap.size + 1 + 1]? = some z ∧ Below w.heap.size w W := by
  obtain ⟨W1, h1⟩ : ∃ W1, W1 = w.alloc x := ⟨_, rfl⟩
  obtain ⟨W2, h2⟩ : ∃ W2, W2 = W1.alloc y := ⟨_, rfl⟩
  obtain ⟨W3, h3⟩ : ∃ W3, W3 = W2.alloc z := ⟨_, rfl⟩
  have a1 : W1.heap[w.heap.size]? = some x := by rw [h1]; exact heap_alloc_new w x
  have a2 : W2.heap[W1.heap.size]? = some y := by rw [h2]; exact heap_alloc_new W1 y
  have a3 : W3.heap[W2.heap.size]? = some z := by rw [h3]; exact heap_alloc_new W2 z
  have s1 : W1.heap.size = w.heap.size + 1 := by rw [h1]; simp
  have s2 : W2.heap.size = w.heap.size + 1 + 1 := by rw [h2]; simp [s1]
  have b1 : Below w.heap.size w W1 := by rw [h1]; exact (Below.refl _ _).alloc (Nat.le_refl _) _
  have b2 : Below W1.heap.size W1 W2 := by rw [h2]; exact (Below.refl _ _).alloc (Nat.le_refl _) _
  have b3 : Below W2.heap.size W2 W3 := by rw [h3]; exact (Below.refl _ _).alloc (Nat.le_refl _) _
  refine ⟨W3, by rw [h3, h2, h1], (b3.block _ (by omega)).trans ((b2.block _ (by omega)).trans a1), ?_, ?_, (b1.trans (b2.mono b1.size)).trans (b3.mono (by omega))⟩
  · rw [← s1]; exact (b3.block _ (by omega)).trans a2
  · rw [← s2]; exact a3
theorem bx_cell {w : World} {q : Nat} {A : Option Addr} {n c : Nat} (h : w.heap[q]? = some (bxO A n c)) : w.cell? ⟨q, 0, none⟩ = some (.slice A n c) := by rw [cell_of_row _ _ _ _ _ _ h]; rfl
set_option maxHeartbeats 16000000 in
set_option maxRecDepth 100000 in
theorem local_law (a b m c d : List Int) (u : Nat) (Aa Ab Am Ac Ad : Option Addr) (ka kb km kc kd : Nat) (w : World) (ha : Gr.InAt w w.heap.size Aa a) (hb : Gr.InAt w w.heap.size Ab b) (hm : Gr.InAt w w.heap.size Am m) (hc : Gr.InAt w w.heap.size Ac c) (hd : Gr.InAt w w.heap.size Ad d) (hu : u ≤ 255) :
    Calls Try.prog 7 #[.slice Aa a.length ka, .slice Ab b.length kb, .slice Am m.length km, .slice Ac c.length kc, .slice Ad d.length kd, .int .u8 (u : Int)] w fun e w' => e = .returned (.bool true) ∧ Below w.heap.size w w' := by
  obtain ⟨W, hW, g1, g2, g3, hWB⟩ := boxes3 w (bxO Aa a.length ka) (bxO Ab b.length kb) (bxO Am m.length km)
  have HWB := Lib.hid hWB
  have c0 := awake_any W
  have u1 := wr_nat (n := u) (by omega)
  have u2 := wr64_nat (n := u) (by omega)
  obtain ⟨K, r1, r1t, hK1⟩ := width12 u hu
  clear hWB
  have HK := Lib.hid hK1
  clear hK1
  by_cases hok : a.length ≤ 60 ∧ b.length ≤ 60 ∧ c.length ≤ 60 ∧ d.length ≤ 60 ∧ m.length ≤ 60 ∧ K ≤ m.length
  · obtain ⟨l1, l2, l3, l4, l5, l6⟩ := hok
    have HLEN := Lib.hid (show a.length ≤ 60 ∧ b.length ≤ 60 ∧ c.length ≤ 60 ∧ d.length ≤ 60 ∧ m.length ≤ 60 ∧ K ≤ m.length from ⟨l1, l2, l3, l4, l5, l6⟩)
    have d0 : decide ((60 : Int) < (a.length : Int)) = false := decide_eq_false (by omega)
    have d0n : decide (60 < a.length) = false := decide_eq_false (by omega)
    have d1 : decide ((60 : Int) < (b.length : Int)) = false := decide_eq_false (by omega)
    have d1n : decide (60 < b.length) = false := decide_eq_false (by omega)
    have d2 : decide ((60 : Int) < (c.length : Int)) = false := decide_eq_false (by omega)
    have d2n : decide (60 < c.length) = false := decide_eq_false (by omega)
    have d3 : decide ((60 : Int) < (d.length : Int)) = false := decide_eq_false (by omega)
    have d3n : decide (60 < d.length) = false := decide_eq_false (by omega)
    have d4 : decide ((60 : Int) < (m.length : Int)) = false := decide_eq_false (by omega)
    have d4n : decide (60 < m.length) = false := decide_eq_false (by omega)
    have d5 : decide ((m.length : Int) < (K : Int)) = false := decide_eq_false (by omega)
    have d5n : decide (m.length < K) = false := decide_eq_false (by omega)
    have e1 := bx_cell g1
    have e2 := bx_cell g2
    have e3 := bx_cell g3
    have hl1 := blk_lt g1
    have hl2 := blk_lt g2
    have hl3 := blk_lt g3
    clear g1 g2 g3 l1 l2 l3 l4 l5 l6
    go_enter Try.func7, Try.ntmps7
    go_upto_region 1 with (fail)
    have hW' : ((w.alloc (.cells #[.slice Aa a.length ka] 22 (0, 0))).alloc (.cells #[.slice Ab b.length kb] 22 (0, 0))).alloc (.cells #[.slice Am m.length km] 22 (0, 0)) = W := hW.symm
    rw [hW']
    clear hW hW'
    go_wp2_with fail
    (with_reducible refine c0.mono ?_); rintro e w1 ⟨rfl, hb1⟩
    have HB1 := Lib.hid (HWB.out.trans (hb1.mono HWB.out.size))
    have q1 := (hb1.cell (p := ⟨w.heap.size, 0, none⟩) hl1).trans e1
    have q2 := (hb1.cell (p := ⟨w.heap.size + 1, 0, none⟩) hl2).trans e2
    have q3 := (hb1.cell (p := ⟨w.heap.size + 1 + 1, 0, none⟩) hl3).trans e3
    have s1 := Nat.lt_of_lt_of_le hl1 hb1.size
    have s2 := Nat.lt_of_lt_of_le hl2 hb1.size
    have s3 := Nat.lt_of_lt_of_le hl3 hb1.size
    clear hb1 e1 e2 e3 hl1 hl2 hl3 c0
    go_upto_region 6 with (fail)
    clear u1 u2 r1 r1t d0 d0n d1 d1n d2 d2n d3 d3n d4 d4n d5 d5n
    have hcc := concat_any w1.heap.size 3 [⟨Aa, ka, a⟩, ⟨Am, km, m⟩, ⟨Ac, kc, c⟩] (w1.alloc (.cells #[.slice Aa a.length ka, .slice Am m.length km, .slice Ac c.length kc] 22 (0, 0))) (blk_lt (heap_alloc_new _ _)) (fun i hi => by
      have hn := heap_alloc_new w1 (.cells #[.slice Aa a.length ka, .slice Am m.length km, .slice Ac c.length kc] 22 (0, 0))
      rw [cell_of_row _ _ _ _ _ _ hn]
      have hi3 : i < 3 := hi
      rcases (show i = 0 ∨ i = 1 ∨ i = 2 by omega) with rfl | rfl | rfl <;> rfl) (fun p hp => by
      have hbz : Below w1.heap.size w1 (w1.alloc (.cells #[.slice Aa a.length ka, .slice Am m.length km, .slice Ac c.length kc] 22 (0, 0))) := (Below.refl _ _).alloc (Nat.le_refl _) _
      simp only [List.mem_cons, List.not_mem_nil, or_false] at hp
      rcases hp with rfl | rfl | rfl
      · exact (ha.next HB1.out).next hbz
      · exact (hm.next HB1.out).next hbz
      · exact (hc.next HB1.out).next hbz) (by simp) (by
      have := HLEN.out
      unfold catL
      simp only [List.flatMap_cons, List.flatMap_nil, List.append_nil, List.length_append]
      omega)
    rw [show catL [⟨Aa, ka, a⟩, ⟨Am, km, m⟩, ⟨Ac, kc, c⟩] = a ++ m ++ c by unfold catL; simp, show ([⟨Aa, ka, a⟩, ⟨Am, km, m⟩, ⟨Ac, kc, c⟩] : List Pt).length = 3 from rfl] at hcc
    go_wp2_with fail
    (with_reducible refine hcc.mono ?_); rintro e w2 ⟨v, rfl, hown, hbw⟩
    obtain ⟨Xn, cn, rfl, hcn, -, hinn⟩ := Gr.own_el Gr.inV 1 Gr.inV_len hown
    have hbw0 : Below w1.heap.size w1 w2 := ((Below.refl _ _).alloc (Nat.le_refl _) _).trans (hbw.mono (by simp))
    have HB2 := Lib.hid (HB1.out.trans (hbw0.mono HB1.out.size))
    have q1 := (hbw0.cell (p := ⟨w.heap.size, 0, none⟩) s1).trans q1
    have s1 := Nat.lt_of_lt_of_le s1 hbw0.size
    have q2 := (hbw0.cell (p := ⟨w.heap.size + 1, 0, none⟩) s2).trans q2
    have s2 := Nat.lt_of_lt_of_le s2 hbw0.size
    have q3 := (hbw0.cell (p := ⟨w.heap.size + 1 + 1, 0, none⟩) s3).trans q3
    have s3 := Nat.lt_of_lt_of_le s3 hbw0.size
    have hsel := select_any (a ++ m ++ c) K Xn cn w2 hinn (by have := HLEN.out; simp only [List.length_append]; omega) hcn
    obtain ⟨hs1, hs2⟩ := selL_ok (a ++ m ++ c) K HK.out.1 (by have := HK.out; omega) (by have := HLEN.out; simp only [List.length_append]; omega)
    obtain ⟨S1, hS1⟩ : ∃ S, S = sel (a ++ m ++ c) K ((a ++ m ++ c).length + 1 - K) := ⟨_, rfl⟩
    rw [hs1, hs2, ← hS1] at hsel
    have HS1 := Lib.hid hS1
    clear hcc hown hbw hbw0 hs1 hs2 hinn hS1
    generalize (a ++ m ++ c).length = nX1 at hsel ⊢
    go_wp2_with fail
    (with_reducible refine hsel.mono ?_); rintro e w3 ⟨AY1, cY1, rfl, -, -, hY1, hby⟩
    rw [ints_len]
    obtain ⟨nS1, hnS1⟩ : ∃ k, k = S1.length := ⟨_, rfl⟩
    rw [← hnS1]
    have HnS1 := Lib.hid hnS1
    clear hnS1
    have HB3 := Lib.hid (HB2.out.trans (hby.mono HB2.out.size))
    have q1 := (hby.cell (p := ⟨w.heap.size, 0, none⟩) s1).trans q1
    have s1 := Nat.lt_of_lt_of_le s1 hby.size
    have q2 := (hby.cell (p := ⟨w.heap.size + 1, 0, none⟩) s2).trans q2
    have s2 := Nat.lt_of_lt_of_le s2 hby.size
    have q3 := (hby.cell (p := ⟨w.heap.size + 1 + 1, 0, none⟩) s3).trans q3
    have s3 := Nat.lt_of_lt_of_le s3 hby.size
    clear hsel hby hcn
    have hcc := concat_any w3.heap.size 3 [⟨Ab, kb, b⟩, ⟨Am, km, m⟩, ⟨Ad, kd, d⟩] (w3.alloc (.cells #[.slice Ab b.length kb, .slice Am m.length km, .slice Ad d.length kd] 22 (0, 0))) (blk_lt (heap_alloc_new _ _)) (fun i hi => by
      have hn := heap_alloc_new w3 (.cells #[.slice Ab b.length kb, .slice Am m.length km, .slice Ad d.length kd] 22 (0, 0))
      rw [cell_of_row _ _ _ _ _ _ hn]
      have hi3 : i < 3 := hi
      rcases (show i = 0 ∨ i = 1 ∨ i = 2 by omega) with rfl | rfl | rfl <;> rfl) (fun p hp => by
      have hbz : Below w3.heap.size w3 (w3.alloc (.cells #[.slice Ab b.length kb, .slice Am m.length km, .slice Ad d.length kd] 22 (0, 0))) := (Below.refl _ _).alloc (Nat.le_refl _) _
      simp only [List.mem_cons, List.not_mem_nil, or_false] at hp
      rcases hp with rfl | rfl | rfl
      · exact (hb.next HB3.out).next hbz
      · exact (hm.next HB3.out).next hbz
      · exact (hd.next HB3.out).next hbz) (by simp) (by
      have := HLEN.out
      unfold catL
      simp only [List.flatMap_cons, List.flatMap_nil, List.append_nil, List.length_append]
      omega)
    rw [show catL [⟨Ab, kb, b⟩, ⟨Am, km, m⟩, ⟨Ad, kd, d⟩] = b ++ m ++ d by unfold catL; simp, show ([⟨Ab, kb, b⟩, ⟨Am, km, m⟩, ⟨Ad, kd, d⟩] : List Pt).length = 3 from rfl] at hcc
    go_wp2_with fail
    (with_reducible refine hcc.mono ?_); rintro e w4 ⟨v, rfl, hown, hbw⟩
    obtain ⟨Xn, cn, rfl, hcn, -, hinn⟩ := Gr.own_el Gr.inV 1 Gr.inV_len hown
    have hbw0 : Below w3.heap.size w3 w4 := ((Below.refl _ _).alloc (Nat.le_refl _) _).trans (hbw.mono (by simp))
    have HB4 := Lib.hid (HB3.out.trans (hbw0.mono HB3.out.size))
    have q1 := (hbw0.cell (p := ⟨w.heap.size, 0, none⟩) s1).trans q1
    have s1 := Nat.lt_of_lt_of_le s1 hbw0.size
    have q2 := (hbw0.cell (p := ⟨w.heap.size + 1, 0, none⟩) s2).trans q2
    have s2 := Nat.lt_of_lt_of_le s2 hbw0.size
    have q3 := (hbw0.cell (p := ⟨w.heap.size + 1 + 1, 0, none⟩) s3).trans q3
    have s3 := Nat.lt_of_lt_of_le s3 hbw0.size
    have hY1 := hY1.next hbw0
    have hsel := select_any (b ++ m ++ d) K Xn cn w4 hinn (by have := HLEN.out; simp only [List.length_append]; omega) hcn
    obtain ⟨hs1, hs2⟩ := selL_ok (b ++ m ++ d) K HK.out.1 (by have := HK.out; omega) (by have := HLEN.out; simp only [List.length_append]; omega)
    obtain ⟨S2, hS2⟩ : ∃ S, S = sel (b ++ m ++ d) K ((b ++ m ++ d).length + 1 - K) := ⟨_, rfl⟩
    rw [hs1, hs2, ← hS2] at hsel
    have HS2 := Lib.hid hS2
    clear hcc hown hbw hbw0 hs1 hs2 hinn hS2
    generalize (b ++ m ++ d).length = nX2 at hsel ⊢
    go_wp2_with fail
    (with_reducible refine hsel.mono ?_); rintro e w5 ⟨AY2, cY2, rfl, -, -, hY2, hby⟩
    rw [ints_len]
    obtain ⟨nS2, hnS2⟩ : ∃ k, k = S2.length := ⟨_, rfl⟩
    rw [← hnS2]
    have HnS2 := Lib.hid hnS2
    clear hnS2
    have HB5 := Lib.hid (HB4.out.trans (hby.mono HB4.out.size))
    have q1 := (hby.cell (p := ⟨w.heap.size, 0, none⟩) s1).trans q1
    have s1 := Nat.lt_of_lt_of_le s1 hby.size
    have q2 := (hby.cell (p := ⟨w.heap.size + 1, 0, none⟩) s2).trans q2
    have s2 := Nat.lt_of_lt_of_le s2 hby.size
    have q3 := (hby.cell (p := ⟨w.heap.size + 1 + 1, 0, none⟩) s3).trans q3
    have s3 := Nat.lt_of_lt_of_le s3 hby.size
    have hY1 := hY1.next hby
    clear hsel hby hcn
    have hhit2 : ∃ kk, ∃ h : kk < S1.length, locP a.length m.length b.length (ints S2) S1[kk] = true := by
      have e1 := HS1.out
      have e2 := HS2.out
      subst e1
      subst e2
      exact local_ok a b m c d K HK.out.1 HLEN.out.2.2.2.2.2
    obtain ⟨kk, hkk, hhit⟩ := hhit2
    have hx : ∀ x ∈ S1, x ≤ 1000 := fun x hx => by
      rw [HS1.out] at hx
      have := sel_lt _ K HK.out.1 _ x hx
      have := HLEN.out
      have := HK.out
      simp only [List.length_append] at *
      omega
    have hxl : S1.length ≤ 8000 := by
      rw [HS1.out]
      have := sel_len (a ++ m ++ c) K ((a ++ m ++ c).length + 1 - K)
      have := HLEN.out
      simp only [List.length_append] at *
      omega
    have hyl : (ints S2).length ≤ 100000 := by
      rw [ints_len, HS2.out]
      have := sel_len (b ++ m ++ d) K ((b ++ m ++ d).length + 1 - K)
      have := HLEN.out
      simp only [List.length_append] at *
      omega
    have hnw := heap_alloc_new w5 (.cells #[.slice AY2 nS2 cY2] 22 (0, 0))
    have hbz : Below w5.heap.size w5 (w5.alloc (.cells #[.slice AY2 nS2 cY2] 22 (0, 0))) := (Below.refl _ _).alloc (Nat.le_refl _) _
    have cc := containsLoc_any S1 kk AY1 cY1 (w5.alloc (.cells #[.slice AY2 nS2 cY2] 22 (0, 0))) w.heap.size (w.heap.size + 1 + 1) w5.heap.size (w.heap.size + 1) Aa Am AY2 Ab a.length m.length b.length ka km cY2 kb (ints S2) ⟨(hbz.cell (p := ⟨w.heap.size, 0, none⟩) s1).trans q1, (hbz.cell (p := ⟨w.heap.size + 1 + 1, 0, none⟩) s3).trans q3, by rw [cell_of_row _ _ _ _ _ _ hnw, ints_len, ← HnS2.out]; rfl, (hbz.cell (p := ⟨w.heap.size + 1, 0, none⟩) s2).trans q2, Nat.lt_of_lt_of_le s1 hbz.size, Nat.lt_of_lt_of_le s3 hbz.size, blk_lt hnw, Nat.lt_of_lt_of_le s2 hbz.size, hY2.next hbz⟩ (hY1.next hbz) hx (by have := HLEN.out; omega) (by have := HLEN.out; omega) (by have := HLEN.out; omega) hyl hxl hkk hhit
    rw [← HnS1.out] at cc
    have HB6 := Lib.hid (show Below w.heap.size w (w5.alloc (.cells #[.slice AY2 nS2 cY2] 22 (0, 0))) from HB5.out.trans (hbz.mono HB5.out.size))
    clear hx hxl hyl hkk hhit hnw hbz ha hb hm hc hd hY1 hY2
    go_wp2_with fail
    (with_reducible refine cc.mono ?_); rintro e w7 ⟨rfl, hb7⟩
    have HB7 := Lib.hid (HB6.out.trans (hb7.mono HB6.out.size))
    clear cc hb7
    go_wp2_with fail
    go_ret
    exact ⟨rfl, HB7.out⟩
  · have HNOK := Lib.hid hok
    have e1 := bx_cell g1
    have e2 := bx_cell g2
    have e3 := bx_cell g3
    have hl1 := blk_lt g1
    have hl2 := blk_lt g2
    have hl3 := blk_lt g3
    clear hok g1 g2 g3
    go_enter Try.func7, Try.ntmps7
    go_upto_region 1 with (fail)
    have hW' : ((w.alloc (.cells #[.slice Aa a.length ka] 22 (0, 0))).alloc (.cells #[.slice Ab b.length kb] 22 (0, 0))).alloc (.cells #[.slice Am m.length km] 22 (0, 0)) = W := hW.symm
    rw [hW']
    clear hW hW'
    go_wp2_with fail
    (with_reducible refine c0.mono ?_); rintro e w1 ⟨rfl, hb1⟩
    have HB1 := Lib.hid (HWB.out.trans (hb1.mono HWB.out.size))
    have q1 := (hb1.cell (p := ⟨w.heap.size, 0, none⟩) hl1).trans e1
    have q2 := (hb1.cell (p := ⟨w.heap.size + 1, 0, none⟩) hl2).trans e2
    have q3 := (hb1.cell (p := ⟨w.heap.size + 1 + 1, 0, none⟩) hl3).trans e3
    have s1 := Nat.lt_of_lt_of_le hl1 hb1.size
    have s2 := Nat.lt_of_lt_of_le hl2 hb1.size
    have s3 := Nat.lt_of_lt_of_le hl3 hb1.size
    clear hb1 e1 e2 e3 hl1 hl2 hl3 c0 ha hb hm hc hd
    go_upto_region 4 with (fail)
    clear u1 u2 r1 r1t
    by_cases k0 : 60 < a.length
    · have d0 : decide ((60 : Int) < (a.length : Int)) = true := decide_eq_true (by omega)
      have d0n : decide (60 < a.length) = true := decide_eq_true k0
      go_wp2_with fail
      go_ret
      exact ⟨rfl, HB1.out⟩
    have d0 : decide ((60 : Int) < (a.length : Int)) = false := decide_eq_false (by omega)
    have d0n : decide (60 < a.length) = false := decide_eq_false k0
    by_cases k1 : 60 < b.length
    · have d1 : decide ((60 : Int) < (b.length : Int)) = true := decide_eq_true (by omega)
      have d1n : decide (60 < b.length) = true := decide_eq_true k1
      go_wp2_with fail
      go_ret
      exact ⟨rfl, HB1.out⟩
    have d1 : decide ((60 : Int) < (b.length : Int)) = false := decide_eq_false (by omega)
    have d1n : decide (60 < b.length) = false := decide_eq_false k1
    by_cases k2 : 60 < c.length
    · have d2 : decide ((60 : Int) < (c.length : Int)) = true := decide_eq_true (by omega)
      have d2n : decide (60 < c.length) = true := decide_eq_true k2
      go_wp2_with fail
      go_ret
      exact ⟨rfl, HB1.out⟩
    have d2 : decide ((60 : Int) < (c.length : Int)) = false := decide_eq_false (by omega)
    have d2n : decide (60 < c.length) = false := decide_eq_false k2
    by_cases k3 : 60 < d.length
    · have d3 : decide ((60 : Int) < (d.length : Int)) = true := decide_eq_true (by omega)
      have d3n : decide (60 < d.length) = true := decide_eq_true k3
      go_wp2_with fail
      go_ret
      exact ⟨rfl, HB1.out⟩
    have d3 : decide ((60 : Int) < (d.length : Int)) = false := decide_eq_false (by omega)
    have d3n : decide (60 < d.length) = false := decide_eq_false k3
    by_cases k4 : 60 < m.length
    · have d4 : decide ((60 : Int) < (m.length : Int)) = true := decide_eq_true (by omega)
      have d4n : decide (60 < m.length) = true := decide_eq_true k4
      go_wp2_with fail
      go_ret
      exact ⟨rfl, HB1.out⟩
    have d4 : decide ((60 : Int) < (m.length : Int)) = false := decide_eq_false (by omega)
    have d4n : decide (60 < m.length) = false := decide_eq_false k4
    have d5 : decide ((m.length : Int) < (K : Int)) = true := decide_eq_true (by have := HNOK.out; omega)
    have d5n : decide (m.length < K) = true := decide_eq_true (by have := HNOK.out; omega)
    go_wp2_with fail
    go_ret
    exact ⟨rfl, HB1.out⟩
end Wn
end Go.Proofs.Ytkmldaelgbkfbaa
