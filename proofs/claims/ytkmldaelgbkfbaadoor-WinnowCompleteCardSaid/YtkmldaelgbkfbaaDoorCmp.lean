/- The law of equal runs. Condition: bytealg's MaxLen lies in its variable; the lengths. -/
import Derived.Deep.RegionHeld3
import Derived.Test.YtkmldaelgbkfbaaDoorCcl
import Derived.Test.YtkmldaelgbkfbaaDoorCpq
import Derived.Test.YtkmldaelgbkfbaaDoorPrn
import Derived.Test.YtkmldaelgbkfbaaDoorShr
namespace Go.Proofs.YtkmldaelgbkfbaaDoor
open Go.RowKit Go.Deep Tr
namespace Wn
/-- Both texts where they lie, in variables. -/
structure Tw (w0 w : World) (A B : Option Addr) (c d : Nat) (a b : Nm.Txt) : Prop where
  a0 : w.cell? ⟨w0.heap.size, 0, none⟩ = some (.string (str a.pth))
  a1 : w.cell? ⟨w0.heap.size, 1, none⟩ = some (.slice A a.ws.length c)
  b0 : w.cell? ⟨w0.heap.size + 1, 0, none⟩ = some (.string (str b.pth))
  b1 : w.cell? ⟨w0.heap.size + 1, 1, none⟩ = some (.slice B b.ws.length d)
  la : w0.heap.size < w.heap.size
  lb : w0.heap.size + 1 < w.heap.size
  ha : Nm.LxAt w w.heap.size A a.ws
  hb : Nm.LxAt w w.heap.size B b.ws
  hm : MaxAt w
  be : Below w0.heap.size w0 w
theorem Tw.next {w0 w w' : World} {A B : Option Addr} {c d : Nat} {a b : Nm.Txt} (h : Tw w0 w A B c d a b) (hb : Below w.heap.size w w') : Tw w0 w' A B c d a b :=
  ⟨(hb.cell (p := ⟨w0.heap.size, 0, none⟩) h.la).trans h.a0, (hb.cell (p := ⟨w0.heap.size, 1, none⟩) h.la).trans h.a1, (hb.cell (p := ⟨w0.heap.size + 1, 0, none⟩) h.lb).trans h.b0, (hb.cell (p := ⟨w0.heap.size + 1, 1, none⟩) h.lb).trans h.b1, Nat.lt_of_lt_of_le h.la hb.size, Nat.lt_of_lt_of_le h.lb hb.size, h.ha.next hb, h.hb.next hb, h.hm.below hb, h.be.trans (hb.mono h.be.size)⟩
theorem Tw.made (w : World) (A B : Option Addr) (c d : Nat) (a b : Nm.Txt) (hA : Nm.LxAt w w.heap.size A a.ws) (hB : Nm.LxAt w w.heap.size B b.ws) (hM : MaxAt w) : Tw w ((w.alloc (Nm.txO A a.ws.length c (str a.pth))).alloc (Nm.txO B b.ws.length d (str b.pth))) A B c d a b := by
  obtain ⟨W1, h1⟩ : ∃ W1, W1 = w.alloc (Nm.txO A a.ws.length c (str a.pth)) := ⟨_, rfl⟩
  obtain ⟨W2, h2⟩ : ∃ W2, W2 = W1.alloc (Nm.txO B b.ws.length d (str b.pth)) := ⟨_, rfl⟩
  have g1 : W1.heap[w.heap.size]? = some (Nm.txO A a.ws.length c (str a.pth)) := by rw [h1]; exact heap_alloc_new _ _
  have g2 : W2.heap[W1.heap.size]? = some (Nm.txO B b.ws.length d (str b.pth)) := by rw [h2]; exact heap_alloc_new _ _
  have s1 : W1.heap.size = w.heap.size + 1 := by rw [h1]; simp
  have s2 : W2.heap.size = w.heap.size + 1 + 1 := by rw [h2]; simp [s1]
  have b1 : Below w.heap.size w W1 := by rw [h1]; exact (Below.refl _ _).alloc (Nat.le_refl _) _
  have b2 : Below W1.heap.size W1 W2 := by rw [h2]; exact (Below.refl _ _).alloc (Nat.le_refl _) _
  have b12 := b1.trans (b2.mono b1.size)
  obtain ⟨p0, p1⟩ := Nm.cells2 ((b2.block _ (by omega)).trans g1)
  obtain ⟨p2, p3⟩ := Nm.cells2 g2
  rw [s1] at p2 p3
  rw [← h1, ← h2]
  exact ⟨p0, p1, p2, p3, by omega, by omega, hA.next b12, hB.next b12, hM.below b12, b12⟩
theorem width4 (u : Nat) (hu : u ≤ 255) : ∃ K : Nat, IntKind.i64.wrap (1 + (u : Int) % 4) = (K : Int) ∧ IntKind.i64.wrap (1 + ((u : Int)).tmod 4) = (K : Int) ∧ 1 ≤ K ∧ K ≤ 4 := by
  have r1 : IntKind.i64.wrap (1 + (u : Int) % 4) = ((1 + u % 4 : Nat) : Int) := by rw [IntKind.wrap_i64]; omega
  exact ⟨1 + u % 4, r1, by rw [Int.tmod_eq_emod_of_nonneg (by omega)]; exact r1, by omega, by omega⟩
theorem part_hash {l : List Nm.Lx} {g o c p n : Nat} {w1 : World} (hA : Nm.LxAt w1 w1.heap.size (some ⟨g, o, none⟩) l) (hl : l.length ≤ 40) (hs : Rl.Sht (rlx l)) (hp : p + n ≤ l.length) : ∀ W, Below w1.heap.size w1 W → Calls Tryd.prog 15 #[.slice (some ⟨g, o + p * 2, none⟩) (((p : Int) + (n : Int)).toNat - p) c] W fun e w' => e = .returned (.int .i64 (Rl.hash (((l.drop p).take n).map (·.tx)) : Int)) ∧ Below W.heap.size W w' := fun W hb => by
  have hz : ((p : Int) + (n : Int)).toNat - p = n := by omega
  rw [hz, ← run_txs]
  have e : (((rlx l).drop p).take n).length = n := by rw [List.length_take, List.length_drop, rlx_len]; omega
  have h := Rl.hash_any (((rlx l).drop p).take n) (some ⟨g, o + p * 2, none⟩) c W ((rlx_at (hA.next hb)).part p n) (by omega) (fun x hx => hs x (List.mem_of_mem_drop (List.mem_of_mem_take hx)))
  rw [e] at h
  exact h
theorem place_of (i n : Nat) (hn : n ≤ 40) : ∃ p : Nat, p ≤ n ∧ IntKind.i64.wrap ((n : Int) + 1) = (n : Int) + 1 ∧ (i : Int) % ((n : Int) + 1) = (p : Int) ∧ ((i : Int)).tmod ((n : Int) + 1) = (p : Int) ∧ ((n : Int) + 1 == 0) = false ∧ ¬ ((n : Int) + 1 = 0) := by
  have h1 : (i : Int) % ((n : Int) + 1) = ((i % (n + 1) : Nat) : Int) := rfl
  refine ⟨i % (n + 1), by have := Nat.mod_lt i (show 0 < n + 1 by omega); omega, by rw [IntKind.wrap_i64]; omega, h1, by rw [Int.tmod_eq_emod_of_nonneg (by omega)]; exact h1, by rw [beq_eq_false_iff_ne]; omega, by omega⟩
set_option maxHeartbeats 16000000 in
set_option maxRecDepth 100000 in
theorem two_boxes (w : World) (x y : Nat) : Below w.heap.size w ((w.alloc (.cells #[.int .i64 x] 3 (0, 0))).alloc (.cells #[.int .i64 y] 3 (0, 0))).drew ∧ ((w.alloc (.cells #[.int .i64 x] 3 (0, 0))).alloc (.cells #[.int .i64 y] 3 (0, 0))).drew.cell? ⟨w.heap.size, 0, none⟩ = some (.int .i64 x) ∧ ((w.alloc (.cells #[.int .i64 x] 3 (0, 0))).alloc (.cells #[.int .i64 y] 3 (0, 0))).drew.cell? ⟨w.heap.size + 1, 0, none⟩ = some (.int .i64 y) ∧ w.heap.size < ((w.alloc (.cells #[.int .i64 x] 3 (0, 0))).alloc (.cells #[.int .i64 y] 3 (0, 0))).drew.heap.size ∧ w.heap.size + 1 < ((w.alloc (.cells #[.int .i64 x] 3 (0, 0))).alloc (.cells #[.int .i64 y] 3 (0, 0))).drew.heap.size := by
  have g1 := heap_alloc_new w (.cells #[.int .i64 x] 3 (0, 0))
  have g2 := heap_alloc_new (w.alloc (.cells #[.int .i64 x] 3 (0, 0))) (.cells #[.int .i64 y] 3 (0, 0))
  have s1 : (w.alloc (.cells #[.int .i64 x] 3 (0, 0))).heap.size = w.heap.size + 1 := by simp
  have g3 := (blk_alloc_lt (w.alloc (.cells #[.int .i64 x] 3 (0, 0))) (.cells #[.int .i64 y] 3 (0, 0)) _ (blk_lt g1)).trans g1
  rw [s1] at g2
  have c1 := (cell_of_row _ _ 0 _ _ _ g3)
  have c2 := (cell_of_row _ _ 0 _ _ _ g2)
  exact ⟨(((Below.refl _ _).alloc (Nat.le_refl _) _).alloc (by simp) _).drew, c1, c2, blk_lt g3, blk_lt g2⟩
set_option maxHeartbeats 16000000 in
set_option maxRecDepth 100000 in
theorem complete_law (a b : Nm.Txt) (i j g u : Nat) (A B : Option Addr) (c d : Nat) (w : World) (hA : Nm.LxAt w w.heap.size A a.ws) (hB : Nm.LxAt w w.heap.size B b.ws) (hM : MaxAt w) (hla : a.ws.length ≤ 5864062014634) (hlb : b.ws.length ≤ 5864062014634) (hca : a.ws.length ≤ c) (hcb : b.ws.length ≤ d) (hi : i ≤ 255) (hj : j ≤ 255) (hg : g ≤ 255) (hu : u ≤ 255) :
    Calls Tryd.prog 4 #[Nm.txV A c a, Nm.txV B d b, .int .u8 (i : Int), .int .u8 (j : Int), .int .u8 (g : Int), .int .u8 (u : Int)] w fun e w' => e = .returned (.bool true) ∧ Below w.heap.size w w' := by
  have hT := Tw.made w A B c d a b hA hB hM
  obtain ⟨W, hW⟩ : ∃ W, W = (w.alloc (Nm.txO A a.ws.length c (str a.pth))).alloc (Nm.txO B b.ws.length d (str b.pth)) := ⟨_, rfl⟩
  have hWW : W = (w.alloc (.cells #[.string (str a.pth), .slice A a.ws.length c] 24 (0, 0))).alloc (.cells #[.string (str b.pth), .slice B b.ws.length d] 24 (0, 0)) := hW
  rw [← hW] at hT
  have c0 := awake_any W
  have HU := Lib.hid (And.intro (wr64_nat (n := i) (by omega)) (wr64_nat (n := j) (by omega)))
  have HU3 := Lib.hid (And.intro (wr64_nat (n := g) (by omega)) (wr64_nat (n := u) (by omega)))
  have HK12 := Lib.hid (show True from trivial)
  obtain ⟨K, k1, k2, hK1⟩ := width4 g hg
  obtain ⟨N, n1, n2, hN1⟩ := width4 u hu
  have HK := Lib.hid (And.intro hK1 hN1)
  have HL := Lib.hid (And.intro hla hlb)
  have HC := Lib.hid (And.intro hca hcb)
  have HT := Lib.hid hT
  clear hT hA hB hM hla hlb hca hcb hi hj hg hu hW hK1 hN1
  go_enter Tryd.func4, Tryd.ntmps4
  go_upto_region 1 with (fail)
  rw [← hWW]
  clear hWW
  go_wp2_with fail
  (with_reducible refine c0.mono ?_); rintro e w1 ⟨rfl, hb⟩
  have hT := HT.out.next hb
  clear HT hb c0
  obtain ⟨e6, e8⟩ := HU3.out
  go_upto_region 4 with (fail)
  clear k1 k2 n1 n2 e6 e8 HK12
  obtain ⟨bk, hbke⟩ : ∃ q, q = w1.heap.size := ⟨_, rfl⟩
  obtain ⟨w2, hw2⟩ : ∃ w2, w2 = w1.alloc (.cells #[.int .i64 K] 3 (0, 0)) := ⟨_, rfl⟩
  have hb : Below w1.heap.size w1 w2 := by rw [hw2]; exact (Below.refl _ _).alloc (Nat.le_refl _) _
  have hn := heap_alloc_new w1 (.cells #[.int .i64 K] 3 (0, 0))
  rw [← hw2, ← hbke] at hn
  have hK : w2.cell? ⟨bk, 0, none⟩ = some (.int .i64 K) := by rw [cell_of_row _ _ _ _ _ _ hn]; rfl
  have hbk := blk_lt hn
  have hT := hT.next hb
  rw [← hw2, ← hbke]
  clear hw2 hb hn hbke
  have r0 := hT.a0
  have r1 := hT.a1
  have r2 := hT.b0
  have r3 := hT.b1
  have HT := Lib.hid hT
  clear hT
  have c1 := Rl.few_any (rlx a.ws) A c w2 (rlx_at HT.out.ha) (by rw [rlx_len]; have := HL.out; omega)
  rw [rlx_len] at c1
  go_wp2_with fail
  (with_reducible refine c1.mono ?_); rintro e w' ⟨f1, rfl, hf1, rfl⟩
  clear c1
  cases f1 with
  | false =>
    clear hf1
    go_wp2_with fail
    go_ret
    exact ⟨rfl, HT.out.be⟩
  | true =>
  obtain ⟨hl1, hx1⟩ := hf1 rfl
  have HS1 := Lib.hid (few_sht hx1)
  clear hf1 hx1
  have c1 := Rl.few_any (rlx b.ws) B d w2 (rlx_at HT.out.hb) (by rw [rlx_len]; have := HL.out; omega)
  rw [rlx_len] at c1
  go_wp2_with fail
  (with_reducible refine c1.mono ?_); rintro e w' ⟨f2, rfl, hf2, rfl⟩
  clear c1
  cases f2 with
  | false =>
    clear hf2
    go_wp2_with fail
    go_ret
    exact ⟨rfl, HT.out.be⟩
  | true =>
  obtain ⟨hl2, hx2⟩ := hf2 rfl
  have HS2 := Lib.hid (few_sht hx2)
  clear hf2 hx2
  by_cases t1 : 200 < (str a.pth).size
  · have d1 : decide ((200 : Int) < ((str a.pth).size : Int)) = true := decide_eq_true (by omega)
    have d1n : decide (200 < (str a.pth).size) = true := decide_eq_true t1
    clear t1
    go_wp2_with fail
    go_ret
    exact ⟨rfl, HT.out.be⟩
  have d1 : decide ((200 : Int) < ((str a.pth).size : Int)) = false := decide_eq_false (by omega)
  have d1n : decide (200 < (str a.pth).size) = false := decide_eq_false t1
  rw [str_size] at t1
  by_cases t2 : 200 < (str b.pth).size
  · have d2 : decide ((200 : Int) < ((str b.pth).size : Int)) = true := decide_eq_true (by omega)
    have d2n : decide (200 < (str b.pth).size) = true := decide_eq_true t2
    clear t2
    go_wp2_with fail
    go_ret
    exact ⟨rfl, HT.out.be⟩
  have d2 : decide ((200 : Int) < ((str b.pth).size : Int)) = false := decide_eq_false (by omega)
  have d2n : decide (200 < (str b.pth).size) = false := decide_eq_false t2
  rw [str_size] at t2
  have HTX := Lib.hid (show ∀ w', Tw w w' A B c d a b → Nm.TxAt w' A a ∧ Nm.TxAt w' B b from fun w' h => ⟨⟨h.ha, fun x hx => by have := HS1.out.1 x hx; omega, by omega, HL.out.1⟩, ⟨h.hb, fun x hx => by have := HS2.out.1 x hx; omega, by omega, HL.out.2⟩⟩)
  have HLN := Lib.hid (And.intro hl1 hl2)
  clear t1 t2 hl1 hl2
  have c1 := Nm.valid_any a A c w2 (HTX.out w2 HT.out).1 HT.out.hm
  go_wp2_with fail
  (with_reducible refine c1.mono ?_); rintro e w3 ⟨rfl, hb⟩
  have hT := HT.out.next hb
  have hK := (hb.cell (p := ⟨bk, 0, none⟩) hbk).trans hK
  have hbk := Nat.lt_of_lt_of_le hbk hb.size
  clear c1 hb r0 r1 r2 r3
  have r0 := hT.a0
  have r1 := hT.a1
  have r2 := hT.b0
  have r3 := hT.b1
  have HT := Lib.hid hT
  clear hT
  cases hv1 : Nm.vld a with
  | false =>
    go_wp2_with fail
    go_ret
    exact ⟨rfl, HT.out.be⟩
  | true =>
  have c1 := Nm.valid_any b B d w3 (HTX.out w3 HT.out).2 HT.out.hm
  go_wp2_with fail
  (with_reducible refine c1.mono ?_); rintro e w4 ⟨rfl, hb⟩
  have hT := HT.out.next hb
  have hK := (hb.cell (p := ⟨bk, 0, none⟩) hbk).trans hK
  have hbk := Nat.lt_of_lt_of_le hbk hb.size
  clear c1 hb r0 r1 r2 r3
  have r0 := hT.a0
  have r1 := hT.a1
  have r2 := hT.b0
  have r3 := hT.b1
  have HT := Lib.hid hT
  clear hT
  cases hv2 : Nm.vld b with
  | false =>
    go_wp2_with fail
    go_ret
    exact ⟨rfl, HT.out.be⟩
  | true =>
  have HV := Lib.hid (And.intro hv1 hv2)
  clear hv1 hv2
  obtain ⟨p, hp1, v1, m1, m1t, z1, z3⟩ := place_of i a.ws.length HLN.out.1
  obtain ⟨q, hq1, v2, m2, m2t, z2, z4⟩ := place_of j b.ws.length HLN.out.2
  have HPQ := Lib.hid (And.intro hp1 hq1)
  clear hp1 hq1
  go_upto_region 6 with (fail)
  clear d1 d1n d2 d2n
  obtain ⟨e2, e4⟩ := HU.out
  have ra1 : ∀ O, (w4.alloc O).cell? ⟨w.heap.size, 1, none⟩ = some (.slice A a.ws.length c) := fun O => (cell_alloc_lt w4 O _ _ HT.out.la).trans r1
  have rb1 : ∀ O, (w4.alloc O).cell? ⟨w.heap.size + 1, 1, none⟩ = some (.slice B b.ws.length d) := fun O => (cell_alloc_lt w4 O _ _ HT.out.lb).trans r3
  have ra2 : ∀ O O', ((w4.alloc O).alloc O').cell? ⟨w.heap.size, 1, none⟩ = some (.slice A a.ws.length c) := fun O O' => (cell_alloc_lt (w4.alloc O) O' _ _ (by have := HT.out.la; simp; omega)).trans (ra1 O)
  have rb2 : ∀ O O', ((w4.alloc O).alloc O').cell? ⟨w.heap.size + 1, 1, none⟩ = some (.slice B b.ws.length d) := fun O O' => (cell_alloc_lt (w4.alloc O) O' _ _ (by have := HT.out.lb; simp; omega)).trans (rb1 O)
  have HMK := Lib.hid (fun (x y : Nat) => two_boxes w4 x y)
  have HKB := Lib.hid (And.intro hK hbk)
  clear hK hbk
  go_region
  · clear ra1 ra2 rb1 rb2 r0 r1 r2 r3 v1 v2 m1 m1t m2 m2t z1 z2 z3 z4 e2 e4
    obtain ⟨hb5, hx0, hy0, hs0, hs1⟩ := HMK.out p q
    obtain ⟨w5, hw5⟩ : ∃ w5, w5 = ((w4.alloc (.cells #[.int .i64 p] 3 (0, 0))).alloc (.cells #[.int .i64 q] 3 (0, 0))).drew := ⟨_, rfl⟩
    rw [← hw5] at hb5 hx0 hy0 hs0 hs1 ⊢
    obtain ⟨bq, hbq⟩ : ∃ r, r = w4.heap.size + 1 := ⟨_, rfl⟩
    rw [← hbq] at hy0 hs1 ⊢
    obtain ⟨bp, hbp⟩ : ∃ r, r = w4.heap.size := ⟨_, rfl⟩
    rw [← hbp] at hx0 hs0 ⊢
    have hT := HT.out.next hb5
    have hK := (hb5.cell (p := ⟨bk, 0, none⟩) HKB.out.2).trans HKB.out.1
    have hKl := Nat.lt_of_lt_of_le HKB.out.2 hb5.size
    have HV5 := Lib.hid (show w5.cell? ⟨bp, 0, none⟩ = some (.int .i64 p) ∧ w5.cell? ⟨bq, 0, none⟩ = some (.int .i64 q) ∧ w5.cell? ⟨bk, 0, none⟩ = some (.int .i64 K) ∧ bp < w5.heap.size ∧ bq < w5.heap.size ∧ bk < w5.heap.size from ⟨hx0, hy0, hK, hs0, hs1, hKl⟩)
    clear HT HMK HKB hb5 hx0 hy0 hs0 hs1 hw5 hbp hbq hK hKl
    have HT := Lib.hid hT
    clear hT
    obtain ⟨cp, cq, ck, -, -, -⟩ := HV5.out
    have r0 := HT.out.a0
    have r1 := HT.out.a1
    have r2 := HT.out.b0
    have r3 := HT.out.b1
    have c1 := Nm.common_any a b (p : Int) (q : Int) A B c d w5 (HTX.out w5 HT.out).1 (HTX.out w5 HT.out).2 HT.out.hm
    have HCO := Lib.hid (show Nm.comI a (p : Int) b (q : Int) = Nm.cmn (a.ws.drop p) (b.ws.drop q) from if_pos ⟨HV.out.1, HV.out.2, by omega, by have := HPQ.out.1; omega, by omega, by have := HPQ.out.2; omega⟩)
    rw [HCO.out] at c1
    have hcl := Nm.cmn_le (a.ws.drop p) (b.ws.drop q)
    rw [List.length_drop, List.length_drop] at hcl
    have HN := Lib.hid (show Nm.cmn (a.ws.drop p) (b.ws.drop q) ≤ Nm.cmn (a.ws.drop p) (b.ws.drop q) from Nat.le_refl _)
    generalize hnn : Nm.cmn (a.ws.drop p) (b.ws.drop q) = n at c1 hcl
    have HNE := Lib.hid hnn
    have HNL := Lib.hid (show p + n ≤ a.ws.length ∧ q + n ≤ b.ws.length ∧ a.ws.length ≤ 40 ∧ b.ws.length ≤ 40 from by have := HPQ.out; have := HLN.out; omega)
    clear hcl hnn HCO HN
    go_wp2_with fail
    (with_reducible refine c1.mono ?_); rintro e w6 ⟨rfl, hb⟩
    have hT := HT.out.next hb
    have HV6 := Lib.hid (show w6.cell? ⟨bp, 0, none⟩ = some (.int .i64 p) ∧ w6.cell? ⟨bq, 0, none⟩ = some (.int .i64 q) ∧ w6.cell? ⟨bk, 0, none⟩ = some (.int .i64 K) ∧ bp < w6.heap.size ∧ bq < w6.heap.size ∧ bk < w6.heap.size from ⟨(hb.cell (p := ⟨bp, 0, none⟩) HV5.out.2.2.2.1).trans cp, (hb.cell (p := ⟨bq, 0, none⟩) HV5.out.2.2.2.2.1).trans cq, (hb.cell (p := ⟨bk, 0, none⟩) HV5.out.2.2.2.2.2).trans ck, Nat.lt_of_lt_of_le HV5.out.2.2.2.1 hb.size, Nat.lt_of_lt_of_le HV5.out.2.2.2.2.1 hb.size, Nat.lt_of_lt_of_le HV5.out.2.2.2.2.2 hb.size⟩)
    clear c1 hb r0 r1 r2 r3 cp cq ck HV5 HT
    go_upto_region 8 with (fail)
    obtain ⟨bn, hbn⟩ : ∃ r, r = w6.heap.size := ⟨_, rfl⟩
    obtain ⟨w7, hw7⟩ : ∃ w7, w7 = w6.alloc (.cells #[.int .i64 n] 3 (0, 0)) := ⟨_, rfl⟩
    have hb : Below w6.heap.size w6 w7 := by rw [hw7]; exact (Below.refl _ _).alloc (Nat.le_refl _) _
    have hnw := heap_alloc_new w6 (.cells #[.int .i64 n] 3 (0, 0))
    rw [← hw7, ← hbn] at hnw
    have hT := hT.next hb
    have HCV := Lib.hid (show Cv w7 bp bq bk bn p q K n from ⟨(hb.cell (p := ⟨bp, 0, none⟩) HV6.out.2.2.2.1).trans HV6.out.1, (hb.cell (p := ⟨bq, 0, none⟩) HV6.out.2.2.2.2.1).trans HV6.out.2.1, (hb.cell (p := ⟨bk, 0, none⟩) HV6.out.2.2.2.2.2).trans HV6.out.2.2.1, by rw [cell_of_row _ _ _ _ _ _ hnw]; rfl, Nat.lt_of_lt_of_le HV6.out.2.2.2.1 hb.size, Nat.lt_of_lt_of_le HV6.out.2.2.2.2.1 hb.size, Nat.lt_of_lt_of_le HV6.out.2.2.2.2.2 hb.size, blk_lt hnw⟩)
    rw [← hw7, ← hbn]
    have HT := Lib.hid hT
    clear hw7 hbn hb hnw hT HV6
    have r1 := HT.out.a1
    have r3 := HT.out.b1
    have cp := HCV.out.p
    have cq := HCV.out.q
    have ck := HCV.out.k
    have cn := HCV.out.n
    have c1 := gua_any (K : Int) (N : Int) w7
    obtain ⟨L, hL⟩ : ∃ L, L = K + N - 1 := ⟨_, rfl⟩
    have hg : guaI (K : Int) (N : Int) = (L : Int) ∧ guaE (K : Int) (N : Int) = 0 := by
      have h1 := sz_nat HK.out.1.1 (show K ≤ 1024 by have := HK.out; omega)
      have h2 := sz_nat HK.out.2.1 (show N ≤ 1024 by have := HK.out; omega)
      exact ⟨by unfold guaI; rw [if_pos ⟨h1, h2⟩]; have := HK.out; omega, by unfold guaE; rw [if_pos ⟨h1, h2⟩]⟩
    rw [hg.1, hg.2] at c1
    have HLK := Lib.hid hL
    clear hL hg
    have hnl := HNL.out
    obtain ⟨da, hda⟩ : ∃ da : Nat, da = a.ws.length - p := ⟨_, rfl⟩
    obtain ⟨db, hdb⟩ : ∃ db : Nat, db = b.ws.length - q := ⟨_, rfl⟩
    have x1 : decide ((n : Int) < 0) = false := decide_eq_false (by omega)
    have x4 : IntKind.i64.wrap ((a.ws.length : Int) - (p : Int)) = (da : Int) := by rw [IntKind.wrap_i64]; omega
    have x5 : IntKind.i64.wrap ((b.ws.length : Int) - (q : Int)) = (db : Int) := by rw [IntKind.wrap_i64]; omega
    have x2 : decide ((da : Int) < (n : Int)) = false := decide_eq_false (by omega)
    have x2n : decide (da < n) = false := decide_eq_false (by omega)
    have x3 : decide ((db : Int) < (n : Int)) = false := decide_eq_false (by omega)
    have x3n : decide (db < n) = false := decide_eq_false (by omega)
    clear hda hdb hnl
    go_upto_region 11 with (go_at_call 9; (with_reducible refine c1.mono ?_); rintro e w' ⟨rfl, rfl⟩)
    clear c1 x1 x2 x2n x3 x3n x4 x5
    by_cases hn : n < L
    · have y1 : decide ((n : Int) < (L : Int)) = true := decide_eq_true (by omega)
      have y1n : decide (n < L) = true := decide_eq_true hn
      go_wp2_with fail
      go_ret
      exact ⟨rfl, HT.out.be⟩
    have y1 : decide ((n : Int) < (L : Int)) = false := decide_eq_false (by omega)
    have y1n : decide (n < L) = false := decide_eq_false hn
    have HLN2 := Lib.hid (show L ≤ n by omega)
    clear hn
    have r0 := HT.out.a0
    have r2 := HT.out.b0
    have HB1 := Lib.hid (show 1 ≤ K ∧ K ≤ 1024 ∧ 1 ≤ N ∧ N ≤ 1024 from by have := HK.out; omega)
    have c1 := prints_any a (K : Int) (N : Int) A c w7 (HTX.out w7 HT.out).1 (fun x hx => by have := HS1.out.1 x hx; omega) (by have := HNL.out; omega) HC.out.1 HT.out.hm
    rw [(prL_eq a K N HV.out.1 HB1.out.1 HB1.out.2.1 HB1.out.2.2.1 HB1.out.2.2.2).2] at c1
    obtain ⟨FA, hFA⟩ : ∃ FA, FA = prL a (K : Int) (N : Int) := ⟨_, rfl⟩
    rw [← hFA] at c1
    have HFA := Lib.hid hFA
    clear hFA
    go_wp2_with fail
    (with_reducible refine c1.mono ?_); rintro e w8 ⟨A1, cA, rfl, -, -, hE1, hb⟩
    have hT := HT.out.next hb
    have hCV := HCV.out.next hb
    clear HT HCV c1 r0 r1 r2 r3 cp cq ck cn
    have HT := Lib.hid hT
    have HCV := Lib.hid hCV
    clear hT hCV
    have r0 := HT.out.a0
    have r1 := HT.out.a1
    have r2 := HT.out.b0
    have r3 := HT.out.b1
    have cp := HCV.out.p
    have cq := HCV.out.q
    have ck := HCV.out.k
    have cn := HCV.out.n
    clear hb y1 y1n
    have HE1 := Lib.hid hE1
    clear hE1
    have c1 := prints_any b (K : Int) (N : Int) B d w8 (HTX.out w8 HT.out).2 (fun x hx => by have := HS2.out.1 x hx; omega) (by have := HNL.out; omega) HC.out.2 HT.out.hm
    rw [(prL_eq b K N HV.out.2 HB1.out.1 HB1.out.2.1 HB1.out.2.2.1 HB1.out.2.2.2).2] at c1
    obtain ⟨FB, hFB⟩ : ∃ FB, FB = prL b (K : Int) (N : Int) := ⟨_, rfl⟩
    rw [← hFB] at c1
    have HFB := Lib.hid hFB
    clear hFB
    go_wp2_with fail
    (with_reducible refine c1.mono ?_); rintro e w9 ⟨A2, cB, rfl, -, -, hE2, hb⟩
    have HE2 := Lib.hid (And.intro (HE1.out.next hb) hE2)
    clear hE2 HE1
    have hT := HT.out.next hb
    have hCV := HCV.out.next hb
    clear HT HCV c1 r0 r1 r2 r3 cp cq ck cn
    have HT := Lib.hid hT
    have HCV := Lib.hid hCV
    clear hT hCV
    have r0 := HT.out.a0
    have r1 := HT.out.a1
    have r2 := HT.out.b0
    have r3 := HT.out.b1
    have cp := HCV.out.p
    have cq := HCV.out.q
    have ck := HCV.out.k
    have cn := HCV.out.n
    clear hb
    have HLE := Lib.hid (show FA.length ≤ 40 ∧ FB.length ≤ 40 from ⟨by have := prL_len a K N HV.out.1 HB1.out.1 HB1.out.2.1 HB1.out.2.2.1 HB1.out.2.2.2; rw [← HFA.out] at this; have := HNL.out; omega, by have := prL_len b K N HV.out.2 HB1.out.1 HB1.out.2.1 HB1.out.2.2.1 HB1.out.2.2.2; rw [← HFB.out] at this; have := HNL.out; omega⟩)
    have c1 := shared_any FA FB A1 A2 cA cB w9 HE2.out.1 HE2.out.2 (by have := HLE.out; omega) (by have := HLE.out; omega) (fun x hx => prL_fit a K N HV.out.1 HB1.out.1 HB1.out.2.1 HB1.out.2.2.1 HB1.out.2.2.2 x (by rw [← HFA.out]; exact hx)) (fun x hx => prL_fit b K N HV.out.2 HB1.out.1 HB1.out.2.1 HB1.out.2.2.1 HB1.out.2.2.2 x (by rw [← HFB.out]; exact hx))
    have HSE := Lib.hid (show ordF FA = true ∧ ordF FB = true from ⟨by rw [HFA.out]; exact prL_ord a K N HV.out.1 HB1.out.1 HB1.out.2.1 HB1.out.2.2.1 HB1.out.2.2.2, by rw [HFB.out]; exact prL_ord b K N HV.out.2 HB1.out.1 HB1.out.2.1 HB1.out.2.2.1 HB1.out.2.2.2⟩)
    by_cases hle : (prs FA FB).length ≤ 1024
    case neg =>
      have e1 : shL FA FB = [] := by unfold shL; rw [if_neg (fun h => hle h.2.2)]
      have e2 : shE FA FB = 10 := by unfold shE; rw [if_pos HSE.out, if_neg hle]
      rw [e1, e2] at c1
      clear e1 e2 hle
      go_wp2_with fail
      (with_reducible refine c1.mono ?_); rintro e w10 ⟨A3, cC, rfl, -, -, -, hb⟩
      have HBe := Lib.hid (HT.out.next hb).be
      clear HT hb c1
      go_wp2_with fail
      go_ret
      exact ⟨rfl, HBe.out⟩
    have e1 : shL FA FB = prs FA FB := by unfold shL; rw [if_pos ⟨HSE.out.1, HSE.out.2, hle⟩]
    have e2 : shE FA FB = 0 := by unfold shE; rw [if_pos HSE.out, if_pos hle]
    rw [e1, e2] at c1
    clear e1 e2
    obtain ⟨PS, hPS⟩ : ∃ PS, PS = prs FA FB := ⟨_, rfl⟩
    rw [← hPS] at c1 hle
    have HPS := Lib.hid (And.intro hPS hle)
    clear hPS hle
    go_wp2_with fail
    (with_reducible refine c1.mono ?_); rintro e w10 ⟨A3, cC, rfl, -, -, hE3, hb⟩
    have HE3 := Lib.hid (And.intro (HE2.out.1.next hb) hE3)
    clear hE3 HE2 HSE
    have hT := HT.out.next hb
    have hCV := HCV.out.next hb
    clear HT HCV c1 r0 r1 r2 r3 cp cq ck cn
    have HT := Lib.hid hT
    have HCV := Lib.hid hCV
    clear hT hCV
    have r0 := HT.out.a0
    have r1 := HT.out.a1
    have r2 := HT.out.b0
    have r3 := HT.out.b1
    have cp := HCV.out.p
    have cq := HCV.out.q
    have ck := HCV.out.k
    have cn := HCV.out.n
    clear hb
    obtain ⟨nA, hnA⟩ : ∃ nA, nA = FA.length := ⟨_, rfl⟩
    simp only [← hnA]
    have HNA := Lib.hid hnA
    clear hnA
    have HHIT := Lib.hid (show ∃ kk : Nat, ∃ hkk : kk < PS.length, ∀ u v : Nat, PS[kk] = ⟨(u : Int), (v : Int)⟩ → cpB p q K n u v = true from by
      obtain ⟨z, hz, hmem⟩ := complete_ok a b p q n K N HV.out.1 HV.out.2 HB1.out.1 HB1.out.2.1 HB1.out.2.2.1 HB1.out.2.2.2 (by rw [HNE.out]; exact Nat.le_refl _) HNL.out.1 HNL.out.2.1 (by have := HLK.out; have := HLN2.out; have := HK.out; omega)
      rw [← HFA.out, ← HFB.out, ← HPS.out.1] at hmem
      obtain ⟨kk, hkk, he⟩ := List.getElem_of_mem hmem
      refine ⟨kk, hkk, fun u v h => ?_⟩
      have e := he.symm.trans h
      injection e with e1 e2
      have hu : u = p + z := by omega
      have hv : v = q + z := by omega
      have t1 : (((p + z : Nat) : Int) - (p : Int)) = ((q + z : Nat) : Int) - (q : Int) := by omega
      have t2 : p + z + K ≤ p + n := by have := HLK.out; have := HLN2.out; have := HK.out; omega
      rw [hu, hv]
      unfold cpB
      rw [t1, decide_eq_true (show p ≤ p + z by omega), decide_eq_true t2]
      simp)
    have HNAT := Lib.hid (show ∀ x ∈ PS, ∃ u v : Nat, x = ⟨(u : Int), (v : Int)⟩ ∧ u ≤ 100000 ∧ v ≤ 100000 from fun x hx => prs_nat a b K N HV.out.1 HV.out.2 HB1.out.1 HB1.out.2.1 HB1.out.2.2.1 HB1.out.2.2.2 x (by rw [HPS.out.1, HFA.out, HFB.out] at hx; exact hx))
    clear r0 r2 cp cq cn
    go_wp2_with fail
    go_loopw [164] (fun s wr => ∃ m : Nat, s = .int .i64 m ∧ m ≤ nA ∧ Below w10.heap.size w10 wr) (fun s _ => nA - (intOf s).toNat)
    case atStart => exact ⟨0, rfl, by omega, Below.refl _ _⟩
    case round =>
      obtain ⟨m, rfl, hm, hbw⟩ := hrel
      obtain ⟨w00, rfl⟩ : ∃ x : World, x = wr := ⟨wr, rfl⟩
      by_cases hlt : m < nA
      · have b1 : decide ((m : Int) < (nA : Int)) = true := decide_eq_true (by omega)
        have b1n : decide (m < nA) = true := decide_eq_true hlt
        have y2 : (m : Int) < (nA : Int) := by omega
        have hmA : m < FA.length := by have := HNA.out; omega
        have hmem : FA[m] ∈ FA := List.getElem_mem hmA
        have hmem2 : FA[m] ∈ prL a (K : Int) (N : Int) := (congrArg (fun l => FA[m] ∈ l) HFA.out).mp hmem
        obtain ⟨s, hxe, hsK⟩ := prL_at a K N HV.out.1 HB1.out.1 HB1.out.2.1 HB1.out.2.2.1 HB1.out.2.2.2 FA[m] hmem2
        obtain ⟨gA, oA, rfl, hgA, hcA⟩ := fp_cells HE3.out.1 (by omega)
        obtain ⟨q0, q1⟩ := hcA m hmA
        rw [hxe] at q0 q1
        dsimp only at q0 q1
        have q0 := (hbw.cell (p := ⟨gA, oA + m * 2, none⟩) hgA).trans q0
        have q1 := (hbw.cell (p := ⟨gA, oA + m * 2 + 1, none⟩) hgA).trans q1
        obtain ⟨gg, oo, hAe, -, -, -⟩ := HT.out.ha 0 (by have := HK.out; omega)
        subst hAe
        obtain ⟨hh, hhe⟩ : ∃ hh, hh = Rl.hash (((a.ws.drop s).take K).map (·.tx)) := ⟨_, rfl⟩
        rw [← hhe] at q0
        have hbz : Below w00.heap.size w00 (w00.alloc (.cells #[.int .i64 (hh : Int), .int .i64 (s : Int)] 35 (0, 0))) := (Below.refl _ _).alloc (Nat.le_refl _) _
        have hnw := heap_alloc_new w00 (.cells #[.int .i64 (hh : Int), .int .i64 (s : Int)] 35 (0, 0))
        obtain ⟨v5, hv5⟩ : ∃ v5, v5 = w00.alloc (.cells #[.int .i64 (hh : Int), .int .i64 (s : Int)] 35 (0, 0)) := ⟨_, rfl⟩
        rw [← hv5] at hbz hnw
        have T5 := (HT.out.next hbw).next hbz
        have C5 := (HCV.out.next hbw).next hbz
        have e0 : v5.cell? ⟨w00.heap.size, 0, none⟩ = some (.int .i64 hh) := by rw [cell_of_row _ _ _ _ _ _ hnw]; rfl
        have e1 : v5.cell? ⟨w00.heap.size, 1, none⟩ = some (.int .i64 s) := by rw [cell_of_row _ _ _ _ _ _ hnw]; rfl
        have e2 := C5.k
        have e3 := T5.a1
        have HLT := Lib.hid (show w00.heap.size < v5.heap.size ∧ bk < v5.heap.size ∧ w.heap.size < v5.heap.size from ⟨blk_lt hnw, C5.lk, T5.la⟩)
        have CH := Lib.hid (part_hash (c := c - s) T5.ha HLN.out.1 HS1.out.2 hsK)
        rw [← hhe] at CH
        have HBZ := Lib.hid (hbw.trans (hbz.mono hbw.size))
        have hKK := HK.out
        have hCC := HC.out
        have hLL := HLN.out
        have x1 : decide ((s : Int) < 0) = false := decide_eq_false (by omega)
        have x7 : IntKind.i64.wrap ((s : Int) + (K : Int)) = (s : Int) + (K : Int) := by rw [IntKind.wrap_i64]; omega
        have x8 : decide ((a.ws.length : Int) < (s : Int) + (K : Int)) = false := decide_eq_false (by omega)
        have y1 : (s : Int) + (K : Int) ≤ (c : Int) := by omega
        have y3 : (s : Int) ≤ (s : Int) + (K : Int) := by omega
        have y4 : (0 : Int) ≤ (s : Int) + (K : Int) := by omega
        have y5 : s + K ≤ c := by omega
        have hcs : ¬ c = s := by omega
        have HMX := Lib.hid (show m + 1 ≤ nA ∧ nA ≤ 40 from ⟨hlt, by have := HNA.out; have := HLE.out; omega⟩)
        have hm8 : m ≤ 40 := by have := HMX.out; omega
        clear hmA hmem hmem2 hxe hsK hhe hcA hgA hbw hbz hnw T5 C5 hKK hCC hLL hlt hm r1 r3 ck
        go_upto_region 21 with (fail)
        rw [← hv5]
        clear hv5 q0 q1 b1 b1n y2
        have hbd : Below v5.heap.size v5 v5.drew := ⟨rfl, rfl, rfl, Nat.le_refl _, fun _ _ => rfl⟩
        obtain ⟨hk0, hk1, hk2⟩ := HLT.out
        go_region_held3 (fun w' => w'.cell? ⟨w00.heap.size, 0, none⟩ = some (.int .i64 hh) ∧ w'.cell? ⟨w00.heap.size, 1, none⟩ = some (.int .i64 s) ∧ w'.cell? ⟨bk, 0, none⟩ = some (.int .i64 K) ∧ w'.cell? ⟨w.heap.size, 1, none⟩ = some (.slice (some ⟨gg, oo, none⟩) a.ws.length c)) (first | exact ⟨e0, e1, e2, e3⟩ | exact s0) (first | (go_at_call 15; (with_reducible refine (CH.out _ hbd).mono ?_); rintro e w6 ⟨rfl, hb6⟩; have hb56 := hbd.trans (hb6.mono hbd.size); have s0 := And.intro ((hb56.cell (p := ⟨w00.heap.size, 0, none⟩) hk0).trans e0) (And.intro ((hb56.cell (p := ⟨w00.heap.size, 1, none⟩) hk0).trans e1) (And.intro ((hb56.cell (p := ⟨bk, 0, none⟩) hk1).trans e2) ((hb56.cell (p := ⟨w.heap.size, 1, none⟩) hk2).trans e3)))))
        all_goals
          have HBX := Lib.hid (HBZ.out.trans (hb56.mono HBZ.out.size))
          clear hb56 hb6
          go_wp2_with fail
          go_roundw
          case rel => exact ⟨m + 1, by go_num, HMX.out.1, HBX.out⟩
          case measure => have := HMX.out; simp [intOf]; omega
      · have b1 : decide ((m : Int) < (nA : Int)) = false := decide_eq_false (by omega)
        have b1n : decide (m < nA) = false := decide_eq_false hlt
        obtain ⟨kk, hkk, hhit⟩ := HHIT.out
        have cc := containsCcl_any PS kk A3 cC w00 bp bq bk bn p q K n (HCV.out.next hbw) (HE3.out.2.next hbw) HNAT.out (by have := HPQ.out; have := HLN.out; omega) (by have := HPQ.out; have := HLN.out; omega) (by have := HK.out; omega) (by have := HNL.out; omega) (by have := HPS.out.2; omega) hkk hhit
        have HBe := Lib.hid (HT.out.next hbw).be
        clear hhit hkk HHIT hbw hlt hm
        go_wp2_with fail
        (with_reducible refine cc.mono ?_); rintro e w11 ⟨rfl, hb⟩
        have HBf := Lib.hid (HBe.out.trans (hb.mono HBe.out.size))
        clear cc hb
        go_wp2_with fail
        go_ret
        exact ⟨rfl, HBf.out⟩
  · clear ra1 ra2 rb1 rb2 r0 r1 r2 r3 v1 v2 m1 m1t m2 m2t z1 z2 z3 z4 e2 e4
    obtain ⟨hb5, hx0, hy0, hs0, hs1⟩ := HMK.out q p
    obtain ⟨w5, hw5⟩ : ∃ w5, w5 = ((w4.alloc (.cells #[.int .i64 q] 3 (0, 0))).alloc (.cells #[.int .i64 p] 3 (0, 0))).drew := ⟨_, rfl⟩
    rw [← hw5] at hb5 hx0 hy0 hs0 hs1 ⊢
    obtain ⟨bp, hbp⟩ : ∃ r, r = w4.heap.size + 1 := ⟨_, rfl⟩
    rw [← hbp] at hy0 hs1 ⊢
    obtain ⟨bq, hbq⟩ : ∃ r, r = w4.heap.size := ⟨_, rfl⟩
    rw [← hbq] at hx0 hs0 ⊢
    have hT := HT.out.next hb5
    have hK := (hb5.cell (p := ⟨bk, 0, none⟩) HKB.out.2).trans HKB.out.1
    have hKl := Nat.lt_of_lt_of_le HKB.out.2 hb5.size
    have HV5 := Lib.hid (show w5.cell? ⟨bp, 0, none⟩ = some (.int .i64 p) ∧ w5.cell? ⟨bq, 0, none⟩ = some (.int .i64 q) ∧ w5.cell? ⟨bk, 0, none⟩ = some (.int .i64 K) ∧ bp < w5.heap.size ∧ bq < w5.heap.size ∧ bk < w5.heap.size from ⟨hy0, hx0, hK, hs1, hs0, hKl⟩)
    clear HT HMK HKB hb5 hx0 hy0 hs0 hs1 hw5 hbq hbp hK hKl
    have HT := Lib.hid hT
    clear hT
    obtain ⟨cp, cq, ck, -, -, -⟩ := HV5.out
    have r0 := HT.out.a0
    have r1 := HT.out.a1
    have r2 := HT.out.b0
    have r3 := HT.out.b1
    have c1 := Nm.common_any a b (p : Int) (q : Int) A B c d w5 (HTX.out w5 HT.out).1 (HTX.out w5 HT.out).2 HT.out.hm
    have HCO := Lib.hid (show Nm.comI a (p : Int) b (q : Int) = Nm.cmn (a.ws.drop p) (b.ws.drop q) from if_pos ⟨HV.out.1, HV.out.2, by omega, by have := HPQ.out.1; omega, by omega, by have := HPQ.out.2; omega⟩)
    rw [HCO.out] at c1
    have hcl := Nm.cmn_le (a.ws.drop p) (b.ws.drop q)
    rw [List.length_drop, List.length_drop] at hcl
    have HN := Lib.hid (show Nm.cmn (a.ws.drop p) (b.ws.drop q) ≤ Nm.cmn (a.ws.drop p) (b.ws.drop q) from Nat.le_refl _)
    generalize hnn : Nm.cmn (a.ws.drop p) (b.ws.drop q) = n at c1 hcl
    have HNE := Lib.hid hnn
    have HNL := Lib.hid (show p + n ≤ a.ws.length ∧ q + n ≤ b.ws.length ∧ a.ws.length ≤ 40 ∧ b.ws.length ≤ 40 from by have := HPQ.out; have := HLN.out; omega)
    clear hcl hnn HCO HN
    go_wp2_with fail
    (with_reducible refine c1.mono ?_); rintro e w6 ⟨rfl, hb⟩
    have hT := HT.out.next hb
    have HV6 := Lib.hid (show w6.cell? ⟨bp, 0, none⟩ = some (.int .i64 p) ∧ w6.cell? ⟨bq, 0, none⟩ = some (.int .i64 q) ∧ w6.cell? ⟨bk, 0, none⟩ = some (.int .i64 K) ∧ bp < w6.heap.size ∧ bq < w6.heap.size ∧ bk < w6.heap.size from ⟨(hb.cell (p := ⟨bp, 0, none⟩) HV5.out.2.2.2.1).trans cp, (hb.cell (p := ⟨bq, 0, none⟩) HV5.out.2.2.2.2.1).trans cq, (hb.cell (p := ⟨bk, 0, none⟩) HV5.out.2.2.2.2.2).trans ck, Nat.lt_of_lt_of_le HV5.out.2.2.2.1 hb.size, Nat.lt_of_lt_of_le HV5.out.2.2.2.2.1 hb.size, Nat.lt_of_lt_of_le HV5.out.2.2.2.2.2 hb.size⟩)
    clear c1 hb r0 r1 r2 r3 cp cq ck HV5 HT
    go_upto_region 8 with (fail)
    obtain ⟨bn, hbn⟩ : ∃ r, r = w6.heap.size := ⟨_, rfl⟩
    obtain ⟨w7, hw7⟩ : ∃ w7, w7 = w6.alloc (.cells #[.int .i64 n] 3 (0, 0)) := ⟨_, rfl⟩
    have hb : Below w6.heap.size w6 w7 := by rw [hw7]; exact (Below.refl _ _).alloc (Nat.le_refl _) _
    have hnw := heap_alloc_new w6 (.cells #[.int .i64 n] 3 (0, 0))
    rw [← hw7, ← hbn] at hnw
    have hT := hT.next hb
    have HCV := Lib.hid (show Cv w7 bp bq bk bn p q K n from ⟨(hb.cell (p := ⟨bp, 0, none⟩) HV6.out.2.2.2.1).trans HV6.out.1, (hb.cell (p := ⟨bq, 0, none⟩) HV6.out.2.2.2.2.1).trans HV6.out.2.1, (hb.cell (p := ⟨bk, 0, none⟩) HV6.out.2.2.2.2.2).trans HV6.out.2.2.1, by rw [cell_of_row _ _ _ _ _ _ hnw]; rfl, Nat.lt_of_lt_of_le HV6.out.2.2.2.1 hb.size, Nat.lt_of_lt_of_le HV6.out.2.2.2.2.1 hb.size, Nat.lt_of_lt_of_le HV6.out.2.2.2.2.2 hb.size, blk_lt hnw⟩)
    rw [← hw7, ← hbn]
    have HT := Lib.hid hT
    clear hw7 hbn hb hnw hT HV6
    have r1 := HT.out.a1
    have r3 := HT.out.b1
    have cp := HCV.out.p
    have cq := HCV.out.q
    have ck := HCV.out.k
    have cn := HCV.out.n
    have c1 := gua_any (K : Int) (N : Int) w7
    obtain ⟨L, hL⟩ : ∃ L, L = K + N - 1 := ⟨_, rfl⟩
    have hg : guaI (K : Int) (N : Int) = (L : Int) ∧ guaE (K : Int) (N : Int) = 0 := by
      have h1 := sz_nat HK.out.1.1 (show K ≤ 1024 by have := HK.out; omega)
      have h2 := sz_nat HK.out.2.1 (show N ≤ 1024 by have := HK.out; omega)
      exact ⟨by unfold guaI; rw [if_pos ⟨h1, h2⟩]; have := HK.out; omega, by unfold guaE; rw [if_pos ⟨h1, h2⟩]⟩
    rw [hg.1, hg.2] at c1
    have HLK := Lib.hid hL
    clear hL hg
    have hnl := HNL.out
    obtain ⟨da, hda⟩ : ∃ da : Nat, da = a.ws.length - p := ⟨_, rfl⟩
    obtain ⟨db, hdb⟩ : ∃ db : Nat, db = b.ws.length - q := ⟨_, rfl⟩
    have x1 : decide ((n : Int) < 0) = false := decide_eq_false (by omega)
    have x4 : IntKind.i64.wrap ((a.ws.length : Int) - (p : Int)) = (da : Int) := by rw [IntKind.wrap_i64]; omega
    have x5 : IntKind.i64.wrap ((b.ws.length : Int) - (q : Int)) = (db : Int) := by rw [IntKind.wrap_i64]; omega
    have x2 : decide ((da : Int) < (n : Int)) = false := decide_eq_false (by omega)
    have x2n : decide (da < n) = false := decide_eq_false (by omega)
    have x3 : decide ((db : Int) < (n : Int)) = false := decide_eq_false (by omega)
    have x3n : decide (db < n) = false := decide_eq_false (by omega)
    clear hda hdb hnl
    go_upto_region 11 with (go_at_call 9; (with_reducible refine c1.mono ?_); rintro e w' ⟨rfl, rfl⟩)
    clear c1 x1 x2 x2n x3 x3n x4 x5
    by_cases hn : n < L
    · have y1 : decide ((n : Int) < (L : Int)) = true := decide_eq_true (by omega)
      have y1n : decide (n < L) = true := decide_eq_true hn
      go_wp2_with fail
      go_ret
      exact ⟨rfl, HT.out.be⟩
    have y1 : decide ((n : Int) < (L : Int)) = false := decide_eq_false (by omega)
    have y1n : decide (n < L) = false := decide_eq_false hn
    have HLN2 := Lib.hid (show L ≤ n by omega)
    clear hn
    have r0 := HT.out.a0
    have r2 := HT.out.b0
    have HB1 := Lib.hid (show 1 ≤ K ∧ K ≤ 1024 ∧ 1 ≤ N ∧ N ≤ 1024 from by have := HK.out; omega)
    have c1 := prints_any a (K : Int) (N : Int) A c w7 (HTX.out w7 HT.out).1 (fun x hx => by have := HS1.out.1 x hx; omega) (by have := HNL.out; omega) HC.out.1 HT.out.hm
    rw [(prL_eq a K N HV.out.1 HB1.out.1 HB1.out.2.1 HB1.out.2.2.1 HB1.out.2.2.2).2] at c1
    obtain ⟨FA, hFA⟩ : ∃ FA, FA = prL a (K : Int) (N : Int) := ⟨_, rfl⟩
    rw [← hFA] at c1
    have HFA := Lib.hid hFA
    clear hFA
    go_wp2_with fail
    (with_reducible refine c1.mono ?_); rintro e w8 ⟨A1, cA, rfl, -, -, hE1, hb⟩
    have hT := HT.out.next hb
    have hCV := HCV.out.next hb
    clear HT HCV c1 r0 r1 r2 r3 cp cq ck cn
    have HT := Lib.hid hT
    have HCV := Lib.hid hCV
    clear hT hCV
    have r0 := HT.out.a0
    have r1 := HT.out.a1
    have r2 := HT.out.b0
    have r3 := HT.out.b1
    have cp := HCV.out.p
    have cq := HCV.out.q
    have ck := HCV.out.k
    have cn := HCV.out.n
    clear hb y1 y1n
    have HE1 := Lib.hid hE1
    clear hE1
    have c1 := prints_any b (K : Int) (N : Int) B d w8 (HTX.out w8 HT.out).2 (fun x hx => by have := HS2.out.1 x hx; omega) (by have := HNL.out; omega) HC.out.2 HT.out.hm
    rw [(prL_eq b K N HV.out.2 HB1.out.1 HB1.out.2.1 HB1.out.2.2.1 HB1.out.2.2.2).2] at c1
    obtain ⟨FB, hFB⟩ : ∃ FB, FB = prL b (K : Int) (N : Int) := ⟨_, rfl⟩
    rw [← hFB] at c1
    have HFB := Lib.hid hFB
    clear hFB
    go_wp2_with fail
    (with_reducible refine c1.mono ?_); rintro e w9 ⟨A2, cB, rfl, -, -, hE2, hb⟩
    have HE2 := Lib.hid (And.intro (HE1.out.next hb) hE2)
    clear hE2 HE1
    have hT := HT.out.next hb
    have hCV := HCV.out.next hb
    clear HT HCV c1 r0 r1 r2 r3 cp cq ck cn
    have HT := Lib.hid hT
    have HCV := Lib.hid hCV
    clear hT hCV
    have r0 := HT.out.a0
    have r1 := HT.out.a1
    have r2 := HT.out.b0
    have r3 := HT.out.b1
    have cp := HCV.out.p
    have cq := HCV.out.q
    have ck := HCV.out.k
    have cn := HCV.out.n
    clear hb
    have HLE := Lib.hid (show FA.length ≤ 40 ∧ FB.length ≤ 40 from ⟨by have := prL_len a K N HV.out.1 HB1.out.1 HB1.out.2.1 HB1.out.2.2.1 HB1.out.2.2.2; rw [← HFA.out] at this; have := HNL.out; omega, by have := prL_len b K N HV.out.2 HB1.out.1 HB1.out.2.1 HB1.out.2.2.1 HB1.out.2.2.2; rw [← HFB.out] at this; have := HNL.out; omega⟩)
    have c1 := shared_any FA FB A1 A2 cA cB w9 HE2.out.1 HE2.out.2 (by have := HLE.out; omega) (by have := HLE.out; omega) (fun x hx => prL_fit a K N HV.out.1 HB1.out.1 HB1.out.2.1 HB1.out.2.2.1 HB1.out.2.2.2 x (by rw [← HFA.out]; exact hx)) (fun x hx => prL_fit b K N HV.out.2 HB1.out.1 HB1.out.2.1 HB1.out.2.2.1 HB1.out.2.2.2 x (by rw [← HFB.out]; exact hx))
    have HSE := Lib.hid (show ordF FA = true ∧ ordF FB = true from ⟨by rw [HFA.out]; exact prL_ord a K N HV.out.1 HB1.out.1 HB1.out.2.1 HB1.out.2.2.1 HB1.out.2.2.2, by rw [HFB.out]; exact prL_ord b K N HV.out.2 HB1.out.1 HB1.out.2.1 HB1.out.2.2.1 HB1.out.2.2.2⟩)
    by_cases hle : (prs FA FB).length ≤ 1024
    case neg =>
      have e1 : shL FA FB = [] := by unfold shL; rw [if_neg (fun h => hle h.2.2)]
      have e2 : shE FA FB = 10 := by unfold shE; rw [if_pos HSE.out, if_neg hle]
      rw [e1, e2] at c1
      clear e1 e2 hle
      go_wp2_with fail
      (with_reducible refine c1.mono ?_); rintro e w10 ⟨A3, cC, rfl, -, -, -, hb⟩
      have HBe := Lib.hid (HT.out.next hb).be
      clear HT hb c1
      go_wp2_with fail
      go_ret
      exact ⟨rfl, HBe.out⟩
    have e1 : shL FA FB = prs FA FB := by unfold shL; rw [if_pos ⟨HSE.out.1, HSE.out.2, hle⟩]
    have e2 : shE FA FB = 0 := by unfold shE; rw [if_pos HSE.out, if_pos hle]
    rw [e1, e2] at c1
    clear e1 e2
    obtain ⟨PS, hPS⟩ : ∃ PS, PS = prs FA FB := ⟨_, rfl⟩
    rw [← hPS] at c1 hle
    have HPS := Lib.hid (And.intro hPS hle)
    clear hPS hle
    go_wp2_with fail
    (with_reducible refine c1.mono ?_); rintro e w10 ⟨A3, cC, rfl, -, -, hE3, hb⟩
    have HE3 := Lib.hid (And.intro (HE2.out.1.next hb) hE3)
    clear hE3 HE2 HSE
    have hT := HT.out.next hb
    have hCV := HCV.out.next hb
    clear HT HCV c1 r0 r1 r2 r3 cp cq ck cn
    have HT := Lib.hid hT
    have HCV := Lib.hid hCV
    clear hT hCV
    have r0 := HT.out.a0
    have r1 := HT.out.a1
    have r2 := HT.out.b0
    have r3 := HT.out.b1
    have cp := HCV.out.p
    have cq := HCV.out.q
    have ck := HCV.out.k
    have cn := HCV.out.n
    clear hb
    obtain ⟨nA, hnA⟩ : ∃ nA, nA = FA.length := ⟨_, rfl⟩
    simp only [← hnA]
    have HNA := Lib.hid hnA
    clear hnA
    have HHIT := Lib.hid (show ∃ kk : Nat, ∃ hkk : kk < PS.length, ∀ u v : Nat, PS[kk] = ⟨(u : Int), (v : Int)⟩ → cpB p q K n u v = true from by
      obtain ⟨z, hz, hmem⟩ := complete_ok a b p q n K N HV.out.1 HV.out.2 HB1.out.1 HB1.out.2.1 HB1.out.2.2.1 HB1.out.2.2.2 (by rw [HNE.out]; exact Nat.le_refl _) HNL.out.1 HNL.out.2.1 (by have := HLK.out; have := HLN2.out; have := HK.out; omega)
      rw [← HFA.out, ← HFB.out, ← HPS.out.1] at hmem
      obtain ⟨kk, hkk, he⟩ := List.getElem_of_mem hmem
      refine ⟨kk, hkk, fun u v h => ?_⟩
      have e := he.symm.trans h
      injection e with e1 e2
      have hu : u = p + z := by omega
      have hv : v = q + z := by omega
      have t1 : (((p + z : Nat) : Int) - (p : Int)) = ((q + z : Nat) : Int) - (q : Int) := by omega
      have t2 : p + z + K ≤ p + n := by have := HLK.out; have := HLN2.out; have := HK.out; omega
      rw [hu, hv]
      unfold cpB
      rw [t1, decide_eq_true (show p ≤ p + z by omega), decide_eq_true t2]
      simp)
    have HNAT := Lib.hid (show ∀ x ∈ PS, ∃ u v : Nat, x = ⟨(u : Int), (v : Int)⟩ ∧ u ≤ 100000 ∧ v ≤ 100000 from fun x hx => prs_nat a b K N HV.out.1 HV.out.2 HB1.out.1 HB1.out.2.1 HB1.out.2.2.1 HB1.out.2.2.2 x (by rw [HPS.out.1, HFA.out, HFB.out] at hx; exact hx))
    clear r0 r2 cp cq cn
    go_wp2_with fail
    go_loopw [164] (fun s wr => ∃ m : Nat, s = .int .i64 m ∧ m ≤ nA ∧ Below w10.heap.size w10 wr) (fun s _ => nA - (intOf s).toNat)
    case atStart => exact ⟨0, rfl, by omega, Below.refl _ _⟩
    case round =>
      obtain ⟨m, rfl, hm, hbw⟩ := hrel
      obtain ⟨w00, rfl⟩ : ∃ x : World, x = wr := ⟨wr, rfl⟩
      by_cases hlt : m < nA
      · have b1 : decide ((m : Int) < (nA : Int)) = true := decide_eq_true (by omega)
        have b1n : decide (m < nA) = true := decide_eq_true hlt
        have y2 : (m : Int) < (nA : Int) := by omega
        have hmA : m < FA.length := by have := HNA.out; omega
        have hmem : FA[m] ∈ FA := List.getElem_mem hmA
        have hmem2 : FA[m] ∈ prL a (K : Int) (N : Int) := (congrArg (fun l => FA[m] ∈ l) HFA.out).mp hmem
        obtain ⟨s, hxe, hsK⟩ := prL_at a K N HV.out.1 HB1.out.1 HB1.out.2.1 HB1.out.2.2.1 HB1.out.2.2.2 FA[m] hmem2
        obtain ⟨gA, oA, rfl, hgA, hcA⟩ := fp_cells HE3.out.1 (by omega)
        obtain ⟨q0, q1⟩ := hcA m hmA
        rw [hxe] at q0 q1
        dsimp only at q0 q1
        have q0 := (hbw.cell (p := ⟨gA, oA + m * 2, none⟩) hgA).trans q0
        have q1 := (hbw.cell (p := ⟨gA, oA + m * 2 + 1, none⟩) hgA).trans q1
        obtain ⟨gg, oo, hAe, -, -, -⟩ := HT.out.ha 0 (by have := HK.out; omega)
        subst hAe
        obtain ⟨hh, hhe⟩ : ∃ hh, hh = Rl.hash (((a.ws.drop s).take K).map (·.tx)) := ⟨_, rfl⟩
        rw [← hhe] at q0
        have hbz : Below w00.heap.size w00 (w00.alloc (.cells #[.int .i64 (hh : Int), .int .i64 (s : Int)] 35 (0, 0))) := (Below.refl _ _).alloc (Nat.le_refl _) _
        have hnw := heap_alloc_new w00 (.cells #[.int .i64 (hh : Int), .int .i64 (s : Int)] 35 (0, 0))
        obtain ⟨v5, hv5⟩ : ∃ v5, v5 = w00.alloc (.cells #[.int .i64 (hh : Int), .int .i64 (s : Int)] 35 (0, 0)) := ⟨_, rfl⟩
        rw [← hv5] at hbz hnw
        have T5 := (HT.out.next hbw).next hbz
        have C5 := (HCV.out.next hbw).next hbz
        have e0 : v5.cell? ⟨w00.heap.size, 0, none⟩ = some (.int .i64 hh) := by rw [cell_of_row _ _ _ _ _ _ hnw]; rfl
        have e1 : v5.cell? ⟨w00.heap.size, 1, none⟩ = some (.int .i64 s) := by rw [cell_of_row _ _ _ _ _ _ hnw]; rfl
        have e2 := C5.k
        have e3 := T5.a1
        have HLT := Lib.hid (show w00.heap.size < v5.heap.size ∧ bk < v5.heap.size ∧ w.heap.size < v5.heap.size from ⟨blk_lt hnw, C5.lk, T5.la⟩)
        have CH := Lib.hid (part_hash (c := c - s) T5.ha HLN.out.1 HS1.out.2 hsK)
        rw [← hhe] at CH
        have HBZ := Lib.hid (hbw.trans (hbz.mono hbw.size))
        have hKK := HK.out
        have hCC := HC.out
        have hLL := HLN.out
        have x1 : decide ((s : Int) < 0) = false := decide_eq_false (by omega)
        have x7 : IntKind.i64.wrap ((s : Int) + (K : Int)) = (s : Int) + (K : Int) := by rw [IntKind.wrap_i64]; omega
        have x8 : decide ((a.ws.length : Int) < (s : Int) + (K : Int)) = false := decide_eq_false (by omega)
        have y1 : (s : Int) + (K : Int) ≤ (c : Int) := by omega
        have y3 : (s : Int) ≤ (s : Int) + (K : Int) := by omega
        have y4 : (0 : Int) ≤ (s : Int) + (K : Int) := by omega
        have y5 : s + K ≤ c := by omega
        have hcs : ¬ c = s := by omega
        have HMX := Lib.hid (show m + 1 ≤ nA ∧ nA ≤ 40 from ⟨hlt, by have := HNA.out; have := HLE.out; omega⟩)
        have hm8 : m ≤ 40 := by have := HMX.out; omega
        clear hmA hmem hmem2 hxe hsK hhe hcA hgA hbw hbz hnw T5 C5 hKK hCC hLL hlt hm r1 r3 ck
        go_upto_region 21 with (fail)
        rw [← hv5]
        clear hv5 q0 q1 b1 b1n y2
        have hbd : Below v5.heap.size v5 v5.drew := ⟨rfl, rfl, rfl, Nat.le_refl _, fun _ _ => rfl⟩
        obtain ⟨hk0, hk1, hk2⟩ := HLT.out
        go_region_held3 (fun w' => w'.cell? ⟨w00.heap.size, 0, none⟩ = some (.int .i64 hh) ∧ w'.cell? ⟨w00.heap.size, 1, none⟩ = some (.int .i64 s) ∧ w'.cell? ⟨bk, 0, none⟩ = some (.int .i64 K) ∧ w'.cell? ⟨w.heap.size, 1, none⟩ = some (.slice (some ⟨gg, oo, none⟩) a.ws.length c)) (first | exact ⟨e0, e1, e2, e3⟩ | exact s0) (first | (go_at_call 15; (with_reducible refine (CH.out _ hbd).mono ?_); rintro e w6 ⟨rfl, hb6⟩; have hb56 := hbd.trans (hb6.mono hbd.size); have s0 := And.intro ((hb56.cell (p := ⟨w00.heap.size, 0, none⟩) hk0).trans e0) (And.intro ((hb56.cell (p := ⟨w00.heap.size, 1, none⟩) hk0).trans e1) (And.intro ((hb56.cell (p := ⟨bk, 0, none⟩) hk1).trans e2) ((hb56.cell (p := ⟨w.heap.size, 1, none⟩) hk2).trans e3)))))
        all_goals
          have HBX := Lib.hid (HBZ.out.trans (hb56.mono HBZ.out.size))
          clear hb56 hb6
          go_wp2_with fail
          go_roundw
          case rel => exact ⟨m + 1, by go_num, HMX.out.1, HBX.out⟩
          case measure => have := HMX.out; simp [intOf]; omega
      · have b1 : decide ((m : Int) < (nA : Int)) = false := decide_eq_false (by omega)
        have b1n : decide (m < nA) = false := decide_eq_false hlt
        obtain ⟨kk, hkk, hhit⟩ := HHIT.out
        have cc := containsCcl_any PS kk A3 cC w00 bp bq bk bn p q K n (HCV.out.next hbw) (HE3.out.2.next hbw) HNAT.out (by have := HPQ.out; have := HLN.out; omega) (by have := HPQ.out; have := HLN.out; omega) (by have := HK.out; omega) (by have := HNL.out; omega) (by have := HPS.out.2; omega) hkk hhit
        have HBe := Lib.hid (HT.out.next hbw).be
        clear hhit hkk HHIT hbw hlt hm
        go_wp2_with fail
        (with_reducible refine cc.mono ?_); rintro e w11 ⟨rfl, hb⟩
        have HBf := Lib.hid (HBe.out.trans (hb.mono HBe.out.size))
        clear cc hb
        go_wp2_with fail
        go_ret
        exact ⟨rfl, HBf.out⟩

end Wn
end Go.Proofs.YtkmldaelgbkfbaaDoor
