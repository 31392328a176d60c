/- The law of equal runs. Condition: bytealg's MaxLen lies in its variable; the lengths. -/
import Derived.Test.YthdokajpiflcoaaDoorLaw
import Derived.Test.YthdokajpiflcoaaDoorNco
import Derived.Deep.RegionHeld3
namespace Go.Proofs.YthdokajpiflcoaaDoor
open Go.RowKit Go.Deep Tr
/-- Words of the one layer as words of the other. -/
def rlx (l : List Nm.Lx) : List Rl.Lx := l.map fun x => ⟨x.tx, x.ln⟩
theorem rlx_len (l : List Nm.Lx) : (rlx l).length = l.length := List.length_map _
theorem rlx_get (l : List Nm.Lx) (j : Nat) (h : j < (rlx l).length) (h' : j < l.length) : (rlx l)[j] = ⟨l[j].tx, l[j].ln⟩ := by simp [rlx]
theorem rlx_at {w : World} {B : Nat} {A : Option Addr} {l : List Nm.Lx} (h : Nm.LxAt w B A l) : Rl.LxAt w B A (rlx l) := fun j hj => by
  have hj' := hj
  rw [rlx_len] at hj'
  obtain ⟨g, o, e, hg, h0, h1⟩ := h j hj'
  rw [rlx_get l j hj hj']
  exact ⟨g, o, e, hg, h0, h1⟩
theorem rlx_part (l : List Nm.Lx) (a n : Nat) : rlx ((l.drop a).take n) = ((rlx l).drop a).take n := by unfold rlx; rw [List.map_take, List.map_drop]
theorem txs_rlx (l : List Nm.Lx) : Rl.txs (rlx l) = l.map (·.tx) := by unfold Rl.txs rlx; rw [List.map_map]; rfl
theorem few_sht {l : List Nm.Lx} (h : ∀ x ∈ rlx l, (Rl.str x.tx).size ≤ 40) : Nm.Sht l ∧ Rl.Sht (rlx l) := by
  have h2 : Rl.Sht (rlx l) := fun x hx => by have := h x hx; rw [Rl.str_size] at this; omega
  exact ⟨fun x hx => h2 ⟨x.tx, x.ln⟩ (List.mem_map.2 ⟨x, hx, rfl⟩), h2⟩
/-- Equal words have equal texts. -/
theorem cmn_txs : ∀ (a b : List Nm.Lx) n, n ≤ Nm.cmn a b → (a.take n).map (·.tx) = (b.take n).map (·.tx)
  | _, _, 0, _ => by simp
  | [], _, n + 1, h => by simp [Nm.cmn] at h
  | _ :: _, [], n + 1, h => by simp [Nm.cmn] at h
  | x :: r, y :: s, n + 1, h => by
    unfold Nm.cmn at h
    split at h
    · rename_i e
      rw [List.take_succ_cons, List.take_succ_cons, List.map_cons, List.map_cons, e, cmn_txs r s n (by omega)]
    · omega
theorem com_bounds (a : Nm.Txt) (p : Nat) (b : Nm.Txt) (q : Nat) : Nm.comI a p b q ≤ a.ws.length - p ∧ Nm.comI a p b q ≤ b.ws.length - q ∧ ∀ n, n ≤ Nm.comI a p b q → Rl.hash (Rl.txs (rlx ((a.ws.drop p).take n))) = Rl.hash (Rl.txs (rlx ((b.ws.drop q).take n))) := by
  unfold Nm.comI
  split
  · have h := Nm.cmn_le (a.ws.drop p) (b.ws.drop q)
    rw [List.length_drop, List.length_drop] at h
    refine ⟨h.1, h.2, fun n hn => ?_⟩
    rw [txs_rlx, txs_rlx]
    exact congrArg Rl.hash (cmn_txs _ _ n hn)
  · refine ⟨by omega, by omega, fun n hn => ?_⟩
    obtain rfl : n = 0 := by omega
    simp
/-- What the law asks of a part, whatever its slice looks like. -/
def PartH (l : List Nm.Lx) (A : Option Addr) (c p n : Nat) (w1 : World) : Prop :=
  ∀ W, Below w1.heap.size w1 W → Calls Tryd.prog 7 #[.slice A (((p : Int) + (n : Int)).toNat - p) c] W fun e w' => e = .returned (.int .i64 (Rl.hash (Rl.txs (rlx ((l.drop p).take n))) : Int)) ∧ Below W.heap.size W w'
theorem parth_some {l : List Nm.Lx} {g o c p n : Nat} {w1 : World} (hA : Nm.LxAt w1 w1.heap.size (some ⟨g, o, none⟩) l) (hl : l.length ≤ 40) (hs : Rl.Sht (rlx l)) (hp : p + n ≤ l.length) : PartH l (some ⟨g, o + p * 2, none⟩) c p n w1 := fun W hb => by
  rw [rlx_part]
  have hz : ((p : Int) + (n : Int)).toNat - p = n := by omega
  rw [hz]
  have e : (((rlx l).drop p).take n).length = n := by rw [List.length_take, List.length_drop, rlx_len]; omega
  have h := Rl.hash_any (((rlx l).drop p).take n) (some ⟨g, o + p * 2, none⟩) c W ((rlx_at (hA.next hb)).part p n) (by omega) (fun x hx => hs x (List.mem_of_mem_drop (List.mem_of_mem_take hx)))
  rw [e] at h
  exact h
/-- The same of an empty part. -/
def PartZ (l : List Nm.Lx) (A : Option Addr) (p n : Nat) (w1 : World) : Prop :=
  ∀ W, Below w1.heap.size w1 W → Calls Tryd.prog 7 #[.slice A 0 0] W fun e W' => e = .returned (.int .i64 (Rl.hash (Rl.txs (rlx ((l.drop p).take n))) : Int)) ∧ Below W.heap.size W W'
theorem partz {l : List Nm.Lx} {A : Option Addr} {p n : Nat} {w1 : World} (hn : n = 0) : PartZ l A p n w1 := fun W _ => by
  subst hn
  rw [List.take_zero]
  exact Rl.hash_any [] A 0 W (Rl.LxAt.nil _ _ _) (by decide) (fun x hx => by cases hx)
theorem parth_nil {l : List Nm.Lx} {A : Option Addr} {c p n : Nat} {w1 : World} (hn : n = 0) : PartH l A c p n w1 := fun W _ => by
  subst hn
  have hz : ((p : Int) + ((0 : Nat) : Int)).toNat - p = 0 := by omega
  rw [hz, List.take_zero]
  exact Rl.hash_any [] A c W (Rl.LxAt.nil _ _ _) (by decide) (fun x hx => by cases hx)
set_option maxHeartbeats 8000000 in
set_option maxRecDepth 100000 in
theorem equal_law (a b : Nm.Txt) (i j k : Nat) (A B : Option Addr) (c d : Nat) (w : World) (hA : Nm.LxAt w w.heap.size A a.ws) (hB : Nm.LxAt w w.heap.size B b.ws) (hM : MaxAt w)
    (hla : a.ws.length ≤ 5864062014634) (hlb : b.ws.length ≤ 5864062014634) (hca : a.ws.length ≤ c) (hcb : b.ws.length ≤ d) (hna : A = none → c = 0) (hnb : B = none → d = 0) (hi : i ≤ 255) (hj : j ≤ 255) (hk : k ≤ 255) :
    Calls Tryd.prog 3 #[Nm.txV A c a, Nm.txV B d b, .int .u8 (i : Int), .int .u8 (j : Int), .int .u8 (k : Int)] w fun e w' => e = .returned (.bool true) ∧ Below w.heap.size w w' := by
  obtain ⟨W1, hW1⟩ : ∃ W1, W1 = w.alloc (Nm.txO A a.ws.length c (str a.pth)) := ⟨_, rfl⟩
  have hG1 : W1.heap[w.heap.size]? = some (Nm.txO A a.ws.length c (str a.pth)) := by rw [hW1]; exact heap_alloc_new _ _
  have hb1 : Below w.heap.size w W1 := by rw [hW1]; exact (Below.refl _ _).alloc (Nat.le_refl _) _
  obtain ⟨W2, hW2⟩ : ∃ W2, W2 = W1.alloc (Nm.txO B b.ws.length d (str b.pth)) := ⟨_, rfl⟩
  have hG2 : W2.heap[W1.heap.size]? = some (Nm.txO B b.ws.length d (str b.pth)) := by rw [hW2]; exact heap_alloc_new _ _
  have hb2 : Below W1.heap.size W1 W2 := by rw [hW2]; exact (Below.refl _ _).alloc (Nat.le_refl _) _
  have hb02 := hb1.trans (hb2.mono hb1.size)
  have hG12 := (hb2.block _ (Nm.blk_lt hG1)).trans hG1
  have hsz : W1.heap.size = w.heap.size + 1 := by rw [hW1]; simp
  have HA2 := Lib.hid (hA.next hb02)
  have HB2 := Lib.hid (hB.next hb02)
  have HM2 := Lib.hid (hM.below hb02)
  have HBW := Lib.hid hb02
  obtain ⟨p0, p1⟩ := Nm.cells2 hG12
  obtain ⟨p2, p3⟩ := Nm.cells2 hG2
  rw [hsz] at p2 p3
  have HQ1 := Lib.hid (Nm.blk_lt hG12)
  have HQ2 := Lib.hid (show w.heap.size + 1 < W2.heap.size by rw [← hsz]; exact Nm.blk_lt hG2)
  have hWW : W2 = (w.alloc (.cells #[.string (str a.pth), .slice A a.ws.length c] 24 (0, 0))).alloc (.cells #[.string (str b.pth), .slice B b.ws.length d] 24 (0, 0)) := by rw [hW2, hW1]; rfl
  have c0 := Rl.awake_any W2
  have u1 := Rl.wr_nat (n := i) (by omega)
  have u2 := Rl.wr64_nat (n := i) (by omega)
  have u3 := Rl.wr_nat (n := j) (by omega)
  have u4 := Rl.wr64_nat (n := j) (by omega)
  have u5 := Rl.wr_nat (n := k) (by omega)
  have u6 := Rl.wr64_nat (n := k) (by omega)
  have HC := Lib.hid (show a.ws.length ≤ c ∧ b.ws.length ≤ d from ⟨hca, hcb⟩)
  have HL := Lib.hid (show a.ws.length ≤ 5864062014634 ∧ b.ws.length ≤ 5864062014634 from ⟨hla, hlb⟩)
  have HNA := Lib.hid hna
  have HNB := Lib.hid hnb
  clear hA hB hM hb1 hb2 hb02 hG1 hG12 hG2 hsz hW1 hW2 hca hcb hla hlb hna hnb hi hj hk
  go_enter Tryd.func3, Tryd.ntmps3
  go_upto_region 1 with (fail)
  rw [← hWW]
  clear hWW
  go_wp2_with fail
  (with_reducible refine c0.mono ?_); rintro e w3 ⟨rfl, hb⟩
  have HA3 := Lib.hid (HA2.out.next hb)
  have HB3 := Lib.hid (HB2.out.next hb)
  have HM3 := Lib.hid (HM2.out.below hb)
  have HB03 := Lib.hid (HBW.out.trans (hb.mono HBW.out.size))
  have r0 := (hb.cell (p := ⟨w.heap.size, 0, none⟩) HQ1.out).trans p0
  have r1 := (hb.cell (p := ⟨w.heap.size, 1, none⟩) HQ1.out).trans p1
  have r2 := (hb.cell (p := ⟨w.heap.size + 1, 0, none⟩) HQ2.out).trans p2
  have r3 := (hb.cell (p := ⟨w.heap.size + 1, 1, none⟩) HQ2.out).trans p3
  have HQ3 := Lib.hid (Nat.lt_of_lt_of_le HQ1.out hb.size)
  have HQ4 := Lib.hid (Nat.lt_of_lt_of_le HQ2.out hb.size)
  clear hb c0 p0 p1 p2 p3
  have c1 := Rl.few_any (rlx a.ws) A c w3 (rlx_at HA3.out) (by rw [rlx_len]; have := HL.out; omega)
  rw [rlx_len] at c1
  go_wp2_with fail
  (with_reducible refine c1.mono ?_); rintro e w' ⟨f1, rfl, hf1, rfl⟩
  clear c1
  cases f1 with
  | false =>
    clear hf1
    go_wp2_with fail
    go_ret
    exact ⟨rfl, HB03.out⟩
  | true =>
  obtain ⟨hl1, hx1⟩ := hf1 rfl
  have HS1 := Lib.hid (few_sht hx1)
  clear hf1 hx1
  have c2 := Rl.few_any (rlx b.ws) B d w3 (rlx_at HB3.out) (by rw [rlx_len]; have := HL.out; omega)
  rw [rlx_len] at c2
  go_wp2_with fail
  (with_reducible refine c2.mono ?_); rintro e w' ⟨f2, rfl, hf2, rfl⟩
  clear c2
  cases f2 with
  | false =>
    clear hf2
    go_wp2_with fail
    go_ret
    exact ⟨rfl, HB03.out⟩
  | true =>
  obtain ⟨hl2, hx2⟩ := hf2 rfl
  have HS2 := Lib.hid (few_sht hx2)
  clear hf2 hx2
  by_cases t1 : 200 < (str a.pth).size
  · have d1 : decide ((200 : Int) < ((str a.pth).size : Int)) = true := decide_eq_true (by omega)
    have d1n : decide (200 < (str a.pth).size) = true := decide_eq_true t1
    generalize str a.pth = sa at *
    clear t1
    go_wp2_with fail
    go_ret
    exact ⟨rfl, HB03.out⟩
  have d1 : decide ((200 : Int) < ((str a.pth).size : Int)) = false := decide_eq_false (by omega)
  have d1n : decide (200 < (str a.pth).size) = false := decide_eq_false t1
  by_cases t2 : 200 < (str b.pth).size
  · have d2 : decide ((200 : Int) < ((str b.pth).size : Int)) = true := decide_eq_true (by omega)
    have d2n : decide (200 < (str b.pth).size) = true := decide_eq_true t2
    clear t1 t2
    go_wp2_with fail
    go_ret
    exact ⟨rfl, HB03.out⟩
  have d2 : decide ((200 : Int) < ((str b.pth).size : Int)) = false := decide_eq_false (by omega)
  have d2n : decide (200 < (str b.pth).size) = false := decide_eq_false t2
  have HTA := Lib.hid (show a.pth.length ≤ 1000000000 ∧ b.pth.length ≤ 1000000000 by rw [str_size] at t1 t2; omega)
  obtain ⟨p, hp⟩ : ∃ p, p = i % (a.ws.length + 1) := ⟨_, rfl⟩
  obtain ⟨q, hq⟩ : ∃ q, q = j % (b.ws.length + 1) := ⟨_, rfl⟩
  have hpl : p ≤ a.ws.length := by have := Nat.mod_lt i (show 0 < a.ws.length + 1 by omega); omega
  have hql : q ≤ b.ws.length := by have := Nat.mod_lt j (show 0 < b.ws.length + 1 by omega); omega
  have v1 : IntKind.i64.wrap ((a.ws.length : Int) + 1) = (a.ws.length : Int) + 1 := by rw [IntKind.wrap_i64]; omega
  have v2 : IntKind.i64.wrap ((b.ws.length : Int) + 1) = (b.ws.length : Int) + 1 := by rw [IntKind.wrap_i64]; omega
  have m1 : (i : Int) % ((a.ws.length : Int) + 1) = (p : Int) := by rw [hp]; rfl
  have m1t : ((i : Int)).tmod ((a.ws.length : Int) + 1) = (p : Int) := by rw [Int.tmod_eq_emod_of_nonneg (by omega)]; exact m1
  have m2 : (j : Int) % ((b.ws.length : Int) + 1) = (q : Int) := by rw [hq]; rfl
  have m2t : ((j : Int)).tmod ((b.ws.length : Int) + 1) = (q : Int) := by rw [Int.tmod_eq_emod_of_nonneg (by omega)]; exact m2
  have z1 : ((a.ws.length : Int) + 1 == 0) = false := by rw [beq_eq_false_iff_ne]; omega
  have z2 : ((b.ws.length : Int) + 1 == 0) = false := by rw [beq_eq_false_iff_ne]; omega
  have z3 : ¬ ((a.ws.length : Int) + 1 = 0) := by omega
  have z4 : ¬ ((b.ws.length : Int) + 1 = 0) := by omega
  clear hp hq t1 t2
  go_wp2_with fail
  go_quiet (fail)
  have hbn : Below w3.heap.size w3 (w3.drewN nq) := Nm.below_drewN w3 nq
  obtain ⟨w4, hw4⟩ : ∃ w4, w4 = w3.drewN nq := ⟨_, rfl⟩
  rw [← hw4] at hbn ⊢
  clear hw4
  have HA4 := Lib.hid (HA3.out.next hbn)
  have HB4 := Lib.hid (HB3.out.next hbn)
  have HM4 := Lib.hid (HM3.out.below hbn)
  have HB04 := Lib.hid (HB03.out.trans (hbn.mono HB03.out.size))
  have s0 := (hbn.cell (p := ⟨w.heap.size, 0, none⟩) HQ3.out).trans r0
  have s1 := (hbn.cell (p := ⟨w.heap.size, 1, none⟩) HQ3.out).trans r1
  have s2 := (hbn.cell (p := ⟨w.heap.size + 1, 0, none⟩) HQ4.out).trans r2
  have s3 := (hbn.cell (p := ⟨w.heap.size + 1, 1, none⟩) HQ4.out).trans r3
  have HQ5 := Lib.hid (Nat.lt_of_lt_of_le HQ3.out hbn.size)
  have HQ6 := Lib.hid (Nat.lt_of_lt_of_le HQ4.out hbn.size)
  clear hbn r0 r1 r2 r3
  have c3 := Nm.common_any a b (p : Int) (q : Int) A B c d w4 ⟨HA4.out, HS1.out.1, HTA.out.1, HL.out.1⟩ ⟨HB4.out, HS2.out.1, HTA.out.2, HL.out.2⟩ HM4.out
  have hcb := com_bounds a p b q
  have HHH := Lib.hid hcb.2.2
  have hn1 := hcb.1
  have hn2 := hcb.2.1
  clear hcb
  generalize Nm.comI a (p : Int) b (q : Int) = n at *
  go_wp2_with fail
  (with_reducible refine c3.mono ?_); rintro e w5 ⟨rfl, hb⟩
  have HA5 := Lib.hid (HA4.out.next hb)
  have HB5 := Lib.hid (HB4.out.next hb)
  have HB05 := Lib.hid (HB04.out.trans (hb.mono HB04.out.size))
  have e1 := (hb.cell (p := ⟨w.heap.size, 1, none⟩) HQ5.out).trans s1
  have e3 := (hb.cell (p := ⟨w.heap.size + 1, 1, none⟩) HQ6.out).trans s3
  have HQ7 := Lib.hid (Nat.lt_of_lt_of_le HQ5.out hb.size)
  have HQ8 := Lib.hid (Nat.lt_of_lt_of_le HQ6.out hb.size)
  clear hb c3 s0 s1 s2 s3
  have x1 : decide ((n : Int) < 0) = false := decide_eq_false (by omega)
  have x2 : decide ((a.ws.length : Int) - (p : Int) < (n : Int)) = false := decide_eq_false (by omega)
  have x3 : decide ((b.ws.length : Int) - (q : Int) < (n : Int)) = false := decide_eq_false (by omega)
  have x4 : IntKind.i64.wrap ((a.ws.length : Int) - (p : Int)) = (a.ws.length : Int) - (p : Int) := by rw [IntKind.wrap_i64]; omega
  have x5 : IntKind.i64.wrap ((b.ws.length : Int) - (q : Int)) = (b.ws.length : Int) - (q : Int) := by rw [IntKind.wrap_i64]; omega
  obtain ⟨N, hN⟩ : ∃ N, N = min n k := ⟨_, rfl⟩
  have x6 : min (n : Int) (k : Int) = (N : Int) := by omega
  have hNn : N ≤ n := by omega
  have HEQ := Lib.hid (HHH.out N hNn)
  have hpN : p + N ≤ a.ws.length := by omega
  have hqN : q + N ≤ b.ws.length := by omega
  have x7 : IntKind.i64.wrap ((p : Int) + (N : Int)) = (p : Int) + (N : Int) := by rw [IntKind.wrap_i64]; omega
  have x8 : IntKind.i64.wrap ((q : Int) + (N : Int)) = (q : Int) + (N : Int) := by rw [IntKind.wrap_i64]; omega
  have HCC := HC.out
  have y1 : (p : Int) + (N : Int) ≤ (c : Int) := by omega
  have y2 : (p : Int) ≤ (p : Int) + (N : Int) := by omega
  have y3 : (0 : Int) ≤ (p : Int) + (N : Int) := by omega
  have y4 : p + N ≤ c := by omega
  have y5 : (q : Int) + (N : Int) ≤ (d : Int) := by omega
  have y6 : (q : Int) ≤ (q : Int) + (N : Int) := by omega
  have y7 : (0 : Int) ≤ (q : Int) + (N : Int) := by omega
  have y8 : q + N ≤ d := by omega
  have sideA : (¬ c = p ∧ ∃ a0 : Addr, A = some a0 ∧ PartH a.ws (some (a0.add (p * 2))) (c - p) p N w5) ∨ (c = p ∧ (∃ a0 : Addr, A = some a0) ∧ PartZ a.ws A p N w5) ∨ (A = none ∧ c = 0 ∧ p = 0 ∧ N = 0 ∧ PartZ a.ws none p N w5) := by
    cases A with
    | none => have := HNA.out rfl; exact .inr (.inr ⟨rfl, this, by omega, by omega, partz (by omega)⟩)
    | some a0 =>
      by_cases hcp : c = p
      · exact .inr (.inl ⟨hcp, ⟨a0, rfl⟩, partz (by omega)⟩)
      · refine .inl ⟨hcp, a0, rfl, ?_⟩
        by_cases h0 : a.ws.length = 0
        · exact parth_nil (by omega)
        · obtain ⟨g, o, e, -, -, -⟩ := HA5.out 0 (by omega)
          cases e
          rw [Nm.addr_addS]
          exact parth_some HA5.out hl1 HS1.out.2 hpN
  have sideB : (¬ d = q ∧ ∃ a0 : Addr, B = some a0 ∧ PartH b.ws (some (a0.add (q * 2))) (d - q) q N w5) ∨ (d = q ∧ (∃ a0 : Addr, B = some a0) ∧ PartZ b.ws B q N w5) ∨ (B = none ∧ d = 0 ∧ q = 0 ∧ N = 0 ∧ PartZ b.ws none q N w5) := by
    cases B with
    | none => have := HNB.out rfl; exact .inr (.inr ⟨rfl, this, by omega, by omega, partz (by omega)⟩)
    | some a0 =>
      by_cases hcp : d = q
      · exact .inr (.inl ⟨hcp, ⟨a0, rfl⟩, partz (by omega)⟩)
      · refine .inl ⟨hcp, a0, rfl, ?_⟩
        by_cases h0 : b.ws.length = 0
        · exact parth_nil (by omega)
        · obtain ⟨g, o, e, -, -, -⟩ := HB5.out 0 (by omega)
          cases e
          rw [Nm.addr_addS]
          exact parth_some HB5.out hl2 HS2.out.2 hqN
  unfold PartH PartZ at sideA sideB
  generalize Rl.hash (Rl.txs (rlx ((b.ws.drop q).take N))) = hh at *
  rw [HEQ.out] at sideA
  have HSA := Lib.hid sideA
  have HSB := Lib.hid sideB
  clear sideA sideB hn1 hn2 hNn hpN hqN hN HCC hl1 hl2 hpl hql HEQ HHH HNA HNB
  go_upto_region 10 with (fail)
  have hbd : Below w5.heap.size w5 w5.drew := ⟨rfl, rfl, rfl, Nat.le_refl _, fun _ _ => rfl⟩
  have hq7 := HQ7.out
  have hq8 := HQ8.out
  rcases HSA.out with ⟨hcp, a0, rfl, ca⟩ | ⟨hcp, ⟨a0, rfl⟩, ca⟩ | ⟨rfl, hc0, hp0, hN0, ca⟩
  · skip
    
    rcases HSB.out with ⟨hdq, b0, rfl, cb⟩ | ⟨hdq, ⟨b0, rfl⟩, cb⟩ | ⟨rfl, hd0, hq0, hN1, cb⟩
    · skip
      have CA := Lib.hid ca
      have CB := Lib.hid cb
      clear ca cb HSA HSB
      go_region_held3 (fun w' => w'.cell? ⟨w.heap.size, 1, none⟩ = some (.slice (some a0) a.ws.length c) ∧ w'.cell? ⟨w.heap.size + 1, 1, none⟩ = some (.slice (some b0) b.ws.length d)) (first | exact ⟨e1, e3⟩ | exact s0) (first | (go_at_call 7; (with_reducible refine (CA.out _ hbd).mono ?_); rintro e w6 ⟨rfl, hb6⟩; have hb56 := hbd.trans (hb6.mono hbd.size); have s0 := And.intro ((hb56.cell (p := ⟨w.heap.size, 1, none⟩) hq7).trans e1) ((hb56.cell (p := ⟨w.heap.size + 1, 1, none⟩) hq8).trans e3)) | (go_at_call 7; (with_reducible refine (CB.out _ hb56).mono ?_); rintro e w7 ⟨rfl, hb7⟩; have hb57 := hb56.trans (hb7.mono hb56.size); have s0 := And.intro ((hb57.cell (p := ⟨w.heap.size, 1, none⟩) hq7).trans e1) ((hb57.cell (p := ⟨w.heap.size + 1, 1, none⟩) hq8).trans e3)))
      all_goals
        have HB07 := Lib.hid (HB05.out.trans (hb57.mono HB05.out.size))
        clear hb57 hb56 hb6 hb7
        go_wp2_with fail
        go_ret
        exact ⟨rfl, HB07.out⟩
    · skip
      subst hdq
      have y9 : d - d = 0 := Nat.sub_self d
      have CA := Lib.hid ca
      have CB := Lib.hid cb
      clear ca cb HSA HSB
      go_region_held3 (fun w' => w'.cell? ⟨w.heap.size, 1, none⟩ = some (.slice (some a0) a.ws.length c) ∧ w'.cell? ⟨w.heap.size + 1, 1, none⟩ = some (.slice (some b0) b.ws.length d)) (first | exact ⟨e1, e3⟩ | exact s0) (first | (go_at_call 7; (with_reducible refine (CA.out _ hbd).mono ?_); rintro e w6 ⟨rfl, hb6⟩; have hb56 := hbd.trans (hb6.mono hbd.size); have s0 := And.intro ((hb56.cell (p := ⟨w.heap.size, 1, none⟩) hq7).trans e1) ((hb56.cell (p := ⟨w.heap.size + 1, 1, none⟩) hq8).trans e3)) | (go_at_call 7; (with_reducible refine (CB.out _ hb56).mono ?_); rintro e w7 ⟨rfl, hb7⟩; have hb57 := hb56.trans (hb7.mono hb56.size); have s0 := And.intro ((hb57.cell (p := ⟨w.heap.size, 1, none⟩) hq7).trans e1) ((hb57.cell (p := ⟨w.heap.size + 1, 1, none⟩) hq8).trans e3)))
      all_goals
        have HB07 := Lib.hid (HB05.out.trans (hb57.mono HB05.out.size))
        clear hb57 hb56 hb6 hb7
        go_wp2_with fail
        go_ret
        exact ⟨rfl, HB07.out⟩
    · skip
      subst hd0 hq0
      have hz1 : b.ws.length = 0 := by have := HC.out; omega
      rw [hz1] at e3
      clear hz1
      subst hN1
      have hz5 : ((p : Int) + ((0 : Nat) : Int)).toNat - p = 0 := by omega
      rw [hz5] at ca
      clear hz5
      simp only [show ((0 : Nat) : Int) = 0 from rfl, Int.add_zero] at x7 x8 y1 y2 y3 y5 y6 y7 ⊢
      have CA := Lib.hid ca
      have CB := Lib.hid cb
      clear ca cb HSA HSB
      go_region_held3 (fun w' => w'.cell? ⟨w.heap.size, 1, none⟩ = some (.slice (some a0) a.ws.length c) ∧ w'.cell? ⟨w.heap.size + 1, 1, none⟩ = some (.slice none 0 0)) (first | exact ⟨e1, e3⟩ | exact s0) (first | (go_at_call 7; (with_reducible refine (CA.out _ hbd).mono ?_); rintro e w6 ⟨rfl, hb6⟩; have hb56 := hbd.trans (hb6.mono hbd.size); have s0 := And.intro ((hb56.cell (p := ⟨w.heap.size, 1, none⟩) hq7).trans e1) ((hb56.cell (p := ⟨w.heap.size + 1, 1, none⟩) hq8).trans e3)) | (go_at_call 7; (with_reducible refine (CB.out _ hb56).mono ?_); rintro e w7 ⟨rfl, hb7⟩; have hb57 := hb56.trans (hb7.mono hb56.size); have s0 := And.intro ((hb57.cell (p := ⟨w.heap.size, 1, none⟩) hq7).trans e1) ((hb57.cell (p := ⟨w.heap.size + 1, 1, none⟩) hq8).trans e3)))
      all_goals
        have HB07 := Lib.hid (HB05.out.trans (hb57.mono HB05.out.size))
        clear hb57 hb56 hb6 hb7
        go_wp2_with fail
        go_ret
        exact ⟨rfl, HB07.out⟩
  · skip
    subst hcp
    have y10 : c - c = 0 := Nat.sub_self c
    rcases HSB.out with ⟨hdq, b0, rfl, cb⟩ | ⟨hdq, ⟨b0, rfl⟩, cb⟩ | ⟨rfl, hd0, hq0, hN1, cb⟩
    · skip
      have CA := Lib.hid ca
      have CB := Lib.hid cb
      clear ca cb HSA HSB
      go_region_held3 (fun w' => w'.cell? ⟨w.heap.size, 1, none⟩ = some (.slice (some a0) a.ws.length c) ∧ w'.cell? ⟨w.heap.size + 1, 1, none⟩ = some (.slice (some b0) b.ws.length d)) (first | exact ⟨e1, e3⟩ | exact s0) (first | (go_at_call 7; (with_reducible refine (CA.out _ hbd).mono ?_); rintro e w6 ⟨rfl, hb6⟩; have hb56 := hbd.trans (hb6.mono hbd.size); have s0 := And.intro ((hb56.cell (p := ⟨w.heap.size, 1, none⟩) hq7).trans e1) ((hb56.cell (p := ⟨w.heap.size + 1, 1, none⟩) hq8).trans e3)) | (go_at_call 7; (with_reducible refine (CB.out _ hb56).mono ?_); rintro e w7 ⟨rfl, hb7⟩; have hb57 := hb56.trans (hb7.mono hb56.size); have s0 := And.intro ((hb57.cell (p := ⟨w.heap.size, 1, none⟩) hq7).trans e1) ((hb57.cell (p := ⟨w.heap.size + 1, 1, none⟩) hq8).trans e3)))
      all_goals
        have HB07 := Lib.hid (HB05.out.trans (hb57.mono HB05.out.size))
        clear hb57 hb56 hb6 hb7
        go_wp2_with fail
        go_ret
        exact ⟨rfl, HB07.out⟩
    · skip
      subst hdq
      have y9 : d - d = 0 := Nat.sub_self d
      have CA := Lib.hid ca
      have CB := Lib.hid cb
      clear ca cb HSA HSB
      go_region_held3 (fun w' => w'.cell? ⟨w.heap.size, 1, none⟩ = some (.slice (some a0) a.ws.length c) ∧ w'.cell? ⟨w.heap.size + 1, 1, none⟩ = some (.slice (some b0) b.ws.length d)) (first | exact ⟨e1, e3⟩ | exact s0) (first | (go_at_call 7; (with_reducible refine (CA.out _ hbd).mono ?_); rintro e w6 ⟨rfl, hb6⟩; have hb56 := hbd.trans (hb6.mono hbd.size); have s0 := And.intro ((hb56.cell (p := ⟨w.heap.size, 1, none⟩) hq7).trans e1) ((hb56.cell (p := ⟨w.heap.size + 1, 1, none⟩) hq8).trans e3)) | (go_at_call 7; (with_reducible refine (CB.out _ hb56).mono ?_); rintro e w7 ⟨rfl, hb7⟩; have hb57 := hb56.trans (hb7.mono hb56.size); have s0 := And.intro ((hb57.cell (p := ⟨w.heap.size, 1, none⟩) hq7).trans e1) ((hb57.cell (p := ⟨w.heap.size + 1, 1, none⟩) hq8).trans e3)))
      all_goals
        have HB07 := Lib.hid (HB05.out.trans (hb57.mono HB05.out.size))
        clear hb57 hb56 hb6 hb7
        go_wp2_with fail
        go_ret
        exact ⟨rfl, HB07.out⟩
    · skip
      subst hd0 hq0
      have hz1 : b.ws.length = 0 := by have := HC.out; omega
      rw [hz1] at e3
      clear hz1
      subst hN1
      simp only [show ((0 : Nat) : Int) = 0 from rfl, Int.add_zero] at x7 x8 y1 y2 y3 y5 y6 y7 ⊢
      have CA := Lib.hid ca
      have CB := Lib.hid cb
      clear ca cb HSA HSB
      go_region_held3 (fun w' => w'.cell? ⟨w.heap.size, 1, none⟩ = some (.slice (some a0) a.ws.length c) ∧ w'.cell? ⟨w.heap.size + 1, 1, none⟩ = some (.slice none 0 0)) (first | exact ⟨e1, e3⟩ | exact s0) (first | (go_at_call 7; (with_reducible refine (CA.out _ hbd).mono ?_); rintro e w6 ⟨rfl, hb6⟩; have hb56 := hbd.trans (hb6.mono hbd.size); have s0 := And.intro ((hb56.cell (p := ⟨w.heap.size, 1, none⟩) hq7).trans e1) ((hb56.cell (p := ⟨w.heap.size + 1, 1, none⟩) hq8).trans e3)) | (go_at_call 7; (with_reducible refine (CB.out _ hb56).mono ?_); rintro e w7 ⟨rfl, hb7⟩; have hb57 := hb56.trans (hb7.mono hb56.size); have s0 := And.intro ((hb57.cell (p := ⟨w.heap.size, 1, none⟩) hq7).trans e1) ((hb57.cell (p := ⟨w.heap.size + 1, 1, none⟩) hq8).trans e3)))
      all_goals
        have HB07 := Lib.hid (HB05.out.trans (hb57.mono HB05.out.size))
        clear hb57 hb56 hb6 hb7
        go_wp2_with fail
        go_ret
        exact ⟨rfl, HB07.out⟩
  · skip
    subst hc0 hp0 hN0
    have hz0 : a.ws.length = 0 := by have := HC.out; omega
    rw [hz0] at e1
    clear hz0
    simp only [show ((0 : Nat) : Int) = 0 from rfl, Int.add_zero] at x7 x8 y1 y2 y3 y5 y6 y7 ⊢
    rcases HSB.out with ⟨hdq, b0, rfl, cb⟩ | ⟨hdq, ⟨b0, rfl⟩, cb⟩ | ⟨rfl, hd0, hq0, hN1, cb⟩
    · skip
      have hz5 : ((q : Int) + ((0 : Nat) : Int)).toNat - q = 0 := by omega
      rw [hz5] at cb
      clear hz5
      have CA := Lib.hid ca
      have CB := Lib.hid cb
      clear ca cb HSA HSB
      go_region_held3 (fun w' => w'.cell? ⟨w.heap.size, 1, none⟩ = some (.slice none 0 0) ∧ w'.cell? ⟨w.heap.size + 1, 1, none⟩ = some (.slice (some b0) b.ws.length d)) (first | exact ⟨e1, e3⟩ | exact s0) (first | (go_at_call 7; (with_reducible refine (CA.out _ hbd).mono ?_); rintro e w6 ⟨rfl, hb6⟩; have hb56 := hbd.trans (hb6.mono hbd.size); have s0 := And.intro ((hb56.cell (p := ⟨w.heap.size, 1, none⟩) hq7).trans e1) ((hb56.cell (p := ⟨w.heap.size + 1, 1, none⟩) hq8).trans e3)) | (go_at_call 7; (with_reducible refine (CB.out _ hb56).mono ?_); rintro e w7 ⟨rfl, hb7⟩; have hb57 := hb56.trans (hb7.mono hb56.size); have s0 := And.intro ((hb57.cell (p := ⟨w.heap.size, 1, none⟩) hq7).trans e1) ((hb57.cell (p := ⟨w.heap.size + 1, 1, none⟩) hq8).trans e3)))
      all_goals
        have HB07 := Lib.hid (HB05.out.trans (hb57.mono HB05.out.size))
        clear hb57 hb56 hb6 hb7
        go_wp2_with fail
        go_ret
        exact ⟨rfl, HB07.out⟩
    · skip
      subst hdq
      have y9 : d - d = 0 := Nat.sub_self d
      have CA := Lib.hid ca
      have CB := Lib.hid cb
      clear ca cb HSA HSB
      go_region_held3 (fun w' => w'.cell? ⟨w.heap.size, 1, none⟩ = some (.slice none 0 0) ∧ w'.cell? ⟨w.heap.size + 1, 1, none⟩ = some (.slice (some b0) b.ws.length d)) (first | exact ⟨e1, e3⟩ | exact s0) (first | (go_at_call 7; (with_reducible refine (CA.out _ hbd).mono ?_); rintro e w6 ⟨rfl, hb6⟩; have hb56 := hbd.trans (hb6.mono hbd.size); have s0 := And.intro ((hb56.cell (p := ⟨w.heap.size, 1, none⟩) hq7).trans e1) ((hb56.cell (p := ⟨w.heap.size + 1, 1, none⟩) hq8).trans e3)) | (go_at_call 7; (with_reducible refine (CB.out _ hb56).mono ?_); rintro e w7 ⟨rfl, hb7⟩; have hb57 := hb56.trans (hb7.mono hb56.size); have s0 := And.intro ((hb57.cell (p := ⟨w.heap.size, 1, none⟩) hq7).trans e1) ((hb57.cell (p := ⟨w.heap.size + 1, 1, none⟩) hq8).trans e3)))
      all_goals
        have HB07 := Lib.hid (HB05.out.trans (hb57.mono HB05.out.size))
        clear hb57 hb56 hb6 hb7
        go_wp2_with fail
        go_ret
        exact ⟨rfl, HB07.out⟩
    · skip
      subst hd0 hq0
      have hz1 : b.ws.length = 0 := by have := HC.out; omega
      rw [hz1] at e3
      clear hz1
      simp only [show ((0 : Nat) : Int) = 0 from rfl] at x7 x8 y1 y2 y3 y5 y6 y7 ⊢
      have CA := Lib.hid ca
      have CB := Lib.hid cb
      clear ca cb HSA HSB
      go_region_held3 (fun w' => w'.cell? ⟨w.heap.size, 1, none⟩ = some (.slice none 0 0) ∧ w'.cell? ⟨w.heap.size + 1, 1, none⟩ = some (.slice none 0 0)) (first | exact ⟨e1, e3⟩ | exact s0) (first | (go_at_call 7; (with_reducible refine (CA.out _ hbd).mono ?_); rintro e w6 ⟨rfl, hb6⟩; have hb56 := hbd.trans (hb6.mono hbd.size); have s0 := And.intro ((hb56.cell (p := ⟨w.heap.size, 1, none⟩) hq7).trans e1) ((hb56.cell (p := ⟨w.heap.size + 1, 1, none⟩) hq8).trans e3)) | (go_at_call 7; (with_reducible refine (CB.out _ hb56).mono ?_); rintro e w7 ⟨rfl, hb7⟩; have hb57 := hb56.trans (hb7.mono hb56.size); have s0 := And.intro ((hb57.cell (p := ⟨w.heap.size, 1, none⟩) hq7).trans e1) ((hb57.cell (p := ⟨w.heap.size + 1, 1, none⟩) hq8).trans e3)))
      all_goals
        have HB07 := Lib.hid (HB05.out.trans (hb57.mono HB05.out.size))
        clear hb57 hb56 hb6 hb7
        go_wp2_with fail
        go_ret
        exact ⟨rfl, HB07.out⟩
end Go.Proofs.YthdokajpiflcoaaDoor
