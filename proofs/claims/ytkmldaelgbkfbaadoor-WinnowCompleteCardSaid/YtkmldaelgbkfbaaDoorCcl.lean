/- The function literal of the law of equal runs; slices.ContainsFunc at it. No condition but the sizes. -/
import Derived.Test.YtkmldaelgbkfbaaDoorCpl
import Derived.Test.YtkmldaelgbkfbaaDoorGap
namespace Go.Proofs.YtkmldaelgbkfbaaDoor
open Go.RowKit Go.Deep
namespace Wn
def cpB (p q k n u v : Nat) : Bool := (((u : Int) - (p : Int)) == ((v : Int) - (q : Int))) && decide (p ≤ u) && decide (u + k ≤ p + n)
/-- The variables that the literal reads. -/
structure Cv (w : World) (bp bq bk bn p q k n : Nat) : Prop where
  p : w.cell? ⟨bp, 0, none⟩ = some (.int .i64 p)
  q : w.cell? ⟨bq, 0, none⟩ = some (.int .i64 q)
  k : w.cell? ⟨bk, 0, none⟩ = some (.int .i64 k)
  n : w.cell? ⟨bn, 0, none⟩ = some (.int .i64 n)
  lp : bp < w.heap.size
  lq : bq < w.heap.size
  lk : bk < w.heap.size
  ln : bn < w.heap.size
theorem Cv.next {w w' : World} {bp bq bk bn p q k n : Nat} (h : Cv w bp bq bk bn p q k n) (hb : Below w.heap.size w w') : Cv w' bp bq bk bn p q k n :=
  ⟨(hb.cell (p := ⟨bp, 0, none⟩) h.lp).trans h.p, (hb.cell (p := ⟨bq, 0, none⟩) h.lq).trans h.q, (hb.cell (p := ⟨bk, 0, none⟩) h.lk).trans h.k, (hb.cell (p := ⟨bn, 0, none⟩) h.ln).trans h.n, Nat.lt_of_lt_of_le h.lp hb.size, Nat.lt_of_lt_of_le h.lq hb.size, Nat.lt_of_lt_of_le h.lk hb.size, Nat.lt_of_lt_of_le h.ln hb.size⟩
set_option maxHeartbeats 16000000 in
set_option maxRecDepth 100000 in
theorem ccl_any (u v : Nat) (w : World) (bp bq bk bn p q k n : Nat) (h : Cv w bp bq bk bn p q k n) (hu : u ≤ 100000) (hv : v ≤ 100000) (hp : p ≤ 100000) (hq : q ≤ 100000) (hk : k ≤ 100000) (hn : n ≤ 100000) :
    Calls Tryd.prog 17 #[.agg #[.int .i64 u, .int .i64 v], .pointer (some ⟨bp, 0, none⟩), .pointer (some ⟨bq, 0, none⟩), .pointer (some ⟨bk, 0, none⟩), .pointer (some ⟨bn, 0, none⟩)] w fun e w' => e = .returned (.bool (cpB p q k n u v)) ∧ Below w.heap.size w w' := by
  have hb0 : Below w.heap.size w (w.alloc (.cells #[.int .i64 u, .int .i64 v] 44 (0, 0))) := (Below.refl _ _).alloc (Nat.le_refl _) _
  have hnw := heap_alloc_new w (.cells #[.int .i64 u, .int .i64 v] 44 (0, 0))
  have h1 := h.next hb0
  have z0 : (w.alloc (.cells #[.int .i64 u, .int .i64 v] 44 (0, 0))).cell? ⟨w.heap.size, 0, none⟩ = some (.int .i64 u) := by rw [cell_of_row _ _ _ _ _ _ hnw]; rfl
  have z1 : (w.alloc (.cells #[.int .i64 u, .int .i64 v] 44 (0, 0))).cell? ⟨w.heap.size, 1, none⟩ = some (.int .i64 v) := by rw [cell_of_row _ _ _ _ _ _ hnw]; rfl
  have q1 := h1.p
  have q2 := h1.q
  have q3 := h1.k
  have q4 := h1.n
  have HB := Lib.hid hb0
  have HV := Lib.hid (show cpB p q k n u v = ((((u : Int) - (p : Int)) == ((v : Int) - (q : Int))) && decide (p ≤ u) && decide (u + k ≤ p + n)) from rfl)
  generalize cpB p q k n u v = V at *
  obtain ⟨D1, hD1⟩ : ∃ D : Int, D = (u : Int) - (p : Int) := ⟨_, rfl⟩
  obtain ⟨D2, hD2⟩ : ∃ D : Int, D = (v : Int) - (q : Int) := ⟨_, rfl⟩
  obtain ⟨s, hs⟩ : ∃ s, s = u + k := ⟨_, rfl⟩
  obtain ⟨r, hr⟩ : ∃ r, r = p + n := ⟨_, rfl⟩
  have t1 : IntKind.i64.wrap ((u : Int) - (p : Int)) = D1 := by rw [IntKind.wrap_i64]; omega
  have t2 : IntKind.i64.wrap ((v : Int) - (q : Int)) = D2 := by rw [IntKind.wrap_i64]; omega
  have t3 : IntKind.i64.wrap ((u : Int) + (k : Int)) = (s : Int) := by rw [IntKind.wrap_i64]; omega
  have t4 : IntKind.i64.wrap ((p : Int) + (n : Int)) = (r : Int) := by rw [IntKind.wrap_i64]; omega
  have HV2 := Lib.hid (show V = ((D1 == D2) && decide (p ≤ u) && decide (s ≤ r)) by rw [HV.out, hD1, hD2, hs, hr])
  clear HV hD1 hD2 hs hr h h1 hb0 hnw hu hv hp hq hk hn
  by_cases e1 : D1 = D2
  · have b1 : (D1 == D2) = true := by rw [beq_iff_eq]; exact e1
    by_cases e2 : p ≤ u
    · have b2 : decide ((p : Int) ≤ (u : Int)) = true := decide_eq_true (by omega)
      have b2n : decide (p ≤ u) = true := decide_eq_true e2
      by_cases e3 : s ≤ r
      · have b3 : decide ((s : Int) ≤ (r : Int)) = true := decide_eq_true (by omega)
        have b3n : decide (s ≤ r) = true := decide_eq_true e3
        have HT := Lib.hid (show V = true by rw [HV2.out, b1, b2n, b3n]; rfl)
        clear HV2 e1 e2 e3
        go_enter Tryd.func17, Tryd.ntmps17
        go_wp2_with fail
        go_ret
        exact ⟨by rw [HT.out]; rfl, HB.out⟩
      · have b3 : decide ((s : Int) ≤ (r : Int)) = false := decide_eq_false (by omega)
        have b3n : decide (s ≤ r) = false := decide_eq_false e3
        have HT := Lib.hid (show V = false by rw [HV2.out, b1, b2n, b3n]; rfl)
        clear HV2 e1 e2 e3
        go_enter Tryd.func17, Tryd.ntmps17
        go_wp2_with fail
        go_ret
        exact ⟨by rw [HT.out]; rfl, HB.out⟩
    · have b2 : decide ((p : Int) ≤ (u : Int)) = false := decide_eq_false (by omega)
      have b2n : decide (p ≤ u) = false := decide_eq_false e2
      have HT := Lib.hid (show V = false by rw [HV2.out, b1, b2n]; rfl)
      clear HV2 e1 e2
      go_enter Tryd.func17, Tryd.ntmps17
      go_wp2_with fail
      go_ret
      exact ⟨by rw [HT.out]; rfl, HB.out⟩
  · have b1 : (D1 == D2) = false := by rw [beq_eq_false_iff_ne]; exact e1
    have HT := Lib.hid (show V = false by rw [HV2.out, b1]; rfl)
    clear HV2 e1
    go_enter Tryd.func17, Tryd.ntmps17
    go_wp2_with fail
    go_ret
    exact ⟨by rw [HT.out]; rfl, HB.out⟩
set_option maxHeartbeats 16000000 in
set_option maxRecDepth 100000 in
theorem indexCcl_any (L : List Fp) (kk : Nat) (Ax : Option Addr) (cx : Nat) (w : World) (bp bq bk bn p q k n : Nat) (h : Cv w bp bq bk bn p q k n) (hX : Gr.EdAt w w.heap.size Ax L) (hx : ∀ x ∈ L, ∃ u v : Nat, x = ⟨(u : Int), (v : Int)⟩ ∧ u ≤ 100000 ∧ v ≤ 100000) (hp : p ≤ 100000) (hq : q ≤ 100000) (hk : k ≤ 100000) (hn : n ≤ 100000) (hLl : L.length ≤ 8000) (hkk : kk < L.length) (hhit : ∀ u v : Nat, L[kk] = ⟨(u : Int), (v : Int)⟩ → cpB p q k n u v = true) :
    Calls Tryd.prog 31 #[.slice Ax L.length cx, .func (.func 17) #[] #[.pointer (some ⟨bp, 0, none⟩), .pointer (some ⟨bq, 0, none⟩), .pointer (some ⟨bk, 0, none⟩), .pointer (some ⟨bn, 0, none⟩)]] w fun e w' => (∃ m : Nat, m ≤ 8000 ∧ e = .returned (.int .i64 m)) ∧ Below w.heap.size w w' := by
  obtain ⟨g, o, rfl, hg, hc⟩ := fp_cells hX (by omega)
  obtain ⟨n1, hn1⟩ : ∃ n1, n1 = L.length := ⟨_, rfl⟩
  rw [← hn1]
  have HC := Lib.hid hc
  have HN := Lib.hid hn1
  have HB := Lib.hid h
  have HH := Lib.hid hhit
  have HXX := Lib.hid hx
  have HS := Lib.hid (And.intro hp (And.intro hq (And.intro hk hn)))
  clear hX hc hn1 h hhit hx hp hq hk hn
  go_enter Tryd.func31, Tryd.ntmps31
  go_wp2_with fail
  go_loopw [8] (fun s8 wr => ∃ i : Nat, s8 = .int .i64 i ∧ i ≤ kk ∧ Below w.heap.size w wr) (fun s8 _ => kk + 1 - (intOf s8).toNat)
  case atStart => exact ⟨0, rfl, by omega, Below.refl _ _⟩
  case round =>
    obtain ⟨i, rfl, hi, hb⟩ := hrel
    have hnn := HN.out
    have b1 : decide ((i : Int) < (n1 : Int)) = true := decide_eq_true (by omega)
    have b1n : decide (i < n1) = true := decide_eq_true (by omega)
    have y1 : (i : Int) < (n1 : Int) := by omega
    obtain ⟨q0, q1⟩ := HC.out i (by omega)
    obtain ⟨u, v, hxe, hu, hv⟩ := HXX.out L[i] (List.getElem_mem (by omega))
    rw [hxe] at q0 q1
    have q0 := (hb.cell (p := ⟨g, o + i * 2, none⟩) hg).trans q0
    have q1 := (hb.cell (p := ⟨g, o + i * 2 + 1, none⟩) hg).trans q1
    have cc := ccl_any u v wr bp bq bk bn p q k n (HB.out.next hb) hu hv HS.out.1 HS.out.2.1 HS.out.2.2.1 HS.out.2.2.2
    have HK := Lib.hid (show cpB p q k n u v = false → i + 1 ≤ kk from fun h => by
      by_cases e : i = kk
      · subst e; rw [HH.out u v hxe] at h; cases h
      · omega)
    have hi8 : i ≤ 8192 := by omega
    have HI := Lib.hid (show i ≤ 8000 by omega)
    generalize cpB p q k n u v = V at *
    have HBB := Lib.hid hb
    dsimp only at q0 q1
    clear hb hnn hi hxe hu hv
    cases V with
    | true =>
      clear HK
      go_wp2_with fail
      (with_reducible refine cc.mono ?_); rintro e w2 ⟨rfl, hb2⟩
      have HB2 := Lib.hid (HBB.out.trans (hb2.mono HBB.out.size))
      clear cc hb2
      go_wp2_with fail
      go_ret
      exact ⟨⟨i, HI.out, rfl⟩, HB2.out⟩
    | false =>
      go_wp2_with fail
      (with_reducible refine cc.mono ?_); rintro e w2 ⟨rfl, hb2⟩
      have HB2 := Lib.hid (HBB.out.trans (hb2.mono HBB.out.size))
      clear cc hb2
      go_wp2_with fail
      go_roundw
      case rel => exact ⟨i + 1, by go_num, HK.out trivial, HB2.out⟩
      case measure => have := HK.out trivial; simp [intOf]; omega
set_option maxHeartbeats 16000000 in
set_option maxRecDepth 100000 in
theorem containsCcl_any (L : List Fp) (kk : Nat) (Ax : Option Addr) (cx : Nat) (w : World) (bp bq bk bn p q k n : Nat) (h : Cv w bp bq bk bn p q k n) (hX : Gr.EdAt w w.heap.size Ax L) (hx : ∀ x ∈ L, ∃ u v : Nat, x = ⟨(u : Int), (v : Int)⟩ ∧ u ≤ 100000 ∧ v ≤ 100000) (hp : p ≤ 100000) (hq : q ≤ 100000) (hk : k ≤ 100000) (hn : n ≤ 100000) (hLl : L.length ≤ 8000) (hkk : kk < L.length) (hhit : ∀ u v : Nat, L[kk] = ⟨(u : Int), (v : Int)⟩ → cpB p q k n u v = true) :
    Calls Tryd.prog 16 #[.slice Ax L.length cx, .func (.func 17) #[] #[.pointer (some ⟨bp, 0, none⟩), .pointer (some ⟨bq, 0, none⟩), .pointer (some ⟨bk, 0, none⟩), .pointer (some ⟨bn, 0, none⟩)]] w fun e w' => e = .returned (.bool true) ∧ Below w.heap.size w w' := by
  have cc := indexCcl_any L kk Ax cx w bp bq bk bn p q k n h hX hx hp hq hk hn hLl hkk hhit
  clear h hX hx hhit
  go_enter Tryd.func16, Tryd.ntmps16
  go_wp2_with fail
  (with_reducible refine cc.mono ?_); rintro e w2 ⟨⟨m, hm, rfl⟩, hb⟩
  have HB := Lib.hid hb
  have b0 : decide ((0 : Int) ≤ (m : Int)) = true := decide_eq_true (by omega)
  clear cc hb
  go_wp2_with fail
  go_ret
  exact ⟨by simp, HB.out⟩
end Wn
end Go.Proofs.YtkmldaelgbkfbaaDoor
