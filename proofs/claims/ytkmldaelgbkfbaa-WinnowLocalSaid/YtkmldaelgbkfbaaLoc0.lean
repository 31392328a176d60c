/- A list that is part of two others. No condition but the lengths. -/
import Derived.Test.YtkmldaelgbkfbaaGap
import Derived.Test.YtkmldaelgbkfbaaCat
namespace Go.Proofs.Ytkmldaelgbkfbaa
open Go.RowKit Go.Deep
namespace Wn
/-- What the law's function literal says. -/
def locP (la lc lb : Nat) (Y : List Int) (n : Nat) : Bool := decide (la ≤ n) && decide (n < la + lc) && decide (((n - la + lb : Nat) : Int) ∈ Y)
structure Bx (w : World) (ba bc bp bb : Nat) (Aa Ac Ay Ab : Option Addr) (la lc lb ka kc ky kb : Nat) (Y : List Int) : Prop where
  a : w.cell? ⟨ba, 0, none⟩ = some (.slice Aa la ka)
  c : w.cell? ⟨bc, 0, none⟩ = some (.slice Ac lc kc)
  y : w.cell? ⟨bp, 0, none⟩ = some (.slice Ay Y.length ky)
  b : w.cell? ⟨bb, 0, none⟩ = some (.slice Ab lb kb)
  la : ba < w.heap.size
  lc : bc < w.heap.size
  ly : bp < w.heap.size
  lb : bb < w.heap.size
  yi : Gr.InAt w w.heap.size Ay Y
theorem Bx.next {w w' : World} {ba bc bp bb : Nat} {Aa Ac Ay Ab : Option Addr} {la lc lb ka kc ky kb : Nat} {Y : List Int} (h : Bx w ba bc bp bb Aa Ac Ay Ab la lc lb ka kc ky kb Y) (hb : Below w.heap.size w w') : Bx w' ba bc bp bb Aa Ac Ay Ab la lc lb ka kc ky kb Y :=
  ⟨(hb.cell (p := ⟨ba, 0, none⟩) h.la).trans h.a, (hb.cell (p := ⟨bc, 0, none⟩) h.lc).trans h.c, (hb.cell (p := ⟨bp, 0, none⟩) h.ly).trans h.y, (hb.cell (p := ⟨bb, 0, none⟩) h.lb).trans h.b, Nat.lt_of_lt_of_le h.la hb.size, Nat.lt_of_lt_of_le h.lc hb.size, Nat.lt_of_lt_of_le h.ly hb.size, Nat.lt_of_lt_of_le h.lb hb.size, h.yi.next hb⟩
set_option maxHeartbeats 16000000 in
set_option maxRecDepth 100000 in
theorem loc1_any (n : Nat) (w : World) (ba bc bp bb : Nat) (Aa Ac Ay Ab : Option Addr) (la lc lb ka kc ky kb : Nat) (Y : List Int) (h : Bx w ba bc bp bb Aa Ac Ay Ab la lc lb ka kc ky kb Y) (hn : n ≤ 1000) (h1 : la ≤ 1000) (h2 : lc ≤ 1000) (h3 : lb ≤ 1000) (hY : Y.length ≤ 100000) :
    Calls Try.prog 21 #[.int .i64 n, .pointer (some ⟨ba, 0, none⟩), .pointer (some ⟨bc, 0, none⟩), .pointer (some ⟨bp, 0, none⟩), .pointer (some ⟨bb, 0, none⟩)] w fun e w' => e = .returned (.bool (locP la lc lb Y n)) ∧ w' = w := by
  have q1 := h.a
  have q2 := h.c
  have q3 := h.y
  have q4 := h.b
  have HV := Lib.hid (show locP la lc lb Y n = (decide (la ≤ n) && decide (n < la + lc) && decide (((n - la + lb : Nat) : Int) ∈ Y)) from rfl)
  generalize locP la lc lb Y n = V at *
  have HYI := Lib.hid h.yi
  clear h
  by_cases a1 : la ≤ n
  · have b1 : decide ((la : Int) ≤ (n : Int)) = true := decide_eq_true (by omega)
    have b1n : decide (la ≤ n) = true := decide_eq_true a1
    obtain ⟨s, hs⟩ : ∃ s, s = la + lc := ⟨_, rfl⟩
    have t1 : IntKind.i64.wrap ((la : Int) + (lc : Int)) = (s : Int) := by rw [IntKind.wrap_i64]; omega
    by_cases a2 : n < s
    · have b2 : decide ((n : Int) < (s : Int)) = true := decide_eq_true (by omega)
      have b2n : decide (n < s) = true := decide_eq_true a2
      obtain ⟨d, hd⟩ : ∃ d, d = n - la := ⟨_, rfl⟩
      obtain ⟨f, hf⟩ : ∃ f, f = d + lb := ⟨_, rfl⟩
      have t2 : IntKind.i64.wrap ((n : Int) - (la : Int)) = (d : Int) := by rw [IntKind.wrap_i64]; omega
      have t3 : IntKind.i64.wrap ((d : Int) + (lb : Int)) = (f : Int) := by rw [IntKind.wrap_i64]; omega
      have HT := Lib.hid (show V = decide ((f : Int) ∈ Y) by rw [HV.out, decide_eq_true a1, decide_eq_true (show n < la + lc by omega), ← hd, ← hf]; rfl)
      have cc := containsIn_any Y (f : Int) Ay ky w HYI.out hY
      generalize decide ((f : Int) ∈ Y) = v at *
      clear HV hs hd hf a1 a2 h1 h2 h3 hn
      go_enter Try.func21, Try.ntmps21
      go_wp2_with fail
      (with_reducible refine cc.mono ?_); rintro e w2 ⟨rfl, rfl⟩
      go_wp2_with fail
      go_ret
      exact ⟨by rw [HT.out]; rfl, rfl⟩
    · have b2 : decide ((n : Int) < (s : Int)) = false := decide_eq_false (by omega)
      have b2n : decide (n < s) = false := decide_eq_false a2
      have HT := Lib.hid (show V = false by rw [HV.out, decide_eq_false (show ¬ n < la + lc by omega)]; simp)
      clear HV hs a1 a2 h1 h2 h3 hn
      go_enter Try.func21, Try.ntmps21
      go_wp2_with fail
      go_ret
      exact ⟨by rw [HT.out]; rfl, rfl⟩
  · have b1 : decide ((la : Int) ≤ (n : Int)) = false := decide_eq_false (by omega)
    have b1n : decide (la ≤ n) = false := decide_eq_false a1
    have HT := Lib.hid (show V = false by rw [HV.out, decide_eq_false a1]; rfl)
    clear HV a1 h1 h2 h3 hn
    go_enter Try.func21, Try.ntmps21
    go_wp2_with fail
    go_ret
    exact ⟨by rw [HT.out]; rfl, rfl⟩
set_option maxHeartbeats 16000000 in
set_option maxRecDepth 100000 in
theorem indexLoc_any (X : List Nat) (kk : Nat) (Ax : Option Addr) (cx : Nat) (w : World) (ba bc bp bb : Nat) (Aa Ac Ay Ab : Option Addr) (la lc lb ka kc ky kb : Nat) (Y : List Int) (h : Bx w ba bc bp bb Aa Ac Ay Ab la lc lb ka kc ky kb Y) (hX : Gr.InAt w w.heap.size Ax (ints X)) (hx : ∀ x ∈ X, x ≤ 1000) (h1 : la ≤ 1000) (h2 : lc ≤ 1000) (h3 : lb ≤ 1000) (hY : Y.length ≤ 100000) (hXl : X.length ≤ 8000) (hkk : kk < X.length) (hhit : locP la lc lb Y X[kk] = true) :
    Calls Try.prog 32 #[.slice Ax X.length cx, .func (.func 21) #[] #[.pointer (some ⟨ba, 0, none⟩), .pointer (some ⟨bc, 0, none⟩), .pointer (some ⟨bp, 0, none⟩), .pointer (some ⟨bb, 0, none⟩)]] w fun e w' => (∃ n : Nat, n ≤ 8000 ∧ e = .returned (.int .i64 n)) ∧ Below w.heap.size w w' := by
  obtain ⟨g, o, rfl, hg, -⟩ := in_at hX (by rw [ints_len]; omega)
  obtain ⟨n1, hn1⟩ : ∃ n1, n1 = X.length := ⟨_, rfl⟩
  rw [← hn1]
  have HX := Lib.hid hX
  have HN := Lib.hid hn1
  have HB := Lib.hid h
  have HH := Lib.hid hhit
  have HXX := Lib.hid hx
  clear hX hn1 h hhit hx
  go_enter Try.func32, Try.ntmps32
  go_wp2_with fail
  go_loopw [8] (fun s8 wr => ∃ i : Nat, s8 = .int .i64 i ∧ i ≤ kk ∧ Below w.heap.size w wr) (fun s8 _ => kk + 1 - (intOf s8).toNat)
  case atStart => exact ⟨0, rfl, by omega, Below.refl _ _⟩
  case round =>
    obtain ⟨i, rfl, hi, hb⟩ := hrel
    have hnn := HN.out
    have b1 : decide ((i : Int) < (n1 : Int)) = true := decide_eq_true (by omega)
    have b1n : decide (i < n1) = true := decide_eq_true (by omega)
    have y1 : (i : Int) < (n1 : Int) := by omega
    have q1 := (hb.cell (p := ⟨g, o + i, none⟩) hg).trans (ints_cell HX.out (show i < X.length by omega))
    have cc := loc1_any X[i] wr ba bc bp bb Aa Ac Ay Ab la lc lb ka kc ky kb Y (HB.out.next hb) (HXX.out _ (List.getElem_mem _)) h1 h2 h3 hY
    have HK := Lib.hid (show locP la lc lb Y X[i] = false → i + 1 ≤ kk from fun h => by
      by_cases e : i = kk
      · subst e; rw [HH.out] at h; cases h
      · omega)
    have hi8 : i ≤ 8192 := by omega
    have HI := Lib.hid (show i ≤ 8000 by omega)
    generalize locP la lc lb Y X[i] = v at *
    generalize X[i] = x at *
    have HBB := Lib.hid hb
    clear hb hnn hi
    cases v with
    | true =>
      clear HK
      go_wp2_with fail
      (with_reducible refine cc.mono ?_); rintro e w2 ⟨rfl, rfl⟩
      clear cc
      go_wp2_with fail
      go_ret
      exact ⟨⟨i, HI.out, rfl⟩, HBB.out⟩
    | false =>
      go_wp2_with fail
      (with_reducible refine cc.mono ?_); rintro e w2 ⟨rfl, rfl⟩
      clear cc
      go_wp2_with fail
      go_roundw
      case rel => exact ⟨i + 1, by go_num, HK.out trivial, HBB.out⟩
      case measure => have := HK.out trivial; simp [intOf]; omega
set_option maxHeartbeats 16000000 in
set_option maxRecDepth 100000 in
theorem containsLoc_any (X : List Nat) (kk : Nat) (Ax : Option Addr) (cx : Nat) (w : World) (ba bc bp bb : Nat) (Aa Ac Ay Ab : Option Addr) (la lc lb ka kc ky kb : Nat) (Y : List Int) (h : Bx w ba bc bp bb Aa Ac Ay Ab la lc lb ka kc ky kb Y) (hX : Gr.InAt w w.heap.size Ax (ints X)) (hx : ∀ x ∈ X, x ≤ 1000) (h1 : la ≤ 1000) (h2 : lc ≤ 1000) (h3 : lb ≤ 1000) (hY : Y.length ≤ 100000) (hXl : X.length ≤ 8000) (hkk : kk < X.length) (hhit : locP la lc lb Y X[kk] = true) :
    Calls Try.prog 20 #[.slice Ax X.length cx, .func (.func 21) #[] #[.pointer (some ⟨ba, 0, none⟩), .pointer (some ⟨bc, 0, none⟩), .pointer (some ⟨bp, 0, none⟩), .pointer (some ⟨bb, 0, none⟩)]] w fun e w' => e = .returned (.bool true) ∧ Below w.heap.size w w' := by
  have cc := indexLoc_any X kk Ax cx w ba bc bp bb Aa Ac Ay Ab la lc lb ka kc ky kb Y h hX hx h1 h2 h3 hY hXl hkk hhit
  clear h hX hx hhit
  go_enter Try.func20, Try.ntmps20
  go_wp2_with fail
  (with_reducible refine cc.mono ?_); rintro e w2 ⟨⟨n, hn, rfl⟩, hb⟩
  have HB := Lib.hid hb
  have b0 : decide ((0 : Int) ≤ (n : Int)) = true := decide_eq_true (by omega)
  clear cc hb
  go_wp2_with fail
  go_ret
  exact ⟨by simp, HB.out⟩
theorem get_mid (a m c : List Int) (k : Nat) (h : k < m.length) : (a ++ m ++ c).getD (a.length + k) 0 = m.getD k 0 := by
  rw [List.append_assoc, List.getD_eq_getElem?_getD, List.getD_eq_getElem?_getD, List.getElem?_append_right (by omega), Nat.add_sub_cancel_left, List.getElem?_append_left h]
/-- Both lists select the same place of their common part. -/
theorem local_ok (a b m c d : List Int) (K : Nat) (hK : 1 ≤ K) (hm : K ≤ m.length) : ∃ kk, ∃ h : kk < (sel (a ++ m ++ c) K ((a ++ m ++ c).length + 1 - K)).length, locP a.length m.length b.length (ints (sel (b ++ m ++ d) K ((b ++ m ++ d).length + 1 - K))) (sel (a ++ m ++ c) K ((a ++ m ++ c).length + 1 - K))[kk] = true := by
  have h1 := lst_of (l := a ++ m ++ c) (f := a.length) (show 0 < K by omega)
  have hs := lst_shift (a ++ m ++ c) (b ++ m ++ d) a.length b.length K (fun k hk => by rw [get_mid a m c k (by omega), get_mid b m d k (by omega)])
  have hmem : lst (a ++ m ++ c) a.length K ∈ sel (a ++ m ++ c) K ((a ++ m ++ c).length + 1 - K) := (sel_mem _ _ _ _).2 ⟨a.length, by simp only [List.length_append]; omega, rfl⟩
  have hmem2 : lst (b ++ m ++ d) b.length K ∈ sel (b ++ m ++ d) K ((b ++ m ++ d).length + 1 - K) := (sel_mem _ _ _ _).2 ⟨b.length, by simp only [List.length_append]; omega, rfl⟩
  obtain ⟨kk, hk, e⟩ := List.getElem_of_mem hmem
  refine ⟨kk, hk, ?_⟩
  rw [e]
  unfold locP
  rw [decide_eq_true h1.ge, decide_eq_true (show lst (a ++ m ++ c) a.length K < a.length + m.length by have := h1.lt; omega), decide_eq_true]
  · rfl
  · refine List.mem_map.2 ⟨_, hmem2, ?_⟩
    have := h1.ge
    omega
end Wn
end Go.Proofs.Ytkmldaelgbkfbaa
