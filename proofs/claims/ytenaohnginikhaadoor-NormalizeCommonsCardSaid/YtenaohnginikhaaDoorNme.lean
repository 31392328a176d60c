/- Few of the reference; NormalizeMeets. Condition: bytealg's MaxLen, the table of powers and strconv's errors lie in their variables. -/
import Derived.Test.YtenaohnginikhaaDoorNwa
import Derived.Test.YtenaohnginikhaaDoorNco
namespace Go.Proofs.YtenaohnginikhaaDoor
open Go.RowKit Go.Deep Tr
namespace Nm
set_option maxHeartbeats 8000000 in
set_option maxRecDepth 100000 in
theorem few_any (t : Txt) (A : Option Addr) (c : Nat) (w : World) (hA : LxAt w w.heap.size A t.ws) (hl : t.ws.length ≤ 5864062014634) :
    Calls Tryd.prog 14 #[txV A c t] w fun e w' => ∃ r : Bool, e = .returned (.bool r) ∧ (r = true → t.ws.length ≤ 200 ∧ t.pth.length ≤ 200 ∧ ∀ x ∈ t.ws, x.tx.length ≤ 100) ∧ Below w.heap.size w w' := by
  obtain ⟨p, l⟩ := t
  dsimp only at *
  have hb0 : Below w.heap.size w (w.alloc (txO A l.length c (str p))) := (Below.refl _ _).alloc (Nat.le_refl _) _
  have hG := heap_alloc_new w (txO A l.length c (str p))
  obtain ⟨W, hW⟩ : ∃ W, W = w.alloc (txO A l.length c (str p)) := ⟨_, rfl⟩
  rw [← hW] at hb0 hG
  obtain ⟨q0, q1⟩ := cells2 hG
  have HA := Lib.hid (hA.next hb0)
  have HB0 := Lib.hid hb0
  have hps := str_size p
  clear hA hb0 hG
  go_enter Tryd.func14, Tryd.ntmps14
  go_upto_region 1 with (fail)
  rw [show w.alloc (.cells #[.string (str p), .slice A l.length c] 25 (0, 0)) = W from hW.symm]
  clear hW
  by_cases h1 : 200 < l.length
  · have b1 : decide ((200 : Int) < (l.length : Int)) = true := decide_eq_true (by omega)
    have b1n : decide (200 < l.length) = true := decide_eq_true h1
    go_wp2_with fail
    go_ret
    exact ⟨_, rfl, (fun h => by cases h), HB0.out⟩
  have b1 : decide ((200 : Int) < (l.length : Int)) = false := decide_eq_false (by omega)
  have b1n : decide (200 < l.length) = false := decide_eq_false h1
  by_cases h2 : 200 < p.length
  · have b2 : decide ((200 : Int) < (p.length : Int)) = true := decide_eq_true (by omega)
    have b2n : decide (200 < p.length) = true := decide_eq_true h2
    have b3 : decide ((200 : Int) < ((str p).size : Int)) = true := decide_eq_true (by omega)
    go_wp2_with fail
    go_ret
    exact ⟨_, rfl, (fun h => by cases h), HB0.out⟩
  have b2 : decide ((200 : Int) < (p.length : Int)) = false := decide_eq_false (by omega)
  have b2n : decide (200 < p.length) = false := decide_eq_false h2
  have b3 : decide ((200 : Int) < ((str p).size : Int)) = false := decide_eq_false (by omega)
  go_wp2_with fail
  go_loopw [3] (fun v wr => ∃ k : Nat, k ≤ l.length ∧ v = .int .i64 k ∧ (∀ x ∈ l.take k, x.tx.length ≤ 100) ∧ wr = W) (fun v _ => l.length - (intOf v).toNat)
  case atStart => exact ⟨0, by omega, rfl, by simp, rfl⟩
  case round =>
    obtain ⟨k, hk, rfl, hall, rfl⟩ := hrel
    have HALL := Lib.hid hall
    clear hall
    by_cases hlt : k < l.length
    · have c1 : decide ((k : Int) < (l.length : Int)) = true := decide_eq_true (by omega)
      have c1n : decide (k < l.length) = true := decide_eq_true hlt
      have y1 : (k : Int) < (l.length : Int) := by omega
      obtain ⟨g, o, rfl, hg, h0, h1'⟩ := HA.out k hlt
      have HTK := Lib.hid (show l.take (k + 1) = l.take k ++ [l[k]] from List.take_succ_eq_append_getElem hlt)
      obtain ⟨x, hx⟩ : ∃ x, x = l[k] := ⟨_, rfl⟩
      rw [← hx] at h0 h1' HTK
      have hxs := str_size x.tx
      clear hx h1'
      by_cases h3 : 100 < x.tx.length
      · have c2 : decide ((100 : Int) < (x.tx.length : Int)) = true := decide_eq_true (by omega)
        have c2n : decide (100 < x.tx.length) = true := decide_eq_true h3
        have c3 : decide ((100 : Int) < ((str x.tx).size : Int)) = true := decide_eq_true (by omega)
        go_wp2_with fail
        go_ret
        exact ⟨_, rfl, (fun h => by cases h), HB0.out⟩
      · have c2 : decide ((100 : Int) < (x.tx.length : Int)) = false := decide_eq_false (by omega)
        have c2n : decide (100 < x.tx.length) = false := decide_eq_false h3
        have c3 : decide ((100 : Int) < ((str x.tx).size : Int)) = false := decide_eq_false (by omega)
        have H3 := Lib.hid (show x.tx.length ≤ 100 by omega)
        go_wp2_with fail
        go_roundw
        case rel => exact ⟨k + 1, by omega, by go_num, (by rw [HTK.out]; intro z hz; rcases List.mem_append.1 hz with hz | hz; exact HALL.out z hz; rw [List.mem_singleton.1 hz]; exact H3.out), by simp⟩
        case measure => simp [intOf]; omega
    · have c1 : decide ((k : Int) < (l.length : Int)) = false := decide_eq_false (by omega)
      have c1n : decide (k < l.length) = false := decide_eq_false hlt
      have HF := Lib.hid (show l.length ≤ 200 ∧ p.length ≤ 200 ∧ ∀ x ∈ l, x.tx.length ≤ 100 from ⟨by omega, by omega, by have := HALL.out; rwa [List.take_of_length_le (by omega)] at this⟩)
      go_wp2_with fail
      go_ret
      exact ⟨_, rfl, (fun _ => HF.out), HB0.out⟩
theorem comI_comm (a b : Txt) (i j : Int) : comI b j a i = comI a i b j := by
  unfold comI
  by_cases h : comOk a i b j
  · rw [if_pos h, if_pos (show comOk b j a i from ⟨h.2.1, h.1, h.2.2.2.2.1, h.2.2.2.2.2, h.2.2.1, h.2.2.2.1⟩), cmn_comm]
  · rw [if_neg h, if_neg (fun g => h ⟨g.2.1, g.1, g.2.2.2.2.1, g.2.2.2.2.2, g.2.2.1, g.2.2.2.1⟩)]
set_option maxHeartbeats 16000000 in
set_option maxRecDepth 100000 in
theorem meets_law (a b : Txt) (i j : Int) (A B : Option Addr) (c d : Nat) (w : World) (hA : LxAt w w.heap.size A a.ws) (hB : LxAt w w.heap.size B b.ws) (hla : a.ws.length ≤ 5864062014634) (hlb : b.ws.length ≤ 5864062014634) (hM : MaxAt w) (hE : ErrAt w) (hT : Cd.Tabs w) :
    Calls Tryd.prog 9 #[txV A c a, .int .i64 i, txV B d b, .int .i64 j] w fun e w' => e = .returned (.bool true) ∧ Below w.heap.size w w' := by
  obtain ⟨W1, hW1⟩ : ∃ W1, W1 = w.alloc (txO A a.ws.length c (str a.pth)) := ⟨_, rfl⟩
  have hb1 : Below w.heap.size w W1 := by rw [hW1]; exact (Below.refl _ _).alloc (Nat.le_refl _) _
  have g1 : W1.heap[w.heap.size]? = some (txO A a.ws.length c (str a.pth)) := by rw [hW1]; exact heap_alloc_new w _
  have s1 : W1.heap.size = w.heap.size + 1 := by rw [hW1]; simp
  obtain ⟨V, hV⟩ : ∃ V, V = W1.alloc (txO B b.ws.length d (str b.pth)) := ⟨_, rfl⟩
  have hb2 : Below W1.heap.size W1 V := by rw [hV]; exact (Below.refl _ _).alloc (Nat.le_refl _) _
  have g2 : V.heap[w.heap.size + 1]? = some (txO B b.ws.length d (str b.pth)) := by rw [hV, ← s1]; exact heap_alloc_new W1 _
  have g1' := (hb2.block _ (by omega)).trans g1
  have hbV : Below w.heap.size w V := hb1.trans (hb2.mono (by omega))
  rw [hW1] at hV
  have HK := Lib.hid (fun (X : World) (hX : Below V.heap.size V X) => (show LxAt X X.heap.size A a.ws ∧ LxAt X X.heap.size B b.ws ∧ X.cell? ⟨w.heap.size, 0, none⟩ = some (.string (str a.pth)) ∧ X.cell? ⟨w.heap.size, 1, none⟩ = some (.slice A a.ws.length c) ∧ X.cell? ⟨w.heap.size + 1, 0, none⟩ = some (.string (str b.pth)) ∧ X.cell? ⟨w.heap.size + 1, 1, none⟩ = some (.slice B b.ws.length d) ∧ MaxAt X ∧ Below w.heap.size w X from
    have z1 := cells2 ((hX.block _ (blk_lt g1')).trans g1')
    have z2 := cells2 ((hX.block _ (blk_lt g2)).trans g2)
    have hbX := hbV.trans (hX.mono hbV.size)
    ⟨(hA.next hbV).next hX, (hB.next hbV).next hX, z1.1, z1.2, z2.1, z2.2, hM.below hbX, hbX⟩))
  have cc := awake_any V (hM.below hbV) (hE.below hbV) (hT.below hbV)
  clear hA hB hM hE hT hb1 hb2 g1 g2 g1' hbV s1 hW1
  go_enter Tryd.func9, Tryd.ntmps9
  go_upto_region 1 with (fail)
  rw [show (w.alloc (.cells #[.string (str a.pth), .slice A a.ws.length c] 25 (0, 0))).alloc (.cells #[.string (str b.pth), .slice B b.ws.length d] 25 (0, 0)) = V from hV.symm]
  clear hV
  go_wp2_with fail
  (with_reducible refine cc.mono ?_)
  rintro e w1 ⟨rfl, hb1⟩
  clear cc
  obtain ⟨l1, l2, e0, e1, f0, f1, -, hB1⟩ := HK.out w1 hb1
  have HB1 := Lib.hid hb1
  have HE1 := Lib.hid hB1
  have c1 : Calls Tryd.prog 14 #[.agg #[.string (str a.pth), .slice A a.ws.length c]] w1 fun e w' => ∃ r : Bool, e = .returned (.bool r) ∧ (r = true → a.ws.length ≤ 200 ∧ a.pth.length ≤ 200 ∧ ∀ x ∈ a.ws, x.tx.length ≤ 100) ∧ Below w1.heap.size w1 w' := few_any a A c w1 l1 hla
  clear hb1 l1 l2 hB1
  go_wp2_with fail
  (with_reducible refine c1.mono ?_)
  rintro e w2 ⟨r, rfl, hr, hb2⟩
  clear c1 e0 e1 f0 f1
  have hX2 := HB1.out.trans (hb2.mono HB1.out.size)
  obtain ⟨l1, l2, e0, e1, f0, f1, -, hB2⟩ := HK.out w2 hX2
  have HB2 := Lib.hid hX2
  have HE2 := Lib.hid hB2
  cases r with
  | false =>
    clear hb2 hX2 l1 l2 hB2 hr
    go_wp2_with fail
    go_ret
    exact ⟨rfl, HE2.out⟩
  | true =>
  have HR1 := Lib.hid (hr rfl)
  have c2 : Calls Tryd.prog 14 #[.agg #[.string (str b.pth), .slice B b.ws.length d]] w2 fun e w' => ∃ r : Bool, e = .returned (.bool r) ∧ (r = true → b.ws.length ≤ 200 ∧ b.pth.length ≤ 200 ∧ ∀ x ∈ b.ws, x.tx.length ≤ 100) ∧ Below w2.heap.size w2 w' := few_any b B d w2 l2 hlb
  clear hb2 hX2 l1 l2 hB2 hr
  go_wp2_with fail
  (with_reducible refine c2.mono ?_)
  rintro e w3 ⟨r, rfl, hr, hb3⟩
  clear c2 e0 e1 f0 f1
  have hX3 := HB2.out.trans (hb3.mono HB2.out.size)
  cases r with
  | false =>
    have HE3 := Lib.hid (HK.out w3 hX3).2.2.2.2.2.2.2
    clear hb3 hX3 hr
    go_wp2_with fail
    go_ret
    exact ⟨rfl, HE3.out⟩
  | true =>
  have HR2 := Lib.hid (hr rfl)
  have HTX := Lib.hid (fun (X : World) (hX : Below V.heap.size V X) => (show TxAt X A a ∧ TxAt X B b from
    ⟨⟨(HK.out X hX).1, fun x hx => by have := HR1.out.2.2 x hx; omega, by have := HR1.out.2.1; omega, hla⟩, ⟨(HK.out X hX).2.1, fun x hx => by have := HR2.out.2.2 x hx; omega, by have := HR2.out.2.1; omega, hlb⟩⟩))
  obtain ⟨-, -, e0, e1, f0, f1, hM3, hB3⟩ := HK.out w3 hX3
  have c3 : Calls Tryd.prog 15 #[.agg #[.string (str a.pth), .slice A a.ws.length c], .int .i64 i, .agg #[.string (str b.pth), .slice B b.ws.length d], .int .i64 j] w3 fun e w' => e = .returned (.int .i64 (comI a i b j : Int)) ∧ Below w3.heap.size w3 w' := common_any a b i j A B c d w3 (HTX.out w3 hX3).1 (HTX.out w3 hX3).2 hM3
  have HB3 := Lib.hid hX3
  have hal := HR1.out.1
  have hbl := HR2.out.1
  obtain ⟨n, hn⟩ : ∃ n, n = comI a i b j := ⟨_, rfl⟩
  rw [← hn] at c3
  have HN := Lib.hid hn
  clear hb3 hX3 hr hM3 hB3 hn
  go_wp2_with fail
  (with_reducible refine c3.mono ?_)
  rintro e w4 ⟨rfl, hb4⟩
  clear c3 e0 e1 f0 f1
  have hX4 := HB3.out.trans (hb4.mono HB3.out.size)
  obtain ⟨-, -, e0, e1, f0, f1, hM4, hB4⟩ := HK.out w4 hX4
  have c4 : Calls Tryd.prog 15 #[.agg #[.string (str b.pth), .slice B b.ws.length d], .int .i64 j, .agg #[.string (str a.pth), .slice A a.ws.length c], .int .i64 i] w4 fun e w' => e = .returned (.int .i64 (n : Int)) ∧ Below w4.heap.size w4 w' := by
    have h := common_any b a j i B A d c w4 (HTX.out w4 hX4).2 (HTX.out w4 hX4).1 hM4
    rw [comI_comm, ← HN.out] at h
    exact h
  have HB4 := Lib.hid hX4
  clear hb4 hX4 hM4 hB4
  go_wp2_with fail
  (with_reducible refine c4.mono ?_)
  rintro e w5 ⟨rfl, hb5⟩
  clear c4 e0 e1 f0 f1
  have hX5 := HB4.out.trans (hb5.mono HB4.out.size)
  obtain ⟨-, -, e0, e1, f0, f1, hM5, hB5⟩ := HK.out w5 hX5
  have hnn : (0 : Int) ≤ (n : Int) := by omega
  have b0 : decide ((n : Int) < 0) = false := decide_eq_false (by omega)
  have c5 : Calls Tryd.prog 21 #[.agg #[.string (str a.pth), .slice A a.ws.length c]] w5 fun e w' => e = .returned (.bool (vld a)) ∧ Below w5.heap.size w5 w' := valid_any a A c w5 (HTX.out w5 hX5).1 hM5
  have HB5 := Lib.hid hX5
  clear hb5 hX5 hM5 hB5
  obtain ⟨va, hva⟩ : ∃ va, va = vld a := ⟨_, rfl⟩
  rw [← hva] at c5
  have HVA := Lib.hid hva
  clear hva
  go_wp2_with fail
  (with_reducible refine c5.mono ?_)
  rintro e w6 ⟨rfl, hb6⟩
  clear c5 e0 e1 f0 f1
  have hX6 := HB5.out.trans (hb6.mono HB5.out.size)
  obtain ⟨-, -, e0, e1, f0, f1, hM6, hB6⟩ := HK.out w6 hX6
  have HE6 := Lib.hid hB6
  cases va with
  | false =>
    obtain rfl : n = 0 := by rw [HN.out]; exact if_neg (fun h => by have := HVA.out.trans h.1; cases this)
    clear hb6 hX6 hM6 hB6
    go_wp2_with fail
    go_ret
    exact ⟨rfl, HE6.out⟩
  | true =>
  have c6 : Calls Tryd.prog 21 #[.agg #[.string (str b.pth), .slice B b.ws.length d]] w6 fun e w' => e = .returned (.bool (vld b)) ∧ Below w6.heap.size w6 w' := valid_any b B d w6 (HTX.out w6 hX6).2 hM6
  have HB6 := Lib.hid hX6
  clear hb6 hX6 hM6 hB6
  obtain ⟨vb, hvb⟩ : ∃ vb, vb = vld b := ⟨_, rfl⟩
  rw [← hvb] at c6
  have HVB := Lib.hid hvb
  clear hvb
  go_wp2_with fail
  (with_reducible refine c6.mono ?_)
  rintro e w7 ⟨rfl, hb7⟩
  clear c6 e0 e1 f0 f1
  have hX7 := HB6.out.trans (hb7.mono HB6.out.size)
  obtain ⟨k1, k2, e0, e1, f0, f1, hM7, hB7⟩ := HK.out w7 hX7
  have HE7 := Lib.hid hB7
  have HB7 := Lib.hid hX7
  have HK1 := Lib.hid k1
  have HK2 := Lib.hid k2
  clear hb7 hX7 hM7 hB7 k1 k2
  cases vb with
  | false =>
    obtain rfl : n = 0 := by rw [HN.out]; exact if_neg (fun h => by have := HVB.out.trans h.2.1; cases this)
    go_wp2_with fail
    go_ret
    exact ⟨rfl, HE7.out⟩
  | true =>
  by_cases hi0 : i < 0
  · have z1 : decide (i < 0) = true := decide_eq_true hi0
    obtain rfl : n = 0 := by rw [HN.out]; exact if_neg (fun h => by have := h.2.2.1; omega)
    go_wp2_with fail
    go_ret
    exact ⟨rfl, HE7.out⟩
  have z1 : decide (i < 0) = false := decide_eq_false hi0
  by_cases hj0 : j < 0
  · have z2 : decide (j < 0) = true := decide_eq_true hj0
    obtain rfl : n = 0 := by rw [HN.out]; exact if_neg (fun h => by have := h.2.2.2.2.1; omega)
    go_wp2_with fail
    go_ret
    exact ⟨rfl, HE7.out⟩
  have z2 : decide (j < 0) = false := decide_eq_false hj0
  obtain ⟨I, rfl⟩ : ∃ I : Nat, i = I := ⟨i.toNat, by omega⟩
  obtain ⟨J, rfl⟩ : ∃ J : Nat, j = J := ⟨j.toNat, by omega⟩
  by_cases hia : a.ws.length < I
  · have z3 : decide ((a.ws.length : Int) < (I : Int)) = true := decide_eq_true (by omega)
    have z3n : decide (a.ws.length < I) = true := decide_eq_true hia
    obtain rfl : n = 0 := by rw [HN.out]; exact if_neg (fun h => by have := h.2.2.2.1; omega)
    go_wp2_with fail
    go_ret
    exact ⟨rfl, HE7.out⟩
  have z3 : decide ((a.ws.length : Int) < (I : Int)) = false := decide_eq_false (by omega)
  have z3n : decide (a.ws.length < I) = false := decide_eq_false hia
  by_cases hjb : b.ws.length < J
  · have z4 : decide ((b.ws.length : Int) < (J : Int)) = true := decide_eq_true (by omega)
    have z4n : decide (b.ws.length < J) = true := decide_eq_true hjb
    obtain rfl : n = 0 := by rw [HN.out]; exact if_neg (fun h => by have := h.2.2.2.2.2; omega)
    go_wp2_with fail
    go_ret
    exact ⟨rfl, HE7.out⟩
  have z4 : decide ((b.ws.length : Int) < (J : Int)) = false := decide_eq_false (by omega)
  have z4n : decide (b.ws.length < J) = false := decide_eq_false hjb
  have hcm : n = cmn (a.ws.drop I) (b.ws.drop J) := by
    rw [HN.out]; exact if_pos ⟨HVA.out.symm, HVB.out.symm, by omega, by omega, by omega, by omega⟩
  have hle := cmn_le (a.ws.drop I) (b.ws.drop J)
  rw [← hcm, List.length_drop, List.length_drop] at hle
  have HCG := Lib.hid (fun (k : Nat) (h : k < n) => (show ∃ x y : Lx, a.ws[I + k]? = some x ∧ b.ws[J + k]? = some y ∧ x.tx = y.tx from by
    obtain ⟨x, y, h1, h2, h3⟩ := cmn_get (a.ws.drop I) (b.ws.drop J) k (by rw [← hcm]; exact h)
    rw [List.getElem?_drop] at h1 h2
    exact ⟨x, y, h1, h2, h3⟩))
  have HCS := Lib.hid (show n = a.ws.length - I ∨ n = b.ws.length - J ∨ ∃ x y : Lx, a.ws[I + n]? = some x ∧ b.ws[J + n]? = some y ∧ x.tx ≠ y.tx from by
    have h := cmn_stop (a.ws.drop I) (b.ws.drop J)
    rw [← hcm, List.length_drop, List.length_drop, List.getElem?_drop, List.getElem?_drop] at h
    exact h)
  have x1 : decide (((a.ws.length : Int) - (I : Int)) < (n : Int)) = false := decide_eq_false (by omega)
  have x2 : decide (((b.ws.length : Int) - (J : Int)) < (n : Int)) = false := decide_eq_false (by omega)
  have hn200 : n ≤ 200 := by omega
  clear hcm hi0 hj0 z1 z2
  generalize hLa : a.ws = la at *
  generalize hLb : b.ws = lb at *
  clear hLa hLb
  go_wp2_with fail
  clear e0 e1 f0 f1
  go_loopw [86] (fun v wr => ∃ k : Nat, k ≤ n ∧ v = .int .i64 k ∧ Below V.heap.size V wr) (fun v _ => n - (intOf v).toNat)
  case atStart => exact ⟨0, by omega, rfl, HB7.out⟩
  case round =>
    obtain ⟨k, hk, rfl, hb⟩ := hrel
    obtain ⟨l1, l2, -, e1, -, f1, -, hB⟩ := HK.out wr hb
    have HEW := Lib.hid hB
    have HBW := Lib.hid hb
    by_cases hlt : k < n
    · have b1 : decide ((k : Int) < (n : Int)) = true := decide_eq_true (by omega)
      have b1n : decide (k < n) = true := decide_eq_true hlt
      obtain ⟨x, y, h1, h2, h3⟩ := HCG.out k hlt
      obtain ⟨g, o, rfl, hg, d0, -⟩ := l1 (I + k) (by omega)
      obtain ⟨g', o', rfl, hg', d0', -⟩ := l2 (J + k) (by omega)
      rw [List.getElem?_eq_getElem (by omega)] at h1 h2
      rw [Option.some.inj h1] at d0
      rw [Option.some.inj h2, ← h3] at d0'
      have y1 : (I : Int) + (k : Int) < (la.length : Int) := by omega
      have y2 : (J : Int) + (k : Int) < (lb.length : Int) := by omega
      clear h1 h2 h3 hg hg' l1 l2 hb hB
      go_upto_region 15 with (fail)
      go_quiet (fail)
      have hbQ := HBW.out.trans ((below_drewN wr nq).mono HBW.out.size)
      generalize wr.drewN nq = Q at *
      have HBQ := Lib.hid hbQ
      clear hbQ d0 d0' e1 f1
      go_wp2_with fail
      go_roundw
      case rel => exact ⟨k + 1, by omega, by go_num, HBQ.out⟩
      case measure => simp [intOf]; omega
    · have b1 : decide ((k : Int) < (n : Int)) = false := decide_eq_false (by omega)
      have b1n : decide (k < n) = false := decide_eq_false hlt
      go_upto_region 18 with (fail)
      by_cases hq1 : I + n = la.length
      · have q1 : ((I : Int) + (n : Int) == (la.length : Int)) = true := by rw [beq_iff_eq]; omega
        have q1n : (I + n == la.length) = true := by rw [beq_iff_eq]; exact hq1
        clear l1 l2
        go_quiet (fail)
        have HQ := Lib.hid (HEW.out.trans ((below_drewN wr nq).mono HEW.out.size))
        go_wp2_with fail
        go_ret
        exact ⟨rfl, HQ.out⟩
      have q1 : ((I : Int) + (n : Int) == (la.length : Int)) = false := by rw [beq_eq_false_iff_ne]; omega
      have q1n : (I + n == la.length) = false := by rw [beq_eq_false_iff_ne]; exact hq1
      by_cases hq2 : J + n = lb.length
      · have q2 : ((J : Int) + (n : Int) == (lb.length : Int)) = true := by rw [beq_iff_eq]; omega
        have q2n : (J + n == lb.length) = true := by rw [beq_iff_eq]; exact hq2
        clear l1 l2
        go_quiet (fail)
        have HQ := Lib.hid (HEW.out.trans ((below_drewN wr nq).mono HEW.out.size))
        go_wp2_with fail
        go_ret
        exact ⟨rfl, HQ.out⟩
      have q2 : ((J : Int) + (n : Int) == (lb.length : Int)) = false := by rw [beq_eq_false_iff_ne]; omega
      have q2n : (J + n == lb.length) = false := by rw [beq_eq_false_iff_ne]; exact hq2
      rcases HCS.out with h | h | ⟨x, y, h1, h2, h3⟩
      · omega
      · omega
      obtain ⟨g, o, rfl, hg, d0, -⟩ := l1 (I + n) (by omega)
      obtain ⟨g', o', rfl, hg', d0', -⟩ := l2 (J + n) (by omega)
      rw [List.getElem?_eq_getElem (by omega)] at h1 h2
      rw [Option.some.inj h1] at d0
      rw [Option.some.inj h2] at d0'
      have y1 : (I : Int) + (n : Int) < (la.length : Int) := by omega
      have y2 : (J : Int) + (n : Int) < (lb.length : Int) := by omega
      have q3 : ((str x.tx).toList != (str y.tx).toList) = true := by rw [strL, strL, bne_iff_ne]; exact h3
      have q4 : ((str x.tx).toList == (str y.tx).toList) = false := by rw [strL, strL, beq_eq_false_iff_ne]; exact h3
      clear h1 h2 h3 hg hg' l1 l2
      go_quiet (fail)
      have HQ := Lib.hid (HEW.out.trans ((below_drewN wr nq).mono HEW.out.size))
      go_wp2_with fail
      go_ret
      exact ⟨rfl, HQ.out⟩
end Nm
end Go.Proofs.YtenaohnginikhaaDoor
