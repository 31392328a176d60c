/- Common of the reference; NormalizeCommons. Condition: bytealg's MaxLen, the table of powers and strconv's errors lie in their variables. -/
import Derived.Test.YtenaohnginikhaaDoorNme
import Derived.Test.YtenaohnginikhaaDoorNqv
namespace Go.Proofs.YtenaohnginikhaaDoor
open Go.RowKit Go.Deep Tr
namespace Nm
theorem cmn_end (a b : List Lx) (h : a = [] ∨ b = []) : cmn a b = 0 := by
  rcases h with rfl | rfl
  · rfl
  · cases a <;> rfl
set_option maxHeartbeats 16000000 in
set_option maxRecDepth 100000 in
theorem qcommon_any (a b : Txt) (i j : Int) (A B : Option Addr) (c d : Nat) (w : World) (hA : LxAt w w.heap.size A a.ws) (hB : LxAt w w.heap.size B b.ws) (hla : a.ws.length ≤ 200) (hlb : b.ws.length ≤ 200) (hpa : a.pth.length ≤ 200) (hpb : b.pth.length ≤ 200) (hsa : ∀ x ∈ a.ws, x.tx.length ≤ 100) (hsb : ∀ x ∈ b.ws, x.tx.length ≤ 100) (hM : MaxAt w) :
    Calls Tryd.prog 16 #[txV A c a, .int .i64 i, txV B d b, .int .i64 j] w fun e w' => e = .returned (.int .i64 (comI a i b j : Int)) ∧ Below w.heap.size w w' := by
  have HV := Lib.hid (show comI a i b j = if comOk a i b j then cmn (a.ws.drop i.toNat) (b.ws.drop j.toNat) else 0 from rfl)
  generalize comI a i b j = v at *
  obtain ⟨W1, hW1⟩ : ∃ W1, W1 = w.alloc (txO A a.ws.length c (str a.pth)) := ⟨_, rfl⟩
  have hb1 : Below w.heap.size w W1 := by rw [hW1]; exact (Below.refl _ _).alloc (Nat.le_refl _) _
  have g1 : W1.heap[w.heap.size]? = some (txO A a.ws.length c (str a.pth)) := by rw [hW1]; exact heap_alloc_new w _
  have s1 : W1.heap.size = w.heap.size + 1 := by rw [hW1]; simp
  obtain ⟨V, hV⟩ : ∃ V, V = W1.alloc (txO B b.ws.length d (str b.pth)) := ⟨_, rfl⟩
  have hb2 : Below W1.heap.size W1 V := by rw [hV]; exact (Below.refl _ _).alloc (Nat.le_refl _) _
  have g2 : V.heap[w.heap.size + 1]? = some (txO B b.ws.length d (str b.pth)) := by rw [hV, ← s1]; exact heap_alloc_new W1 _
  have g1' := (hb2.block _ (by omega)).trans g1
  have hbV : Below w.heap.size w V := hb1.trans (hb2.mono (by omega))
  rw [hW1] at hV
  have HK := Lib.hid (fun (X : World) (hX : Below V.heap.size V X) => (show LxAt X X.heap.size A a.ws ∧ LxAt X X.heap.size B b.ws ∧ X.cell? ⟨w.heap.size, 0, none⟩ = some (.string (str a.pth)) ∧ X.cell? ⟨w.heap.size, 1, none⟩ = some (.slice A a.ws.length c) ∧ X.cell? ⟨w.heap.size + 1, 0, none⟩ = some (.string (str b.pth)) ∧ X.cell? ⟨w.heap.size + 1, 1, none⟩ = some (.slice B b.ws.length d) ∧ MaxAt X ∧ Below w.heap.size w X from
    have z1 := cells2 ((hX.block _ (blk_lt g1')).trans g1')
    have z2 := cells2 ((hX.block _ (blk_lt g2)).trans g2)
    have hbX := hbV.trans (hX.mono hbV.size)
    ⟨(hA.next hbV).next hX, (hB.next hbV).next hX, z1.1, z1.2, z2.1, z2.2, hM.below hbX, hbX⟩))
  have HTX := Lib.hid (fun (X : World) (hX : Below V.heap.size V X) => (show TxAt X A a ∧ TxAt X B b from
    ⟨⟨(HK.out X hX).1, fun x hx => by have := hsa x hx; omega, by omega, by omega⟩, ⟨(HK.out X hX).2.1, fun x hx => by have := hsb x hx; omega, by omega, by omega⟩⟩))
  have hX3 := Below.refl V.heap.size V
  have z := HK.out V hX3
  have e0 := z.2.2.1
  have e1 := z.2.2.2.1
  have HE3 := Lib.hid z.2.2.2.2.2.2.2
  have c5 : Calls Tryd.prog 36 #[.agg #[.string (str a.pth), .slice A a.ws.length c]] V fun e w' => e = .returned (.bool (vld a)) ∧ Below V.heap.size V w' := qvalid_any a A c V (HTX.out V hX3).1 (fun x hx => by have := hsa x hx; omega) (by omega)
  have HSB := Lib.hid hsb
  clear hA hB hM hb1 hb2 g1 g2 g1' hbV s1 hW1 z hX3 hsa hsb
  obtain ⟨va, hva⟩ : ∃ va, va = vld a := ⟨_, rfl⟩
  rw [← hva] at c5
  have HVA := Lib.hid hva
  clear hva
  go_enter Tryd.func16, Tryd.ntmps16
  go_upto_region 1 with (fail)
  rw [show (w.alloc (.cells #[.string (str a.pth), .slice A a.ws.length c] 25 (0, 0))).alloc (.cells #[.string (str b.pth), .slice B b.ws.length d] 25 (0, 0)) = V from hV.symm]
  clear hV
  go_wp2_with fail
  (with_reducible refine c5.mono ?_)
  rintro e w6 ⟨rfl, hX6⟩
  clear c5 e0 e1
  obtain ⟨-, -, e0, e1, f0, f1, hM6, hB6⟩ := HK.out w6 hX6
  have HE6 := Lib.hid hB6
  cases va with
  | false =>
    clear hX6 hM6 hB6
    have HZ := Lib.hid (show v = 0 by rw [HV.out]; exact if_neg (fun h => by have := HVA.out.trans h.1; cases this))
    go_wp2_with fail
    go_ret
    exact ⟨ret_int (by rw [HZ.out]; rfl), HE6.out⟩
  | true =>
  have c6 : Calls Tryd.prog 36 #[.agg #[.string (str b.pth), .slice B b.ws.length d]] w6 fun e w' => e = .returned (.bool (vld b)) ∧ Below w6.heap.size w6 w' := qvalid_any b B d w6 (HTX.out w6 hX6).2 (fun x hx => by have := HSB.out x hx; omega) (by omega)
  have HB6 := Lib.hid hX6
  clear hX6 hM6 hB6
  obtain ⟨vb, hvb⟩ : ∃ vb, vb = vld b := ⟨_, rfl⟩
  rw [← hvb] at c6
  have HVB := Lib.hid hvb
  clear hvb
  go_wp2_with fail
  (with_reducible refine c6.mono ?_)
  rintro e w7 ⟨rfl, hb7⟩
  clear c6 e0 e1 f0 f1
  have hX7 := HB6.out.trans (hb7.mono HB6.out.size)
  obtain ⟨k1, k2, e0, e1, f0, f1, hM7, hB7⟩ := HK.out w7 hX7
  have HE7 := Lib.hid hB7
  have HB7 := Lib.hid hX7
  clear hb7 hX7 hM7 hB7 k1 k2
  cases vb with
  | false =>
    have HZ := Lib.hid (show v = 0 by rw [HV.out]; exact if_neg (fun h => by have := HVB.out.trans h.2.1; cases this))
    go_wp2_with fail
    go_ret
    exact ⟨ret_int (by rw [HZ.out]; rfl), HE7.out⟩
  | true =>
  by_cases hi0 : i < 0
  · have z1 : decide (i < 0) = true := decide_eq_true hi0
    have HZ := Lib.hid (show v = 0 by rw [HV.out]; exact if_neg (fun h => by have := h.2.2.1; omega))
    go_wp2_with fail
    go_ret
    exact ⟨ret_int (by rw [HZ.out]; rfl), HE7.out⟩
  have z1 : decide (i < 0) = false := decide_eq_false hi0
  obtain ⟨I, rfl⟩ : ∃ I : Nat, i = I := ⟨i.toNat, by omega⟩
  by_cases hia : a.ws.length < I
  · have z3 : decide ((a.ws.length : Int) < (I : Int)) = true := decide_eq_true (by omega)
    have z3n : decide (a.ws.length < I) = true := decide_eq_true hia
    have HZ := Lib.hid (show v = 0 by rw [HV.out]; exact if_neg (fun h => by have := h.2.2.2.1; omega))
    go_wp2_with fail
    go_ret
    exact ⟨ret_int (by rw [HZ.out]; rfl), HE7.out⟩
  have z3 : decide ((a.ws.length : Int) < (I : Int)) = false := decide_eq_false (by omega)
  have z3n : decide (a.ws.length < I) = false := decide_eq_false hia
  by_cases hj0 : j < 0
  · have z2 : decide (j < 0) = true := decide_eq_true hj0
    have HZ := Lib.hid (show v = 0 by rw [HV.out]; exact if_neg (fun h => by have := h.2.2.2.2.1; omega))
    go_wp2_with fail
    go_ret
    exact ⟨ret_int (by rw [HZ.out]; rfl), HE7.out⟩
  have z2 : decide (j < 0) = false := decide_eq_false hj0
  obtain ⟨J, rfl⟩ : ∃ J : Nat, j = J := ⟨j.toNat, by omega⟩
  by_cases hjb : b.ws.length < J
  · have z4 : decide ((b.ws.length : Int) < (J : Int)) = true := decide_eq_true (by omega)
    have z4n : decide (b.ws.length < J) = true := decide_eq_true hjb
    have HZ := Lib.hid (show v = 0 by rw [HV.out]; exact if_neg (fun h => by have := h.2.2.2.2.2; omega))
    go_wp2_with fail
    go_ret
    exact ⟨ret_int (by rw [HZ.out]; rfl), HE7.out⟩
  have z4 : decide ((b.ws.length : Int) < (J : Int)) = false := decide_eq_false (by omega)
  have z4n : decide (b.ws.length < J) = false := decide_eq_false hjb
  have hcm : v = cmn (a.ws.drop I) (b.ws.drop J) := by
    rw [HV.out]; exact if_pos ⟨HVA.out.symm, HVB.out.symm, by omega, by omega, by omega, by omega⟩
  have HC := Lib.hid hcm
  clear hcm hi0 hj0
  generalize hLa : a.ws = la at *
  generalize hLb : b.ws = lb at *
  clear hLa hLb
  go_wp2_with fail
  clear e0 e1 f0 f1
  go_loopw [9] (fun s9 wr => ∃ n : Nat, s9 = .int .i64 n ∧ n ≤ la.length ∧ v = n + cmn (la.drop (I + n)) (lb.drop (J + n)) ∧ Below V.heap.size V wr) (fun s9 _ => la.length - (intOf s9).toNat)
  case atStart => exact ⟨0, rfl, by omega, by rw [HC.out, Nat.zero_add, Nat.add_zero, Nat.add_zero], HB7.out⟩
  case round =>
    obtain ⟨n, rfl, hn, hv, hb⟩ := hrel
    obtain ⟨l1, l2, -, e1, -, f1, -, hB⟩ := HK.out wr hb
    have HEW := Lib.hid hB
    have HBW := Lib.hid hb
    have HVN := Lib.hid hv
    clear hv hb hB
    by_cases ha : I + n < la.length
    case neg =>
      have q1 : decide ((I : Int) + (n : Int) < (la.length : Int)) = false := decide_eq_false (by omega)
      have q1n : decide (I + n < la.length) = false := decide_eq_false ha
      have HR := Lib.hid (show v = n by rw [HVN.out, cmn_end _ _ (.inl (List.drop_of_length_le (by omega))), Nat.add_zero])
      clear l1 l2
      go_upto_region 4 with (fail)
      go_quiet (fail)
      have HQ := Lib.hid (HEW.out.trans ((below_drewN wr nq).mono HEW.out.size))
      go_wp2_with fail
      go_ret
      exact ⟨ret_int (by rw [HR.out]), HQ.out⟩
    have q1 : decide ((I : Int) + (n : Int) < (la.length : Int)) = true := decide_eq_true (by omega)
    have q1n : decide (I + n < la.length) = true := decide_eq_true ha
    by_cases hbn : J + n < lb.length
    case neg =>
      have q2 : decide ((J : Int) + (n : Int) < (lb.length : Int)) = false := decide_eq_false (by omega)
      have q2n : decide (J + n < lb.length) = false := decide_eq_false hbn
      have HR := Lib.hid (show v = n by rw [HVN.out, cmn_end _ _ (.inr (List.drop_of_length_le (by omega))), Nat.add_zero])
      clear l1 l2
      go_upto_region 4 with (fail)
      go_quiet (fail)
      have HQ := Lib.hid (HEW.out.trans ((below_drewN wr nq).mono HEW.out.size))
      go_wp2_with fail
      go_ret
      exact ⟨ret_int (by rw [HR.out]), HQ.out⟩
    have q2 : decide ((J : Int) + (n : Int) < (lb.length : Int)) = true := decide_eq_true (by omega)
    have q2n : decide (J + n < lb.length) = true := decide_eq_true hbn
    obtain ⟨g, o, hAe, hg, d0, -⟩ := l1 (I + n) ha
    obtain ⟨g', o', hBe, hg', d0', -⟩ := l2 (J + n) hbn
    rw [hAe] at e1
    rw [hBe] at f1
    have HD1 := Lib.hid (List.drop_eq_getElem_cons ha)
    have HD2 := Lib.hid (List.drop_eq_getElem_cons hbn)
    have y1 : (I : Int) + (n : Int) < (la.length : Int) := by omega
    have y2 : (J : Int) + (n : Int) < (lb.length : Int) := by omega
    clear hAe hBe l1 l2 hg hg'
    generalize la[I + n] = x at *
    generalize lb[J + n] = y at *
    by_cases hxy : x.tx = y.tx
    · have HR := Lib.hid (show v = (n + 1) + cmn (la.drop (I + (n + 1))) (lb.drop (J + (n + 1))) by
        rw [HVN.out, HD1.out, HD2.out, cmn, if_pos hxy, show I + (n + 1) = I + n + 1 by omega, show J + (n + 1) = J + n + 1 by omega]; omega)
      have q3 : ((str x.tx).toList == (str y.tx).toList) = true := by rw [strL, strL, beq_iff_eq]; exact hxy
      clear hxy
      generalize str x.tx = sx at *
      generalize str y.tx = sy at *
      go_upto_region 4 with (fail)
      go_quiet (fail)
      have HQ := Lib.hid (HBW.out.trans ((below_drewN wr nq).mono HBW.out.size))
      clear d0 d0' e1 f1
      go_wp2_with fail
      go_roundw
      case rel => exact ⟨n + 1, by go_num, by omega, HR.out, HQ.out⟩
      case measure => simp [intOf]; omega
    · have HR := Lib.hid (show v = n by rw [HVN.out, HD1.out, HD2.out, cmn, if_neg hxy, Nat.add_zero])
      have q3 : ((str x.tx).toList == (str y.tx).toList) = false := by rw [strL, strL, beq_eq_false_iff_ne]; exact hxy
      clear hxy
      generalize str x.tx = sx at *
      generalize str y.tx = sy at *
      go_upto_region 4 with (fail)
      go_quiet (fail)
      have HQ := Lib.hid (HEW.out.trans ((below_drewN wr nq).mono HEW.out.size))
      go_wp2_with fail
      go_ret
      exact ⟨ret_int (by rw [HR.out]), HQ.out⟩

set_option maxHeartbeats 16000000 in
set_option maxRecDepth 100000 in
theorem commons_law (a b : Txt) (i j : Int) (A B : Option Addr) (c d : Nat) (w : World) (hA : LxAt w w.heap.size A a.ws) (hB : LxAt w w.heap.size B b.ws) (hla : a.ws.length ≤ 5864062014634) (hlb : b.ws.length ≤ 5864062014634) (hM : MaxAt w) (hE : ErrAt w) (hT : Cd.Tabs w) :
    Calls Tryd.prog 4 #[txV A c a, .int .i64 i, txV B d b, .int .i64 j] w fun e w' => e = .returned (.bool true) ∧ Below w.heap.size w w' := by
  obtain ⟨W1, hW1⟩ : ∃ W1, W1 = w.alloc (txO A a.ws.length c (str a.pth)) := ⟨_, rfl⟩
  have hb1 : Below w.heap.size w W1 := by rw [hW1]; exact (Below.refl _ _).alloc (Nat.le_refl _) _
  have g1 : W1.heap[w.heap.size]? = some (txO A a.ws.length c (str a.pth)) := by rw [hW1]; exact heap_alloc_new w _
  have s1 : W1.heap.size = w.heap.size + 1 := by rw [hW1]; simp
  obtain ⟨V, hV⟩ : ∃ V, V = W1.alloc (txO B b.ws.length d (str b.pth)) := ⟨_, rfl⟩
  have hb2 : Below W1.heap.size W1 V := by rw [hV]; exact (Below.refl _ _).alloc (Nat.le_refl _) _
  have g2 : V.heap[w.heap.size + 1]? = some (txO B b.ws.length d (str b.pth)) := by rw [hV, ← s1]; exact heap_alloc_new W1 _
  have g1' := (hb2.block _ (by omega)).trans g1
  have hbV : Below w.heap.size w V := hb1.trans (hb2.mono (by omega))
  rw [hW1] at hV
  have HK := Lib.hid (fun (X : World) (hX : Below V.heap.size V X) => (show LxAt X X.heap.size A a.ws ∧ LxAt X X.heap.size B b.ws ∧ X.cell? ⟨w.heap.size, 0, none⟩ = some (.string (str a.pth)) ∧ X.cell? ⟨w.heap.size, 1, none⟩ = some (.slice A a.ws.length c) ∧ X.cell? ⟨w.heap.size + 1, 0, none⟩ = some (.string (str b.pth)) ∧ X.cell? ⟨w.heap.size + 1, 1, none⟩ = some (.slice B b.ws.length d) ∧ MaxAt X ∧ Below w.heap.size w X from
    have z1 := cells2 ((hX.block _ (blk_lt g1')).trans g1')
    have z2 := cells2 ((hX.block _ (blk_lt g2)).trans g2)
    have hbX := hbV.trans (hX.mono hbV.size)
    ⟨(hA.next hbV).next hX, (hB.next hbV).next hX, z1.1, z1.2, z2.1, z2.2, hM.below hbX, hbX⟩))
  have cc := awake_any V (hM.below hbV) (hE.below hbV) (hT.below hbV)
  clear hA hB hM hE hT hb1 hb2 g1 g2 g1' hbV s1 hW1
  go_enter Tryd.func4, Tryd.ntmps4
  go_upto_region 1 with (fail)
  rw [show (w.alloc (.cells #[.string (str a.pth), .slice A a.ws.length c] 25 (0, 0))).alloc (.cells #[.string (str b.pth), .slice B b.ws.length d] 25 (0, 0)) = V from hV.symm]
  clear hV
  go_wp2_with fail
  (with_reducible refine cc.mono ?_)
  rintro e w1 ⟨rfl, hb1⟩
  clear cc
  obtain ⟨l1, l2, e0, e1, f0, f1, -, hB1⟩ := HK.out w1 hb1
  have HB1 := Lib.hid hb1
  have HE1 := Lib.hid hB1
  have c1 : Calls Tryd.prog 14 #[.agg #[.string (str a.pth), .slice A a.ws.length c]] w1 fun e w' => ∃ r : Bool, e = .returned (.bool r) ∧ (r = true → a.ws.length ≤ 200 ∧ a.pth.length ≤ 200 ∧ ∀ x ∈ a.ws, x.tx.length ≤ 100) ∧ Below w1.heap.size w1 w' := few_any a A c w1 l1 hla
  clear hb1 l1 l2 hB1
  go_wp2_with fail
  (with_reducible refine c1.mono ?_)
  rintro e w2 ⟨r, rfl, hr, hb2⟩
  clear c1 e0 e1 f0 f1
  have hX2 := HB1.out.trans (hb2.mono HB1.out.size)
  obtain ⟨l1, l2, e0, e1, f0, f1, -, hB2⟩ := HK.out w2 hX2
  have HB2 := Lib.hid hX2
  have HE2 := Lib.hid hB2
  cases r with
  | false =>
    clear hb2 hX2 l1 l2 hB2 hr
    go_wp2_with fail
    go_ret
    exact ⟨rfl, HE2.out⟩
  | true =>
  have HR1 := Lib.hid (hr rfl)
  have c2 : Calls Tryd.prog 14 #[.agg #[.string (str b.pth), .slice B b.ws.length d]] w2 fun e w' => ∃ r : Bool, e = .returned (.bool r) ∧ (r = true → b.ws.length ≤ 200 ∧ b.pth.length ≤ 200 ∧ ∀ x ∈ b.ws, x.tx.length ≤ 100) ∧ Below w2.heap.size w2 w' := few_any b B d w2 l2 hlb
  clear hb2 hX2 l1 l2 hB2 hr
  go_wp2_with fail
  (with_reducible refine c2.mono ?_)
  rintro e w3 ⟨r, rfl, hr, hb3⟩
  clear c2 e0 e1 f0 f1
  have hX3 := HB2.out.trans (hb3.mono HB2.out.size)
  cases r with
  | false =>
    have HE3 := Lib.hid (HK.out w3 hX3).2.2.2.2.2.2.2
    clear hb3 hX3 hr
    go_wp2_with fail
    go_ret
    exact ⟨rfl, HE3.out⟩
  | true =>
  have HR2 := Lib.hid (hr rfl)
  have HTX := Lib.hid (fun (X : World) (hX : Below V.heap.size V X) => (show TxAt X A a ∧ TxAt X B b from
    ⟨⟨(HK.out X hX).1, fun x hx => by have := HR1.out.2.2 x hx; omega, by have := HR1.out.2.1; omega, hla⟩, ⟨(HK.out X hX).2.1, fun x hx => by have := HR2.out.2.2 x hx; omega, by have := HR2.out.2.1; omega, hlb⟩⟩))
  have HXX := Lib.hid hX3
  have HST := Lib.hid (fun (X : World) (hX : Below V.heap.size V X) => (show X.cell? ⟨w.heap.size, 0, none⟩ = some (.string (str a.pth)) ∧ X.cell? ⟨w.heap.size, 1, none⟩ = some (.slice A a.ws.length c) ∧ X.cell? ⟨w.heap.size + 1, 0, none⟩ = some (.string (str b.pth)) ∧ X.cell? ⟨w.heap.size + 1, 1, none⟩ = some (.slice B b.ws.length d) from
    have z := HK.out X hX
    ⟨z.2.2.1, z.2.2.2.1, z.2.2.2.2.1, z.2.2.2.2.2.1⟩))
  have HC3 := Lib.hid (fun (X : World) (hX : Below V.heap.size V X) => (show Calls Tryd.prog 15 #[.agg #[.string (str a.pth), .slice A a.ws.length c], .int .i64 i, .agg #[.string (str b.pth), .slice B b.ws.length d], .int .i64 j] X fun e w' => e = .returned (.int .i64 (comI a i b j : Int)) ∧ Below X.heap.size X w' from
    common_any a b i j A B c d X (HTX.out X hX).1 (HTX.out X hX).2 (HK.out X hX).2.2.2.2.2.2.1))
  have HC4 := Lib.hid (fun (X : World) (hX : Below V.heap.size V X) => (show Calls Tryd.prog 16 #[.agg #[.string (str a.pth), .slice A a.ws.length c], .int .i64 i, .agg #[.string (str b.pth), .slice B b.ws.length d], .int .i64 j] X fun e w' => e = .returned (.int .i64 (comI a i b j : Int)) ∧ Below X.heap.size X w' from
    qcommon_any a b i j A B c d X (HK.out X hX).1 (HK.out X hX).2.1 HR1.out.1 HR2.out.1 HR1.out.2.1 HR2.out.2.1 HR1.out.2.2 HR2.out.2.2 (HK.out X hX).2.2.2.2.2.2.1))
  clear hb3 hX3 hr
  generalize comI a i b j = n at *
  go_upto_region 5 with (fail)
  have BD : Below V.heap.size V w3.drew := HXX.out.drew
  refine wp_region_held_drew (S := (fun w' : World => w'.cell? ⟨w.heap.size, 0, none⟩ = some (.string (str a.pth)) ∧ w'.cell? ⟨w.heap.size, 1, none⟩ = some (.slice A a.ws.length c) ∧ w'.cell? ⟨w.heap.size + 1, 0, none⟩ = some (.string (str b.pth)) ∧ w'.cell? ⟨w.heap.size + 1, 1, none⟩ = some (.slice B b.ws.length d))) (by kernel_rfl) (HST.out _ BD) (fun hHeld => ?_)
  refine wpAnyH_take (i := 0) (oi := { dst := some 19, op := _, type := _, pos := _, after := _, guard := _ }) (v := ?v1) rfl (by kernel_rfl) (by kernel_rfl) (by kernel_rfl) (fun _ _ _ h => h) (Or.inl ⟨by rfl, ?hy1⟩) (by assumption) ?rest1
  case hy1 =>
    intro w hSw
    try dsimp only at hSw
    go_simp
    try with_reducible rfl
  try simp only [Act.put]
  refine wpAnyH_take (i := 1) (oi := { dst := some 20, op := _, type := _, pos := _, after := _, guard := _ }) (v := ?v2) rfl (by kernel_rfl) (by kernel_rfl) (by kernel_rfl) (fun _ _ _ h => h) (Or.inl ⟨by rfl, ?hy2⟩) (by assumption) ?rest2
  case hy2 =>
    intro w hSw
    try dsimp only at hSw
    go_simp
    try with_reducible rfl
  try simp only [Act.put]
  refine wpAnyH_take (i := 2) (oi := { dst := some 21, op := _, type := _, pos := _, after := _, guard := _ }) (v := ?v3) rfl (by kernel_rfl) (by kernel_rfl) (by kernel_rfl) (fun _ _ _ h => h) (Or.inl ⟨by rfl, ?hy3⟩) (by assumption) ?rest3
  case hy3 =>
    intro w hSw
    try dsimp only at hSw
    go_simp
    try with_reducible rfl
  try simp only [Act.put]
  refine wpAnyH_take (i := 3) (oi := { dst := some 22, op := _, type := _, pos := _, after := _, guard := _ }) (v := ?v4) rfl (by kernel_rfl) (by kernel_rfl) (by kernel_rfl) (fun _ _ _ h => h) (Or.inl ⟨by rfl, ?hy4⟩) (by assumption) ?rest4
  case hy4 =>
    intro w hSw
    try dsimp only at hSw
    go_simp
    try with_reducible rfl
  try simp only [Act.put]
  refine wpAnyH_take (i := 5) (oi := { dst := some 24, op := _, type := _, pos := _, after := _, guard := _ }) (v := ?v5) rfl (by kernel_rfl) (by kernel_rfl) (by kernel_rfl) (fun _ _ _ h => h) (Or.inl ⟨by rfl, ?hy5⟩) (by assumption) ?rest5
  case hy5 =>
    intro w hSw
    try dsimp only at hSw
    go_simp
    try with_reducible rfl
  try simp only [Act.put]
  refine wpAnyH_take (i := 6) (oi := { dst := some 25, op := _, type := _, pos := _, after := _, guard := _ }) (v := ?v6) rfl (by kernel_rfl) (by kernel_rfl) (by kernel_rfl) (fun _ _ _ h => h) (Or.inl ⟨by rfl, ?hy6⟩) (by assumption) ?rest6
  case hy6 =>
    intro w hSw
    try dsimp only at hSw
    go_simp
    try with_reducible rfl
  try simp only [Act.put]
  refine wpAnyH_take (i := 7) (oi := { dst := some 26, op := _, type := _, pos := _, after := _, guard := _ }) (v := ?v7) rfl (by kernel_rfl) (by kernel_rfl) (by kernel_rfl) (fun _ _ _ h => h) (Or.inl ⟨by rfl, ?hy7⟩) (by assumption) ?rest7
  case hy7 =>
    intro w hSw
    try dsimp only at hSw
    go_simp
    try with_reducible rfl
  try simp only [Act.put]
  refine wpAnyH_take (i := 8) (oi := { dst := some 27, op := _, type := _, pos := _, after := _, guard := _ }) (v := ?v8) rfl (by kernel_rfl) (by kernel_rfl) (by kernel_rfl) (fun _ _ _ h => h) (Or.inl ⟨by rfl, ?hy8⟩) (by assumption) ?rest8
  case hy8 =>
    intro w hSw
    try dsimp only at hSw
    go_simp
    try with_reducible rfl
  try simp only [Act.put]
  refine wpAnyH_ready (rs := [4]) (by kernel_rfl) (by simp) ?_
  refine AllReadyH.cons (o := _) rfl (fun K hK => ?_) AllReadyH.nil
  go_simp
  have cc := HC3.out w3.drew BD
  go_at_call 15
  with_reducible refine cc.mono ?_
  clear cc
  rintro e wa ⟨rfl, hbn⟩
  have BA := BD.trans (hbn.mono BD.size)
  clear hbn
  refine hK.out _ _ (HST.out _ BA) (fun hHeld => ?_)
  clear hK K
  try simp only [Act.put]
  refine wpAnyH_ready (rs := [9]) (by kernel_rfl) (by simp) ?_
  refine AllReadyH.cons (o := _) rfl (fun K hK => ?_) AllReadyH.nil
  go_simp
  have cc := HC4.out wa BA
  go_at_call 16
  with_reducible refine cc.mono ?_
  clear cc
  rintro e wb ⟨rfl, hbn⟩
  have BB := BA.trans (hbn.mono BA.size)
  clear hbn
  refine hK.out _ _ (HST.out _ BB) (fun hHeld => ?_)
  clear hK K
  try simp only [Act.put]
  refine wpAnyH_take (i := 10) (oi := { dst := some 29, op := _, type := _, pos := _, after := _, guard := _ }) (v := ?v9) rfl (by kernel_rfl) (by kernel_rfl) (by kernel_rfl) (fun _ _ _ h => h) (Or.inl ⟨by rfl, ?hy9⟩) (by assumption) ?rest9
  case hy9 =>
    intro w hSw
    try dsimp only at hSw
    go_simp
    try with_reducible rfl
  try simp only [Act.put]
  refine wpAnyH_take (i := 11) (oi := { dst := some 8, op := _, type := _, pos := _, after := _, guard := _ }) (v := ?v10) rfl (by kernel_rfl) (by kernel_rfl) (by kernel_rfl) (fun _ _ _ h => h) (Or.inl ⟨by rfl, ?hy10⟩) (by assumption) ?rest10
  case hy10 =>
    intro w hSw
    try dsimp only at hSw
    go_simp
    try with_reducible rfl
  try simp only [Act.put]
  refine wpAnyH_done (by kernel_rfl) ?_ _
  try simp only [List.setIfInBounds_toArray]
  have HF := Lib.hid (HK.out _ BB).2.2.2.2.2.2.2
  clear BA BB
  go_wp2_with fail
  go_ret
  exact ⟨rfl, HF.out⟩
end Nm
end Go.Proofs.YtenaohnginikhaaDoor
