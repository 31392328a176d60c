/- Common. Condition: bytealg's MaxLen lies in its variable; the lengths. -/
import Derived.Test.YtkmldaelgbkfbaaDoorNvl
import Derived.Deep.QuietTactic
import Derived.BigQuiet
namespace Go.Proofs.YtkmldaelgbkfbaaDoor
open Go.RowKit Go.Deep Tr
namespace Nm
theorem below_drewN (w : World) (n : Nat) : Below w.heap.size w (w.drewN n) := ⟨rfl, rfl, rfl, Nat.le_refl _, fun _ _ => rfl⟩
/-- How many words are equal from the beginning. -/
def cmn : List Lx → List Lx → Nat
  | x :: r, y :: s => if x.tx = y.tx then cmn r s + 1 else 0
  | _, _ => 0
theorem cmn_le : ∀ a b, cmn a b ≤ a.length ∧ cmn a b ≤ b.length
  | [], b => by simp [cmn]
  | _ :: _, [] => by simp [cmn]
  | x :: r, y :: s => by
    have := cmn_le r s
    unfold cmn
    split
    · simp; omega
    · simp
theorem cmn_get : ∀ (a b : List Lx) k, k < cmn a b → ∃ x y, a[k]? = some x ∧ b[k]? = some y ∧ x.tx = y.tx
  | [], _, _, h => by simp [cmn] at h
  | _ :: _, [], _, h => by simp [cmn] at h
  | x :: r, y :: s, k, h => by
    unfold cmn at h
    split at h
    · rename_i e
      match k with
      | 0 => exact ⟨x, y, rfl, rfl, e⟩
      | k + 1 => exact cmn_get r s k (by omega)
    · omega
theorem cmn_stop : ∀ (a b : List Lx), cmn a b = a.length ∨ cmn a b = b.length ∨ ∃ x y, a[cmn a b]? = some x ∧ b[cmn a b]? = some y ∧ x.tx ≠ y.tx
  | [], b => .inl (by simp [cmn])
  | _ :: _, [] => .inr (.inl (by simp [cmn]))
  | x :: r, y :: s => by
    unfold cmn
    split
    · rcases cmn_stop r s with h | h | h
      · exact .inl (by simp [h])
      · exact .inr (.inl (by simp [h]))
      · exact .inr (.inr (by simpa using h))
    · rename_i e
      exact .inr (.inr ⟨x, y, rfl, rfl, e⟩)
theorem cmn_comm : ∀ (a b : List Lx), cmn a b = cmn b a
  | [], [] => rfl
  | [], _ :: _ => rfl
  | _ :: _, [] => rfl
  | x :: r, y :: s => by
    unfold cmn
    rw [cmn_comm r s]
    by_cases h : x.tx = y.tx
    · rw [if_pos h, if_pos h.symm]
    · rw [if_neg h, if_neg (fun e => h e.symm)]
/-- What Common returns. -/
def comOk (a : Txt) (i : Int) (b : Txt) (j : Int) : Prop := vld a = true ∧ vld b = true ∧ 0 ≤ i ∧ i ≤ a.ws.length ∧ 0 ≤ j ∧ j ≤ b.ws.length
instance (a : Txt) (i : Int) (b : Txt) (j : Int) : Decidable (comOk a i b j) := by unfold comOk; infer_instance
def comI (a : Txt) (i : Int) (b : Txt) (j : Int) : Nat := if comOk a i b j then cmn (a.ws.drop i.toNat) (b.ws.drop j.toNat) else 0
theorem toL (l : List UInt8) : (str l).toList = l := by rw [ByteArray.toList_eq]; rfl
set_option maxHeartbeats 8000000 in
set_option maxRecDepth 100000 in
theorem common_any (a b : Txt) (i j : Int) (A B : Option Addr) (c d : Nat) (w : World) (hA : TxAt w A a) (hB : TxAt w B b) (hM : MaxAt w) :
    Calls Tryd.prog 13 #[txV A c a, .int .i64 i, txV B d b, .int .i64 j] w fun e w' => e = .returned (.int .i64 (comI a i b j : Int)) ∧ Below w.heap.size w w' := by
  have HV := Lib.hid (show comI a i b j = if comOk a i b j then cmn (a.ws.drop i.toNat) (b.ws.drop j.toNat) else 0 from rfl)
  generalize comI a i b j = v at *
  obtain ⟨W1, hW1⟩ : ∃ W1, W1 = w.alloc (txO A a.ws.length c (str a.pth)) := ⟨_, rfl⟩
  have hG1 : W1.heap[w.heap.size]? = some (txO A a.ws.length c (str a.pth)) := by rw [hW1]; exact heap_alloc_new _ _
  have hb1 : Below w.heap.size w W1 := by rw [hW1]; exact (Below.refl _ _).alloc (Nat.le_refl _) _
  obtain ⟨W2, hW2⟩ : ∃ W2, W2 = W1.alloc (txO B b.ws.length d (str b.pth)) := ⟨_, rfl⟩
  have hG2 : W2.heap[W1.heap.size]? = some (txO B b.ws.length d (str b.pth)) := by rw [hW2]; exact heap_alloc_new _ _
  have hb2 : Below W1.heap.size W1 W2 := by rw [hW2]; exact (Below.refl _ _).alloc (Nat.le_refl _) _
  have hb02 := hb1.trans (hb2.mono hb1.size)
  have hG12 := (hb2.block _ (blk_lt hG1)).trans hG1
  have hsz : W1.heap.size = w.heap.size + 1 := by rw [hW1]; simp
  have HA2 := Lib.hid (hA.next hb02)
  have HB2 := Lib.hid (hB.next hb02)
  have HM2 := Lib.hid (hM.below hb02)
  have HBW := Lib.hid hb02
  obtain ⟨p0, p1⟩ := cells2 hG12
  obtain ⟨p2, p3⟩ := cells2 hG2
  rw [hsz] at p2 p3
  have HQ1 := Lib.hid (blk_lt hG12)
  have HQ2 := Lib.hid (show w.heap.size + 1 < W2.heap.size by rw [← hsz]; exact blk_lt hG2)
  have c1 := valid_any a A c W2 HA2.out HM2.out
  have HLa := Lib.hid hA.wl
  have HLb := Lib.hid hB.wl
  have hWW : W2 = (w.alloc (.cells #[.string (str a.pth), .slice A a.ws.length c] 24 (0, 0))).alloc (.cells #[.string (str b.pth), .slice B b.ws.length d] 24 (0, 0)) := by rw [hW2, hW1]; rfl
  clear hA hB hM hb1 hb2 hb02 hG1 hG12 hG2 hsz hW1 hW2
  go_enter Tryd.func13, Tryd.ntmps13
  go_upto_region 1 with (fail)
  rw [← hWW]
  clear hWW
  go_wp2_with fail
  (with_reducible refine c1.mono ?_); rintro e w3 ⟨rfl, hb⟩
  have HA3 := Lib.hid (HA2.out.next hb)
  have HB3 := Lib.hid (HB2.out.next hb)
  have HM3 := Lib.hid (HM2.out.below hb)
  have HB03 := Lib.hid (HBW.out.trans (hb.mono HBW.out.size))
  have r0 := (hb.cell (p := ⟨w.heap.size, 0, none⟩) HQ1.out).trans p0
  have r1 := (hb.cell (p := ⟨w.heap.size, 1, none⟩) HQ1.out).trans p1
  have r2 := (hb.cell (p := ⟨w.heap.size + 1, 0, none⟩) HQ2.out).trans p2
  have r3 := (hb.cell (p := ⟨w.heap.size + 1, 1, none⟩) HQ2.out).trans p3
  have HQ3 := Lib.hid (Nat.lt_of_lt_of_le HQ1.out hb.size)
  have HQ4 := Lib.hid (Nat.lt_of_lt_of_le HQ2.out hb.size)
  clear hb c1 p0 p1 p2 p3
  generalize hva : vld a = va at *
  have HVA := Lib.hid hva
  clear hva
  cases va with
  | false =>
    have HF := Lib.hid (show v = 0 by rw [HV.out, if_neg (fun h => by have := h.1; rw [HVA.out] at this; cases this)])
    go_wp2_with fail
    go_ret
    exact ⟨by rw [HF.out]; rfl, HB03.out⟩
  | true =>
  have c2 := valid_any b B d w3 HB3.out HM3.out
  go_wp2_with fail
  (with_reducible refine c2.mono ?_); rintro e w4 ⟨rfl, hb⟩
  have HA4 := Lib.hid (HA3.out.next hb)
  have HB4 := Lib.hid (HB3.out.next hb)
  have HB04 := Lib.hid (HB03.out.trans (hb.mono HB03.out.size))
  have s0 := (hb.cell (p := ⟨w.heap.size, 0, none⟩) HQ3.out).trans r0
  have s1 := (hb.cell (p := ⟨w.heap.size, 1, none⟩) HQ3.out).trans r1
  have s2 := (hb.cell (p := ⟨w.heap.size + 1, 0, none⟩) HQ4.out).trans r2
  have s3 := (hb.cell (p := ⟨w.heap.size + 1, 1, none⟩) HQ4.out).trans r3
  clear hb c2 r0 r1 r2 r3
  generalize hvb : vld b = vb at *
  have HVB := Lib.hid hvb
  clear hvb
  cases vb with
  | false =>
    have HF := Lib.hid (show v = 0 by rw [HV.out, if_neg (fun h => by have := h.2.1; rw [HVB.out] at this; cases this)])
    go_wp2_with fail
    go_ret
    exact ⟨by rw [HF.out]; rfl, HB04.out⟩
  | true =>
  by_cases t1 : i < 0
  · have d1 : decide (i < 0) = true := decide_eq_true t1
    have HF := Lib.hid (show v = 0 by rw [HV.out, if_neg (fun h => by obtain ⟨-, -, h1, h2, h3, h4⟩ := h; omega)])
    clear t1
    go_wp2_with fail
    go_ret
    exact ⟨by rw [HF.out]; rfl, HB04.out⟩
  have d1 : decide (i < 0) = false := decide_eq_false t1
  by_cases t2 : (a.ws.length : Int) < i
  · have d2 : decide ((a.ws.length : Int) < i) = true := decide_eq_true t2
    have HF := Lib.hid (show v = 0 by rw [HV.out, if_neg (fun h => by obtain ⟨-, -, h1, h2, h3, h4⟩ := h; omega)])
    clear t1 t2
    go_wp2_with fail
    go_ret
    exact ⟨by rw [HF.out]; rfl, HB04.out⟩
  have d2 : decide ((a.ws.length : Int) < i) = false := decide_eq_false t2
  by_cases t3 : j < 0
  · have d3 : decide (j < 0) = true := decide_eq_true t3
    have HF := Lib.hid (show v = 0 by rw [HV.out, if_neg (fun h => by obtain ⟨-, -, h1, h2, h3, h4⟩ := h; omega)])
    clear t1 t2 t3
    go_wp2_with fail
    go_ret
    exact ⟨by rw [HF.out]; rfl, HB04.out⟩
  have d3 : decide (j < 0) = false := decide_eq_false t3
  by_cases t4 : (b.ws.length : Int) < j
  · have d4 : decide ((b.ws.length : Int) < j) = true := decide_eq_true t4
    have HF := Lib.hid (show v = 0 by rw [HV.out, if_neg (fun h => by obtain ⟨-, -, h1, h2, h3, h4⟩ := h; omega)])
    clear t1 t2 t3 t4
    go_wp2_with fail
    go_ret
    exact ⟨by rw [HF.out]; rfl, HB04.out⟩
  have d4 : decide ((b.ws.length : Int) < j) = false := decide_eq_false t4
  obtain ⟨I, rfl⟩ : ∃ I : Nat, i = I := ⟨i.toNat, by omega⟩
  obtain ⟨J, rfl⟩ : ∃ J : Nat, j = J := ⟨j.toNat, by omega⟩
  have d2n : decide (a.ws.length < I) = false := decide_eq_false (by omega)
  have d4n : decide (b.ws.length < J) = false := decide_eq_false (by omega)
  have HF := Lib.hid (show v = cmn (a.ws.drop I) (b.ws.drop J) by rw [HV.out, if_pos ⟨HVA.out, HVB.out, by omega, by omega, by omega, by omega⟩]; rfl)
  have HIJ := Lib.hid (show I ≤ a.ws.length ∧ J ≤ b.ws.length by omega)
  obtain ⟨M, hM⟩ : ∃ M, M = min (a.ws.length - I) (b.ws.length - J) := ⟨_, rfl⟩
  have u1 : IntKind.i64.wrap ((a.ws.length : Int) - (I : Int)) = (a.ws.length : Int) - (I : Int) := by have := HLa.out; rw [IntKind.wrap_i64]; omega
  have u2 : IntKind.i64.wrap ((b.ws.length : Int) - (J : Int)) = (b.ws.length : Int) - (J : Int) := by have := HLb.out; rw [IntKind.wrap_i64]; omega
  have mn : min ((a.ws.length : Int) - (I : Int)) ((b.ws.length : Int) - (J : Int)) = (M : Int) := by omega
  have HMM := Lib.hid hM
  clear HV t1 t2 t3 t4 hM
  go_wp2_with fail
  go_loopw [9] (fun s9 wr => ∃ n : Nat, s9 = .int .i64 n ∧ n ≤ M ∧ v = cmn (a.ws.drop (I + n)) (b.ws.drop (J + n)) + n ∧ Below w4.heap.size w4 wr) (fun s9 _ => M - (intOf s9).toNat)
  case atStart => exact ⟨0, rfl, by omega, by rw [HF.out]; rfl, Below.refl _ _⟩
  case round =>
    obtain ⟨n, rfl, hn, hv, hb⟩ := hrel
    have hij := HIJ.out
    have hmm := HMM.out
    have hla := HLa.out
    have hlb := HLb.out
    have HVN := Lib.hid hv
    clear hv
    have e0 := (hb.cell (p := ⟨w.heap.size, 1, none⟩) (World.block_lt_of_cell? w4 _ s1)).trans s1
    have e1 := (hb.cell (p := ⟨w.heap.size + 1, 1, none⟩) (World.block_lt_of_cell? w4 _ s3)).trans s3
    by_cases hlt : n < M
    · have b1 : decide ((n : Int) < (M : Int)) = true := decide_eq_true (by omega)
      have b1n : decide (n < M) = true := decide_eq_true hlt
      have hai : I + n < a.ws.length := by omega
      have hbj : J + n < b.ws.length := by omega
      obtain ⟨g, o, rfl, hg, hd0, -⟩ := (HA4.out.ws.next hb) (I + n) hai
      obtain ⟨g', o', rfl, hg', hd1, -⟩ := (HB4.out.ws.next hb) (J + n) hbj
      have y1 : (I : Int) + (n : Int) < (a.ws.length : Int) := by omega
      have y2 : (J : Int) + (n : Int) < (b.ws.length : Int) := by omega
      have u3 : IntKind.i64.wrap ((I : Int) + (n : Int)) = (I : Int) + (n : Int) := by rw [IntKind.wrap_i64]; omega
      have u4 : IntKind.i64.wrap ((J : Int) + (n : Int)) = (J : Int) + (n : Int) := by rw [IntKind.wrap_i64]; omega
      have HN1 := Lib.hid (show n + 1 ≤ M ∧ M ≤ 5864062014634 by omega)
      have hMb : M ≤ 5864062014634 := by omega
      have HD1 := Lib.hid (List.drop_eq_getElem_cons hai)
      have HD2 := Lib.hid (List.drop_eq_getElem_cons hbj)
      generalize a.ws[I + n] = x at *
      generalize b.ws[J + n] = y at *
      have HNX := Lib.hid (show v = (if x.tx = y.tx then cmn (a.ws.drop (I + n + 1)) (b.ws.drop (J + n + 1)) + 1 else 0) + n by rw [HVN.out, HD1.out, HD2.out]; rfl)
      clear hg hg' hij hmm hla hlb hai hbj
      by_cases hxy : x.tx = y.tx
      · have q1 : ((str x.tx).toList == (str y.tx).toList) = true := by rw [beq_iff_eq, toL, toL]; exact hxy
        have HR := Lib.hid (show v = cmn (a.ws.drop (I + (n + 1))) (b.ws.drop (J + (n + 1))) + (n + 1) by rw [HNX.out, if_pos hxy, show I + (n + 1) = I + n + 1 by omega, show J + (n + 1) = J + n + 1 by omega]; omega)
        clear hxy
        generalize str x.tx = sx at *
        generalize str y.tx = sy at *
        have HB5 := Lib.hid hb
        clear hb
        go_wp2_with fail
        go_quiet (fail)
        have HB6 := Lib.hid (HB5.out.trans ((below_drewN wr nq).mono HB5.out.size))
        go_wp2_with fail
        go_roundw
        case rel => exact ⟨n + 1, by go_num, HN1.out.1, HR.out, HB6.out⟩
        case measure => have := HN1.out; simp [intOf]; omega
      · have q1 : ((str x.tx).toList == (str y.tx).toList) = false := by rw [beq_eq_false_iff_ne, toL, toL]; exact hxy
        have HR := Lib.hid (show v = n by rw [HNX.out, if_neg hxy, Nat.zero_add])
        clear hxy
        generalize str x.tx = sx at *
        generalize str y.tx = sy at *
        have HB5 := Lib.hid hb
        clear hb
        go_wp2_with fail
        go_quiet (fail)
        have HB6 := Lib.hid (HB5.out.trans ((below_drewN wr nq).mono HB5.out.size))
        go_wp2_with fail
        go_ret
        exact ⟨ret_int (by rw [HR.out]), HB04.out.trans (HB6.out.mono HB04.out.size)⟩
    · have b1 : decide ((n : Int) < (M : Int)) = false := decide_eq_false (by omega)
      have b1n : decide (n < M) = false := decide_eq_false hlt
      have HR := Lib.hid (show v = n by
        rw [HVN.out]
        have h1 := cmn_le (a.ws.drop (I + n)) (b.ws.drop (J + n))
        rw [List.length_drop, List.length_drop] at h1
        omega)
      have HB5 := Lib.hid hb
      clear hb hij hmm hla hlb
      go_wp2_with fail
      go_quiet (fail)
      have HB6 := Lib.hid (HB5.out.trans ((below_drewN wr nq).mono HB5.out.size))
      go_wp2_with fail
      go_ret
      exact ⟨ret_int (by rw [HR.out]), HB04.out.trans (HB6.out.mono HB04.out.size)⟩
end Nm
end Go.Proofs.YtkmldaelgbkfbaaDoor
