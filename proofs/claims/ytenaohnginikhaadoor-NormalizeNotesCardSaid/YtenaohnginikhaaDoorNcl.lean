/- NormalizeClasses. Condition: bytealg's MaxLen, the table of powers and strconv's errors lie in their variables. -/
import Derived.Test.YtenaohnginikhaaDoorNcp
namespace Go.Proofs.YtenaohnginikhaaDoor
open Go.RowKit Go.Deep Tr
namespace Nm
theorem set1_row {w : World} {q : Nat} {a b u : Value} {T : TypeId} {z : Nat × Nat} (h : w.heap[q]? = some (.cells #[a, b] T z)) : (w.setCell ⟨q, 0, none⟩ u).heap[q]? = some (.cells #[u, b] T z) := by simp [World.setCell, Array.getElem?_modify, h]
theorem str_head {x : List UInt8} (h : 0 < x.length) : ∃ (x0 : UInt8) (hs : 0 < (str x).size), (str x)[0]'hs = x0 ∧ hd1 x = x0 := by
  have hs : 0 < (str x).size := by rw [str_size]; exact h
  exact ⟨(str x)[0], hs, rfl, by have := head_at (str x) hs; rw [str_data] at this; exact this⟩
set_option maxHeartbeats 16000000 in
set_option maxRecDepth 100000 in
theorem classes_law (sd : ByteArray) (a b : Bool) (W : World) (hM : MaxAt W) (hE : ErrAt W) (hT : Cd.Tabs W) :
    Calls Tryd.prog 8 #[.string sd, .bool a, .bool b] W fun e w' => e = .returned (.bool true) ∧ Below W.heap.size W w' := by
  have cc := awake_any W hM hE hT
  have HM := Lib.hid hM
  have HE := Lib.hid hE
  have HT := Lib.hid hT
  clear hM hE hT
  go_enter Tryd.func8, Tryd.ntmps8
  go_wp2_with fail
  (with_reducible refine cc.mono ?_)
  rintro e w1 ⟨rfl, hb1⟩
  clear cc
  have HB1 := Lib.hid hb1
  by_cases h2 : 2000 < sd.size
  · have b2 : decide ((2000 : Int) < (sd.size : Int)) = true := decide_eq_true (by omega)
    have b2n : decide (2000 < sd.size) = true := decide_eq_true h2
    clear hb1
    go_wp2_with fail
    go_ret
    exact ⟨rfl, HB1.out⟩
  have b2 : decide ((2000 : Int) < (sd.size : Int)) = false := decide_eq_false (by omega)
  have b2n : decide (2000 < sd.size) = false := decide_eq_false h2
  obtain ⟨d, rfl⟩ : ∃ x, sd = str x := ⟨sd.data.toList, (str_of sd).symm⟩
  have hds := str_size d
  have c1 : Calls Tryd.prog 11 #[.string ⟨#[97]⟩, .string (str d), .bool false, .bool false] w1 (GotTx w1 (wrT [97] false false d) (wrE [97] false false d)) := words_any [97] d false false w1 (by decide) (by omega) (HM.out.below hb1) (HE.out.below hb1) (HT.out.below hb1)
  have HQ := Lib.hid (fun (X : World) (hX : Below W.heap.size W X) => (show Calls Tryd.prog 11 #[.string ⟨#[97]⟩, .string (str d), .bool a, .bool b] X (GotTx X (wrT [97] a b d) (wrE [97] false false d)) from by
    have h := words_any [97] d a b X (by decide) (by omega) (HM.out.below hX) (HE.out.below hX) (HT.out.below hX)
    rw [wrE_cls] at h
    exact h))
  have hwl := wrd_len false false d
  have HWL := Lib.hid (show (wrT [97] false false d).ws.length ≤ 1000000 by
    unfold wrT
    split
    · show (wrd false false d).length ≤ _; omega
    · exact Nat.zero_le _)
  have HIW := Lib.hid (wrT_isW [97] d)
  have HCL := Lib.hid (wrT_cls [97] a b d)
  have HV1 := Lib.hid (@vld_wrT [97] false false d)
  have HV2 := Lib.hid (fun (h : wrE [97] false false d = 0) => vld_wrT (show wrE [97] a b d = 0 by rw [wrE_cls]; exact h))
  clear hwl
  generalize wrT [97] false false d = T at *
  generalize wrT [97] a b d = U at *
  generalize wrE [97] false false d = E at *
  obtain ⟨tp, tl⟩ := T
  obtain ⟨up, ul⟩ := U
  obtain ⟨hu1, hu2⟩ := HCL.out
  dsimp only at hu1 hu2
  subst hu2
  have hul : ul.length = tl.length := by rw [hu1, List.length_map]
  have HU := Lib.hid hu1
  clear HCL hu1 hb1
  go_wp2_with fail
  (with_reducible refine c1.mono ?_)
  rintro e w2 ⟨A2, k2, rfl, hA2, hk2, hb2⟩
  clear c1
  dsimp only
  obtain ⟨V2, hV2⟩ : ∃ V2, V2 = w2.alloc (.cells #[.string (str up), .slice A2 tl.length k2] 25) := ⟨_, rfl⟩
  have hv2 : Below w2.heap.size w2 V2 := by rw [hV2]; exact (Below.refl _ _).alloc (Nat.le_refl _) _
  have g2 : V2.heap[w2.heap.size]? = some (.cells #[.string (str up), .slice A2 tl.length k2] 25 (0, 0)) := by rw [hV2]; exact heap_alloc_new w2 _
  have hB2 := (HB1.out.trans (hb2.mono HB1.out.size)).trans (hv2.mono (HB1.out.trans (hb2.mono HB1.out.size)).size)
  have HA2 := Lib.hid (hA2.next hv2)
  have HB2 := Lib.hid hB2
  have HG2 := Lib.hid g2
  have c3 := HQ.out V2 hB2
  clear hb2 hv2 hA2 hB2 g2 HQ hk2
  go_wp2_with fail
  rw [← hV2]
  clear hV2
  (with_reducible refine c3.mono ?_)
  rintro e w3 ⟨A3, k3, rfl, hA3, hk3, hb3⟩
  clear c3
  dsimp only
  rw [show txV A3 k3 ⟨up, ul⟩ = .agg #[.string (str up), .slice A3 tl.length k3] from by rw [← hul]]
  obtain ⟨V3, hV3⟩ : ∃ V3, V3 = w3.alloc (.cells #[.string (str up), .slice A3 tl.length k3] 25) := ⟨_, rfl⟩
  have hv3 : Below w3.heap.size w3 V3 := by rw [hV3]; exact (Below.refl _ _).alloc (Nat.le_refl _) _
  have g3 : V3.heap[w3.heap.size]? = some (.cells #[.string (str up), .slice A3 tl.length k3] 25 (0, 0)) := by rw [hV3]; exact heap_alloc_new w3 _
  have hB3 : Below V2.heap.size V2 V3 := hb3.trans (hv3.mono hb3.size)
  have g2' := (hB3.block _ (blk_lt HG2.out)).trans HG2.out
  have HG2' := Lib.hid g2'
  have HG3 := Lib.hid g3
  have HA2' := Lib.hid (HA2.out.next hB3)
  have HA3 := Lib.hid (hA3.next hv3)
  have HB3 := Lib.hid (HB2.out.trans (hB3.mono HB2.out.size))
  obtain ⟨e0, e1⟩ := cells2 g2'
  obtain ⟨f0, f1⟩ := cells2 g3
  clear hb3 hv3 hA3 hB3 g3 g2' HG2 HA2 HB2 hk3
  -- Valid of both, if there is no error
  have HVV := Lib.hid (fun (X : World) (hX : Below V3.heap.size V3 X) (h0 : E = 0) => (show (Calls Tryd.prog 21 #[.agg #[.string (str up), .slice A2 tl.length k2]] X fun e w' => e = .returned (.bool true) ∧ Below X.heap.size X w') ∧ (Calls Tryd.prog 21 #[.agg #[.string (str up), .slice A3 tl.length k3]] X fun e w' => e = .returned (.bool true) ∧ Below X.heap.size X w') from by
    have hM := HM.out.below (HB3.out.trans (hX.mono HB3.out.size))
    have h1 := valid_any ⟨up, tl⟩ A2 k2 X (HA2'.out.next hX) hM
    have h2 := valid_any ⟨up, ul⟩ A3 k3 X (HA3.out.next hX) hM
    rw [HV1.out h0] at h1
    rw [HV2.out h0, show txV A3 k3 ⟨up, ul⟩ = .agg #[.string (str up), .slice A3 ul.length k3] from rfl, hul] at h2
    exact ⟨h1, h2⟩))
  go_upto_region 7 with (fail)
  rw [← hV3]
  clear hV3
  have HK0 := Lib.hid (fun (X : World) (hX : Below V3.heap.size V3 X) => (show X.cell? ⟨w2.heap.size, 1, none⟩ = some (.slice A2 tl.length k2) from (cells2 ((hX.block _ (blk_lt HG2'.out)).trans HG2'.out)).2))
  have HLB := Lib.hid HWL.out
  by_cases h0 : E = 0
  · subst h0
    obtain ⟨v1, -⟩ := HVV.out V3 (Below.refl _ _) rfl
    go_wp2_with fail
    (with_reducible refine v1.mono ?_)
    rintro e w5 ⟨rfl, hb5⟩
    clear v1 e0 e1 f0 f1
    obtain ⟨-, v2⟩ := HVV.out w5 hb5 (by simp)
    have g3' := (hb5.block _ (blk_lt HG3.out)).trans HG3.out
    obtain ⟨f0, f1⟩ := cells2 g3'
    have HB5 := Lib.hid hb5
    clear hb5 g3'
    go_wp2_with fail
    (with_reducible refine v2.mono ?_)
    rintro e V4 ⟨rfl, hb6⟩
    have hB4 := HB5.out.trans (hb6.mono HB5.out.size)
    have HB4 := Lib.hid hB4
    have e1 := HK0.out V4 hB4
    clear v2 hb6 hB4 f0 f1
    go_wp2_with fail
    clear e1
    go_loopw [63] (fun v wr => ∃ k : Nat, k ≤ tl.length ∧ v = .int .i64 k ∧ Below V3.heap.size V3 wr) (fun v _ => tl.length - (intOf v).toNat)
    case atStart => exact ⟨0, by omega, rfl, HB4.out⟩
    case round =>
      clear HB4
      obtain ⟨k, hk, rfl, hb⟩ := hrel
      have hV3s := hb.size
      have hLB := HLB.out
      by_cases hlt : k < tl.length
      · have b1 : decide ((k : Int) < (tl.length : Int)) = true := decide_eq_true (by omega)
        have b1n : decide (k < tl.length) = true := decide_eq_true hlt
        have y1' : (k : Int) < (tl.length : Int) := by omega
        obtain ⟨g, o, rfl, hg, h0', h1'⟩ := HA2'.out.ws k hlt
        obtain ⟨g', o', rfl, hg', j0, j1⟩ := HA3.out.ws k (show k < ul.length by rw [hul]; exact hlt)
        have hlu : k < ul.length := by rw [hul]; exact hlt
        dsimp only at h0' h1' j0 j1
        have d0 := (hb.cell (p := ⟨g, o + k * 2, none⟩) hg).trans h0'
        have d1 := (hb.cell (p := ⟨g, o + k * 2 + 1, none⟩) hg).trans h1'
        have huk : ul[k]'hlu = clx a b tl[k] := by
          have : ul[k]? = some (clx a b tl[k]) := by rw [HU.out, List.getElem?_map, List.getElem?_eq_getElem hlt]; rfl
          rw [List.getElem?_eq_getElem hlu] at this
          exact Option.some.inj this
        obtain ⟨x, hx⟩ : ∃ x, x = tl[k] := ⟨_, rfl⟩
        have hxw : isW x.tx = true := by rw [hx]; exact HIW.out _ (List.getElem_mem hlt)
        rw [huk, ← hx] at j0 j1
        rw [← hx] at d0 d1
        have HKEEP := Lib.hid (fun (X : World) (hX : Below V3.heap.size V3 X) => (show X.cell? ⟨w3.heap.size, 1, none⟩ = some (.slice (some ⟨g', o', none⟩) tl.length k3) ∧ X.cell? ⟨g', o' + k * 2, none⟩ = some (.string (str (clx a b x).tx)) ∧ X.cell? ⟨g', o' + k * 2 + 1, none⟩ = some (.int .i64 x.ln) from
          ⟨(cells2 ((hX.block _ (blk_lt HG3.out)).trans HG3.out)).2, (hX.cell (p := ⟨g', o' + k * 2, none⟩) hg').trans j0, (hX.cell (p := ⟨g', o' + k * 2 + 1, none⟩) hg').trans j1⟩))
        obtain ⟨x0, hs0, hx0, hx1⟩ := str_head (isW_pos hxw)
        have hs0i : (0 : Int) < ((str x.tx).size : Int) := by omega
        have HX0 := Lib.hid hx1
        have n0 : ((str x.tx).toList == ([] : List UInt8)) = false := by
          rw [strL, beq_eq_false_iff_ne]; intro e; have := isW_pos hxw; rw [e] at this; simp at this
        have n1 : (str x.tx).toList.isEmpty = false := by
          rw [strL, List.isEmpty_eq_false_iff]; intro e; have := isW_pos hxw; rw [e] at this; simp at this
        obtain ⟨N1, hN1⟩ : ∃ N1, N1 = wr.alloc (.cells #[.string (str x.tx), .int .i64 x.ln] 41) := ⟨_, rfl⟩
        have hbN1 : Below V3.heap.size V3 N1 := by rw [hN1]; exact hb.alloc hV3s _
        have gN1 : N1.heap[wr.heap.size]? = some (.cells #[.string (str x.tx), .int .i64 x.ln] 41 (0, 0)) := by rw [hN1]; exact heap_alloc_new wr _
        obtain ⟨p0, p1⟩ := cells2 gN1
        obtain ⟨N2, hN2⟩ : ∃ N2, N2 = N1.alloc (.cells #[.string (str x.tx), .int .i64 x.ln] 41) := ⟨_, rfl⟩
        have hbN2 : Below V3.heap.size V3 N2 := by rw [hN2]; exact hbN1.alloc hbN1.size _
        have gN2 : N2.heap[N1.heap.size]? = some (.cells #[.string (str x.tx), .int .i64 x.ln] 41 (0, 0)) := by rw [hN2]; exact heap_alloc_new N1 _
        obtain ⟨q20, q21⟩ := cells2 gN2
        have f2 : N2.frozen? ⟨N1.heap.size, 0, none⟩ = false := frozen_of_row _ _ _ _ _ gN2
        have HGN2 := Lib.hid gN2
        have HN2 := Lib.hid hN2
        have HNS := Lib.hid hbN1.size
        clear h0' h1' j0 j1 huk hx hxw hx1 hb hbN1 gN1 gN2 hN2 hg hg'
        go_upto_region 12 with (fail)
        rw [← hN1]
        clear hN1 d0 d1
        have hq : x0.toNat ≤ 47 ∨ (48 ≤ x0.toNat ∧ x0.toNat ≤ 57) ∨ (58 ≤ x0.toNat ∧ x0.toNat ≤ 64) ∨ (65 ≤ x0.toNat ∧ x0.toNat ≤ 90) ∨ (91 ≤ x0.toNat ∧ x0.toNat ≤ 94) ∨ (95 ≤ x0.toNat ∧ x0.toNat ≤ 95) ∨ (96 ≤ x0.toNat ∧ x0.toNat ≤ 96) ∨ (97 ≤ x0.toNat ∧ x0.toNat ≤ 122) ∨ 123 ≤ x0.toNat := by omega
        rcases hq with hq | hq | hq | hq | hq | hq | hq | hq | hq
        · have b10 : decide ((48 : Int) ≤ (x0.toNat : Int)) = false := decide_eq_false (by omega)
          have b10n : decide (48 ≤ x0.toNat) = false := decide_eq_false (by omega)
          have b11 : decide ((x0.toNat : Int) ≤ (57 : Int)) = true := decide_eq_true (by omega)
          have b11n : decide (x0.toNat ≤ 57) = true := decide_eq_true (by omega)
          have b12 : decide ((97 : Int) ≤ (x0.toNat : Int)) = false := decide_eq_false (by omega)
          have b12n : decide (97 ≤ x0.toNat) = false := decide_eq_false (by omega)
          have b13 : decide ((x0.toNat : Int) ≤ (122 : Int)) = true := decide_eq_true (by omega)
          have b13n : decide (x0.toNat ≤ 122) = true := decide_eq_true (by omega)
          have b14 : decide ((65 : Int) ≤ (x0.toNat : Int)) = false := decide_eq_false (by omega)
          have b14n : decide (65 ≤ x0.toNat) = false := decide_eq_false (by omega)
          have b15 : decide ((x0.toNat : Int) ≤ (90 : Int)) = true := decide_eq_true (by omega)
          have b15n : decide (x0.toNat ≤ 90) = true := decide_eq_true (by omega)
          have b16 : ((x0.toNat : Int) == (95 : Int)) = false := by rw [beq_eq_false_iff_ne]; omega
          have b16n : (x0.toNat == 95) = false := by rw [beq_eq_false_iff_ne]; omega
          have HD := Lib.hid (show isDg x0 = false from decide_eq_false (by omega))
          have HL := Lib.hid (show isLt x0 = false from decide_eq_false (by omega))
          clear hq
          have HTX := Lib.hid (show (clx a b x).tx = x.tx from cls_no a b (by rw [HX0.out]; exact HD.out) (by rw [HX0.out]; exact HL.out))
          go_upto_region 18 with (fail)
          rw [← HN2.out]
          go_upto_region 22 with (fail)
          have z0 := q20
          have z1 := q21
          have hbZ := hbN2
          have y9 := (HKEEP.out N2 hbZ).1
          have y0 := (HKEEP.out N2 hbZ).2.1
          have y1 := (HKEEP.out N2 hbZ).2.2
          rw [HTX.out] at y0
          have HBZ := Lib.hid hbZ
          clear hbN2 hbZ f2 q20 q21
          go_quiet (fail)
          have hbQ := HBZ.out.trans ((below_drewN N2 nq).mono HBZ.out.size)
          generalize N2.drewN nq = Q at *
          have HBQ := Lib.hid hbQ
          clear hbQ z0 z1 y9 y0 y1
          go_wp2_with fail
          go_roundw
          case rel => exact ⟨k + 1, by omega, by go_num, HBQ.out⟩
          case measure => simp [intOf]; omega
        · have b10 : decide ((48 : Int) ≤ (x0.toNat : Int)) = true := decide_eq_true (by omega)
          have b10n : decide (48 ≤ x0.toNat) = true := decide_eq_true (by omega)
          have b11 : decide ((x0.toNat : Int) ≤ (57 : Int)) = true := decide_eq_true (by omega)
          have b11n : decide (x0.toNat ≤ 57) = true := decide_eq_true (by omega)
          have b12 : decide ((97 : Int) ≤ (x0.toNat : Int)) = false := decide_eq_false (by omega)
          have b12n : decide (97 ≤ x0.toNat) = false := decide_eq_false (by omega)
          have b13 : decide ((x0.toNat : Int) ≤ (122 : Int)) = true := decide_eq_true (by omega)
          have b13n : decide (x0.toNat ≤ 122) = true := decide_eq_true (by omega)
          have b14 : decide ((65 : Int) ≤ (x0.toNat : Int)) = false := decide_eq_false (by omega)
          have b14n : decide (65 ≤ x0.toNat) = false := decide_eq_false (by omega)
          have b15 : decide ((x0.toNat : Int) ≤ (90 : Int)) = true := decide_eq_true (by omega)
          have b15n : decide (x0.toNat ≤ 90) = true := decide_eq_true (by omega)
          have b16 : ((x0.toNat : Int) == (95 : Int)) = false := by rw [beq_eq_false_iff_ne]; omega
          have b16n : (x0.toNat == 95) = false := by rw [beq_eq_false_iff_ne]; omega
          have HD := Lib.hid (show isDg x0 = true from decide_eq_true (by omega))
          have HL := Lib.hid (show isLt x0 = true from decide_eq_true (by omega))
          clear hq
          cases b with
          | true =>
            have HTX := Lib.hid (show (clx a true x).tx = [36, 48] from cls_num a (by rw [HX0.out]; exact HD.out))
            go_upto_region 18 with (fail)
            rw [← HN2.out]
            go_upto_region 22 with (fail)
            have hs3 : (N2.setCell ⟨N1.heap.size, 0, none⟩ (.string ⟨#[36, 48]⟩)).heap[N1.heap.size]? = some (.cells #[.string ⟨#[36, 48]⟩, .int .i64 x.ln] 41 (0, 0)) := set1_row HGN2.out
            have hbS : Below V3.heap.size V3 (N2.setCell ⟨N1.heap.size, 0, none⟩ (.string ⟨#[36, 48]⟩)) := hbN2.setCell (p := ⟨N1.heap.size, 0, none⟩) (show V3.heap.size ≤ N1.heap.size from HNS.out) _
            obtain ⟨N3, hN3⟩ : ∃ N3, N3 = N2.setCell ⟨N1.heap.size, 0, none⟩ (.string ⟨#[36, 48]⟩) := ⟨_, rfl⟩
            rw [← hN3] at hs3 hbS ⊢
            clear hN3
            obtain ⟨z0, z1⟩ := cells2 hs3
            have hbZ := hbS
            clear hs3 hbS
            have y9 := (HKEEP.out N3 hbZ).1
            have y0 := (HKEEP.out N3 hbZ).2.1
            have y1 := (HKEEP.out N3 hbZ).2.2
            rw [HTX.out, show str [36, 48] = ⟨#[36, 48]⟩ from rfl] at y0
            have HBZ := Lib.hid hbZ
            clear hbN2 hbZ f2 q20 q21
            go_quiet (fail)
            have hbQ := HBZ.out.trans ((below_drewN N3 nq).mono HBZ.out.size)
            generalize N3.drewN nq = Q at *
            have HBQ := Lib.hid hbQ
            clear hbQ z0 z1 y9 y0 y1
            go_wp2_with fail
            go_roundw
            case rel => exact ⟨k + 1, by omega, by go_num, HBQ.out⟩
            case measure => simp [intOf]; omega
          | false =>
            have HTX := Lib.hid (show (clx a false x).tx = x.tx from cls_num0 a (by rw [HX0.out]; exact HD.out))
            go_upto_region 18 with (fail)
            rw [← HN2.out]
            go_upto_region 22 with (fail)
            have z0 := q20
            have z1 := q21
            have hbZ := hbN2
            have y9 := (HKEEP.out N2 hbZ).1
            have y0 := (HKEEP.out N2 hbZ).2.1
            have y1 := (HKEEP.out N2 hbZ).2.2
            rw [HTX.out] at y0
            have HBZ := Lib.hid hbZ
            clear hbN2 hbZ f2 q20 q21
            go_quiet (fail)
            have hbQ := HBZ.out.trans ((below_drewN N2 nq).mono HBZ.out.size)
            generalize N2.drewN nq = Q at *
            have HBQ := Lib.hid hbQ
            clear hbQ z0 z1 y9 y0 y1
            go_wp2_with fail
            go_roundw
            case rel => exact ⟨k + 1, by omega, by go_num, HBQ.out⟩
            case measure => simp [intOf]; omega
        · have b10 : decide ((48 : Int) ≤ (x0.toNat : Int)) = true := decide_eq_true (by omega)
          have b10n : decide (48 ≤ x0.toNat) = true := decide_eq_true (by omega)
          have b11 : decide ((x0.toNat : Int) ≤ (57 : Int)) = false := decide_eq_false (by omega)
          have b11n : decide (x0.toNat ≤ 57) = false := decide_eq_false (by omega)
          have b12 : decide ((97 : Int) ≤ (x0.toNat : Int)) = false := decide_eq_false (by omega)
          have b12n : decide (97 ≤ x0.toNat) = false := decide_eq_false (by omega)
          have b13 : decide ((x0.toNat : Int) ≤ (122 : Int)) = true := decide_eq_true (by omega)
          have b13n : decide (x0.toNat ≤ 122) = true := decide_eq_true (by omega)
          have b14 : decide ((65 : Int) ≤ (x0.toNat : Int)) = false := decide_eq_false (by omega)
          have b14n : decide (65 ≤ x0.toNat) = false := decide_eq_false (by omega)
          have b15 : decide ((x0.toNat : Int) ≤ (90 : Int)) = true := decide_eq_true (by omega)
          have b15n : decide (x0.toNat ≤ 90) = true := decide_eq_true (by omega)
          have b16 : ((x0.toNat : Int) == (95 : Int)) = false := by rw [beq_eq_false_iff_ne]; omega
          have b16n : (x0.toNat == 95) = false := by rw [beq_eq_false_iff_ne]; omega
          have HD := Lib.hid (show isDg x0 = false from decide_eq_false (by omega))
          have HL := Lib.hid (show isLt x0 = false from decide_eq_false (by omega))
          clear hq
          have HTX := Lib.hid (show (clx a b x).tx = x.tx from cls_no a b (by rw [HX0.out]; exact HD.out) (by rw [HX0.out]; exact HL.out))
          go_upto_region 18 with (fail)
          rw [← HN2.out]
          go_upto_region 22 with (fail)
          have z0 := q20
          have z1 := q21
          have hbZ := hbN2
          have y9 := (HKEEP.out N2 hbZ).1
          have y0 := (HKEEP.out N2 hbZ).2.1
          have y1 := (HKEEP.out N2 hbZ).2.2
          rw [HTX.out] at y0
          have HBZ := Lib.hid hbZ
          clear hbN2 hbZ f2 q20 q21
          go_quiet (fail)
          have hbQ := HBZ.out.trans ((below_drewN N2 nq).mono HBZ.out.size)
          generalize N2.drewN nq = Q at *
          have HBQ := Lib.hid hbQ
          clear hbQ z0 z1 y9 y0 y1
          go_wp2_with fail
          go_roundw
          case rel => exact ⟨k + 1, by omega, by go_num, HBQ.out⟩
          case measure => simp [intOf]; omega
        · have b10 : decide ((48 : Int) ≤ (x0.toNat : Int)) = true := decide_eq_true (by omega)
          have b10n : decide (48 ≤ x0.toNat) = true := decide_eq_true (by omega)
          have b11 : decide ((x0.toNat : Int) ≤ (57 : Int)) = false := decide_eq_false (by omega)
          have b11n : decide (x0.toNat ≤ 57) = false := decide_eq_false (by omega)
          have b12 : decide ((97 : Int) ≤ (x0.toNat : Int)) = false := decide_eq_false (by omega)
          have b12n : decide (97 ≤ x0.toNat) = false := decide_eq_false (by omega)
          have b13 : decide ((x0.toNat : Int) ≤ (122 : Int)) = true := decide_eq_true (by omega)
          have b13n : decide (x0.toNat ≤ 122) = true := decide_eq_true (by omega)
          have b14 : decide ((65 : Int) ≤ (x0.toNat : Int)) = true := decide_eq_true (by omega)
          have b14n : decide (65 ≤ x0.toNat) = true := decide_eq_true (by omega)
          have b15 : decide ((x0.toNat : Int) ≤ (90 : Int)) = true := decide_eq_true (by omega)
          have b15n : decide (x0.toNat ≤ 90) = true := decide_eq_true (by omega)
          have b16 : ((x0.toNat : Int) == (95 : Int)) = false := by rw [beq_eq_false_iff_ne]; omega
          have b16n : (x0.toNat == 95) = false := by rw [beq_eq_false_iff_ne]; omega
          have HD := Lib.hid (show isDg x0 = false from decide_eq_false (by omega))
          have HL := Lib.hid (show isLt x0 = true from decide_eq_true (by omega))
          clear hq
          cases a with
          | true =>
            have HTX := Lib.hid (show (clx true b x).tx = [36, 110] from cls_name b (by rw [HX0.out]; exact HD.out) (by rw [HX0.out]; exact HL.out))
            go_upto_region 18 with (fail)
            rw [← HN2.out]
            go_upto_region 22 with (fail)
            have hs3 : (N2.setCell ⟨N1.heap.size, 0, none⟩ (.string ⟨#[36, 110]⟩)).heap[N1.heap.size]? = some (.cells #[.string ⟨#[36, 110]⟩, .int .i64 x.ln] 41 (0, 0)) := set1_row HGN2.out
            have hbS : Below V3.heap.size V3 (N2.setCell ⟨N1.heap.size, 0, none⟩ (.string ⟨#[36, 110]⟩)) := hbN2.setCell (p := ⟨N1.heap.size, 0, none⟩) (show V3.heap.size ≤ N1.heap.size from HNS.out) _
            obtain ⟨N3, hN3⟩ : ∃ N3, N3 = N2.setCell ⟨N1.heap.size, 0, none⟩ (.string ⟨#[36, 110]⟩) := ⟨_, rfl⟩
            rw [← hN3] at hs3 hbS ⊢
            clear hN3
            obtain ⟨z0, z1⟩ := cells2 hs3
            have hbZ := hbS
            clear hs3 hbS
            have y9 := (HKEEP.out N3 hbZ).1
            have y0 := (HKEEP.out N3 hbZ).2.1
            have y1 := (HKEEP.out N3 hbZ).2.2
            rw [HTX.out, show str [36, 110] = ⟨#[36, 110]⟩ from rfl] at y0
            have HBZ := Lib.hid hbZ
            clear hbN2 hbZ f2 q20 q21
            go_quiet (fail)
            have hbQ := HBZ.out.trans ((below_drewN N3 nq).mono HBZ.out.size)
            generalize N3.drewN nq = Q at *
            have HBQ := Lib.hid hbQ
            clear hbQ z0 z1 y9 y0 y1
            go_wp2_with fail
            go_roundw
            case rel => exact ⟨k + 1, by omega, by go_num, HBQ.out⟩
            case measure => simp [intOf]; omega
          | false =>
            have HTX := Lib.hid (show (clx false b x).tx = x.tx from cls_name0 b (by rw [HX0.out]; exact HD.out))
            go_upto_region 18 with (fail)
            rw [← HN2.out]
            go_upto_region 22 with (fail)
            have z0 := q20
            have z1 := q21
            have hbZ := hbN2
            have y9 := (HKEEP.out N2 hbZ).1
            have y0 := (HKEEP.out N2 hbZ).2.1
            have y1 := (HKEEP.out N2 hbZ).2.2
            rw [HTX.out] at y0
            have HBZ := Lib.hid hbZ
            clear hbN2 hbZ f2 q20 q21
            go_quiet (fail)
            have hbQ := HBZ.out.trans ((below_drewN N2 nq).mono HBZ.out.size)
            generalize N2.drewN nq = Q at *
            have HBQ := Lib.hid hbQ
            clear hbQ z0 z1 y9 y0 y1
            go_wp2_with fail
            go_roundw
            case rel => exact ⟨k + 1, by omega, by go_num, HBQ.out⟩
            case measure => simp [intOf]; omega
        · have b10 : decide ((48 : Int) ≤ (x0.toNat : Int)) = true := decide_eq_true (by omega)
          have b10n : decide (48 ≤ x0.toNat) = true := decide_eq_true (by omega)
          have b11 : decide ((x0.toNat : Int) ≤ (57 : Int)) = false := decide_eq_false (by omega)
          have b11n : decide (x0.toNat ≤ 57) = false := decide_eq_false (by omega)
          have b12 : decide ((97 : Int) ≤ (x0.toNat : Int)) = false := decide_eq_false (by omega)
          have b12n : decide (97 ≤ x0.toNat) = false := decide_eq_false (by omega)
          have b13 : decide ((x0.toNat : Int) ≤ (122 : Int)) = true := decide_eq_true (by omega)
          have b13n : decide (x0.toNat ≤ 122) = true := decide_eq_true (by omega)
          have b14 : decide ((65 : Int) ≤ (x0.toNat : Int)) = true := decide_eq_true (by omega)
          have b14n : decide (65 ≤ x0.toNat) = true := decide_eq_true (by omega)
          have b15 : decide ((x0.toNat : Int) ≤ (90 : Int)) = false := decide_eq_false (by omega)
          have b15n : decide (x0.toNat ≤ 90) = false := decide_eq_false (by omega)
          have b16 : ((x0.toNat : Int) == (95 : Int)) = false := by rw [beq_eq_false_iff_ne]; omega
          have b16n : (x0.toNat == 95) = false := by rw [beq_eq_false_iff_ne]; omega
          have HD := Lib.hid (show isDg x0 = false from decide_eq_false (by omega))
          have HL := Lib.hid (show isLt x0 = false from decide_eq_false (by omega))
          clear hq
          have HTX := Lib.hid (show (clx a b x).tx = x.tx from cls_no a b (by rw [HX0.out]; exact HD.out) (by rw [HX0.out]; exact HL.out))
          go_upto_region 18 with (fail)
          rw [← HN2.out]
          go_upto_region 22 with (fail)
          have z0 := q20
          have z1 := q21
          have hbZ := hbN2
          have y9 := (HKEEP.out N2 hbZ).1
          have y0 := (HKEEP.out N2 hbZ).2.1
          have y1 := (HKEEP.out N2 hbZ).2.2
          rw [HTX.out] at y0
          have HBZ := Lib.hid hbZ
          clear hbN2 hbZ f2 q20 q21
          go_quiet (fail)
          have hbQ := HBZ.out.trans ((below_drewN N2 nq).mono HBZ.out.size)
          generalize N2.drewN nq = Q at *
          have HBQ := Lib.hid hbQ
          clear hbQ z0 z1 y9 y0 y1
          go_wp2_with fail
          go_roundw
          case rel => exact ⟨k + 1, by omega, by go_num, HBQ.out⟩
          case measure => simp [intOf]; omega
        · have b10 : decide ((48 : Int) ≤ (x0.toNat : Int)) = true := decide_eq_true (by omega)
          have b10n : decide (48 ≤ x0.toNat) = true := decide_eq_true (by omega)
          have b11 : decide ((x0.toNat : Int) ≤ (57 : Int)) = false := decide_eq_false (by omega)
          have b11n : decide (x0.toNat ≤ 57) = false := decide_eq_false (by omega)
          have b12 : decide ((97 : Int) ≤ (x0.toNat : Int)) = false := decide_eq_false (by omega)
          have b12n : decide (97 ≤ x0.toNat) = false := decide_eq_false (by omega)
          have b13 : decide ((x0.toNat : Int) ≤ (122 : Int)) = true := decide_eq_true (by omega)
          have b13n : decide (x0.toNat ≤ 122) = true := decide_eq_true (by omega)
          have b14 : decide ((65 : Int) ≤ (x0.toNat : Int)) = true := decide_eq_true (by omega)
          have b14n : decide (65 ≤ x0.toNat) = true := decide_eq_true (by omega)
          have b15 : decide ((x0.toNat : Int) ≤ (90 : Int)) = false := decide_eq_false (by omega)
          have b15n : decide (x0.toNat ≤ 90) = false := decide_eq_false (by omega)
          have b16 : ((x0.toNat : Int) == (95 : Int)) = true := by rw [beq_iff_eq]; omega
          have b16n : (x0.toNat == 95) = true := by rw [beq_iff_eq]; omega
          have HD := Lib.hid (show isDg x0 = false from decide_eq_false (by omega))
          have HL := Lib.hid (show isLt x0 = true from decide_eq_true (by omega))
          clear hq
          cases a with
          | true =>
            have HTX := Lib.hid (show (clx true b x).tx = [36, 110] from cls_name b (by rw [HX0.out]; exact HD.out) (by rw [HX0.out]; exact HL.out))
            go_upto_region 18 with (fail)
            rw [← HN2.out]
            go_upto_region 22 with (fail)
            have hs3 : (N2.setCell ⟨N1.heap.size, 0, none⟩ (.string ⟨#[36, 110]⟩)).heap[N1.heap.size]? = some (.cells #[.string ⟨#[36, 110]⟩, .int .i64 x.ln] 41 (0, 0)) := set1_row HGN2.out
            have hbS : Below V3.heap.size V3 (N2.setCell ⟨N1.heap.size, 0, none⟩ (.string ⟨#[36, 110]⟩)) := hbN2.setCell (p := ⟨N1.heap.size, 0, none⟩) (show V3.heap.size ≤ N1.heap.size from HNS.out) _
            obtain ⟨N3, hN3⟩ : ∃ N3, N3 = N2.setCell ⟨N1.heap.size, 0, none⟩ (.string ⟨#[36, 110]⟩) := ⟨_, rfl⟩
            rw [← hN3] at hs3 hbS ⊢
            clear hN3
            obtain ⟨z0, z1⟩ := cells2 hs3
            have hbZ := hbS
            clear hs3 hbS
            have y9 := (HKEEP.out N3 hbZ).1
            have y0 := (HKEEP.out N3 hbZ).2.1
            have y1 := (HKEEP.out N3 hbZ).2.2
            rw [HTX.out, show str [36, 110] = ⟨#[36, 110]⟩ from rfl] at y0
            have HBZ := Lib.hid hbZ
            clear hbN2 hbZ f2 q20 q21
            go_quiet (fail)
            have hbQ := HBZ.out.trans ((below_drewN N3 nq).mono HBZ.out.size)
            generalize N3.drewN nq = Q at *
            have HBQ := Lib.hid hbQ
            clear hbQ z0 z1 y9 y0 y1
            go_wp2_with fail
            go_roundw
            case rel => exact ⟨k + 1, by omega, by go_num, HBQ.out⟩
            case measure => simp [intOf]; omega
          | false =>
            have HTX := Lib.hid (show (clx false b x).tx = x.tx from cls_name0 b (by rw [HX0.out]; exact HD.out))
            go_upto_region 18 with (fail)
            rw [← HN2.out]
            go_upto_region 22 with (fail)
            have z0 := q20
            have z1 := q21
            have hbZ := hbN2
            have y9 := (HKEEP.out N2 hbZ).1
            have y0 := (HKEEP.out N2 hbZ).2.1
            have y1 := (HKEEP.out N2 hbZ).2.2
            rw [HTX.out] at y0
            have HBZ := Lib.hid hbZ
            clear hbN2 hbZ f2 q20 q21
            go_quiet (fail)
            have hbQ := HBZ.out.trans ((below_drewN N2 nq).mono HBZ.out.size)
            generalize N2.drewN nq = Q at *
            have HBQ := Lib.hid hbQ
            clear hbQ z0 z1 y9 y0 y1
            go_wp2_with fail
            go_roundw
            case rel => exact ⟨k + 1, by omega, by go_num, HBQ.out⟩
            case measure => simp [intOf]; omega
        · have b10 : decide ((48 : Int) ≤ (x0.toNat : Int)) = true := decide_eq_true (by omega)
          have b10n : decide (48 ≤ x0.toNat) = true := decide_eq_true (by omega)
          have b11 : decide ((x0.toNat : Int) ≤ (57 : Int)) = false := decide_eq_false (by omega)
          have b11n : decide (x0.toNat ≤ 57) = false := decide_eq_false (by omega)
          have b12 : decide ((97 : Int) ≤ (x0.toNat : Int)) = false := decide_eq_false (by omega)
          have b12n : decide (97 ≤ x0.toNat) = false := decide_eq_false (by omega)
          have b13 : decide ((x0.toNat : Int) ≤ (122 : Int)) = true := decide_eq_true (by omega)
          have b13n : decide (x0.toNat ≤ 122) = true := decide_eq_true (by omega)
          have b14 : decide ((65 : Int) ≤ (x0.toNat : Int)) = true := decide_eq_true (by omega)
          have b14n : decide (65 ≤ x0.toNat) = true := decide_eq_true (by omega)
          have b15 : decide ((x0.toNat : Int) ≤ (90 : Int)) = false := decide_eq_false (by omega)
          have b15n : decide (x0.toNat ≤ 90) = false := decide_eq_false (by omega)
          have b16 : ((x0.toNat : Int) == (95 : Int)) = false := by rw [beq_eq_false_iff_ne]; omega
          have b16n : (x0.toNat == 95) = false := by rw [beq_eq_false_iff_ne]; omega
          have HD := Lib.hid (show isDg x0 = false from decide_eq_false (by omega))
          have HL := Lib.hid (show isLt x0 = false from decide_eq_false (by omega))
          clear hq
          have HTX := Lib.hid (show (clx a b x).tx = x.tx from cls_no a b (by rw [HX0.out]; exact HD.out) (by rw [HX0.out]; exact HL.out))
          go_upto_region 18 with (fail)
          rw [← HN2.out]
          go_upto_region 22 with (fail)
          have z0 := q20
          have z1 := q21
          have hbZ := hbN2
          have y9 := (HKEEP.out N2 hbZ).1
          have y0 := (HKEEP.out N2 hbZ).2.1
          have y1 := (HKEEP.out N2 hbZ).2.2
          rw [HTX.out] at y0
          have HBZ := Lib.hid hbZ
          clear hbN2 hbZ f2 q20 q21
          go_quiet (fail)
          have hbQ := HBZ.out.trans ((below_drewN N2 nq).mono HBZ.out.size)
          generalize N2.drewN nq = Q at *
          have HBQ := Lib.hid hbQ
          clear hbQ z0 z1 y9 y0 y1
          go_wp2_with fail
          go_roundw
          case rel => exact ⟨k + 1, by omega, by go_num, HBQ.out⟩
          case measure => simp [intOf]; omega
        · have b10 : decide ((48 : Int) ≤ (x0.toNat : Int)) = true := decide_eq_true (by omega)
          have b10n : decide (48 ≤ x0.toNat) = true := decide_eq_true (by omega)
          have b11 : decide ((x0.toNat : Int) ≤ (57 : Int)) = false := decide_eq_false (by omega)
          have b11n : decide (x0.toNat ≤ 57) = false := decide_eq_false (by omega)
          have b12 : decide ((97 : Int) ≤ (x0.toNat : Int)) = true := decide_eq_true (by omega)
          have b12n : decide (97 ≤ x0.toNat) = true := decide_eq_true (by omega)
          have b13 : decide ((x0.toNat : Int) ≤ (122 : Int)) = true := decide_eq_true (by omega)
          have b13n : decide (x0.toNat ≤ 122) = true := decide_eq_true (by omega)
          have b14 : decide ((65 : Int) ≤ (x0.toNat : Int)) = true := decide_eq_true (by omega)
          have b14n : decide (65 ≤ x0.toNat) = true := decide_eq_true (by omega)
          have b15 : decide ((x0.toNat : Int) ≤ (90 : Int)) = false := decide_eq_false (by omega)
          have b15n : decide (x0.toNat ≤ 90) = false := decide_eq_false (by omega)
          have b16 : ((x0.toNat : Int) == (95 : Int)) = false := by rw [beq_eq_false_iff_ne]; omega
          have b16n : (x0.toNat == 95) = false := by rw [beq_eq_false_iff_ne]; omega
          have HD := Lib.hid (show isDg x0 = false from decide_eq_false (by omega))
          have HL := Lib.hid (show isLt x0 = true from decide_eq_true (by omega))
          clear hq
          cases a with
          | true =>
            have HTX := Lib.hid (show (clx true b x).tx = [36, 110] from cls_name b (by rw [HX0.out]; exact HD.out) (by rw [HX0.out]; exact HL.out))
            go_upto_region 18 with (fail)
            rw [← HN2.out]
            go_upto_region 22 with (fail)
            have hs3 : (N2.setCell ⟨N1.heap.size, 0, none⟩ (.string ⟨#[36, 110]⟩)).heap[N1.heap.size]? = some (.cells #[.string ⟨#[36, 110]⟩, .int .i64 x.ln] 41 (0, 0)) := set1_row HGN2.out
            have hbS : Below V3.heap.size V3 (N2.setCell ⟨N1.heap.size, 0, none⟩ (.string ⟨#[36, 110]⟩)) := hbN2.setCell (p := ⟨N1.heap.size, 0, none⟩) (show V3.heap.size ≤ N1.heap.size from HNS.out) _
            obtain ⟨N3, hN3⟩ : ∃ N3, N3 = N2.setCell ⟨N1.heap.size, 0, none⟩ (.string ⟨#[36, 110]⟩) := ⟨_, rfl⟩
            rw [← hN3] at hs3 hbS ⊢
            clear hN3
            obtain ⟨z0, z1⟩ := cells2 hs3
            have hbZ := hbS
            clear hs3 hbS
            have y9 := (HKEEP.out N3 hbZ).1
            have y0 := (HKEEP.out N3 hbZ).2.1
            have y1 := (HKEEP.out N3 hbZ).2.2
            rw [HTX.out, show str [36, 110] = ⟨#[36, 110]⟩ from rfl] at y0
            have HBZ := Lib.hid hbZ
            clear hbN2 hbZ f2 q20 q21
            go_quiet (fail)
            have hbQ := HBZ.out.trans ((below_drewN N3 nq).mono HBZ.out.size)
            generalize N3.drewN nq = Q at *
            have HBQ := Lib.hid hbQ
            clear hbQ z0 z1 y9 y0 y1
            go_wp2_with fail
            go_roundw
            case rel => exact ⟨k + 1, by omega, by go_num, HBQ.out⟩
            case measure => simp [intOf]; omega
          | false =>
            have HTX := Lib.hid (show (clx false b x).tx = x.tx from cls_name0 b (by rw [HX0.out]; exact HD.out))
            go_upto_region 18 with (fail)
            rw [← HN2.out]
            go_upto_region 22 with (fail)
            have z0 := q20
            have z1 := q21
            have hbZ := hbN2
            have y9 := (HKEEP.out N2 hbZ).1
            have y0 := (HKEEP.out N2 hbZ).2.1
            have y1 := (HKEEP.out N2 hbZ).2.2
            rw [HTX.out] at y0
            have HBZ := Lib.hid hbZ
            clear hbN2 hbZ f2 q20 q21
            go_quiet (fail)
            have hbQ := HBZ.out.trans ((below_drewN N2 nq).mono HBZ.out.size)
            generalize N2.drewN nq = Q at *
            have HBQ := Lib.hid hbQ
            clear hbQ z0 z1 y9 y0 y1
            go_wp2_with fail
            go_roundw
            case rel => exact ⟨k + 1, by omega, by go_num, HBQ.out⟩
            case measure => simp [intOf]; omega
        · have b10 : decide ((48 : Int) ≤ (x0.toNat : Int)) = true := decide_eq_true (by omega)
          have b10n : decide (48 ≤ x0.toNat) = true := decide_eq_true (by omega)
          have b11 : decide ((x0.toNat : Int) ≤ (57 : Int)) = false := decide_eq_false (by omega)
          have b11n : decide (x0.toNat ≤ 57) = false := decide_eq_false (by omega)
          have b12 : decide ((97 : Int) ≤ (x0.toNat : Int)) = true := decide_eq_true (by omega)
          have b12n : decide (97 ≤ x0.toNat) = true := decide_eq_true (by omega)
          have b13 : decide ((x0.toNat : Int) ≤ (122 : Int)) = false := decide_eq_false (by omega)
          have b13n : decide (x0.toNat ≤ 122) = false := decide_eq_false (by omega)
          have b14 : decide ((65 : Int) ≤ (x0.toNat : Int)) = true := decide_eq_true (by omega)
          have b14n : decide (65 ≤ x0.toNat) = true := decide_eq_true (by omega)
          have b15 : decide ((x0.toNat : Int) ≤ (90 : Int)) = false := decide_eq_false (by omega)
          have b15n : decide (x0.toNat ≤ 90) = false := decide_eq_false (by omega)
          have b16 : ((x0.toNat : Int) == (95 : Int)) = false := by rw [beq_eq_false_iff_ne]; omega
          have b16n : (x0.toNat == 95) = false := by rw [beq_eq_false_iff_ne]; omega
          have HD := Lib.hid (show isDg x0 = false from decide_eq_false (by omega))
          have HL := Lib.hid (show isLt x0 = false from decide_eq_false (by omega))
          clear hq
          have HTX := Lib.hid (show (clx a b x).tx = x.tx from cls_no a b (by rw [HX0.out]; exact HD.out) (by rw [HX0.out]; exact HL.out))
          go_upto_region 18 with (fail)
          rw [← HN2.out]
          go_upto_region 22 with (fail)
          have z0 := q20
          have z1 := q21
          have hbZ := hbN2
          have y9 := (HKEEP.out N2 hbZ).1
          have y0 := (HKEEP.out N2 hbZ).2.1
          have y1 := (HKEEP.out N2 hbZ).2.2
          rw [HTX.out] at y0
          have HBZ := Lib.hid hbZ
          clear hbN2 hbZ f2 q20 q21
          go_quiet (fail)
          have hbQ := HBZ.out.trans ((below_drewN N2 nq).mono HBZ.out.size)
          generalize N2.drewN nq = Q at *
          have HBQ := Lib.hid hbQ
          clear hbQ z0 z1 y9 y0 y1
          go_wp2_with fail
          go_roundw
          case rel => exact ⟨k + 1, by omega, by go_num, HBQ.out⟩
          case measure => simp [intOf]; omega
      · have b1 : decide ((k : Int) < (tl.length : Int)) = false := decide_eq_false (by omega)
        have b1n : decide (k < tl.length) = false := decide_eq_false hlt
        have HBE := Lib.hid (HB3.out.trans (hb.mono HB3.out.size))
        clear hb
        go_wp2_with fail
        go_ret
        exact ⟨rfl, HBE.out⟩
  · have b3 : (E == 0) = false := by rw [beq_eq_false_iff_ne]; exact h0
    have HB4 := Lib.hid (Below.refl V3.heap.size V3)
    clear h0
    go_wp2_with fail
    clear e1
    go_loopw [63] (fun v wr => ∃ k : Nat, k ≤ tl.length ∧ v = .int .i64 k ∧ Below V3.heap.size V3 wr) (fun v _ => tl.length - (intOf v).toNat)
    case atStart => exact ⟨0, by omega, rfl, HB4.out⟩
    case round =>
      clear HB4
      obtain ⟨k, hk, rfl, hb⟩ := hrel
      have hV3s := hb.size
      have hLB := HLB.out
      by_cases hlt : k < tl.length
      · have b1 : decide ((k : Int) < (tl.length : Int)) = true := decide_eq_true (by omega)
        have b1n : decide (k < tl.length) = true := decide_eq_true hlt
        have y1' : (k : Int) < (tl.length : Int) := by omega
        obtain ⟨g, o, rfl, hg, h0', h1'⟩ := HA2'.out.ws k hlt
        obtain ⟨g', o', rfl, hg', j0, j1⟩ := HA3.out.ws k (show k < ul.length by rw [hul]; exact hlt)
        have hlu : k < ul.length := by rw [hul]; exact hlt
        dsimp only at h0' h1' j0 j1
        have d0 := (hb.cell (p := ⟨g, o + k * 2, none⟩) hg).trans h0'
        have d1 := (hb.cell (p := ⟨g, o + k * 2 + 1, none⟩) hg).trans h1'
        have huk : ul[k]'hlu = clx a b tl[k] := by
          have : ul[k]? = some (clx a b tl[k]) := by rw [HU.out, List.getElem?_map, List.getElem?_eq_getElem hlt]; rfl
          rw [List.getElem?_eq_getElem hlu] at this
          exact Option.some.inj this
        obtain ⟨x, hx⟩ : ∃ x, x = tl[k] := ⟨_, rfl⟩
        have hxw : isW x.tx = true := by rw [hx]; exact HIW.out _ (List.getElem_mem hlt)
        rw [huk, ← hx] at j0 j1
        rw [← hx] at d0 d1
        have HKEEP := Lib.hid (fun (X : World) (hX : Below V3.heap.size V3 X) => (show X.cell? ⟨w3.heap.size, 1, none⟩ = some (.slice (some ⟨g', o', none⟩) tl.length k3) ∧ X.cell? ⟨g', o' + k * 2, none⟩ = some (.string (str (clx a b x).tx)) ∧ X.cell? ⟨g', o' + k * 2 + 1, none⟩ = some (.int .i64 x.ln) from
          ⟨(cells2 ((hX.block _ (blk_lt HG3.out)).trans HG3.out)).2, (hX.cell (p := ⟨g', o' + k * 2, none⟩) hg').trans j0, (hX.cell (p := ⟨g', o' + k * 2 + 1, none⟩) hg').trans j1⟩))
        obtain ⟨x0, hs0, hx0, hx1⟩ := str_head (isW_pos hxw)
        have hs0i : (0 : Int) < ((str x.tx).size : Int) := by omega
        have HX0 := Lib.hid hx1
        have n0 : ((str x.tx).toList == ([] : List UInt8)) = false := by
          rw [strL, beq_eq_false_iff_ne]; intro e; have := isW_pos hxw; rw [e] at this; simp at this
        have n1 : (str x.tx).toList.isEmpty = false := by
          rw [strL, List.isEmpty_eq_false_iff]; intro e; have := isW_pos hxw; rw [e] at this; simp at this
        obtain ⟨N1, hN1⟩ : ∃ N1, N1 = wr.alloc (.cells #[.string (str x.tx), .int .i64 x.ln] 41) := ⟨_, rfl⟩
        have hbN1 : Below V3.heap.size V3 N1 := by rw [hN1]; exact hb.alloc hV3s _
        have gN1 : N1.heap[wr.heap.size]? = some (.cells #[.string (str x.tx), .int .i64 x.ln] 41 (0, 0)) := by rw [hN1]; exact heap_alloc_new wr _
        obtain ⟨p0, p1⟩ := cells2 gN1
        obtain ⟨N2, hN2⟩ : ∃ N2, N2 = N1.alloc (.cells #[.string (str x.tx), .int .i64 x.ln] 41) := ⟨_, rfl⟩
        have hbN2 : Below V3.heap.size V3 N2 := by rw [hN2]; exact hbN1.alloc hbN1.size _
        have gN2 : N2.heap[N1.heap.size]? = some (.cells #[.string (str x.tx), .int .i64 x.ln] 41 (0, 0)) := by rw [hN2]; exact heap_alloc_new N1 _
        obtain ⟨q20, q21⟩ := cells2 gN2
        have f2 : N2.frozen? ⟨N1.heap.size, 0, none⟩ = false := frozen_of_row _ _ _ _ _ gN2
        have HGN2 := Lib.hid gN2
        have HN2 := Lib.hid hN2
        have HNS := Lib.hid hbN1.size
        clear h0' h1' j0 j1 huk hx hxw hx1 hb hbN1 gN1 gN2 hN2 hg hg'
        go_upto_region 12 with (fail)
        rw [← hN1]
        clear hN1 d0 d1
        have hq : x0.toNat ≤ 47 ∨ (48 ≤ x0.toNat ∧ x0.toNat ≤ 57) ∨ (58 ≤ x0.toNat ∧ x0.toNat ≤ 64) ∨ (65 ≤ x0.toNat ∧ x0.toNat ≤ 90) ∨ (91 ≤ x0.toNat ∧ x0.toNat ≤ 94) ∨ (95 ≤ x0.toNat ∧ x0.toNat ≤ 95) ∨ (96 ≤ x0.toNat ∧ x0.toNat ≤ 96) ∨ (97 ≤ x0.toNat ∧ x0.toNat ≤ 122) ∨ 123 ≤ x0.toNat := by omega
        rcases hq with hq | hq | hq | hq | hq | hq | hq | hq | hq
        · have b10 : decide ((48 : Int) ≤ (x0.toNat : Int)) = false := decide_eq_false (by omega)
          have b10n : decide (48 ≤ x0.toNat) = false := decide_eq_false (by omega)
          have b11 : decide ((x0.toNat : Int) ≤ (57 : Int)) = true := decide_eq_true (by omega)
          have b11n : decide (x0.toNat ≤ 57) = true := decide_eq_true (by omega)
          have b12 : decide ((97 : Int) ≤ (x0.toNat : Int)) = false := decide_eq_false (by omega)
          have b12n : decide (97 ≤ x0.toNat) = false := decide_eq_false (by omega)
          have b13 : decide ((x0.toNat : Int) ≤ (122 : Int)) = true := decide_eq_true (by omega)
          have b13n : decide (x0.toNat ≤ 122) = true := decide_eq_true (by omega)
          have b14 : decide ((65 : Int) ≤ (x0.toNat : Int)) = false := decide_eq_false (by omega)
          have b14n : decide (65 ≤ x0.toNat) = false := decide_eq_false (by omega)
          have b15 : decide ((x0.toNat : Int) ≤ (90 : Int)) = true := decide_eq_true (by omega)
          have b15n : decide (x0.toNat ≤ 90) = true := decide_eq_true (by omega)
          have b16 : ((x0.toNat : Int) == (95 : Int)) = false := by rw [beq_eq_false_iff_ne]; omega
          have b16n : (x0.toNat == 95) = false := by rw [beq_eq_false_iff_ne]; omega
          have HD := Lib.hid (show isDg x0 = false from decide_eq_false (by omega))
          have HL := Lib.hid (show isLt x0 = false from decide_eq_false (by omega))
          clear hq
          have HTX := Lib.hid (show (clx a b x).tx = x.tx from cls_no a b (by rw [HX0.out]; exact HD.out) (by rw [HX0.out]; exact HL.out))
          go_upto_region 18 with (fail)
          rw [← HN2.out]
          go_upto_region 22 with (fail)
          have z0 := q20
          have z1 := q21
          have hbZ := hbN2
          have y9 := (HKEEP.out N2 hbZ).1
          have y0 := (HKEEP.out N2 hbZ).2.1
          have y1 := (HKEEP.out N2 hbZ).2.2
          rw [HTX.out] at y0
          have HBZ := Lib.hid hbZ
          clear hbN2 hbZ f2 q20 q21
          go_quiet (fail)
          have hbQ := HBZ.out.trans ((below_drewN N2 nq).mono HBZ.out.size)
          generalize N2.drewN nq = Q at *
          have HBQ := Lib.hid hbQ
          clear hbQ z0 z1 y9 y0 y1
          go_wp2_with fail
          go_roundw
          case rel => exact ⟨k + 1, by omega, by go_num, HBQ.out⟩
          case measure => simp [intOf]; omega
        · have b10 : decide ((48 : Int) ≤ (x0.toNat : Int)) = true := decide_eq_true (by omega)
          have b10n : decide (48 ≤ x0.toNat) = true := decide_eq_true (by omega)
          have b11 : decide ((x0.toNat : Int) ≤ (57 : Int)) = true := decide_eq_true (by omega)
          have b11n : decide (x0.toNat ≤ 57) = true := decide_eq_true (by omega)
          have b12 : decide ((97 : Int) ≤ (x0.toNat : Int)) = false := decide_eq_false (by omega)
          have b12n : decide (97 ≤ x0.toNat) = false := decide_eq_false (by omega)
          have b13 : decide ((x0.toNat : Int) ≤ (122 : Int)) = true := decide_eq_true (by omega)
          have b13n : decide (x0.toNat ≤ 122) = true := decide_eq_true (by omega)
          have b14 : decide ((65 : Int) ≤ (x0.toNat : Int)) = false := decide_eq_false (by omega)
          have b14n : decide (65 ≤ x0.toNat) = false := decide_eq_false (by omega)
          have b15 : decide ((x0.toNat : Int) ≤ (90 : Int)) = true := decide_eq_true (by omega)
          have b15n : decide (x0.toNat ≤ 90) = true := decide_eq_true (by omega)
          have b16 : ((x0.toNat : Int) == (95 : Int)) = false := by rw [beq_eq_false_iff_ne]; omega
          have b16n : (x0.toNat == 95) = false := by rw [beq_eq_false_iff_ne]; omega
          have HD := Lib.hid (show isDg x0 = true from decide_eq_true (by omega))
          have HL := Lib.hid (show isLt x0 = true from decide_eq_true (by omega))
          clear hq
          cases b with
          | true =>
            have HTX := Lib.hid (show (clx a true x).tx = [36, 48] from cls_num a (by rw [HX0.out]; exact HD.out))
            go_upto_region 18 with (fail)
            rw [← HN2.out]
            go_upto_region 22 with (fail)
            have hs3 : (N2.setCell ⟨N1.heap.size, 0, none⟩ (.string ⟨#[36, 48]⟩)).heap[N1.heap.size]? = some (.cells #[.string ⟨#[36, 48]⟩, .int .i64 x.ln] 41 (0, 0)) := set1_row HGN2.out
            have hbS : Below V3.heap.size V3 (N2.setCell ⟨N1.heap.size, 0, none⟩ (.string ⟨#[36, 48]⟩)) := hbN2.setCell (p := ⟨N1.heap.size, 0, none⟩) (show V3.heap.size ≤ N1.heap.size from HNS.out) _
            obtain ⟨N3, hN3⟩ : ∃ N3, N3 = N2.setCell ⟨N1.heap.size, 0, none⟩ (.string ⟨#[36, 48]⟩) := ⟨_, rfl⟩
            rw [← hN3] at hs3 hbS ⊢
            clear hN3
            obtain ⟨z0, z1⟩ := cells2 hs3
            have hbZ := hbS
            clear hs3 hbS
            have y9 := (HKEEP.out N3 hbZ).1
            have y0 := (HKEEP.out N3 hbZ).2.1
            have y1 := (HKEEP.out N3 hbZ).2.2
            rw [HTX.out, show str [36, 48] = ⟨#[36, 48]⟩ from rfl] at y0
            have HBZ := Lib.hid hbZ
            clear hbN2 hbZ f2 q20 q21
            go_quiet (fail)
            have hbQ := HBZ.out.trans ((below_drewN N3 nq).mono HBZ.out.size)
            generalize N3.drewN nq = Q at *
            have HBQ := Lib.hid hbQ
            clear hbQ z0 z1 y9 y0 y1
            go_wp2_with fail
            go_roundw
            case rel => exact ⟨k + 1, by omega, by go_num, HBQ.out⟩
            case measure => simp [intOf]; omega
          | false =>
            have HTX := Lib.hid (show (clx a false x).tx = x.tx from cls_num0 a (by rw [HX0.out]; exact HD.out))
            go_upto_region 18 with (fail)
            rw [← HN2.out]
            go_upto_region 22 with (fail)
            have z0 := q20
            have z1 := q21
            have hbZ := hbN2
            have y9 := (HKEEP.out N2 hbZ).1
            have y0 := (HKEEP.out N2 hbZ).2.1
            have y1 := (HKEEP.out N2 hbZ).2.2
            rw [HTX.out] at y0
            have HBZ := Lib.hid hbZ
            clear hbN2 hbZ f2 q20 q21
            go_quiet (fail)
            have hbQ := HBZ.out.trans ((below_drewN N2 nq).mono HBZ.out.size)
            generalize N2.drewN nq = Q at *
            have HBQ := Lib.hid hbQ
            clear hbQ z0 z1 y9 y0 y1
            go_wp2_with fail
            go_roundw
            case rel => exact ⟨k + 1, by omega, by go_num, HBQ.out⟩
            case measure => simp [intOf]; omega
        · have b10 : decide ((48 : Int) ≤ (x0.toNat : Int)) = true := decide_eq_true (by omega)
          have b10n : decide (48 ≤ x0.toNat) = true := decide_eq_true (by omega)
          have b11 : decide ((x0.toNat : Int) ≤ (57 : Int)) = false := decide_eq_false (by omega)
          have b11n : decide (x0.toNat ≤ 57) = false := decide_eq_false (by omega)
          have b12 : decide ((97 : Int) ≤ (x0.toNat : Int)) = false := decide_eq_false (by omega)
          have b12n : decide (97 ≤ x0.toNat) = false := decide_eq_false (by omega)
          have b13 : decide ((x0.toNat : Int) ≤ (122 : Int)) = true := decide_eq_true (by omega)
          have b13n : decide (x0.toNat ≤ 122) = true := decide_eq_true (by omega)
          have b14 : decide ((65 : Int) ≤ (x0.toNat : Int)) = false := decide_eq_false (by omega)
          have b14n : decide (65 ≤ x0.toNat) = false := decide_eq_false (by omega)
          have b15 : decide ((x0.toNat : Int) ≤ (90 : Int)) = true := decide_eq_true (by omega)
          have b15n : decide (x0.toNat ≤ 90) = true := decide_eq_true (by omega)
          have b16 : ((x0.toNat : Int) == (95 : Int)) = false := by rw [beq_eq_false_iff_ne]; omega
          have b16n : (x0.toNat == 95) = false := by rw [beq_eq_false_iff_ne]; omega
          have HD := Lib.hid (show isDg x0 = false from decide_eq_false (by omega))
          have HL := Lib.hid (show isLt x0 = false from decide_eq_false (by omega))
          clear hq
          have HTX := Lib.hid (show (clx a b x).tx = x.tx from cls_no a b (by rw [HX0.out]; exact HD.out) (by rw [HX0.out]; exact HL.out))
          go_upto_region 18 with (fail)
          rw [← HN2.out]
          go_upto_region 22 with (fail)
          have z0 := q20
          have z1 := q21
          have hbZ := hbN2
          have y9 := (HKEEP.out N2 hbZ).1
          have y0 := (HKEEP.out N2 hbZ).2.1
          have y1 := (HKEEP.out N2 hbZ).2.2
          rw [HTX.out] at y0
          have HBZ := Lib.hid hbZ
          clear hbN2 hbZ f2 q20 q21
          go_quiet (fail)
          have hbQ := HBZ.out.trans ((below_drewN N2 nq).mono HBZ.out.size)
          generalize N2.drewN nq = Q at *
          have HBQ := Lib.hid hbQ
          clear hbQ z0 z1 y9 y0 y1
          go_wp2_with fail
          go_roundw
          case rel => exact ⟨k + 1, by omega, by go_num, HBQ.out⟩
          case measure => simp [intOf]; omega
        · have b10 : decide ((48 : Int) ≤ (x0.toNat : Int)) = true := decide_eq_true (by omega)
          have b10n : decide (48 ≤ x0.toNat) = true := decide_eq_true (by omega)
          have b11 : decide ((x0.toNat : Int) ≤ (57 : Int)) = false := decide_eq_false (by omega)
          have b11n : decide (x0.toNat ≤ 57) = false := decide_eq_false (by omega)
          have b12 : decide ((97 : Int) ≤ (x0.toNat : Int)) = false := decide_eq_false (by omega)
          have b12n : decide (97 ≤ x0.toNat) = false := decide_eq_false (by omega)
          have b13 : decide ((x0.toNat : Int) ≤ (122 : Int)) = true := decide_eq_true (by omega)
          have b13n : decide (x0.toNat ≤ 122) = true := decide_eq_true (by omega)
          have b14 : decide ((65 : Int) ≤ (x0.toNat : Int)) = true := decide_eq_true (by omega)
          have b14n : decide (65 ≤ x0.toNat) = true := decide_eq_true (by omega)
          have b15 : decide ((x0.toNat : Int) ≤ (90 : Int)) = true := decide_eq_true (by omega)
          have b15n : decide (x0.toNat ≤ 90) = true := decide_eq_true (by omega)
          have b16 : ((x0.toNat : Int) == (95 : Int)) = false := by rw [beq_eq_false_iff_ne]; omega
          have b16n : (x0.toNat == 95) = false := by rw [beq_eq_false_iff_ne]; omega
          have HD := Lib.hid (show isDg x0 = false from decide_eq_false (by omega))
          have HL := Lib.hid (show isLt x0 = true from decide_eq_true (by omega))
          clear hq
          cases a with
          | true =>
            have HTX := Lib.hid (show (clx true b x).tx = [36, 110] from cls_name b (by rw [HX0.out]; exact HD.out) (by rw [HX0.out]; exact HL.out))
            go_upto_region 18 with (fail)
            rw [← HN2.out]
            go_upto_region 22 with (fail)
            have hs3 : (N2.setCell ⟨N1.heap.size, 0, none⟩ (.string ⟨#[36, 110]⟩)).heap[N1.heap.size]? = some (.cells #[.string ⟨#[36, 110]⟩, .int .i64 x.ln] 41 (0, 0)) := set1_row HGN2.out
            have hbS : Below V3.heap.size V3 (N2.setCell ⟨N1.heap.size, 0, none⟩ (.string ⟨#[36, 110]⟩)) := hbN2.setCell (p := ⟨N1.heap.size, 0, none⟩) (show V3.heap.size ≤ N1.heap.size from HNS.out) _
            obtain ⟨N3, hN3⟩ : ∃ N3, N3 = N2.setCell ⟨N1.heap.size, 0, none⟩ (.string ⟨#[36, 110]⟩) := ⟨_, rfl⟩
            rw [← hN3] at hs3 hbS ⊢
            clear hN3
            obtain ⟨z0, z1⟩ := cells2 hs3
            have hbZ := hbS
            clear hs3 hbS
            have y9 := (HKEEP.out N3 hbZ).1
            have y0 := (HKEEP.out N3 hbZ).2.1
            have y1 := (HKEEP.out N3 hbZ).2.2
            rw [HTX.out, show str [36, 110] = ⟨#[36, 110]⟩ from rfl] at y0
            have HBZ := Lib.hid hbZ
            clear hbN2 hbZ f2 q20 q21
            go_quiet (fail)
            have hbQ := HBZ.out.trans ((below_drewN N3 nq).mono HBZ.out.size)
            generalize N3.drewN nq = Q at *
            have HBQ := Lib.hid hbQ
            clear hbQ z0 z1 y9 y0 y1
            go_wp2_with fail
            go_roundw
            case rel => exact ⟨k + 1, by omega, by go_num, HBQ.out⟩
            case measure => simp [intOf]; omega
          | false =>
            have HTX := Lib.hid (show (clx false b x).tx = x.tx from cls_name0 b (by rw [HX0.out]; exact HD.out))
            go_upto_region 18 with (fail)
            rw [← HN2.out]
            go_upto_region 22 with (fail)
            have z0 := q20
            have z1 := q21
            have hbZ := hbN2
            have y9 := (HKEEP.out N2 hbZ).1
            have y0 := (HKEEP.out N2 hbZ).2.1
            have y1 := (HKEEP.out N2 hbZ).2.2
            rw [HTX.out] at y0
            have HBZ := Lib.hid hbZ
            clear hbN2 hbZ f2 q20 q21
            go_quiet (fail)
            have hbQ := HBZ.out.trans ((below_drewN N2 nq).mono HBZ.out.size)
            generalize N2.drewN nq = Q at *
            have HBQ := Lib.hid hbQ
            clear hbQ z0 z1 y9 y0 y1
            go_wp2_with fail
            go_roundw
            case rel => exact ⟨k + 1, by omega, by go_num, HBQ.out⟩
            case measure => simp [intOf]; omega
        · have b10 : decide ((48 : Int) ≤ (x0.toNat : Int)) = true := decide_eq_true (by omega)
          have b10n : decide (48 ≤ x0.toNat) = true := decide_eq_true (by omega)
          have b11 : decide ((x0.toNat : Int) ≤ (57 : Int)) = false := decide_eq_false (by omega)
          have b11n : decide (x0.toNat ≤ 57) = false := decide_eq_false (by omega)
          have b12 : decide ((97 : Int) ≤ (x0.toNat : Int)) = false := decide_eq_false (by omega)
          have b12n : decide (97 ≤ x0.toNat) = false := decide_eq_false (by omega)
          have b13 : decide ((x0.toNat : Int) ≤ (122 : Int)) = true := decide_eq_true (by omega)
          have b13n : decide (x0.toNat ≤ 122) = true := decide_eq_true (by omega)
          have b14 : decide ((65 : Int) ≤ (x0.toNat : Int)) = true := decide_eq_true (by omega)
          have b14n : decide (65 ≤ x0.toNat) = true := decide_eq_true (by omega)
          have b15 : decide ((x0.toNat : Int) ≤ (90 : Int)) = false := decide_eq_false (by omega)
          have b15n : decide (x0.toNat ≤ 90) = false := decide_eq_false (by omega)
          have b16 : ((x0.toNat : Int) == (95 : Int)) = false := by rw [beq_eq_false_iff_ne]; omega
          have b16n : (x0.toNat == 95) = false := by rw [beq_eq_false_iff_ne]; omega
          have HD := Lib.hid (show isDg x0 = false from decide_eq_false (by omega))
          have HL := Lib.hid (show isLt x0 = false from decide_eq_false (by omega))
          clear hq
          have HTX := Lib.hid (show (clx a b x).tx = x.tx from cls_no a b (by rw [HX0.out]; exact HD.out) (by rw [HX0.out]; exact HL.out))
          go_upto_region 18 with (fail)
          rw [← HN2.out]
          go_upto_region 22 with (fail)
          have z0 := q20
          have z1 := q21
          have hbZ := hbN2
          have y9 := (HKEEP.out N2 hbZ).1
          have y0 := (HKEEP.out N2 hbZ).2.1
          have y1 := (HKEEP.out N2 hbZ).2.2
          rw [HTX.out] at y0
          have HBZ := Lib.hid hbZ
          clear hbN2 hbZ f2 q20 q21
          go_quiet (fail)
          have hbQ := HBZ.out.trans ((below_drewN N2 nq).mono HBZ.out.size)
          generalize N2.drewN nq = Q at *
          have HBQ := Lib.hid hbQ
          clear hbQ z0 z1 y9 y0 y1
          go_wp2_with fail
          go_roundw
          case rel => exact ⟨k + 1, by omega, by go_num, HBQ.out⟩
          case measure => simp [intOf]; omega
        · have b10 : decide ((48 : Int) ≤ (x0.toNat : Int)) = true := decide_eq_true (by omega)
          have b10n : decide (48 ≤ x0.toNat) = true := decide_eq_true (by omega)
          have b11 : decide ((x0.toNat : Int) ≤ (57 : Int)) = false := decide_eq_false (by omega)
          have b11n : decide (x0.toNat ≤ 57) = false := decide_eq_false (by omega)
          have b12 : decide ((97 : Int) ≤ (x0.toNat : Int)) = false := decide_eq_false (by omega)
          have b12n : decide (97 ≤ x0.toNat) = false := decide_eq_false (by omega)
          have b13 : decide ((x0.toNat : Int) ≤ (122 : Int)) = true := decide_eq_true (by omega)
          have b13n : decide (x0.toNat ≤ 122) = true := decide_eq_true (by omega)
          have b14 : decide ((65 : Int) ≤ (x0.toNat : Int)) = true := decide_eq_true (by omega)
          have b14n : decide (65 ≤ x0.toNat) = true := decide_eq_true (by omega)
          have b15 : decide ((x0.toNat : Int) ≤ (90 : Int)) = false := decide_eq_false (by omega)
          have b15n : decide (x0.toNat ≤ 90) = false := decide_eq_false (by omega)
          have b16 : ((x0.toNat : Int) == (95 : Int)) = true := by rw [beq_iff_eq]; omega
          have b16n : (x0.toNat == 95) = true := by rw [beq_iff_eq]; omega
          have HD := Lib.hid (show isDg x0 = false from decide_eq_false (by omega))
          have HL := Lib.hid (show isLt x0 = true from decide_eq_true (by omega))
          clear hq
          cases a with
          | true =>
            have HTX := Lib.hid (show (clx true b x).tx = [36, 110] from cls_name b (by rw [HX0.out]; exact HD.out) (by rw [HX0.out]; exact HL.out))
            go_upto_region 18 with (fail)
            rw [← HN2.out]
            go_upto_region 22 with (fail)
            have hs3 : (N2.setCell ⟨N1.heap.size, 0, none⟩ (.string ⟨#[36, 110]⟩)).heap[N1.heap.size]? = some (.cells #[.string ⟨#[36, 110]⟩, .int .i64 x.ln] 41 (0, 0)) := set1_row HGN2.out
            have hbS : Below V3.heap.size V3 (N2.setCell ⟨N1.heap.size, 0, none⟩ (.string ⟨#[36, 110]⟩)) := hbN2.setCell (p := ⟨N1.heap.size, 0, none⟩) (show V3.heap.size ≤ N1.heap.size from HNS.out) _
            obtain ⟨N3, hN3⟩ : ∃ N3, N3 = N2.setCell ⟨N1.heap.size, 0, none⟩ (.string ⟨#[36, 110]⟩) := ⟨_, rfl⟩
            rw [← hN3] at hs3 hbS ⊢
            clear hN3
            obtain ⟨z0, z1⟩ := cells2 hs3
            have hbZ := hbS
            clear hs3 hbS
            have y9 := (HKEEP.out N3 hbZ).1
            have y0 := (HKEEP.out N3 hbZ).2.1
            have y1 := (HKEEP.out N3 hbZ).2.2
            rw [HTX.out, show str [36, 110] = ⟨#[36, 110]⟩ from rfl] at y0
            have HBZ := Lib.hid hbZ
            clear hbN2 hbZ f2 q20 q21
            go_quiet (fail)
            have hbQ := HBZ.out.trans ((below_drewN N3 nq).mono HBZ.out.size)
            generalize N3.drewN nq = Q at *
            have HBQ := Lib.hid hbQ
            clear hbQ z0 z1 y9 y0 y1
            go_wp2_with fail
            go_roundw
            case rel => exact ⟨k + 1, by omega, by go_num, HBQ.out⟩
            case measure => simp [intOf]; omega
          | false =>
            have HTX := Lib.hid (show (clx false b x).tx = x.tx from cls_name0 b (by rw [HX0.out]; exact HD.out))
            go_upto_region 18 with (fail)
            rw [← HN2.out]
            go_upto_region 22 with (fail)
            have z0 := q20
            have z1 := q21
            have hbZ := hbN2
            have y9 := (HKEEP.out N2 hbZ).1
            have y0 := (HKEEP.out N2 hbZ).2.1
            have y1 := (HKEEP.out N2 hbZ).2.2
            rw [HTX.out] at y0
            have HBZ := Lib.hid hbZ
            clear hbN2 hbZ f2 q20 q21
            go_quiet (fail)
            have hbQ := HBZ.out.trans ((below_drewN N2 nq).mono HBZ.out.size)
            generalize N2.drewN nq = Q at *
            have HBQ := Lib.hid hbQ
            clear hbQ z0 z1 y9 y0 y1
            go_wp2_with fail
            go_roundw
            case rel => exact ⟨k + 1, by omega, by go_num, HBQ.out⟩
            case measure => simp [intOf]; omega
        · have b10 : decide ((48 : Int) ≤ (x0.toNat : Int)) = true := decide_eq_true (by omega)
          have b10n : decide (48 ≤ x0.toNat) = true := decide_eq_true (by omega)
          have b11 : decide ((x0.toNat : Int) ≤ (57 : Int)) = false := decide_eq_false (by omega)
          have b11n : decide (x0.toNat ≤ 57) = false := decide_eq_false (by omega)
          have b12 : decide ((97 : Int) ≤ (x0.toNat : Int)) = false := decide_eq_false (by omega)
          have b12n : decide (97 ≤ x0.toNat) = false := decide_eq_false (by omega)
          have b13 : decide ((x0.toNat : Int) ≤ (122 : Int)) = true := decide_eq_true (by omega)
          have b13n : decide (x0.toNat ≤ 122) = true := decide_eq_true (by omega)
          have b14 : decide ((65 : Int) ≤ (x0.toNat : Int)) = true := decide_eq_true (by omega)
          have b14n : decide (65 ≤ x0.toNat) = true := decide_eq_true (by omega)
          have b15 : decide ((x0.toNat : Int) ≤ (90 : Int)) = false := decide_eq_false (by omega)
          have b15n : decide (x0.toNat ≤ 90) = false := decide_eq_false (by omega)
          have b16 : ((x0.toNat : Int) == (95 : Int)) = false := by rw [beq_eq_false_iff_ne]; omega
          have b16n : (x0.toNat == 95) = false := by rw [beq_eq_false_iff_ne]; omega
          have HD := Lib.hid (show isDg x0 = false from decide_eq_false (by omega))
          have HL := Lib.hid (show isLt x0 = false from decide_eq_false (by omega))
          clear hq
          have HTX := Lib.hid (show (clx a b x).tx = x.tx from cls_no a b (by rw [HX0.out]; exact HD.out) (by rw [HX0.out]; exact HL.out))
          go_upto_region 18 with (fail)
          rw [← HN2.out]
          go_upto_region 22 with (fail)
          have z0 := q20
          have z1 := q21
          have hbZ := hbN2
          have y9 := (HKEEP.out N2 hbZ).1
          have y0 := (HKEEP.out N2 hbZ).2.1
          have y1 := (HKEEP.out N2 hbZ).2.2
          rw [HTX.out] at y0
          have HBZ := Lib.hid hbZ
          clear hbN2 hbZ f2 q20 q21
          go_quiet (fail)
          have hbQ := HBZ.out.trans ((below_drewN N2 nq).mono HBZ.out.size)
          generalize N2.drewN nq = Q at *
          have HBQ := Lib.hid hbQ
          clear hbQ z0 z1 y9 y0 y1
          go_wp2_with fail
          go_roundw
          case rel => exact ⟨k + 1, by omega, by go_num, HBQ.out⟩
          case measure => simp [intOf]; omega
        · have b10 : decide ((48 : Int) ≤ (x0.toNat : Int)) = true := decide_eq_true (by omega)
          have b10n : decide (48 ≤ x0.toNat) = true := decide_eq_true (by omega)
          have b11 : decide ((x0.toNat : Int) ≤ (57 : Int)) = false := decide_eq_false (by omega)
          have b11n : decide (x0.toNat ≤ 57) = false := decide_eq_false (by omega)
          have b12 : decide ((97 : Int) ≤ (x0.toNat : Int)) = true := decide_eq_true (by omega)
          have b12n : decide (97 ≤ x0.toNat) = true := decide_eq_true (by omega)
          have b13 : decide ((x0.toNat : Int) ≤ (122 : Int)) = true := decide_eq_true (by omega)
          have b13n : decide (x0.toNat ≤ 122) = true := decide_eq_true (by omega)
          have b14 : decide ((65 : Int) ≤ (x0.toNat : Int)) = true := decide_eq_true (by omega)
          have b14n : decide (65 ≤ x0.toNat) = true := decide_eq_true (by omega)
          have b15 : decide ((x0.toNat : Int) ≤ (90 : Int)) = false := decide_eq_false (by omega)
          have b15n : decide (x0.toNat ≤ 90) = false := decide_eq_false (by omega)
          have b16 : ((x0.toNat : Int) == (95 : Int)) = false := by rw [beq_eq_false_iff_ne]; omega
          have b16n : (x0.toNat == 95) = false := by rw [beq_eq_false_iff_ne]; omega
          have HD := Lib.hid (show isDg x0 = false from decide_eq_false (by omega))
          have HL := Lib.hid (show isLt x0 = true from decide_eq_true (by omega))
          clear hq
          cases a with
          | true =>
            have HTX := Lib.hid (show (clx true b x).tx = [36, 110] from cls_name b (by rw [HX0.out]; exact HD.out) (by rw [HX0.out]; exact HL.out))
            go_upto_region 18 with (fail)
            rw [← HN2.out]
            go_upto_region 22 with (fail)
            have hs3 : (N2.setCell ⟨N1.heap.size, 0, none⟩ (.string ⟨#[36, 110]⟩)).heap[N1.heap.size]? = some (.cells #[.string ⟨#[36, 110]⟩, .int .i64 x.ln] 41 (0, 0)) := set1_row HGN2.out
            have hbS : Below V3.heap.size V3 (N2.setCell ⟨N1.heap.size, 0, none⟩ (.string ⟨#[36, 110]⟩)) := hbN2.setCell (p := ⟨N1.heap.size, 0, none⟩) (show V3.heap.size ≤ N1.heap.size from HNS.out) _
            obtain ⟨N3, hN3⟩ : ∃ N3, N3 = N2.setCell ⟨N1.heap.size, 0, none⟩ (.string ⟨#[36, 110]⟩) := ⟨_, rfl⟩
            rw [← hN3] at hs3 hbS ⊢
            clear hN3
            obtain ⟨z0, z1⟩ := cells2 hs3
            have hbZ := hbS
            clear hs3 hbS
            have y9 := (HKEEP.out N3 hbZ).1
            have y0 := (HKEEP.out N3 hbZ).2.1
            have y1 := (HKEEP.out N3 hbZ).2.2
            rw [HTX.out, show str [36, 110] = ⟨#[36, 110]⟩ from rfl] at y0
            have HBZ := Lib.hid hbZ
            clear hbN2 hbZ f2 q20 q21
            go_quiet (fail)
            have hbQ := HBZ.out.trans ((below_drewN N3 nq).mono HBZ.out.size)
            generalize N3.drewN nq = Q at *
            have HBQ := Lib.hid hbQ
            clear hbQ z0 z1 y9 y0 y1
            go_wp2_with fail
            go_roundw
            case rel => exact ⟨k + 1, by omega, by go_num, HBQ.out⟩
            case measure => simp [intOf]; omega
          | false =>
            have HTX := Lib.hid (show (clx false b x).tx = x.tx from cls_name0 b (by rw [HX0.out]; exact HD.out))
            go_upto_region 18 with (fail)
            rw [← HN2.out]
            go_upto_region 22 with (fail)
            have z0 := q20
            have z1 := q21
            have hbZ := hbN2
            have y9 := (HKEEP.out N2 hbZ).1
            have y0 := (HKEEP.out N2 hbZ).2.1
            have y1 := (HKEEP.out N2 hbZ).2.2
            rw [HTX.out] at y0
            have HBZ := Lib.hid hbZ
            clear hbN2 hbZ f2 q20 q21
            go_quiet (fail)
            have hbQ := HBZ.out.trans ((below_drewN N2 nq).mono HBZ.out.size)
            generalize N2.drewN nq = Q at *
            have HBQ := Lib.hid hbQ
            clear hbQ z0 z1 y9 y0 y1
            go_wp2_with fail
            go_roundw
            case rel => exact ⟨k + 1, by omega, by go_num, HBQ.out⟩
            case measure => simp [intOf]; omega
        · have b10 : decide ((48 : Int) ≤ (x0.toNat : Int)) = true := decide_eq_true (by omega)
          have b10n : decide (48 ≤ x0.toNat) = true := decide_eq_true (by omega)
          have b11 : decide ((x0.toNat : Int) ≤ (57 : Int)) = false := decide_eq_false (by omega)
          have b11n : decide (x0.toNat ≤ 57) = false := decide_eq_false (by omega)
          have b12 : decide ((97 : Int) ≤ (x0.toNat : Int)) = true := decide_eq_true (by omega)
          have b12n : decide (97 ≤ x0.toNat) = true := decide_eq_true (by omega)
          have b13 : decide ((x0.toNat : Int) ≤ (122 : Int)) = false := decide_eq_false (by omega)
          have b13n : decide (x0.toNat ≤ 122) = false := decide_eq_false (by omega)
          have b14 : decide ((65 : Int) ≤ (x0.toNat : Int)) = true := decide_eq_true (by omega)
          have b14n : decide (65 ≤ x0.toNat) = true := decide_eq_true (by omega)
          have b15 : decide ((x0.toNat : Int) ≤ (90 : Int)) = false := decide_eq_false (by omega)
          have b15n : decide (x0.toNat ≤ 90) = false := decide_eq_false (by omega)
          have b16 : ((x0.toNat : Int) == (95 : Int)) = false := by rw [beq_eq_false_iff_ne]; omega
          have b16n : (x0.toNat == 95) = false := by rw [beq_eq_false_iff_ne]; omega
          have HD := Lib.hid (show isDg x0 = false from decide_eq_false (by omega))
          have HL := Lib.hid (show isLt x0 = false from decide_eq_false (by omega))
          clear hq
          have HTX := Lib.hid (show (clx a b x).tx = x.tx from cls_no a b (by rw [HX0.out]; exact HD.out) (by rw [HX0.out]; exact HL.out))
          go_upto_region 18 with (fail)
          rw [← HN2.out]
          go_upto_region 22 with (fail)
          have z0 := q20
          have z1 := q21
          have hbZ := hbN2
          have y9 := (HKEEP.out N2 hbZ).1
          have y0 := (HKEEP.out N2 hbZ).2.1
          have y1 := (HKEEP.out N2 hbZ).2.2
          rw [HTX.out] at y0
          have HBZ := Lib.hid hbZ
          clear hbN2 hbZ f2 q20 q21
          go_quiet (fail)
          have hbQ := HBZ.out.trans ((below_drewN N2 nq).mono HBZ.out.size)
          generalize N2.drewN nq = Q at *
          have HBQ := Lib.hid hbQ
          clear hbQ z0 z1 y9 y0 y1
          go_wp2_with fail
          go_roundw
          case rel => exact ⟨k + 1, by omega, by go_num, HBQ.out⟩
          case measure => simp [intOf]; omega
      · have b1 : decide ((k : Int) < (tl.length : Int)) = false := decide_eq_false (by omega)
        have b1n : decide (k < tl.length) = false := decide_eq_false hlt
        have HBE := Lib.hid (HB3.out.trans (hb.mono HB3.out.size))
        clear hb
        go_wp2_with fail
        go_ret
        exact ⟨rfl, HBE.out⟩
end Nm
end Go.Proofs.YtenaohnginikhaaDoor
