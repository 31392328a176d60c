/- NormalizeRenames. Condition: bytealg's MaxLen, the table of powers and strconv's errors lie in their variables. -/
import Derived.Test.YtenaohnginikhaaDoorNrn
namespace Go.Proofs.YtenaohnginikhaaDoor
open Go.RowKit Go.Deep Tr
namespace Nm
theorem rep_any (x y : UInt8) (h : x ≠ y) (d : List UInt8) (hd : d.length ≤ 1000000) (w : World) (hM : MaxAt w) :
    Calls Tryd.prog 17 #[.string (str d), .string ⟨#[x]⟩, .string ⟨#[y]⟩] w fun e w' => e = .returned (.string (str (d.map (sub1 x y)))) ∧ Below w.heap.size w w' := by
  obtain ⟨m, hm⟩ := hM
  have hs := str_size d
  have hc : Lib.countB (str d) ⟨#[x]⟩ ≤ d.length + 1 := Lib.count_le d [x]
  have h1 := Tryd.strings_ReplaceAll (str d) ⟨#[x]⟩ ⟨#[y]⟩ m w (by omega) hm (Nat.le_refl 1) (by show (str d).size + Lib.countB (str d) ⟨#[x]⟩ * 1 ≤ _; omega)
  refine h1.mono fun e w' hh => ⟨?_, hh.2⟩
  rw [hh.1, show (str d).data.toList = d from rfl, show (⟨#[x]⟩ : ByteArray).data.toList = [x] from rfl, show (⟨#[y]⟩ : ByteArray).data.toList = [y] from rfl, rep1 x y h]
  rfl
set_option maxHeartbeats 8000000 in
set_option maxRecDepth 100000 in
theorem renames_law (sd : ByteArray) (W : World) (hM : MaxAt W) (hE : ErrAt W) (hT : Cd.Tabs W) :
    Calls Tryd.prog 7 #[.string sd] W fun e w' => e = .returned (.bool true) ∧ Below W.heap.size W w' := by
  have cc := awake_any W hM hE hT
  have HM := Lib.hid hM
  have HE := Lib.hid hE
  have HT := Lib.hid hT
  clear hM hE hT
  go_enter Tryd.func7, Tryd.ntmps7
  go_wp2_with fail
  (with_reducible refine cc.mono ?_)
  rintro e w1 ⟨rfl, hb1⟩
  clear cc
  have HB1 := Lib.hid hb1
  by_cases h2 : 2000 < sd.size
  · have b2 : decide ((2000 : Int) < (sd.size : Int)) = true := decide_eq_true (by omega)
    have b2n : decide (2000 < sd.size) = true := decide_eq_true h2
    clear hb1
    go_wp2_with fail
    go_ret
    exact ⟨rfl, HB1.out⟩
  have b2 : decide ((2000 : Int) < (sd.size : Int)) = false := decide_eq_false (by omega)
  have b2n : decide (2000 < sd.size) = false := decide_eq_false h2
  obtain ⟨d, rfl⟩ : ∃ x, sd = str x := ⟨sd.data.toList, (str_of sd).symm⟩
  have hds := str_size d
  have HM1 := Lib.hid (HM.out.below hb1)
  obtain ⟨m, hm⟩ := HM.out.below hb1
  have c0 : Calls Tryd.prog 18 #[.string (str d), .string ⟨#[110, 111, 116, 101]⟩] w1 fun e w' => e = .returned (.bool (Lib.contains d [110, 111, 116, 101])) ∧ w' = w1 := Tryd.strings_Contains (str d) ⟨#[110, 111, 116, 101]⟩ m w1 (by omega) hm
  have HC := Lib.hid (fun (h : Lib.contains d [110, 111, 116, 101] = false) => (⟨wrE_rn [97] h, wrT_rn [97] h⟩ : wrE [97] true true (rn d) = wrE [97] true true d ∧ wrT [97] true true (rn d) = wrT [97] true true d))
  generalize Lib.contains d [110, 111, 116, 101] = ct at *
  clear hm hb1
  go_wp2_with fail
  (with_reducible refine c0.mono ?_)
  rintro e w1' ⟨rfl, rfl⟩
  clear c0
  cases ct with
  | true =>
    go_wp2_with fail
    go_ret
    exact ⟨rfl, HB1.out⟩
  | false =>
  obtain ⟨q1, q2⟩ := HC.out rfl
  clear HC
  have c1 : Calls Tryd.prog 11 #[.string ⟨#[97]⟩, .string (str d), .bool true, .bool true] w1' (GotTx w1' (wrT [97] true true d) (wrE [97] true true d)) := words_any [97] d true true w1' (by decide) (by omega) HM1.out (HE.out.below HB1.out) (HT.out.below HB1.out)
  have hwl := wrd_len true true d
  have HWL := Lib.hid (show (wrT [97] true true d).ws.length ≤ 100000000 by
    unfold wrT
    split
    · show (wrd true true d).length ≤ _; omega
    · exact Nat.zero_le _)
  have HQ := Lib.hid (fun (X : World) (hX : Below W.heap.size W X) => (show Calls Tryd.prog 11 #[.string ⟨#[97]⟩, .string (str (rn d)), .bool true, .bool true] X (GotTx X (wrT [97] true true d) (wrE [97] true true d)) from by
    have h := words_any [97] (rn d) true true X (by decide) (by rw [rn_len]; omega) (HM.out.below hX) (HE.out.below hX) (HT.out.below hX)
    rw [q1, q2] at h
    exact h))
  have HRN := Lib.hid (show ((d.map (sub1 120 121)).map (sub1 55 51)).map (sub1 95 90) = rn d by rw [List.map_map, List.map_map]; rfl)
  clear q1 q2 hwl
  generalize wrT [97] true true d = T at *
  generalize wrE [97] true true d = E at *
  obtain ⟨tp, tl⟩ := T
  go_wp2_with fail
  (with_reducible refine c1.mono ?_)
  rintro e w2 ⟨A2, k2, rfl, hA2, _, hb2⟩
  clear c1
  dsimp only
  obtain ⟨V2, hV2⟩ : ∃ V2, V2 = w2.alloc (.cells #[.string (str tp), .slice A2 tl.length k2] 25) := ⟨_, rfl⟩
  have hv2 : Below w2.heap.size w2 V2 := by rw [hV2]; exact (Below.refl _ _).alloc (Nat.le_refl _) _
  have g2 : V2.heap[w2.heap.size]? = some (.cells #[.string (str tp), .slice A2 tl.length k2] 25 (0, 0)) := by rw [hV2]; exact heap_alloc_new w2 _
  have hB2 := (HB1.out.trans (hb2.mono HB1.out.size)).trans (hv2.mono (HB1.out.trans (hb2.mono HB1.out.size)).size)
  have HA2 := Lib.hid (hA2.next hv2)
  have HB2 := Lib.hid hB2
  have HG2 := Lib.hid g2
  clear hb2 hv2 hA2 hB2 g2
  obtain ⟨d1, hd1⟩ : ∃ x, x = d.map (sub1 120 121) := ⟨_, rfl⟩
  obtain ⟨d2, hd2⟩ : ∃ x, x = d1.map (sub1 55 51) := ⟨_, rfl⟩
  have hl1 : d1.length = d.length := by rw [hd1, List.length_map]
  have hl2 : d2.length = d.length := by rw [hd2, List.length_map, hl1]
  have c3 := rep_any 120 121 (by decide) d (by omega) V2 (HM.out.below HB2.out)
  rw [← hd1] at c3
  have HD1 := Lib.hid hd1
  have HD2 := Lib.hid hd2
  have hc4 : d1.map (sub1 55 51) = d2 := hd2.symm
  have HC4 := Lib.hid hc4
  clear hd1 hd2 hc4
  go_wp2_with fail
  rw [← hV2]
  clear hV2
  (with_reducible refine c3.mono ?_)
  rintro e x1 ⟨rfl, hx1⟩
  clear c3
  have hy1 := HB2.out.trans (hx1.mono HB2.out.size)
  have c4 := rep_any 55 51 (by decide) d1 (by omega) x1 (HM.out.below hy1)
  rw [HC4.out] at c4
  have HX1 := Lib.hid hx1
  have HY1 := Lib.hid hy1
  clear hx1 hy1
  go_wp2_with fail
  (with_reducible refine c4.mono ?_)
  rintro e x2 ⟨rfl, hx2⟩
  clear c4
  have hy2 := HY1.out.trans (hx2.mono HY1.out.size)
  have c5 := rep_any 95 90 (by decide) d2 (by omega) x2 (HM.out.below hy2)
  rw [show d2.map (sub1 95 90) = rn d by rw [HD2.out, HD1.out]; exact HRN.out] at c5
  have HX2 := Lib.hid (HX1.out.trans (hx2.mono HX1.out.size))
  have HY2 := Lib.hid hy2
  clear hx2 hy2
  go_wp2_with fail
  (with_reducible refine c5.mono ?_)
  rintro e x3 ⟨rfl, hx3⟩
  clear c5
  have hX3 := HX2.out.trans (hx3.mono HX2.out.size)
  have hY3 := HY2.out.trans (hx3.mono HY2.out.size)
  have c6 := HQ.out x3 hY3
  have HX3 := Lib.hid hX3
  have HY3 := Lib.hid hY3
  clear hx3 hX3 hY3 HQ
  go_wp2_with fail
  (with_reducible refine c6.mono ?_)
  rintro e w3 ⟨A3, k3, rfl, hA3, _, hb3'⟩
  clear c6
  dsimp only
  have hb3 : Below V2.heap.size V2 w3 := HX3.out.trans (hb3'.mono HX3.out.size)
  obtain ⟨V3, hV3⟩ : ∃ V3, V3 = w3.alloc (.cells #[.string (str tp), .slice A3 tl.length k3] 25) := ⟨_, rfl⟩
  have hv3 : Below w3.heap.size w3 V3 := by rw [hV3]; exact (Below.refl _ _).alloc (Nat.le_refl _) _
  have g3 : V3.heap[w3.heap.size]? = some (.cells #[.string (str tp), .slice A3 tl.length k3] 25 (0, 0)) := by rw [hV3]; exact heap_alloc_new w3 _
  have hB3 : Below V2.heap.size V2 V3 := hb3.trans (hv3.mono hb3.size)
  have g2' := (hB3.block _ (blk_lt HG2.out)).trans HG2.out
  obtain ⟨e0, e1⟩ := cells2 g2'
  obtain ⟨f0, f1⟩ := cells2 g3
  have c7 : Calls Tryd.prog 13 #[.agg #[.string (str tp), .slice A2 tl.length k2], .agg #[.string (str tp), .slice A3 tl.length k3]] V3 fun x w' => x = .returned (.bool true) ∧ Below V3.heap.size V3 w' := same_true ⟨tp, tl⟩ A2 A3 k2 k3 V3 (HA2.out.next hB3) (hA3.next hv3) HWL.out
  have HB3 := Lib.hid (HB2.out.trans (hB3.mono HB2.out.size))
  clear hb3 hb3' hv3 hA3 hB3 g3 g2'
  go_upto_region 7 with (fail)
  rw [← hV3]
  clear hV3
  go_wp2_with fail
  (with_reducible refine c7.mono ?_)
  rintro e w4 ⟨rfl, hb4⟩
  have HB4 := Lib.hid (HB3.out.trans (hb4.mono HB3.out.size))
  clear c7 hb4
  go_wp2_with fail
  go_ret
  exact ⟨rfl, HB4.out⟩
end Nm
end Go.Proofs.YtenaohnginikhaaDoor
