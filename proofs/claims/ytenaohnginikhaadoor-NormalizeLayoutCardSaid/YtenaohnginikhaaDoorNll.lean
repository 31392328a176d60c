/- NormalizeLayout. Condition: bytealg's MaxLen, the table of powers and strconv's errors lie in their variables. -/
import Derived.Test.YtenaohnginikhaaDoorNly
namespace Go.Proofs.YtenaohnginikhaaDoor
open Go.RowKit Go.Deep Tr
namespace Nm
theorem repm_any (x : UInt8) (new : List UInt8) (h : [x] ≠ new) (h5 : new.length ≤ 5) (d : List UInt8) (hd : d.length ≤ 1000000) (w : World) (hM : MaxAt w) :
    Calls Tryd.prog 17 #[.string (str d), .string ⟨#[x]⟩, .string (str new)] w fun e w' => e = .returned (.string (str (d.flatMap (wf x new)))) ∧ Below w.heap.size w w' := by
  obtain ⟨m, hm⟩ := hM
  have hs := str_size d
  have hn := str_size new
  have hc : Lib.countB (str d) ⟨#[x]⟩ ≤ d.length + 1 := Lib.count_le d [x]
  have hmul : Lib.countB (str d) ⟨#[x]⟩ * (str new).size ≤ (d.length + 1) * 5 := Nat.mul_le_mul hc (by omega)
  have h1 := Tryd.strings_ReplaceAll (str d) ⟨#[x]⟩ (str new) m w (by omega) hm (Nat.le_refl 1) (by omega)
  refine h1.mono fun e w' hh => ⟨?_, hh.2⟩
  rw [hh.1, show (str d).data.toList = d from rfl, show (⟨#[x]⟩ : ByteArray).data.toList = [x] from rfl, show (str new).data.toList = new from rfl, repm x new h]
  rfl
set_option maxHeartbeats 8000000 in
set_option maxRecDepth 100000 in
theorem layout_law (sd : ByteArray) (a b : Bool) (W : World) (hM : MaxAt W) (hE : ErrAt W) (hT : Cd.Tabs W) :
    Calls Tryd.prog 5 #[.string sd, .bool a, .bool b] W fun e w' => e = .returned (.bool true) ∧ Below W.heap.size W w' := by
  have cc := awake_any W hM hE hT
  have HM := Lib.hid hM
  have HE := Lib.hid hE
  have HT := Lib.hid hT
  clear hM hE hT
  go_enter Tryd.func5, Tryd.ntmps5
  go_wp2_with fail
  (with_reducible refine cc.mono ?_)
  rintro e w1 ⟨rfl, hb1⟩
  clear cc
  have HB1 := Lib.hid hb1
  by_cases h2 : 2000 < sd.size
  · have b2 : decide ((2000 : Int) < (sd.size : Int)) = true := decide_eq_true (by omega)
    have b2n : decide (2000 < sd.size) = true := decide_eq_true h2
    clear hb1
    go_wp2_with fail
    go_ret
    exact ⟨rfl, HB1.out⟩
  have b2 : decide ((2000 : Int) < (sd.size : Int)) = false := decide_eq_false (by omega)
  have b2n : decide (2000 < sd.size) = false := decide_eq_false h2
  obtain ⟨d, rfl⟩ : ∃ x, sd = str x := ⟨sd.data.toList, (str_of sd).symm⟩
  have hds := str_size d
  have q1 := wrE_wide [97] a b (d := d) (by omega)
  have q2 := wrT_wide [97] a b (d := d) (by omega)
  have hwd := wide_len d
  have c1 : Calls Tryd.prog 11 #[.string ⟨#[97]⟩, .string (str d), .bool a, .bool b] w1 (GotTx w1 (wrT [97] a b d) (wrE [97] a b d)) := words_any [97] d a b w1 (by decide) (by omega) (HM.out.below HB1.out) (HE.out.below HB1.out) (HT.out.below HB1.out)
  have hwl := wrd_len a b d
  have HWL := Lib.hid (show (wrT [97] a b d).ws.length ≤ 100000000 by
    unfold wrT
    split
    · show (wrd a b d).length ≤ _; omega
    · exact Nat.zero_le _)
  have HQ := Lib.hid (fun (X : World) (hX : Below W.heap.size W X) => (show Calls Tryd.prog 11 #[.string ⟨#[97]⟩, .string (str (wide d)), .bool a, .bool b] X (GotTx X (wrT [97] a b d) (wrE [97] a b d)) from by
    have h := words_any [97] (wide d) a b X (by decide) (by omega) (HM.out.below hX) (HE.out.below hX) (HT.out.below hX)
    rw [q1, q2] at h
    exact h))
  clear hb1
  clear q1 q2 hwl
  generalize wrT [97] a b d = T at *
  generalize wrE [97] a b d = E at *
  obtain ⟨tp, tl⟩ := T
  go_wp2_with fail
  (with_reducible refine c1.mono ?_)
  rintro e w2 ⟨A2, k2, rfl, hA2, _, hb2⟩
  clear c1
  dsimp only
  obtain ⟨V2, hV2⟩ : ∃ V2, V2 = w2.alloc (.cells #[.string (str tp), .slice A2 tl.length k2] 25) := ⟨_, rfl⟩
  have hv2 : Below w2.heap.size w2 V2 := by rw [hV2]; exact (Below.refl _ _).alloc (Nat.le_refl _) _
  have g2 : V2.heap[w2.heap.size]? = some (.cells #[.string (str tp), .slice A2 tl.length k2] 25 (0, 0)) := by rw [hV2]; exact heap_alloc_new w2 _
  have hB2 := (HB1.out.trans (hb2.mono HB1.out.size)).trans (hv2.mono (HB1.out.trans (hb2.mono HB1.out.size)).size)
  have HA2 := Lib.hid (hA2.next hv2)
  have HB2 := Lib.hid hB2
  have HG2 := Lib.hid g2
  clear hb2 hv2 hA2 hB2 g2
  obtain ⟨d1, hd1⟩ : ∃ x, x = d.flatMap (wf 32 [9, 32, 13]) := ⟨_, rfl⟩
  obtain ⟨d2, hd2⟩ : ∃ x, x = d1.flatMap (wf 10 [32, 32, 10, 127, 11]) := ⟨_, rfl⟩
  have hwd2 : [32, 9] ++ (d2 ++ [0]) = wide d := by rw [hd2, hd1, flat_wg]; rfl
  have hl1 : d1.length ≤ 3 * d.length := by rw [hd1]; exact w2_len d
  have hl2 : d2.length ≤ (wide d).length := by rw [← hwd2]; simp; omega
  have c3 : Calls Tryd.prog 17 #[.string (str d), .string ⟨#[32]⟩, .string ⟨#[9, 32, 13]⟩] V2 fun e w' => e = .returned (.string (str d1)) ∧ Below V2.heap.size V2 w' := by
    have h := repm_any 32 [9, 32, 13] (by decide) (by decide) d (by omega) V2 (HM.out.below HB2.out)
    rw [hd1]; exact h
  have HC4 := Lib.hid (fun (X : World) (hX : MaxAt X) => (show Calls Tryd.prog 17 #[.string (str d1), .string ⟨#[10]⟩, .string ⟨#[32, 32, 10, 127, 11]⟩] X fun e w' => e = .returned (.string (str d2)) ∧ Below X.heap.size X w' from by
    have h := repm_any 10 [32, 32, 10, 127, 11] (by decide) (by decide) d1 (by omega) X hX
    rw [hd2]; exact h))
  obtain ⟨d3, hd3⟩ : ∃ x, x = [32, 9] ++ d2 := ⟨_, rfl⟩
  have hcat1 : (⟨#[32, 9]⟩ : ByteArray) ++ str d2 = str d3 := by rw [hd3]; exact str_app [32, 9] d2
  have hcat2 : str d3 ++ (⟨#[0]⟩ : ByteArray) = str (wide d) := by rw [hd3]; exact (str_app ([32, 9] ++ d2) [0]).trans (by rw [List.append_assoc, hwd2])
  have hsz2 : (str d2).size = d2.length := str_size d2
  have hsz3 : (str d3).size = d2.length + 2 := by rw [str_size, hd3]; simp
  clear hd1 hd2 hd3 hwd2
  go_wp2_with fail
  rw [← hV2]
  clear hV2
  (with_reducible refine c3.mono ?_)
  rintro e x1 ⟨rfl, hx1⟩
  clear c3
  have hy1 := HB2.out.trans (hx1.mono HB2.out.size)
  have c4 := HC4.out x1 (HM.out.below hy1)
  have HX1 := Lib.hid hx1
  have HY1 := Lib.hid hy1
  clear hx1 hy1 HC4
  go_wp2_with fail
  (with_reducible refine c4.mono ?_)
  rintro e x3 ⟨rfl, hx3⟩
  clear c4
  have HX2 := HX1
  have HY2 := HY1
  have hX3 := HX2.out.trans (hx3.mono HX2.out.size)
  have hY3 := HY2.out.trans (hx3.mono HY2.out.size)
  have c6 := HQ.out x3 hY3
  have HX3 := Lib.hid hX3
  have HY3 := Lib.hid hY3
  clear hx3 hX3 hY3 HQ
  generalize wide d = wd at *
  go_wp2_with fail
  (with_reducible refine c6.mono ?_)
  rintro e w3 ⟨A3, k3, rfl, hA3, _, hb3'⟩
  clear c6
  dsimp only
  have hb3 : Below V2.heap.size V2 w3 := HX3.out.trans (hb3'.mono HX3.out.size)
  obtain ⟨V3, hV3⟩ : ∃ V3, V3 = w3.alloc (.cells #[.string (str tp), .slice A3 tl.length k3] 25) := ⟨_, rfl⟩
  have hv3 : Below w3.heap.size w3 V3 := by rw [hV3]; exact (Below.refl _ _).alloc (Nat.le_refl _) _
  have g3 : V3.heap[w3.heap.size]? = some (.cells #[.string (str tp), .slice A3 tl.length k3] 25 (0, 0)) := by rw [hV3]; exact heap_alloc_new w3 _
  have hB3 : Below V2.heap.size V2 V3 := hb3.trans (hv3.mono hb3.size)
  have g2' := (hB3.block _ (blk_lt HG2.out)).trans HG2.out
  obtain ⟨e0, e1⟩ := cells2 g2'
  obtain ⟨f0, f1⟩ := cells2 g3
  have c7 : Calls Tryd.prog 13 #[.agg #[.string (str tp), .slice A2 tl.length k2], .agg #[.string (str tp), .slice A3 tl.length k3]] V3 fun x w' => x = .returned (.bool true) ∧ Below V3.heap.size V3 w' := same_true ⟨tp, tl⟩ A2 A3 k2 k3 V3 (HA2.out.next hB3) (hA3.next hv3) HWL.out
  have HB3 := Lib.hid (HB2.out.trans (hB3.mono HB2.out.size))
  clear hb3 hb3' hv3 hA3 hB3 g3 g2'
  go_upto_region 8 with (fail)
  rw [← hV3]
  clear hV3
  go_wp2_with fail
  (with_reducible refine c7.mono ?_)
  rintro e w4 ⟨rfl, hb4⟩
  have HB4 := Lib.hid (HB3.out.trans (hb4.mono HB3.out.size))
  clear c7 hb4
  go_wp2_with fail
  go_ret
  exact ⟨rfl, HB4.out⟩
end Nm
end Go.Proofs.YtenaohnginikhaaDoor
