/- awake; NormalizeWords. Condition: bytealg's MaxLen, the table of powers and strconv's errors lie in their variables. -/
import Derived.Test.YtenaohnginikhaaDoorNaw
namespace Go.Proofs.YtenaohnginikhaaDoor
open Go.RowKit Go.Deep Tr
namespace Nm
theorem words_any (p d : List UInt8) (a b : Bool) (w : World) (hp : p.length ≤ 1000000000) (hd : d.length ≤ 1000000000) (hM : MaxAt w) (hE : ErrAt w) (hT : Cd.Tabs w) :
    Calls Tryd.prog 11 #[.string (str p), .string (str d), .bool a, .bool b] w (GotTx w (wrT p a b d) (wrE p a b d)) := callsIn_wide.1 (words_in p d a b w hp hd hM hE hT)
def L1 : List Lx := [⟨[108, 101, 116], 0⟩, ⟨[120, 49], 0⟩, ⟨[61], 0⟩, ⟨[49, 48], 0⟩, ⟨[59], 0⟩]
def L2 : List Lx := [⟨[36, 110], 0⟩, ⟨[36, 110], 0⟩, ⟨[61], 0⟩, ⟨[36, 48], 0⟩, ⟨[59], 0⟩]
def L3 : List Lx := [⟨[122], 2⟩]
theorem ex1E : wrE [97] false false [108, 101, 116, 32, 120, 49, 32, 61, 32, 49, 48, 59] = 0 := by kernel_rfl
theorem ex1T : wrT [97] false false [108, 101, 116, 32, 120, 49, 32, 61, 32, 49, 48, 59] = ⟨[97], L1⟩ := by kernel_rfl
theorem ex2E : wrE [97] true true [108, 101, 116, 32, 120, 49, 32, 61, 32, 49, 48, 59] = 0 := by kernel_rfl
theorem ex2T : wrT [97] true true [108, 101, 116, 32, 120, 49, 32, 61, 32, 49, 48, 59] = ⟨[97], L2⟩ := by kernel_rfl
theorem ex3E : wrE [97] false false [110, 111, 116, 101, 32, 49, 10, 108, 101, 116, 32, 121, 32, 61, 32, 50, 10, 122] = 0 := by kernel_rfl
theorem ex3T : wrT [97] false false [110, 111, 116, 101, 32, 49, 10, 108, 101, 116, 32, 121, 32, 61, 32, 50, 10, 122] = ⟨[97], L3⟩ := by kernel_rfl
theorem eqs_true (A A' : Option Addr) (c c' : Nat) (l : List (List UInt8)) (w : World) (hA : Ls.StAt w w.heap.size A l) (hA' : Ls.StAt w w.heap.size A' l) (h0 : 0 < l.length) (hl : l.length ≤ 1000000000) :
    Calls Tryd.prog 22 #[.slice A l.length c, .slice A' l.length c'] w fun e w' => e = .returned (.bool true) ∧ Below w.heap.size w w' := by
  obtain ⟨g, o, rfl, _, _⟩ := hA 0 h0
  obtain ⟨g', o', rfl, _, _⟩ := hA' 0 h0
  have hcell : ∀ (g o : Nat), Ls.StAt w w.heap.size (some ⟨g, o, none⟩) l → ∀ j, j < (l.map str).length → w.cell? ⟨g, o + j, none⟩ = some (.string ((l.map str).getD j ByteArray.empty)) := fun g o h j hj => by
    have hj2 : j < l.length := by simpa using hj
    obtain ⟨g1, o1, e, _, hc⟩ := h j hj2
    cases e
    have := hc 0 _ rfl
    rw [Nat.mul_one, Nat.add_zero] at this
    rw [this]
    simp [List.getD, hj2]
  refine (Tryd.slices_Equal_string g o l.length c g' o' l.length c' (l.map str) (l.map str) w (by simp) (by simp) (by omega) (by omega) (hcell g o hA) (hcell g' o' hA')).mono ?_
  rintro e w' ⟨rfl, q, rfl⟩
  exact ⟨by simp, below_drewN w q⟩
theorem st_next {w w' : World} {A : Option Addr} {l : List (List UInt8)} (h : Ls.StAt w w.heap.size A l) (hb : Below w.heap.size w w') : Ls.StAt w' w'.heap.size A l := Ls.ElAt.next h hb
theorem eq1_any (A : Option Addr) (c : Nat) (w : World) (hA : Ls.StAt w w.heap.size A (txs L1)) :
    Calls Tryd.prog 22 #[.slice A 5 c, .slice (some ⟨w.heap.size, 0, none⟩) 5 5] (w.alloc (.cells #[.string ⟨#[108, 101, 116]⟩, .string ⟨#[120, 49]⟩, .string ⟨#[61]⟩, .string ⟨#[49, 48]⟩, .string ⟨#[59]⟩] 9)) fun e w' => e = .returned (.bool true) ∧ Below w.heap.size w w' := by
  have hb : Below w.heap.size w (w.alloc (.cells #[.string ⟨#[108, 101, 116]⟩, .string ⟨#[120, 49]⟩, .string ⟨#[61]⟩, .string ⟨#[49, 48]⟩, .string ⟨#[59]⟩] 9)) := (Below.refl _ _).alloc (Nat.le_refl _) _
  have hc := heap_alloc_new w (.cells #[.string ⟨#[108, 101, 116]⟩, .string ⟨#[120, 49]⟩, .string ⟨#[61]⟩, .string ⟨#[49, 48]⟩, .string ⟨#[59]⟩] 9)
  refine (eqs_true A (some ⟨w.heap.size, 0, none⟩) c 5 (txs L1) _ (st_next hA hb) (fun j hj => ⟨w.heap.size, 0, rfl, by simp, fun i u hu => ?_⟩) (by decide) (by decide)).mono fun e w' h => ⟨h.1, hb.trans (h.2.mono (by simp))⟩
  rw [cell_of_row _ _ _ _ _ _ hc]
  have hj2 : j < 5 := hj
  have hi : i = 0 := by
    have := (List.getElem?_eq_some_iff.1 hu).1
    simpa [Ls.stV] using this
  subst hi
  match j, hj2 with
  | 0, _ => exact hu
  | 1, _ => exact hu
  | 2, _ => exact hu
  | 3, _ => exact hu
  | 4, _ => exact hu
theorem eq2_any (A : Option Addr) (c : Nat) (w : World) (hA : Ls.StAt w w.heap.size A (txs L2)) :
    Calls Tryd.prog 22 #[.slice A 5 c, .slice (some ⟨w.heap.size, 0, none⟩) 5 5] (w.alloc (.cells #[.string ⟨#[36, 110]⟩, .string ⟨#[36, 110]⟩, .string ⟨#[61]⟩, .string ⟨#[36, 48]⟩, .string ⟨#[59]⟩] 9)) fun e w' => e = .returned (.bool true) ∧ Below w.heap.size w w' := by
  have hb : Below w.heap.size w (w.alloc (.cells #[.string ⟨#[36, 110]⟩, .string ⟨#[36, 110]⟩, .string ⟨#[61]⟩, .string ⟨#[36, 48]⟩, .string ⟨#[59]⟩] 9)) := (Below.refl _ _).alloc (Nat.le_refl _) _
  have hc := heap_alloc_new w (.cells #[.string ⟨#[36, 110]⟩, .string ⟨#[36, 110]⟩, .string ⟨#[61]⟩, .string ⟨#[36, 48]⟩, .string ⟨#[59]⟩] 9)
  refine (eqs_true A (some ⟨w.heap.size, 0, none⟩) c 5 (txs L2) _ (st_next hA hb) (fun j hj => ⟨w.heap.size, 0, rfl, by simp, fun i u hu => ?_⟩) (by decide) (by decide)).mono fun e w' h => ⟨h.1, hb.trans (h.2.mono (by simp))⟩
  rw [cell_of_row _ _ _ _ _ _ hc]
  have hj2 : j < 5 := hj
  have hi : i = 0 := by
    have := (List.getElem?_eq_some_iff.1 hu).1
    simpa [Ls.stV] using this
  subst hi
  match j, hj2 with
  | 0, _ => exact hu
  | 1, _ => exact hu
  | 2, _ => exact hu
  | 3, _ => exact hu
  | 4, _ => exact hu
theorem eq3_any (A : Option Addr) (c : Nat) (w : World) (hA : LxAt w w.heap.size A L3) :
    Calls Tryd.prog 24 #[.slice A 1 c, .slice (some ⟨w.heap.size, 0, none⟩) 1 1] (w.alloc (.cells #[.string ⟨#[122]⟩, .int .i64 2] 41)) fun e w' => e = .returned (.bool true) ∧ Below w.heap.size w w' := by
  have hb : Below w.heap.size w (w.alloc (.cells #[.string ⟨#[122]⟩, .int .i64 2] 41)) := (Below.refl _ _).alloc (Nat.le_refl _) _
  have hc := cells2 (heap_alloc_new w (.cells #[.string ⟨#[122]⟩, .int .i64 2] 41))
  refine (eqlx_true A (some ⟨w.heap.size, 0, none⟩) c 1 L3 _ (hA.next hb) (fun j hj => ?_) (by decide)).mono fun e w' h => ⟨h.1, hb.trans (h.2.mono (by simp))⟩
  have hj2 : j < 1 := hj
  match j, hj2 with
  | 0, _ => exact ⟨w.heap.size, 0, rfl, by simp, hc.1, hc.2⟩
set_option maxHeartbeats 8000000 in
set_option maxRecDepth 100000 in
theorem awake_any (w : World) (hM : MaxAt w) (hE : ErrAt w) (hT : Cd.Tabs w) :
    Calls Tryd.prog 10 #[] w fun e w' => e = .returned (.bool true) ∧ Below w.heap.size w w' := by
  have c1 : Calls Tryd.prog 11 #[.string ⟨#[97]⟩, .string ⟨#[108, 101, 116, 32, 120, 49, 32, 61, 32, 49, 48, 59]⟩, .bool false, .bool false] w (GotTx w ⟨[97], L1⟩ 0) := by
    have h := words_any [97] [108, 101, 116, 32, 120, 49, 32, 61, 32, 49, 48, 59] false false w (by decide) (by decide) hM hE hT
    rw [ex1E, ex1T] at h
    exact h
  have HM := Lib.hid hM
  have HE := Lib.hid hE
  have HT := Lib.hid hT
  clear hM hE hT
  go_enter Tryd.func10, Tryd.ntmps10
  go_wp2_with fail
  (with_reducible refine c1.mono ?_)
  rintro e w1 ⟨A1, k1, rfl, hA1, _, hb1⟩
  clear c1
  have hn1 : (⟨[97], L1⟩ : Txt).ws.length = 5 := rfl
  rw [show txV A1 k1 ⟨[97], L1⟩ = .agg #[.string ⟨#[97]⟩, .slice A1 5 k1] from rfl]
  obtain ⟨V1, hV1⟩ : ∃ V1, V1 = w1.alloc (.cells #[.string ⟨#[97]⟩, .slice A1 5 k1] 25) := ⟨_, rfl⟩
  have hv1 : Below w1.heap.size w1 V1 := by rw [hV1]; exact (Below.refl _ _).alloc (Nat.le_refl _) _
  have g1 : V1.heap[w1.heap.size]? = some (.cells #[.string ⟨#[97]⟩, .slice A1 5 k1] 25 (0, 0)) := by rw [hV1]; exact heap_alloc_new w1 _
  have hB1 := hb1.trans (hv1.mono hb1.size)
  have hA1' := hA1.next hv1
  clear hb1 hv1 hA1
  have c2 : Calls Tryd.prog 11 #[.string ⟨#[97]⟩, .string ⟨#[108, 101, 116, 32, 120, 49, 32, 61, 32, 49, 48, 59]⟩, .bool true, .bool true] V1 (GotTx V1 ⟨[97], L2⟩ 0) := by
    have h := words_any [97] [108, 101, 116, 32, 120, 49, 32, 61, 32, 49, 48, 59] true true V1 (by decide) (by decide) (HM.out.below hB1) (HE.out.below hB1) (HT.out.below hB1)
    rw [ex2E, ex2T] at h
    exact h
  have HB1 := Lib.hid hB1
  have HA1 := Lib.hid hA1'
  have HG1 := Lib.hid g1
  clear hB1 hA1' g1
  go_wp2_with fail
  rw [← hV1]
  clear hV1
  (with_reducible refine c2.mono ?_)
  rintro e w2 ⟨A2, k2, rfl, hA2, _, hb2⟩
  clear c2
  rw [show txV A2 k2 ⟨[97], L2⟩ = .agg #[.string ⟨#[97]⟩, .slice A2 5 k2] from rfl]
  obtain ⟨V2, hV2⟩ : ∃ V2, V2 = w2.alloc (.cells #[.string ⟨#[97]⟩, .slice A2 5 k2] 25) := ⟨_, rfl⟩
  have hv2 : Below w2.heap.size w2 V2 := by rw [hV2]; exact (Below.refl _ _).alloc (Nat.le_refl _) _
  have g2 : V2.heap[w2.heap.size]? = some (.cells #[.string ⟨#[97]⟩, .slice A2 5 k2] 25 (0, 0)) := by rw [hV2]; exact heap_alloc_new w2 _
  have hB2 : Below V1.heap.size V1 V2 := hb2.trans (hv2.mono hb2.size)
  have hA2' := hA2.next hv2
  have hBB2 := HB1.out.trans (hB2.mono HB1.out.size)
  have hg12 := (hB2.block _ (blk_lt HG1.out)).trans HG1.out
  have hA12 := HA1.out.next hB2
  clear hb2 hv2 hA2 hB2
  have c3 : Calls Tryd.prog 11 #[.string ⟨#[97]⟩, .string ⟨#[110, 111, 116, 101, 32, 49, 10, 108, 101, 116, 32, 121, 32, 61, 32, 50, 10, 122]⟩, .bool false, .bool false] V2 (GotTx V2 ⟨[97], L3⟩ 0) := by
    have h := words_any [97] [110, 111, 116, 101, 32, 49, 10, 108, 101, 116, 32, 121, 32, 61, 32, 50, 10, 122] false false V2 (by decide) (by decide) (HM.out.below hBB2) (HE.out.below hBB2) (HT.out.below hBB2)
    rw [ex3E, ex3T] at h
    exact h
  have HB2 := Lib.hid hBB2
  have HA12 := Lib.hid hA12
  have HA2 := Lib.hid hA2'
  have HG12 := Lib.hid hg12
  have HG2 := Lib.hid g2
  clear hBB2 hA12 hA2' hg12 g2
  go_wp2_with fail
  rw [← hV2]
  clear hV2
  (with_reducible refine c3.mono ?_)
  rintro e w3 ⟨A3, k3, rfl, hA3, _, hb3⟩
  clear c3
  rw [show txV A3 k3 ⟨[97], L3⟩ = .agg #[.string ⟨#[97]⟩, .slice A3 1 k3] from rfl]
  obtain ⟨V3, hV3⟩ : ∃ V3, V3 = w3.alloc (.cells #[.string ⟨#[97]⟩, .slice A3 1 k3] 25) := ⟨_, rfl⟩
  have hv3 : Below w3.heap.size w3 V3 := by rw [hV3]; exact (Below.refl _ _).alloc (Nat.le_refl _) _
  have g3 : V3.heap[w3.heap.size]? = some (.cells #[.string ⟨#[97]⟩, .slice A3 1 k3] 25 (0, 0)) := by rw [hV3]; exact heap_alloc_new w3 _
  have hB3 : Below V2.heap.size V2 V3 := hb3.trans (hv3.mono hb3.size)
  -- what lies where, behind any more
  have HKEEP := Lib.hid (fun (X : World) (hX : Below V3.heap.size V3 X) => (show TxAt X A1 ⟨[97], L1⟩ ∧ TxAt X A2 ⟨[97], L2⟩ ∧ TxAt X A3 ⟨[97], L3⟩ ∧ X.heap[w1.heap.size]? = some (.cells #[.string ⟨#[97]⟩, .slice A1 5 k1] 25 (0, 0)) ∧ X.heap[w2.heap.size]? = some (.cells #[.string ⟨#[97]⟩, .slice A2 5 k2] 25 (0, 0)) ∧ X.heap[w3.heap.size]? = some (.cells #[.string ⟨#[97]⟩, .slice A3 1 k3] 25 (0, 0)) ∧ Below w.heap.size w X from by
    have y1 := (hB3.block _ (blk_lt HG12.out)).trans HG12.out
    have y2 := (hB3.block _ (blk_lt HG2.out)).trans HG2.out
    exact ⟨(HA12.out.next hB3).next hX, (HA2.out.next hB3).next hX, (hA3.next hv3).next hX, (hX.block _ (blk_lt y1)).trans y1, (hX.block _ (blk_lt y2)).trans y2, (hX.block _ (blk_lt g3)).trans g3, (HB2.out.trans (hB3.mono HB2.out.size)).trans (hX.mono (HB2.out.trans (hB3.mono HB2.out.size)).size)⟩))
  clear hb3 hv3 hA3 hB3 g3
  have z := HKEEP.out V3 (Below.refl _ _)
  have e10 := (cells2 z.2.2.2.1).1
  have e11 := (cells2 z.2.2.2.1).2
  have c4 : Calls Tryd.prog 23 #[.agg #[.string ⟨#[97]⟩, .slice A1 5 k1]] V3 (GotSs V3 (txs L1)) := texts_any ⟨[97], L1⟩ A1 k1 V3 z.1 (by decide)
  clear z
  go_upto_region 4 with (fail)
  rw [← hV3]
  clear hV3
  go_wp2_with fail
  (with_reducible refine c4.mono ?_)
  rintro e w4 ⟨A4, k4, rfl, hA4, _, hb4⟩
  clear c4 e10 e11
  rw [show (txs L1).length = 5 from rfl]
  have c5 := eq1_any A4 k4 w4 hA4
  have HB4 := Lib.hid hb4
  clear hA4 hb4
  go_wp2_with fail
  (with_reducible refine c5.mono ?_)
  rintro e w5 ⟨rfl, hb5⟩
  have hB5 := HB4.out.trans (hb5.mono HB4.out.size)
  clear c5 hb5
  have z := HKEEP.out w5 hB5
  have e20 := (cells2 z.2.2.2.2.1).1
  have e21 := (cells2 z.2.2.2.2.1).2
  have c6 : Calls Tryd.prog 23 #[.agg #[.string ⟨#[97]⟩, .slice A2 5 k2]] w5 (GotSs w5 (txs L2)) := texts_any ⟨[97], L2⟩ A2 k2 w5 z.2.1 (by decide)
  have HB5 := Lib.hid hB5
  clear z hB5
  go_wp2_with fail
  (with_reducible refine c6.mono ?_)
  rintro e w6 ⟨A6, k6, rfl, hA6, _, hb6⟩
  clear c6 e20 e21
  rw [show (txs L2).length = 5 from rfl]
  have c7 := eq2_any A6 k6 w6 hA6
  have HB6 := Lib.hid (HB5.out.trans (hb6.mono HB5.out.size))
  clear hA6 hb6
  go_wp2_with fail
  (with_reducible refine c7.mono ?_)
  rintro e w7 ⟨rfl, hb7⟩
  have hB7 := HB6.out.trans (hb7.mono HB6.out.size)
  clear c7 hb7
  have z := HKEEP.out w7 hB7
  have e31 := (cells2 z.2.2.2.2.2.1).2
  have c8 := eq3_any A3 k3 w7 z.2.2.1.ws
  have HB7 := Lib.hid z.2.2.2.2.2.2
  clear z hB7
  go_wp2_with fail
  (with_reducible refine c8.mono ?_)
  rintro e w8 ⟨rfl, hb8⟩
  have HB8 := Lib.hid (HB7.out.trans (hb8.mono HB7.out.size))
  clear c8 hb8
  go_wp2_with fail
  go_ret
  exact ⟨rfl, HB8.out⟩
set_option maxHeartbeats 8000000 in
set_option maxRecDepth 100000 in
theorem words_law (sp sd : ByteArray) (a b : Bool) (W : World) (hM : MaxAt W) (hE : ErrAt W) (hT : Cd.Tabs W) :
    Calls Tryd.prog 3 #[.string sp, .string sd, .bool a, .bool b] W fun e w' => e = .returned (.bool true) ∧ Below W.heap.size W w' := by
  have cc := awake_any W hM hE hT
  have HM := Lib.hid hM
  have HE := Lib.hid hE
  have HT := Lib.hid hT
  clear hM hE hT
  go_enter Tryd.func3, Tryd.ntmps3
  go_wp2_with fail
  (with_reducible refine cc.mono ?_)
  rintro e w1 ⟨rfl, hb1⟩
  clear cc
  have HB1 := Lib.hid hb1
  by_cases h1 : 200 < sp.size
  · have b1 : decide ((200 : Int) < (sp.size : Int)) = true := decide_eq_true (by omega)
    have b1n : decide (200 < sp.size) = true := decide_eq_true h1
    clear hb1
    go_wp2_with fail
    go_ret
    exact ⟨rfl, HB1.out⟩
  have b1 : decide ((200 : Int) < (sp.size : Int)) = false := decide_eq_false (by omega)
  have b1n : decide (200 < sp.size) = false := decide_eq_false h1
  by_cases h2 : 2000 < sd.size
  · have b2 : decide ((2000 : Int) < (sd.size : Int)) = true := decide_eq_true (by omega)
    have b2n : decide (2000 < sd.size) = true := decide_eq_true h2
    clear hb1
    go_wp2_with fail
    go_ret
    exact ⟨rfl, HB1.out⟩
  have b2 : decide ((2000 : Int) < (sd.size : Int)) = false := decide_eq_false (by omega)
  have b2n : decide (2000 < sd.size) = false := decide_eq_false h2
  obtain ⟨p, rfl⟩ : ∃ x, sp = str x := ⟨sp.data.toList, (str_of sp).symm⟩
  obtain ⟨d, rfl⟩ : ∃ x, sd = str x := ⟨sd.data.toList, (str_of sd).symm⟩
  have hps := str_size p
  have hds := str_size d
  have c1 := words_any p d a b w1 (by omega) (by omega) (HM.out.below hb1) (HE.out.below hb1) (HT.out.below hb1)
  have HWL := Lib.hid (show (wrT p a b d).ws.length ≤ 100000000 by
    unfold wrT
    split
    · have := wrd_len a b d; show (wrd a b d).length ≤ _; omega
    · exact Nat.zero_le _)
  have hq : ∀ X : World, Calls Tryd.prog 12 #[.string (str p), .string (str d), .bool a, .bool b] X (GotTx X (wrT p a b d) (wrE p a b d)) := fun X => qwords_any p d a b X (by omega) (by omega)
  generalize wrT p a b d = T at *
  generalize wrE p a b d = E at *
  obtain ⟨tp, tl⟩ := T
  have HQ := Lib.hid hq
  clear hb1 hq
  go_wp2_with fail
  (with_reducible refine c1.mono ?_)
  rintro e w2 ⟨A2, k2, rfl, hA2, _, hb2⟩
  clear c1
  dsimp only
  obtain ⟨V2, hV2⟩ : ∃ V2, V2 = w2.alloc (.cells #[.string (str tp), .slice A2 tl.length k2] 25) := ⟨_, rfl⟩
  have hv2 : Below w2.heap.size w2 V2 := by rw [hV2]; exact (Below.refl _ _).alloc (Nat.le_refl _) _
  have g2 : V2.heap[w2.heap.size]? = some (.cells #[.string (str tp), .slice A2 tl.length k2] 25 (0, 0)) := by rw [hV2]; exact heap_alloc_new w2 _
  have hB2 := (HB1.out.trans (hb2.mono HB1.out.size)).trans (hv2.mono (HB1.out.trans (hb2.mono HB1.out.size)).size)
  have HA2 := Lib.hid (hA2.next hv2)
  have HB2 := Lib.hid hB2
  have HG2 := Lib.hid g2
  clear hb2 hv2 hA2 hB2 g2
  have c3 := HQ.out V2
  clear HQ
  go_wp2_with fail
  rw [← hV2]
  clear hV2
  (with_reducible refine c3.mono ?_)
  rintro e w3 ⟨A3, k3, rfl, hA3, _, hb3⟩
  clear c3
  dsimp only
  obtain ⟨V3, hV3⟩ : ∃ V3, V3 = w3.alloc (.cells #[.string (str tp), .slice A3 tl.length k3] 25) := ⟨_, rfl⟩
  have hv3 : Below w3.heap.size w3 V3 := by rw [hV3]; exact (Below.refl _ _).alloc (Nat.le_refl _) _
  have g3 : V3.heap[w3.heap.size]? = some (.cells #[.string (str tp), .slice A3 tl.length k3] 25 (0, 0)) := by rw [hV3]; exact heap_alloc_new w3 _
  have hB3 : Below V2.heap.size V2 V3 := hb3.trans (hv3.mono hb3.size)
  have g2' := (hB3.block _ (blk_lt HG2.out)).trans HG2.out
  obtain ⟨e0, e1⟩ := cells2 g2'
  obtain ⟨f0, f1⟩ := cells2 g3
  have c4 : Calls Tryd.prog 13 #[.agg #[.string (str tp), .slice A2 tl.length k2], .agg #[.string (str tp), .slice A3 tl.length k3]] V3 fun x w' => x = .returned (.bool true) ∧ Below V3.heap.size V3 w' := same_true ⟨tp, tl⟩ A2 A3 k2 k3 V3 (HA2.out.next hB3) (hA3.next hv3) HWL.out
  have HB3 := Lib.hid (HB2.out.trans (hB3.mono HB2.out.size))
  clear hb3 hv3 hA3 hB3 g3 g2'
  go_upto_region 7 with (fail)
  rw [← hV3]
  clear hV3
  go_wp2_with fail
  (with_reducible refine c4.mono ?_)
  rintro e w4 ⟨rfl, hb4⟩
  have HB4 := Lib.hid (HB3.out.trans (hb4.mono HB3.out.size))
  clear c4 hb4
  go_wp2_with fail
  go_ret
  exact ⟨rfl, HB4.out⟩
end Nm
end Go.Proofs.YtenaohnginikhaaDoor
