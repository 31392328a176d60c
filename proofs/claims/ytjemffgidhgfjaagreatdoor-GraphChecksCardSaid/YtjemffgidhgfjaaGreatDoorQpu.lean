/- put of the reference. No condition but the lengths. -/
import Derived.Test.YtjemffgidhgfjaaGreatDoorQnm
import Derived.Test.YtjemffgidhgfjaaGreatDoorPof
import Derived.Test.YtjemffgidhgfjaaGreatDoorQck
import Derived.Deep.RegionHeld3
namespace Go.Proofs.YtjemffgidhgfjaaGreatDoor
open Go.RowKit Go.Deep Tr

namespace Gr
theorem ed_take {w : World} {B : Nat} {A : Option Addr} {l : List Ed} (h : EdAt w B A l) (k : Nat) : EdAt w B A (l.take k) := fun j hj => by
  rw [List.length_take] at hj
  obtain ⟨g, o, e, hg, hc⟩ := h j (by omega)
  exact ⟨g, o, e, hg, fun i u hu => hc i u (by rw [List.getElem_take] at hu; exact hu)⟩
theorem ed_drop {w : World} {B g o : Nat} {l : List Ed} (h : EdAt w B (some ⟨g, o, none⟩) l) (k : Nat) : EdAt w B (some ⟨g, o + k * 3, none⟩) (l.drop k) := fun j hj => by
  rw [List.length_drop] at hj
  obtain ⟨g', o', e, hg, hc⟩ := h (k + j) (by omega)
  simp only [Option.some.injEq, Addr.mk.injEq, and_true] at e
  obtain ⟨rfl, rfl⟩ := e
  refine ⟨g, o + k * 3, rfl, hg, fun i u hu => ?_⟩
  rw [List.getElem_drop] at hu
  rw [show o + k * 3 + j * 3 + i = o + (k + j) * 3 + i by omega]
  exact hc i u hu
end Gr
/-- A list of edges comes back, in a place. -/
def GotE (w : World) (P : List Ed → Prop) (e : Ending) (w' : World) : Prop := ∃ (L : List Ed) (g o c : Nat), e = .returned (.slice (some ⟨g, o, none⟩) L.length c) ∧ P L ∧ L.length ≤ c ∧ c ≤ maxLen ∧ Gr.EdAt w' w'.heap.size (some ⟨g, o, none⟩) L ∧ Below w.heap.size w w'
set_option maxHeartbeats 8000000 in
set_option maxRecDepth 100000 in
theorem qput_any (l : List Ed) (x : Ed) (g o c : Nat) (w : World) (hA : Gr.EdAt w w.heap.size (some ⟨g, o, none⟩) l) (hn : l.length ≤ 10000000) (hlc : l.length ≤ c) :
    Calls Tryz.prog 35 #[.slice (some ⟨g, o, none⟩) l.length c, edA x] w (GotE w (Gr.InsE l x)) := by
  obtain ⟨w0, hw0⟩ : ∃ w0, w0 = w.alloc (edO x) := ⟨_, rfl⟩
  have hx : w0.heap[w.heap.size]? = some (edO x) := by rw [hw0]; exact heap_alloc_new _ _
  have HBX := Lib.hid (show Below w.heap.size w w0 by rw [hw0]; exact (Below.refl _ _).alloc (Nat.le_refl _) _)
  have HA := Lib.hid (hA.next HBX.out)
  have hgx0 := blk_lt hx
  have x0 : w0.cell? ⟨w.heap.size, 0, none⟩ = some (.int .i64 x.src) := by rw [cell_of_row _ _ _ _ _ _ hx]; rfl
  have x1 : w0.cell? ⟨w.heap.size, 1, none⟩ = some (.int .i64 x.dst) := by rw [cell_of_row _ _ _ _ _ _ hx]; rfl
  have x2 : w0.cell? ⟨w.heap.size, 2, none⟩ = some (.int .i64 x.stp) := by rw [cell_of_row _ _ _ _ _ _ hx]; rfl
  clear hA hx
  rw [edA_def]
  go_enter Tryz.func35, Tryz.ntmps35
  go_upto_region 2 with (fail)
  try dsimp only [edO] at hw0
  rw [← hw0]
  clear hw0
  go_loopw [5] (fun s5 wr => ∃ k : Nat, s5 = .int .i64 k ∧ k ≤ l.length ∧ (∀ j (h : j < l.length), j < k → Gr.lt l[j] x = true) ∧ Below w0.heap.size w0 wr) (fun s5 _ => l.length - (intOf s5).toNat)
  case atStart => exact ⟨0, rfl, Nat.zero_le _, fun j _ h => (by omega), Below.refl _ _⟩
  case round =>
    obtain ⟨k, rfl, hk, hall, hb⟩ := hrel
    have HAL := Lib.hid hall
    have HB := Lib.hid hb
    have HBD := Lib.hid (show Below w0.heap.size w0 wr.drew from hb.drew)
    have b0 : wr.drew.cell? ⟨w.heap.size, 0, none⟩ = _ := (HBD.out.cell (p := ⟨w.heap.size, 0, none⟩) hgx0).trans x0
    have b1 : wr.drew.cell? ⟨w.heap.size, 1, none⟩ = _ := (HBD.out.cell (p := ⟨w.heap.size, 1, none⟩) hgx0).trans x1
    have b2 : wr.drew.cell? ⟨w.heap.size, 2, none⟩ = _ := (HBD.out.cell (p := ⟨w.heap.size, 2, none⟩) hgx0).trans x2
    have hgx : w.heap.size < wr.drew.heap.size := by have := HBD.out.size; omega
    clear hall hb
    by_cases hlt : k < l.length
    · have c1 : decide ((k : Int) < (l.length : Int)) = true := decide_eq_true (by omega)
      have c1n : decide (k < l.length) = true := decide_eq_true hlt
      have y1 : (k : Int) < (l.length : Int) := by omega
      obtain ⟨g', o', e, hgw, hc⟩ := (HA.out.next HBD.out) k hlt
      simp only [Option.some.injEq, Addr.mk.injEq, and_true] at e
      obtain ⟨rfl, rfl⟩ := e
      have e0 := hc 0 _ rfl
      have e1 := hc 1 _ rfl
      have e2 := hc 2 _ rfl
      rw [show o + k * 3 + 0 = o + k * 3 from rfl] at e0
      clear hc
      have cc := qasc_any l[k] x wr.drew
      rw [edA_def, edA_def] at cc
      have HLT := Lib.hid (show Gr.lt l[k] x = true → ∀ j (h : j < l.length), j < k + 1 → Gr.lt l[j] x = true from fun hv j h hjk => by
        by_cases e : j = k
        · subst e; exact hv
        · exact HAL.out j h (by omega))
      have HGE := Lib.hid (show Gr.lt l[k] x = false → Gr.InsE l x (l.take k ++ [x] ++ l.drop k) from fun hv => ⟨k, hk, HAL.out, fun _ => hv, by rw [List.append_assoc]; rfl⟩)
      generalize l[k] = y at *
      have HK := Lib.hid (fun (w5 : World) (h5 : Below wr.drew.heap.size wr.drew w5) => show (fun w' : World => w'.cell? ⟨g, o + k * 3, none⟩ = some (.int .i64 y.src) ∧ w'.cell? ⟨g, o + k * 3 + 1, none⟩ = some (.int .i64 y.dst) ∧ w'.cell? ⟨g, o + k * 3 + 2, none⟩ = some (.int .i64 y.stp) ∧ w'.cell? ⟨w.heap.size, 0, none⟩ = some (.int .i64 x.src) ∧ w'.cell? ⟨w.heap.size, 1, none⟩ = some (.int .i64 x.dst) ∧ w'.cell? ⟨w.heap.size, 2, none⟩ = some (.int .i64 x.stp)) w5 from ⟨(h5.cell (p := ⟨g, o + k * 3, none⟩) hgw).trans e0, (h5.cell (p := ⟨g, o + k * 3 + 1, none⟩) hgw).trans e1, (h5.cell (p := ⟨g, o + k * 3 + 2, none⟩) hgw).trans e2, (h5.cell (p := ⟨w.heap.size, 0, none⟩) hgx).trans b0, (h5.cell (p := ⟨w.heap.size, 1, none⟩) hgx).trans b1, (h5.cell (p := ⟨w.heap.size, 2, none⟩) hgx).trans b2⟩)
      cases hv : Gr.lt y x with
      | true =>
        rw [hv] at cc
        have HN := Lib.hid (HLT.out hv)
        clear HLT HGE hv e0 e1 e2 b0 b1 b2 x0 x1 x2
        go_upto_region 2 with (fail)
        refine wp_region_held_drew (S := (fun w' : World => w'.cell? ⟨g, o + k * 3, none⟩ = some (.int .i64 y.src) ∧ w'.cell? ⟨g, o + k * 3 + 1, none⟩ = some (.int .i64 y.dst) ∧ w'.cell? ⟨g, o + k * 3 + 2, none⟩ = some (.int .i64 y.stp) ∧ w'.cell? ⟨w.heap.size, 0, none⟩ = some (.int .i64 x.src) ∧ w'.cell? ⟨w.heap.size, 1, none⟩ = some (.int .i64 x.dst) ∧ w'.cell? ⟨w.heap.size, 2, none⟩ = some (.int .i64 x.stp))) (by kernel_rfl) (HK.out _ (Below.refl _ _)) (fun hHeld => ?_)
        refine wpAnyH_take (i := 0) (oi := { dst := some 7, op := _, type := _, pos := _, after := _, guard := _ }) (v := ?v1) rfl (by kernel_rfl) (by kernel_rfl) (by kernel_rfl) (fun _ _ _ h => h) (Or.inl ⟨by kernel_rfl, ?hy1⟩) (by assumption) ?rest1
        case hy1 =>
          intro w hSw
          try dsimp only at hSw
          go_simp
          try with_reducible rfl
        try simp only [Act.put]
        refine wpAnyH_take (i := 1) (oi := { dst := some 8, op := _, type := _, pos := _, after := _, guard := _ }) (v := ?v2) rfl (by kernel_rfl) (by kernel_rfl) (by kernel_rfl) (fun _ _ _ h => h) (Or.inl ⟨by kernel_rfl, ?hy2⟩) (by assumption) ?rest2
        case hy2 =>
          intro w hSw
          try dsimp only at hSw
          go_simp
          try with_reducible rfl
        try simp only [Act.put]
        refine wpAnyH_take (i := 2) (oi := { dst := some 9, op := _, type := _, pos := _, after := _, guard := _ }) (v := ?v3) rfl (by kernel_rfl) (by kernel_rfl) (by kernel_rfl) (fun _ _ _ h => h) (Or.inl ⟨by kernel_rfl, ?hy3⟩) (by assumption) ?rest3
        case hy3 =>
          intro w hSw
          try dsimp only at hSw
          go_simp
          try with_reducible rfl
        try simp only [Act.put]
        refine wpAnyH_take (i := 3) (oi := { dst := some 10, op := _, type := _, pos := _, after := _, guard := _ }) (v := ?v4) rfl (by kernel_rfl) (by kernel_rfl) (by kernel_rfl) (fun _ _ _ h => h) (Or.inl ⟨by kernel_rfl, ?hy4⟩) (by assumption) ?rest4
        case hy4 =>
          intro w hSw
          try dsimp only at hSw
          go_simp
          try with_reducible rfl
        try simp only [Act.put]
        refine wpAnyH_take (i := 4) (oi := { dst := some 11, op := _, type := _, pos := _, after := _, guard := _ }) (v := ?v5) rfl (by kernel_rfl) (by kernel_rfl) (by kernel_rfl) (fun _ _ _ h => h) (Or.inl ⟨by kernel_rfl, ?hy5⟩) (by assumption) ?rest5
        case hy5 =>
          intro w hSw
          try dsimp only at hSw
          go_simp
          try with_reducible rfl
        try simp only [Act.put]
        refine wpAnyH_take (i := 5) (oi := { dst := some 12, op := _, type := _, pos := _, after := _, guard := _ }) (v := ?v6) rfl (by kernel_rfl) (by kernel_rfl) (by kernel_rfl) (fun _ _ _ h => h) (Or.inl ⟨by kernel_rfl, ?hy6⟩) (by assumption) ?rest6
        case hy6 =>
          intro w hSw
          try dsimp only at hSw
          go_simp
          try with_reducible rfl
        try simp only [Act.put]
        refine wpAnyH_take (i := 6) (oi := { dst := some 13, op := _, type := _, pos := _, after := _, guard := _ }) (v := ?v7) rfl (by kernel_rfl) (by kernel_rfl) (by kernel_rfl) (fun _ _ _ h => h) (Or.inl ⟨by kernel_rfl, ?hy7⟩) (by assumption) ?rest7
        case hy7 =>
          intro w hSw
          try dsimp only at hSw
          go_simp
          try with_reducible rfl
        try simp only [Act.put]
        refine wpAnyH_take (i := 7) (oi := { dst := some 14, op := _, type := _, pos := _, after := _, guard := _ }) (v := ?v8) rfl (by kernel_rfl) (by kernel_rfl) (by kernel_rfl) (fun _ _ _ h => h) (Or.inl ⟨by kernel_rfl, ?hy8⟩) (by assumption) ?rest8
        case hy8 =>
          intro w hSw
          try dsimp only at hSw
          go_simp
          try with_reducible rfl
        try simp only [Act.put]
        refine wpAnyH_take (i := 8) (oi := { dst := some 15, op := _, type := _, pos := _, after := _, guard := _ }) (v := ?v9) rfl (by kernel_rfl) (by kernel_rfl) (by kernel_rfl) (fun _ _ _ h => h) (Or.inl ⟨by kernel_rfl, ?hy9⟩) (by assumption) ?rest9
        case hy9 =>
          intro w hSw
          try dsimp only at hSw
          go_simp
          try with_reducible rfl
        try simp only [Act.put]
        refine wpAnyH_take (i := 9) (oi := { dst := some 16, op := _, type := _, pos := _, after := _, guard := _ }) (v := ?v10) rfl (by kernel_rfl) (by kernel_rfl) (by kernel_rfl) (fun _ _ _ h => h) (Or.inl ⟨by kernel_rfl, ?hy10⟩) (by assumption) ?rest10
        case hy10 =>
          intro w hSw
          try dsimp only at hSw
          go_simp
          try with_reducible rfl
        try simp only [Act.put]
        refine wpAnyH_ready (rs := [10]) (by kernel_rfl) (by simp) ?_
        refine AllReadyH.cons (o := _) rfl (fun K hK => ?_) AllReadyH.nil
        go_simp
        go_at_call 46
        with_reducible refine cc.mono ?_
        clear cc
        rintro e w4 ⟨rfl, hb4⟩
        have HB4 := Lib.hid (HBD.out.trans (hb4.mono HBD.out.size))
        refine hK.out _ _ (HK.out w4 hb4) (fun hHeld => ?_)
        clear hK K
        try simp only [Act.put]
        refine wpAnyH_take (i := 11) (oi := { dst := some 18, op := _, type := _, pos := _, after := _, guard := _ }) (v := ?v11) rfl (by kernel_rfl) (by kernel_rfl) (by kernel_rfl) (fun _ _ _ h => h) (Or.inl ⟨by kernel_rfl, ?hy11⟩) (by assumption) ?rest11
        case hy11 =>
          intro w hSw
          try dsimp only at hSw
          go_simp
          try with_reducible rfl
        try simp only [Act.put]
        refine wpAnyH_done (by kernel_rfl) ?_ _
        try simp only [List.setIfInBounds_toArray, List.set_cons_zero, List.set_cons_succ]
        clear hb4 HK
        go_wp2_with fail
        go_roundw
        case rel => exact ⟨k + 1, by go_num, by omega, HN.out, HB4.out⟩
        case measure => simp [intOf]; omega
      | false =>
        rw [hv] at cc
        have HP := Lib.hid (HGE.out hv)
        clear HLT HGE hv e0 e1 e2 b0 b1 b2
        go_upto_region 2 with (fail)
        refine wp_region_held_drew (S := (fun w' : World => w'.cell? ⟨g, o + k * 3, none⟩ = some (.int .i64 y.src) ∧ w'.cell? ⟨g, o + k * 3 + 1, none⟩ = some (.int .i64 y.dst) ∧ w'.cell? ⟨g, o + k * 3 + 2, none⟩ = some (.int .i64 y.stp) ∧ w'.cell? ⟨w.heap.size, 0, none⟩ = some (.int .i64 x.src) ∧ w'.cell? ⟨w.heap.size, 1, none⟩ = some (.int .i64 x.dst) ∧ w'.cell? ⟨w.heap.size, 2, none⟩ = some (.int .i64 x.stp))) (by kernel_rfl) (HK.out _ (Below.refl _ _)) (fun hHeld => ?_)
        refine wpAnyH_take (i := 0) (oi := { dst := some 7, op := _, type := _, pos := _, after := _, guard := _ }) (v := ?v12) rfl (by kernel_rfl) (by kernel_rfl) (by kernel_rfl) (fun _ _ _ h => h) (Or.inl ⟨by kernel_rfl, ?hy12⟩) (by assumption) ?rest12
        case hy12 =>
          intro w hSw
          try dsimp only at hSw
          go_simp
          try with_reducible rfl
        try simp only [Act.put]
        refine wpAnyH_take (i := 1) (oi := { dst := some 8, op := _, type := _, pos := _, after := _, guard := _ }) (v := ?v13) rfl (by kernel_rfl) (by kernel_rfl) (by kernel_rfl) (fun _ _ _ h => h) (Or.inl ⟨by kernel_rfl, ?hy13⟩) (by assumption) ?rest13
        case hy13 =>
          intro w hSw
          try dsimp only at hSw
          go_simp
          try with_reducible rfl
        try simp only [Act.put]
        refine wpAnyH_take (i := 2) (oi := { dst := some 9, op := _, type := _, pos := _, after := _, guard := _ }) (v := ?v14) rfl (by kernel_rfl) (by kernel_rfl) (by kernel_rfl) (fun _ _ _ h => h) (Or.inl ⟨by kernel_rfl, ?hy14⟩) (by assumption) ?rest14
        case hy14 =>
          intro w hSw
          try dsimp only at hSw
          go_simp
          try with_reducible rfl
        try simp only [Act.put]
        refine wpAnyH_take (i := 3) (oi := { dst := some 10, op := _, type := _, pos := _, after := _, guard := _ }) (v := ?v15) rfl (by kernel_rfl) (by kernel_rfl) (by kernel_rfl) (fun _ _ _ h => h) (Or.inl ⟨by kernel_rfl, ?hy15⟩) (by assumption) ?rest15
        case hy15 =>
          intro w hSw
          try dsimp only at hSw
          go_simp
          try with_reducible rfl
        try simp only [Act.put]
        refine wpAnyH_take (i := 4) (oi := { dst := some 11, op := _, type := _, pos := _, after := _, guard := _ }) (v := ?v16) rfl (by kernel_rfl) (by kernel_rfl) (by kernel_rfl) (fun _ _ _ h => h) (Or.inl ⟨by kernel_rfl, ?hy16⟩) (by assumption) ?rest16
        case hy16 =>
          intro w hSw
          try dsimp only at hSw
          go_simp
          try with_reducible rfl
        try simp only [Act.put]
        refine wpAnyH_take (i := 5) (oi := { dst := some 12, op := _, type := _, pos := _, after := _, guard := _ }) (v := ?v17) rfl (by kernel_rfl) (by kernel_rfl) (by kernel_rfl) (fun _ _ _ h => h) (Or.inl ⟨by kernel_rfl, ?hy17⟩) (by assumption) ?rest17
        case hy17 =>
          intro w hSw
          try dsimp only at hSw
          go_simp
          try with_reducible rfl
        try simp only [Act.put]
        refine wpAnyH_take (i := 6) (oi := { dst := some 13, op := _, type := _, pos := _, after := _, guard := _ }) (v := ?v18) rfl (by kernel_rfl) (by kernel_rfl) (by kernel_rfl) (fun _ _ _ h => h) (Or.inl ⟨by kernel_rfl, ?hy18⟩) (by assumption) ?rest18
        case hy18 =>
          intro w hSw
          try dsimp only at hSw
          go_simp
          try with_reducible rfl
        try simp only [Act.put]
        refine wpAnyH_take (i := 7) (oi := { dst := some 14, op := _, type := _, pos := _, after := _, guard := _ }) (v := ?v19) rfl (by kernel_rfl) (by kernel_rfl) (by kernel_rfl) (fun _ _ _ h => h) (Or.inl ⟨by kernel_rfl, ?hy19⟩) (by assumption) ?rest19
        case hy19 =>
          intro w hSw
          try dsimp only at hSw
          go_simp
          try with_reducible rfl
        try simp only [Act.put]
        refine wpAnyH_take (i := 8) (oi := { dst := some 15, op := _, type := _, pos := _, after := _, guard := _ }) (v := ?v20) rfl (by kernel_rfl) (by kernel_rfl) (by kernel_rfl) (fun _ _ _ h => h) (Or.inl ⟨by kernel_rfl, ?hy20⟩) (by assumption) ?rest20
        case hy20 =>
          intro w hSw
          try dsimp only at hSw
          go_simp
          try with_reducible rfl
        try simp only [Act.put]
        refine wpAnyH_take (i := 9) (oi := { dst := some 16, op := _, type := _, pos := _, after := _, guard := _ }) (v := ?v21) rfl (by kernel_rfl) (by kernel_rfl) (by kernel_rfl) (fun _ _ _ h => h) (Or.inl ⟨by kernel_rfl, ?hy21⟩) (by assumption) ?rest21
        case hy21 =>
          intro w hSw
          try dsimp only at hSw
          go_simp
          try with_reducible rfl
        try simp only [Act.put]
        refine wpAnyH_ready (rs := [10]) (by kernel_rfl) (by simp) ?_
        refine AllReadyH.cons (o := _) rfl (fun K hK => ?_) AllReadyH.nil
        go_simp
        go_at_call 46
        with_reducible refine cc.mono ?_
        clear cc
        rintro e w4 ⟨rfl, hb4⟩
        have HB4 := Lib.hid (HBD.out.trans (hb4.mono HBD.out.size))
        refine hK.out _ _ (HK.out w4 hb4) (fun hHeld => ?_)
        clear hK K
        try simp only [Act.put]
        refine wpAnyH_take (i := 11) (oi := { dst := some 18, op := _, type := _, pos := _, after := _, guard := _ }) (v := ?v22) rfl (by kernel_rfl) (by kernel_rfl) (by kernel_rfl) (fun _ _ _ h => h) (Or.inl ⟨by kernel_rfl, ?hy22⟩) (by assumption) ?rest22
        case hy22 =>
          intro w hSw
          try dsimp only at hSw
          go_simp
          try with_reducible rfl
        try simp only [Act.put]
        refine wpAnyH_done (by kernel_rfl) ?_ _
        try simp only [List.setIfInBounds_toArray, List.set_cons_zero, List.set_cons_succ]
        clear hb4 HK
        have HBw := Lib.hid (show Below w0.heap.size w0 w4 from HB4.out)
        have HKL := Lib.hid (show (l.take k).length = k by rw [List.length_take]; omega)
        have HDL := Lib.hid (show (l.drop k).length = l.length - k from List.length_drop)
        have k1 : ((k : Int) ≤ (l.length : Int)) := by omega
        have k2 : ((k : Int) ≤ (c : Int)) := by omega
        have k3 : k ≤ c := by omega
        have hb1 : Below w4.heap.size w4 (w4.alloc (.cells #[] 56)) := (Below.refl _ _).alloc (Nat.le_refl _) _
        have ho1 := Rk.own_emptyR w4 w0.heap.size HBw.out.size 56 3
        have hB1 := HBw.out.trans (hb1.mono HBw.out.size)
        obtain ⟨v6, w6, hrun, hown6, hg6⟩ := app_eg 23 (w4.alloc (.cells #[] 56)) w0.heap.size _ [] (l.take k) ho1 (some ⟨g, o, none⟩) c (Gr.ed_take (HA.out.next hB1) k) hB1.size (by rw [HKL.out]; simp; omega)
        rw [HKL.out] at hrun
        rw [List.nil_append] at hown6
        have HB6 := Lib.hid (hB1.trans (Rk.below_own ho1 hB1.size hg6))
        have HO6 := Lib.hid hown6
        clear hb1 ho1 hB1 hown6 hg6
        go_upto_region 5 with (at_builtin; refine Lib.wpList_append_run _ rfl _ _ _ _ rfl _ _ rfl rfl _ _ hrun ?_)
        clear hrun
        have r0 := (HB6.out.cell (p := ⟨w.heap.size, 0, none⟩) hgx0).trans x0
        have r1 := (HB6.out.cell (p := ⟨w.heap.size, 1, none⟩) hgx0).trans x1
        have r2 := (HB6.out.cell (p := ⟨w.heap.size, 2, none⟩) hgx0).trans x2
        have hb2 : Below w6.heap.size w6 (w6.alloc (.cells #[.int .i64 x.src, .int .i64 x.dst, .int .i64 x.stp] 56)) := (Below.refl _ _).alloc (Nat.le_refl _) _
        have ho2 := Rk.own_below HO6.out hb2
        have hB2 := HB6.out.trans (hb2.mono HB6.out.size)
        obtain ⟨v7, w7, hrun, hown7, hg7⟩ := app_eg 23 (w6.alloc (.cells #[.int .i64 x.src, .int .i64 x.dst, .int .i64 x.stp] 56)) w0.heap.size _ (l.take k) [x] ho2 (some ⟨w6.heap.size, 0, none⟩) 1 (one_ed w6 x.src x.dst x.stp) hB2.size (by rw [HKL.out]; simp; omega)
        have HB7 := Lib.hid (hB2.trans (Rk.below_own ho2 hB2.size hg7))
        have HO7 := Lib.hid hown7
        clear hb2 ho2 hB2 hown7 hg7 HB6 HO6
        go_upto_region 6 with (at_builtin; refine Lib.wpList_append_run _ rfl _ _ _ _ rfl _ _ rfl rfl _ _ hrun ?_)
        clear hrun r0 r1 r2
        by_cases hck : c = k
        · have hd : l.drop k = [] := List.drop_eq_nil_iff.2 (by omega)
          obtain ⟨v8, w8, hrun, hown8, hg8⟩ := app_eg 23 w7 w0.heap.size _ (l.take k ++ [x]) (l.drop k) HO7.out (some ⟨g, o, none⟩) 0 (by rw [hd]; exact Gr.ElAt.nil _ _ _ _ _) HB7.out.size (by rw [List.length_append, HKL.out, HDL.out]; simp; omega)
          rw [HDL.out, show l.length - k = 0 by omega] at hrun
          have HB8 := Lib.hid (HB7.out.trans (Rk.below_own HO7.out HB7.out.size hg8))
          obtain ⟨A8, c8, rfl, h81, h82, hel⟩ := Rk.Rc.own_el Gr.edV 3 Gr.edV_len hown8
          obtain ⟨g8, o8, rfl, _, _⟩ := hel.row (by rw [List.length_append, List.length_append]; simp; omega)
          have HE8 := Lib.hid hel
          generalize l.take k ++ [x] ++ l.drop k = L8 at *
          clear hown8 hg8 hel HKL HDL hd
          subst hck
          go_wp2_with (at_builtin; refine Lib.wpList_append_run _ rfl _ _ _ _ rfl _ _ rfl rfl _ _ hrun ?_)
          first | go_ret3 | go_ret2 | go_ret
          exact ⟨_, g8, o8, c8, rfl, HP.out, h81, h82, HE8.out, HBX.out.trans (HB8.out.mono HBX.out.size)⟩
        · obtain ⟨v8, w8, hrun, hown8, hg8⟩ := app_eg 23 w7 w0.heap.size _ (l.take k ++ [x]) (l.drop k) HO7.out (some ⟨g, o + k * 3, none⟩) (c - k) (Gr.ed_drop (HA.out.next HB7.out) k) HB7.out.size (by rw [List.length_append, HKL.out, HDL.out]; simp; omega)
          rw [HDL.out] at hrun
          have HB8 := Lib.hid (HB7.out.trans (Rk.below_own HO7.out HB7.out.size hg8))
          obtain ⟨A8, c8, rfl, h81, h82, hel⟩ := Rk.Rc.own_el Gr.edV 3 Gr.edV_len hown8
          obtain ⟨g8, o8, rfl, _, _⟩ := hel.row (by rw [List.length_append, List.length_append]; simp; omega)
          have HE8 := Lib.hid hel
          generalize l.take k ++ [x] ++ l.drop k = L8 at *
          clear hown8 hg8 hel HKL HDL
          go_wp2_with (at_builtin; refine Lib.wpList_append_run _ rfl _ _ _ _ rfl _ _ rfl rfl _ _ hrun ?_)
          first | go_ret3 | go_ret2 | go_ret
          exact ⟨_, g8, o8, c8, rfl, HP.out, h81, h82, HE8.out, HBX.out.trans (HB8.out.mono HBX.out.size)⟩
    · have c1 : decide ((k : Int) < (l.length : Int)) = false := decide_eq_false (by omega)
      have c1n : decide (k < l.length) = false := decide_eq_false hlt
      have HP := Lib.hid (show Gr.InsE l x (l.take k ++ [x] ++ l.drop k) from ⟨k, hk, HAL.out, fun h => absurd h hlt, by rw [List.append_assoc]; rfl⟩)
      clear hlt
      have HK := Lib.hid (fun (w5 : World) (h5 : Below wr.drew.heap.size wr.drew w5) => show (fun w' : World => w'.cell? ⟨w.heap.size, 0, none⟩ = some (.int .i64 x.src) ∧ w'.cell? ⟨w.heap.size, 1, none⟩ = some (.int .i64 x.dst) ∧ w'.cell? ⟨w.heap.size, 2, none⟩ = some (.int .i64 x.stp)) w5 from ⟨(h5.cell (p := ⟨w.heap.size, 0, none⟩) hgx).trans b0, (h5.cell (p := ⟨w.heap.size, 1, none⟩) hgx).trans b1, (h5.cell (p := ⟨w.heap.size, 2, none⟩) hgx).trans b2⟩)
      clear b0 b1 b2
      go_upto_region 2 with (fail)
      refine wp_region_held_drew (S := (fun w' : World => w'.cell? ⟨w.heap.size, 0, none⟩ = some (.int .i64 x.src) ∧ w'.cell? ⟨w.heap.size, 1, none⟩ = some (.int .i64 x.dst) ∧ w'.cell? ⟨w.heap.size, 2, none⟩ = some (.int .i64 x.stp))) (by kernel_rfl) (HK.out _ (Below.refl _ _)) (fun hHeld => ?_)
      refine wpAnyH_take (i := 0) (oi := { dst := some 7, op := _, type := _, pos := _, after := _, guard := _ }) (v := ?v23) rfl (by kernel_rfl) (by kernel_rfl) (by kernel_rfl) (fun _ _ _ h => h) (Or.inl ⟨by kernel_rfl, ?hy23⟩) (by assumption) ?rest23
      case hy23 =>
        intro w hSw
        try dsimp only at hSw
        go_simp
        try with_reducible rfl
      try simp only [Act.put]
      refine wpAnyH_take (i := 1) (oi := { dst := some 8, op := _, type := _, pos := _, after := _, guard := _ }) (v := ?v24) rfl (by kernel_rfl) (by kernel_rfl) (by kernel_rfl) (fun _ _ _ h => h) (Or.inl ⟨by kernel_rfl, ?hy24⟩) (by assumption) ?rest24
      case hy24 =>
        intro w hSw
        try dsimp only at hSw
        go_simp
        try with_reducible rfl
      try simp only [Act.put]
      refine wpAnyH_take (i := 2) (oi := { dst := some 9, op := _, type := _, pos := _, after := _, guard := _ }) (v := ?v25) rfl (by kernel_rfl) (by kernel_rfl) (by kernel_rfl) (fun _ _ _ h => h) (Or.inl ⟨by kernel_rfl, ?hy25⟩) (by assumption) ?rest25
      case hy25 =>
        intro w hSw
        try dsimp only at hSw
        go_simp
        try with_reducible rfl
      try simp only [Act.put]
      refine wpAnyH_take (i := 3) (oi := { dst := some 10, op := _, type := _, pos := _, after := _, guard := _ }) (v := ?v26) rfl (by kernel_rfl) (by kernel_rfl) (by kernel_rfl) (fun _ _ _ h => h) (Or.inl ⟨by kernel_rfl, ?hy26⟩) (by assumption) ?rest26
      case hy26 =>
        intro w hSw
        try dsimp only at hSw
        go_simp
        try with_reducible rfl
      try simp only [Act.put]
      refine wpAnyH_take (i := 4) (oi := { dst := some 11, op := _, type := _, pos := _, after := _, guard := _ }) (v := ?v27) rfl (by kernel_rfl) (by kernel_rfl) (by kernel_rfl) (fun _ _ _ h => h) (Or.inl ⟨by kernel_rfl, ?hy27⟩) (by assumption) ?rest27
      case hy27 =>
        intro w hSw
        try dsimp only at hSw
        go_simp
        try with_reducible rfl
      try simp only [Act.put]
      refine wpAnyH_take (i := 5) (oi := { dst := some 12, op := _, type := _, pos := _, after := _, guard := _ }) (v := undef) rfl (by kernel_rfl) (by kernel_rfl) (by kernel_rfl) (fun _ _ _ h => h) (Or.inr ⟨by kernel_rfl, rfl⟩) (by assumption) ?_
      try simp only [Act.put]
      refine wpAnyH_take (i := 6) (oi := { dst := some 13, op := _, type := _, pos := _, after := _, guard := _ }) (v := undef) rfl (by kernel_rfl) (by kernel_rfl) (by kernel_rfl) (fun _ _ _ h => h) (Or.inr ⟨by kernel_rfl, rfl⟩) (by assumption) ?_
      try simp only [Act.put]
      refine wpAnyH_take (i := 7) (oi := { dst := some 14, op := _, type := _, pos := _, after := _, guard := _ }) (v := undef) rfl (by kernel_rfl) (by kernel_rfl) (by kernel_rfl) (fun _ _ _ h => h) (Or.inr ⟨by kernel_rfl, rfl⟩) (by assumption) ?_
      try simp only [Act.put]
      refine wpAnyH_take (i := 8) (oi := { dst := some 15, op := _, type := _, pos := _, after := _, guard := _ }) (v := undef) rfl (by kernel_rfl) (by kernel_rfl) (by kernel_rfl) (fun _ _ _ h => h) (Or.inr ⟨by kernel_rfl, rfl⟩) (by assumption) ?_
      try simp only [Act.put]
      refine wpAnyH_take (i := 9) (oi := { dst := some 16, op := _, type := _, pos := _, after := _, guard := _ }) (v := undef) rfl (by kernel_rfl) (by kernel_rfl) (by kernel_rfl) (fun _ _ _ h => h) (Or.inr ⟨by kernel_rfl, rfl⟩) (by assumption) ?_
      try simp only [Act.put]
      refine wpAnyH_take (i := 10) (oi := { dst := some 17, op := _, type := _, pos := _, after := _, guard := _ }) (v := undef) rfl (by kernel_rfl) (by kernel_rfl) (by kernel_rfl) (fun _ _ _ h => h) (Or.inr ⟨by kernel_rfl, rfl⟩) (by assumption) ?_
      try simp only [Act.put]
      refine wpAnyH_take (i := 11) (oi := { dst := some 18, op := _, type := _, pos := _, after := _, guard := _ }) (v := ?v28) rfl (by kernel_rfl) (by kernel_rfl) (by kernel_rfl) (fun _ _ _ h => h) (Or.inl ⟨by kernel_rfl, ?hy28⟩) (by assumption) ?rest28
      case hy28 =>
        intro w hSw
        try dsimp only at hSw
        go_simp
        try with_reducible rfl
      try simp only [Act.put]
      refine wpAnyH_done (by kernel_rfl) ?_ _
      try simp only [List.setIfInBounds_toArray, List.set_cons_zero, List.set_cons_succ]
      clear HK
      have HBw := Lib.hid (show Below w0.heap.size w0 wr.drew from HB.out.drew)
      have HKL := Lib.hid (show (l.take k).length = k by rw [List.length_take]; omega)
      have HDL := Lib.hid (show (l.drop k).length = l.length - k from List.length_drop)
      have k1 : ((k : Int) ≤ (l.length : Int)) := by omega
      have k2 : ((k : Int) ≤ (c : Int)) := by omega
      have k3 : k ≤ c := by omega
      have hb1 : Below wr.drew.heap.size wr.drew (wr.drew.alloc (.cells #[] 56)) := (Below.refl _ _).alloc (Nat.le_refl _) _
      have ho1 := Rk.own_emptyR wr.drew w0.heap.size HBw.out.size 56 3
      have hB1 := HBw.out.trans (hb1.mono HBw.out.size)
      obtain ⟨v6, w6, hrun, hown6, hg6⟩ := app_eg 23 (wr.drew.alloc (.cells #[] 56)) w0.heap.size _ [] (l.take k) ho1 (some ⟨g, o, none⟩) c (Gr.ed_take (HA.out.next hB1) k) hB1.size (by rw [HKL.out]; simp; omega)
      rw [HKL.out] at hrun
      rw [List.nil_append] at hown6
      have HB6 := Lib.hid (hB1.trans (Rk.below_own ho1 hB1.size hg6))
      have HO6 := Lib.hid hown6
      clear hb1 ho1 hB1 hown6 hg6
      go_upto_region 5 with (at_builtin; refine Lib.wpList_append_run _ rfl _ _ _ _ rfl _ _ rfl rfl _ _ hrun ?_)
      clear hrun
      have r0 := (HB6.out.cell (p := ⟨w.heap.size, 0, none⟩) hgx0).trans x0
      have r1 := (HB6.out.cell (p := ⟨w.heap.size, 1, none⟩) hgx0).trans x1
      have r2 := (HB6.out.cell (p := ⟨w.heap.size, 2, none⟩) hgx0).trans x2
      have hb2 : Below w6.heap.size w6 (w6.alloc (.cells #[.int .i64 x.src, .int .i64 x.dst, .int .i64 x.stp] 56)) := (Below.refl _ _).alloc (Nat.le_refl _) _
      have ho2 := Rk.own_below HO6.out hb2
      have hB2 := HB6.out.trans (hb2.mono HB6.out.size)
      obtain ⟨v7, w7, hrun, hown7, hg7⟩ := app_eg 23 (w6.alloc (.cells #[.int .i64 x.src, .int .i64 x.dst, .int .i64 x.stp] 56)) w0.heap.size _ (l.take k) [x] ho2 (some ⟨w6.heap.size, 0, none⟩) 1 (one_ed w6 x.src x.dst x.stp) hB2.size (by rw [HKL.out]; simp; omega)
      have HB7 := Lib.hid (hB2.trans (Rk.below_own ho2 hB2.size hg7))
      have HO7 := Lib.hid hown7
      clear hb2 ho2 hB2 hown7 hg7 HB6 HO6
      go_upto_region 6 with (at_builtin; refine Lib.wpList_append_run _ rfl _ _ _ _ rfl _ _ rfl rfl _ _ hrun ?_)
      clear hrun r0 r1 r2
      by_cases hck : c = k
      · have hd : l.drop k = [] := List.drop_eq_nil_iff.2 (by omega)
        obtain ⟨v8, w8, hrun, hown8, hg8⟩ := app_eg 23 w7 w0.heap.size _ (l.take k ++ [x]) (l.drop k) HO7.out (some ⟨g, o, none⟩) 0 (by rw [hd]; exact Gr.ElAt.nil _ _ _ _ _) HB7.out.size (by rw [List.length_append, HKL.out, HDL.out]; simp; omega)
        rw [HDL.out, show l.length - k = 0 by omega] at hrun
        have HB8 := Lib.hid (HB7.out.trans (Rk.below_own HO7.out HB7.out.size hg8))
        obtain ⟨A8, c8, rfl, h81, h82, hel⟩ := Rk.Rc.own_el Gr.edV 3 Gr.edV_len hown8
        obtain ⟨g8, o8, rfl, _, _⟩ := hel.row (by rw [List.length_append, List.length_append]; simp; omega)
        have HE8 := Lib.hid hel
        generalize l.take k ++ [x] ++ l.drop k = L8 at *
        clear hown8 hg8 hel HKL HDL hd
        subst hck
        go_wp2_with (at_builtin; refine Lib.wpList_append_run _ rfl _ _ _ _ rfl _ _ rfl rfl _ _ hrun ?_)
        first | go_ret3 | go_ret2 | go_ret
        exact ⟨_, g8, o8, c8, rfl, HP.out, h81, h82, HE8.out, HBX.out.trans (HB8.out.mono HBX.out.size)⟩
      · obtain ⟨v8, w8, hrun, hown8, hg8⟩ := app_eg 23 w7 w0.heap.size _ (l.take k ++ [x]) (l.drop k) HO7.out (some ⟨g, o + k * 3, none⟩) (c - k) (Gr.ed_drop (HA.out.next HB7.out) k) HB7.out.size (by rw [List.length_append, HKL.out, HDL.out]; simp; omega)
        rw [HDL.out] at hrun
        have HB8 := Lib.hid (HB7.out.trans (Rk.below_own HO7.out HB7.out.size hg8))
        obtain ⟨A8, c8, rfl, h81, h82, hel⟩ := Rk.Rc.own_el Gr.edV 3 Gr.edV_len hown8
        obtain ⟨g8, o8, rfl, _, _⟩ := hel.row (by rw [List.length_append, List.length_append]; simp; omega)
        have HE8 := Lib.hid hel
        generalize l.take k ++ [x] ++ l.drop k = L8 at *
        clear hown8 hg8 hel HKL HDL
        go_wp2_with (at_builtin; refine Lib.wpList_append_run _ rfl _ _ _ _ rfl _ _ rfl rfl _ _ hrun ?_)
        first | go_ret3 | go_ret2 | go_ret
        exact ⟨_, g8, o8, c8, rfl, HP.out, h81, h82, HE8.out, HBX.out.trans (HB8.out.mono HBX.out.size)⟩
set_option maxHeartbeats 8000000 in
set_option maxRecDepth 100000 in
theorem qput_nil (x : Ed) (w : World) :
    Calls Tryz.prog 35 #[.slice none 0 0, edA x] w (GotE w (Gr.InsE [] x)) := by
  obtain ⟨w0, hw0⟩ : ∃ w0, w0 = w.alloc (edO x) := ⟨_, rfl⟩
  have hx : w0.heap[w.heap.size]? = some (edO x) := by rw [hw0]; exact heap_alloc_new _ _
  have HBX := Lib.hid (show Below w.heap.size w w0 by rw [hw0]; exact (Below.refl _ _).alloc (Nat.le_refl _) _)
  have hgx0 := blk_lt hx
  have x0 : w0.cell? ⟨w.heap.size, 0, none⟩ = some (.int .i64 x.src) := by rw [cell_of_row _ _ _ _ _ _ hx]; rfl
  have x1 : w0.cell? ⟨w.heap.size, 1, none⟩ = some (.int .i64 x.dst) := by rw [cell_of_row _ _ _ _ _ _ hx]; rfl
  have x2 : w0.cell? ⟨w.heap.size, 2, none⟩ = some (.int .i64 x.stp) := by rw [cell_of_row _ _ _ _ _ _ hx]; rfl
  have HP := Lib.hid (show Gr.InsE [] x [x] from ⟨0, Nat.le_refl _, fun j h => by simp at h, fun h => by simp at h, rfl⟩)
  clear hx
  rw [edA_def]
  go_enter Tryz.func35, Tryz.ntmps35
  go_upto_region 2 with (fail)
  try dsimp only [edO] at hw0
  rw [← hw0]
  clear hw0
  go_loopw [5] (fun s5 wr => s5 = .int .i64 0 ∧ Below w0.heap.size w0 wr) (fun _ _ => 0)
  case atStart => exact ⟨rfl, Below.refl _ _⟩
  case round =>
    obtain ⟨rfl, hb⟩ := hrel
    have HBw := Lib.hid (show Below w0.heap.size w0 wr.drew from hb.drew)
    have b0 : wr.drew.cell? ⟨w.heap.size, 0, none⟩ = _ := (HBw.out.cell (p := ⟨w.heap.size, 0, none⟩) hgx0).trans x0
    have b1 : wr.drew.cell? ⟨w.heap.size, 1, none⟩ = _ := (HBw.out.cell (p := ⟨w.heap.size, 1, none⟩) hgx0).trans x1
    have b2 : wr.drew.cell? ⟨w.heap.size, 2, none⟩ = _ := (HBw.out.cell (p := ⟨w.heap.size, 2, none⟩) hgx0).trans x2
    have hgx : w.heap.size < wr.drew.heap.size := by have := HBw.out.size; omega
    clear hb
    have HK := Lib.hid (fun (w5 : World) (h5 : Below wr.drew.heap.size wr.drew w5) => show (fun w' : World => w'.cell? ⟨w.heap.size, 0, none⟩ = some (.int .i64 x.src) ∧ w'.cell? ⟨w.heap.size, 1, none⟩ = some (.int .i64 x.dst) ∧ w'.cell? ⟨w.heap.size, 2, none⟩ = some (.int .i64 x.stp)) w5 from ⟨(h5.cell (p := ⟨w.heap.size, 0, none⟩) hgx).trans b0, (h5.cell (p := ⟨w.heap.size, 1, none⟩) hgx).trans b1, (h5.cell (p := ⟨w.heap.size, 2, none⟩) hgx).trans b2⟩)
    clear b0 b1 b2
    go_upto_region 2 with (fail)
    refine wp_region_held_drew (S := (fun w' : World => w'.cell? ⟨w.heap.size, 0, none⟩ = some (.int .i64 x.src) ∧ w'.cell? ⟨w.heap.size, 1, none⟩ = some (.int .i64 x.dst) ∧ w'.cell? ⟨w.heap.size, 2, none⟩ = some (.int .i64 x.stp))) (by kernel_rfl) (HK.out _ (Below.refl _ _)) (fun hHeld => ?_)
    refine wpAnyH_take (i := 0) (oi := { dst := some 7, op := _, type := _, pos := _, after := _, guard := _ }) (v := ?v29) rfl (by kernel_rfl) (by kernel_rfl) (by kernel_rfl) (fun _ _ _ h => h) (Or.inl ⟨by kernel_rfl, ?hy29⟩) (by assumption) ?rest29
    case hy29 =>
      intro w hSw
      try dsimp only at hSw
      go_simp
      try with_reducible rfl
    try simp only [Act.put]
    refine wpAnyH_take (i := 1) (oi := { dst := some 8, op := _, type := _, pos := _, after := _, guard := _ }) (v := ?v30) rfl (by kernel_rfl) (by kernel_rfl) (by kernel_rfl) (fun _ _ _ h => h) (Or.inl ⟨by kernel_rfl, ?hy30⟩) (by assumption) ?rest30
    case hy30 =>
      intro w hSw
      try dsimp only at hSw
      go_simp
      try with_reducible rfl
    try simp only [Act.put]
    refine wpAnyH_take (i := 2) (oi := { dst := some 9, op := _, type := _, pos := _, after := _, guard := _ }) (v := ?v31) rfl (by kernel_rfl) (by kernel_rfl) (by kernel_rfl) (fun _ _ _ h => h) (Or.inl ⟨by kernel_rfl, ?hy31⟩) (by assumption) ?rest31
    case hy31 =>
      intro w hSw
      try dsimp only at hSw
      go_simp
      try with_reducible rfl
    try simp only [Act.put]
    refine wpAnyH_take (i := 3) (oi := { dst := some 10, op := _, type := _, pos := _, after := _, guard := _ }) (v := ?v32) rfl (by kernel_rfl) (by kernel_rfl) (by kernel_rfl) (fun _ _ _ h => h) (Or.inl ⟨by kernel_rfl, ?hy32⟩) (by assumption) ?rest32
    case hy32 =>
      intro w hSw
      try dsimp only at hSw
      go_simp
      try with_reducible rfl
    try simp only [Act.put]
    refine wpAnyH_take (i := 4) (oi := { dst := some 11, op := _, type := _, pos := _, after := _, guard := _ }) (v := ?v33) rfl (by kernel_rfl) (by kernel_rfl) (by kernel_rfl) (fun _ _ _ h => h) (Or.inl ⟨by kernel_rfl, ?hy33⟩) (by assumption) ?rest33
    case hy33 =>
      intro w hSw
      try dsimp only at hSw
      go_simp
      try with_reducible rfl
    try simp only [Act.put]
    refine wpAnyH_take (i := 5) (oi := { dst := some 12, op := _, type := _, pos := _, after := _, guard := _ }) (v := undef) rfl (by kernel_rfl) (by kernel_rfl) (by kernel_rfl) (fun _ _ _ h => h) (Or.inr ⟨by kernel_rfl, rfl⟩) (by assumption) ?_
    try simp only [Act.put]
    refine wpAnyH_take (i := 6) (oi := { dst := some 13, op := _, type := _, pos := _, after := _, guard := _ }) (v := undef) rfl (by kernel_rfl) (by kernel_rfl) (by kernel_rfl) (fun _ _ _ h => h) (Or.inr ⟨by kernel_rfl, rfl⟩) (by assumption) ?_
    try simp only [Act.put]
    refine wpAnyH_take (i := 7) (oi := { dst := some 14, op := _, type := _, pos := _, after := _, guard := _ }) (v := undef) rfl (by kernel_rfl) (by kernel_rfl) (by kernel_rfl) (fun _ _ _ h => h) (Or.inr ⟨by kernel_rfl, rfl⟩) (by assumption) ?_
    try simp only [Act.put]
    refine wpAnyH_take (i := 8) (oi := { dst := some 15, op := _, type := _, pos := _, after := _, guard := _ }) (v := undef) rfl (by kernel_rfl) (by kernel_rfl) (by kernel_rfl) (fun _ _ _ h => h) (Or.inr ⟨by kernel_rfl, rfl⟩) (by assumption) ?_
    try simp only [Act.put]
    refine wpAnyH_take (i := 9) (oi := { dst := some 16, op := _, type := _, pos := _, after := _, guard := _ }) (v := undef) rfl (by kernel_rfl) (by kernel_rfl) (by kernel_rfl) (fun _ _ _ h => h) (Or.inr ⟨by kernel_rfl, rfl⟩) (by assumption) ?_
    try simp only [Act.put]
    refine wpAnyH_take (i := 10) (oi := { dst := some 17, op := _, type := _, pos := _, after := _, guard := _ }) (v := undef) rfl (by kernel_rfl) (by kernel_rfl) (by kernel_rfl) (fun _ _ _ h => h) (Or.inr ⟨by kernel_rfl, rfl⟩) (by assumption) ?_
    try simp only [Act.put]
    refine wpAnyH_take (i := 11) (oi := { dst := some 18, op := _, type := _, pos := _, after := _, guard := _ }) (v := ?v34) rfl (by kernel_rfl) (by kernel_rfl) (by kernel_rfl) (fun _ _ _ h => h) (Or.inl ⟨by kernel_rfl, ?hy34⟩) (by assumption) ?rest34
    case hy34 =>
      intro w hSw
      try dsimp only at hSw
      go_simp
      try with_reducible rfl
    try simp only [Act.put]
    refine wpAnyH_done (by kernel_rfl) ?_ _
    try simp only [List.setIfInBounds_toArray, List.set_cons_zero, List.set_cons_succ]
    clear HK
    have hb1 : Below wr.drew.heap.size wr.drew (wr.drew.alloc (.cells #[] 56)) := (Below.refl _ _).alloc (Nat.le_refl _) _
    have ho1 := Rk.own_emptyR wr.drew w0.heap.size HBw.out.size 56 3
    have hB1 := HBw.out.trans (hb1.mono HBw.out.size)
    obtain ⟨v6, w6, hrun, hown6, hg6⟩ := app_eg 23 (wr.drew.alloc (.cells #[] 56)) w0.heap.size _ [] [] ho1 none 0 (Gr.ElAt.nil _ _ _ _ _) hB1.size (by simp)
    have HB6 := Lib.hid (hB1.trans (Rk.below_own ho1 hB1.size hg6))
    have HO6 := Lib.hid hown6
    clear hb1 ho1 hB1 hown6 hg6
    go_upto_region 5 with (at_builtin; refine Lib.wpList_append_run _ rfl _ _ _ _ rfl _ _ rfl rfl _ _ hrun ?_)
    clear hrun
    have r0 := (HB6.out.cell (p := ⟨w.heap.size, 0, none⟩) hgx0).trans x0
    have r1 := (HB6.out.cell (p := ⟨w.heap.size, 1, none⟩) hgx0).trans x1
    have r2 := (HB6.out.cell (p := ⟨w.heap.size, 2, none⟩) hgx0).trans x2
    have hb2 : Below w6.heap.size w6 (w6.alloc (.cells #[.int .i64 x.src, .int .i64 x.dst, .int .i64 x.stp] 56)) := (Below.refl _ _).alloc (Nat.le_refl _) _
    have ho2 := Rk.own_below HO6.out hb2
    have hB2 := HB6.out.trans (hb2.mono HB6.out.size)
    obtain ⟨v7, w7, hrun, hown7, hg7⟩ := app_eg 23 (w6.alloc (.cells #[.int .i64 x.src, .int .i64 x.dst, .int .i64 x.stp] 56)) w0.heap.size _ ([] ++ []) [x] ho2 (some ⟨w6.heap.size, 0, none⟩) 1 (one_ed w6 x.src x.dst x.stp) hB2.size (by simp)
    have HB7 := Lib.hid (hB2.trans (Rk.below_own ho2 hB2.size hg7))
    have HO7 := Lib.hid hown7
    clear hb2 ho2 hB2 hown7 hg7 HB6 HO6
    go_upto_region 6 with (at_builtin; refine Lib.wpList_append_run _ rfl _ _ _ _ rfl _ _ rfl rfl _ _ hrun ?_)
    clear hrun r0 r1 r2
    obtain ⟨v8, w8, hrun, hown8, hg8⟩ := app_eg 23 w7 w0.heap.size _ ([] ++ [] ++ [x]) [] HO7.out none 0 (Gr.ElAt.nil _ _ _ _ _) HB7.out.size (by simp)
    have HB8 := Lib.hid (HB7.out.trans (Rk.below_own HO7.out HB7.out.size hg8))
    obtain ⟨A8, c8, rfl, h81, h82, hel⟩ := Rk.Rc.own_el Gr.edV 3 Gr.edV_len hown8
    obtain ⟨g8, o8, rfl, _, _⟩ := hel.row (by simp)
    have HE8 := Lib.hid hel
    clear hown8 hg8 hel
    go_wp2_with (at_builtin; refine Lib.wpList_append_run _ rfl _ _ _ _ rfl _ _ rfl rfl _ _ hrun ?_)
    first | go_ret3 | go_ret2 | go_ret
    exact ⟨_, g8, o8, c8, rfl, HP.out, h81, h82, HE8.out, HBX.out.trans (HB8.out.mono HBX.out.size)⟩
end Go.Proofs.YtjemffgidhgfjaaGreatDoor
