/- Diverge of the reference. No condition but the lengths. -/
import Derived.Test.YtkgnbjhgdjmfdaaDoorQeq
import Derived.Deep.RegionHeld3
namespace Go.Proofs.YtkgnbjhgdjmfdaaDoor
open Go.RowKit Go.Deep Tr

set_option maxHeartbeats 8000000 in
set_option maxRecDepth 100000 in
theorem qdiverge_any (a b : List Dn) (A B : Option Addr) (c d : Nat) (w : World) (hA : RcAt w A a) (hB : RcAt w B b) :
    Calls Tryd.prog 22 #[.slice A a.length c, .slice B b.length d] w fun e w' => (∃ n, e = .returned (.int .i64 n) ∧ DivP a b n) ∧ Below w.heap.size w w' := by
  have HA := Lib.hid hA
  have HB := Lib.hid hB
  have hra := hA.rl
  have hrb := hB.rl
  clear hA hB
  go_enter Tryd.func22, Tryd.ntmps22
  go_wp2_with fail
  go_loopw [5] (fun s5 wr => ∃ k : Nat, s5 = .int .i64 k ∧ k ≤ a.length ∧ k ≤ b.length ∧ (∀ j x y, j < k → a[j]? = some x → b[j]? = some y → sameB x y = true) ∧ Below w.heap.size w wr) (fun s5 _ => a.length - (intOf s5).toNat)
  case atStart => exact ⟨0, rfl, Nat.zero_le _, Nat.zero_le _, fun j _ _ h => by omega, Below.refl _ _⟩
  case round =>
    obtain ⟨k, rfl, hka, hkb, hall, hb⟩ := hrel
    have HAL := Lib.hid hall
    clear hall
    by_cases hla : k < a.length
    · have c1 : decide ((k : Int) < (a.length : Int)) = true := decide_eq_true (by omega)
      have c1n : decide (k < a.length) = true := decide_eq_true hla
      have c2 : decide ((a.length : Int) ≤ (k : Int)) = false := decide_eq_false (by omega)
      have c2n : decide (a.length ≤ k) = false := decide_eq_false (by omega)
      have y1 : (k : Int) < (a.length : Int) := by omega
      by_cases hlb : k < b.length
      · have c3 : decide ((b.length : Int) ≤ (k : Int)) = false := decide_eq_false (by omega)
        have c3n : decide (b.length ≤ k) = false := decide_eq_false (by omega)
        have y2 : (k : Int) < (b.length : Int) := by omega
        obtain ⟨g, o, rfl, hg, hc⟩ := (HA.out.next hb).st k hla
        obtain ⟨g', o', rfl, hg', hc'⟩ := (HB.out.next hb).st k hlb
        have hd0 := hc 0 _ rfl
        have hd1 := hc 1 _ rfl
        have hd2 := hc 2 _ rfl
        have hd3 := hc 3 _ rfl
        have hd4 := hc 4 _ rfl
        have hd5 := hc 5 _ rfl
        rw [show o + k * 6 + 0 = o + k * 6 from rfl] at hd0
        have he0 := hc' 0 _ rfl
        have he1 := hc' 1 _ rfl
        have he2 := hc' 2 _ rfl
        have he3 := hc' 3 _ rfl
        have he4 := hc' 4 _ rfl
        have he5 := hc' 5 _ rfl
        rw [show o' + k * 6 + 0 = o' + k * 6 from rfl] at he0
        clear hc hc'
        have hma2 := List.getElem_mem hla
        have hmb2 := List.getElem_mem hlb
        have cc := qequal_any a[k] b[k] wr.drew ((HA.out.next hb.drew).rd _ hma2) ((HB.out.next hb.drew).rd _ hmb2) (HA.out.tl _ hma2)
        rw [dnA_def, dnA_def] at cc
        have HX := Lib.hid (show a[k]? = some a[k] from List.getElem?_eq_getElem hla)
        have HY := Lib.hid (show b[k]? = some b[k] from List.getElem?_eq_getElem hlb)
        clear hma2 hmb2
        generalize a[k] = x at *
        generalize b[k] = y at *
        cases hv : sameB x y with
        | true =>
          rw [hv] at cc
          have HN := Lib.hid (show ∀ j x y, j < k + 1 → a[j]? = some x → b[j]? = some y → sameB x y = true from fun j x' y' hj hx hy => by
            by_cases e : j = k
            · subst e
              rw [HX.out] at hx
              rw [HY.out] at hy
              cases hx; cases hy; exact hv
            · exact HAL.out j x' y' (by omega) hx hy)
          clear hv
          have HBD := Lib.hid hb.drew
          clear hb
          go_upto_region 4 with (fail)
          have HK := Lib.hid (fun (w5 : World) (h5 : Below wr.drew.heap.size wr.drew w5) => show (fun w' : World => w'.cell? ⟨g, o + k * 6, none⟩ = some (.int .i64 x.pkg) ∧ w'.cell? ⟨g, o + k * 6 + 1, none⟩ = some (.int .i64 x.lin) ∧ w'.cell? ⟨g, o + k * 6 + 2, none⟩ = some (.int .i64 x.knd) ∧ w'.cell? ⟨g, o + k * 6 + 3, none⟩ = some (.slice x.A x.rds.length x.c) ∧ w'.cell? ⟨g, o + k * 6 + 4, none⟩ = some (.string (str x.wr.pth)) ∧ w'.cell? ⟨g, o + k * 6 + 5, none⟩ = some (.string (str x.wr.dig)) ∧ w'.cell? ⟨g', o' + k * 6, none⟩ = some (.int .i64 y.pkg) ∧ w'.cell? ⟨g', o' + k * 6 + 1, none⟩ = some (.int .i64 y.lin) ∧ w'.cell? ⟨g', o' + k * 6 + 2, none⟩ = some (.int .i64 y.knd) ∧ w'.cell? ⟨g', o' + k * 6 + 3, none⟩ = some (.slice y.A y.rds.length y.c) ∧ w'.cell? ⟨g', o' + k * 6 + 4, none⟩ = some (.string (str y.wr.pth)) ∧ w'.cell? ⟨g', o' + k * 6 + 5, none⟩ = some (.string (str y.wr.dig))) w5 from ⟨(h5.cell (p := ⟨g, o + k * 6, none⟩) hg).trans hd0, (h5.cell (p := ⟨g, o + k * 6 + 1, none⟩) hg).trans hd1, (h5.cell (p := ⟨g, o + k * 6 + 2, none⟩) hg).trans hd2, (h5.cell (p := ⟨g, o + k * 6 + 3, none⟩) hg).trans hd3, (h5.cell (p := ⟨g, o + k * 6 + 4, none⟩) hg).trans hd4, (h5.cell (p := ⟨g, o + k * 6 + 5, none⟩) hg).trans hd5, (h5.cell (p := ⟨g', o' + k * 6, none⟩) hg').trans he0, (h5.cell (p := ⟨g', o' + k * 6 + 1, none⟩) hg').trans he1, (h5.cell (p := ⟨g', o' + k * 6 + 2, none⟩) hg').trans he2, (h5.cell (p := ⟨g', o' + k * 6 + 3, none⟩) hg').trans he3, (h5.cell (p := ⟨g', o' + k * 6 + 4, none⟩) hg').trans he4, (h5.cell (p := ⟨g', o' + k * 6 + 5, none⟩) hg').trans he5⟩)
          refine wp_region_held_drew (S := (fun w' : World => w'.cell? ⟨g, o + k * 6, none⟩ = some (.int .i64 x.pkg) ∧ w'.cell? ⟨g, o + k * 6 + 1, none⟩ = some (.int .i64 x.lin) ∧ w'.cell? ⟨g, o + k * 6 + 2, none⟩ = some (.int .i64 x.knd) ∧ w'.cell? ⟨g, o + k * 6 + 3, none⟩ = some (.slice x.A x.rds.length x.c) ∧ w'.cell? ⟨g, o + k * 6 + 4, none⟩ = some (.string (str x.wr.pth)) ∧ w'.cell? ⟨g, o + k * 6 + 5, none⟩ = some (.string (str x.wr.dig)) ∧ w'.cell? ⟨g', o' + k * 6, none⟩ = some (.int .i64 y.pkg) ∧ w'.cell? ⟨g', o' + k * 6 + 1, none⟩ = some (.int .i64 y.lin) ∧ w'.cell? ⟨g', o' + k * 6 + 2, none⟩ = some (.int .i64 y.knd) ∧ w'.cell? ⟨g', o' + k * 6 + 3, none⟩ = some (.slice y.A y.rds.length y.c) ∧ w'.cell? ⟨g', o' + k * 6 + 4, none⟩ = some (.string (str y.wr.pth)) ∧ w'.cell? ⟨g', o' + k * 6 + 5, none⟩ = some (.string (str y.wr.dig)))) (by kernel_rfl) (HK.out _ (Below.refl _ _)) (fun hHeld => ?_)
          refine wpAnyH_take (i := 0) (oi := { dst := some 18, op := _, type := _, pos := _, after := _, guard := _ }) (v := ?v1) rfl (by kernel_rfl) (by kernel_rfl) (by kernel_rfl) (fun _ _ _ h => h) (Or.inl ⟨by kernel_rfl, ?hy1⟩) (by assumption) ?rest1
          case hy1 =>
            intro w hSw
            try dsimp only at hSw
            go_simp
            try with_reducible rfl
          try simp only [Act.put]
          refine wpAnyH_take (i := 1) (oi := { dst := some 19, op := _, type := _, pos := _, after := _, guard := _ }) (v := ?v2) rfl (by kernel_rfl) (by kernel_rfl) (by kernel_rfl) (fun _ _ _ h => h) (Or.inl ⟨by kernel_rfl, ?hy2⟩) (by assumption) ?rest2
          case hy2 =>
            intro w hSw
            try dsimp only at hSw
            go_simp
            try with_reducible rfl
          try simp only [Act.put]
          refine wpAnyH_take (i := 2) (oi := { dst := some 20, op := _, type := _, pos := _, after := _, guard := _ }) (v := ?v3) rfl (by kernel_rfl) (by kernel_rfl) (by kernel_rfl) (fun _ _ _ h => h) (Or.inl ⟨by kernel_rfl, ?hy3⟩) (by assumption) ?rest3
          case hy3 =>
            intro w hSw
            try dsimp only at hSw
            go_simp
            try with_reducible rfl
          try simp only [Act.put]
          refine wpAnyH_take (i := 3) (oi := { dst := some 21, op := _, type := _, pos := _, after := _, guard := _ }) (v := ?v4) rfl (by kernel_rfl) (by kernel_rfl) (by kernel_rfl) (fun _ _ _ h => h) (Or.inl ⟨by kernel_rfl, ?hy4⟩) (by assumption) ?rest4
          case hy4 =>
            intro w hSw
            try dsimp only at hSw
            go_simp
            try with_reducible rfl
          try simp only [Act.put]
          refine wpAnyH_take (i := 4) (oi := { dst := some 22, op := _, type := _, pos := _, after := _, guard := _ }) (v := ?v5) rfl (by kernel_rfl) (by kernel_rfl) (by kernel_rfl) (fun _ _ _ h => h) (Or.inl ⟨by kernel_rfl, ?hy5⟩) (by assumption) ?rest5
          case hy5 =>
            intro w hSw
            try dsimp only at hSw
            go_simp
            try with_reducible rfl
          try simp only [Act.put]
          refine wpAnyH_take (i := 5) (oi := { dst := some 23, op := _, type := _, pos := _, after := _, guard := _ }) (v := ?v6) rfl (by kernel_rfl) (by kernel_rfl) (by kernel_rfl) (fun _ _ _ h => h) (Or.inl ⟨by kernel_rfl, ?hy6⟩) (by assumption) ?rest6
          case hy6 =>
            intro w hSw
            try dsimp only at hSw
            go_simp
            try with_reducible rfl
          try simp only [Act.put]
          refine wpAnyH_take (i := 6) (oi := { dst := some 24, op := _, type := _, pos := _, after := _, guard := _ }) (v := ?v7) rfl (by kernel_rfl) (by kernel_rfl) (by kernel_rfl) (fun _ _ _ h => h) (Or.inl ⟨by kernel_rfl, ?hy7⟩) (by assumption) ?rest7
          case hy7 =>
            intro w hSw
            try dsimp only at hSw
            go_simp
            try with_reducible rfl
          try simp only [Act.put]
          refine wpAnyH_take (i := 7) (oi := { dst := some 25, op := _, type := _, pos := _, after := _, guard := _ }) (v := ?v8) rfl (by kernel_rfl) (by kernel_rfl) (by kernel_rfl) (fun _ _ _ h => h) (Or.inl ⟨by kernel_rfl, ?hy8⟩) (by assumption) ?rest8
          case hy8 =>
            intro w hSw
            try dsimp only at hSw
            go_simp
            try with_reducible rfl
          try simp only [Act.put]
          refine wpAnyH_take (i := 8) (oi := { dst := some 26, op := _, type := _, pos := _, after := _, guard := _ }) (v := ?v9) rfl (by kernel_rfl) (by kernel_rfl) (by kernel_rfl) (fun _ _ _ h => h) (Or.inl ⟨by kernel_rfl, ?hy9⟩) (by assumption) ?rest9
          case hy9 =>
            intro w hSw
            try dsimp only at hSw
            go_simp
            try with_reducible rfl
          try simp only [Act.put]
          refine wpAnyH_take (i := 9) (oi := { dst := some 27, op := _, type := _, pos := _, after := _, guard := _ }) (v := ?v10) rfl (by kernel_rfl) (by kernel_rfl) (by kernel_rfl) (fun _ _ _ h => h) (Or.inl ⟨by kernel_rfl, ?hy10⟩) (by assumption) ?rest10
          case hy10 =>
            intro w hSw
            try dsimp only at hSw
            go_simp
            try with_reducible rfl
          try simp only [Act.put]
          refine wpAnyH_take (i := 10) (oi := { dst := some 28, op := _, type := _, pos := _, after := _, guard := _ }) (v := ?v11) rfl (by kernel_rfl) (by kernel_rfl) (by kernel_rfl) (fun _ _ _ h => h) (Or.inl ⟨by kernel_rfl, ?hy11⟩) (by assumption) ?rest11
          case hy11 =>
            intro w hSw
            try dsimp only at hSw
            go_simp
            try with_reducible rfl
          try simp only [Act.put]
          refine wpAnyH_take (i := 11) (oi := { dst := some 29, op := _, type := _, pos := _, after := _, guard := _ }) (v := ?v12) rfl (by kernel_rfl) (by kernel_rfl) (by kernel_rfl) (fun _ _ _ h => h) (Or.inl ⟨by kernel_rfl, ?hy12⟩) (by assumption) ?rest12
          case hy12 =>
            intro w hSw
            try dsimp only at hSw
            go_simp
            try with_reducible rfl
          try simp only [Act.put]
          refine wpAnyH_take (i := 12) (oi := { dst := some 30, op := _, type := _, pos := _, after := _, guard := _ }) (v := ?v13) rfl (by kernel_rfl) (by kernel_rfl) (by kernel_rfl) (fun _ _ _ h => h) (Or.inl ⟨by kernel_rfl, ?hy13⟩) (by assumption) ?rest13
          case hy13 =>
            intro w hSw
            try dsimp only at hSw
            go_simp
            try with_reducible rfl
          try simp only [Act.put]
          refine wpAnyH_take (i := 13) (oi := { dst := some 31, op := _, type := _, pos := _, after := _, guard := _ }) (v := ?v14) rfl (by kernel_rfl) (by kernel_rfl) (by kernel_rfl) (fun _ _ _ h => h) (Or.inl ⟨by kernel_rfl, ?hy14⟩) (by assumption) ?rest14
          case hy14 =>
            intro w hSw
            try dsimp only at hSw
            go_simp
            try with_reducible rfl
          try simp only [Act.put]
          refine wpAnyH_take (i := 14) (oi := { dst := some 32, op := _, type := _, pos := _, after := _, guard := _ }) (v := ?v15) rfl (by kernel_rfl) (by kernel_rfl) (by kernel_rfl) (fun _ _ _ h => h) (Or.inl ⟨by kernel_rfl, ?hy15⟩) (by assumption) ?rest15
          case hy15 =>
            intro w hSw
            try dsimp only at hSw
            go_simp
            try with_reducible rfl
          try simp only [Act.put]
          refine wpAnyH_take (i := 15) (oi := { dst := some 33, op := _, type := _, pos := _, after := _, guard := _ }) (v := ?v16) rfl (by kernel_rfl) (by kernel_rfl) (by kernel_rfl) (fun _ _ _ h => h) (Or.inl ⟨by kernel_rfl, ?hy16⟩) (by assumption) ?rest16
          case hy16 =>
            intro w hSw
            try dsimp only at hSw
            go_simp
            try with_reducible rfl
          try simp only [Act.put]
          refine wpAnyH_take (i := 16) (oi := { dst := some 34, op := _, type := _, pos := _, after := _, guard := _ }) (v := ?v17) rfl (by kernel_rfl) (by kernel_rfl) (by kernel_rfl) (fun _ _ _ h => h) (Or.inl ⟨by kernel_rfl, ?hy17⟩) (by assumption) ?rest17
          case hy17 =>
            intro w hSw
            try dsimp only at hSw
            go_simp
            try with_reducible rfl
          try simp only [Act.put]
          refine wpAnyH_take (i := 17) (oi := { dst := some 35, op := _, type := _, pos := _, after := _, guard := _ }) (v := ?v18) rfl (by kernel_rfl) (by kernel_rfl) (by kernel_rfl) (fun _ _ _ h => h) (Or.inl ⟨by kernel_rfl, ?hy18⟩) (by assumption) ?rest18
          case hy18 =>
            intro w hSw
            try dsimp only at hSw
            go_simp
            try with_reducible rfl
          try simp only [Act.put]
          refine wpAnyH_take (i := 18) (oi := { dst := some 36, op := _, type := _, pos := _, after := _, guard := _ }) (v := ?v19) rfl (by kernel_rfl) (by kernel_rfl) (by kernel_rfl) (fun _ _ _ h => h) (Or.inl ⟨by kernel_rfl, ?hy19⟩) (by assumption) ?rest19
          case hy19 =>
            intro w hSw
            try dsimp only at hSw
            go_simp
            try with_reducible rfl
          try simp only [Act.put]
          refine wpAnyH_ready (rs := [19]) (by kernel_rfl) (by simp) ?_
          refine AllReadyH.cons (o := _) rfl (fun K hK => ?_) AllReadyH.nil
          go_simp
          go_at_call 42
          with_reducible refine cc.mono ?_
          clear cc
          rintro e w4 ⟨rfl, hb4⟩
          have HB4 := Lib.hid (HBD.out.trans (hb4.mono HBD.out.size))
          refine hK.out _ _ (HK.out w4 hb4) (fun hHeld => ?_)
          clear hK K
          try simp only [Act.put]
          refine wpAnyH_take (i := 20) (oi := { dst := some 38, op := _, type := _, pos := _, after := _, guard := _ }) (v := ?v20) rfl (by kernel_rfl) (by kernel_rfl) (by kernel_rfl) (fun _ _ _ h => h) (Or.inl ⟨by kernel_rfl, ?hy20⟩) (by assumption) ?rest20
          case hy20 =>
            intro w hSw
            try dsimp only at hSw
            go_simp
            try with_reducible rfl
          try simp only [Act.put]
          refine wpAnyH_take (i := 21) (oi := { dst := some 39, op := _, type := _, pos := _, after := _, guard := _ }) (v := ?v21) rfl (by kernel_rfl) (by kernel_rfl) (by kernel_rfl) (fun _ _ _ h => h) (Or.inl ⟨by kernel_rfl, ?hy21⟩) (by assumption) ?rest21
          case hy21 =>
            intro w hSw
            try dsimp only at hSw
            go_simp
            try with_reducible rfl
          try simp only [Act.put]
          refine wpAnyH_done (by kernel_rfl) ?_ _
          try simp only [List.setIfInBounds_toArray, List.set_cons_zero, List.set_cons_succ]
          clear hb4 HK
          clear hd0 hd1 hd2 hd3 hd4 hd5 he0 he1 he2 he3 he4 he5
          go_wp2_with fail
          go_roundw
          case rel => exact ⟨k + 1, by go_num, by omega, by omega, HN.out, HB4.out⟩
          case measure => simp [intOf]; omega
        | false =>
          rw [hv] at cc
          have HD := Lib.hid (show DivP a b (k : Int) from ⟨k, by omega, by omega, HAL.out, fun x' y' hx hy => by
            rw [HX.out] at hx
            rw [HY.out] at hy
            cases hx; cases hy; exact hv, by rw [if_neg (by omega)]⟩)
          clear hv
          have HBD := Lib.hid hb.drew
          clear hb
          go_upto_region 4 with (fail)
          have HK := Lib.hid (fun (w5 : World) (h5 : Below wr.drew.heap.size wr.drew w5) => show (fun w' : World => w'.cell? ⟨g, o + k * 6, none⟩ = some (.int .i64 x.pkg) ∧ w'.cell? ⟨g, o + k * 6 + 1, none⟩ = some (.int .i64 x.lin) ∧ w'.cell? ⟨g, o + k * 6 + 2, none⟩ = some (.int .i64 x.knd) ∧ w'.cell? ⟨g, o + k * 6 + 3, none⟩ = some (.slice x.A x.rds.length x.c) ∧ w'.cell? ⟨g, o + k * 6 + 4, none⟩ = some (.string (str x.wr.pth)) ∧ w'.cell? ⟨g, o + k * 6 + 5, none⟩ = some (.string (str x.wr.dig)) ∧ w'.cell? ⟨g', o' + k * 6, none⟩ = some (.int .i64 y.pkg) ∧ w'.cell? ⟨g', o' + k * 6 + 1, none⟩ = some (.int .i64 y.lin) ∧ w'.cell? ⟨g', o' + k * 6 + 2, none⟩ = some (.int .i64 y.knd) ∧ w'.cell? ⟨g', o' + k * 6 + 3, none⟩ = some (.slice y.A y.rds.length y.c) ∧ w'.cell? ⟨g', o' + k * 6 + 4, none⟩ = some (.string (str y.wr.pth)) ∧ w'.cell? ⟨g', o' + k * 6 + 5, none⟩ = some (.string (str y.wr.dig))) w5 from ⟨(h5.cell (p := ⟨g, o + k * 6, none⟩) hg).trans hd0, (h5.cell (p := ⟨g, o + k * 6 + 1, none⟩) hg).trans hd1, (h5.cell (p := ⟨g, o + k * 6 + 2, none⟩) hg).trans hd2, (h5.cell (p := ⟨g, o + k * 6 + 3, none⟩) hg).trans hd3, (h5.cell (p := ⟨g, o + k * 6 + 4, none⟩) hg).trans hd4, (h5.cell (p := ⟨g, o + k * 6 + 5, none⟩) hg).trans hd5, (h5.cell (p := ⟨g', o' + k * 6, none⟩) hg').trans he0, (h5.cell (p := ⟨g', o' + k * 6 + 1, none⟩) hg').trans he1, (h5.cell (p := ⟨g', o' + k * 6 + 2, none⟩) hg').trans he2, (h5.cell (p := ⟨g', o' + k * 6 + 3, none⟩) hg').trans he3, (h5.cell (p := ⟨g', o' + k * 6 + 4, none⟩) hg').trans he4, (h5.cell (p := ⟨g', o' + k * 6 + 5, none⟩) hg').trans he5⟩)
          refine wp_region_held_drew (S := (fun w' : World => w'.cell? ⟨g, o + k * 6, none⟩ = some (.int .i64 x.pkg) ∧ w'.cell? ⟨g, o + k * 6 + 1, none⟩ = some (.int .i64 x.lin) ∧ w'.cell? ⟨g, o + k * 6 + 2, none⟩ = some (.int .i64 x.knd) ∧ w'.cell? ⟨g, o + k * 6 + 3, none⟩ = some (.slice x.A x.rds.length x.c) ∧ w'.cell? ⟨g, o + k * 6 + 4, none⟩ = some (.string (str x.wr.pth)) ∧ w'.cell? ⟨g, o + k * 6 + 5, none⟩ = some (.string (str x.wr.dig)) ∧ w'.cell? ⟨g', o' + k * 6, none⟩ = some (.int .i64 y.pkg) ∧ w'.cell? ⟨g', o' + k * 6 + 1, none⟩ = some (.int .i64 y.lin) ∧ w'.cell? ⟨g', o' + k * 6 + 2, none⟩ = some (.int .i64 y.knd) ∧ w'.cell? ⟨g', o' + k * 6 + 3, none⟩ = some (.slice y.A y.rds.length y.c) ∧ w'.cell? ⟨g', o' + k * 6 + 4, none⟩ = some (.string (str y.wr.pth)) ∧ w'.cell? ⟨g', o' + k * 6 + 5, none⟩ = some (.string (str y.wr.dig)))) (by kernel_rfl) (HK.out _ (Below.refl _ _)) (fun hHeld => ?_)
          refine wpAnyH_take (i := 0) (oi := { dst := some 18, op := _, type := _, pos := _, after := _, guard := _ }) (v := ?v501) rfl (by kernel_rfl) (by kernel_rfl) (by kernel_rfl) (fun _ _ _ h => h) (Or.inl ⟨by kernel_rfl, ?hy501⟩) (by assumption) ?rest501
          case hy501 =>
            intro w hSw
            try dsimp only at hSw
            go_simp
            try with_reducible rfl
          try simp only [Act.put]
          refine wpAnyH_take (i := 1) (oi := { dst := some 19, op := _, type := _, pos := _, after := _, guard := _ }) (v := ?v502) rfl (by kernel_rfl) (by kernel_rfl) (by kernel_rfl) (fun _ _ _ h => h) (Or.inl ⟨by kernel_rfl, ?hy502⟩) (by assumption) ?rest502
          case hy502 =>
            intro w hSw
            try dsimp only at hSw
            go_simp
            try with_reducible rfl
          try simp only [Act.put]
          refine wpAnyH_take (i := 2) (oi := { dst := some 20, op := _, type := _, pos := _, after := _, guard := _ }) (v := ?v503) rfl (by kernel_rfl) (by kernel_rfl) (by kernel_rfl) (fun _ _ _ h => h) (Or.inl ⟨by kernel_rfl, ?hy503⟩) (by assumption) ?rest503
          case hy503 =>
            intro w hSw
            try dsimp only at hSw
            go_simp
            try with_reducible rfl
          try simp only [Act.put]
          refine wpAnyH_take (i := 3) (oi := { dst := some 21, op := _, type := _, pos := _, after := _, guard := _ }) (v := ?v504) rfl (by kernel_rfl) (by kernel_rfl) (by kernel_rfl) (fun _ _ _ h => h) (Or.inl ⟨by kernel_rfl, ?hy504⟩) (by assumption) ?rest504
          case hy504 =>
            intro w hSw
            try dsimp only at hSw
            go_simp
            try with_reducible rfl
          try simp only [Act.put]
          refine wpAnyH_take (i := 4) (oi := { dst := some 22, op := _, type := _, pos := _, after := _, guard := _ }) (v := ?v505) rfl (by kernel_rfl) (by kernel_rfl) (by kernel_rfl) (fun _ _ _ h => h) (Or.inl ⟨by kernel_rfl, ?hy505⟩) (by assumption) ?rest505
          case hy505 =>
            intro w hSw
            try dsimp only at hSw
            go_simp
            try with_reducible rfl
          try simp only [Act.put]
          refine wpAnyH_take (i := 5) (oi := { dst := some 23, op := _, type := _, pos := _, after := _, guard := _ }) (v := ?v506) rfl (by kernel_rfl) (by kernel_rfl) (by kernel_rfl) (fun _ _ _ h => h) (Or.inl ⟨by kernel_rfl, ?hy506⟩) (by assumption) ?rest506
          case hy506 =>
            intro w hSw
            try dsimp only at hSw
            go_simp
            try with_reducible rfl
          try simp only [Act.put]
          refine wpAnyH_take (i := 6) (oi := { dst := some 24, op := _, type := _, pos := _, after := _, guard := _ }) (v := ?v507) rfl (by kernel_rfl) (by kernel_rfl) (by kernel_rfl) (fun _ _ _ h => h) (Or.inl ⟨by kernel_rfl, ?hy507⟩) (by assumption) ?rest507
          case hy507 =>
            intro w hSw
            try dsimp only at hSw
            go_simp
            try with_reducible rfl
          try simp only [Act.put]
          refine wpAnyH_take (i := 7) (oi := { dst := some 25, op := _, type := _, pos := _, after := _, guard := _ }) (v := ?v508) rfl (by kernel_rfl) (by kernel_rfl) (by kernel_rfl) (fun _ _ _ h => h) (Or.inl ⟨by kernel_rfl, ?hy508⟩) (by assumption) ?rest508
          case hy508 =>
            intro w hSw
            try dsimp only at hSw
            go_simp
            try with_reducible rfl
          try simp only [Act.put]
          refine wpAnyH_take (i := 8) (oi := { dst := some 26, op := _, type := _, pos := _, after := _, guard := _ }) (v := ?v509) rfl (by kernel_rfl) (by kernel_rfl) (by kernel_rfl) (fun _ _ _ h => h) (Or.inl ⟨by kernel_rfl, ?hy509⟩) (by assumption) ?rest509
          case hy509 =>
            intro w hSw
            try dsimp only at hSw
            go_simp
            try with_reducible rfl
          try simp only [Act.put]
          refine wpAnyH_take (i := 9) (oi := { dst := some 27, op := _, type := _, pos := _, after := _, guard := _ }) (v := ?v510) rfl (by kernel_rfl) (by kernel_rfl) (by kernel_rfl) (fun _ _ _ h => h) (Or.inl ⟨by kernel_rfl, ?hy510⟩) (by assumption) ?rest510
          case hy510 =>
            intro w hSw
            try dsimp only at hSw
            go_simp
            try with_reducible rfl
          try simp only [Act.put]
          refine wpAnyH_take (i := 10) (oi := { dst := some 28, op := _, type := _, pos := _, after := _, guard := _ }) (v := ?v511) rfl (by kernel_rfl) (by kernel_rfl) (by kernel_rfl) (fun _ _ _ h => h) (Or.inl ⟨by kernel_rfl, ?hy511⟩) (by assumption) ?rest511
          case hy511 =>
            intro w hSw
            try dsimp only at hSw
            go_simp
            try with_reducible rfl
          try simp only [Act.put]
          refine wpAnyH_take (i := 11) (oi := { dst := some 29, op := _, type := _, pos := _, after := _, guard := _ }) (v := ?v512) rfl (by kernel_rfl) (by kernel_rfl) (by kernel_rfl) (fun _ _ _ h => h) (Or.inl ⟨by kernel_rfl, ?hy512⟩) (by assumption) ?rest512
          case hy512 =>
            intro w hSw
            try dsimp only at hSw
            go_simp
            try with_reducible rfl
          try simp only [Act.put]
          refine wpAnyH_take (i := 12) (oi := { dst := some 30, op := _, type := _, pos := _, after := _, guard := _ }) (v := ?v513) rfl (by kernel_rfl) (by kernel_rfl) (by kernel_rfl) (fun _ _ _ h => h) (Or.inl ⟨by kernel_rfl, ?hy513⟩) (by assumption) ?rest513
          case hy513 =>
            intro w hSw
            try dsimp only at hSw
            go_simp
            try with_reducible rfl
          try simp only [Act.put]
          refine wpAnyH_take (i := 13) (oi := { dst := some 31, op := _, type := _, pos := _, after := _, guard := _ }) (v := ?v514) rfl (by kernel_rfl) (by kernel_rfl) (by kernel_rfl) (fun _ _ _ h => h) (Or.inl ⟨by kernel_rfl, ?hy514⟩) (by assumption) ?rest514
          case hy514 =>
            intro w hSw
            try dsimp only at hSw
            go_simp
            try with_reducible rfl
          try simp only [Act.put]
          refine wpAnyH_take (i := 14) (oi := { dst := some 32, op := _, type := _, pos := _, after := _, guard := _ }) (v := ?v515) rfl (by kernel_rfl) (by kernel_rfl) (by kernel_rfl) (fun _ _ _ h => h) (Or.inl ⟨by kernel_rfl, ?hy515⟩) (by assumption) ?rest515
          case hy515 =>
            intro w hSw
            try dsimp only at hSw
            go_simp
            try with_reducible rfl
          try simp only [Act.put]
          refine wpAnyH_take (i := 15) (oi := { dst := some 33, op := _, type := _, pos := _, after := _, guard := _ }) (v := ?v516) rfl (by kernel_rfl) (by kernel_rfl) (by kernel_rfl) (fun _ _ _ h => h) (Or.inl ⟨by kernel_rfl, ?hy516⟩) (by assumption) ?rest516
          case hy516 =>
            intro w hSw
            try dsimp only at hSw
            go_simp
            try with_reducible rfl
          try simp only [Act.put]
          refine wpAnyH_take (i := 16) (oi := { dst := some 34, op := _, type := _, pos := _, after := _, guard := _ }) (v := ?v517) rfl (by kernel_rfl) (by kernel_rfl) (by kernel_rfl) (fun _ _ _ h => h) (Or.inl ⟨by kernel_rfl, ?hy517⟩) (by assumption) ?rest517
          case hy517 =>
            intro w hSw
            try dsimp only at hSw
            go_simp
            try with_reducible rfl
          try simp only [Act.put]
          refine wpAnyH_take (i := 17) (oi := { dst := some 35, op := _, type := _, pos := _, after := _, guard := _ }) (v := ?v518) rfl (by kernel_rfl) (by kernel_rfl) (by kernel_rfl) (fun _ _ _ h => h) (Or.inl ⟨by kernel_rfl, ?hy518⟩) (by assumption) ?rest518
          case hy518 =>
            intro w hSw
            try dsimp only at hSw
            go_simp
            try with_reducible rfl
          try simp only [Act.put]
          refine wpAnyH_take (i := 18) (oi := { dst := some 36, op := _, type := _, pos := _, after := _, guard := _ }) (v := ?v519) rfl (by kernel_rfl) (by kernel_rfl) (by kernel_rfl) (fun _ _ _ h => h) (Or.inl ⟨by kernel_rfl, ?hy519⟩) (by assumption) ?rest519
          case hy519 =>
            intro w hSw
            try dsimp only at hSw
            go_simp
            try with_reducible rfl
          try simp only [Act.put]
          refine wpAnyH_ready (rs := [19]) (by kernel_rfl) (by simp) ?_
          refine AllReadyH.cons (o := _) rfl (fun K hK => ?_) AllReadyH.nil
          go_simp
          go_at_call 42
          with_reducible refine cc.mono ?_
          clear cc
          rintro e w4 ⟨rfl, hb4⟩
          have HB4 := Lib.hid (HBD.out.trans (hb4.mono HBD.out.size))
          refine hK.out _ _ (HK.out w4 hb4) (fun hHeld => ?_)
          clear hK K
          try simp only [Act.put]
          refine wpAnyH_take (i := 20) (oi := { dst := some 38, op := _, type := _, pos := _, after := _, guard := _ }) (v := ?v520) rfl (by kernel_rfl) (by kernel_rfl) (by kernel_rfl) (fun _ _ _ h => h) (Or.inl ⟨by kernel_rfl, ?hy520⟩) (by assumption) ?rest520
          case hy520 =>
            intro w hSw
            try dsimp only at hSw
            go_simp
            try with_reducible rfl
          try simp only [Act.put]
          refine wpAnyH_take (i := 21) (oi := { dst := some 39, op := _, type := _, pos := _, after := _, guard := _ }) (v := ?v521) rfl (by kernel_rfl) (by kernel_rfl) (by kernel_rfl) (fun _ _ _ h => h) (Or.inl ⟨by kernel_rfl, ?hy521⟩) (by assumption) ?rest521
          case hy521 =>
            intro w hSw
            try dsimp only at hSw
            go_simp
            try with_reducible rfl
          try simp only [Act.put]
          refine wpAnyH_done (by kernel_rfl) ?_ _
          try simp only [List.setIfInBounds_toArray, List.set_cons_zero, List.set_cons_succ]
          clear hb4 HK
          clear hd0 hd1 hd2 hd3 hd4 hd5 he0 he1 he2 he3 he4 he5
          go_wp2_with fail
          first | go_ret3 | go_ret2 | go_ret
          exact ⟨⟨_, rfl, HD.out⟩, HB4.out⟩
      · have c3 : decide ((b.length : Int) ≤ (k : Int)) = true := decide_eq_true (by omega)
        have c3n : decide (b.length ≤ k) = true := decide_eq_true (by omega)
        have HD := Lib.hid (show DivP a b (k : Int) from ⟨k, by omega, by omega, HAL.out, fun x y hx hy => by
          have h2 := (List.getElem?_eq_some_iff.1 hy).1
          omega, by rw [if_neg (by omega)]⟩)
        have HB4 := Lib.hid hb
        go_upto_region 4 with (fail)
        go_quiet (fail)
        have HB5 := Lib.hid (below_drewN HB4.out nq)
        generalize wr.drewN nq = w2 at *
        clear hb
        go_wp2_with fail
        first | go_ret3 | go_ret2 | go_ret
        exact ⟨⟨_, rfl, HD.out⟩, HB5.out⟩
    · have c1 : decide ((k : Int) < (a.length : Int)) = false := decide_eq_false (by omega)
      have c1n : decide (k < a.length) = false := decide_eq_false hla
      have c2 : decide ((a.length : Int) ≤ (k : Int)) = true := decide_eq_true (by omega)
      have c2n : decide (a.length ≤ k) = true := decide_eq_true (by omega)
      have hkk : k = a.length := by omega
      have hnone : ∀ x y, a[k]? = some x → b[k]? = some y → sameB x y = false := fun x y hx hy => by
        have h1 := (List.getElem?_eq_some_iff.1 hx).1
        omega
      have HN := Lib.hid hnone
      have HK := Lib.hid hkk
      clear hkk hnone
      by_cases hlb : k < b.length
      · have c3 : decide ((k : Int) < (b.length : Int)) = true := decide_eq_true (by omega)
        have c3n : decide (k < b.length) = true := decide_eq_true hlb
        have HD := Lib.hid (show DivP a b (k : Int) from ⟨k, by omega, by omega, HAL.out, HN.out, by rw [if_neg (by omega)]⟩)
        have HB4 := Lib.hid hb
        go_upto_region 4 with (fail)
        go_quiet (fail)
        have HB5 := Lib.hid (below_drewN HB4.out nq)
        generalize wr.drewN nq = w2 at *
        clear hb
        go_wp2_with fail
        first | go_ret3 | go_ret2 | go_ret
        exact ⟨⟨_, rfl, HD.out⟩, HB5.out⟩
      · have c3 : decide ((k : Int) < (b.length : Int)) = false := decide_eq_false (by omega)
        have c3n : decide (k < b.length) = false := decide_eq_false hlb
        have HD := Lib.hid (show DivP a b (-1) from ⟨k, by omega, by omega, HAL.out, HN.out, by rw [if_pos ⟨HK.out, by omega⟩]⟩)
        have HB4 := Lib.hid hb
        clear hb
        go_wp2_with fail
        first | go_ret3 | go_ret2 | go_ret
        exact ⟨⟨_, rfl, HD.out⟩, HB4.out⟩
end Go.Proofs.YtkgnbjhgdjmfdaaDoor
