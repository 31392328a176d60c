/- ascend at Check's closures. No condition but the lengths. -/
import Derived.Test.YtdiaejdoglccoaaRng
namespace Go.Proofs.Ytdiaejdoglccoaa
open Go.RowKit Go.Deep Tr

set_option maxHeartbeats 8000000 in
set_option maxRecDepth 100000 in
theorem ascendStr_any (l : List (List UInt8)) (A0 : Option Addr) (c0 : Nat) (w : World) (hA : Gr.ElAt Gr.stV 1 w w.heap.size A0 l) (hl : l.length ≤ 100000) :
    Calls Try.prog 48 #[.slice A0 l.length c0, .func (.func 49) #[] #[]] w fun e w' => e = .returned (.bool (Gr.asc Op.bytesLess l)) ∧ Below w.heap.size w w' := by
  have HAA := Lib.hid hA
  clear hA
  go_enter Try.func48, Try.ntmps48
  go_wp2_with fail
  go_loopw [5] (fun s5 wr => ∃ m j : Nat, s5 = .int .i64 m ∧ m = j + 1 ∧ j ≤ l.length ∧ (∀ i (h : i + 1 < l.length), i < j → Op.bytesLess l[i] l[i + 1] = true) ∧ Below w.heap.size w wr) (fun s5 _ => l.length + 1 - (intOf s5).toNat)
  case atStart => exact ⟨1, 0, rfl, rfl, by omega, fun i h hi => by omega, Below.refl _ _⟩
  case round =>
    obtain ⟨m, j, rfl, hm, hj, hall, hb⟩ := hrel
    have HAL := Lib.hid hall
    clear hall
    by_cases hlt : m < l.length
    · have b1 : decide ((m : Int) < (l.length : Int)) = true := decide_eq_true (by omega)
      have b1n : decide (m < l.length) = true := decide_eq_true hlt
      have wj : IntKind.i64.wrap ((m : Int) - 1) = (j : Int) := (IntWalk.i64_in _ (by omega)).trans (by omega)
      have y1 : (j : Int) < (l.length : Int) := by omega
      have y2 : (m : Int) < (l.length : Int) := by omega
      obtain ⟨g0, o, rfl, hg, hc⟩ := HAA.out.row (by omega)
      have e0 : wr.cell? ⟨g0, o + j, none⟩ = some (.string (str l[j])) := (hb.cell (p := ⟨g0, o + j, none⟩) hg).trans (by have := hc (j) (by omega) 0 _ rfl; rw [Nat.mul_one] at this; exact this)
      have f0 : wr.cell? ⟨g0, o + m, none⟩ = some (.string (str l[m])) := (hb.cell (p := ⟨g0, o + m, none⟩) hg).trans (by have := hc (m) (by omega) 0 _ rfl; rw [Nat.mul_one] at this; exact this)
      clear hc
      have hjl : j < l.length := by omega
      have HTK := Lib.hid (show Op.bytesLess l[j] l[m] = true → ∀ i (h : i + 1 < l.length), i < j + 1 → Op.bytesLess l[i] l[i + 1] = true from fun h i hi hij => by
        by_cases e : i = j
        · subst e; subst hm; exact h
        · exact HAL.out i hi (by omega))
      have HNO := Lib.hid (show Op.bytesLess l[j] l[m] = false → Gr.asc Op.bytesLess l = false from fun h => by subst hm; exact Gr.asc_no _ l j hlt h)
      generalize l[j] = x at *
      generalize l[m] = y at *
      have HM := Lib.hid hm
      clear hm
      have cc := before_any x y wr.drew
      generalize hv : Op.bytesLess x y = v at *
      have HBR := Lib.hid (show Below w.heap.size w wr.drew from hb.drew)
      have hsz := hb.size
      cases v with
      | false =>
        have HN := Lib.hid (HNO.out rfl)
        clear HTK HNO hv HAL
        go_upto_region 4 with (fail)
        go_region_held3 (fun w' => w'.cell? ⟨g0, o + j, none⟩ = some (.string (str x)) ∧ w'.cell? ⟨g0, o + m, none⟩ = some (.string (str y))) (first | exact ⟨e0, f0⟩ | exact s0) (first | (go_at_call 49; (with_reducible refine cc.mono ?_); rintro e w5 ⟨rfl, hb5⟩; subst hb5))
        all_goals
          have HB3 := Lib.hid (HBR.out)
          go_wp2_with fail
          first | go_ret2 | go_ret
          exact ⟨by rw [HN.out]; rfl, HB3.out⟩
      | true =>
        have HN := Lib.hid (HTK.out rfl)
        clear HTK HNO hv HAL
        go_upto_region 4 with (fail)
        go_region_held3 (fun w' => w'.cell? ⟨g0, o + j, none⟩ = some (.string (str x)) ∧ w'.cell? ⟨g0, o + m, none⟩ = some (.string (str y))) (first | exact ⟨e0, f0⟩ | exact s0) (first | (go_at_call 49; (with_reducible refine cc.mono ?_); rintro e w5 ⟨rfl, hb5⟩; subst hb5))
        all_goals
          have HB3 := Lib.hid (HBR.out)
          go_wp2_with fail
          go_roundw
          case rel => exact ⟨m + 1, j + 1, by go_num, by have := HM.out; omega, by omega, HN.out, HB3.out⟩
          case measure => simp [intOf]; omega
    · have b1 : decide ((m : Int) < (l.length : Int)) = false := decide_eq_false (by omega)
      have b1n : decide (m < l.length) = false := decide_eq_false hlt
      have HN := Lib.hid (show Gr.asc Op.bytesLess l = true from (Gr.asc_iff _ l).2 fun i hi => HAL.out i hi (by omega))
      have HB := Lib.hid hb
      clear hb HAL
      go_wp2_with fail
      go_ret
      exact ⟨by rw [HN.out]; rfl, HB.out⟩
set_option maxHeartbeats 8000000 in
set_option maxRecDepth 100000 in
theorem ascendEd_any (l : List Ed) (A0 : Option Addr) (c0 : Nat) (w : World) (hA : Gr.ElAt Gr.edV 3 w w.heap.size A0 l) (hl : l.length ≤ 100000) :
    Calls Try.prog 51 #[.slice A0 l.length c0, .func (.func 52) #[] #[]] w fun e w' => e = .returned (.bool (Gr.asc Gr.lt l)) ∧ Below w.heap.size w w' := by
  have HAA := Lib.hid hA
  clear hA
  go_enter Try.func51, Try.ntmps51
  go_wp2_with fail
  go_loopw [5] (fun s5 wr => ∃ m j : Nat, s5 = .int .i64 m ∧ m = j + 1 ∧ j ≤ l.length ∧ (∀ i (h : i + 1 < l.length), i < j → Gr.lt l[i] l[i + 1] = true) ∧ Below w.heap.size w wr) (fun s5 _ => l.length + 1 - (intOf s5).toNat)
  case atStart => exact ⟨1, 0, rfl, rfl, by omega, fun i h hi => by omega, Below.refl _ _⟩
  case round =>
    obtain ⟨m, j, rfl, hm, hj, hall, hb⟩ := hrel
    have HAL := Lib.hid hall
    clear hall
    by_cases hlt : m < l.length
    · have b1 : decide ((m : Int) < (l.length : Int)) = true := decide_eq_true (by omega)
      have b1n : decide (m < l.length) = true := decide_eq_true hlt
      have wj : IntKind.i64.wrap ((m : Int) - 1) = (j : Int) := (IntWalk.i64_in _ (by omega)).trans (by omega)
      have y1 : (j : Int) < (l.length : Int) := by omega
      have y2 : (m : Int) < (l.length : Int) := by omega
      obtain ⟨g0, o, rfl, hg, hc⟩ := HAA.out.row (by omega)
      have e0 : wr.cell? ⟨g0, o + j * 3, none⟩ = some (.int .i64 l[j].src) := (hb.cell (p := ⟨g0, o + j * 3, none⟩) hg).trans (by have := hc (j) (by omega) 0 _ rfl; exact this)
      have e1 : wr.cell? ⟨g0, o + j * 3 + 1, none⟩ = some (.int .i64 l[j].dst) := (hb.cell (p := ⟨g0, o + j * 3 + 1, none⟩) hg).trans (by have := hc (j) (by omega) 1 _ rfl; exact this)
      have e2 : wr.cell? ⟨g0, o + j * 3 + 2, none⟩ = some (.int .i64 l[j].stp) := (hb.cell (p := ⟨g0, o + j * 3 + 2, none⟩) hg).trans (by have := hc (j) (by omega) 2 _ rfl; exact this)
      have f0 : wr.cell? ⟨g0, o + m * 3, none⟩ = some (.int .i64 l[m].src) := (hb.cell (p := ⟨g0, o + m * 3, none⟩) hg).trans (by have := hc (m) (by omega) 0 _ rfl; exact this)
      have f1 : wr.cell? ⟨g0, o + m * 3 + 1, none⟩ = some (.int .i64 l[m].dst) := (hb.cell (p := ⟨g0, o + m * 3 + 1, none⟩) hg).trans (by have := hc (m) (by omega) 1 _ rfl; exact this)
      have f2 : wr.cell? ⟨g0, o + m * 3 + 2, none⟩ = some (.int .i64 l[m].stp) := (hb.cell (p := ⟨g0, o + m * 3 + 2, none⟩) hg).trans (by have := hc (m) (by omega) 2 _ rfl; exact this)
      clear hc
      have hjl : j < l.length := by omega
      have HTK := Lib.hid (show Gr.lt l[j] l[m] = true → ∀ i (h : i + 1 < l.length), i < j + 1 → Gr.lt l[i] l[i + 1] = true from fun h i hi hij => by
        by_cases e : i = j
        · subst e; subst hm; exact h
        · exact HAL.out i hi (by omega))
      have HNO := Lib.hid (show Gr.lt l[j] l[m] = false → Gr.asc Gr.lt l = false from fun h => by subst hm; exact Gr.asc_no _ l j hlt h)
      generalize l[j] = x at *
      generalize l[m] = y at *
      have HM := Lib.hid hm
      clear hm
      have cc := under_any x y wr.drew
      rw [edA_def, edA_def] at cc
      generalize hv : Gr.lt x y = v at *
      have HBR := Lib.hid (show Below w.heap.size w wr.drew from hb.drew)
      have hsz := hb.size
      cases v with
      | false =>
        have HN := Lib.hid (HNO.out rfl)
        clear HTK HNO hv HAL
        go_upto_region 4 with (fail)
        go_region_held3 (fun w' => w'.cell? ⟨g0, o + j * 3, none⟩ = some (.int .i64 x.src) ∧ w'.cell? ⟨g0, o + j * 3 + 1, none⟩ = some (.int .i64 x.dst) ∧ w'.cell? ⟨g0, o + j * 3 + 2, none⟩ = some (.int .i64 x.stp) ∧ w'.cell? ⟨g0, o + m * 3, none⟩ = some (.int .i64 y.src) ∧ w'.cell? ⟨g0, o + m * 3 + 1, none⟩ = some (.int .i64 y.dst) ∧ w'.cell? ⟨g0, o + m * 3 + 2, none⟩ = some (.int .i64 y.stp)) (first | exact ⟨e0, e1, e2, f0, f1, f2⟩ | exact s0) (first | (go_at_call 52; (with_reducible refine cc.mono ?_); rintro e w5 ⟨rfl, hb5⟩; have s0 := And.intro ((hb5.cell (p := ⟨g0, o + j * 3, none⟩) (by show g0 < wr.heap.size; omega)).trans e0) (And.intro ((hb5.cell (p := ⟨g0, o + j * 3 + 1, none⟩) (by show g0 < wr.heap.size; omega)).trans e1) (And.intro ((hb5.cell (p := ⟨g0, o + j * 3 + 2, none⟩) (by show g0 < wr.heap.size; omega)).trans e2) (And.intro ((hb5.cell (p := ⟨g0, o + m * 3, none⟩) (by show g0 < wr.heap.size; omega)).trans f0) (And.intro ((hb5.cell (p := ⟨g0, o + m * 3 + 1, none⟩) (by show g0 < wr.heap.size; omega)).trans f1) ((hb5.cell (p := ⟨g0, o + m * 3 + 2, none⟩) (by show g0 < wr.heap.size; omega)).trans f2)))))))
        all_goals
          have HB3 := Lib.hid (HBR.out.trans (hb5.mono (by exact hsz)))
          go_wp2_with fail
          first | go_ret2 | go_ret
          exact ⟨by rw [HN.out]; rfl, HB3.out⟩
      | true =>
        have HN := Lib.hid (HTK.out rfl)
        clear HTK HNO hv HAL
        go_upto_region 4 with (fail)
        go_region_held3 (fun w' => w'.cell? ⟨g0, o + j * 3, none⟩ = some (.int .i64 x.src) ∧ w'.cell? ⟨g0, o + j * 3 + 1, none⟩ = some (.int .i64 x.dst) ∧ w'.cell? ⟨g0, o + j * 3 + 2, none⟩ = some (.int .i64 x.stp) ∧ w'.cell? ⟨g0, o + m * 3, none⟩ = some (.int .i64 y.src) ∧ w'.cell? ⟨g0, o + m * 3 + 1, none⟩ = some (.int .i64 y.dst) ∧ w'.cell? ⟨g0, o + m * 3 + 2, none⟩ = some (.int .i64 y.stp)) (first | exact ⟨e0, e1, e2, f0, f1, f2⟩ | exact s0) (first | (go_at_call 52; (with_reducible refine cc.mono ?_); rintro e w5 ⟨rfl, hb5⟩; have s0 := And.intro ((hb5.cell (p := ⟨g0, o + j * 3, none⟩) (by show g0 < wr.heap.size; omega)).trans e0) (And.intro ((hb5.cell (p := ⟨g0, o + j * 3 + 1, none⟩) (by show g0 < wr.heap.size; omega)).trans e1) (And.intro ((hb5.cell (p := ⟨g0, o + j * 3 + 2, none⟩) (by show g0 < wr.heap.size; omega)).trans e2) (And.intro ((hb5.cell (p := ⟨g0, o + m * 3, none⟩) (by show g0 < wr.heap.size; omega)).trans f0) (And.intro ((hb5.cell (p := ⟨g0, o + m * 3 + 1, none⟩) (by show g0 < wr.heap.size; omega)).trans f1) ((hb5.cell (p := ⟨g0, o + m * 3 + 2, none⟩) (by show g0 < wr.heap.size; omega)).trans f2)))))))
        all_goals
          have HB3 := Lib.hid (HBR.out.trans (hb5.mono (by exact hsz)))
          go_wp2_with fail
          go_roundw
          case rel => exact ⟨m + 1, j + 1, by go_num, by have := HM.out; omega, by omega, HN.out, HB3.out⟩
          case measure => simp [intOf]; omega
    · have b1 : decide ((m : Int) < (l.length : Int)) = false := decide_eq_false (by omega)
      have b1n : decide (m < l.length) = false := decide_eq_false hlt
      have HN := Lib.hid (show Gr.asc Gr.lt l = true from (Gr.asc_iff _ l).2 fun i hi => HAL.out i hi (by omega))
      have HB := Lib.hid hb
      clear hb HAL
      go_wp2_with fail
      go_ret
      exact ⟨by rw [HN.out]; rfl, HB.out⟩
end Go.Proofs.Ytdiaejdoglccoaa
