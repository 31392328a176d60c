/- ascend at Check's closures. No condition but the lengths.
Check. No condition but the lengths.
ways: for each node the nodes behind it, in either direction. No condition but the lengths; the ends of edges are nodes.
A queue of numbers of the call's own: a slice that loses its first element and is appended to. No condition.
The closure of lengths. No condition but the lengths.
Plain: labels of nodes by a queue.
lengths. No condition but the lengths; the starts and the nodes behind nodes are nodes.
choose at behind's closure, behind, Reach, Back. No condition but the lengths.
behind, Reach, Back. No condition but the lengths.
Chain's closure: does an edge lead on? No condition but the lengths.
IndexFunc at Chain's closure. No condition but the lengths. -/
import Derived.Test.YtjemffgidhgfjaaGreatDoorMz2
import Derived.Lib.OwnKind
import Derived.Deep.AppendLies
import Derived.ArgAppend
import Derived.Deep.LoopGhost
import Derived.Deep.DeepAppendWide
import Derived.Deep.RegionHeld3
section
namespace Go.Proofs.YtjemffgidhgfjaaGreatDoor
open Go.RowKit Go.Deep Tr

set_option maxHeartbeats 8000000 in
set_option maxRecDepth 100000 in
theorem ascendStr_any (l : List (List UInt8)) (A0 : Option Addr) (c0 : Nat) (w : World) (hA : Gr.ElAt Gr.stV 1 w w.heap.size A0 l) (hl : l.length ≤ 100000) :
    Calls Tryz.prog 39 #[.slice A0 l.length c0, .func (.func 40) #[] #[]] w fun e w' => e = .returned (.bool (Gr.asc Op.bytesLess l)) ∧ Below w.heap.size w w' := by
  have HAA := Lib.hid hA
  clear hA
  go_enter Tryz.func39, Tryz.ntmps39
  go_wp2_with fail
  go_loopw [5] (fun s5 wr => ∃ m j : Nat, s5 = .int .i64 m ∧ m = j + 1 ∧ j ≤ l.length ∧ (∀ i (h : i + 1 < l.length), i < j → Op.bytesLess l[i] l[i + 1] = true) ∧ Below w.heap.size w wr) (fun s5 _ => l.length + 1 - (intOf s5).toNat)
  case atStart => exact ⟨1, 0, rfl, rfl, by omega, fun i h hi => by omega, Below.refl _ _⟩
  case round =>
    obtain ⟨m, j, rfl, hm, hj, hall, hb⟩ := hrel
    have HAL := Lib.hid hall
    clear hall
    by_cases hlt : m < l.length
    · have b1 : decide ((m : Int) < (l.length : Int)) = true := decide_eq_true (by omega)
      have b1n : decide (m < l.length) = true := decide_eq_true hlt
      have wj : IntKind.i64.wrap ((m : Int) - 1) = (j : Int) := (IntWalk.i64_in _ (by omega)).trans (by omega)
      have y1 : (j : Int) < (l.length : Int) := by omega
      have y2 : (m : Int) < (l.length : Int) := by omega
      obtain ⟨g0, o, rfl, hg, hc⟩ := HAA.out.row (by omega)
      have e0 : wr.cell? ⟨g0, o + j, none⟩ = some (.string (str l[j])) := (hb.cell (p := ⟨g0, o + j, none⟩) hg).trans (by have := hc (j) (by omega) 0 _ rfl; rw [Nat.mul_one] at this; exact this)
      have f0 : wr.cell? ⟨g0, o + m, none⟩ = some (.string (str l[m])) := (hb.cell (p := ⟨g0, o + m, none⟩) hg).trans (by have := hc (m) (by omega) 0 _ rfl; rw [Nat.mul_one] at this; exact this)
      clear hc
      have hjl : j < l.length := by omega
      have HTK := Lib.hid (show Op.bytesLess l[j] l[m] = true → ∀ i (h : i + 1 < l.length), i < j + 1 → Op.bytesLess l[i] l[i + 1] = true from fun h i hi hij => by
        by_cases e : i = j
        · subst e; subst hm; exact h
        · exact HAL.out i hi (by omega))
      have HNO := Lib.hid (show Op.bytesLess l[j] l[m] = false → Gr.asc Op.bytesLess l = false from fun h => by subst hm; exact Gr.asc_no _ l j hlt h)
      generalize l[j] = x at *
      generalize l[m] = y at *
      have HM := Lib.hid hm
      clear hm
      have cc := before_any x y wr.drew
      generalize hv : Op.bytesLess x y = v at *
      have HBR := Lib.hid (show Below w.heap.size w wr.drew from hb.drew)
      have hsz := hb.size
      cases v with
      | false =>
        have HN := Lib.hid (HNO.out rfl)
        clear HTK HNO hv HAL
        go_upto_region 4 with (fail)
        go_region_held3 (fun w' => w'.cell? ⟨g0, o + j, none⟩ = some (.string (str x)) ∧ w'.cell? ⟨g0, o + m, none⟩ = some (.string (str y))) (first | exact ⟨e0, f0⟩ | exact s0) (first | (go_at_call 40; (with_reducible refine cc.mono ?_); rintro e w5 ⟨rfl, hb5⟩; subst hb5))
        all_goals
          have HB3 := Lib.hid (HBR.out)
          go_wp2_with fail
          first | go_ret2 | go_ret
          exact ⟨by rw [HN.out]; rfl, HB3.out⟩
      | true =>
        have HN := Lib.hid (HTK.out rfl)
        clear HTK HNO hv HAL
        go_upto_region 4 with (fail)
        go_region_held3 (fun w' => w'.cell? ⟨g0, o + j, none⟩ = some (.string (str x)) ∧ w'.cell? ⟨g0, o + m, none⟩ = some (.string (str y))) (first | exact ⟨e0, f0⟩ | exact s0) (first | (go_at_call 40; (with_reducible refine cc.mono ?_); rintro e w5 ⟨rfl, hb5⟩; subst hb5))
        all_goals
          have HB3 := Lib.hid (HBR.out)
          go_wp2_with fail
          go_roundw
          case rel => exact ⟨m + 1, j + 1, by go_num, by have := HM.out; omega, by omega, HN.out, HB3.out⟩
          case measure => simp [intOf]; omega
    · have b1 : decide ((m : Int) < (l.length : Int)) = false := decide_eq_false (by omega)
      have b1n : decide (m < l.length) = false := decide_eq_false hlt
      have HN := Lib.hid (show Gr.asc Op.bytesLess l = true from (Gr.asc_iff _ l).2 fun i hi => HAL.out i hi (by omega))
      have HB := Lib.hid hb
      clear hb HAL
      go_wp2_with fail
      go_ret
      exact ⟨by rw [HN.out]; rfl, HB.out⟩
set_option maxHeartbeats 8000000 in
set_option maxRecDepth 100000 in
theorem ascendEd_any (l : List Ed) (A0 : Option Addr) (c0 : Nat) (w : World) (hA : Gr.ElAt Gr.edV 3 w w.heap.size A0 l) (hl : l.length ≤ 100000) :
    Calls Tryz.prog 44 #[.slice A0 l.length c0, .func (.func 45) #[] #[]] w fun e w' => e = .returned (.bool (Gr.asc Gr.lt l)) ∧ Below w.heap.size w w' := by
  have HAA := Lib.hid hA
  clear hA
  go_enter Tryz.func44, Tryz.ntmps44
  go_wp2_with fail
  go_loopw [5] (fun s5 wr => ∃ m j : Nat, s5 = .int .i64 m ∧ m = j + 1 ∧ j ≤ l.length ∧ (∀ i (h : i + 1 < l.length), i < j → Gr.lt l[i] l[i + 1] = true) ∧ Below w.heap.size w wr) (fun s5 _ => l.length + 1 - (intOf s5).toNat)
  case atStart => exact ⟨1, 0, rfl, rfl, by omega, fun i h hi => by omega, Below.refl _ _⟩
  case round =>
    obtain ⟨m, j, rfl, hm, hj, hall, hb⟩ := hrel
    have HAL := Lib.hid hall
    clear hall
    by_cases hlt : m < l.length
    · have b1 : decide ((m : Int) < (l.length : Int)) = true := decide_eq_true (by omega)
      have b1n : decide (m < l.length) = true := decide_eq_true hlt
      have wj : IntKind.i64.wrap ((m : Int) - 1) = (j : Int) := (IntWalk.i64_in _ (by omega)).trans (by omega)
      have y1 : (j : Int) < (l.length : Int) := by omega
      have y2 : (m : Int) < (l.length : Int) := by omega
      obtain ⟨g0, o, rfl, hg, hc⟩ := HAA.out.row (by omega)
      have e0 : wr.cell? ⟨g0, o + j * 3, none⟩ = some (.int .i64 l[j].src) := (hb.cell (p := ⟨g0, o + j * 3, none⟩) hg).trans (by have := hc (j) (by omega) 0 _ rfl; exact this)
      have e1 : wr.cell? ⟨g0, o + j * 3 + 1, none⟩ = some (.int .i64 l[j].dst) := (hb.cell (p := ⟨g0, o + j * 3 + 1, none⟩) hg).trans (by have := hc (j) (by omega) 1 _ rfl; exact this)
      have e2 : wr.cell? ⟨g0, o + j * 3 + 2, none⟩ = some (.int .i64 l[j].stp) := (hb.cell (p := ⟨g0, o + j * 3 + 2, none⟩) hg).trans (by have := hc (j) (by omega) 2 _ rfl; exact this)
      have f0 : wr.cell? ⟨g0, o + m * 3, none⟩ = some (.int .i64 l[m].src) := (hb.cell (p := ⟨g0, o + m * 3, none⟩) hg).trans (by have := hc (m) (by omega) 0 _ rfl; exact this)
      have f1 : wr.cell? ⟨g0, o + m * 3 + 1, none⟩ = some (.int .i64 l[m].dst) := (hb.cell (p := ⟨g0, o + m * 3 + 1, none⟩) hg).trans (by have := hc (m) (by omega) 1 _ rfl; exact this)
      have f2 : wr.cell? ⟨g0, o + m * 3 + 2, none⟩ = some (.int .i64 l[m].stp) := (hb.cell (p := ⟨g0, o + m * 3 + 2, none⟩) hg).trans (by have := hc (m) (by omega) 2 _ rfl; exact this)
      clear hc
      have hjl : j < l.length := by omega
      have HTK := Lib.hid (show Gr.lt l[j] l[m] = true → ∀ i (h : i + 1 < l.length), i < j + 1 → Gr.lt l[i] l[i + 1] = true from fun h i hi hij => by
        by_cases e : i = j
        · subst e; subst hm; exact h
        · exact HAL.out i hi (by omega))
      have HNO := Lib.hid (show Gr.lt l[j] l[m] = false → Gr.asc Gr.lt l = false from fun h => by subst hm; exact Gr.asc_no _ l j hlt h)
      generalize l[j] = x at *
      generalize l[m] = y at *
      have HM := Lib.hid hm
      clear hm
      have cc := under_any x y wr.drew
      rw [edA_def, edA_def] at cc
      generalize hv : Gr.lt x y = v at *
      have HBR := Lib.hid (show Below w.heap.size w wr.drew from hb.drew)
      have hsz := hb.size
      cases v with
      | false =>
        have HN := Lib.hid (HNO.out rfl)
        clear HTK HNO hv HAL
        go_upto_region 4 with (fail)
        go_region_held3 (fun w' => w'.cell? ⟨g0, o + j * 3, none⟩ = some (.int .i64 x.src) ∧ w'.cell? ⟨g0, o + j * 3 + 1, none⟩ = some (.int .i64 x.dst) ∧ w'.cell? ⟨g0, o + j * 3 + 2, none⟩ = some (.int .i64 x.stp) ∧ w'.cell? ⟨g0, o + m * 3, none⟩ = some (.int .i64 y.src) ∧ w'.cell? ⟨g0, o + m * 3 + 1, none⟩ = some (.int .i64 y.dst) ∧ w'.cell? ⟨g0, o + m * 3 + 2, none⟩ = some (.int .i64 y.stp)) (first | exact ⟨e0, e1, e2, f0, f1, f2⟩ | exact s0) (first | (go_at_call 45; (with_reducible refine cc.mono ?_); rintro e w5 ⟨rfl, hb5⟩; have s0 := And.intro ((hb5.cell (p := ⟨g0, o + j * 3, none⟩) (by show g0 < wr.heap.size; omega)).trans e0) (And.intro ((hb5.cell (p := ⟨g0, o + j * 3 + 1, none⟩) (by show g0 < wr.heap.size; omega)).trans e1) (And.intro ((hb5.cell (p := ⟨g0, o + j * 3 + 2, none⟩) (by show g0 < wr.heap.size; omega)).trans e2) (And.intro ((hb5.cell (p := ⟨g0, o + m * 3, none⟩) (by show g0 < wr.heap.size; omega)).trans f0) (And.intro ((hb5.cell (p := ⟨g0, o + m * 3 + 1, none⟩) (by show g0 < wr.heap.size; omega)).trans f1) ((hb5.cell (p := ⟨g0, o + m * 3 + 2, none⟩) (by show g0 < wr.heap.size; omega)).trans f2)))))))
        all_goals
          have HB3 := Lib.hid (HBR.out.trans (hb5.mono (by exact hsz)))
          go_wp2_with fail
          first | go_ret2 | go_ret
          exact ⟨by rw [HN.out]; rfl, HB3.out⟩
      | true =>
        have HN := Lib.hid (HTK.out rfl)
        clear HTK HNO hv HAL
        go_upto_region 4 with (fail)
        go_region_held3 (fun w' => w'.cell? ⟨g0, o + j * 3, none⟩ = some (.int .i64 x.src) ∧ w'.cell? ⟨g0, o + j * 3 + 1, none⟩ = some (.int .i64 x.dst) ∧ w'.cell? ⟨g0, o + j * 3 + 2, none⟩ = some (.int .i64 x.stp) ∧ w'.cell? ⟨g0, o + m * 3, none⟩ = some (.int .i64 y.src) ∧ w'.cell? ⟨g0, o + m * 3 + 1, none⟩ = some (.int .i64 y.dst) ∧ w'.cell? ⟨g0, o + m * 3 + 2, none⟩ = some (.int .i64 y.stp)) (first | exact ⟨e0, e1, e2, f0, f1, f2⟩ | exact s0) (first | (go_at_call 45; (with_reducible refine cc.mono ?_); rintro e w5 ⟨rfl, hb5⟩; have s0 := And.intro ((hb5.cell (p := ⟨g0, o + j * 3, none⟩) (by show g0 < wr.heap.size; omega)).trans e0) (And.intro ((hb5.cell (p := ⟨g0, o + j * 3 + 1, none⟩) (by show g0 < wr.heap.size; omega)).trans e1) (And.intro ((hb5.cell (p := ⟨g0, o + j * 3 + 2, none⟩) (by show g0 < wr.heap.size; omega)).trans e2) (And.intro ((hb5.cell (p := ⟨g0, o + m * 3, none⟩) (by show g0 < wr.heap.size; omega)).trans f0) (And.intro ((hb5.cell (p := ⟨g0, o + m * 3 + 1, none⟩) (by show g0 < wr.heap.size; omega)).trans f1) ((hb5.cell (p := ⟨g0, o + m * 3 + 2, none⟩) (by show g0 < wr.heap.size; omega)).trans f2)))))))
        all_goals
          have HB3 := Lib.hid (HBR.out.trans (hb5.mono (by exact hsz)))
          go_wp2_with fail
          go_roundw
          case rel => exact ⟨m + 1, j + 1, by go_num, by have := HM.out; omega, by omega, HN.out, HB3.out⟩
          case measure => simp [intOf]; omega
    · have b1 : decide ((m : Int) < (l.length : Int)) = false := decide_eq_false (by omega)
      have b1n : decide (m < l.length) = false := decide_eq_false hlt
      have HN := Lib.hid (show Gr.asc Gr.lt l = true from (Gr.asc_iff _ l).2 fun i hi => HAL.out i hi (by omega))
      have HB := Lib.hid hb
      clear hb HAL
      go_wp2_with fail
      go_ret
      exact ⟨by rw [HN.out]; rfl, HB.out⟩
end Go.Proofs.YtjemffgidhgfjaaGreatDoor
end
section
namespace Go.Proofs.YtjemffgidhgfjaaGreatDoor
open Go.RowKit Go.Deep Tr

namespace Gr
def chk (g : Gph) : Int := if big g then 10 else if g.ns.any (fun s => decide (128 < s.length)) then 2 else if !asc Op.bytesLess g.ns then 5 else if g.es.any (fun x => out g x) then 3 else if !asc lt g.es then 5 else 0
end Gr
/-- The two cells of a graph in a block. -/
theorem gb_cells {w : World} {gb : Nat} {A B : Option Addr} {c d : Nat} {g : Gph} (h : w.heap[gb]? = some (grO A B c d g)) : w.cell? ⟨gb, 0, none⟩ = some (.slice A g.ns.length c) ∧ w.cell? ⟨gb, 1, none⟩ = some (.slice B g.es.length d) :=
  ⟨by rw [cell_of_row _ _ _ _ _ _ h]; rfl, by rw [cell_of_row _ _ _ _ _ _ h]; rfl⟩
set_option maxHeartbeats 8000000 in
set_option maxRecDepth 100000 in
theorem check_any (g : Gph) (A B : Option Addr) (c d : Nat) (w : World) (hA : GrAt w A B g) :
    Calls Tryz.prog 10 #[grV A B c d g] w fun e w' => e = .returned (.int .i64 (Gr.chk g)) ∧ Below w.heap.size w w' := by
  have HV := Lib.hid (show Gr.chk g = if Gr.big g then 10 else if g.ns.any (fun s => decide (128 < s.length)) then 2 else if !Gr.asc Op.bytesLess g.ns then 5 else if g.es.any (fun x => Gr.out g x) then 3 else if !Gr.asc Gr.lt g.es then 5 else 0 from rfl)
  generalize Gr.chk g = V at *
  have hb0 : Below w.heap.size w (w.alloc (grO A B c d g)) := (Below.refl _ _).alloc (Nat.le_refl _) _
  have HA := Lib.hid hA
  have hG := heap_alloc_new w (grO A B c d g)
  obtain ⟨W, hW⟩ : ∃ W, W = w.alloc (grO A B c d g) := ⟨_, rfl⟩
  rw [← hW] at hb0 hG
  obtain ⟨q0, q1⟩ := gb_cells hG
  have cc := large_any g A B c d W
  have HBG := Lib.hid (show Gr.big g = (decide (1024 < g.ns.length) || decide (1024 < g.es.length)) from rfl)
  clear hA
  go_enter Tryz.func10, Tryz.ntmps10
  go_upto_region 1 with (fail)
  rw [← hW]
  clear hW
  generalize Gr.big g = bg at *
  go_wp2_with fail
  with_reducible refine cc.mono ?_
  clear cc
  rintro e w1 ⟨rfl, hb1⟩
  have hg1 := (hb1.block w.heap.size (blk_lt hG)).trans hG
  have hb01 := hb0.trans (hb1.mono hb0.size)
  clear hb1 hb0 hG q0 q1
  cases bg with
  | true =>
    have HT := Lib.hid (show V = 10 from HV.out)
    clear HV HBG
    go_wp2_with fail
    first | go_ret3 | go_ret2 | go_ret
    exact ⟨by rw [HT.out]; rfl, hb01⟩
  | false =>
  have HLL := Lib.hid (show g.ns.length ≤ 1024 ∧ g.es.length ≤ 1024 by
    have := HBG.out
    rw [eq_comm, Bool.or_eq_false_iff, decide_eq_false_iff_not, decide_eq_false_iff_not] at this
    omega)
  clear HBG
  have cc := containsLong_any g.ns A c w1 ((HA.out.next hb01).ns) (by have := HLL.out; omega)
  generalize g.ns.any (fun s => decide (128 < s.length)) = b2 at *
  obtain ⟨q0, q1⟩ := gb_cells hg1
  go_wp2_with fail
  with_reducible refine cc.mono ?_
  clear cc
  rintro e w2 ⟨rfl, hb2⟩
  have hg2 := (hb2.block w.heap.size (blk_lt hg1)).trans hg1
  have hb02 := hb01.trans (hb2.mono hb01.size)
  clear hb2 hb01 hg1 q0 q1
  cases b2 with
  | true =>
    have HT := Lib.hid (show V = 2 from HV.out)
    clear HV
    go_wp2_with fail
    first | go_ret3 | go_ret2 | go_ret
    exact ⟨by rw [HT.out]; rfl, hb02⟩
  | false =>
  have cc := ascendStr_any g.ns A c w2 ((HA.out.next hb02).ns) (by have := HLL.out; omega)
  generalize Gr.asc Op.bytesLess g.ns = b3 at *
  obtain ⟨q0, q1⟩ := gb_cells hg2
  go_wp2_with fail
  with_reducible refine cc.mono ?_
  clear cc
  rintro e w3 ⟨rfl, hb3⟩
  have hg3 := (hb3.block w.heap.size (blk_lt hg2)).trans hg2
  have hb03 := hb02.trans (hb3.mono hb02.size)
  clear hb3 hb02 hg2 q0 q1
  cases b3 with
  | false =>
    have HT := Lib.hid (show V = 5 from HV.out)
    clear HV
    go_wp2_with fail
    first | go_ret3 | go_ret2 | go_ret
    exact ⟨by rw [HT.out]; rfl, hb03⟩
  | true =>
  have cc := containsOut_any g.es g A B c d w.heap.size B d w3 ((HA.out.next hb03).es) (by have := HLL.out; omega) hg3
  generalize g.es.any (fun x => Gr.out g x) = b4 at *
  obtain ⟨q0, q1⟩ := gb_cells hg3
  go_wp2_with fail
  with_reducible refine cc.mono ?_
  clear cc
  rintro e w4 ⟨rfl, hb4⟩
  have hg4 := (hb4.block w.heap.size (blk_lt hg3)).trans hg3
  have hb04 := hb03.trans (hb4.mono hb03.size)
  clear hb4 hb03 hg3 q0 q1
  cases b4 with
  | true =>
    have HT := Lib.hid (show V = 3 from HV.out)
    clear HV
    go_wp2_with fail
    first | go_ret3 | go_ret2 | go_ret
    exact ⟨by rw [HT.out]; rfl, hb04⟩
  | false =>
  have cc := ascendEd_any g.es B d w4 ((HA.out.next hb04).es) (by have := HLL.out; omega)
  generalize Gr.asc Gr.lt g.es = b5 at *
  obtain ⟨q0, q1⟩ := gb_cells hg4
  go_wp2_with fail
  with_reducible refine cc.mono ?_
  clear cc
  rintro e w5 ⟨rfl, hb5⟩
  have hb05 := hb04.trans (hb5.mono hb04.size)
  clear hb5 hb04 hg4 q0 q1
  cases b5 with
  | false =>
    have HT := Lib.hid (show V = 5 from HV.out)
    clear HV
    go_wp2_with fail
    first | go_ret3 | go_ret2 | go_ret
    exact ⟨by rw [HT.out]; rfl, hb05⟩
  | true =>
    have HT := Lib.hid (show V = 0 from HV.out)
    clear HV
    go_wp2_with fail
    first | go_ret3 | go_ret2 | go_ret
    exact ⟨by rw [HT.out]; rfl, hb05⟩
end Go.Proofs.YtjemffgidhgfjaaGreatDoor
end
section
namespace Go.Proofs.YtjemffgidhgfjaaGreatDoor
open Go.RowKit Go.Deep Tr

namespace Gr
def eA (fw : Bool) (x : Ed) : Int := if fw then x.src else x.dst
def eB (fw : Bool) (x : Ed) : Int := if fw then x.dst else x.src
/-- The nodes behind a node, in the order of the edges. -/
def row (fw : Bool) (E : List Ed) (i : Nat) : List Int := (E.filter fun x => eA fw x == (i : Int)).map (eB fw)
theorem row_app (fw : Bool) (E : List Ed) (x : Ed) (i : Nat) (h : eA fw x = (i : Int)) (r : Nat) : row fw (E ++ [x]) r = if r = i then row fw E i ++ [eB fw x] else row fw E r := by
  unfold row
  rw [List.filter_append, List.map_append]
  by_cases e : r = i
  · subst e
    rw [if_pos rfl]
    congr 1
    rw [List.filter_cons_of_pos (by simp [h])]
    simp
  · rw [if_neg e, List.filter_cons_of_neg (by simp [h]; omega)]
    simp
theorem row_len (fw : Bool) (E : List Ed) (i : Nat) : (row fw E i).length ≤ E.length := by
  unfold row
  rw [List.length_map]
  exact List.length_filter_le _ _
end Gr
theorem own_same {w w' : World} {B e size n : Nat} {v : Value} {xs : List Value} (h : w.ownsRow B e size v n xs) (hb : ∀ g, v.ownBlock = some g → w'.heap[g]? = w.heap[g]?) : w'.ownsRow B e size v n xs := by
  rcases h with ⟨h1, ⟨rfl, h2⟩ | ⟨g, cap, cur, rfl, h2, h3, h4⟩⟩
  · exact ⟨h1, .inl ⟨rfl, h2⟩⟩
  · exact ⟨h1, .inr ⟨g, cap, cur, rfl, h2, (hb g rfl).trans h3, h4⟩⟩
theorem kind_ne {w : World} {q g : Nat} {c c' : Array Value} {T T' : TypeId} {f f' : Nat × Nat} (h : w.heap[q]? = some (.cells c T f)) (h' : w.heap[g]? = some (.cells c' T' f')) (hT : T ≠ T') : q ≠ g := fun e => by
  subst e
  rw [h] at h'
  simp only [Option.some.injEq, Obj.cells.injEq] at h'
  exact hT h'.2.1
theorem below_grown {B e size n : Nat} {w W w6 : World} {v : Value} {xs : List Value} (hb : Below B w W) (hB : B ≤ W.heap.size) (ho : W.ownsRow B e size v n xs) (hg : W.grownBy w6 v.ownBlock) : Below B w w6 :=
  hb.trans ⟨hg.os, hg.tape, hg.output, hg.size, fun k hk => hg.block k (by omega) (fun e => by have := (ho.lt k e.symm).1; omega)⟩
/-- A list of lists of numbers of the call's own: R r at place r. -/
structure Ws (w : World) (B g0 n : Nat) (R : Nat → List Int) : Prop where
  ex : ∃ V : Nat → Value, w.rowIs g0 38 n V ∧ (∀ r, r < n → w.ownsRow B 3 1 (V r) (R r).length (Gr.insV (R r))) ∧ ∀ r s, r < n → s < n → r ≠ s → ∀ g, (V r).ownBlock = some g → (V s).ownBlock = some g → False
  lo : B ≤ g0
theorem Ws.lt {w : World} {B g0 n : Nat} {R : Nat → List Int} (h : Ws w B g0 n R) : g0 < w.heap.size := by
  obtain ⟨⟨V, h1, _⟩, _⟩ := h
  exact h1.lt
theorem Ws.same {w w' : World} {B g0 n : Nat} {R : Nat → List Int} (h : Ws w B g0 n R) (hb : ∀ q, q < w.heap.size → w'.heap[q]? = w.heap[q]?) : Ws w' B g0 n R := by
  obtain ⟨⟨V, h1, h2, h3⟩, h4⟩ := h
  exact ⟨⟨V, h1.of_block (hb _ h1.lt), fun r hr => own_same (h2 r hr) fun g hg => by
    obtain ⟨c, fz, h5⟩ := Lib.ownsRow_kind (h2 r hr) g hg
    exact hb g (blk_lt h5), h3⟩, h4⟩
theorem Ws.next {w w' : World} {B g0 n : Nat} {R : Nat → List Int} (h : Ws w B g0 n R) (hb : Below w.heap.size w w') : Ws w' B g0 n R := h.same fun q hq => hb.block q hq
theorem Ws.congr {w : World} {B g0 n : Nat} {R R' : Nat → List Int} (h : Ws w B g0 n R) (e : ∀ r, r < n → R r = R' r) : Ws w B g0 n R' := by
  obtain ⟨⟨V, h1, h2, h3⟩, h4⟩ := h
  exact ⟨⟨V, h1, fun r hr => by rw [← e r hr]; exact h2 r hr, h3⟩, h4⟩
theorem Ws.made (w : World) (B n : Nat) (hB : B ≤ w.heap.size) : Ws (w.alloc (.cells (madeCells #[.slice none 0 0] n) 38)) B w.heap.size n fun _ => [] :=
  ⟨⟨fun _ => .slice none 0 0, World.rowIs_made w (.slice none 0 0) n 38, fun r hr => ⟨rfl, .inl ⟨rfl, rfl⟩⟩, fun r s _ _ _ g hg => by simp [Value.ownBlock] at hg⟩, hB⟩
/-- A row, and what appending to it leaves. -/
theorem Ws.take {w : World} {B g0 n i : Nat} {R : Nat → List Int} (h : Ws w B g0 n R) (hi : i < n) : ∃ v, w.cell? ⟨g0, i, none⟩ = some v ∧ w.ownsRow B 3 1 v (R i).length (Gr.insV (R i)) ∧
    ∀ (gg cap : Nat) (w6 : World) (t : Int), w6.ownsRow B 3 1 (.slice (some ⟨gg, 0, none⟩) ((R i).length + 1) cap) ((R i).length + 1) (Gr.insV (R i) ++ [.int .i64 t]) → w.grownBy w6 v.ownBlock → (v.ownBlock = some gg ∨ gg = w.heap.size) →
      w6.cell? ⟨g0, i, none⟩ = some v ∧ w6.frozen? ⟨g0, i, none⟩ = false ∧ Ws (w6.setCell ⟨g0, i, none⟩ (.slice (some ⟨gg, 0, none⟩) ((R i).length + 1) cap)) B g0 n fun r => if r = i then R i ++ [t] else R r := by
  obtain ⟨⟨V, h1, h2, h3⟩, h4⟩ := h
  refine ⟨V i, h1.cell hi, h2 i hi, fun gg cap w6 t hown hg hat => ?_⟩
  have hk0 : w6.heap[g0]? = w.heap[g0]? := hg.block g0 h1.lt fun hx => by
    obtain ⟨c, fz, h5⟩ := Lib.ownsRow_kind (h2 i hi) g0 hx.symm
    obtain ⟨c', h6, _⟩ := h1
    exact kind_ne h6 h5 (by decide) rfl
  have h16 := h1.of_block hk0
  obtain ⟨cg, fg, h7⟩ := Lib.ownsRow_kind hown gg rfl
  have hne : gg ≠ g0 := by
    obtain ⟨c', h6, _⟩ := h16
    exact kind_ne h7 h6 (by decide)
  refine ⟨h16.cell hi, h16.frozen i, ⟨⟨_, h16.set i _, fun r hr => ?_, fun r s hr hs hrs g e1 e2 => ?_⟩, h4⟩⟩
  · by_cases e : r = i
    · subst e
      simp only [if_true]
      rw [List.length_append, List.length_singleton, Gr.insV_app, Gr.insV_one]
      exact own_same hown fun g hg2 => by
        simp only [Value.ownBlock, Option.some.injEq] at hg2
        subst hg2
        exact heap_setCell_other _ ⟨g0, r, none⟩ _ _ hne
    · simp only [e, if_false]
      exact own_same (h2 r hr) fun g hg2 => by
        obtain ⟨c, fz, h5⟩ := Lib.ownsRow_kind (h2 r hr) g hg2
        have hgg : g ≠ g0 := by
          obtain ⟨c', h6, _⟩ := h1
          exact kind_ne h5 h6 (by decide)
        rw [heap_setCell_other _ ⟨g0, i, none⟩ _ _ hgg]
        exact hg.block g (blk_lt h5) fun hx => h3 r i hr hi e g hg2 hx.symm
  · have key : ∀ s, s < n → s ≠ i → (V s).ownBlock = some gg → False := fun s hs hsi hx => by
      rcases hat with ha | ha
      · exact h3 s i hs hi hsi gg hx ha
      · obtain ⟨c, fz, h5⟩ := Lib.ownsRow_kind (h2 s hs) gg hx
        have := blk_lt h5
        omega
    by_cases er : r = i
    · have es : s ≠ i := fun h => hrs (er.trans h.symm)
      simp only [er, es, if_true, if_false, Value.ownBlock, Option.some.injEq] at e1 e2
      subst e1
      exact key s hs es e2
    · by_cases es : s = i
      · simp only [er, es, if_true, if_false, Value.ownBlock, Option.some.injEq] at e1 e2
        subst e2
        exact key r hr er e1
      · simp only [er, es, if_false] at e1 e2
        exact h3 r s hr hs hrs g e1 e2
set_option maxHeartbeats 8000000 in
set_option maxRecDepth 100000 in
theorem ways_forward (g : Gph) (A B : Option Addr) (c d : Nat) (w : World) (hA : GrAt w A B g) (hn : g.ns.length ≤ 1024) (he : g.es.length ≤ 1024) (hE : ∀ x ∈ g.es, 0 ≤ Gr.eA true x ∧ Gr.eA true x < (g.ns.length : Int)) :
    Calls Tryz.prog 50 #[grV A B c d g, .func (.func 51) #[] #[]] w fun e w' => ∃ g0, e = .returned (.slice (some ⟨g0, 0, none⟩) g.ns.length g.ns.length) ∧ Ws w' w.heap.size g0 g.ns.length (Gr.row true g.es) ∧ Below w.heap.size w w' := by
  obtain ⟨i0, hi0, hz0, hz1, hz2⟩ := info_parts infoIn
  obtain ⟨j0, hj0, hj1, hj2, hj3⟩ := info_parts infoIns
  have hmk : ∀ w' : World, (Instr.makeSlice 86 (.int .i64 (g.ns.length : Int)) (.int .i64 (g.ns.length : Int))).run Tryz.prog w' = .ok (.slice (some ⟨w'.heap.size, 0, none⟩) g.ns.length g.ns.length) (w'.alloc (.cells (madeCells #[.slice none 0 0] g.ns.length) 38)) := fun w' =>
    run_make_row (P := Tryz.prog) 86 38 j0 (.slice none 0 0) Tryz.underlying86 hj0 hj1 hj2 rfl .i64 .i64 g.ns.length (by rw [hj3]; omega) (by omega) w'
  have HA := Lib.hid hA
  have hb0 : Below w.heap.size w (w.alloc (grO A B c d g)) := (Below.refl _ _).alloc (Nat.le_refl _) _
  have hG := heap_alloc_new w (grO A B c d g)
  obtain ⟨W, hW⟩ : ∃ W, W = w.alloc (grO A B c d g) := ⟨_, rfl⟩
  rw [← hW] at hb0 hG
  obtain ⟨q0, q1⟩ := gb_cells hG
  have hM := Ws.made W w.heap.size g.ns.length hb0.size
  have hb1 := hb0.alloc hb0.size (.cells (madeCells #[.slice none 0 0] g.ns.length) 38)
  have hG1 := (blk_alloc_lt W (.cells (madeCells #[.slice none 0 0] g.ns.length) 38) _ (blk_lt hG)).trans hG
  have HE := Lib.hid hE
  clear hA hE
  go_enter Tryz.func50, Tryz.ntmps50
  go_upto_region 1 with (fail)
  rw [← hW]
  clear hW
  go_upto_region 2 with (fail)
  generalize W.alloc (.cells (madeCells #[.slice none 0 0] g.ns.length) 38) = W1 at *
  generalize W.heap.size = g0 at *
  clear q0 q1 hG hb0
  obtain ⟨q0, q1⟩ := gb_cells hG1
  clear hG1 hmk
  go_wp2_with fail
  clear q0 q1
  go_loopw [17] (fun s17 wr => ∃ k : Nat, s17 = .int .i64 k ∧ k ≤ g.es.length ∧ Ws wr w.heap.size g0 g.ns.length (Gr.row true (g.es.take k)) ∧ Below w.heap.size w wr) (fun s17 _ => g.es.length - (intOf s17).toNat)
  case atStart => exact ⟨0, rfl, by omega, hM, hb1⟩
  case round =>
    clear hM hb1
    obtain ⟨k, rfl, hk, hWs, hb⟩ := hrel
    by_cases hlt : k < g.es.length
    · have b1 : decide ((k : Int) < (g.es.length : Int)) = true := decide_eq_true (by omega)
      have b1n : decide (k < g.es.length) = true := decide_eq_true hlt
      have y2 : (k : Int) < (g.es.length : Int) := by omega
      obtain ⟨gb, o, rfl, hg, hc⟩ := HA.out.es k hlt
      have hd0 := (hb.cell (p := ⟨gb, o + k * 3, none⟩) hg).trans (hc 0 _ rfl)
      have hd1 := (hb.cell (p := ⟨gb, o + k * 3 + 1, none⟩) hg).trans (hc 1 _ rfl)
      have hd2 := (hb.cell (p := ⟨gb, o + k * 3 + 2, none⟩) hg).trans (hc 2 _ rfl)
      clear hc
      have hEk := HE.out g.es[k] (List.getElem_mem hlt)
      have HRW := Lib.hid (fun (i : Nat) (h : Gr.eA true g.es[k] = (i : Int)) (r : Nat) => (Gr.row_app true (g.es.take k) g.es[k] i h r))
      rw [← List.take_succ_eq_append_getElem hlt] at HRW
      generalize g.es[k] = x at *
      have hrl := fun i => Gr.row_len true (g.es.take k) i
      have htl : (g.es.take k).length = k := by rw [List.length_take]; omega
      have cc := forward_any x (wr.alloc (edO x))
      rw [edA_def] at cc
      have hba := hb.alloc hb.size (edO x)
      have hWa := hWs.same fun q hq => blk_alloc_lt wr (edO x) q hq
      clear hb hWs
      go_upto_region 5 with (fail)
      generalize hwa : wr.alloc (edO x) = wa at *
      have hxn := heap_alloc_new wr (edO x)
      rw [hwa] at hxn
      have e0 : wa.cell? ⟨wr.heap.size, 0, none⟩ = some (.int .i64 x.src) := by rw [cell_of_row _ _ _ _ _ _ hxn]; rfl
      have e1 : wa.cell? ⟨wr.heap.size, 1, none⟩ = some (.int .i64 x.dst) := by rw [cell_of_row _ _ _ _ _ _ hxn]; rfl
      have e2 : wa.cell? ⟨wr.heap.size, 2, none⟩ = some (.int .i64 x.stp) := by rw [cell_of_row _ _ _ _ _ _ hxn]; rfl
      clear hxn hd0 hd1 hd2
      go_wp2_with fail
      with_reducible refine cc.mono ?_
      clear cc
      rintro e w4 ⟨rfl, hb4⟩
      have hb04 := hba.trans (hb4.mono hba.size)
      have hW4 := hWa.next hb4
      clear hba hWa hb4 e0 e1 e2 hwa
      obtain ⟨i, hi⟩ : ∃ i : Nat, x.src = (i : Int) := ⟨x.src.toNat, by have h1 : 0 ≤ x.src := hEk.1; omega⟩
      have HR := Lib.hid (HRW.out i hi)
      have hin : i < g.ns.length := by have h1 : x.src < (g.ns.length : Int) := hEk.2; omega
      have y3 : (i : Int) < (g.ns.length : Int) := by omega
      rw [hi]
      clear hEk HRW hi
      have hrli := hrl i
      rw [htl] at hrli
      have hbA : Below w4.heap.size w4 (w4.alloc (.cells #[.int .i64 x.dst] 3)) := (Below.refl _ _).alloc (Nat.le_refl _) _
      have hW5 := hW4.next hbA
      have hg0 := hW4.lt
      obtain ⟨v, hcv, hov, hstep⟩ := hW5.take hin
      have hcv4 := (hbA.cell (p := ⟨g0, i, none⟩) hg0).symm.trans hcv
      have hb05 := hb04.alloc hb04.size (.cells #[.int .i64 x.dst] 3)
      have hlo := hW5.lo
      generalize hR : Gr.row true (g.es.take k) = R at *
      have HBB := Lib.hid (fun (w6 : World) (hg : (w4.alloc (.cells #[.int .i64 x.dst] 3)).grownBy w6 v.ownBlock) (u : Value) => ((below_grown hb05 hb05.size hov hg).setCell (p := ⟨g0, i, none⟩) hlo u))
      have HST := Lib.hid hstep
      have hsz5 := hb05.size
      clear hstep hbA hW4 hW5 hcv hb04 hb05 hrl htl hR hlo
      generalize hrn : (R i).length = rn at *
      go_wp2_with (at_builtin; refine wpList_append_lies _ (by rfl) _ _ 38 (by rfl) w.heap.size 3 i0 _ 1 8 Tryz.underlying38 hi0 hz0 hz1 hz2 rfl (by omega) v rn _ (by rfl) hov ⟨w4.heap.size, 0, none⟩ 1 1 [_] (by rfl) (by rfl) (World.news_of_block (cs := #[_]) (t := 3) (fr := (0, 0)) (heap_alloc_new w4 _)) (by simp [Value.oneCell']) (by omega) (by unfold maxLen; omega) (by omega) hsz5 _ rfl ?_; intro gg cap w6 hown6 hgrow hat hlt6; obtain ⟨c6, f6, hW6⟩ := HST.out gg cap w6 x.dst hown6 hgrow hat; have hb6 := HBB.out w6 hgrow (.slice (some ⟨gg, 0, none⟩) (rn + 1) cap); have HW6 := Lib.hid hW6; have HB6 := Lib.hid hb6; clear hW6 hb6 hgrow hat hown6)
      go_wp2_with fail
      go_roundw
      case rel => exact ⟨k + 1, by go_num, by omega, HW6.out.congr fun r hr => (HR.out r).symm, HB6.out⟩
      case measure => simp [intOf]; omega
    · have b1 : decide ((k : Int) < (g.es.length : Int)) = false := decide_eq_false (by omega)
      have b1n : decide (k < g.es.length) = false := decide_eq_false hlt
      have HW := Lib.hid (show Ws wr w.heap.size g0 g.ns.length (Gr.row true g.es) by rwa [List.take_of_length_le (by omega)] at hWs)
      have HB := Lib.hid hb
      clear hb hWs
      go_wp2_with fail
      go_ret
      exact ⟨g0, rfl, HW.out, HB.out⟩
set_option maxHeartbeats 8000000 in
set_option maxRecDepth 100000 in
theorem ways_backward (g : Gph) (A B : Option Addr) (c d : Nat) (w : World) (hA : GrAt w A B g) (hn : g.ns.length ≤ 1024) (he : g.es.length ≤ 1024) (hE : ∀ x ∈ g.es, 0 ≤ Gr.eA false x ∧ Gr.eA false x < (g.ns.length : Int)) :
    Calls Tryz.prog 50 #[grV A B c d g, .func (.func 62) #[] #[]] w fun e w' => ∃ g0, e = .returned (.slice (some ⟨g0, 0, none⟩) g.ns.length g.ns.length) ∧ Ws w' w.heap.size g0 g.ns.length (Gr.row false g.es) ∧ Below w.heap.size w w' := by
  obtain ⟨i0, hi0, hz0, hz1, hz2⟩ := info_parts infoIn
  obtain ⟨j0, hj0, hj1, hj2, hj3⟩ := info_parts infoIns
  have hmk : ∀ w' : World, (Instr.makeSlice 86 (.int .i64 (g.ns.length : Int)) (.int .i64 (g.ns.length : Int))).run Tryz.prog w' = .ok (.slice (some ⟨w'.heap.size, 0, none⟩) g.ns.length g.ns.length) (w'.alloc (.cells (madeCells #[.slice none 0 0] g.ns.length) 38)) := fun w' =>
    run_make_row (P := Tryz.prog) 86 38 j0 (.slice none 0 0) Tryz.underlying86 hj0 hj1 hj2 rfl .i64 .i64 g.ns.length (by rw [hj3]; omega) (by omega) w'
  have HA := Lib.hid hA
  have hb0 : Below w.heap.size w (w.alloc (grO A B c d g)) := (Below.refl _ _).alloc (Nat.le_refl _) _
  have hG := heap_alloc_new w (grO A B c d g)
  obtain ⟨W, hW⟩ : ∃ W, W = w.alloc (grO A B c d g) := ⟨_, rfl⟩
  rw [← hW] at hb0 hG
  obtain ⟨q0, q1⟩ := gb_cells hG
  have hM := Ws.made W w.heap.size g.ns.length hb0.size
  have hb1 := hb0.alloc hb0.size (.cells (madeCells #[.slice none 0 0] g.ns.length) 38)
  have hG1 := (blk_alloc_lt W (.cells (madeCells #[.slice none 0 0] g.ns.length) 38) _ (blk_lt hG)).trans hG
  have HE := Lib.hid hE
  clear hA hE
  go_enter Tryz.func50, Tryz.ntmps50
  go_upto_region 1 with (fail)
  rw [← hW]
  clear hW
  go_upto_region 2 with (fail)
  generalize W.alloc (.cells (madeCells #[.slice none 0 0] g.ns.length) 38) = W1 at *
  generalize W.heap.size = g0 at *
  clear q0 q1 hG hb0
  obtain ⟨q0, q1⟩ := gb_cells hG1
  clear hG1 hmk
  go_wp2_with fail
  clear q0 q1
  go_loopw [17] (fun s17 wr => ∃ k : Nat, s17 = .int .i64 k ∧ k ≤ g.es.length ∧ Ws wr w.heap.size g0 g.ns.length (Gr.row false (g.es.take k)) ∧ Below w.heap.size w wr) (fun s17 _ => g.es.length - (intOf s17).toNat)
  case atStart => exact ⟨0, rfl, by omega, hM, hb1⟩
  case round =>
    clear hM hb1
    obtain ⟨k, rfl, hk, hWs, hb⟩ := hrel
    by_cases hlt : k < g.es.length
    · have b1 : decide ((k : Int) < (g.es.length : Int)) = true := decide_eq_true (by omega)
      have b1n : decide (k < g.es.length) = true := decide_eq_true hlt
      have y2 : (k : Int) < (g.es.length : Int) := by omega
      obtain ⟨gb, o, rfl, hg, hc⟩ := HA.out.es k hlt
      have hd0 := (hb.cell (p := ⟨gb, o + k * 3, none⟩) hg).trans (hc 0 _ rfl)
      have hd1 := (hb.cell (p := ⟨gb, o + k * 3 + 1, none⟩) hg).trans (hc 1 _ rfl)
      have hd2 := (hb.cell (p := ⟨gb, o + k * 3 + 2, none⟩) hg).trans (hc 2 _ rfl)
      clear hc
      have hEk := HE.out g.es[k] (List.getElem_mem hlt)
      have HRW := Lib.hid (fun (i : Nat) (h : Gr.eA false g.es[k] = (i : Int)) (r : Nat) => (Gr.row_app false (g.es.take k) g.es[k] i h r))
      rw [← List.take_succ_eq_append_getElem hlt] at HRW
      generalize g.es[k] = x at *
      have hrl := fun i => Gr.row_len false (g.es.take k) i
      have htl : (g.es.take k).length = k := by rw [List.length_take]; omega
      have cc := backward_any x (wr.alloc (edO x))
      rw [edA_def] at cc
      have hba := hb.alloc hb.size (edO x)
      have hWa := hWs.same fun q hq => blk_alloc_lt wr (edO x) q hq
      clear hb hWs
      go_upto_region 5 with (fail)
      generalize hwa : wr.alloc (edO x) = wa at *
      have hxn := heap_alloc_new wr (edO x)
      rw [hwa] at hxn
      have e0 : wa.cell? ⟨wr.heap.size, 0, none⟩ = some (.int .i64 x.src) := by rw [cell_of_row _ _ _ _ _ _ hxn]; rfl
      have e1 : wa.cell? ⟨wr.heap.size, 1, none⟩ = some (.int .i64 x.dst) := by rw [cell_of_row _ _ _ _ _ _ hxn]; rfl
      have e2 : wa.cell? ⟨wr.heap.size, 2, none⟩ = some (.int .i64 x.stp) := by rw [cell_of_row _ _ _ _ _ _ hxn]; rfl
      clear hxn hd0 hd1 hd2
      go_wp2_with fail
      with_reducible refine cc.mono ?_
      clear cc
      rintro e w4 ⟨rfl, hb4⟩
      have hb04 := hba.trans (hb4.mono hba.size)
      have hW4 := hWa.next hb4
      clear hba hWa hb4 e0 e1 e2 hwa
      obtain ⟨i, hi⟩ : ∃ i : Nat, x.dst = (i : Int) := ⟨x.dst.toNat, by have h1 : 0 ≤ x.dst := hEk.1; omega⟩
      have HR := Lib.hid (HRW.out i hi)
      have hin : i < g.ns.length := by have h1 : x.dst < (g.ns.length : Int) := hEk.2; omega
      have y3 : (i : Int) < (g.ns.length : Int) := by omega
      rw [hi]
      clear hEk HRW hi
      have hrli := hrl i
      rw [htl] at hrli
      have hbA : Below w4.heap.size w4 (w4.alloc (.cells #[.int .i64 x.src] 3)) := (Below.refl _ _).alloc (Nat.le_refl _) _
      have hW5 := hW4.next hbA
      have hg0 := hW4.lt
      obtain ⟨v, hcv, hov, hstep⟩ := hW5.take hin
      have hcv4 := (hbA.cell (p := ⟨g0, i, none⟩) hg0).symm.trans hcv
      have hb05 := hb04.alloc hb04.size (.cells #[.int .i64 x.src] 3)
      have hlo := hW5.lo
      generalize hR : Gr.row false (g.es.take k) = R at *
      have HBB := Lib.hid (fun (w6 : World) (hg : (w4.alloc (.cells #[.int .i64 x.src] 3)).grownBy w6 v.ownBlock) (u : Value) => ((below_grown hb05 hb05.size hov hg).setCell (p := ⟨g0, i, none⟩) hlo u))
      have HST := Lib.hid hstep
      have hsz5 := hb05.size
      clear hstep hbA hW4 hW5 hcv hb04 hb05 hrl htl hR hlo
      generalize hrn : (R i).length = rn at *
      go_wp2_with (at_builtin; refine wpList_append_lies _ (by rfl) _ _ 38 (by rfl) w.heap.size 3 i0 _ 1 8 Tryz.underlying38 hi0 hz0 hz1 hz2 rfl (by omega) v rn _ (by rfl) hov ⟨w4.heap.size, 0, none⟩ 1 1 [_] (by rfl) (by rfl) (World.news_of_block (cs := #[_]) (t := 3) (fr := (0, 0)) (heap_alloc_new w4 _)) (by simp [Value.oneCell']) (by omega) (by unfold maxLen; omega) (by omega) hsz5 _ rfl ?_; intro gg cap w6 hown6 hgrow hat hlt6; obtain ⟨c6, f6, hW6⟩ := HST.out gg cap w6 x.src hown6 hgrow hat; have hb6 := HBB.out w6 hgrow (.slice (some ⟨gg, 0, none⟩) (rn + 1) cap); have HW6 := Lib.hid hW6; have HB6 := Lib.hid hb6; clear hW6 hb6 hgrow hat hown6)
      go_wp2_with fail
      go_roundw
      case rel => exact ⟨k + 1, by go_num, by omega, HW6.out.congr fun r hr => (HR.out r).symm, HB6.out⟩
      case measure => simp [intOf]; omega
    · have b1 : decide ((k : Int) < (g.es.length : Int)) = false := decide_eq_false (by omega)
      have b1n : decide (k < g.es.length) = false := decide_eq_false hlt
      have HW := Lib.hid (show Ws wr w.heap.size g0 g.ns.length (Gr.row false g.es) by rwa [List.take_of_length_le (by omega)] at hWs)
      have HB := Lib.hid hb
      clear hb hWs
      go_wp2_with fail
      go_ret
      exact ⟨g0, rfl, HW.out, HB.out⟩
end Go.Proofs.YtjemffgidhgfjaaGreatDoor
end
section
namespace Go.Proofs.YtjemffgidhgfjaaGreatDoor
open Go.RowKit Go.Deep Tr

/-- A queue where it lies, in a block of the call's own. -/
structure QAt (w : World) (B : Nat) (v : Value) (q : List Int) : Prop where
  ex : ∃ ao cap, v = .slice ao q.length cap ∧ (ao = none → q = [] ∧ cap = 0) ∧ cap ≤ maxLen ∧ q.length ≤ cap ∧ ∀ b, ao = some b → ∃ g o cur, b = ⟨g, o, none⟩ ∧ B ≤ g ∧ w.heap[g]? = some (.cells cur 3 (0, 0)) ∧ o + cap ≤ cur.size ∧ ∀ j (h : j < q.length), cur[o + j]? = some (.int .i64 q[j])
theorem QAt.nil (w : World) (B : Nat) : QAt w B (.slice none 0 0) [] := ⟨none, 0, rfl, fun _ => ⟨rfl, rfl⟩, Nat.zero_le _, Nat.le_refl _, fun b h => by cases h⟩
theorem QAt.lt {w : World} {B : Nat} {v : Value} {q : List Int} (h : QAt w B v q) : ∀ g, v.ownBlock = some g → g < w.heap.size ∧ B ≤ g ∧ ∃ cur, w.heap[g]? = some (.cells cur 3 (0, 0)) := fun g hg => by
  obtain ⟨ao, cap, rfl, _, _, _, h4⟩ := h.ex
  cases ao with
  | none => simp [Value.ownBlock] at hg
  | some b =>
    obtain ⟨g', o, cur, rfl, h5, h6, _⟩ := h4 b rfl
    simp only [Value.ownBlock, Option.some.injEq] at hg
    subst hg
    exact ⟨blk_lt h6, h5, cur, h6⟩
theorem QAt.same {w w' : World} {B : Nat} {v : Value} {q : List Int} (h : QAt w B v q) (hb : ∀ g, v.ownBlock = some g → w'.heap[g]? = w.heap[g]?) : QAt w' B v q := by
  obtain ⟨ao, cap, rfl, h1, h2, h3, h4⟩ := h.ex
  refine ⟨ao, cap, rfl, h1, h2, h3, fun b hb2 => ?_⟩
  subst hb2
  obtain ⟨g, o, cur, rfl, h5, h6, h7⟩ := h4 b rfl
  exact ⟨g, o, cur, rfl, h5, (hb g rfl).trans h6, h7⟩
theorem QAt.of_own {w : World} {B B' : Nat} {v : Value} {q : List Int} (h : w.ownsRow B' 3 1 v q.length (Gr.insV q)) (hB : B ≤ B') : QAt w B v q := by
  rcases h.2 with ⟨rfl, h0⟩ | ⟨g, cap, cur, rfl, h2, h3, h4, h5, h6, h7⟩
  · have : q = [] := List.length_eq_zero_iff.1 h0
    subst this
    exact QAt.nil _ _
  · refine ⟨_, cap, rfl, fun h => (by cases h), h5, h4, fun b hb => ?_⟩
    injection hb with hb
    refine ⟨g, 0, cur, hb.symm, by omega, h3, by rw [h6]; omega, fun j hj => ?_⟩
    have h8 : (cur.toList.take (q.length * 1))[j]? = (Gr.insV q)[j]? := by rw [h7]
    rw [List.getElem?_take_of_lt (by omega), Gr.insV_map, List.getElem?_map, List.getElem?_eq_getElem hj] at h8
    rw [Nat.zero_add, ← Array.getElem?_toList]
    exact h8
/-- The first element lies where the queue begins. -/
theorem QAt.head {w : World} {B : Nat} {v : Value} {x : Int} {q : List Int} (h : QAt w B v (x :: q)) : ∃ g o cap, v = .slice (some ⟨g, o, none⟩) (q.length + 1) cap ∧ q.length + 1 ≤ cap ∧ cap ≤ maxLen ∧ w.cell? ⟨g, o, none⟩ = some (.int .i64 x) ∧
    (q.length + 1 < cap → QAt w B (.slice (some ⟨g, o + 1, none⟩) q.length (cap - 1)) q) ∧ (cap = 1 → q = [] ∧ QAt w B (.slice (some ⟨g, o, none⟩) 0 0) []) ∧ (q.length + 1 = cap → 1 < cap → QAt w B (.slice (some ⟨g, o + 1, none⟩) q.length (cap - 1)) q) := by
  obtain ⟨ao, cap, rfl, h1, h2, h3, h4⟩ := h.ex
  cases ao with
  | none => exact absurd (h1 rfl).1 (by simp)
  | some b =>
    obtain ⟨g, o, cur, rfl, h5, h6, h7, h8⟩ := h4 b rfl
    simp only [List.length_cons] at h3 h8
    have key : 1 < cap → QAt w B (.slice (some ⟨g, o + 1, none⟩) q.length (cap - 1)) q := fun hc =>
      ⟨_, cap - 1, rfl, fun h => by (cases h), by omega, by omega, fun b hb => by
        injection hb with hb
        refine ⟨g, o + 1, cur, hb.symm, h5, h6, by omega, fun j hj => ?_⟩
        have := h8 (j + 1) (by omega)
        rw [show o + 1 + j = o + (j + 1) by omega, this]
        rfl⟩
    refine ⟨g, o, cap, rfl, h3, h2, ?_, fun hc => key (by omega), fun hc => ?_, fun _ hc => key hc⟩
    · have := h8 0 (by omega)
      rw [cell_of_row _ _ _ _ _ _ h6]
      exact this
    · have hq : q = [] := List.length_eq_zero_iff.1 (by omega)
      exact ⟨hq, _, 0, rfl, fun h => by (cases h), Nat.zero_le _, Nat.le_refl _, fun b hb => by
        injection hb with hb
        exact ⟨g, o, cur, hb.symm, h5, h6, by omega, fun j hj => by simp at hj⟩⟩
section
variable {P : Program} {w : World}
/-- Appending to a queue. -/
theorem wpList_append_q {ops : Array Oper} {rest : List Oper} {o : Oper} {a : Act} {Q : Exit → Act → World → Prop} (hgd : o.guard = none) (s x : Operand) (t : TypeId)
    (ho : o.op = .call { callee := .builtin .append, args := #[s, x], argTypes := #[t, t] })
    (B : Nat) (i : TypeInfo) (ht : P.underlying t = some (.slice 3)) (hi : P.info? 3 = some i) (hz : i.zero = some (.int .i64 0)) (hsize : i.size = 1) (hby : i.bytes = 8)
    (v : Value) (q : List Int) (hs : a.eval s = v) (hq : QAt w B v q) (ad : Addr) (y : Int) (hx : a.eval x = .slice (some ad) 1 1) (hy : w.cell? ad = some (.int .i64 y)) (hl : q.length ≤ 100000) (hB : B ≤ w.heap.size)
    (h : ∀ v' w', QAt w' B v' (q ++ [y]) → w.grownBy w' v.ownBlock → (∀ g, v'.ownBlock = some g → v.ownBlock = some g ∨ w.heap.size ≤ g) → wpList P ops Q rest (a.put o.dst v') w') : wpList P ops Q (o :: rest) a w := by
  obtain ⟨ao, cap, rfl, h1, h2, h3, h4⟩ := hq.ex
  have hnews : ∀ j u, [Value.int .i64 y][j]? = some u → w.cell? (ad.add j) = some u := fun j u hj => by
    cases j with
    | zero =>
      simp only [List.getElem?_cons_zero, Option.some.injEq] at hj
      subst hj
      rwa [show ad.add 0 = ad by cases ad; simp [Addr.add]]
    | succ j => simp at hj
  have hones : ∀ u ∈ [Value.int .i64 y], u.oneCell' = true := by simp [Value.oneCell']
  have happ : Gr.insV q ++ [.int .i64 y] = Gr.insV (q ++ [y]) := by rw [Gr.insV_app]; rfl
  have grown : ∀ v' w', w'.ownsRow w.heap.size 3 1 v' (q.length + 1) (Gr.insV q ++ [.int .i64 y]) → w.grownBy w' none → wpList P ops Q rest (a.put o.dst v') w' := fun v' w' h5 h6 => by
    rw [happ] at h5
    refine h v' w' (QAt.of_own (by rw [List.length_append]; exact h5) hB) ⟨h6.os, h6.tape, h6.output, h6.size, fun k hk _ => h6.block k hk (by simp)⟩ fun g hg => .inr (h5.lt g hg).1
  cases ao with
  | none =>
    obtain ⟨rfl, rfl⟩ := h1 rfl
    exact wpList_append_grows w hgd s x t ho 3 i (.int .i64 0) 1 8 ht hi hz hsize hby rfl (by omega) none 0 0 [] hs (fun _ => ⟨rfl, rfl⟩) rfl (fun b hb => by cases hb) ad 1 1 _ hx rfl hnews hones (by omega) (by unfold maxLen; omega) (by omega) grown
  | some b =>
    obtain ⟨g, off, cur, rfl, h5, h6, h7, h8⟩ := h4 b rfl
    have hc : ∀ j u, (Gr.insV q)[j]? = some u → w.cell? ⟨g, off + j, none⟩ = some u := fun j u hu => by
      have hj : j < q.length := by have := (List.getElem?_eq_some_iff.1 hu).1; rwa [Gr.insV_len] at this
      rw [Gr.insV_map, List.getElem?_map, List.getElem?_eq_getElem hj] at hu
      simp only [Option.map_some, Option.some.injEq] at hu
      subst hu
      rw [cell_of_row _ _ _ _ _ _ h6]
      exact h8 j hj
    refine wpList_append_arg w hgd s x t ho 3 i (.int .i64 0) 1 8 ht hi hz hsize hby rfl (by omega) g off q.length cap (Gr.insV q) hs (by rw [Gr.insV_len]; omega) hc ad 1 1 _ hx rfl hnews hones (fun hr j hj => ?_) (by unfold maxLen; omega) (by omega) (fun hr => ?_) (fun _ => grown)
    · simp only [List.length_singleton] at hj
      obtain rfl : j = 0 := by omega
      refine ⟨?_, frozen_of_row w g _ _ _ h6⟩
      rw [cell_of_row _ _ _ _ _ _ h6, Array.getElem?_eq_getElem (by omega)]
      rfl
    · have hset : w.setCells g (off + q.length * 1) [.int .i64 y] = w.setCell ⟨g, off + q.length, none⟩ (.int .i64 y) := by rw [Nat.mul_one]; rfl
      rw [hset]
      have hheap := heap_setCell_same w g (off + q.length) cur _ (.int .i64 y) h6
      refine h _ _ ⟨_, cap, by rw [List.length_append]; rfl, fun h => by (cases h), h2, by rw [List.length_append]; exact hr, fun b hb => ?_⟩ ⟨rfl, rfl, rfl, by simp, fun k hk hne => heap_setCell_other w ⟨g, off + q.length, none⟩ k _ (fun e => hne (by rw [e]; rfl))⟩ (fun g' hg' => .inl hg')
      injection hb with hb
      refine ⟨g, off, _, hb.symm, h5, hheap, by simpa using h7, fun j hj => ?_⟩
      rw [List.length_append, List.length_singleton] at hj
      by_cases hjq : j < q.length
      · rw [Array.getElem?_setIfInBounds_ne (by omega), List.getElem_append_left hjq]
        exact h8 j hjq
      · obtain rfl : j = q.length := by omega
        rw [Array.getElem?_setIfInBounds_self_of_lt (by omega)]
        simp
end
end Go.Proofs.YtjemffgidhgfjaaGreatDoor
end
section
namespace Go.Proofs.YtjemffgidhgfjaaGreatDoor
open Go.RowKit Go.Deep Tr

namespace Gr
def visL (c : Int) (L : Nat → Int) (m : Nat) (len : Int) : Nat → Int := if L m < 0 ∧ (m : Int) ≠ c then fun j => if j = m then len else L j else L
def visQ (c : Int) (L : Nat → Int) (q : List Int) (m : Nat) : List Int := if L m < 0 ∧ (m : Int) ≠ c then q ++ [(m : Int)] else q
end Gr
/-- The variables of lengths where they lie: the labels, the closed node, the queue. -/
structure VAt (w : World) (B lb cb qb gl n : Nat) (c : Int) (L : Nat → Int) (q : List Int) : Prop where
  ex : ∃ v, w.heap[qb]? = some (.cells #[v] 38 (0, 0)) ∧ QAt w B v q ∧ v.ownBlock ≠ some gl ∧ v.ownBlock ≠ some cb
  lv : w.heap[lb]? = some (.cells #[.slice (some ⟨gl, 0, none⟩) n n] 38 (0, 0))
  cv : w.heap[cb]? = some (.cells #[.int .i64 c] 3 (0, 0))
  row : w.rowIs gl 3 n (fun i => .int .i64 (L i))
  ne1 : cb ≠ gl
  ne2 : lb ≠ qb
  b1 : B ≤ qb
  b2 : B ≤ gl
theorem VAt.same {w w' : World} {B lb cb qb gl n : Nat} {c : Int} {L : Nat → Int} {q : List Int} (h : VAt w B lb cb qb gl n c L q) (hb : ∀ g, g < w.heap.size → w'.heap[g]? = w.heap[g]?) : VAt w' B lb cb qb gl n c L q := by
  obtain ⟨⟨v, h1, h2, h3, h4⟩, h5, h6, h7, h8, h9, h10, h11⟩ := h
  exact ⟨⟨v, (hb _ (blk_lt h1)).trans h1, h2.same fun g hg => hb g (h2.lt g hg).1, h3, h4⟩, (hb _ (blk_lt h5)).trans h5, (hb _ (blk_lt h6)).trans h6, h7.of_block (hb _ h7.lt), h8, h9, h10, h11⟩
/-- A label is stored. -/
theorem VAt.label {w : World} {B lb cb qb gl n : Nat} {c : Int} {L : Nat → Int} {q : List Int} (h : VAt w B lb cb qb gl n c L q) (m : Nat) (x : Int) : VAt (w.setCell ⟨gl, m, none⟩ (.int .i64 x)) B lb cb qb gl n c (fun j => if j = m then x else L j) q := by
  obtain ⟨⟨v, h1, h2, h3, h4⟩, h5, h6, h7, h8, h9, h10, h11⟩ := h
  obtain ⟨cs, hr, _⟩ := id h7
  have o : ∀ k, k ≠ gl → (w.setCell ⟨gl, m, none⟩ (.int .i64 x)).heap[k]? = w.heap[k]? := fun k hk => heap_setCell_other w ⟨gl, m, none⟩ k _ hk
  refine ⟨⟨v, (o qb (kind_ne h1 hr (by decide))).trans h1, h2.same fun g hg => o g (fun e => h3 (by rw [hg, e])), h3, h4⟩, (o lb (kind_ne h5 hr (by decide))).trans h5, (o cb h8).trans h6, (h7.set m _).congr fun j _ => ?_, h8, h9, h10, h11⟩
  by_cases e : j = m
  · simp [e]
  · simp [e]
/-- The queue has grown and is stored. -/
theorem VAt.push {w w6 : World} {B lb cb qb gl n : Nat} {c : Int} {L : Nat → Int} {q q' : List Int} {v v' : Value} (h : VAt w B lb cb qb gl n c L q) (hv : w.heap[qb]? = some (.cells #[v] 38 (0, 0))) (hq : QAt w6 B v' q') (hg : w.grownBy w6 v.ownBlock) (hat : ∀ g, v'.ownBlock = some g → v.ownBlock = some g ∨ w.heap.size ≤ g) :
    VAt (w6.setCell ⟨qb, 0, none⟩ v') B lb cb qb gl n c L q' ∧ w6.heap[qb]? = some (.cells #[v] 38 (0, 0)) ∧ w6.heap[lb]? = some (.cells #[.slice (some ⟨gl, 0, none⟩) n n] 38 (0, 0)) := by
  obtain ⟨⟨v2, h1, h2, h3, h4⟩, h5, h6, h7, h8, h9, h10, h11⟩ := h
  rw [hv] at h1
  simp only [Option.some.injEq, Obj.cells.injEq, Array.mk.injEq, List.cons.injEq, and_true] at h1
  subst h1
  have k : ∀ (g : Nat) (c' : Array Value), w.heap[g]? = some (.cells c' 38 (0, 0)) → w6.heap[g]? = w.heap[g]? := fun g c' hx => hg.block g (blk_lt hx) fun e => by
    obtain ⟨_, _, cur, hc⟩ := h2.lt g e.symm
    exact kind_ne hx hc (by decide) rfl
  have q6 := (k qb _ hv).trans hv
  have l6 := (k lb _ h5).trans h5
  have c6 := (hg.block cb (blk_lt h6) (fun e => h4 e.symm)).trans h6
  have r6 := h7.of_block (hg.block gl h7.lt (fun e => h3 e.symm))
  obtain ⟨cs, hr, _⟩ := id r6
  have o : ∀ g, g ≠ qb → (w6.setCell ⟨qb, 0, none⟩ v').heap[g]? = w6.heap[g]? := fun g hk => heap_setCell_other w6 ⟨qb, 0, none⟩ g _ hk
  refine ⟨⟨⟨v', heap_setCell_same w6 qb 0 _ _ v' q6, hq.same fun g hg2 => o g (fun e => ?_), fun e => ?_, fun e => ?_⟩, (o lb h9).trans l6, (o cb (kind_ne c6 q6 (by decide))).trans c6, r6.of_block (o gl (kind_ne hr q6 (by decide))), h8, h9, h10, h11⟩, q6, l6⟩
  · subst e
    obtain ⟨_, _, cur, hc⟩ := hq.lt g hg2
    exact kind_ne q6 hc (by decide) rfl
  · rcases hat gl e with h | h
    · exact h3 h
    · have := h7.lt; omega
  · rcases hat cb e with h | h
    · exact h4 h
    · have := blk_lt h6; omega
set_option maxHeartbeats 4000000 in
set_option maxRecDepth 100000 in
theorem visit_any (m : Nat) (x : Int) (B lb cb qb gl n : Nat) (c : Int) (L : Nat → Int) (q : List Int) (w : World) (hm : m < n) (h : VAt w B lb cb qb gl n c L q) (hq : q.length ≤ 100000) (hB : B ≤ w.heap.size) :
    Calls Tryz.prog 95 #[.int .i64 m, .int .i64 x, .pointer (some ⟨lb, 0, none⟩), .pointer (some ⟨cb, 0, none⟩), .pointer (some ⟨qb, 0, none⟩)] w fun e w' => e = .returned (.tuple #[]) ∧ VAt w' B lb cb qb gl n c (Gr.visL c L m x) (Gr.visQ c L q m) ∧ Below B w w' := by
  obtain ⟨i0, hi0, hz0, hz1, hz2⟩ := info_parts infoIn
  have y1 : (m : Int) < (n : Int) := by omega
  obtain ⟨v, hqv, hqa, hn1, hn2⟩ := h.ex
  have e1 : w.cell? ⟨lb, 0, none⟩ = some (.slice (some ⟨gl, 0, none⟩) n n) := by rw [cell_of_row _ _ _ _ _ _ h.lv]; rfl
  have e2 : w.cell? ⟨cb, 0, none⟩ = some (.int .i64 c) := by rw [cell_of_row _ _ _ _ _ _ h.cv]; rfl
  have e3 : w.cell? ⟨gl, m, none⟩ = some (.int .i64 (L m)) := h.row.cell hm
  have f3 : w.frozen? ⟨gl, m, none⟩ = false := h.row.frozen m
  have HL := Lib.hid (show Gr.visL c L m x = if L m < 0 ∧ (m : Int) ≠ c then fun j => if j = m then x else L j else L from rfl)
  have HQ := Lib.hid (show Gr.visQ c L q m = if L m < 0 ∧ (m : Int) ≠ c then q ++ [(m : Int)] else q from rfl)
  generalize Gr.visL c L m x = L' at *
  generalize Gr.visQ c L q m = q' at *
  have H := Lib.hid h
  have hVL := h.label m x
  clear h
  by_cases hneg : L m < 0
  · have d1 : decide (L m < 0) = true := decide_eq_true hneg
    by_cases hc : (m : Int) = c
    · have d2 : ((m : Int) != c) = false := by rw [hc]; simp
      have HT := Lib.hid (show L' = L ∧ q' = q from ⟨by rw [HL.out, if_neg (fun h => h.2 hc)], by rw [HQ.out, if_neg (fun h => h.2 hc)]⟩)
      clear HL HQ hVL hc hneg hqv hqa hn1 hn2
      go_enter Tryz.func95, Tryz.ntmps95
      go_wp2_with fail
      go_end0
      exact ⟨rfl, by rw [HT.out.1, HT.out.2]; exact H.out, Below.refl _ _⟩
    · have d2 : ((m : Int) != c) = true := by rw [bne_iff_ne]; exact hc
      have HT := Lib.hid (show (L' = fun j => if j = m then x else L j) ∧ q' = q ++ [(m : Int)] from ⟨by rw [HL.out, if_pos ⟨hneg, hc⟩], by rw [HQ.out, if_pos ⟨hneg, hc⟩]⟩)
      have hb1 : Below B w (w.setCell ⟨gl, m, none⟩ (.int .i64 x)) := (Below.refl _ _).setCell (p := ⟨gl, m, none⟩) H.out.b2 _
      clear HL HQ hc hneg hqv hqa hn1 hn2
      obtain ⟨v, hqv, hqa, hn1, hn2⟩ := hVL.ex
      have e4 : (w.setCell ⟨gl, m, none⟩ (.int .i64 x)).cell? ⟨qb, 0, none⟩ = some v := by rw [cell_of_row _ _ _ _ _ _ hqv]; rfl
      go_enter Tryz.func95, Tryz.ntmps95
      go_upto_region 2 with (fail)
      generalize w.setCell ⟨gl, m, none⟩ (.int .i64 x) = w1 at *
      clear e1 e2 e3 f3
      have hVA := Lib.hid (hVL.same fun g hg => blk_alloc_lt w1 (.cells #[.int .i64 m] 3) g hg)
      have hqv5 := (blk_alloc_lt w1 (.cells #[.int .i64 m] 3) _ (blk_lt hqv)).trans hqv
      have hqa5 := hqa.same fun g hg => blk_alloc_lt w1 (.cells #[.int .i64 m] 3) g (hqa.lt g hg).1
      have hb5 := hb1.alloc (Nat.le_trans hB hb1.size) (.cells #[.int .i64 m] 3)
      have hnw := heap_alloc_new w1 (.cells #[.int .i64 m] 3)
      have hcn : (w1.alloc (.cells #[.int .i64 m] 3)).cell? ⟨w1.heap.size, 0, none⟩ = some (.int .i64 m) := by rw [cell_of_row _ _ _ _ _ _ hnw]; rfl
      have hsz := Nat.le_trans hB hb5.size
      have HVB := Lib.hid hVL.b1
      have HQL := Lib.hid hqa5.lt
      clear hVL hqv hqa hn1 hn2 hb1 hnw
      have HB5 := Lib.hid hb5
      clear hb5
      go_wp2_with (at_builtin; refine wpList_append_q (by rfl) _ _ 38 (by rfl) B i0 Tryz.underlying38 hi0 hz0 hz1 hz2 v q (by rfl) hqa5 ⟨w1.heap.size, 0, none⟩ m (by rfl) hcn hq hsz ?_; intro v6 w6 hq6 hg6 hat6; obtain ⟨ao6, cap6, hv6, _⟩ := hq6.ex; subst hv6; rw [show (q ++ [(m : Int)]).length = q.length + 1 by simp] at hq6 hat6; obtain ⟨V6, q6, l6⟩ := hVA.out.push hqv5 hq6 hg6 hat6; have c6 : w6.cell? ⟨qb, 0, none⟩ = some v := (by rw [cell_of_row _ _ _ _ _ _ q6]; rfl); have f6 := frozen_of_row w6 qb 0 _ _ q6; have HV6 := Lib.hid V6; have HB6 := Lib.hid (show Below B w (w6.setCell ⟨qb, 0, none⟩ (.slice ao6 (q.length + 1) cap6)) from (HB5.out.trans ⟨hg6.os, hg6.tape, hg6.output, hg6.size, fun k hk => hg6.block k (by omega) (fun e => by have := (HQL.out k e.symm).2.1; omega)⟩).setCell (p := ⟨qb, 0, none⟩) HVB.out _); clear V6 q6 l6 hq6 hg6 hat6)
      go_wp2_with fail
      go_end0
      exact ⟨rfl, by rw [HT.out.1, HT.out.2]; exact HV6.out, HB6.out⟩
  · have d1 : decide (L m < 0) = false := decide_eq_false hneg
    have HT := Lib.hid (show L' = L ∧ q' = q from ⟨by rw [HL.out, if_neg (fun h => hneg h.1)], by rw [HQ.out, if_neg (fun h => hneg h.1)]⟩)
    clear HL HQ hVL hneg hqv hqa hn1 hn2
    go_enter Tryz.func95, Tryz.ntmps95
    go_wp2_with fail
    go_end0
    exact ⟨rfl, by rw [HT.out.1, HT.out.2]; exact H.out, Below.refl _ _⟩
end Go.Proofs.YtjemffgidhgfjaaGreatDoor
end
section
namespace Go.Proofs.YtjemffgidhgfjaaGreatDoor

namespace Gr
/-- A walk of k steps from a start to a node, not by way of the closed one. -/
inductive Wk (R : Nat → List Int) (S : List Int) (c : Int) : Nat → Nat → Prop
  | start (s : Nat) : (s : Int) ∈ S → (s : Int) ≠ c → Wk R S c 0 s
  | step (k a b : Nat) : Wk R S c k a → (b : Int) ∈ R a → (b : Int) ≠ c → Wk R S c (k + 1) b
/-- How many nodes have no label. -/
def ng (L : Nat → Int) : Nat → Nat
  | 0 => 0
  | n + 1 => ng L n + if L n < 0 then 1 else 0
theorem ng_le (L : Nat → Int) : ∀ n, ng L n ≤ n
  | 0 => Nat.le_refl _
  | n + 1 => by have := ng_le L n; rw [ng]; split <;> omega
theorem ng_out (L : Nat → Int) (b : Nat) (x : Int) : ∀ n, n ≤ b → ng (fun j => if j = b then x else L j) n = ng L n
  | 0, _ => rfl
  | n + 1, h => by
    rw [ng, ng, ng_out L b x n (by omega)]
    simp only [show ¬ n = b by omega, if_false]
theorem ng_set (L : Nat → Int) (b : Nat) (x : Int) (hx : 0 ≤ x) (hb : L b < 0) : ∀ n, b < n → ng (fun j => if j = b then x else L j) n + 1 = ng L n
  | 0, h => by omega
  | n + 1, h => by
    rw [ng, ng]
    by_cases e : n = b
    · subst e
      rw [ng_out L n x n (Nat.le_refl _)]
      simp only [if_true, hb]
      rw [if_neg (by omega)]
    · have := ng_set L b x hx hb n (by omega)
      simp only [e, if_false]
      omega
/-- What holds in whichever state. -/
structure Bas (R : Nat → List Int) (S : List Int) (c : Int) (n : Nat) (L : Nat → Int) (q : List Int) : Prop where
  neg : ∀ m, L m = -1 ∨ 0 ≤ L m
  snd : ∀ m, 0 ≤ L m → Wk R S c (L m).toNat m
  qs : ∀ x ∈ q, ∃ m : Nat, x = (m : Int) ∧ m < n ∧ 0 ≤ L m
  cnt : q.length + ng L n ≤ n
/-- The starts up to j are labelled. -/
structure Sta (R : Nat → List Int) (S : List Int) (c : Int) (n j : Nat) (L : Nat → Int) (q : List Int) : Prop where
  bas : Bas R S c n L q
  low : ∀ m, L m ≤ 0
  inq : ∀ m : Nat, 0 ≤ L m → (m : Int) ∈ q
  strt : ∀ s : Nat, (s : Int) ∈ S.take j → (s : Int) ≠ c → 0 ≤ L s
/-- The queue is worked off. -/
structure Bfs (R : Nat → List Int) (S : List Int) (c : Int) (n : Nat) (L : Nat → Int) (q : List Int) : Prop where
  bas : Bas R S c n L q
  strt : ∀ s : Nat, (s : Int) ∈ S → (s : Int) ≠ c → 0 ≤ L s ∧ L s ≤ 0
  done : ∀ m : Nat, 0 ≤ L m → (m : Int) ∉ q → ∀ b : Nat, (b : Int) ∈ R m → (b : Int) ≠ c → 0 ≤ L b ∧ L b ≤ L m + 1
  mono : q.Pairwise fun x y => L x.toNat ≤ L y.toNat
  top : ∀ x t, q = x :: t → ∀ m, L m ≤ L x.toNat + 1
/-- The first j nodes behind node a are visited. -/
structure Inn (R : Nat → List Int) (S : List Int) (c : Int) (n a j : Nat) (L : Nat → Int) (q : List Int) : Prop where
  bas : Bas R S c n L q
  strt : ∀ s : Nat, (s : Int) ∈ S → (s : Int) ≠ c → 0 ≤ L s ∧ L s ≤ 0
  done : ∀ m : Nat, 0 ≤ L m → (m : Int) ∉ q → m ≠ a → ∀ b : Nat, (b : Int) ∈ R m → (b : Int) ≠ c → 0 ≤ L b ∧ L b ≤ L m + 1
  proc : ∀ b : Nat, (b : Int) ∈ (R a).take j → (b : Int) ≠ c → 0 ≤ L b ∧ L b ≤ L a + 1
  mono : q.Pairwise fun x y => L x.toNat ≤ L y.toNat
  low : ∀ x ∈ q, L a ≤ L x.toNat
  top : ∀ m, L m ≤ L a + 1
  la : 0 ≤ L a
theorem Sta.init (R : Nat → List Int) (S : List Int) (c : Int) (n : Nat) : Sta R S c n 0 (fun _ => -1) [] :=
  ⟨⟨fun _ => .inl rfl, fun m h => by omega, fun x h => by simp at h, by have := ng_le (fun _ => -1) n; simpa using this⟩, fun _ => by omega, fun m h => by omega, fun s h => by simp at h⟩
theorem Sta.step {R : Nat → List Int} {S : List Int} {c : Int} {n j b : Nat} {L : Nat → Int} {q : List Int} (h : Sta R S c n j L q) (hj : j < S.length) (hb : S[j] = (b : Int)) (hbn : b < n) : Sta R S c n (j + 1) (visL c L b 0) (visQ c L q b) := by
  obtain ⟨⟨h1, h2, h3, h4⟩, h5, h6, h7⟩ := h
  have htk : S.take (j + 1) = S.take j ++ [(b : Int)] := by rw [List.take_succ_eq_append_getElem hj, hb]
  unfold visL visQ
  by_cases hc : L b < 0 ∧ (b : Int) ≠ c
  · rw [if_pos hc, if_pos hc]
    have hn := ng_set L b 0 (Int.le_refl _) hc.1 n hbn
    refine ⟨⟨fun m => ?_, fun m hm => ?_, fun x hx => ?_, by rw [List.length_append, List.length_singleton]; omega⟩, fun m => ?_, fun m hm => ?_, fun s hs hsc => ?_⟩
    · by_cases e : m = b
      · simp [e]
      · simp only [e, if_false]; exact h1 m
    · by_cases e : m = b
      · subst e
        simp only [if_true]
        exact .start m (by rw [← hb]; exact List.getElem_mem hj) hc.2
      · simp only [e, if_false] at hm ⊢
        exact h2 m hm
    · rcases List.mem_append.1 hx with hx | hx
      · obtain ⟨m, rfl, h8, h9⟩ := h3 x hx
        refine ⟨m, rfl, h8, ?_⟩
        split
        · omega
        · exact h9
      · rw [List.mem_singleton] at hx
        exact ⟨b, hx, hbn, by simp⟩
    · show (if m = b then 0 else L m) ≤ 0
      split
      · omega
      · exact h5 m
    · by_cases e : m = b
      · subst e; simp
      · simp only [e, if_false] at hm
        exact List.mem_append_left _ (h6 m hm)
    · show 0 ≤ if s = b then 0 else L s
      split
      · omega
      · rw [htk, List.mem_append, List.mem_singleton] at hs
        rcases hs with hs | hs
        · exact h7 s hs hsc
        · omega
  · rw [if_neg hc, if_neg hc]
    refine ⟨⟨h1, h2, h3, h4⟩, h5, h6, fun s hs hsc => ?_⟩
    rw [htk, List.mem_append, List.mem_singleton] at hs
    rcases hs with hs | hs
    · exact h7 s hs hsc
    · obtain rfl : s = b := by omega
      rcases h1 s with h | h
      · exact absurd ⟨by omega, hsc⟩ hc
      · exact h
theorem Sta.done {R : Nat → List Int} {S : List Int} {c : Int} {n j : Nat} {L : Nat → Int} {q : List Int} (h : Sta R S c n j L q) (hj : ¬ j < S.length) : Bfs R S c n L q := by
  obtain ⟨⟨h1, h2, h3, h4⟩, h5, h6, h7⟩ := h
  rw [List.take_of_length_le (by omega)] at h7
  refine ⟨⟨h1, h2, h3, h4⟩, fun s hs hc => ⟨h7 s hs hc, h5 s⟩, fun m hm hq => absurd (h6 m hm) hq, ?_, fun x t hx m => ?_⟩
  · refine List.pairwise_of_forall_mem_list fun x hx y hy => ?_
    obtain ⟨m, rfl, _, h9⟩ := h3 y hy
    have := h5 x.toNat
    rw [Int.toNat_natCast]
    omega
  · obtain ⟨k, rfl, _, h9⟩ := h3 x (by rw [hx]; simp)
    have := h5 m
    rw [Int.toNat_natCast]
    omega
theorem Bfs.pop {R : Nat → List Int} {S : List Int} {c : Int} {n a : Nat} {L : Nat → Int} {t : List Int} (h : Bfs R S c n L ((a : Int) :: t)) : Inn R S c n a 0 L t := by
  obtain ⟨⟨h1, h2, h3, h4⟩, h5, h6, h7, h8⟩ := h
  have htop := h8 _ _ rfl
  rw [Int.toNat_natCast] at htop
  rw [List.pairwise_cons] at h7
  obtain ⟨k, hk, _, hla⟩ := h3 (a : Int) (by simp)
  obtain rfl : a = k := by omega
  refine ⟨⟨h1, h2, fun x hx => h3 x (List.mem_cons_of_mem _ hx), by rw [List.length_cons] at h4; omega⟩, h5, fun m hm hq hma => h6 m hm (fun hx => ?_), fun b hb => by simp at hb, h7.2, fun x hx => by have := h7.1 x hx; rwa [Int.toNat_natCast] at this, htop, hla⟩
  rcases List.mem_cons.1 hx with e | e
  · omega
  · exact hq e
theorem Inn.step {R : Nat → List Int} {S : List Int} {c : Int} {n a j b : Nat} {L : Nat → Int} {q : List Int} (h : Inn R S c n a j L q) (hj : j < (R a).length) (hb : (R a)[j] = (b : Int)) (hbn : b < n) : Inn R S c n a (j + 1) (visL c L b (L a + 1)) (visQ c L q b) ∧ visL c L b (L a + 1) a = L a := by
  obtain ⟨⟨h1, h2, h3, h4⟩, h5, h6, h7, h8, h9, h10, h11⟩ := h
  have htk : (R a).take (j + 1) = (R a).take j ++ [(b : Int)] := by rw [List.take_succ_eq_append_getElem hj, hb]
  unfold visL visQ
  by_cases hc : L b < 0 ∧ (b : Int) ≠ c
  · rw [if_pos hc, if_pos hc]
    have hab : a ≠ b := fun e => by rw [e] at h11; omega
    have hn := ng_set L b (L a + 1) (by omega) hc.1 n hbn
    have ne : ∀ m, 0 ≤ L m → m ≠ b := fun m hm e => by rw [e] at hm; omega
    have keep : ∀ m, 0 ≤ L m → (if m = b then L a + 1 else L m) = L m := fun m hm => if_neg (ne m hm)
    refine ⟨⟨⟨fun m => ?_, fun m hm => ?_, fun x hx => ?_, by rw [List.length_append, List.length_singleton]; omega⟩, fun s hs hsc => ?_, fun m hm hq hma b' hb' hbc => ?_, fun b' hb' hbc => ?_, ?_, fun x hx => ?_, fun m => ?_, ?_⟩, if_neg hab⟩
    · by_cases e : m = b
      · right; simp only [e, if_true]; omega
      · simp only [e, if_false]; exact h1 m
    · by_cases e : m = b
      · subst e
        simp only [if_true]
        rw [show (L a + 1).toNat = (L a).toNat + 1 by omega]
        exact .step _ a m (h2 a h11) (by rw [← hb]; exact List.getElem_mem hj) hc.2
      · simp only [e, if_false] at hm ⊢
        exact h2 m hm
    · rcases List.mem_append.1 hx with hx | hx
      · obtain ⟨m, rfl, h12, h13⟩ := h3 x hx
        exact ⟨m, rfl, h12, by show 0 ≤ if m = b then L a + 1 else L m; rw [keep m h13]; exact h13⟩
      · rw [List.mem_singleton] at hx
        exact ⟨b, hx, hbn, by simp only [if_true]; omega⟩
    · have := h5 s hs hsc
      show 0 ≤ (if s = b then L a + 1 else L s) ∧ (if s = b then L a + 1 else L s) ≤ 0
      rw [keep s this.1]; exact this
    · have hmb : m ≠ b := fun e => hq (List.mem_append_right _ (by rw [e]; simp))
      simp only [hmb, if_false] at hm ⊢
      have := h6 m hm (fun hx => hq (List.mem_append_left _ hx)) hma b' hb' hbc
      show 0 ≤ (if b' = b then L a + 1 else L b') ∧ (if b' = b then L a + 1 else L b') ≤ L m + 1
      rw [keep b' this.1]; exact this
    · show 0 ≤ (if b' = b then L a + 1 else L b') ∧ (if b' = b then L a + 1 else L b') ≤ (if a = b then L a + 1 else L a) + 1
      rw [if_neg hab]
      by_cases e : b' = b
      · rw [if_pos e]; omega
      · rw [if_neg e]
        rw [htk, List.mem_append, List.mem_singleton] at hb'
        rcases hb' with hx | hx
        · exact h7 b' hx hbc
        · omega
    · rw [List.pairwise_append]
      refine ⟨List.Pairwise.imp_of_mem (fun {x y} hx hy hxy => ?_) h8, by simp, fun x hx y hy => ?_⟩
      · obtain ⟨m, rfl, _, h13⟩ := h3 x hx
        obtain ⟨m', rfl, _, h14⟩ := h3 y hy
        simp only [Int.toNat_natCast] at hxy ⊢
        rw [keep m h13, keep m' h14]; exact hxy
      · rw [List.mem_singleton] at hy
        subst hy
        obtain ⟨m, rfl, _, h13⟩ := h3 x hx
        simp only [Int.toNat_natCast, if_true]
        rw [keep m h13]; exact h10 m
    · show (if a = b then L a + 1 else L a) ≤ if x.toNat = b then L a + 1 else L x.toNat
      rw [if_neg hab]
      rcases List.mem_append.1 hx with hx | hx
      · obtain ⟨m, rfl, _, h13⟩ := h3 x hx
        have := h9 _ hx
        rw [Int.toNat_natCast] at this ⊢
        rw [keep m h13]; exact this
      · rw [List.mem_singleton] at hx
        subst hx
        simp only [Int.toNat_natCast, if_true]; omega
    · show (if m = b then L a + 1 else L m) ≤ (if a = b then L a + 1 else L a) + 1
      rw [if_neg hab]
      split
      · omega
      · exact h10 m
    · show 0 ≤ if a = b then L a + 1 else L a
      rw [if_neg hab]; exact h11
  · rw [if_neg hc, if_neg hc]
    refine ⟨⟨⟨h1, h2, h3, h4⟩, h5, h6, fun b' hb' hbc => ?_, h8, h9, h10, h11⟩, rfl⟩
    rw [htk, List.mem_append, List.mem_singleton] at hb'
    rcases hb' with hx | hx
    · exact h7 b' hx hbc
    · obtain rfl : b' = b := by omega
      refine ⟨?_, h10 b'⟩
      rcases h1 b' with h | h
      · exact absurd ⟨by omega, hbc⟩ hc
      · exact h
theorem Inn.full {R : Nat → List Int} {S : List Int} {c : Int} {n a j : Nat} {L : Nat → Int} {q : List Int} (h : Inn R S c n a j L q) (hj : ¬ j < (R a).length) : Bfs R S c n L q := by
  obtain ⟨hb, h5, h6, h7, h8, h9, h10, h11⟩ := h
  rw [List.take_of_length_le (by omega)] at h7
  refine ⟨hb, h5, fun m hm hq b hbm hbc => ?_, h8, fun x t hx m => ?_⟩
  · by_cases e : m = a
    · subst e; exact h7 b hbm hbc
    · exact h6 m hm hq e b hbm hbc
  · have := h9 x (by rw [hx]; simp)
    have := h10 m
    omega
/-- The labels are the lengths of the shortest walks. -/
structure Lab (R : Nat → List Int) (S : List Int) (c : Int) (L : Nat → Int) : Prop where
  neg : ∀ m, L m = -1 ∨ 0 ≤ L m
  snd : ∀ m, 0 ≤ L m → Wk R S c (L m).toNat m
  all : ∀ k m, Wk R S c k m → 0 ≤ L m ∧ L m ≤ (k : Int)
theorem Bfs.lab {R : Nat → List Int} {S : List Int} {c : Int} {n : Nat} {L : Nat → Int} (h : Bfs R S c n L []) : Lab R S c L := by
  refine ⟨h.bas.neg, h.bas.snd, fun k m hw => ?_⟩
  induction hw with
  | start s hs hc => have := h.strt s hs hc; exact ⟨this.1, by omega⟩
  | step k a b _ hb hc ih =>
    have := h.done a ih.1 (by simp) b hb hc
    exact ⟨this.1, by omega⟩
end Gr
end Go.Proofs.YtjemffgidhgfjaaGreatDoor
end
section
namespace Go.Proofs.YtjemffgidhgfjaaGreatDoor
open Go.RowKit Go.Deep Tr

namespace Gr
theorem vis_cnt {c : Int} {L : Nat → Int} {q : List Int} {n b : Nat} {x : Int} (hb : b < n) (hx : 0 ≤ x) : (visQ c L q b).length + ng (visL c L b x) n = q.length + ng L n := by
  unfold visL visQ
  by_cases hc : L b < 0 ∧ (b : Int) ≠ c
  · rw [if_pos hc, if_pos hc, List.length_append, List.length_singleton]
    have := ng_set L b x hx hc.1 n hb
    omega
  · rw [if_neg hc, if_neg hc]
/-- Labels are not greater than the number of nodes that have one. -/
def Bd (L : Nat → Int) (n : Nat) : Prop := ∀ m, L m + (ng L n : Int) ≤ (n : Int)
theorem Bd.init (n : Nat) : Bd (fun _ => -1) n := fun m => by have := ng_le (fun _ => -1) n; show (-1 : Int) + _ ≤ _; omega
theorem Bd.vis {c : Int} {L : Nat → Int} {n b : Nat} {x : Int} (h : Bd L n) (hb : b < n) (hx : 0 ≤ x) (hxn : x + (ng L n : Int) ≤ (n : Int) + 1) : Bd (visL c L b x) n := by
  unfold visL
  by_cases hc : L b < 0 ∧ (b : Int) ≠ c
  · rw [if_pos hc]
    have hn := ng_set L b x hx hc.1 n hb
    intro m
    show (if m = b then x else L m) + _ ≤ _
    have := h m
    split <;> omega
  · rw [if_neg hc]; exact h
end Gr
/-- The queue loses its first element. -/
theorem VAt.pop {w : World} {B lb cb qb gl n : Nat} {c : Int} {L : Nat → Int} {q t : List Int} {v v' : Value} (h : VAt w B lb cb qb gl n c L q) (hv : w.heap[qb]? = some (.cells #[v] 38 (0, 0))) (hq : QAt w B v' t) (he : v'.ownBlock = v.ownBlock) : VAt (w.setCell ⟨qb, 0, none⟩ v') B lb cb qb gl n c L t :=
  (h.push hv hq ⟨rfl, rfl, rfl, Nat.le_refl _, fun _ _ _ => rfl⟩ (fun g hg => .inl (by rw [← he]; exact hg))).1
/-- A row of a list of lists. -/
theorem Ws.read {w : World} {B g0 n : Nat} {R : Nat → List Int} (h : Ws w B g0 n R) {r : Nat} (hr : r < n) : ∃ A c, w.cell? ⟨g0, r, none⟩ = some (.slice A (R r).length c) ∧ Gr.InAt w w.heap.size A (R r) := by
  obtain ⟨⟨V, h1, h2, _⟩, _⟩ := h
  obtain ⟨A, c, hv, _, _, hat⟩ := Gr.own_el Gr.inV 1 Gr.inV_len (h2 r hr)
  exact ⟨A, c, by rw [h1.cell hr, hv], hat⟩
theorem in_cell {w : World} {B : Nat} {A : Option Addr} {l : List Int} (h : Gr.InAt w B A l) {k : Nat} (hk : k < l.length) : ∃ g o, A = some ⟨g, o, none⟩ ∧ g < B ∧ w.cell? ⟨g, o + k, none⟩ = some (.int .i64 l[k]) := by
  obtain ⟨g, o, e, hg, hc⟩ := h k hk
  have := hc 0 _ rfl
  rw [Nat.mul_one] at this
  exact ⟨g, o, e, hg, this⟩
set_option maxHeartbeats 16000000 in
set_option maxRecDepth 100000 in
theorem lengths_any (n g0 B0 : Nat) (R : Nat → List Int) (A : Option Addr) (S : List Int) (cS : Nat) (c : Int) (w : World) (hW : Ws w B0 g0 n R) (hA : Gr.InAt w w.heap.size A S) (hn : n ≤ 1024) (hSl : S.length ≤ 100000)
    (hS : ∀ x ∈ S, ∃ b : Nat, x = (b : Int) ∧ b < n) (hR : ∀ i, i < n → (R i).length ≤ 100000 ∧ ∀ x ∈ R i, ∃ b : Nat, x = (b : Int) ∧ b < n) :
    Calls Tryz.prog 61 #[.slice (some ⟨g0, 0, none⟩) n n, .slice A S.length cS, .int .i64 c] w fun e w' => ∃ gl, e = .returned (.slice (some ⟨gl, 0, none⟩) n n) ∧ ∃ L : Nat → Int, w'.rowIs gl 3 n (fun i => .int .i64 (L i)) ∧ Gr.Lab R S c L ∧ Gr.Bd L n ∧ w.heap.size ≤ gl ∧ Below w.heap.size w w' := by
  obtain ⟨i0, hi0, hz0, hz1, hz2⟩ := info_parts infoIn
  have hmk : ∀ w' : World, (Instr.makeSlice 38 (.int .i64 (n : Int)) (.int .i64 (n : Int))).run Tryz.prog w' = .ok (.slice (some ⟨w'.heap.size, 0, none⟩) n n) (w'.alloc (.cells (madeCells #[.int .i64 0] n) 3)) := fun w' =>
    run_make_row (P := Tryz.prog) 38 3 i0 (.int .i64 0) Tryz.underlying38 hi0 hz0 hz1 rfl .i64 .i64 n (by rw [hz2]; omega) (by omega) w'
  have HW := Lib.hid hW
  have HA := Lib.hid hA
  have HS := Lib.hid hS
  have HR := Lib.hid hR
  have hb0 : Below w.heap.size w (w.alloc (.cells #[.int .i64 c] 3)) := (Below.refl _ _).alloc (Nat.le_refl _) _
  have hc0 := heap_alloc_new w (.cells #[.int .i64 c] 3)
  clear hW hA hS hR
  go_enter Tryz.func61, Tryz.ntmps61
  go_upto_region 1 with (fail)
  have hs0 : (w.alloc (.cells #[.int .i64 c] 3)).heap.size = w.heap.size + 1 := by simp
  generalize hw0 : w.alloc (.cells #[.int .i64 c] 3) = w0 at *
  have hr1 := World.rowIs_made w0 (.int .i64 0) n 3
  have hb1 := hb0.alloc hb0.size (.cells (madeCells #[.int .i64 0] n) 3)
  have hc1 := (blk_alloc_lt w0 (.cells (madeCells #[.int .i64 0] n) 3) _ (blk_lt hc0)).trans hc0
  have hs1 : (w0.alloc (.cells (madeCells #[.int .i64 0] n) 3)).heap.size = w.heap.size + 2 := by simp [hs0]
  have hr2 := hr1.alloc (.cells #[.slice (some ⟨w0.heap.size, 0, none⟩) n n] 38)
  have hb2 := hb1.alloc hb1.size (.cells #[.slice (some ⟨w0.heap.size, 0, none⟩) n n] 38)
  have hc2 := (blk_alloc_lt _ (.cells #[.slice (some ⟨w0.heap.size, 0, none⟩) n n] 38) _ (blk_lt hc1)).trans hc1
  have hl2 := heap_alloc_new (w0.alloc (.cells (madeCells #[.int .i64 0] n) 3)) (.cells #[.slice (some ⟨w0.heap.size, 0, none⟩) n n] 38)
  have hs2 : ((w0.alloc (.cells (madeCells #[.int .i64 0] n) 3)).alloc (.cells #[.slice (some ⟨w0.heap.size, 0, none⟩) n n] 38)).heap.size = w.heap.size + 3 := by simp [hs0]
  rw [hs1] at hl2
  rw [hs0] at hr2 hb2 hc2 hl2 hs2
  clear hb0 hc0 hb1 hc1 hr1 hs1
  go_upto_region 2 with (fail)
  generalize (w0.alloc (.cells (madeCells #[.int .i64 0] n) 3)).alloc (.cells #[.slice (some ⟨w.heap.size + 1, 0, none⟩) n n] 38) = w2 at *
  clear hmk hs0 hw0
  obtain ⟨B, hB⟩ : ∃ x, x = w.heap.size := ⟨_, rfl⟩
  rw [← hB] at hr2 hb2 hc2 hl2 hs2 ⊢
  have HBw := Lib.hid hB
  clear hB
  obtain ⟨gl, hgl⟩ : ∃ x, x = B + 1 := ⟨_, rfl⟩
  obtain ⟨lb, hlb⟩ : ∃ x, x = B + 2 := ⟨_, rfl⟩
  obtain ⟨qb, hqb⟩ : ∃ x, x = B + 3 := ⟨_, rfl⟩
  rw [← hlb, ← hgl] at hl2
  rw [← hgl] at hr2
  rw [← hqb] at hs2
  rw [← hlb, ← hgl]
  have HN := Lib.hid (show gl = B + 1 ∧ lb = B + 2 ∧ qb = B + 3 from ⟨hgl, hlb, hqb⟩)
  clear hgl hlb hqb
  go_wp2_with fail
  go_loopw [21] (fun s21 wr => ∃ k : Nat, s21 = .int .i64 k ∧ k ≤ n ∧ wr.rowIs gl 3 n (fun i => .int .i64 (if i < k then -1 else 0)) ∧ wr.heap[B]? = some (.cells #[.int .i64 c] 3 (0, 0)) ∧ wr.heap[lb]? = some (.cells #[.slice (some ⟨gl, 0, none⟩) n n] 38 (0, 0)) ∧ wr.heap.size = qb ∧ Below B w wr) (fun s21 _ => n - (intOf s21).toNat)
  case atStart => exact ⟨0, rfl, by omega, hr2.congr fun i _ => by simp, hc2, hl2, hs2, hb2⟩
  case round =>
    clear hr2 hb2 hc2 hl2 hs2
    obtain ⟨k, rfl, hk, hrow, hc, hl, hs, hb⟩ := hrel
    by_cases hlt : k < n
    · have b1 : decide ((k : Int) < (n : Int)) = true := decide_eq_true (by omega)
      have b1n : decide (k < n) = true := decide_eq_true hlt
      have y1 : (k : Int) < (n : Int) := by omega
      have e1 : wr.cell? ⟨lb, 0, none⟩ = some (.slice (some ⟨gl, 0, none⟩) n n) := by rw [cell_of_row _ _ _ _ _ _ hl]; rfl
      have e2 : wr.cell? ⟨gl, k, none⟩ = some (.int .i64 0) := by rw [hrow.cell hlt]; simp
      have f2 := hrow.frozen k
      have hset := (hrow.set k (.int .i64 (-1))).congr (g := fun i => .int .i64 (if i < k + 1 then -1 else 0)) fun i hi => by
        by_cases e : i = k
        · simp [e]
        · simp only [e, if_false]
          by_cases e2 : i < k
          · rw [if_pos e2, if_pos (show i < k + 1 by omega)]
          · rw [if_neg e2, if_neg (show ¬ i < k + 1 by omega)]
      have o : ∀ g, g ≠ gl → (wr.setCell ⟨gl, k, none⟩ (.int .i64 (-1))).heap[g]? = wr.heap[g]? := fun g hg => heap_setCell_other wr ⟨gl, k, none⟩ g _ hg
      have hN := HN.out
      have H1 := Lib.hid hset
      have H2 := Lib.hid ((o B (by omega)).trans hc)
      have H3 := Lib.hid ((o lb (by omega)).trans hl)
      have H4 := Lib.hid (hb.setCell (p := ⟨gl, k, none⟩) (show B ≤ gl by omega) (.int .i64 (-1)))
      have H5 := Lib.hid (show (wr.setCell ⟨gl, k, none⟩ (.int .i64 (-1))).heap.size = qb by simpa using hs)
      clear hset o hN hrow hc hl hs hb
      go_wp2_with fail
      go_roundw
      case rel => exact ⟨k + 1, by go_num, by omega, H1.out, H2.out, H3.out, H5.out, H4.out⟩
      case measure => simp [intOf]; omega
    · have b1 : decide ((k : Int) < (n : Int)) = false := decide_eq_false (by omega)
      have b1n : decide (k < n) = false := decide_eq_false hlt
      have hN := HN.out
      have hV : VAt (wr.alloc (.cells #[.slice none 0 0] 38)) B lb B qb gl n c (fun _ => -1) [] := by
        have o : ∀ g, g < qb → (wr.alloc (.cells #[.slice none 0 0] 38)).heap[g]? = wr.heap[g]? := fun g hg => blk_alloc_lt wr _ g (by omega)
        have hq := heap_alloc_new wr (.cells #[.slice none 0 0] 38)
        rw [hs] at hq
        exact ⟨⟨_, hq, QAt.nil _ _, by simp [Value.ownBlock], by simp [Value.ownBlock]⟩, (o lb (by omega)).trans hl, (o B (by omega)).trans hc, (hrow.alloc _).congr fun i hi => by rw [if_pos (by omega)], by omega, by omega, by omega, by omega⟩
      have hb2 := hb.alloc (by omega) (.cells #[.slice none 0 0] 38)
      have hsz : B ≤ (wr.alloc (.cells #[.slice none 0 0] 38)).heap.size := by simp; omega
      have hqb : wr.heap.size = qb := hs
      clear hN hrow hc hl hs hb
      go_upto_region 9 with (fail)
      generalize wr.alloc (.cells #[.slice none 0 0] 38) = w4 at *
      clear hqb
      go_wp2_with fail
      go_loopw [31] (fun s31 wr => ∃ (k : Nat) (L : Nat → Int) (q : List Int), s31 = .int .i64 k ∧ k ≤ S.length ∧ Gr.Sta R S c n k L q ∧ Gr.Bd L n ∧ VAt wr B lb B qb gl n c L q ∧ Below B w wr) (fun s31 _ => S.length - (intOf s31).toNat)
      case atStart => exact ⟨0, _, _, rfl, by omega, Gr.Sta.init R S c n, Gr.Bd.init n, hV, hb2⟩
      case round =>
        clear hV hb2 hsz
        rename_i w5
        obtain ⟨k, L, q, rfl, hk, hSt, hBd, hV, hb⟩ := hrel
        have hBw : Below w.heap.size w wr := by rw [← HBw.out]; exact hb
        have hszB : B ≤ wr.heap.size := by rw [HBw.out]; exact hBw.size
        by_cases hlt : k < S.length
        · have b2 : decide ((k : Int) < (S.length : Int)) = true := decide_eq_true (by omega)
          have b2n : decide (k < S.length) = true := decide_eq_true hlt
          have y2 : (k : Int) < (S.length : Int) := by omega
          obtain ⟨g, o, rfl, hg, hc⟩ := in_cell HA.out hlt
          have d0 := (hBw.cell (p := ⟨g, o + k, none⟩) hg).trans hc
          obtain ⟨b, hbb, hbn⟩ := HS.out S[k] (List.getElem_mem hlt)
          rw [hbb] at d0
          have HSt := Lib.hid (hSt.step hlt hbb hbn)
          have HBd := Lib.hid (hBd.vis (c := c) (x := 0) hbn (Int.le_refl _) (by have := Gr.ng_le L n; omega))
          have hql := hSt.bas.cnt
          have cc := visit_any b 0 B lb B qb gl n c L q wr hbn hV (by omega) hszB
          clear hc hbb hBd hSt hql hV hBw
          generalize Gr.visL c L b 0 = L' at *
          generalize Gr.visQ c L q b = q' at *
          go_wp2_with fail
          with_reducible refine cc.mono ?_
          clear cc
          rintro e w6 ⟨rfl, hV6, hb6⟩
          have HV6 := Lib.hid hV6
          have HB6 := Lib.hid (hb.trans hb6)
          clear hV6 hb hb6 d0
          go_wp2_with fail
          go_roundw
          case rel => exact ⟨k + 1, L', q', by go_num, by omega, HSt.out, HBd.out, HV6.out, HB6.out⟩
          case measure => simp [intOf]; omega
        · have b2 : decide ((k : Int) < (S.length : Int)) = false := decide_eq_false (by omega)
          have b2n : decide (k < S.length) = false := decide_eq_false hlt
          have hBf := hSt.done hlt
          clear hSt hBw hszB
          go_wp2_with fail
          go_loopg [] (q.length + Gr.ng L n) (fun gk wr => ∃ (L : Nat → Int) (q : List Int), q.length + Gr.ng L n = gk ∧ Gr.Bfs R S c n L q ∧ Gr.Bd L n ∧ VAt wr B lb B qb gl n c L q ∧ Below B w wr)
          case atStart => exact ⟨L, q, rfl, hBf, hBd, hV, hb⟩
          case round =>
            clear hBf hBd hV hb
            obtain ⟨L, q, hgk, hBf, hBd, hV, hb⟩ := hrel
            have HGK := Lib.hid hgk
            have hql := hBf.bas.cnt
            clear hgk
            obtain ⟨v, hqv, hqa, hv1, hv2⟩ := hV.ex
            cases q with
            | nil =>
              obtain ⟨ao, cap, rfl, _⟩ := hqa.ex
              have e9 : wr.cell? ⟨qb, 0, none⟩ = some (.slice ao 0 cap) := by rw [cell_of_row _ _ _ _ _ _ hqv]; rfl
              have e7 : wr.cell? ⟨lb, 0, none⟩ = some (.slice (some ⟨gl, 0, none⟩) n n) := by rw [cell_of_row _ _ _ _ _ _ hV.lv]; rfl
              have HL := Lib.hid hBf.lab
              have HBd0 := Lib.hid hBd
              have HRo := Lib.hid hV.row
              have HB := Lib.hid (show Below w.heap.size w wr by rw [← HBw.out]; exact hb)
              have HG := Lib.hid (show w.heap.size ≤ gl by rw [← HBw.out]; have := HN.out; omega)
              clear hBf hBd hV hb hqv hqa hv1 hv2 hql HGK
              go_wp2_with fail
              go_ret
              exact ⟨gl, rfl, L, HRo.out, HL.out, HBd0.out, HG.out, HB.out⟩
            | cons x t =>
              obtain ⟨a, rfl, han, hla⟩ := hBf.bas.qs x (by simp)
              obtain ⟨g, o, cap, rfl, hle, hmax, hx, hp1, hp2, hp3⟩ := hqa.head
              have hIn := hBf.pop
              have e9 : wr.cell? ⟨qb, 0, none⟩ = some (.slice (some ⟨g, o, none⟩) (t.length + 1) cap) := by rw [cell_of_row _ _ _ _ _ _ hqv]; rfl
              have f9 := frozen_of_row wr qb 0 _ _ hqv
              rw [List.length_cons] at hql
              have z1 : decide ((0 : Int) < ((t.length + 1 : Nat) : Int)) = true := decide_eq_true (by omega)
              have HM := Lib.hid (show t.length + Gr.ng L n + 1 = gk by have := HGK.out; rw [List.length_cons] at this; omega)
              have HV := Lib.hid hV
              have HIn := Lib.hid hIn
              have HQV := Lib.hid hqv
              have HB := Lib.hid hb
              clear hV hIn hqv hb hBf hv1 hv2 hqa HGK
              by_cases hcap : cap = 1
              · obtain ⟨rfl, hq1⟩ := hp2 hcap
                subst hcap
                have HQ1 := Lib.hid hq1
                clear hp1 hp2 hp3 hq1
                have HVp := HV.out.pop HQV.out HQ1.out rfl
                have hbp := HB.out.setCell (p := ⟨qb, 0, none⟩) HV.out.b1 (.slice (some ⟨g, o, none⟩) 0 0)
                go_upto_region 17 with (fail)
                generalize wr.setCell ⟨qb, 0, none⟩ (.slice (some ⟨g, o, none⟩) 0 0) = w7 at *
                clear e9 f9 hx HV HQV HB HQ1
                have hB7 : Below w.heap.size w w7 := by rw [← HBw.out]; exact hbp
                obtain ⟨Ar, cr, hcr, hatr⟩ := HW.out.read han
                have d7 := (hB7.cell (p := ⟨g0, a, none⟩) HW.out.lt).trans hcr
                have y3 : (a : Int) < (n : Int) := by omega
                have hrl := (HR.out a han).1
                have HAT := Lib.hid hatr
                clear hcr hatr hB7
                go_wp2_with fail
                clear d7
                obtain ⟨wo7, rfl⟩ : ∃ x : World, x = w7 := ⟨_, rfl⟩
                go_loopw [52] (fun s52 wq => ∃ (j : Nat) (L' : Nat → Int) (q : List Int), s52 = .int .i64 j ∧ j ≤ (R a).length ∧ q.length + Gr.ng L' n = ([] : List Int).length + Gr.ng L n ∧ Gr.Inn R S c n a j L' q ∧ Gr.Bd L' n ∧ VAt wq B lb B qb gl n c L' q ∧ Below B w wq) (fun s52 _ => (R a).length - (intOf s52).toNat)
                case atStart => exact ⟨0, L, _, rfl, by omega, rfl, HIn.out, hBd, HVp, hbp⟩
                case round =>
                  clear HVp hbp hBd
                  rename_i w9
                  obtain ⟨j, L', q, rfl, hj, hcnt, hIn, hBd, hV, hb⟩ := hrel
                  by_cases hlt2 : j < (R a).length
                  · have b3 : decide ((j : Int) < ((R a).length : Int)) = true := decide_eq_true (by omega)
                    have b3n : decide (j < (R a).length) = true := decide_eq_true hlt2
                    have y4 : (j : Int) < ((R a).length : Int) := by omega
                    have hBq : Below w.heap.size w wr := by rw [← HBw.out]; exact hb
                    have hszq : B ≤ wr.heap.size := by rw [HBw.out]; exact hBq.size
                    obtain ⟨g', o', rfl, hg', hc'⟩ := in_cell HAT.out hlt2
                    have d1 := (hBq.cell (p := ⟨g', o' + j, none⟩) hg').trans hc'
                    obtain ⟨b, hbb, hbn⟩ := (HR.out a han).2 (R a)[j] (List.getElem_mem hlt2)
                    rw [hbb] at d1
                    have e7 : wr.cell? ⟨lb, 0, none⟩ = some (.slice (some ⟨gl, 0, none⟩) n n) := by rw [cell_of_row _ _ _ _ _ _ hV.lv]; rfl
                    have e8 : wr.cell? ⟨gl, a, none⟩ = some (.int .i64 (L' a)) := hV.row.cell han
                    have hla2 := hIn.la
                    have hbd2 := hBd a
                    have hwr : IntKind.i64.wrap (L' a + 1) = L' a + 1 := IntWalk.i64_in _ (by omega)
                    have hqc := hIn.bas.cnt
                    have cc := visit_any b (L' a + 1) B lb B qb gl n c L' q wr hbn hV (by omega) hszq
                    have HI := Lib.hid (hIn.step hlt2 hbb hbn).1
                    have HBd := Lib.hid (hBd.vis (c := c) (x := L' a + 1) hbn (by omega) (by omega))
                    have HCN := Lib.hid ((Gr.vis_cnt (c := c) (L := L') (q := q) (x := L' a + 1) hbn (by omega)).trans hcnt)
                    clear hc' hbb hBd hIn hqc hV hBq hcnt hla2 hbd2
                    generalize Gr.visL c L' b (L' a + 1) = L2 at *
                    generalize Gr.visQ c L' q b = q2 at *
                    go_wp2_with fail
                    with_reducible refine cc.mono ?_
                    clear cc
                    rintro e w8 ⟨rfl, hV8, hb8⟩
                    have HV8 := Lib.hid hV8
                    have HB8 := Lib.hid (hb.trans hb8)
                    clear hV8 hb hb8 d1 e7 e8 hwr
                    go_wp2_with fail
                    go_roundw
                    case rel => exact ⟨j + 1, L2, q2, by go_num, by omega, HCN.out, HI.out, HBd.out, HV8.out, HB8.out⟩
                    case measure => simp [intOf]; omega
                  · have b3 : decide ((j : Int) < ((R a).length : Int)) = false := decide_eq_false (by omega)
                    have b3n : decide (j < (R a).length) = false := decide_eq_false hlt2
                    have HBf := Lib.hid (hIn.full hlt2)
                    have HCN := Lib.hid hcnt
                    have HBd := Lib.hid hBd
                    have HV9 := Lib.hid hV
                    have HB9 := Lib.hid hb
                    clear hIn hcnt hBd hV hb
                    go_wp2_with fail
                    go_roundg (([] : List Int).length + Gr.ng L n)
                    case measure => have := HM.out; omega
                    case rel => exact ⟨L', q, HCN.out, HBf.out, HBd.out, HV9.out, HB9.out⟩
              · have HQ1 := Lib.hid (if h : t.length + 1 < cap then hp1 h else hp3 (by omega) (by omega))
                have x1 : (1 : Int) < (cap : Int) := by omega
                have x2 : (t.length : Int) + 1 ≤ (cap : Int) := by omega
                have x3 : (1 : Int) ≤ (cap : Int) := by omega
                clear hp1 hp2 hp3
                have HVp := HV.out.pop HQV.out HQ1.out rfl
                have hbp := HB.out.setCell (p := ⟨qb, 0, none⟩) HV.out.b1 (.slice (some ⟨g, o + 1, none⟩) t.length (cap - 1))
                go_upto_region 17 with (fail)
                generalize wr.setCell ⟨qb, 0, none⟩ (.slice (some ⟨g, o + 1, none⟩) t.length (cap - 1)) = w7 at *
                clear e9 f9 hx HV HQV HB HQ1
                have hB7 : Below w.heap.size w w7 := by rw [← HBw.out]; exact hbp
                obtain ⟨Ar, cr, hcr, hatr⟩ := HW.out.read han
                have d7 := (hB7.cell (p := ⟨g0, a, none⟩) HW.out.lt).trans hcr
                have y3 : (a : Int) < (n : Int) := by omega
                have hrl := (HR.out a han).1
                have HAT := Lib.hid hatr
                clear hcr hatr hB7
                go_wp2_with fail
                clear d7
                obtain ⟨wo7, rfl⟩ : ∃ x : World, x = w7 := ⟨_, rfl⟩
                go_loopw [52] (fun s52 wq => ∃ (j : Nat) (L' : Nat → Int) (q : List Int), s52 = .int .i64 j ∧ j ≤ (R a).length ∧ q.length + Gr.ng L' n = t.length + Gr.ng L n ∧ Gr.Inn R S c n a j L' q ∧ Gr.Bd L' n ∧ VAt wq B lb B qb gl n c L' q ∧ Below B w wq) (fun s52 _ => (R a).length - (intOf s52).toNat)
                case atStart => exact ⟨0, L, _, rfl, by omega, rfl, HIn.out, hBd, HVp, hbp⟩
                case round =>
                  clear HVp hbp hBd
                  rename_i w9
                  obtain ⟨j, L', q, rfl, hj, hcnt, hIn, hBd, hV, hb⟩ := hrel
                  by_cases hlt2 : j < (R a).length
                  · have b3 : decide ((j : Int) < ((R a).length : Int)) = true := decide_eq_true (by omega)
                    have b3n : decide (j < (R a).length) = true := decide_eq_true hlt2
                    have y4 : (j : Int) < ((R a).length : Int) := by omega
                    have hBq : Below w.heap.size w wr := by rw [← HBw.out]; exact hb
                    have hszq : B ≤ wr.heap.size := by rw [HBw.out]; exact hBq.size
                    obtain ⟨g', o', rfl, hg', hc'⟩ := in_cell HAT.out hlt2
                    have d1 := (hBq.cell (p := ⟨g', o' + j, none⟩) hg').trans hc'
                    obtain ⟨b, hbb, hbn⟩ := (HR.out a han).2 (R a)[j] (List.getElem_mem hlt2)
                    rw [hbb] at d1
                    have e7 : wr.cell? ⟨lb, 0, none⟩ = some (.slice (some ⟨gl, 0, none⟩) n n) := by rw [cell_of_row _ _ _ _ _ _ hV.lv]; rfl
                    have e8 : wr.cell? ⟨gl, a, none⟩ = some (.int .i64 (L' a)) := hV.row.cell han
                    have hla2 := hIn.la
                    have hbd2 := hBd a
                    have hwr : IntKind.i64.wrap (L' a + 1) = L' a + 1 := IntWalk.i64_in _ (by omega)
                    have hqc := hIn.bas.cnt
                    have cc := visit_any b (L' a + 1) B lb B qb gl n c L' q wr hbn hV (by omega) hszq
                    have HI := Lib.hid (hIn.step hlt2 hbb hbn).1
                    have HBd := Lib.hid (hBd.vis (c := c) (x := L' a + 1) hbn (by omega) (by omega))
                    have HCN := Lib.hid ((Gr.vis_cnt (c := c) (L := L') (q := q) (x := L' a + 1) hbn (by omega)).trans hcnt)
                    clear hc' hbb hBd hIn hqc hV hBq hcnt hla2 hbd2
                    generalize Gr.visL c L' b (L' a + 1) = L2 at *
                    generalize Gr.visQ c L' q b = q2 at *
                    go_wp2_with fail
                    with_reducible refine cc.mono ?_
                    clear cc
                    rintro e w8 ⟨rfl, hV8, hb8⟩
                    have HV8 := Lib.hid hV8
                    have HB8 := Lib.hid (hb.trans hb8)
                    clear hV8 hb hb8 d1 e7 e8 hwr
                    go_wp2_with fail
                    go_roundw
                    case rel => exact ⟨j + 1, L2, q2, by go_num, by omega, HCN.out, HI.out, HBd.out, HV8.out, HB8.out⟩
                    case measure => simp [intOf]; omega
                  · have b3 : decide ((j : Int) < ((R a).length : Int)) = false := decide_eq_false (by omega)
                    have b3n : decide (j < (R a).length) = false := decide_eq_false hlt2
                    have HBf := Lib.hid (hIn.full hlt2)
                    have HCN := Lib.hid hcnt
                    have HBd := Lib.hid hBd
                    have HV9 := Lib.hid hV
                    have HB9 := Lib.hid hb
                    clear hIn hcnt hBd hV hb
                    go_wp2_with fail
                    go_roundg (t.length + Gr.ng L n)
                    case measure => have := HM.out; omega
                    case rel => exact ⟨L', q, HCN.out, HBf.out, HBd.out, HV9.out, HB9.out⟩
end Go.Proofs.YtjemffgidhgfjaaGreatDoor
end
section
namespace Go.Proofs.YtjemffgidhgfjaaGreatDoor
open Go.RowKit Go.Deep Tr

namespace Gr
/-- The nodes that a function chooses. -/
def chs (p : Nat → Bool) : Nat → List Int
  | 0 => []
  | k + 1 => chs p k ++ if p k then [(k : Int)] else []
theorem chs_succ (p : Nat → Bool) (k : Nat) : chs p (k + 1) = if p k = true then chs p k ++ [(k : Int)] else chs p k := by
  rw [chs]
  split <;> simp
theorem chs_len (p : Nat → Bool) : ∀ k, (chs p k).length ≤ k
  | 0 => Nat.le_refl _
  | k + 1 => by have := chs_len p k; rw [chs, List.length_append]; split <;> simp <;> omega
theorem mem_chs (p : Nat → Bool) : ∀ (n : Nat) (x : Int), x ∈ chs p n ↔ ∃ m : Nat, x = (m : Int) ∧ m < n ∧ p m = true
  | 0, x => by simp [chs]
  | n + 1, x => by
    rw [chs, List.mem_append, mem_chs p n x]
    constructor
    · rintro (⟨m, h1, h2, h3⟩ | h)
      · exact ⟨m, h1, by omega, h3⟩
      · by_cases hp : p n = true
        · rw [if_pos hp, List.mem_singleton] at h; exact ⟨n, h, by omega, hp⟩
        · rw [if_neg hp] at h; simp at h
    · rintro ⟨m, h1, h2, h3⟩
      by_cases e : m = n
      · subst e; right; rw [if_pos h3, List.mem_singleton]; exact h1
      · exact .inl ⟨m, h1, by omega, h3⟩
end Gr
theorem own_below {w w' : World} {B e size n : Nat} {v : Value} {xs : List Value} (h : w.ownsRow B e size v n xs) (hb : Below w.heap.size w w') : w'.ownsRow B e size v n xs :=
  own_same h fun g hg => by
    obtain ⟨c, fz, h5⟩ := Lib.ownsRow_kind h g hg
    exact hb.block g (blk_lt h5)
/-- A list of numbers of the call's own. -/
def GotIn (w : World) (l : List Int) : Ending → World → Prop := fun e w' => ∃ v, e = .returned v ∧ w'.ownsRow w.heap.size 3 1 v l.length (Gr.insV l) ∧ Below w.heap.size w w'
/-- The labels in a closure's variable. -/
structure LbAt (w : World) (lb gl n : Nat) (L : Nat → Int) : Prop where
  lv : w.heap[lb]? = some (.cells #[.slice (some ⟨gl, 0, none⟩) n n] 38 (0, 0))
  row : w.rowIs gl 3 n (fun i => .int .i64 (L i))
theorem LbAt.next {w w' : World} {lb gl n : Nat} {L : Nat → Int} (h : LbAt w lb gl n L) (hb : Below w.heap.size w w') : LbAt w' lb gl n L := ⟨(hb.block _ (blk_lt h.lv)).trans h.lv, h.row.of_block (hb.block _ h.row.lt)⟩
set_option maxHeartbeats 2000000 in
set_option maxRecDepth 100000 in
theorem led_any (m lb gl n : Nat) (L : Nat → Int) (w : World) (hm : m < n) (h : LbAt w lb gl n L) : Calls Tryz.prog 80 #[.int .i64 m, .pointer (some ⟨lb, 0, none⟩)] w fun e w' => e = .returned (.bool (decide (0 ≤ L m))) ∧ Below w.heap.size w w' := by
  have y1 : (m : Int) < (n : Int) := by omega
  have e1 : w.cell? ⟨lb, 0, none⟩ = some (.slice (some ⟨gl, 0, none⟩) n n) := by rw [cell_of_row _ _ _ _ _ _ h.lv]; rfl
  have e3 : w.cell? ⟨gl, m, none⟩ = some (.int .i64 (L m)) := h.row.cell hm
  clear h
  generalize L m = x at *
  generalize hd : decide (0 ≤ x) = d at *
  go_enter Tryz.func80, Tryz.ntmps80
  go_wp2_with fail
  go_ret
  exact ⟨by first | rfl | rw [hd], Below.refl _ _⟩
set_option maxHeartbeats 8000000 in
set_option maxRecDepth 100000 in
theorem chooseLed_any (g : Gph) (A B : Option Addr) (c d : Nat) (lb gl : Nat) (L : Nat → Int) (w : World) (hn : g.ns.length ≤ 1024) (hL : LbAt w lb gl g.ns.length L) :
    Calls Tryz.prog 65 #[grV A B c d g, .func (.func 80) #[] #[.pointer (some ⟨lb, 0, none⟩)]] w (GotIn w (Gr.chs (fun m => decide (0 ≤ L m)) g.ns.length)) := by
  obtain ⟨i0, hi0, hz0, hz1, hz2⟩ := info_parts infoIn
  have HLb := Lib.hid hL
  clear hL
  have hb0 : Below w.heap.size w (w.alloc (grO A B c d g)) := (Below.refl _ _).alloc (Nat.le_refl _) _
  have hG := heap_alloc_new w (grO A B c d g)
  obtain ⟨W, hW⟩ : ∃ W, W = w.alloc (grO A B c d g) := ⟨_, rfl⟩
  rw [← hW] at hb0 hG
  obtain ⟨q0, q1⟩ := gb_cells hG
  go_enter Tryz.func65, Tryz.ntmps65
  go_upto_region 2 with (fail)
  rw [← hW]
  clear hW
  go_wp2_with fail
  clear q0 q1 hG
  go_loopw [5, 10] (fun s5 s10 wr => ∃ k : Nat, s10 = .int .i64 k ∧ k ≤ g.ns.length ∧ wr.ownsRow w.heap.size 3 1 s5 (Gr.chs (fun m => decide (0 ≤ L m)) k).length (Gr.insV (Gr.chs (fun m => decide (0 ≤ L m)) k)) ∧ Below w.heap.size w wr) (fun _ s10 _ => g.ns.length - (intOf s10).toNat)
  case atStart => exact ⟨0, rfl, by omega, World.ownsRow_nil _ _ _ _, hb0⟩
  case round =>
    clear hb0
    obtain ⟨k, rfl, hk, hown, hb⟩ := hrel
    have hcl := Gr.chs_len (fun m => decide (0 ≤ L m)) k
    by_cases hlt : k < g.ns.length
    · have b1 : decide ((k : Int) < (g.ns.length : Int)) = true := decide_eq_true (by omega)
      have b1n : decide (k < g.ns.length) = true := decide_eq_true hlt
      have cc := led_any k lb gl g.ns.length L wr hlt (HLb.out.next hb)
      have HT := Lib.hid (Gr.chs_succ (fun m => decide (0 ≤ L m)) k)
      generalize hv : (decide (0 ≤ L k) : Bool) = v at *
      generalize Gr.chs (fun m => decide (0 ≤ L m)) k = T at *
      cases v with
      | false =>
        have HT' := Lib.hid (show Gr.chs (fun m => decide (0 ≤ L m)) (k + 1) = T from HT.out)
        clear HT hv
        go_wp2_with fail
        with_reducible refine cc.mono ?_
        clear cc
        rintro e w4 ⟨rfl, hb4⟩
        have HO := Lib.hid (own_below hown hb4)
        have HB := Lib.hid (hb.trans (hb4.mono hb.size))
        clear hown hb hb4
        go_wp2_with fail
        go_roundw
        case rel => exact ⟨k + 1, by go_num, by omega, by rw [HT'.out]; exact HO.out, HB.out⟩
        case measure => simp [intOf]; omega
      | true =>
        have HT' := Lib.hid (show Gr.chs (fun m => decide (0 ≤ L m)) (k + 1) = T ++ [(k : Int)] from HT.out)
        clear HT hv
        go_wp2_with fail
        with_reducible refine cc.mono ?_
        clear cc
        rintro e w4 ⟨rfl, hb4⟩
        have hown4 := own_below hown hb4
        have hb04 := hb.trans (hb4.mono hb.size)
        clear hown hb hb4
        have hsz := hb04.size
        go_wp2_with (at_builtin; refine wpList_append_own_wide _ (by rfl) _ _ 38 (by rfl) w.heap.size 3 i0 _ 1 8 Tryz.underlying38 hi0 hz0 hz1 hz2 rfl (by omega) _ T.length _ (by rfl) (hown4.alloc _) ⟨w4.heap.size, 0, none⟩ 1 1 [_] (by rfl) (by rfl) (World.news_of_block (cs := #[_]) (t := 3) (fr := (0, 0)) (heap_alloc_new w4 _)) (by simp [Value.oneCell']) (by unfold maxLen; omega) (by omega) (by simp; omega) ?_; intro v6 w6 hown6 hgrow6 _)
        have HO := Lib.hid hown6
        have HB := Lib.hid (below_grown (hb04.alloc hsz _) (by simp; omega) (hown4.alloc _) hgrow6)
        clear hown6 hgrow6 hown4 hb04
        go_wp2_with fail
        go_roundw
        case rel => exact ⟨k + 1, by go_num, by omega, by rw [HT'.out, List.length_append, List.length_singleton, Gr.insV_app, Gr.insV_one]; exact HO.out, HB.out⟩
        case measure => simp [intOf]; omega
    · have b1 : decide ((k : Int) < (g.ns.length : Int)) = false := decide_eq_false (by omega)
      have b1n : decide (k < g.ns.length) = false := decide_eq_false hlt
      have hkn : k = g.ns.length := by omega
      have HO := Lib.hid hown
      have HB := Lib.hid hb
      have HK := Lib.hid hkn
      clear hown hb hkn
      go_wp2_with fail
      go_ret
      exact ⟨_, rfl, by rw [← HK.out]; exact HO.out, HB.out⟩
end Go.Proofs.YtjemffgidhgfjaaGreatDoor
end
section
namespace Go.Proofs.YtjemffgidhgfjaaGreatDoor
open Go.RowKit Go.Deep Tr

namespace Gr
theorem row_mem {fw : Bool} {E : List Ed} {i : Nat} {x : Int} (h : x ∈ row fw E i) : ∃ y ∈ E, eA fw y = (i : Int) ∧ x = eB fw y := by
  unfold row at h
  rw [List.mem_map] at h
  obtain ⟨y, hy, rfl⟩ := h
  rw [List.mem_filter] at hy
  exact ⟨y, hy.1, by simpa using hy.2, rfl⟩
theorem mem_row {fw : Bool} {E : List Ed} {y : Ed} (hy : y ∈ E) {i : Nat} (h : eA fw y = (i : Int)) : eB fw y ∈ row fw E i := by
  unfold row
  exact List.mem_map.2 ⟨y, List.mem_filter.2 ⟨hy, by simpa using h⟩, rfl⟩
/-- A valid graph. -/
structure Ok (g : Gph) : Prop where
  nl : g.ns.length ≤ 1024
  el : g.es.length ≤ 1024
  ed : ∀ fw, ∀ x ∈ g.es, 0 ≤ eA fw x ∧ eA fw x < (g.ns.length : Int)
theorem chk_ok {g : Gph} (h : chk g = 0) : Ok g := by
  unfold chk at h
  by_cases h1 : big g = true
  · rw [if_pos h1] at h; cases h
  rw [if_neg h1] at h
  split at h
  · cases h
  split at h
  · cases h
  by_cases h4 : g.es.any (fun x => out g x) = true
  · rw [if_pos h4] at h; cases h
  clear h
  simp only [big, Bool.or_eq_true, decide_eq_true_eq, not_or] at h1
  refine ⟨by omega, by omega, fun fw x hx => ?_⟩
  have h5 : out g x = false := by
    cases hb : out g x with
    | false => rfl
    | true => exact absurd (List.any_eq_true.2 ⟨x, hx, hb⟩) h4
  simp only [out, isN, Bool.or_eq_false_iff, Bool.not_eq_false', Bool.and_eq_true, decide_eq_true_eq] at h5
  cases fw with
  | true => exact h5.1.1
  | false => exact h5.1.2
theorem eB_eq (fw : Bool) (x : Ed) : eB fw x = eA (!fw) x := by cases fw <;> rfl
theorem Ok.rows {g : Gph} (h : Ok g) (fw : Bool) : ∀ i, i < g.ns.length → (row fw g.es i).length ≤ 100000 ∧ ∀ x ∈ row fw g.es i, ∃ b : Nat, x = (b : Int) ∧ b < g.ns.length := fun i _ => by
  refine ⟨by have := row_len fw g.es i; have := h.el; omega, fun x hx => ?_⟩
  obtain ⟨y, hy, _, rfl⟩ := row_mem hx
  have := h.ed (!fw) y hy
  rw [← eB_eq] at this
  exact ⟨(eB fw y).toNat, by omega, by omega⟩
/-- What Reach and Back find. -/
def Rch (fw : Bool) (g : Gph) (a : Int) (l : List Int) : Prop :=
  if chk g = 0 ∧ isN g a = true then ∃ p : Nat → Bool, l = chs p g.ns.length ∧ ∀ m, p m = true ↔ ∃ k, Wk (row fw g.es) (row fw g.es a.toNat) (-1) k m else l = []
theorem lab_iff {R : Nat → List Int} {S : List Int} {c : Int} {L : Nat → Int} (h : Lab R S c L) (m : Nat) : decide (0 ≤ L m) = true ↔ ∃ k, Wk R S c k m := by
  rw [decide_eq_true_eq]
  exact ⟨fun hm => ⟨_, h.snd m hm⟩, fun ⟨k, hk⟩ => (h.all k m hk).1⟩
end Gr
theorem own_mono {w : World} {B B' e size n : Nat} {v : Value} {xs : List Value} (h : w.ownsRow B e size v n xs) (hb : B' ≤ B) : w.ownsRow B' e size v n xs :=
  ⟨h.1, h.2.imp id fun ⟨g, cap, cur, h1, h2, h3⟩ => ⟨g, cap, cur, h1, Nat.le_trans hb h2, h3⟩⟩
/-- A list that Reach or Back leaves. -/
def GotR (w : World) (fw : Bool) (g : Gph) (a : Int) : Ending → World → Prop := fun e w' => ∃ v, e = .returned v ∧ ∃ l, Gr.Rch fw g a l ∧ w'.ownsRow w.heap.size 3 1 v l.length (Gr.insV l) ∧ Below w.heap.size w w'
set_option maxHeartbeats 8000000 in
set_option maxRecDepth 100000 in
theorem behind_forward (g : Gph) (a : Int) (A B : Option Addr) (c d : Nat) (w : World) (hA : GrAt w A B g) :
    Calls Tryz.prog 53 #[grV A B c d g, .int .i64 a, .func (.func 51) #[] #[]] w (GotR w true g a) := by
  have hb0 : Below w.heap.size w (w.alloc (grO A B c d g)) := (Below.refl _ _).alloc (Nat.le_refl _) _
  have hG := heap_alloc_new w (grO A B c d g)
  obtain ⟨W, hW⟩ : ∃ W, W = w.alloc (grO A B c d g) := ⟨_, rfl⟩
  rw [← hW] at hb0 hG
  obtain ⟨q0, q1⟩ := gb_cells hG
  have HA := Lib.hid hA
  have c1 := check_any g A B c d W (hA.next hb0)
  have HC := Lib.hid (fun (h : Gr.chk g = 0) => Gr.chk_ok h)
  have HN := Lib.hid (show ¬ (Gr.chk g = 0 ∧ Gr.isN g a = true) → Gr.Rch true g a [] from fun h => by unfold Gr.Rch; rw [if_neg h])
  have HY := Lib.hid (show Gr.chk g = 0 → Gr.isN g a = true → ∀ l, (∃ p : Nat → Bool, l = Gr.chs p g.ns.length ∧ ∀ m, p m = true ↔ ∃ k, Gr.Wk (Gr.row true g.es) (Gr.row true g.es a.toNat) (-1) k m) → Gr.Rch true g a l from fun h1 h2 l h => by unfold Gr.Rch; rw [if_pos ⟨h1, h2⟩]; exact h)
  have HI := Lib.hid (show Gr.isN g a = true → 0 ≤ a ∧ a < (g.ns.length : Int) by unfold Gr.isN; rw [Bool.and_eq_true, decide_eq_true_eq, decide_eq_true_eq]; exact id)
  have c2 := fun w' => isNode_any g a A B c d w'
  clear hA
  go_enter Tryz.func53, Tryz.ntmps53
  go_upto_region 1 with (fail)
  rw [← hW]
  clear hW
  generalize Gr.chk g = z at *
  generalize Gr.isN g a = i1 at *
  go_wp2_with fail
  with_reducible refine c1.mono ?_
  clear c1
  rintro e w1 ⟨rfl, hb1⟩
  have hG1 := (hb1.block w.heap.size (blk_lt hG)).trans hG
  have hb01 := hb0.trans (hb1.mono hb0.size)
  clear hb1 hb0 hG q0 q1
  by_cases hz : z = 0
  · have z1 : (z != 0) = false := by rw [hz]; rfl
    have z2 : (z == 0) = true := by rw [hz]; rfl
    have HOk := Lib.hid (HC.out hz)
    obtain ⟨q0, q1⟩ := gb_cells hG1
    have c2 := c2 w1
    have HY2 := Lib.hid (HY.out hz)
    clear hz HY HC
    go_wp2_with fail
    with_reducible refine c2.mono ?_
    clear c2
    rintro e w2 ⟨rfl, hb2⟩
    have hG2 := (hb2.block w.heap.size (blk_lt hG1)).trans hG1
    have hb02 := hb01.trans (hb2.mono hb01.size)
    clear hb2 hb01 hG1 q0 q1
    cases i1 with
    | false =>
      have HT := Lib.hid (HN.out (fun h => by cases h.2))
      clear HN HY2 HI hG2
      go_wp2_with fail
      first | go_ret3 | go_ret2 | go_ret
      exact ⟨_, rfl, [], HT.out, World.ownsRow_nil _ _ _ _, hb02⟩
    | true =>
    have HY3 := Lib.hid (HY2.out rfl)
    obtain ⟨ha0, han⟩ := HI.out rfl
    clear HN HY2 HI
    obtain ⟨n, rfl⟩ : ∃ n : Nat, a = (n : Int) := ⟨a.toNat, by omega⟩
    have hnn : n < g.ns.length := by omega
    have cw := ways_forward g A B c d w2 (HA.out.next hb02) HOk.out.nl HOk.out.el (HOk.out.ed true)
    obtain ⟨q0, q1⟩ := gb_cells hG2
    clear ha0
    go_wp2_with fail
    with_reducible refine cw.mono ?_
    clear cw
    rintro e w3 ⟨g0, rfl, hWs, hb3⟩
    have hG3 := (hb3.block w.heap.size (blk_lt hG2)).trans hG2
    have hb03 := hb02.trans (hb3.mono hb02.size)
    clear hb3 hb02 hG2 q0 q1
    obtain ⟨Ar, cr, hcr, hat⟩ := hWs.read hnn
    have hrow := HOk.out.rows true
    have cl := lengths_any g.ns.length g0 _ _ Ar _ cr (-1) w3 hWs hat HOk.out.nl (hrow n hnn).1 (hrow n hnn).2 hrow
    have HY4 := Lib.hid (show ∀ L, Gr.Lab (Gr.row true g.es) (Gr.row true g.es n) (-1) L → Gr.Rch true g (n : Int) (Gr.chs (fun m => decide (0 ≤ L m)) g.ns.length) from fun L hL => HY3.out _ ⟨_, rfl, fun m => Gr.lab_iff hL m⟩)
    clear HY3 hWs hat hrow
    generalize Gr.row true g.es = R at *
    go_wp2_with fail
    with_reducible refine cl.mono ?_
    clear cl
    rintro e w4 ⟨gl, rfl, L, hrl, hLab, _, _, hb4⟩
    have hG4 := (hb4.block w.heap.size (blk_lt hG3)).trans hG3
    have hb04 := hb03.trans (hb4.mono hb03.size)
    have HR := Lib.hid (HY4.out L hLab)
    clear hb4 hb03 hG3 hcr hLab HY4
    have hlv := heap_alloc_new w4 (.cells #[.slice (some ⟨gl, 0, none⟩) g.ns.length g.ns.length] 38)
    have hG5 := (blk_alloc_lt w4 (.cells #[.slice (some ⟨gl, 0, none⟩) g.ns.length g.ns.length] 38) _ (blk_lt hG4)).trans hG4
    have hb05 := hb04.alloc hb04.size (.cells #[.slice (some ⟨gl, 0, none⟩) g.ns.length g.ns.length] 38)
    have ch := chooseLed_any g A B c d w4.heap.size gl L (w4.alloc (.cells #[.slice (some ⟨gl, 0, none⟩) g.ns.length g.ns.length] 38)) HOk.out.nl ⟨hlv, hrl.alloc _⟩
    obtain ⟨q0, q1⟩ := gb_cells hG5
    clear hlv hb04 hG4 hrl
    generalize Gr.chs (fun m => decide (0 ≤ L m)) g.ns.length = l at *
    go_wp2_with fail
    with_reducible refine ch.mono ?_
    clear ch
    rintro e w6 ⟨v, rfl, hown, hb6⟩
    have HO := Lib.hid (own_mono hown hb05.size)
    have HB := Lib.hid (hb05.trans (hb6.mono hb05.size))
    clear hown hb6 hb05 hG5 q0 q1
    go_wp2_with fail
    first | go_ret3 | go_ret2 | go_ret
    exact ⟨_, rfl, l, HR.out, HO.out, HB.out⟩
  · have z1 : (z != 0) = true := by rw [bne_iff_ne]; exact hz
    have z2 : (z == 0) = false := by rw [beq_eq_false_iff_ne]; exact hz
    have HT := Lib.hid (HN.out (fun h => hz h.1))
    clear HN HC HY HI hz c2 hG1
    go_wp2_with fail
    first | go_ret3 | go_ret2 | go_ret
    exact ⟨_, rfl, [], HT.out, World.ownsRow_nil _ _ _ _, hb01⟩
set_option maxHeartbeats 2000000 in
set_option maxRecDepth 100000 in
theorem reach_any (g : Gph) (a : Int) (A B : Option Addr) (c d : Nat) (w : World) (hA : GrAt w A B g) :
    Calls Tryz.prog 15 #[grV A B c d g, .int .i64 a] w (GotR w true g a) := by
  have hb0 : Below w.heap.size w (w.alloc (grO A B c d g)) := (Below.refl _ _).alloc (Nat.le_refl _) _
  have cc := behind_forward g a A B c d _ (hA.next hb0)
  go_enter Tryz.func15, Tryz.ntmps15
  go_wp2_with fail
  with_reducible refine cc.mono ?_
  clear cc
  rintro e w2 ⟨v, rfl, l, hR, hown, hb⟩
  have HO := Lib.hid (own_mono hown hb0.size)
  have HB := Lib.hid (hb0.trans (hb.mono hb0.size))
  have HR := Lib.hid hR
  clear hown hb hb0 hR
  go_wp2_with fail
  go_ret
  exact ⟨_, rfl, l, HR.out, HO.out, HB.out⟩
set_option maxHeartbeats 8000000 in
set_option maxRecDepth 100000 in
theorem behind_backward (g : Gph) (a : Int) (A B : Option Addr) (c d : Nat) (w : World) (hA : GrAt w A B g) :
    Calls Tryz.prog 53 #[grV A B c d g, .int .i64 a, .func (.func 62) #[] #[]] w (GotR w false g a) := by
  have hb0 : Below w.heap.size w (w.alloc (grO A B c d g)) := (Below.refl _ _).alloc (Nat.le_refl _) _
  have hG := heap_alloc_new w (grO A B c d g)
  obtain ⟨W, hW⟩ : ∃ W, W = w.alloc (grO A B c d g) := ⟨_, rfl⟩
  rw [← hW] at hb0 hG
  obtain ⟨q0, q1⟩ := gb_cells hG
  have HA := Lib.hid hA
  have c1 := check_any g A B c d W (hA.next hb0)
  have HC := Lib.hid (fun (h : Gr.chk g = 0) => Gr.chk_ok h)
  have HN := Lib.hid (show ¬ (Gr.chk g = 0 ∧ Gr.isN g a = true) → Gr.Rch false g a [] from fun h => by unfold Gr.Rch; rw [if_neg h])
  have HY := Lib.hid (show Gr.chk g = 0 → Gr.isN g a = true → ∀ l, (∃ p : Nat → Bool, l = Gr.chs p g.ns.length ∧ ∀ m, p m = true ↔ ∃ k, Gr.Wk (Gr.row false g.es) (Gr.row false g.es a.toNat) (-1) k m) → Gr.Rch false g a l from fun h1 h2 l h => by unfold Gr.Rch; rw [if_pos ⟨h1, h2⟩]; exact h)
  have HI := Lib.hid (show Gr.isN g a = true → 0 ≤ a ∧ a < (g.ns.length : Int) by unfold Gr.isN; rw [Bool.and_eq_true, decide_eq_true_eq, decide_eq_true_eq]; exact id)
  have c2 := fun w' => isNode_any g a A B c d w'
  clear hA
  go_enter Tryz.func53, Tryz.ntmps53
  go_upto_region 1 with (fail)
  rw [← hW]
  clear hW
  generalize Gr.chk g = z at *
  generalize Gr.isN g a = i1 at *
  go_wp2_with fail
  with_reducible refine c1.mono ?_
  clear c1
  rintro e w1 ⟨rfl, hb1⟩
  have hG1 := (hb1.block w.heap.size (blk_lt hG)).trans hG
  have hb01 := hb0.trans (hb1.mono hb0.size)
  clear hb1 hb0 hG q0 q1
  by_cases hz : z = 0
  · have z1 : (z != 0) = false := by rw [hz]; rfl
    have z2 : (z == 0) = true := by rw [hz]; rfl
    have HOk := Lib.hid (HC.out hz)
    obtain ⟨q0, q1⟩ := gb_cells hG1
    have c2 := c2 w1
    have HY2 := Lib.hid (HY.out hz)
    clear hz HY HC
    go_wp2_with fail
    with_reducible refine c2.mono ?_
    clear c2
    rintro e w2 ⟨rfl, hb2⟩
    have hG2 := (hb2.block w.heap.size (blk_lt hG1)).trans hG1
    have hb02 := hb01.trans (hb2.mono hb01.size)
    clear hb2 hb01 hG1 q0 q1
    cases i1 with
    | false =>
      have HT := Lib.hid (HN.out (fun h => by cases h.2))
      clear HN HY2 HI hG2
      go_wp2_with fail
      first | go_ret3 | go_ret2 | go_ret
      exact ⟨_, rfl, [], HT.out, World.ownsRow_nil _ _ _ _, hb02⟩
    | true =>
    have HY3 := Lib.hid (HY2.out rfl)
    obtain ⟨ha0, han⟩ := HI.out rfl
    clear HN HY2 HI
    obtain ⟨n, rfl⟩ : ∃ n : Nat, a = (n : Int) := ⟨a.toNat, by omega⟩
    have hnn : n < g.ns.length := by omega
    have cw := ways_backward g A B c d w2 (HA.out.next hb02) HOk.out.nl HOk.out.el (HOk.out.ed false)
    obtain ⟨q0, q1⟩ := gb_cells hG2
    clear ha0
    go_wp2_with fail
    with_reducible refine cw.mono ?_
    clear cw
    rintro e w3 ⟨g0, rfl, hWs, hb3⟩
    have hG3 := (hb3.block w.heap.size (blk_lt hG2)).trans hG2
    have hb03 := hb02.trans (hb3.mono hb02.size)
    clear hb3 hb02 hG2 q0 q1
    obtain ⟨Ar, cr, hcr, hat⟩ := hWs.read hnn
    have hrow := HOk.out.rows false
    have cl := lengths_any g.ns.length g0 _ _ Ar _ cr (-1) w3 hWs hat HOk.out.nl (hrow n hnn).1 (hrow n hnn).2 hrow
    have HY4 := Lib.hid (show ∀ L, Gr.Lab (Gr.row false g.es) (Gr.row false g.es n) (-1) L → Gr.Rch false g (n : Int) (Gr.chs (fun m => decide (0 ≤ L m)) g.ns.length) from fun L hL => HY3.out _ ⟨_, rfl, fun m => Gr.lab_iff hL m⟩)
    clear HY3 hWs hat hrow
    generalize Gr.row false g.es = R at *
    go_wp2_with fail
    with_reducible refine cl.mono ?_
    clear cl
    rintro e w4 ⟨gl, rfl, L, hrl, hLab, _, _, hb4⟩
    have hG4 := (hb4.block w.heap.size (blk_lt hG3)).trans hG3
    have hb04 := hb03.trans (hb4.mono hb03.size)
    have HR := Lib.hid (HY4.out L hLab)
    clear hb4 hb03 hG3 hcr hLab HY4
    have hlv := heap_alloc_new w4 (.cells #[.slice (some ⟨gl, 0, none⟩) g.ns.length g.ns.length] 38)
    have hG5 := (blk_alloc_lt w4 (.cells #[.slice (some ⟨gl, 0, none⟩) g.ns.length g.ns.length] 38) _ (blk_lt hG4)).trans hG4
    have hb05 := hb04.alloc hb04.size (.cells #[.slice (some ⟨gl, 0, none⟩) g.ns.length g.ns.length] 38)
    have ch := chooseLed_any g A B c d w4.heap.size gl L (w4.alloc (.cells #[.slice (some ⟨gl, 0, none⟩) g.ns.length g.ns.length] 38)) HOk.out.nl ⟨hlv, hrl.alloc _⟩
    obtain ⟨q0, q1⟩ := gb_cells hG5
    clear hlv hb04 hG4 hrl
    generalize Gr.chs (fun m => decide (0 ≤ L m)) g.ns.length = l at *
    go_wp2_with fail
    with_reducible refine ch.mono ?_
    clear ch
    rintro e w6 ⟨v, rfl, hown, hb6⟩
    have HO := Lib.hid (own_mono hown hb05.size)
    have HB := Lib.hid (hb05.trans (hb6.mono hb05.size))
    clear hown hb6 hb05 hG5 q0 q1
    go_wp2_with fail
    first | go_ret3 | go_ret2 | go_ret
    exact ⟨_, rfl, l, HR.out, HO.out, HB.out⟩
  · have z1 : (z != 0) = true := by rw [bne_iff_ne]; exact hz
    have z2 : (z == 0) = false := by rw [beq_eq_false_iff_ne]; exact hz
    have HT := Lib.hid (HN.out (fun h => hz h.1))
    clear HN HC HY HI hz c2 hG1
    go_wp2_with fail
    first | go_ret3 | go_ret2 | go_ret
    exact ⟨_, rfl, [], HT.out, World.ownsRow_nil _ _ _ _, hb01⟩
end Go.Proofs.YtjemffgidhgfjaaGreatDoor
end
section
namespace Go.Proofs.YtjemffgidhgfjaaGreatDoor
open Go.RowKit Go.Deep Tr

namespace Gr
/-- The edge leads from a node to one that is closer to the end. -/
def nx (L : Nat → Int) (n : Nat) (x : Ed) : Bool := (x.src == (n : Int)) && (L x.dst.toNat == L n - 1)
end Gr
set_option maxHeartbeats 4000000 in
set_option maxRecDepth 100000 in
theorem nxt_any (x : Ed) (n nb lb gl N : Nat) (L : Nat → Int) (w : World) (hn : n < N) (hd : 0 ≤ x.dst ∧ x.dst < (N : Int)) (hL : LbAt w lb gl N L) (hb : -1 ≤ L n ∧ L n ≤ 100000) (hnb : w.heap[nb]? = some (.cells #[.int .i64 n] 3 (0, 0))) :
    Calls Tryz.prog 64 #[edA x, .pointer (some ⟨nb, 0, none⟩), .pointer (some ⟨lb, 0, none⟩)] w fun e w' => e = .returned (.bool (Gr.nx L n x)) ∧ Below w.heap.size w w' := by
  obtain ⟨xs, xd, xp⟩ := x
  dsimp only at hd
  obtain ⟨b, rfl⟩ : ∃ b : Nat, xd = (b : Int) := ⟨xd.toNat, by omega⟩
  have hb0 : Below w.heap.size w (w.alloc (edO ⟨xs, b, xp⟩)).drew := ((Below.refl _ _).alloc (Nat.le_refl _) _).drew
  have hba : Below w.heap.size w (w.alloc (edO ⟨xs, b, xp⟩)) := (Below.refl _ _).alloc (Nat.le_refl _) _
  have hL2 := hL.next hba
  have hn2 := (hba.block _ (blk_lt hnb)).trans hnb
  have hxn := heap_alloc_new w (edO ⟨xs, b, xp⟩)
  have HV := Lib.hid (show Gr.nx L n ⟨xs, b, xp⟩ = ((xs == (n : Int)) && (L (b : Int).toNat == L n - 1)) from rfl)
  generalize Gr.nx L n ⟨xs, b, xp⟩ = V at *
  rw [edA_def]
  dsimp only
  have HBN := Lib.hid (show b < N by omega)
  have e0 : (w.alloc (edO ⟨xs, b, xp⟩)).cell? ⟨w.heap.size, 0, none⟩ = some (.int .i64 xs) := by rw [cell_of_row _ _ _ _ _ _ hxn]; rfl
  have e1 : (w.alloc (edO ⟨xs, b, xp⟩)).cell? ⟨w.heap.size, 1, none⟩ = some (.int .i64 b) := by rw [cell_of_row _ _ _ _ _ _ hxn]; rfl
  have f0 : (w.alloc (edO ⟨xs, b, xp⟩)).cell? ⟨nb, 0, none⟩ = some (.int .i64 n) := by rw [cell_of_row _ _ _ _ _ _ hn2]; rfl
  have f1 : (w.alloc (edO ⟨xs, b, xp⟩)).cell? ⟨lb, 0, none⟩ = some (.slice (some ⟨gl, 0, none⟩) N N) := by rw [cell_of_row _ _ _ _ _ _ hL2.lv]; rfl
  have f2 : (w.alloc (edO ⟨xs, b, xp⟩)).cell? ⟨gl, b, none⟩ = some (.int .i64 (L b)) := hL2.row.cell HBN.out
  have f3 : (w.alloc (edO ⟨xs, b, xp⟩)).cell? ⟨gl, n, none⟩ = some (.int .i64 (L n)) := hL2.row.cell hn
  rw [Int.toNat_natCast] at HV
  have y1 : (n : Int) < (N : Int) := by omega
  have y2 : (b : Int) < (N : Int) := by have := HBN.out; omega
  have hwr : IntKind.i64.wrap (L n - 1) = L n - 1 := IntWalk.i64_in _ (by omega)
  clear hL hL2 hnb hn2 hxn hba hd
  generalize L b = lv at *
  generalize L n = ln at *
  have HB := Lib.hid hb0
  clear hb0 hb
  by_cases hs : xs = (n : Int)
  · have s1 : (xs == (n : Int)) = true := by rw [hs]; simp
    generalize hq : (lv == ln - 1) = q at *
    have HT := Lib.hid (show V = q by rw [HV.out, s1]; rfl)
    clear HV hs
    go_enter Tryz.func64, Tryz.ntmps64
    go_upto_region 1 with (fail)
    go_region
    all_goals
      go_wp2_with fail
      go_ret
      exact ⟨by rw [HT.out]; first | rfl | rw [hq], HB.out⟩
  · have s1 : (xs == (n : Int)) = false := by rw [beq_eq_false_iff_ne]; exact hs
    have HT := Lib.hid (show V = false by rw [HV.out, s1]; rfl)
    clear HV hs
    go_enter Tryz.func64, Tryz.ntmps64
    go_upto_region 1 with (fail)
    refine wp_region_held_drew (S := (fun w' : World => w'.cell? ⟨w.heap.size, 0, none⟩ = some (.int .i64 xs) ∧ w'.cell? ⟨nb, 0, none⟩ = some (.int .i64 n))) (by kernel_rfl) ⟨e0, f0⟩ (fun hHeld => ?_)
    refine wpAnyH_take (i := 0) (oi := { dst := some 5, op := _, type := _, pos := _, after := _, guard := _ }) (v := ?v1) rfl (by kernel_rfl) (by kernel_rfl) (by kernel_rfl) (fun _ _ _ h => h) (Or.inl ⟨by kernel_rfl, ?hy1⟩) (by assumption) ?rest1
    case hy1 =>
      intro w hSw
      try dsimp only at hSw
      go_simp
      try with_reducible rfl
    try simp only [Act.put]
    refine wpAnyH_take (i := 1) (oi := { dst := some 6, op := _, type := _, pos := _, after := _, guard := _ }) (v := ?v2) rfl (by kernel_rfl) (by kernel_rfl) (by kernel_rfl) (fun _ _ _ h => h) (Or.inl ⟨by kernel_rfl, ?hy2⟩) (by assumption) ?rest2
    case hy2 =>
      intro w hSw
      try dsimp only at hSw
      go_simp
      try with_reducible rfl
    try simp only [Act.put]
    refine wpAnyH_take (i := 2) (oi := { dst := some 7, op := _, type := _, pos := _, after := _, guard := _ }) (v := ?v3) rfl (by kernel_rfl) (by kernel_rfl) (by kernel_rfl) (fun _ _ _ h => h) (Or.inl ⟨by kernel_rfl, ?hy3⟩) (by assumption) ?rest3
    case hy3 =>
      intro w hSw
      try dsimp only at hSw
      go_simp
      try with_reducible rfl
    try simp only [Act.put]
    refine wpAnyH_take (i := 3) (oi := { dst := some 8, op := _, type := _, pos := _, after := _, guard := _ }) (v := ?v4) rfl (by kernel_rfl) (by kernel_rfl) (by kernel_rfl) (fun _ _ _ h => h) (Or.inl ⟨by kernel_rfl, ?hy4⟩) (by assumption) ?rest4
    case hy4 =>
      intro w hSw
      try dsimp only at hSw
      go_simp
      try with_reducible rfl
    try simp only [Act.put]
    refine wpAnyH_take (i := 4) (oi := { dst := some 9, op := _, type := _, pos := _, after := _, guard := _ }) (v := ?v5) rfl (by kernel_rfl) (by kernel_rfl) (by kernel_rfl) (fun _ _ _ h => h) (Or.inl ⟨by kernel_rfl, ?hy5⟩) (by assumption) ?rest5
    case hy5 =>
      intro w hSw
      try dsimp only at hSw
      go_simp
      try with_reducible rfl
    try simp only [Act.put]
    refine wpAnyH_take (i := 5) (oi := { dst := some 10, op := _, type := _, pos := _, after := _, guard := _ }) (v := undef) rfl (by kernel_rfl) (by kernel_rfl) (by kernel_rfl) (fun _ _ _ h => h) (Or.inr ⟨by kernel_rfl, rfl⟩) (by assumption) ?_
    try simp only [Act.put]
    refine wpAnyH_take (i := 6) (oi := { dst := some 11, op := _, type := _, pos := _, after := _, guard := _ }) (v := undef) rfl (by kernel_rfl) (by kernel_rfl) (by kernel_rfl) (fun _ _ _ h => h) (Or.inr ⟨by kernel_rfl, rfl⟩) (by assumption) ?_
    try simp only [Act.put]
    refine wpAnyH_take (i := 7) (oi := { dst := some 12, op := _, type := _, pos := _, after := _, guard := _ }) (v := undef) rfl (by kernel_rfl) (by kernel_rfl) (by kernel_rfl) (fun _ _ _ h => h) (Or.inr ⟨by kernel_rfl, rfl⟩) (by assumption) ?_
    try simp only [Act.put]
    refine wpAnyH_take (i := 8) (oi := { dst := some 13, op := _, type := _, pos := _, after := _, guard := _ }) (v := undef) rfl (by kernel_rfl) (by kernel_rfl) (by kernel_rfl) (fun _ _ _ h => h) (Or.inr ⟨by kernel_rfl, rfl⟩) (by assumption) ?_
    try simp only [Act.put]
    refine wpAnyH_take (i := 9) (oi := { dst := some 14, op := _, type := _, pos := _, after := _, guard := _ }) (v := undef) rfl (by kernel_rfl) (by kernel_rfl) (by kernel_rfl) (fun _ _ _ h => h) (Or.inr ⟨by kernel_rfl, rfl⟩) (by assumption) ?_
    try simp only [Act.put]
    refine wpAnyH_take (i := 10) (oi := { dst := some 15, op := _, type := _, pos := _, after := _, guard := _ }) (v := undef) rfl (by kernel_rfl) (by kernel_rfl) (by kernel_rfl) (fun _ _ _ h => h) (Or.inr ⟨by kernel_rfl, rfl⟩) (by assumption) ?_
    try simp only [Act.put]
    refine wpAnyH_take (i := 11) (oi := { dst := some 16, op := _, type := _, pos := _, after := _, guard := _ }) (v := undef) rfl (by kernel_rfl) (by kernel_rfl) (by kernel_rfl) (fun _ _ _ h => h) (Or.inr ⟨by kernel_rfl, rfl⟩) (by assumption) ?_
    try simp only [Act.put]
    refine wpAnyH_take (i := 12) (oi := { dst := some 17, op := _, type := _, pos := _, after := _, guard := _ }) (v := undef) rfl (by kernel_rfl) (by kernel_rfl) (by kernel_rfl) (fun _ _ _ h => h) (Or.inr ⟨by kernel_rfl, rfl⟩) (by assumption) ?_
    try simp only [Act.put]
    refine wpAnyH_take (i := 13) (oi := { dst := some 18, op := _, type := _, pos := _, after := _, guard := _ }) (v := undef) rfl (by kernel_rfl) (by kernel_rfl) (by kernel_rfl) (fun _ _ _ h => h) (Or.inr ⟨by kernel_rfl, rfl⟩) (by assumption) ?_
    try simp only [Act.put]
    refine wpAnyH_take (i := 14) (oi := { dst := some 19, op := _, type := _, pos := _, after := _, guard := _ }) (v := undef) rfl (by kernel_rfl) (by kernel_rfl) (by kernel_rfl) (fun _ _ _ h => h) (Or.inr ⟨by kernel_rfl, rfl⟩) (by assumption) ?_
    try simp only [Act.put]
    refine wpAnyH_take (i := 15) (oi := { dst := some 20, op := _, type := _, pos := _, after := _, guard := _ }) (v := undef) rfl (by kernel_rfl) (by kernel_rfl) (by kernel_rfl) (fun _ _ _ h => h) (Or.inr ⟨by kernel_rfl, rfl⟩) (by assumption) ?_
    try simp only [Act.put]
    refine wpAnyH_take (i := 16) (oi := { dst := some 21, op := _, type := _, pos := _, after := _, guard := _ }) (v := ?v6) rfl (by kernel_rfl) (by kernel_rfl) (by kernel_rfl) (fun _ _ _ h => h) (Or.inl ⟨by kernel_rfl, ?hy6⟩) (by assumption) ?rest6
    case hy6 =>
      intro w hSw
      try dsimp only at hSw
      go_simp
      try with_reducible rfl
    try simp only [Act.put]
    refine wpAnyH_take (i := 17) (oi := { dst := some 4, op := _, type := _, pos := _, after := _, guard := _ }) (v := ?v7) rfl (by kernel_rfl) (by kernel_rfl) (by kernel_rfl) (fun _ _ _ h => h) (Or.inl ⟨by kernel_rfl, ?hy7⟩) (by assumption) ?rest7
    case hy7 =>
      intro w hSw
      try dsimp only at hSw
      go_simp
      try with_reducible rfl
    try simp only [Act.put]
    refine wpAnyH_done (by kernel_rfl) ?_ _
    try simp only [List.setIfInBounds_toArray, List.set_cons_zero, List.set_cons_succ]
    go_wp2_with fail
    go_ret
    exact ⟨by rw [HT.out]; rfl, HB.out⟩
end Go.Proofs.YtjemffgidhgfjaaGreatDoor
end
section
namespace Go.Proofs.YtjemffgidhgfjaaGreatDoor
open Go.RowKit Go.Deep Tr

set_option maxHeartbeats 4000000 in
set_option maxRecDepth 100000 in
theorem indexNxt_any (l : List Ed) (n nb lb gl N : Nat) (L : Nat → Int) (A0 : Option Addr) (c0 : Nat) (w : World) (hA : Gr.EdAt w w.heap.size A0 l) (hl : l.length ≤ 100000) (hn : n < N) (hd : ∀ x ∈ l, 0 ≤ x.dst ∧ x.dst < (N : Int)) (hL : LbAt w lb gl N L) (hb0 : -1 ≤ L n ∧ L n ≤ 100000) (hnb : w.heap[nb]? = some (.cells #[.int .i64 n] 3 (0, 0))) (hex : l.any (fun x => Gr.nx L n x) = true) :
    Calls Tryz.prog 63 #[.slice A0 l.length c0, .func (.func 64) #[] #[.pointer (some ⟨nb, 0, none⟩), .pointer (some ⟨lb, 0, none⟩)]] w fun e w' => ∃ i : Nat, e = .returned (.int .i64 i) ∧ (∃ h : i < l.length, Gr.nx L n l[i] = true ∧ (l.take i).any (fun x => Gr.nx L n x) = false) ∧ Below w.heap.size w w' := by
  have HAA := Lib.hid hA
  have HD := Lib.hid hd
  have HLb := Lib.hid hL
  have HNB := Lib.hid hnb
  have HEX := Lib.hid hex
  have HBD := Lib.hid hb0
  clear hA hd hL hnb hex hb0
  go_enter Tryz.func63, Tryz.ntmps63
  go_wp2_with fail
  go_loopw [8] (fun s8 wr => ∃ k : Nat, s8 = .int .i64 k ∧ k ≤ l.length ∧ (l.take k).any (fun x => Gr.nx L n x) = false ∧ Below w.heap.size w wr) (fun s8 _ => l.length - (intOf s8).toNat)
  case atStart => exact ⟨0, rfl, by omega, by simp, Below.refl _ _⟩
  case round =>
    obtain ⟨k, rfl, hk, hall, hb⟩ := hrel
    have HAL := Lib.hid hall
    clear hall
    by_cases hlt : k < l.length
    · have b1 : decide ((k : Int) < (l.length : Int)) = true := decide_eq_true (by omega)
      have b1n : decide (k < l.length) = true := decide_eq_true hlt
      have y2 : (k : Int) < (l.length : Int) := by omega
      obtain ⟨g0, o, rfl, hg, hc⟩ := HAA.out k hlt
      have hd0 := (hb.cell (p := ⟨g0, o + k * 3, none⟩) hg).trans (hc 0 _ rfl)
      have hd1 := (hb.cell (p := ⟨g0, o + k * 3 + 1, none⟩) hg).trans (hc 1 _ rfl)
      have hd2 := (hb.cell (p := ⟨g0, o + k * 3 + 2, none⟩) hg).trans (hc 2 _ rfl)
      clear hc
      have HTK := Lib.hid (show Gr.nx L n l[k] = false → (l.take (k + 1)).any (fun x => Gr.nx L n x) = false from fun h => Gr.any_take _ l k hlt HAL.out h)
      have HDK := HD.out l[k] (List.getElem_mem hlt)
      generalize hx : l[k] = x at hd0 hd1 hd2 HTK HDK
      have HX := Lib.hid hx
      clear hx
      have cc := nxt_any x n nb lb gl N L wr hn HDK (HLb.out.next hb) HBD.out ((hb.block _ (blk_lt HNB.out)).trans HNB.out)
      rw [edA_def] at cc
      clear HDK
      generalize hv : Gr.nx L n x = v at *
      cases v with
      | false =>
        have HN := Lib.hid (HTK.out rfl)
        clear HTK hv
        go_wp2_with fail
        with_reducible refine cc.mono ?_
        clear cc
        rintro e w4 ⟨rfl, hb4⟩
        have HB3 := Lib.hid (hb.trans (hb4.mono hb.size))
        clear hb4 hb hd0 hd1 hd2
        go_wp2_with fail
        go_roundw
        case rel => exact ⟨k + 1, by go_num, by omega, HN.out, HB3.out⟩
        case measure => simp [intOf]; omega
      | true =>
        have HP := Lib.hid (show Gr.nx L n l[k] = true by rw [HX.out]; exact hv)
        clear HTK hv
        go_wp2_with fail
        with_reducible refine cc.mono ?_
        clear cc
        rintro e w4 ⟨rfl, hb4⟩
        have HB3 := Lib.hid (hb.trans (hb4.mono hb.size))
        clear hb4 hb hd0 hd1 hd2
        go_wp2_with fail
        first | go_ret2 | go_ret
        exact ⟨k, rfl, ⟨hlt, HP.out, HAL.out⟩, HB3.out⟩
    · exfalso
      have h1 := Gr.any_full _ l k hlt HAL.out
      rw [HEX.out] at h1
      cases h1
end Go.Proofs.YtjemffgidhgfjaaGreatDoor
end
