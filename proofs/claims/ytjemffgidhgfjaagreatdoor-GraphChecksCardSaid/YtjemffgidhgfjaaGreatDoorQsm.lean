/- Same of the reference, at one graph in two places. No condition but the lengths. -/
import Derived.Test.YtjemffgidhgfjaaGreatDoorQof
import Derived.BigQuiet
namespace Go.Proofs.YtjemffgidhgfjaaGreatDoor
open Go.RowKit Go.Deep Tr

set_option maxHeartbeats 8000000 in
set_option maxRecDepth 100000 in
theorem qsame_any (g : Gph) (A B A' B' : Option Addr) (c d c' d' : Nat) (w : World) (h1 : GrAt w A B g) (h2 : GrAt w A' B' g) :
    Calls Tryz.prog 12 #[grV A B c d g, grV A' B' c' d' g] w fun e w' => e = .returned (.bool true) ∧ Below w.heap.size w w' := by
  obtain ⟨W, hW⟩ : ∃ W, W = (w.alloc (.cells #[.slice A g.ns.length c, .slice B g.es.length d] 25)).alloc (.cells #[.slice A' g.ns.length c', .slice B' g.es.length d'] 25) := ⟨_, rfl⟩
  have HBW := Lib.hid (show Below w.heap.size w W by rw [hW]; exact ((Below.refl _ _).alloc (Nat.le_refl _) _).alloc (by simp) _)
  have hA : W.heap[w.heap.size]? = some (.cells #[.slice A g.ns.length c, .slice B g.es.length d] 25 (0, 0)) := by rw [hW]; exact (blk_alloc_lt _ _ _ (by simp)).trans (heap_alloc_new w _)
  have hB : W.heap[w.heap.size + 1]? = some (.cells #[.slice A' g.ns.length c', .slice B' g.es.length d'] 25 (0, 0)) := by
    have h := heap_alloc_new (w.alloc (.cells #[.slice A g.ns.length c, .slice B g.es.length d] 25)) (.cells #[.slice A' g.ns.length c', .slice B' g.es.length d'] 25)
    rw [show (w.alloc (.cells #[.slice A g.ns.length c, .slice B g.es.length d] 25)).heap.size = w.heap.size + 1 by simp] at h
    rw [hW]
    exact h
  have H1 := Lib.hid (h1.next HBW.out)
  have H2 := Lib.hid (h2.next HBW.out)
  have hnl := h1.nl
  have hml := h1.el
  have HA := Lib.hid hA
  have HB := Lib.hid hB
  clear h1 h2
  obtain ⟨q0, q1, _, _⟩ := gr_cells hA
  obtain ⟨p0, p1, _, _⟩ := gr_cells hB
  have nn : (g.ns.length != g.ns.length) = false := by simp
  have nN : ((g.ns.length : Int) != (g.ns.length : Int)) = false := by simp
  have mm : (g.es.length != g.es.length) = false := by simp
  have mM : ((g.es.length : Int) != (g.es.length : Int)) = false := by simp
  clear hA hB
  go_enter Tryz.func12, Tryz.ntmps12
  go_upto_region 1 with (fail)
  rw [← hW]
  clear hW
  go_wp2_with fail
  clear q0 q1 p0 p1
  go_loopw [5] (fun s5 wr => ∃ k : Nat, s5 = .int .i64 k ∧ k ≤ g.ns.length ∧ Below W.heap.size W wr) (fun s5 _ => g.ns.length - (intOf s5).toNat)
  case atStart => exact ⟨0, rfl, Nat.zero_le _, Below.refl _ _⟩
  case round =>
    obtain ⟨k, rfl, hk, hb⟩ := hrel
    have HB1 := Lib.hid hb
    obtain ⟨q0, q1, _, _⟩ := gr_cells ((hb.block _ (blk_lt HA.out)).trans HA.out)
    obtain ⟨p0, p1, _, _⟩ := gr_cells ((hb.block _ (blk_lt HB.out)).trans HB.out)
    clear hb
    by_cases hlt : k < g.ns.length
    · have c1 : decide ((k : Int) < (g.ns.length : Int)) = true := decide_eq_true (by omega)
      have c1n : decide (k < g.ns.length) = true := decide_eq_true hlt
      have y1 : (k : Int) < (g.ns.length : Int) := by omega
      obtain ⟨ga, oa, rfl, _, ha⟩ := (H1.out.next HB1.out).ns k hlt
      obtain ⟨gb, ob, rfl, _, hb⟩ := (H2.out.next HB1.out).ns k hlt
      have ea := ha 0 _ rfl
      have eb := hb 0 _ rfl
      rw [Nat.mul_one, Nat.add_zero] at ea eb
      have e1 : ((str g.ns[k]).toList == (str g.ns[k]).toList) = true := beq_self_eq_true _
      have HB2 := Lib.hid (fun n => show Below W.heap.size W (wr.drewN n) from HB1.out.trans ⟨rfl, rfl, rfl, Nat.le_refl _, fun _ _ => rfl⟩)
      clear ha hb
      generalize g.ns[k] = x at *
      go_upto_region 6 with (fail)
      go_quiet (fail)
      go_wp2_with fail
      go_roundw
      case rel => exact ⟨k + 1, by go_num, by omega, HB2.out _⟩
      case measure => simp [intOf]; omega
    · have c1 : decide ((k : Int) < (g.ns.length : Int)) = false := decide_eq_false (by omega)
      have c1n : decide (k < g.ns.length) = false := decide_eq_false hlt
      go_wp2_with fail
      clear q0 q1 p0 p1
      go_loopw [6] (fun s6 w2 => ∃ m : Nat, s6 = .int .i64 m ∧ m ≤ g.es.length ∧ Below W.heap.size W w2) (fun s6 _ => g.es.length - (intOf s6).toNat)
      case atStart => exact ⟨0, rfl, Nat.zero_le _, HB1.out⟩
      case round =>
        clear HB1
        obtain ⟨m, rfl, hm, hb⟩ := hrel
        have HB1 := Lib.hid hb
        obtain ⟨q0, q1, _, _⟩ := gr_cells ((hb.block _ (blk_lt HA.out)).trans HA.out)
        obtain ⟨p0, p1, _, _⟩ := gr_cells ((hb.block _ (blk_lt HB.out)).trans HB.out)
        clear hb
        by_cases hlm : m < g.es.length
        · have m1 : decide ((m : Int) < (g.es.length : Int)) = true := decide_eq_true (by omega)
          have m1n : decide (m < g.es.length) = true := decide_eq_true hlm
          have y2 : (m : Int) < (g.es.length : Int) := by omega
          obtain ⟨ga, oa, rfl, _, ha⟩ := (H1.out.next HB1.out).es m hlm
          obtain ⟨gb, ob, rfl, _, hb⟩ := (H2.out.next HB1.out).es m hlm
          have ea0 := ha 0 _ rfl
          have ea1 := ha 1 _ rfl
          have ea2 := ha 2 _ rfl
          have eb0 := hb 0 _ rfl
          have eb1 := hb 1 _ rfl
          have eb2 := hb 2 _ rfl
          rw [show oa + m * 3 + 0 = oa + m * 3 from rfl] at ea0
          rw [show ob + m * 3 + 0 = ob + m * 3 from rfl] at eb0
          have HB2 := Lib.hid (fun n => show Below W.heap.size W (wr.drewN n) from HB1.out.trans ⟨rfl, rfl, rfl, Nat.le_refl _, fun _ _ => rfl⟩)
          clear ha hb
          generalize g.es[m] = x at *
          go_upto_region 11 with (fail)
          go_quiet (fail)
          go_wp2_with fail
          go_roundw
          case rel => exact ⟨m + 1, by go_num, by omega, HB2.out _⟩
          case measure => simp [intOf]; omega
        · have m1 : decide ((m : Int) < (g.es.length : Int)) = false := decide_eq_false (by omega)
          have m1n : decide (m < g.es.length) = false := decide_eq_false hlm
          have HBF := Lib.hid (HBW.out.trans (HB1.out.mono HBW.out.size))
          go_wp2_with fail
          first | go_ret3 | go_ret2 | go_ret
          exact ⟨rfl, HBF.out⟩
end Go.Proofs.YtjemffgidhgfjaaGreatDoor
