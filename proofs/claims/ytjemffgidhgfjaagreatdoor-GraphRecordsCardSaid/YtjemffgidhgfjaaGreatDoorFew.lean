/- Few of the reference: it answers. No condition but the lengths. -/
import Derived.Test.YtjemffgidhgfjaaGreatDoorAwg
namespace Go.Proofs.YtjemffgidhgfjaaGreatDoor
open Go.RowKit Go.Deep Tr

set_option maxHeartbeats 8000000 in
set_option maxRecDepth 100000 in
theorem few_any (g : Gph) (A B : Option Addr) (c d : Nat) (w : World) (hA : GrAt w A B g) :
    Calls Tryz.prog 6 #[grV A B c d g] w fun e w' => ∃ b, e = .returned (.bool b) ∧ Below w.heap.size w w' := by
  have hb0 : Below w.heap.size w (w.alloc (grO A B c d g)) := (Below.refl _ _).alloc (Nat.le_refl _) _
  have hG := heap_alloc_new w (grO A B c d g)
  obtain ⟨W, hW⟩ : ∃ W, W = w.alloc (grO A B c d g) := ⟨_, rfl⟩
  rw [← hW] at hb0 hG
  obtain ⟨q0, q1⟩ := gb_cells hG
  have hns := hA.next hb0
  have HA := Lib.hid hns
  have HB := Lib.hid hb0
  have hnl := hA.nl
  clear hA hns hG hb0
  go_enter Tryz.func6, Tryz.ntmps6
  go_upto_region 1 with (fail)
  rw [← hW]
  clear hW
  by_cases h1 : 1024 < g.ns.length
  · have d1 : decide ((1024 : Int) < (g.ns.length : Int)) = true := decide_eq_true (by omega)
    have d1n : decide (1024 < g.ns.length) = true := decide_eq_true h1
    go_wp2_with fail
    go_ret
    exact ⟨_, rfl, HB.out⟩
  have d1 : decide ((1024 : Int) < (g.ns.length : Int)) = false := decide_eq_false (by omega)
  have d1n : decide (1024 < g.ns.length) = false := decide_eq_false h1
  by_cases h2 : 1024 < g.es.length
  · have d2 : decide ((1024 : Int) < (g.es.length : Int)) = true := decide_eq_true (by omega)
    have d2n : decide (1024 < g.es.length) = true := decide_eq_true h2
    go_wp2_with fail
    go_ret
    exact ⟨_, rfl, HB.out⟩
  have d2 : decide ((1024 : Int) < (g.es.length : Int)) = false := decide_eq_false (by omega)
  have d2n : decide (1024 < g.es.length) = false := decide_eq_false h2
  go_wp2_with fail
  go_loopw [3] (fun s3 wr => ∃ k : Nat, s3 = .int .i64 k ∧ k ≤ g.ns.length ∧ wr = W) (fun s3 _ => g.ns.length - (intOf s3).toNat)
  case atStart => exact ⟨0, rfl, by omega, rfl⟩
  case round =>
    obtain ⟨k, rfl, hk, rfl⟩ := hrel
    by_cases hlt : k < g.ns.length
    · have b1 : decide ((k : Int) < (g.ns.length : Int)) = true := decide_eq_true (by omega)
      have b1n : decide (k < g.ns.length) = true := decide_eq_true hlt
      have y2 : (k : Int) < (g.ns.length : Int) := by omega
      obtain ⟨gb, oo, rfl, hg, hc⟩ := HA.out.ns k hlt
      have hd0 : wr.cell? ⟨gb, oo + k, none⟩ = some (.string (str g.ns[k])) := by
        have h := hc 0 _ rfl
        rw [Nat.mul_one] at h
        exact h
      have hsz := str_size g.ns[k]
      clear hc
      generalize g.ns[k] = s at *
      clear hsz
      by_cases h3 : 200 < (str s).size
      · have d3 : decide ((200 : Int) < ((str s).size : Int)) = true := decide_eq_true (by omega)
        have d3n : decide (200 < (str s).size) = true := decide_eq_true h3
        go_wp2_with fail
        go_ret
        exact ⟨_, rfl, HB.out⟩
      have d3 : decide ((200 : Int) < ((str s).size : Int)) = false := decide_eq_false (by omega)
      have d3n : decide (200 < (str s).size) = false := decide_eq_false h3
      go_wp2_with fail
      go_roundw
      case rel => exact ⟨k + 1, by go_num, by omega, (by first | rfl | trivial)⟩
      case measure => simp [intOf]; omega
    · have b1 : decide ((k : Int) < (g.ns.length : Int)) = false := decide_eq_false (by omega)
      have b1n : decide (k < g.ns.length) = false := decide_eq_false hlt
      by_cases h3 : g.ns.length ≤ 12
      · have d3 : decide ((g.ns.length : Int) ≤ 12) = true := decide_eq_true (by omega)
        have d3n : decide (g.ns.length ≤ 12) = true := decide_eq_true h3
        go_wp2_with fail
        go_ret
        exact ⟨_, rfl, HB.out⟩
      · have d3 : decide ((g.ns.length : Int) ≤ 12) = false := decide_eq_false (by omega)
        have d3n : decide (g.ns.length ≤ 12) = false := decide_eq_false h3
        go_wp2_with fail
        go_ret
        exact ⟨_, rfl, HB.out⟩
end Go.Proofs.YtjemffgidhgfjaaGreatDoor
