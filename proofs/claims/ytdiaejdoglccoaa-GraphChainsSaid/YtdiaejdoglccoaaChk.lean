/- Check. No condition but the lengths. -/
import Derived.Test.YtdiaejdoglccoaaAsc
namespace Go.Proofs.Ytdiaejdoglccoaa
open Go.RowKit Go.Deep Tr

namespace Gr
def chk (g : Gph) : Int := if big g then 10 else if g.ns.any (fun s => decide (128 < s.length)) then 2 else if !asc Op.bytesLess g.ns then 5 else if g.es.any (fun x => out g x) then 3 else if !asc lt g.es then 5 else 0
end Gr
/-- The two cells of a graph in a block. -/
theorem gb_cells {w : World} {gb : Nat} {A B : Option Addr} {c d : Nat} {g : Gph} (h : w.heap[gb]? = some (grO A B c d g)) : w.cell? ⟨gb, 0, none⟩ = some (.slice A g.ns.length c) ∧ w.cell? ⟨gb, 1, none⟩ = some (.slice B g.es.length d) :=
  ⟨by rw [cell_of_row _ _ _ _ _ _ h]; rfl, by rw [cell_of_row _ _ _ _ _ _ h]; rfl⟩
set_option maxHeartbeats 8000000 in
set_option maxRecDepth 100000 in
theorem check_any (g : Gph) (A B : Option Addr) (c d : Nat) (w : World) (hA : GrAt w A B g) :
    Calls Try.prog 24 #[grV A B c d g] w fun e w' => e = .returned (.int .i64 (Gr.chk g)) ∧ Below w.heap.size w w' := by
  have HV := Lib.hid (show Gr.chk g = if Gr.big g then 10 else if g.ns.any (fun s => decide (128 < s.length)) then 2 else if !Gr.asc Op.bytesLess g.ns then 5 else if g.es.any (fun x => Gr.out g x) then 3 else if !Gr.asc Gr.lt g.es then 5 else 0 from rfl)
  generalize Gr.chk g = V at *
  have hb0 : Below w.heap.size w (w.alloc (grO A B c d g)) := (Below.refl _ _).alloc (Nat.le_refl _) _
  have HA := Lib.hid hA
  have hG := heap_alloc_new w (grO A B c d g)
  obtain ⟨W, hW⟩ : ∃ W, W = w.alloc (grO A B c d g) := ⟨_, rfl⟩
  rw [← hW] at hb0 hG
  obtain ⟨q0, q1⟩ := gb_cells hG
  have cc := large_any g A B c d W
  have HBG := Lib.hid (show Gr.big g = (decide (1024 < g.ns.length) || decide (1024 < g.es.length)) from rfl)
  clear hA
  go_enter Try.func24, Try.ntmps24
  go_upto_region 1 with (fail)
  rw [← hW]
  clear hW
  generalize Gr.big g = bg at *
  go_wp2_with fail
  with_reducible refine cc.mono ?_
  clear cc
  rintro e w1 ⟨rfl, hb1⟩
  have hg1 := (hb1.block w.heap.size (blk_lt hG)).trans hG
  have hb01 := hb0.trans (hb1.mono hb0.size)
  clear hb1 hb0 hG q0 q1
  cases bg with
  | true =>
    have HT := Lib.hid (show V = 10 from HV.out)
    clear HV HBG
    go_wp2_with fail
    first | go_ret3 | go_ret2 | go_ret
    exact ⟨by rw [HT.out]; rfl, hb01⟩
  | false =>
  have HLL := Lib.hid (show g.ns.length ≤ 1024 ∧ g.es.length ≤ 1024 by
    have := HBG.out
    rw [eq_comm, Bool.or_eq_false_iff, decide_eq_false_iff_not, decide_eq_false_iff_not] at this
    omega)
  clear HBG
  have cc := containsLong_any g.ns A c w1 ((HA.out.next hb01).ns) (by have := HLL.out; omega)
  generalize g.ns.any (fun s => decide (128 < s.length)) = b2 at *
  obtain ⟨q0, q1⟩ := gb_cells hg1
  go_wp2_with fail
  with_reducible refine cc.mono ?_
  clear cc
  rintro e w2 ⟨rfl, hb2⟩
  have hg2 := (hb2.block w.heap.size (blk_lt hg1)).trans hg1
  have hb02 := hb01.trans (hb2.mono hb01.size)
  clear hb2 hb01 hg1 q0 q1
  cases b2 with
  | true =>
    have HT := Lib.hid (show V = 2 from HV.out)
    clear HV
    go_wp2_with fail
    first | go_ret3 | go_ret2 | go_ret
    exact ⟨by rw [HT.out]; rfl, hb02⟩
  | false =>
  have cc := ascendStr_any g.ns A c w2 ((HA.out.next hb02).ns) (by have := HLL.out; omega)
  generalize Gr.asc Op.bytesLess g.ns = b3 at *
  obtain ⟨q0, q1⟩ := gb_cells hg2
  go_wp2_with fail
  with_reducible refine cc.mono ?_
  clear cc
  rintro e w3 ⟨rfl, hb3⟩
  have hg3 := (hb3.block w.heap.size (blk_lt hg2)).trans hg2
  have hb03 := hb02.trans (hb3.mono hb02.size)
  clear hb3 hb02 hg2 q0 q1
  cases b3 with
  | false =>
    have HT := Lib.hid (show V = 5 from HV.out)
    clear HV
    go_wp2_with fail
    first | go_ret3 | go_ret2 | go_ret
    exact ⟨by rw [HT.out]; rfl, hb03⟩
  | true =>
  have cc := containsOut_any g.es g A B c d w.heap.size B d w3 ((HA.out.next hb03).es) (by have := HLL.out; omega) hg3
  generalize g.es.any (fun x => Gr.out g x) = b4 at *
  obtain ⟨q0, q1⟩ := gb_cells hg3
  go_wp2_with fail
  with_reducible refine cc.mono ?_
  clear cc
  rintro e w4 ⟨rfl, hb4⟩
  have hg4 := (hb4.block w.heap.size (blk_lt hg3)).trans hg3
  have hb04 := hb03.trans (hb4.mono hb03.size)
  clear hb4 hb03 hg3 q0 q1
  cases b4 with
  | true =>
    have HT := Lib.hid (show V = 3 from HV.out)
    clear HV
    go_wp2_with fail
    first | go_ret3 | go_ret2 | go_ret
    exact ⟨by rw [HT.out]; rfl, hb04⟩
  | false =>
  have cc := ascendEd_any g.es B d w4 ((HA.out.next hb04).es) (by have := HLL.out; omega)
  generalize Gr.asc Gr.lt g.es = b5 at *
  obtain ⟨q0, q1⟩ := gb_cells hg4
  go_wp2_with fail
  with_reducible refine cc.mono ?_
  clear cc
  rintro e w5 ⟨rfl, hb5⟩
  have hb05 := hb04.trans (hb5.mono hb04.size)
  clear hb5 hb04 hg4 q0 q1
  cases b5 with
  | false =>
    have HT := Lib.hid (show V = 5 from HV.out)
    clear HV
    go_wp2_with fail
    first | go_ret3 | go_ret2 | go_ret
    exact ⟨by rw [HT.out]; rfl, hb05⟩
  | true =>
    have HT := Lib.hid (show V = 0 from HV.out)
    clear HV
    go_wp2_with fail
    first | go_ret3 | go_ret2 | go_ret
    exact ⟨by rw [HT.out]; rfl, hb05⟩
end Go.Proofs.Ytdiaejdoglccoaa
