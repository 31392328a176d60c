/- isTooLarge, isNode, Check's closures on names, forward, backward. No condition. -/
import Derived.Test.YtdiaejdoglccoaaEl
import Derived.Test.YtdiaejdoglccoaaShelf
import Derived.Deep.RegionHeld3
namespace Go.Proofs.Ytdiaejdoglccoaa
open Go.RowKit Go.Deep Tr

namespace Gr
def big (g : Gph) : Bool := decide (1024 < g.ns.length) || decide (1024 < g.es.length)
def isN (g : Gph) (n : Int) : Bool := decide (0 ≤ n) && decide (n < (g.ns.length : Int))
end Gr
/-- The block of a graph. -/
abbrev grO (A B : Option Addr) (c d : Nat) (g : Gph) : Obj := .cells #[.slice A g.ns.length c, .slice B g.es.length d] 25
def edA (x : Ed) : Value := .agg #[.int .i64 x.src, .int .i64 x.dst, .int .i64 x.stp]
theorem edA_def (x : Ed) : edA x = .agg #[.int .i64 x.src, .int .i64 x.dst, .int .i64 x.stp] := rfl
abbrev edO (x : Ed) : Obj := .cells #[.int .i64 x.src, .int .i64 x.dst, .int .i64 x.stp] 42
set_option maxHeartbeats 2000000 in
set_option maxRecDepth 100000 in
theorem large_any (g : Gph) (A B : Option Addr) (c d : Nat) (w : World) :
    Calls Try.prog 45 #[grV A B c d g] w fun e w' => e = .returned (.bool (Gr.big g)) ∧ Below w.heap.size w w' := by
  have hb0 : Below w.heap.size w (w.alloc (grO A B c d g)) := (Below.refl _ _).alloc (Nat.le_refl _) _
  have HV := Lib.hid (show Gr.big g = (decide (1024 < g.ns.length) || decide (1024 < g.es.length)) from rfl)
  generalize Gr.big g = V at *
  by_cases h1 : 1024 < g.ns.length
  · have d1 : decide ((1024 : Int) < (g.ns.length : Int)) = true := decide_eq_true (by omega)
    have d1n : decide (1024 < g.ns.length) = true := decide_eq_true h1
    have HT := Lib.hid (show V = true by rw [HV.out, d1n]; rfl)
    clear HV h1
    go_enter Try.func45, Try.ntmps45
    go_wp2_with fail
    go_ret
    exact ⟨by rw [HT.out]; rfl, hb0⟩
  · have d1 : decide ((1024 : Int) < (g.ns.length : Int)) = false := decide_eq_false (by omega)
    have d1n : decide (1024 < g.ns.length) = false := decide_eq_false h1
    generalize hd : decide (1024 < g.es.length) = d2 at *
    have d2i : decide ((1024 : Int) < (g.es.length : Int)) = d2 := by rw [← hd]; exact decide_eq_decide.2 (by omega)
    have HT := Lib.hid (show V = d2 by rw [HV.out, d1n]; rfl)
    clear HV h1
    go_enter Try.func45, Try.ntmps45
    go_wp2_with fail
    go_ret
    exact ⟨by rw [HT.out]; first | rfl | rw [hd] | rw [d2i], hb0⟩
set_option maxHeartbeats 2000000 in
set_option maxRecDepth 100000 in
theorem isNode_any (g : Gph) (n : Int) (A B : Option Addr) (c d : Nat) (w : World) :
    Calls Try.prog 38 #[grV A B c d g, .int .i64 n] w fun e w' => e = .returned (.bool (Gr.isN g n)) ∧ Below w.heap.size w w' := by
  have hb0 : Below w.heap.size w (w.alloc (grO A B c d g)) := (Below.refl _ _).alloc (Nat.le_refl _) _
  have HV := Lib.hid (show Gr.isN g n = (decide (0 ≤ n) && decide (n < (g.ns.length : Int))) from rfl)
  generalize Gr.isN g n = V at *
  by_cases h1 : 0 ≤ n
  · have d1 : decide (0 ≤ n) = true := decide_eq_true h1
    generalize hd : decide (n < (g.ns.length : Int)) = d2 at *
    have HT := Lib.hid (show V = d2 by rw [HV.out, d1]; rfl)
    clear HV h1
    go_enter Try.func38, Try.ntmps38
    go_wp2_with fail
    go_ret
    exact ⟨by rw [HT.out]; first | rfl | rw [hd], hb0⟩
  · have d1 : decide (0 ≤ n) = false := decide_eq_false h1
    have HT := Lib.hid (show V = false by rw [HV.out, d1]; rfl)
    clear HV h1
    go_enter Try.func38, Try.ntmps38
    go_wp2_with fail
    go_ret
    exact ⟨by rw [HT.out]; rfl, hb0⟩
set_option maxHeartbeats 2000000 in
set_option maxRecDepth 100000 in
theorem long_any (s : List UInt8) (w : World) : Calls Try.prog 47 #[.string (str s)] w fun e w' => e = .returned (.bool (decide (128 < s.length))) ∧ w' = w := by
  have hsz := str_size s
  generalize hd : decide (128 < s.length) = d at *
  have d1 : decide ((128 : Int) < ((str s).size : Int)) = d := by rw [← hd, hsz]; exact decide_eq_decide.2 (by omega)
  have d2 : decide (128 < (str s).size) = d := by rw [← hd, hsz]
  clear hsz
  go_enter Try.func47, Try.ntmps47
  go_wp2_with fail
  go_ret
  exact ⟨by first | rfl | rw [d1] | rw [d2], rfl⟩
set_option maxHeartbeats 2000000 in
set_option maxRecDepth 100000 in
theorem before_any (s t : List UInt8) (w : World) : Calls Try.prog 49 #[.string (str s), .string (str t)] w fun e w' => e = .returned (.bool (Op.bytesLess s t)) ∧ w' = w := by
  have hd : Op.bytesLess (str s).toList (str t).toList = Op.bytesLess s t := by rw [show (str s).toList = s by rw [ByteArray.toList_eq]; rfl, show (str t).toList = t by rw [ByteArray.toList_eq]; rfl]
  generalize Op.bytesLess s t = d at *
  go_enter Try.func49, Try.ntmps49
  go_wp2_with fail
  go_ret
  exact ⟨by first | rfl | rw [hd], rfl⟩
set_option maxHeartbeats 2000000 in
set_option maxRecDepth 100000 in
theorem forward_any (x : Ed) (w : World) : Calls Try.prog 30 #[edA x] w fun e w' => e = .returned (.tuple #[.int .i64 x.src, .int .i64 x.dst]) ∧ Below w.heap.size w w' := by
  have hb0 : Below w.heap.size w ((w.alloc (edO x)).drewN 1) := ((Below.refl _ _).alloc (Nat.le_refl _) _).drew
  rw [edA_def]
  go_enter Try.func30, Try.ntmps30
  go_upto_region 1 with (fail)
  go_region
  all_goals
    go_wp2_with fail
    first | go_ret | go_ret2
    exact ⟨rfl, hb0⟩
set_option maxHeartbeats 2000000 in
set_option maxRecDepth 100000 in
theorem backward_any (x : Ed) (w : World) : Calls Try.prog 33 #[edA x] w fun e w' => e = .returned (.tuple #[.int .i64 x.dst, .int .i64 x.src]) ∧ Below w.heap.size w w' := by
  have hb0 : Below w.heap.size w ((w.alloc (edO x)).drewN 1) := ((Below.refl _ _).alloc (Nat.le_refl _) _).drew
  rw [edA_def]
  go_enter Try.func33, Try.ntmps33
  go_upto_region 1 with (fail)
  go_region
  all_goals
    go_wp2_with fail
    first | go_ret | go_ret2
    exact ⟨rfl, hb0⟩
end Go.Proofs.Ytdiaejdoglccoaa
