/- The functions that read a list's next element. No condition but the string's length. -/
import Derived.Test.YtmbgblfoadojnaaDoorRead
namespace Go.Proofs.YtmbgblfoadojnaaDoor
open Go.RowKit

set_option maxHeartbeats 1000000 in
set_option maxRecDepth 100000 in
theorem numFn_any (b p0 p1 p2 : Nat) (low high : Int) (s : ByteArray) (err : Int) (w : World) (h : RdAt w b s err) (hs : s.size ≤ 1000000000)
    (k0 : w.cell? ⟨p0, 0, none⟩ = some (.pointer (some ⟨b, 0, none⟩))) (k1 : w.cell? ⟨p1, 0, none⟩ = some (.int .i64 low)) (k2 : w.cell? ⟨p2, 0, none⟩ = some (.int .i64 high)) :
    Calls Tryd.prog 46 #[.pointer (some ⟨p0, 0, none⟩), .pointer (some ⟨p1, 0, none⟩), .pointer (some ⟨p2, 0, none⟩)] w fun x w' =>
      x = .returned (.int .i64 (Cod.number low high ⟨s.data.toList, err⟩).1) ∧ RdAt w' b (str (Cod.number low high ⟨s.data.toList, err⟩).2.rest) (Cod.number low high ⟨s.data.toList, err⟩).2.err ∧ w.grownBy w' (some b) := by
  have hc := rdNumber_any b low high s err w h hs
  generalize Cod.number low high ⟨s.data.toList, err⟩ = D at *
  go_enter Tryd.func46, Tryd.ntmps46
  go_wp2_with fail
  refine hc.mono ?_
  clear hc
  rintro x w1 ⟨rfl, h1, hg1⟩
  go_wp2_with fail
  go_ret
  exact ⟨rfl, h1, hg1⟩
set_option maxHeartbeats 1000000 in
set_option maxRecDepth 100000 in
theorem txtFn_any (b p0 p1 : Nat) (most : Int) (s : ByteArray) (err : Int) (w : World) (h : RdAt w b s err) (hs : s.size ≤ 1000000000)
    (k0 : w.cell? ⟨p0, 0, none⟩ = some (.pointer (some ⟨b, 0, none⟩))) (k1 : w.cell? ⟨p1, 0, none⟩ = some (.int .i64 most)) :
    Calls Tryd.prog 48 #[.pointer (some ⟨p0, 0, none⟩), .pointer (some ⟨p1, 0, none⟩)] w fun x w' =>
      x = .returned (.string (str (Cod.text most ⟨s.data.toList, err⟩).1)) ∧ RdAt w' b (str (Cod.text most ⟨s.data.toList, err⟩).2.rest) (Cod.text most ⟨s.data.toList, err⟩).2.err ∧ w.grownBy w' (some b) := by
  have hc := rdText_any b most s err w h hs
  generalize Cod.text most ⟨s.data.toList, err⟩ = D at *
  go_enter Tryd.func48, Tryd.ntmps48
  go_wp2_with fail
  refine hc.mono ?_
  clear hc
  rintro x w1 ⟨rfl, h1, hg1⟩
  go_wp2_with fail
  go_ret
  exact ⟨rfl, h1, hg1⟩
end Go.Proofs.YtmbgblfoadojnaaDoor
