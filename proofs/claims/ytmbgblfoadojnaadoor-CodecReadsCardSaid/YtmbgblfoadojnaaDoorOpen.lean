/- Values and calls that come in as structs, opened. No condition. -/
import Derived.Test.YtmbgblfoadojnaaDoorLift
import Derived.Lib.SmallJoins
namespace Go.Proofs.YtmbgblfoadojnaaDoor
open Go.ChangeShapes Go.WideShapes Go.ChangeAt Go.WideMaps Go.WideElems Go.RowKit Go.Deep

theorem strs_len {H : Type} {enc : TypeId × Value → H} {w : World} {held : Bool} {fuel : Nat} {A : Option Addr} {n c : Nat} {x : DataW H × List MemPlace}
    (h : DataW.trod enc Tryd.prog w 0 (fun _ => true) held fuel 29 [.slice A n c] = some x) : n ≤ 9223372036854775807 := by
  have cq : Tryd.prog.cellsOf 9 = 1 := by kernel_rfl
  rcases open_strs Tryd.underlying29 Tryd.underlying9 cq h with ⟨h1, _⟩ | ⟨a, len, cap, m, Sx, h1, _, hl, hm, _⟩
  · simp at h1; omega
  · simp at h1
    unfold maxLen at hm
    omega
theorem open_values {H : Type} {enc : TypeId × Value → H} {w : World} {r : Reach} {b0 : Nat} {v : Value} {d : DataW H} {p : List MemPlace}
    (hv : Value.okWide Tryd.prog w r b0 51 v) (h : DataW.Trod enc Tryd.prog w 0 (fun _ => true) true 51 v d p) :
    ∃ (n : Int) (s : ByteArray) (A : Option Addr) (c : Nat) (ns : List Int) (A' : Option Addr) (c' : Nat) (ss : List ByteArray), v = .agg #[.int .i64 n, .string s, .slice A ns.length c, .slice A' ss.length c'] ∧
      CellsAt w w.heap.size A (intsOf ns) ∧ CellsAt w w.heap.size A' (strsOf ss) ∧ ss.length ≤ 9223372036854775807 := by
  obtain ⟨v0, v1, v2, v3, y0, y1, y2, y3, f, rfl, _, _, h0, h1, h2, h3⟩ := Go.Joins.open_agg4 Tryd.underlying51 (by kernel_rfl) (by kernel_rfl) hv h
  obtain ⟨n, e0, _⟩ := DataW.trod_int Tryd.underlying3 h0
  obtain ⟨s, e1, _⟩ := DataW.trod_string Tryd.underlying9 h1
  obtain ⟨A, c, ns, e2, hA⟩ := open_ints_at h2
  obtain ⟨A', c', ss, e3, hA'⟩ := open_strs_at h3
  simp at e0 e1 e2 e3
  subst e0 e1 e2 e3
  exact ⟨n, s, A, c, ns, A', c', ss, rfl, hA, hA', strs_len h3⟩
theorem open_act {H : Type} {enc : TypeId × Value → H} {w : World} {r : Reach} {b0 : Nat} {v : Value} {d : DataW H} {p : List MemPlace}
    (hv : Value.okWide Tryd.prog w r b0 40 v) (h : DataW.Trod enc Tryd.prog w 0 (fun _ => true) true 40 v d p) :
    ∃ k lo hi : Int, v = .agg #[.int .u8 k, .int .i64 lo, .int .i64 hi] ∧ 0 ≤ k ∧ k ≤ 255 := by
  obtain ⟨v0, v1, v2, y0, y1, y2, f, rfl, _, _, h0, h1, h2⟩ := Go.Joins.open_agg3 Tryd.underlying40 (by kernel_rfl) (by kernel_rfl) hv h
  obtain ⟨k, e0, _, hk⟩ := DataW.trod_int Tryd.underlying5 h0
  obtain ⟨lo, e1, _⟩ := DataW.trod_int Tryd.underlying3 h1
  obtain ⟨hi, e2, _⟩ := DataW.trod_int Tryd.underlying3 h2
  simp at e0 e1 e2
  subst e0 e1 e2
  refine ⟨k, lo, hi, rfl, ?_⟩
  simp [Lit.wf] at hk
  have h1 : IntKind.u8.min = 0 := by rfl
  have h2 : IntKind.u8.max = 255 := by rfl
  omega
end Go.Proofs.YtmbgblfoadojnaaDoor
