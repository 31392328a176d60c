/- How a row of a codec's law is proved from its walk. Condition: the library's tables lie in their variables, as the card ties them. -/
import Derived.Test.YtmbgblfoadojnaaDoorLists
import Derived.Test.YtmbgblfoadojnaaDoorTie
import Derived.Test.YtmbgblfoadojnaaDoorCards
import Derived.ProofKit
import Derived.LaidMore
import Derived.OpenShut
import Derived.Stop.Joined
import Derived.SevenTiedAt
import Derived.Lib.LaidTab
import Derived.Deep.Strs
namespace Go.Proofs.YtmbgblfoadojnaaDoor
open Go.ChangeShapes Go.WideShapes Go.ChangeAt Go.WideMaps Go.WideElems Go.RowKit Go.Deep

theorem own : ownKnob Tryd.prog.godebug = none := by kernel_rfl
theorem laidOut : laidOutB Tryd.prog = true := by kernel_rfl
theorem gTab : Tryd.prog.globalNamed "internal/strconv.uint64pow10" = some 0 := by kernel_rfl
theorem tTab : (Tryd.prog.globals[0]?).map (·.type) = some 92 := by kernel_rfl
def laidV {H : Type} : List (String × DataW H) := [("math/bits.deBruijn32tab", Rows.laid_math_bits_deBruijn32tab), ("math/bits.deBruijn64tab", Rows.laid_math_bits_deBruijn64tab), ("internal/strconv.uint64pow10", Rows.laid_internal_strconv_uint64pow10)]
theorem door_met (os : Os) (args : Array Value) : laidMetH Tryd.prog laidV ((World.doorLaid Tryd.prog 400 os).forCall (fun _ _ => 0) ⟨#[], args, []⟩).memory :=
  laidMetH_of_parts3 (fuel := 8) (laidMet_of_run' 8 (by kernel_rfl) (by kernel_rfl)) (by kernel_rfl) (by kernel_rfl)
/-- What the condition gives the walks. -/
theorem tabs_of {W : World} (h : laidMetH Tryd.prog laidV W) : Tabs W := by
  rw [MakeChecks.laidMetH_plain _ _ _ (by kernel_rfl)] at h
  obtain ⟨ps, ⟨_, _, _, _, _, _, _, _, _, _, ⟨_, _, _, _, _, _, _, _, _, _, ⟨g0, t0, cs0, f0, p0, q0, hg0, ht0, hv0, hd0, _, _⟩, _⟩, _⟩, _, _⟩ := h
  obtain rfl := Option.some.inj (gTab.symm.trans hg0)
  obtain rfl := Option.some.inj (tTab.symm.trans ht0)
  have hl : (Rows.laid_internal_strconv_uint64pow10 : DataW Unit) = Lib.tabData .u64 Lib.pow10Tab := rfl
  rw [hl] at hd0
  have hc := Lib.cells_of_tab Tryd.underlying92 Tryd.underlying83 (by kernel_rfl) (by kernel_rfl) hd0
  unfold Tabs Lib.TabIs
  rw [hv0, ← hc]
theorem plain_of_cell {w : World} {a : Addr} {v : Value} (h : w.cell? (a.add 0) = some v) : ∃ g o, a = ⟨g, o, none⟩ ∧ g < w.heap.size := by
  have h0 : a.add 0 = a := by simp [Addr.add]
  rw [h0] at h
  have hlt := World.block_lt_of_cell? w a h
  obtain ⟨g, o, s⟩ := a
  cases s with
  | none => exact ⟨g, o, rfl, hlt⟩
  | some x =>
    unfold World.cell? at h
    simp at h
    split at h <;> cases h
/-- What an argument that is a list of numbers gives the walk. -/
theorem open_ints_at {H : Type} {enc : TypeId × Value → H} {w : World} {held : Bool} {fuel : Nat} {cs : List Value} {x : DataW H × List MemPlace}
    (h : DataW.trod enc Tryd.prog w 0 (fun _ => true) held fuel 22 cs = some x) :
    ∃ (A : Option Addr) (c : Nat) (zs : List Int), cs = [.slice A zs.length c] ∧ CellsAt w w.heap.size A (intsOf zs) := by
  have cq : Tryd.prog.cellsOf 3 = 1 := by kernel_rfl
  rcases open_slice1 Tryd.underlying22 cq h with ⟨rfl, _⟩ | ⟨a, len, cap, m, n, V, D, Pl, rfl, _, hl, _, hmm, _, hx⟩
  · exact ⟨none, 0, [], rfl, fun i hi => by simp [intsOf] at hi⟩
  · simp only [if_true] at hmm
    have each : ∀ i, i < len → ∃ z : Int, V i = .int .i64 z := by
      intro i hi
      obtain ⟨z, hc, _, _⟩ := DataW.trod_int Tryd.underlying3 (hx i (by omega)).2
      exact ⟨z, by simpa using hc⟩
    obtain ⟨y, hy⟩ := choose_lt each
    refine ⟨some a, cap, (List.range len).map y, by simp, fun i hi => ?_⟩
    have hi1 : i < len := by simpa [intsOf] using hi
    obtain ⟨g, o, rfl, hg⟩ := plain_of_cell (hx 0 (by omega)).1
    have h1 := (hx i (by omega)).1
    rw [add_plain, hy i hi1] at h1
    exact ⟨g, o, rfl, hg, by simpa [intsOf] using h1⟩
/-- What an argument that is a list of strings gives the walk. -/
theorem open_strs_at {H : Type} {enc : TypeId × Value → H} {w : World} {held : Bool} {fuel : Nat} {cs : List Value} {x : DataW H × List MemPlace}
    (h : DataW.trod enc Tryd.prog w 0 (fun _ => true) held fuel 29 cs = some x) :
    ∃ (A : Option Addr) (c : Nat) (zs : List ByteArray), cs = [.slice A zs.length c] ∧ CellsAt w w.heap.size A (strsOf zs) := by
  have cq : Tryd.prog.cellsOf 9 = 1 := by kernel_rfl
  rcases open_strs Tryd.underlying29 Tryd.underlying9 cq h with ⟨rfl, _⟩ | ⟨a, len, cap, m, Sx, rfl, _, hl, _, hmm, _, hx⟩
  · exact ⟨none, 0, [], rfl, fun i hi => by simp [strsOf] at hi⟩
  · simp only [if_true] at hmm
    refine ⟨some a, cap, (List.range len).map Sx, by simp, fun i hi => ?_⟩
    have hi1 : i < len := by simpa [strsOf] using hi
    obtain ⟨g, o, rfl, hg⟩ := plain_of_cell (hx 0 (by omega)).1
    have h1 := (hx i (by omega)).1
    rw [add_plain] at h1
    exact ⟨g, o, rfl, hg, by simpa [strsOf] using h1⟩
end Go.Proofs.YtmbgblfoadojnaaDoor
