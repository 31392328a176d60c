/- How a row of a token's law is proved from its walk. Condition: the listed variables lie as the card ties them. -/
import Derived.Test.YtndehkoglgakpaaGreatDoorFmt
import Derived.Test.YtndehkoglgakpaaGreatDoorTie
import Derived.Test.YtndehkoglgakpaaGreatDoorCards
import Derived.ProofKit
import Derived.LaidMore
import Derived.LaidLaws
import Derived.OpenShut
import Derived.Stop.Joined
import Derived.SevenTiedAt
import Derived.Lib.LaidTab
import Derived.Deep.Strs
import Derived.Deep.Slices
import Derived.Deep.Fields
import Derived.ChangeSame
namespace Go.Proofs.YtndehkoglgakpaaGreatDoor
open Go.ChangeShapes Go.WideShapes Go.ChangeAt Go.WideMaps Go.WideElems Go.RowKit Go.Deep

theorem own : ownKnob Tryz.prog.godebug = none := by kernel_rfl
theorem laidOut : laidOutB Tryz.prog = true := by kernel_rfl
theorem gErr : Tryz.prog.globalNamed "strconv.ErrRange" = some 2 := by kernel_rfl
theorem tErr : (Tryz.prog.globals[2]?).map (·.type) = some 87 := by kernel_rfl
def laidV {H : Type} : List (String × DataW H) := [("math/bits.deBruijn32tab", Rows.laid_math_bits_deBruijn32tab), ("math/bits.deBruijn64tab", Rows.laid_math_bits_deBruijn64tab), ("internal/strconv.uint64pow10", Rows.laid_internal_strconv_uint64pow10), ("strconv.ErrRange", Rows.laid_strconv_ErrRange), ("strconv.ErrSyntax", Rows.laid_strconv_ErrSyntax)]
theorem door_met (os : Os) (args : Array Value) : laidMetH Tryz.prog laidV ((World.doorLaid Tryz.prog 400 os).forCall (fun _ _ => 0) ⟨#[], args, []⟩).memory :=
  laidMetH_of_parts3 (fuel := 8) (laidMet_of_run' 8 (by kernel_rfl) (by kernel_rfl)) (by kernel_rfl) (by kernel_rfl)
/-- What the condition gives the walks. -/
theorem errs_of {W : World} (h : laidMetH Tryz.prog laidV W) : Errs W := by
  rw [MakeChecks.laidMetH_plain _ _ _ (by kernel_rfl)] at h
  obtain ⟨ps, ⟨_, _, _, _, _, _, _, _, _, _, ⟨_, _, _, _, _, _, _, _, _, _, ⟨_, _, _, _, _, _, _, _, _, _, ⟨g0, t0, cs0, f0, p0, q0, hg0, ht0, hv0, hd0, _, _⟩, _⟩, _⟩, _⟩, _, _⟩ := h
  obtain rfl := Option.some.inj (gErr.symm.trans hg0)
  obtain rfl := Option.some.inj (tErr.symm.trans ht0)
  obtain ⟨l0⟩ := cs0
  obtain ⟨f1, u, v, rfl, hn, h1⟩ := iface_of_trod Tryz.underlying87 hd0
  exact ⟨u, v, by simpa using World.var?_cell hg0 hv0 0⟩
theorem gTab : Tryz.prog.globalNamed "internal/strconv.uint64pow10" = some 0 := by kernel_rfl
theorem tTab : (Tryz.prog.globals[0]?).map (·.type) = some 135 := by kernel_rfl
theorem tabs_of {W : World} (h : laidMetH Tryz.prog laidV W) : Tabs W := by
  rw [MakeChecks.laidMetH_plain _ _ _ (by kernel_rfl)] at h
  obtain ⟨ps, ⟨_, _, _, _, _, _, _, _, _, _, ⟨_, _, _, _, _, _, _, _, _, _, ⟨g0, t0, cs0, f0, p0, q0, hg0, ht0, hv0, hd0, _, _⟩, _⟩, _⟩, _, _⟩ := h
  obtain rfl := Option.some.inj (gTab.symm.trans hg0)
  obtain rfl := Option.some.inj (tTab.symm.trans ht0)
  have hl : (Rows.laid_internal_strconv_uint64pow10 : DataW Unit) = Lib.tabData .u64 Lib.pow10Tab := rfl
  rw [hl] at hd0
  have hc := Lib.cells_of_tab Tryz.underlying135 Tryz.underlying97 (by kernel_rfl) (by kernel_rfl) hd0
  unfold Tabs Lib.TabIs
  rw [hv0, ← hc]
theorem wf_lt {n : Int} (h : (Lit.int .u32 n).wf = true) : 0 ≤ n ∧ n < 4294967296 := by
  simp [Lit.wf] at h
  have q1 : IntKind.u32.min = 0 := by rfl
  have q2 : IntKind.u32.max = 4294967295 := by rfl
  omega
theorem plain_of_cell {w : World} {a : Addr} {v : Value} (h : w.cell? (a.add 0) = some v) : ∃ g o, a = ⟨g, o, none⟩ ∧ g < w.heap.size := by
  have h0 : a.add 0 = a := by simp [Addr.add]
  rw [h0] at h
  have hlt := World.block_lt_of_cell? w a h
  obtain ⟨g, o, s⟩ := a
  cases s with
  | none => exact ⟨g, o, rfl, hlt⟩
  | some x =>
    unfold World.cell? at h
    simp at h
    split at h <;> cases h
theorem two_of {α : Type} (l : List α) (h : l.length = 2) : ∃ a b, l = [a, b] := by
  match l, h with
  | [a, b], _ => exact ⟨a, b, rfl⟩
set_option maxRecDepth 100000 in
/-- What an argument that is a list of tokens gives the walk. -/
theorem open_tks_at {H : Type} {enc : TypeId × Value → H} {w : World} {held : Bool} {fuel : Nat} {cs : List Value} {x : DataW H × List MemPlace}
    (h : DataW.trod enc Tryz.prog w 0 (fun _ => true) held fuel 22 cs = some x) :
    ∃ (A : Option Addr) (c : Nat) (ts : List Tok.Tk), cs = [.slice A ts.length c] ∧ TksAt w w.heap.size A ts ∧ ts.length ≤ 9223372036854775807 := by
  have cq : Tryz.prog.cellsOf 45 = 2 := by kernel_rfl
  rcases open_slice Tryz.underlying22 h with ⟨rfl, _⟩ | ⟨a, len, cap, m, n, D, Pl, rfl, _, hl, hmx, hmm, _, hi⟩
  · exact ⟨none, 0, [], rfl, fun i hi => by simp at hi, by simp⟩
  · simp only [if_true] at hmm
    have each : ∀ i, i < len → ∃ t : Tok.Tk, w.cell? (a.add (i * 2)) = some (.int .i64 t.kind) ∧ w.cell? (a.add (i * 2 + 1)) = some (.string (str t.text)) := by
      intro i hil
      obtain ⟨cs', hc, ht⟩ := hi i (by omega)
      rw [cq] at hc
      obtain ⟨xs, n2, _, hx, _, hlen, hg⟩ := DataW.trod_struct Tryz.underlying45 ht
      obtain ⟨_, hcl, hat⟩ := World.cells?_some hc
      obtain ⟨v0, v1, rfl⟩ := two_of cs' hcl
      have h0 := hg 0 _ rfl
      have h1 := hg 1 _ rfl
      change DataW.trod enc _ w 0 _ held n2 3 (List.take (Tryz.prog.cellsOf 3) [v0, v1]) = xs[0]? at h0
      change DataW.trod enc _ w 0 _ held n2 9 (List.take (Tryz.prog.cellsOf 9) [v1]) = xs[1]? at h1
      rw [show Tryz.prog.cellsOf 3 = 1 by kernel_rfl] at h0
      rw [show Tryz.prog.cellsOf 9 = 1 by kernel_rfl] at h1
      have hl2 : xs.length = 2 := hlen
      obtain ⟨x0, x1, rfl⟩ := two_of xs hl2
      obtain ⟨z, hz, _, _⟩ := DataW.trod_int Tryz.underlying3 h0
      obtain ⟨s, hs, _, _⟩ := DataW.trod_string Tryz.underlying9 h1
      simp only [List.take_succ_cons, List.take_zero, List.cons.injEq, and_true] at hz hs
      subst hz
      subst hs
      refine ⟨⟨z, s.data.toList⟩, ?_, ?_⟩
      · have := hat 0 (by decide)
        simpa [Addr.add] using this
      · have := hat 1 (by decide)
        rw [str_of, ← Go.Deep.add_add]
        exact this
    obtain ⟨y, hy⟩ := choose_lt each
    refine ⟨some a, cap, (List.range len).map y, by simp, fun i hi' => ?_, by have : maxLen = 9223372036854775807 := rfl; simp; omega⟩
    have hi1 : i < len := by simpa using hi'
    obtain ⟨h0, h1⟩ := hy i hi1
    obtain ⟨g, o, rfl, hg⟩ := plain_of_cell (a := a) (by
      have := (hy 0 (by omega)).1
      rwa [Nat.zero_mul] at this)
    refine ⟨g, o, rfl, hg, ?_, ?_⟩
    · rw [add_plain] at h0
      simpa using h0
    · rw [add_plain] at h1
      simpa [Nat.add_assoc] using h1
theorem three_of {α : Type} (l : List α) (h : l.length = 3) : ∃ a b c, l = [a, b, c] := by
  match l, h with
  | [a, b, c], _ => exact ⟨a, b, c, rfl⟩
set_option maxRecDepth 100000 in
/-- What an argument that is a formula gives the walk. -/
theorem open_ops_at {H : Type} {enc : TypeId × Value → H} {w : World} {held : Bool} {fuel : Nat} {cs : List Value} {x : DataW H × List MemPlace}
    (h : DataW.trod enc Tryz.prog w 0 (fun _ => true) held fuel 26 cs = some x) :
    ∃ (A : Option Addr) (c : Nat) (ts : List Ex.Op), cs = [.slice A ts.length c] ∧ OpsAt w w.heap.size A ts ∧ ts.length ≤ 9223372036854775807 ∧ ∀ o ∈ ts, 0 ≤ o.n ∧ o.n < 4294967296 := by
  have cq : Tryz.prog.cellsOf 42 = 3 := by kernel_rfl
  rcases open_slice Tryz.underlying26 h with ⟨rfl, _⟩ | ⟨a, len, cap, m, n, D, Pl, rfl, _, hl, hmx, hmm, _, hi⟩
  · exact ⟨none, 0, [], rfl, fun i hi => by simp at hi, by simp, fun o ho => by simp at ho⟩
  · simp only [if_true] at hmm
    have each : ∀ i, i < len → ∃ t : Ex.Op, w.cell? (a.add (i * 3)) = some (.int .i64 t.kind) ∧ w.cell? (a.add (i * 3 + 1)) = some (.string (str t.text)) ∧ w.cell? (a.add (i * 3 + 2)) = some (.int .u32 t.n) ∧ 0 ≤ t.n ∧ t.n < 4294967296 := by
      intro i hil
      obtain ⟨cs', hc, ht⟩ := hi i (by omega)
      rw [cq] at hc
      obtain ⟨xs, n2, _, hx, _, hlen, hg⟩ := DataW.trod_struct Tryz.underlying42 ht
      obtain ⟨_, hcl, hat⟩ := World.cells?_some hc
      obtain ⟨v0, v1, v2, rfl⟩ := three_of cs' hcl
      have h0 := hg 0 _ rfl
      have h1 := hg 1 _ rfl
      have h2 := hg 2 _ rfl
      change DataW.trod enc _ w 0 _ held n2 3 (List.take (Tryz.prog.cellsOf 3) [v0, v1, v2]) = xs[0]? at h0
      change DataW.trod enc _ w 0 _ held n2 9 (List.take (Tryz.prog.cellsOf 9) [v1, v2]) = xs[1]? at h1
      change DataW.trod enc _ w 0 _ held n2 37 (List.take (Tryz.prog.cellsOf 37) [v2]) = xs[2]? at h2
      rw [show Tryz.prog.cellsOf 3 = 1 by kernel_rfl] at h0
      rw [show Tryz.prog.cellsOf 9 = 1 by kernel_rfl] at h1
      rw [show Tryz.prog.cellsOf 37 = 1 by kernel_rfl] at h2
      have hl2 : xs.length = 3 := hlen
      obtain ⟨x0, x1, x2, rfl⟩ := three_of xs hl2
      obtain ⟨z, hz, _, _⟩ := DataW.trod_int Tryz.underlying3 h0
      obtain ⟨s, hs, _, _⟩ := DataW.trod_string Tryz.underlying9 h1
      obtain ⟨u, hu, _, hwf⟩ := DataW.trod_int Tryz.underlying37 h2
      simp only [List.take_succ_cons, List.take_zero, List.cons.injEq, and_true] at hz hs hu
      subst hz
      subst hs
      subst hu
      refine ⟨⟨z, s.data.toList, u⟩, ?_, ?_, ?_, wf_lt hwf⟩
      · have := hat 0 (by decide)
        simpa [Addr.add] using this
      · have := hat 1 (by decide)
        rw [str_of, ← Go.Deep.add_add]
        exact this
      · have := hat 2 (by decide)
        rw [← Go.Deep.add_add]
        exact this
    obtain ⟨y, hy⟩ := choose_lt each
    refine ⟨some a, cap, (List.range len).map y, by simp, fun i hi' => ?_, by have : maxLen = 9223372036854775807 := rfl; simp; omega, fun o ho => by
      obtain ⟨i, hi, rfl⟩ := List.mem_map.1 ho
      exact (hy i (by simpa using hi)).2.2.2⟩
    have hi1 : i < len := by simpa using hi'
    obtain ⟨h0, h1, h2, _⟩ := hy i hi1
    obtain ⟨g, o, rfl, hg⟩ := plain_of_cell (a := a) (by
      have := (hy 0 (by omega)).1
      rwa [Nat.zero_mul] at this)
    refine ⟨g, o, rfl, hg, ?_, ?_, ?_⟩
    · rw [add_plain] at h0
      simpa using h0
    · rw [add_plain] at h1
      simpa [Nat.add_assoc] using h1
    · rw [add_plain] at h2
      simpa [Nat.add_assoc] using h2
end Go.Proofs.YtndehkoglgakpaaGreatDoor
