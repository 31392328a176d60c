/- A list of calls that comes in, opened. No condition. -/
import Derived.Test.YtmbgblfoadojnaaDoorOpen
import Derived.Test.YtmbgblfoadojnaaDoorPLaw
import Derived.Deep.Slices
import Derived.Deep.Fields
import Derived.ChangeSame
namespace Go.Proofs.YtmbgblfoadojnaaDoor
open Go.ChangeShapes Go.WideShapes Go.ChangeAt Go.WideMaps Go.WideElems Go.RowKit Go.Deep

theorem three_of {α : Type} (l : List α) (h : l.length = 3) : ∃ a b c, l = [a, b, c] := by
  match l, h with
  | [a, b, c], _ => exact ⟨a, b, c, rfl⟩
set_option maxRecDepth 100000 in
/-- What an argument that is a list of calls gives the walk. -/
theorem open_acts_at {H : Type} {enc : TypeId × Value → H} {w : World} {held : Bool} {fuel : Nat} {cs : List Value} {x : DataW H × List MemPlace}
    (h : DataW.trod enc Tryd.prog w 0 (fun _ => true) held fuel 33 cs = some x) :
    ∃ (A : Option Addr) (c : Nat) (acts : List (Int × Int × Int)), cs = [.slice A acts.length c] ∧ ActsAt w w.heap.size A acts := by
  have cq : Tryd.prog.cellsOf 40 = 3 := by kernel_rfl
  rcases open_slice Tryd.underlying33 h with ⟨rfl, _⟩ | ⟨a, len, cap, m, n, D, Pl, rfl, _, hl, hmx, hmm, _, hi⟩
  · exact ⟨none, 0, [], rfl, fun i hi => by simp at hi⟩
  · simp only [if_true] at hmm
    have each : ∀ i, i < len → ∃ t : Int × Int × Int, w.cell? (a.add (i * 3)) = some (.int .u8 t.1) ∧ w.cell? (a.add (i * 3 + 1)) = some (.int .i64 t.2.1) ∧ w.cell? (a.add (i * 3 + 2)) = some (.int .i64 t.2.2) ∧ 0 ≤ t.1 ∧ t.1 ≤ 255 := by
      intro i hil
      obtain ⟨cs', hc, ht⟩ := hi i (by omega)
      rw [cq] at hc
      obtain ⟨xs, n2, _, hx, _, hlen, hg⟩ := DataW.trod_struct Tryd.underlying40 ht
      obtain ⟨_, hcl, hat⟩ := World.cells?_some hc
      obtain ⟨v0, v1, v2, rfl⟩ := three_of cs' hcl
      have h0 := hg 0 _ rfl
      have h1 := hg 1 _ rfl
      have h2 := hg 2 _ rfl
      change DataW.trod enc _ w 0 _ held n2 5 (List.take (Tryd.prog.cellsOf 5) [v0, v1, v2]) = xs[0]? at h0
      change DataW.trod enc _ w 0 _ held n2 3 (List.take (Tryd.prog.cellsOf 3) [v1, v2]) = xs[1]? at h1
      change DataW.trod enc _ w 0 _ held n2 3 (List.take (Tryd.prog.cellsOf 3) [v2]) = xs[2]? at h2
      rw [show Tryd.prog.cellsOf 5 = 1 by kernel_rfl] at h0
      rw [show Tryd.prog.cellsOf 3 = 1 by kernel_rfl] at h1 h2
      have hl2 : xs.length = 3 := hlen
      obtain ⟨x0, x1, x2, rfl⟩ := three_of xs hl2
      obtain ⟨z, hz, _, hk⟩ := DataW.trod_int Tryd.underlying5 h0
      obtain ⟨y, hy, _, _⟩ := DataW.trod_int Tryd.underlying3 h1
      obtain ⟨u, hu, _, _⟩ := DataW.trod_int Tryd.underlying3 h2
      simp only [List.take_succ_cons, List.take_zero, List.cons.injEq, and_true] at hz hy hu
      subst hz
      subst hy
      subst hu
      simp [Lit.wf] at hk
      have q1 : IntKind.u8.min = 0 := by rfl
      have q2 : IntKind.u8.max = 255 := by rfl
      refine ⟨(z, y, u), ?_, ?_, ?_, by show 0 ≤ z; omega, by show z ≤ 255; omega⟩
      · have := hat 0 (by decide)
        simpa [Addr.add] using this
      · have := hat 1 (by decide)
        rw [← Go.Deep.add_add]
        exact this
      · have := hat 2 (by decide)
        rw [← Go.Deep.add_add]
        exact this
    obtain ⟨y, hy⟩ := choose_lt each
    refine ⟨some a, cap, (List.range len).map y, by simp, fun i hi' => ?_⟩
    have hi1 : i < len := by simpa using hi'
    obtain ⟨h0, h1, h2, h3, h4⟩ := hy i hi1
    obtain ⟨g, o, rfl, hg⟩ := plain_of_cell (a := a) (by
      have := (hy 0 (by omega)).1
      rwa [Nat.zero_mul] at this)
    refine ⟨g, o, rfl, hg, ?_, ?_, ?_, by simpa using h3, by simpa using h4⟩
    · rw [add_plain] at h0
      simpa using h0
    · rw [add_plain] at h1
      simpa [Nat.add_assoc] using h1
    · rw [add_plain] at h2
      simpa [Nat.add_assoc] using h2
end Go.Proofs.YtmbgblfoadojnaaDoor
