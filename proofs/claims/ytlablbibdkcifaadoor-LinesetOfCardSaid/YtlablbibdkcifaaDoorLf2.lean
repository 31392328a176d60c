/- An argument that is a list of lines, as the row's lift opens it. No condition. -/
import Derived.Test.YtlablbibdkcifaaDoorLft
import Derived.Test.YtlablbibdkcifaaDoorOlw
namespace Go.Proofs.YtlablbibdkcifaaDoor
open Go.ChangeShapes Go.WideShapes Go.ChangeAt Go.WideMaps Go.WideElems Go.RowKit Go.Deep Tr

section
variable {H : Type} {enc : TypeId × Value → H}
/-- A line as it lies. -/
def LnnAt (w : World) (a : Addr) (i : Nat) (s : Ls.Ln) : Prop := w.cell? (a.add (i * 2)) = some (.string (str s.1)) ∧ w.cell? (a.add (i * 2 + 1)) = some (.int .i64 s.2)
set_option maxRecDepth 100000 in
theorem open_lns_at {w : World} {held : Bool} {fuel : Nat} {cs : List Value} {x : DataW H × List MemPlace}
    (h : DataW.trod enc Tryd.prog w 0 (fun _ => true) held fuel 29 cs = some x) (hz : (x.1.weights Tryd.prog 29).all (· ≤ reachBytes) = true) :
    ∃ (A : Option Addr) (c : Nat) (l : List Ls.Ln), cs = [.slice A l.length c] ∧ LnRaw w A l := by
  have cq : Tryd.prog.cellsOf 25 = 2 := by kernel_rfl
  rcases open_slice Tryd.underlying29 h with ⟨rfl, _⟩ | ⟨a, len, cap, m, n, D, Pl, rfl, _, hl, hmx, hmm, rfl, hi⟩
  · exact ⟨none, 0, [], rfl, Ls.ElAt.nil _ _ _ _ _, by simp⟩
  · simp only [if_true] at hmm
    have hrb : reachBytes = 140737488351232 := rfl
    have each : ∀ i, i < len → ∃ t : Ls.Ln, LnnAt w a i t := by
      intro i hil
      obtain ⟨cs', hc, ht⟩ := hi i (by omega)
      rw [cq] at hc
      obtain ⟨xs, n2, _, hx, _, hlen, hg⟩ := DataW.trod_struct Tryd.underlying25 ht
      obtain ⟨_, hcl, hat⟩ := World.cells?_some hc
      obtain ⟨v0, v1, rfl⟩ := two_of cs' hcl
      obtain ⟨x0, x1, rfl⟩ := two_of xs hlen
      have h0 := hg 0 _ rfl
      have h1 := hg 1 _ rfl
      change DataW.trod enc _ w 0 _ held n2 9 (List.take (Tryd.prog.cellsOf 9) [v0, v1]) = some x0 at h0
      change DataW.trod enc _ w 0 _ held n2 3 (List.take (Tryd.prog.cellsOf 3) [v1]) = some x1 at h1
      rw [show Tryd.prog.cellsOf 9 = 1 by kernel_rfl, List.take_succ_cons, List.take_zero] at h0
      rw [show Tryd.prog.cellsOf 3 = 1 by kernel_rfl, List.take_succ_cons, List.take_zero] at h1
      obtain ⟨s0, e0, _, _⟩ := DataW.trod_string Tryd.underlying9 h0
      obtain ⟨z1, e1, _, _⟩ := DataW.trod_int Tryd.underlying3 h1
      simp only [List.cons.injEq, and_true] at e0 e1
      subst e0 e1
      refine ⟨⟨s0.data.toList, z1⟩, ?_, ?_⟩
      · have := hat 0 (by decide)
        rw [str_of]
        simpa [Addr.add] using this
      · have := hat 1 (by decide)
        rw [← Go.Deep.add_add]
        exact this
    have hlen : len * 24 ≤ reachBytes := by
      have hm : (((List.range len).map D).length + ((List.range (m - len)).map fun j => D (len + j)).length) * Tryd.prog.bytesOf 25 ∈ DataW.weights Tryd.prog 29 (.slice ((List.range len).map D) ((List.range (m - len)).map fun j => D (len + j))) := by
        rw [DataW.weights, Tryd.underlying29]
        exact List.mem_cons_self ..
      have := List.all_eq_true.1 hz _ hm
      rw [show Tryd.prog.bytesOf 25 = 24 by kernel_rfl] at this
      simp only [List.length_map, List.length_range, decide_eq_true_eq] at this
      omega
    obtain ⟨y, hy⟩ := choose_lt each
    refine ⟨some a, cap, (List.range len).map y, by simp, fun i hi' => ?_, by simp; omega⟩
    have hi1 : i < len := by simpa using hi'
    obtain ⟨h0, h1⟩ := hy i hi1
    obtain ⟨g, o, rfl, hg⟩ := plain_of_cell (a := a) (by
      obtain ⟨this, _⟩ := hy 0 (by omega)
      rwa [Nat.zero_mul] at this)
    rw [addr_addS] at h0 h1
    refine ⟨g, o, rfl, hg, fun j u hu => ?_⟩
    simp only [List.getElem_map, List.getElem_range] at hu
    match j, hu with
    | 0, hu => obtain rfl := Option.some.inj hu; exact h0
    | 1, hu => obtain rfl := Option.some.inj hu; exact h1
set_option maxRecDepth 100000 in
/-- An argument that is a list of lines. -/
theorem open_lines {w : World} {r : Reach} {b0 : Nat} {v : Value} {d : DataW H} {p : List MemPlace} (hv : Value.okWide Tryd.prog w r b0 29 v) (h : DataW.Trod enc Tryd.prog w 0 (fun _ => true) true 29 v d p)
    (hz : (d.weights Tryd.prog 29).all (· ≤ reachBytes) = true) :
    ∃ (A : Option Addr) (c : Nat) (l : List Ls.Ln), v = .slice A l.length c ∧ LnRaw w A l := by
  obtain ⟨a, len, cap, rfl⟩ := okWide_slice Tryd.underlying29 hv
  obtain ⟨fuel, hf⟩ := h
  obtain ⟨A, c, l, hcs, hR⟩ := open_lns_at hf hz
  simp [Value.cells] at hcs
  obtain ⟨rfl, rfl, rfl⟩ := hcs
  exact ⟨_, _, _, rfl, hR⟩
end
end Go.Proofs.YtlablbibdkcifaaDoor
