/- Fingerprints among the arguments: their hashes are numbers of the machine. No condition. -/
import Derived.Test.YtkmldaelgbkfbaaLft
import Derived.Test.YtkmldaelgbkfbaaMpi
namespace Go.Proofs.Ytkmldaelgbkfbaa
open Go.ChangeShapes Go.WideShapes Go.ChangeAt Go.WideMaps Go.WideElems Go.RowKit Go.Deep Wn
section
variable {H : Type} {enc : TypeId × Value → H}
set_option maxRecDepth 100000 in
theorem open_fps {w : World} {fuel : Nat} {cs : List Value} {x : DataW H × List MemPlace}
    (h : DataW.trod enc Try.prog w 0 (fun _ => true) true fuel 31 cs = some x) (hz : (x.1.weights Try.prog 31).all (· ≤ reachBytes) = true) :
    ∃ (A : Option Addr) (c : Nat) (l : List Fp), cs = [.slice A l.length c] ∧ Gr.EdAt w w.heap.size A l ∧ l.length ≤ 140737488351232 ∧ l.length ≤ c ∧ (∀ x ∈ l, Fit x.hash) := by
  have cq : Try.prog.cellsOf 52 = 2 := by kernel_rfl
  rcases open_slice Try.underlying31 h with ⟨rfl, _⟩ | ⟨a, len, cap, m, n, D, Pl, rfl, _, hl, hmx, hmm, rfl, hi⟩
  · exact ⟨none, 0, [], rfl, Gr.ElAt.nil _ _ _ _ _, by simp, by simp, fun x hx => by simp at hx⟩
  · simp only [if_true] at hmm
    have hrb : reachBytes = 140737488351232 := rfl
    have each : ∀ i, i < len → ∃ t : Fp, w.cell? (a.add (i * 2)) = some (.int .i64 t.hash) ∧ w.cell? (a.add (i * 2 + 1)) = some (.int .i64 t.pos) ∧ Fit t.hash := by
      intro i hil
      obtain ⟨cs', hc, ht⟩ := hi i (by omega)
      rw [cq] at hc
      obtain ⟨xs, n2, _, hx, _, hlen, hg⟩ := DataW.trod_struct Try.underlying52 ht
      obtain ⟨_, hcl, hat⟩ := World.cells?_some hc
      obtain ⟨v0, v1, rfl⟩ := two_of cs' hcl
      obtain ⟨x0, x1, rfl⟩ := two_of xs hlen
      have h0 := hg 0 _ rfl
      have h1 := hg 1 _ rfl
      change DataW.trod enc _ w 0 _ true n2 3 (List.take (Try.prog.cellsOf 3) [v0, v1]) = some x0 at h0
      change DataW.trod enc _ w 0 _ true n2 3 (List.take (Try.prog.cellsOf 3) [v1]) = some x1 at h1
      rw [show Try.prog.cellsOf 3 = 1 by kernel_rfl, List.take_succ_cons, List.take_zero] at h0
      rw [show Try.prog.cellsOf 3 = 1 by kernel_rfl, List.take_succ_cons, List.take_zero] at h1
      obtain ⟨s0, e0, _, hw0⟩ := DataW.trod_int Try.underlying3 h0
      obtain ⟨z1, e1, _, _⟩ := DataW.trod_int Try.underlying3 h1
      simp only [List.cons.injEq, and_true] at e0 e1
      subst e0 e1
      refine ⟨⟨s0, z1⟩, ?_, ?_, hw0⟩
      · have := hat 0 (by decide)
        simpa [Addr.add] using this
      · have := hat 1 (by decide)
        rw [← Go.Deep.add_add]
        exact this
    have hlen : len * 16 ≤ reachBytes := by
      have hm : (((List.range len).map D).length + ((List.range (m - len)).map fun j => D (len + j)).length) * Try.prog.bytesOf 52 ∈ DataW.weights Try.prog 31 (.slice ((List.range len).map D) ((List.range (m - len)).map fun j => D (len + j))) := by
        rw [DataW.weights, Try.underlying31]
        exact List.mem_cons_self ..
      have := List.all_eq_true.1 hz _ hm
      rw [show Try.prog.bytesOf 52 = 16 by kernel_rfl] at this
      simp only [List.length_map, List.length_range, decide_eq_true_eq] at this
      omega
    obtain ⟨y, hy⟩ := choose_lt each
    refine ⟨some a, cap, (List.range len).map y, by simp, fun i hi' => ?_, by simp; omega, by simp; omega, fun x hx => ?_⟩
    rotate_left
    · obtain ⟨j, hj, rfl⟩ := List.mem_map.1 hx
      exact (hy j (List.mem_range.1 hj)).2.2
    have hi1 : i < len := by simpa using hi'
    obtain ⟨h0, h1, _⟩ := hy i hi1
    obtain ⟨g, o, rfl, hg⟩ := plain_of_cell (a := a) (by
      obtain ⟨this, _, _⟩ := hy 0 (by omega)
      rwa [Nat.zero_mul] at this)
    rw [addr_addS] at h0 h1
    simp only [List.getElem_map, List.getElem_range]
    refine ⟨g, o, rfl, hg, fun k u hu => ?_⟩
    have hk : k < 2 := by have := (List.getElem?_eq_some_iff.1 hu).1; rw [Gr.edV_len] at this; exact this
    rcases (show k = 0 ∨ k = 1 by omega) with rfl | rfl
    · exact h0.trans hu
    · exact h1.trans hu
set_option maxRecDepth 100000 in
theorem open_fps_at {w : World} {r : Reach} {b0 : Nat} {v : Value} {d : DataW H} {p : List MemPlace} (hv : Value.okWide Try.prog w r b0 31 v) (h : DataW.Trod enc Try.prog w 0 (fun _ => true) true 31 v d p)
    (hz : (d.weights Try.prog 31).all (· ≤ reachBytes) = true) :
    ∃ (A : Option Addr) (c : Nat) (l : List Fp), v = .slice A l.length c ∧ Gr.EdAt w w.heap.size A l ∧ l.length ≤ 140737488351232 ∧ l.length ≤ c ∧ (∀ x ∈ l, Fit x.hash) := by
  obtain ⟨a0, len, cap, rfl⟩ := okWide_slice Try.underlying31 hv
  obtain ⟨fuel, hf⟩ := h
  obtain ⟨A, c, l, e, h1, h2, h3⟩ := open_fps hf hz
  have e' : [Value.slice a0 len cap] = [.slice A l.length c] := e
  simp only [List.cons.injEq, and_true] at e'
  exact ⟨A, c, l, e', h1, h2, h3⟩
end
end Go.Proofs.Ytkmldaelgbkfbaa
