/- How a row of a law is proved from its walk: the sizes are handed on; numbers and fingerprints among the arguments. No condition. -/
import Derived.Test.YtkmldaelgbkfbaaWel
import Derived.Test.YtkmldaelgbkfbaaRows
import Derived.ProofKit
import Derived.LaidMore
import Derived.LaidLaws
import Derived.OpenShut
import Derived.Stop.Joined
import Derived.SevenTiedAt
import Derived.SizedLaws
import Derived.Deep.Strs
import Derived.Deep.Slices
import Derived.Deep.SlicePairs
import Derived.Deep.Fields
import Derived.ChangeSame
import Derived.HandedShaped
namespace Go.Proofs.Ytkmldaelgbkfbaa
open Go.ChangeShapes Go.WideShapes Go.ChangeAt Go.WideMaps Go.WideElems Go.RowKit Go.Deep Wn
theorem own : ownKnob Try.prog.godebug = none := by kernel_rfl
theorem laidOut : laidOutB Try.prog = true := by kernel_rfl
section
variable {H : Type} {enc : TypeId × Value → H}
/-- A call's contract that knows the sizes gives the row. -/
theorem returns_sized {C : Checked} {os : Os} {f : FuncId} {fn : Func} {s : ChangeSpec} {conds : List PathCond}
    (own : ownKnob C.prog.godebug = none) (started : os.Started) (noInit : C.prog.inits.idxOf? f = none) (hfn : C.prog.funcs[f]? = some fn)
    (witness : ∃ (w : World) (tape : Tape) (i : Input), w.os = os ∧ (w.forCall tape i).Shaped C.prog ∧ i.vars = [] ∧ Input.okWide C.prog (w.forCall tape i) .any w.heap.size f i ∧
      ((s.pre enc C.prog fn conds false (w.forCall tape i).memory i.args ∧ True) ∧ sizedMet enc C.prog fn (OpenSpec.ofChange s) false (w.forCall tape i).memory i.args) ∧ ({} : Assume).holds C.prog (lone (Frame.enter C.prog f i.args .normal) [] (w.forCall tape i)))
    (walk : ∀ (W : World) (base : Nat) (args : Array Value) (ds gs : List (DataW H)) (before : List MemPlace),
      (∀ (j : Nat) t v, fn.params[j]? = some t → args[j]? = some v → Value.okWide C.prog W .any base t v) →
      DataW.Whole enc C.prog fn.params.toList s.vars false W args.toList ds gs before →
      (DataW.weightsEach C.prog (fn.params.toList ++ s.plain.varTypes C.prog) (ds ++ gs)).all (· ≤ reachBytes) = true →
      Calls C.prog f args W fun e W' => ∃ v, e = .returned v ∧ s.post enc C.prog fn false true false false W args v W') :
    ReturnsInHanded {} C os f .any (fun w args => s.pre enc C.prog fn conds false w args ∧ sizedMet enc C.prog fn (OpenSpec.ofChange s) false w args) (s.post enc C.prog fn false true false false) := by
  obtain ⟨w0, t0, i0, k1, k2, k3, k4, ⟨⟨k5, _⟩, k6⟩, k7⟩ := witness
  refine returnsInHanded_of_calls own started noInit ⟨w0, t0, i0, k1, k2, k3, k4, ⟨k5, k6⟩, k7⟩ fun w tape i _ hsh _ hok hpre _ => ?_
  obtain ⟨_, _, _, fn2, hfn2, _, _, _, _, hval⟩ := hok
  obtain rfl : fn2 = fn := Option.some.inj (hfn2.symm.trans hfn)
  obtain ⟨⟨ds, gs, before, hw, _⟩, hz⟩ := hpre
  refine (walk (w.forCall tape i) w.heap.size i.args ds gs before hval (DataW.Whole.of_heap (w' := w.forCall tape i) (by rfl) hw) (hz.weights hw)).mono fun e W' h => ?_
  obtain ⟨v, rfl, hp⟩ := h
  exact ChangeSpec.post_blind hp
theorem plain_of_cell {w : World} {a : Addr} {v : Value} (h : w.cell? (a.add 0) = some v) : ∃ g o, a = ⟨g, o, none⟩ ∧ g < w.heap.size := by
  have h0 : a.add 0 = a := by simp [Addr.add]
  rw [h0] at h
  have hlt := World.block_lt_of_cell? w a h
  obtain ⟨g, o, s⟩ := a
  cases s with
  | none => exact ⟨g, o, rfl, hlt⟩
  | some x =>
    unfold World.cell? at h
    simp at h
    split at h <;> cases h
theorem choose_lt {β : Type} [Inhabited β] {n : Nat} {p : Nat → β → Prop} (h : ∀ i, i < n → ∃ y, p i y) : ∃ y : Nat → β, ∀ i, i < n → p i (y i) := by
  refine ⟨fun i => if hi : i < n then (h i hi).choose else default, fun i hi => ?_⟩
  simp only [hi, dite_true]
  exact (h i hi).choose_spec
theorem two_of {α : Type} (l : List α) (h : l.length = 2) : ∃ a b, l = [a, b] := by
  match l, h with
  | [a, b], _ => exact ⟨a, b, rfl⟩
theorem one_of {α : Type} (l : List α) (h : l.length = 1) : ∃ a, l = [a] := by
  match l, h with
  | [a], _ => exact ⟨a, rfl⟩
instance : Inhabited Fp := ⟨⟨0, 0⟩⟩
set_option maxRecDepth 100000 in
theorem open_ints {w : World} {fuel : Nat} {cs : List Value} {x : DataW H × List MemPlace}
    (h : DataW.trod enc Try.prog w 0 (fun _ => true) true fuel 22 cs = some x) (hz : (x.1.weights Try.prog 22).all (· ≤ reachBytes) = true) :
    ∃ (A : Option Addr) (c : Nat) (l : List Int), cs = [.slice A l.length c] ∧ Gr.InAt w w.heap.size A l ∧ l.length ≤ 140737488351232 ∧ l.length ≤ c ∧ (A = none → c = 0 ∧ l = []) := by
  have cq : Try.prog.cellsOf 3 = 1 := by kernel_rfl
  rcases open_slice Try.underlying22 h with ⟨rfl, _⟩ | ⟨a, len, cap, m, n, D, Pl, rfl, _, hl, hmx, hmm, rfl, hi⟩
  · exact ⟨none, 0, [], rfl, Gr.ElAt.nil _ _ _ _ _, by simp, by simp, fun _ => ⟨rfl, rfl⟩⟩
  · simp only [if_true] at hmm
    have hrb : reachBytes = 140737488351232 := rfl
    have each : ∀ i, i < len → ∃ t : Int, w.cell? (a.add (i * 1)) = some (.int .i64 t) := by
      intro i hil
      obtain ⟨cs', hc, ht⟩ := hi i (by omega)
      rw [cq] at hc
      obtain ⟨_, hcl, hat⟩ := World.cells?_some hc
      obtain ⟨v0, rfl⟩ := one_of cs' hcl
      obtain ⟨z1, e1, _, _⟩ := DataW.trod_int Try.underlying3 ht
      simp only [List.cons.injEq, and_true] at e1
      subst e1
      refine ⟨z1, ?_⟩
      have := hat 0 (by decide)
      simpa [Addr.add] using this
    have hlen : len * 8 ≤ reachBytes := by
      have hm : (((List.range len).map D).length + ((List.range (m - len)).map fun j => D (len + j)).length) * Try.prog.bytesOf 3 ∈ DataW.weights Try.prog 22 (.slice ((List.range len).map D) ((List.range (m - len)).map fun j => D (len + j))) := by
        rw [DataW.weights, Try.underlying22]
        exact List.mem_cons_self ..
      have := List.all_eq_true.1 hz _ hm
      rw [show Try.prog.bytesOf 3 = 8 by kernel_rfl] at this
      simp only [List.length_map, List.length_range, decide_eq_true_eq] at this
      omega
    obtain ⟨y, hy⟩ := choose_lt each
    refine ⟨some a, cap, (List.range len).map y, by simp, fun i hi' => ?_, by simp; omega, by simp; omega, fun h => by cases h⟩
    have hi1 : i < len := by simpa using hi'
    have h0 := hy i hi1
    obtain ⟨g, o, rfl, hg⟩ := plain_of_cell (a := a) (by
      have this := hy 0 (by omega)
      rwa [Nat.zero_mul] at this)
    rw [addr_addS] at h0
    simp only [List.getElem_map, List.getElem_range]
    refine ⟨g, o, rfl, hg, fun k u hu => ?_⟩
    have hk : k < 1 := by have := (List.getElem?_eq_some_iff.1 hu).1; rw [Gr.inV_len] at this; exact this
    obtain rfl : k = 0 := by omega
    exact h0.trans hu
set_option maxRecDepth 100000 in
theorem open_ints_at {w : World} {r : Reach} {b0 : Nat} {v : Value} {d : DataW H} {p : List MemPlace} (hv : Value.okWide Try.prog w r b0 22 v) (h : DataW.Trod enc Try.prog w 0 (fun _ => true) true 22 v d p)
    (hz : (d.weights Try.prog 22).all (· ≤ reachBytes) = true) :
    ∃ (A : Option Addr) (c : Nat) (l : List Int), v = .slice A l.length c ∧ Gr.InAt w w.heap.size A l ∧ l.length ≤ 140737488351232 ∧ l.length ≤ c ∧ (A = none → c = 0 ∧ l = []) := by
  obtain ⟨a0, len, cap, rfl⟩ := okWide_slice Try.underlying22 hv
  obtain ⟨fuel, hf⟩ := h
  obtain ⟨A, c, l, e, h1, h2, h3⟩ := open_ints hf hz
  have e' : [Value.slice a0 len cap] = [.slice A l.length c] := e
  simp only [List.cons.injEq, and_true] at e'
  exact ⟨A, c, l, e', h1, h2, h3⟩
set_option maxRecDepth 100000 in
theorem open_prints {w : World} {fuel : Nat} {cs : List Value} {x : DataW H × List MemPlace}
    (h : DataW.trod enc Try.prog w 0 (fun _ => true) true fuel 31 cs = some x) (hz : (x.1.weights Try.prog 31).all (· ≤ reachBytes) = true) :
    ∃ (A : Option Addr) (c : Nat) (l : List Fp), cs = [.slice A l.length c] ∧ Gr.EdAt w w.heap.size A l ∧ l.length ≤ 140737488351232 ∧ l.length ≤ c ∧ (A = none → c = 0 ∧ l = []) := by
  have cq : Try.prog.cellsOf 52 = 2 := by kernel_rfl
  rcases open_slice Try.underlying31 h with ⟨rfl, _⟩ | ⟨a, len, cap, m, n, D, Pl, rfl, _, hl, hmx, hmm, rfl, hi⟩
  · exact ⟨none, 0, [], rfl, Gr.ElAt.nil _ _ _ _ _, by simp, by simp, fun _ => ⟨rfl, rfl⟩⟩
  · simp only [if_true] at hmm
    have hrb : reachBytes = 140737488351232 := rfl
    have each : ∀ i, i < len → ∃ t : Fp, w.cell? (a.add (i * 2)) = some (.int .i64 t.hash) ∧ w.cell? (a.add (i * 2 + 1)) = some (.int .i64 t.pos) := by
      intro i hil
      obtain ⟨cs', hc, ht⟩ := hi i (by omega)
      rw [cq] at hc
      obtain ⟨xs, n2, _, hx, _, hlen, hg⟩ := DataW.trod_struct Try.underlying52 ht
      obtain ⟨_, hcl, hat⟩ := World.cells?_some hc
      obtain ⟨v0, v1, rfl⟩ := two_of cs' hcl
      obtain ⟨x0, x1, rfl⟩ := two_of xs hlen
      have h0 := hg 0 _ rfl
      have h1 := hg 1 _ rfl
      change DataW.trod enc _ w 0 _ true n2 3 (List.take (Try.prog.cellsOf 3) [v0, v1]) = some x0 at h0
      change DataW.trod enc _ w 0 _ true n2 3 (List.take (Try.prog.cellsOf 3) [v1]) = some x1 at h1
      rw [show Try.prog.cellsOf 3 = 1 by kernel_rfl, List.take_succ_cons, List.take_zero] at h0
      rw [show Try.prog.cellsOf 3 = 1 by kernel_rfl, List.take_succ_cons, List.take_zero] at h1
      obtain ⟨s0, e0, _, _⟩ := DataW.trod_int Try.underlying3 h0
      obtain ⟨z1, e1, _, _⟩ := DataW.trod_int Try.underlying3 h1
      simp only [List.cons.injEq, and_true] at e0 e1
      subst e0 e1
      refine ⟨⟨s0, z1⟩, ?_, ?_⟩
      · have := hat 0 (by decide)
        simpa [Addr.add] using this
      · have := hat 1 (by decide)
        rw [← Go.Deep.add_add]
        exact this
    have hlen : len * 16 ≤ reachBytes := by
      have hm : (((List.range len).map D).length + ((List.range (m - len)).map fun j => D (len + j)).length) * Try.prog.bytesOf 52 ∈ DataW.weights Try.prog 31 (.slice ((List.range len).map D) ((List.range (m - len)).map fun j => D (len + j))) := by
        rw [DataW.weights, Try.underlying31]
        exact List.mem_cons_self ..
      have := List.all_eq_true.1 hz _ hm
      rw [show Try.prog.bytesOf 52 = 16 by kernel_rfl] at this
      simp only [List.length_map, List.length_range, decide_eq_true_eq] at this
      omega
    obtain ⟨y, hy⟩ := choose_lt each
    refine ⟨some a, cap, (List.range len).map y, by simp, fun i hi' => ?_, by simp; omega, by simp; omega, fun h => by cases h⟩
    have hi1 : i < len := by simpa using hi'
    obtain ⟨h0, h1⟩ := hy i hi1
    obtain ⟨g, o, rfl, hg⟩ := plain_of_cell (a := a) (by
      obtain ⟨this, _⟩ := hy 0 (by omega)
      rwa [Nat.zero_mul] at this)
    rw [addr_addS] at h0 h1
    simp only [List.getElem_map, List.getElem_range]
    refine ⟨g, o, rfl, hg, fun k u hu => ?_⟩
    have hk : k < 2 := by have := (List.getElem?_eq_some_iff.1 hu).1; rw [Gr.edV_len] at this; exact this
    rcases (show k = 0 ∨ k = 1 by omega) with rfl | rfl
    · exact h0.trans hu
    · exact h1.trans hu
set_option maxRecDepth 100000 in
theorem open_prints_at {w : World} {r : Reach} {b0 : Nat} {v : Value} {d : DataW H} {p : List MemPlace} (hv : Value.okWide Try.prog w r b0 31 v) (h : DataW.Trod enc Try.prog w 0 (fun _ => true) true 31 v d p)
    (hz : (d.weights Try.prog 31).all (· ≤ reachBytes) = true) :
    ∃ (A : Option Addr) (c : Nat) (l : List Fp), v = .slice A l.length c ∧ Gr.EdAt w w.heap.size A l ∧ l.length ≤ 140737488351232 ∧ l.length ≤ c ∧ (A = none → c = 0 ∧ l = []) := by
  obtain ⟨a0, len, cap, rfl⟩ := okWide_slice Try.underlying31 hv
  obtain ⟨fuel, hf⟩ := h
  obtain ⟨A, c, l, e, h1, h2, h3⟩ := open_prints hf hz
  have e' : [Value.slice a0 len cap] = [.slice A l.length c] := e
  simp only [List.cons.injEq, and_true] at e'
  exact ⟨A, c, l, e', h1, h2, h3⟩
end
end Go.Proofs.Ytkmldaelgbkfbaa
