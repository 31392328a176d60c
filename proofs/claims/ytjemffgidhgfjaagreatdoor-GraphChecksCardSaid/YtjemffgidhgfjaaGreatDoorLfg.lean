/- How a graph and a record are opened as arguments of one law (XLft beside Sog). No condition. -/
import Derived.Test.YtjemffgidhgfjaaGreatDoorFew
import Derived.Test.YtjemffgidhgfjaaGreatDoorSog
import Derived.Test.YtjemffgidhgfjaaGreatDoorRows
import Derived.ProofKit
import Derived.LaidMore
import Derived.LaidLaws
import Derived.OpenShut
import Derived.Stop.Joined
import Derived.SevenTiedAt
import Derived.SizedLaws
import Derived.Deep.Strs
import Derived.Deep.Slices
import Derived.Deep.SlicePairs
import Derived.Deep.Fields
import Derived.ChangeSame
import Derived.HandedShaped
namespace Go.Proofs.YtjemffgidhgfjaaGreatDoor
open Go.ChangeShapes Go.WideShapes Go.ChangeAt Go.WideMaps Go.WideElems Go.RowKit Go.Deep Tr

theorem own : ownKnob Tryz.prog.godebug = none := by kernel_rfl
theorem laidOut : laidOutB Tryz.prog = true := by kernel_rfl
section
variable {H : Type} {enc : TypeId × Value → H}
/-- A call's contract that knows the sizes gives the row. -/
theorem returns_sized {C : Checked} {os : Os} {f : FuncId} {fn : Func} {s : ChangeSpec} {conds : List PathCond}
    (own : ownKnob C.prog.godebug = none) (started : os.Started) (noInit : C.prog.inits.idxOf? f = none) (hfn : C.prog.funcs[f]? = some fn)
    (witness : ∃ (w : World) (tape : Tape) (i : Input), w.os = os ∧ (w.forCall tape i).Shaped C.prog ∧ i.vars = [] ∧ Input.okWide C.prog (w.forCall tape i) .any w.heap.size f i ∧
      ((s.pre enc C.prog fn conds false (w.forCall tape i).memory i.args ∧ True) ∧ sizedMet enc C.prog fn (OpenSpec.ofChange s) false (w.forCall tape i).memory i.args) ∧ ({} : Assume).holds C.prog (lone (Frame.enter C.prog f i.args .normal) [] (w.forCall tape i)))
    (walk : ∀ (W : World) (base : Nat) (args : Array Value) (ds gs : List (DataW H)) (before : List MemPlace),
      (∀ (j : Nat) t v, fn.params[j]? = some t → args[j]? = some v → Value.okWide C.prog W .any base t v) →
      DataW.Whole enc C.prog fn.params.toList s.vars false W args.toList ds gs before →
      (DataW.weightsEach C.prog (fn.params.toList ++ s.plain.varTypes C.prog) (ds ++ gs)).all (· ≤ reachBytes) = true →
      Calls C.prog f args W fun e W' => ∃ v, e = .returned v ∧ s.post enc C.prog fn false true false false W args v W') :
    ReturnsInHanded {} C os f .any (fun w args => s.pre enc C.prog fn conds false w args ∧ sizedMet enc C.prog fn (OpenSpec.ofChange s) false w args) (s.post enc C.prog fn false true false false) := by
  obtain ⟨w0, t0, i0, k1, k2, k3, k4, ⟨⟨k5, _⟩, k6⟩, k7⟩ := witness
  refine returnsInHanded_of_calls own started noInit ⟨w0, t0, i0, k1, k2, k3, k4, ⟨k5, k6⟩, k7⟩ fun w tape i _ hsh _ hok hpre _ => ?_
  obtain ⟨_, _, _, fn2, hfn2, _, _, _, _, hval⟩ := hok
  obtain rfl : fn2 = fn := Option.some.inj (hfn2.symm.trans hfn)
  obtain ⟨⟨ds, gs, before, hw, _⟩, hz⟩ := hpre
  refine (walk (w.forCall tape i) w.heap.size i.args ds gs before hval (DataW.Whole.of_heap (w' := w.forCall tape i) (by rfl) hw) (hz.weights hw)).mono fun e W' h => ?_
  obtain ⟨v, rfl, hp⟩ := h
  exact ChangeSpec.post_blind hp
theorem plain_of_cell {w : World} {a : Addr} {v : Value} (h : w.cell? (a.add 0) = some v) : ∃ g o, a = ⟨g, o, none⟩ ∧ g < w.heap.size := by
  have h0 : a.add 0 = a := by simp [Addr.add]
  rw [h0] at h
  have hlt := World.block_lt_of_cell? w a h
  obtain ⟨g, o, s⟩ := a
  cases s with
  | none => exact ⟨g, o, rfl, hlt⟩
  | some x =>
    unfold World.cell? at h
    simp at h
    split at h <;> cases h
theorem choose_lt {β : Type} [Inhabited β] {n : Nat} {p : Nat → β → Prop} (h : ∀ i, i < n → ∃ y, p i y) : ∃ y : Nat → β, ∀ i, i < n → p i (y i) := by
  refine ⟨fun i => if hi : i < n then (h i hi).choose else default, fun i hi => ?_⟩
  simp only [hi, dite_true]
  exact (h i hi).choose_spec
theorem three_of {α : Type} (l : List α) (h : l.length = 3) : ∃ a b c, l = [a, b, c] := by
  match l, h with
  | [a, b, c], _ => exact ⟨a, b, c, rfl⟩
theorem two_of {α : Type} (l : List α) (h : l.length = 2) : ∃ a b, l = [a, b] := by
  match l, h with
  | [a, b], _ => exact ⟨a, b, rfl⟩
theorem str_of (s : ByteArray) : str s.data.toList = s := rfl
set_option maxRecDepth 100000 in
theorem open_names {w : World} {fuel : Nat} {cs : List Value} {x : DataW H × List MemPlace}
    (h : DataW.trod enc Tryz.prog w 0 (fun _ => true) true fuel 22 cs = some x) (hz : (x.1.weights Tryz.prog 22).all (· ≤ reachBytes) = true) :
    ∃ (A : Option Addr) (c : Nat) (l : List (List UInt8)), cs = [.slice A l.length c] ∧ Gr.StAt w w.heap.size A l ∧ l.length ≤ 140737488351232 := by
  have cq : Tryz.prog.cellsOf 9 = 1 := by kernel_rfl
  rcases open_strs Tryz.underlying22 Tryz.underlying9 cq h with ⟨rfl, _⟩ | ⟨a, len, cap, m, Sx, rfl, _, hl, _, hmm, hD, hx⟩
  · exact ⟨none, 0, [], rfl, Gr.ElAt.nil _ _ _ _ _, by simp⟩
  · simp only [if_true] at hmm
    refine ⟨some a, cap, (List.range len).map fun i => (Sx i).data.toList, by simp, fun i hi => ?_, ?_⟩
    · have hi1 : i < len := by simpa using hi
      obtain ⟨g, o, rfl, hg⟩ := plain_of_cell (hx 0 (by omega)).1
      have h1 := (hx i (by omega)).1
      rw [addr_addS] at h1
      refine ⟨g, o, rfl, hg, fun j u hu => ?_⟩
      simp only [List.getElem_map, List.getElem_range] at hu
      match j, hu with
      | 0, hu =>
        obtain rfl := Option.some.inj hu
        rw [Nat.mul_one, str_of]
        exact h1
    · rw [hD] at hz
      have hm : (((List.range len).map fun i => (DataW.lit (.string (Sx i).data.toList) : DataW H)).length + ((List.range (m - len)).map fun j => (DataW.lit (.string (Sx (len + j)).data.toList) : DataW H)).length) * Tryz.prog.bytesOf 9 ∈ DataW.weights (H := H) Tryz.prog 22 (.slice ((List.range len).map fun i => .lit (.string (Sx i).data.toList)) ((List.range (m - len)).map fun j => .lit (.string (Sx (len + j)).data.toList))) := by
        rw [DataW.weights, Tryz.underlying22]
        exact List.mem_cons_self ..
      have := List.all_eq_true.1 hz _ hm
      have hrb : reachBytes = 140737488351232 := rfl
      rw [show Tryz.prog.bytesOf 9 = 16 by kernel_rfl] at this
      simp only [List.length_map, List.length_range, decide_eq_true_eq] at this ⊢
      omega
/-- An edge as it lies. -/
def EdgAt (w : World) (a : Addr) (i : Nat) (s : Ed) : Prop := w.cell? (a.add (i * 3)) = some (.int .i64 s.src) ∧ w.cell? (a.add (i * 3 + 1)) = some (.int .i64 s.dst) ∧ w.cell? (a.add (i * 3 + 2)) = some (.int .i64 s.stp)
set_option maxRecDepth 100000 in
theorem open_edges {w : World} {fuel : Nat} {cs : List Value} {x : DataW H × List MemPlace}
    (h : DataW.trod enc Tryz.prog w 0 (fun _ => true) true fuel 23 cs = some x) (hz : (x.1.weights Tryz.prog 23).all (· ≤ reachBytes) = true) :
    ∃ (A : Option Addr) (c : Nat) (l : List Ed), cs = [.slice A l.length c] ∧ Gr.EdAt w w.heap.size A l ∧ l.length ≤ 140737488351232 := by
  have cq : Tryz.prog.cellsOf 56 = 3 := by kernel_rfl
  rcases open_slice Tryz.underlying23 h with ⟨rfl, _⟩ | ⟨a, len, cap, m, n, D, Pl, rfl, _, hl, hmx, hmm, rfl, hi⟩
  · exact ⟨none, 0, [], rfl, Gr.ElAt.nil _ _ _ _ _, by simp⟩
  · simp only [if_true] at hmm
    have hrb : reachBytes = 140737488351232 := rfl
    have each : ∀ i, i < len → ∃ t : Ed, EdgAt w a i t := by
      intro i hil
      obtain ⟨cs', hc, ht⟩ := hi i (by omega)
      rw [cq] at hc
      obtain ⟨xs, n2, _, hx, _, hlen, hg⟩ := DataW.trod_struct Tryz.underlying56 ht
      obtain ⟨_, hcl, hat⟩ := World.cells?_some hc
      obtain ⟨v0, v1, v2, rfl⟩ := three_of cs' hcl
      obtain ⟨x0, x1, x2, rfl⟩ := three_of xs hlen
      have h0 := hg 0 _ rfl
      have h1 := hg 1 _ rfl
      have h2 := hg 2 _ rfl
      change DataW.trod enc _ w 0 _ true n2 3 (List.take (Tryz.prog.cellsOf 3) [v0, v1, v2]) = some x0 at h0
      change DataW.trod enc _ w 0 _ true n2 3 (List.take (Tryz.prog.cellsOf 3) [v1, v2]) = some x1 at h1
      change DataW.trod enc _ w 0 _ true n2 3 (List.take (Tryz.prog.cellsOf 3) [v2]) = some x2 at h2
      rw [show Tryz.prog.cellsOf 3 = 1 by kernel_rfl, List.take_succ_cons, List.take_zero] at h0 h1 h2
      obtain ⟨z0, e0, _, _⟩ := DataW.trod_int Tryz.underlying3 h0
      obtain ⟨z1, e1, _, _⟩ := DataW.trod_int Tryz.underlying3 h1
      obtain ⟨z2, e2, _, _⟩ := DataW.trod_int Tryz.underlying3 h2
      simp only [List.cons.injEq, and_true] at e0 e1 e2
      subst e0 e1 e2
      refine ⟨⟨z0, z1, z2⟩, ?_, ?_, ?_⟩
      · have := hat 0 (by decide)
        simpa [Addr.add] using this
      · have := hat 1 (by decide)
        rw [← Go.Deep.add_add]
        exact this
      · have := hat 2 (by decide)
        rw [← Go.Deep.add_add]
        exact this
    have hlen : len * 24 ≤ reachBytes := by
      have hm : (((List.range len).map D).length + ((List.range (m - len)).map fun j => D (len + j)).length) * Tryz.prog.bytesOf 56 ∈ DataW.weights Tryz.prog 23 (.slice ((List.range len).map D) ((List.range (m - len)).map fun j => D (len + j))) := by
        rw [DataW.weights, Tryz.underlying23]
        exact List.mem_cons_self ..
      have := List.all_eq_true.1 hz _ hm
      rw [show Tryz.prog.bytesOf 56 = 24 by kernel_rfl] at this
      simp only [List.length_map, List.length_range, decide_eq_true_eq] at this
      omega
    obtain ⟨y, hy⟩ := choose_lt each
    refine ⟨some a, cap, (List.range len).map y, by simp, fun i hi' => ?_, by simp; omega⟩
    have hi1 : i < len := by simpa using hi'
    obtain ⟨h0, h1, h2⟩ := hy i hi1
    obtain ⟨g, o, rfl, hg⟩ := plain_of_cell (a := a) (by
      obtain ⟨this, _⟩ := hy 0 (by omega)
      rwa [Nat.zero_mul] at this)
    rw [addr_addS] at h0 h1 h2
    refine ⟨g, o, rfl, hg, fun j u hu => ?_⟩
    simp only [List.getElem_map, List.getElem_range] at hu
    match j, hu with
    | 0, hu => obtain rfl := Option.some.inj hu; exact h0
    | 1, hu => obtain rfl := Option.some.inj hu; exact h1
    | 2, hu => obtain rfl := Option.some.inj hu; exact h2
set_option maxRecDepth 100000 in
theorem open_graph {w : World} {r : Reach} {b0 : Nat} {v : Value} {d : DataW H} {p : List MemPlace} (hv : Value.okWide Tryz.prog w r b0 25 v) (h : DataW.Trod enc Tryz.prog w 0 (fun _ => true) true 25 v d p)
    (hz : (d.weights Tryz.prog 25).all (· ≤ reachBytes) = true) :
    ∃ (g : Gph) (A B : Option Addr) (c e : Nat), v = grV A B c e g ∧ GrAt w A B g := by
  obtain ⟨cs, rfl, hsz⟩ := okWide_struct Tryz.underlying25 hv
  obtain ⟨fuel, hf⟩ := h
  obtain ⟨xs, n2, _, hx, hcl, hlen, hg⟩ := DataW.trod_struct Tryz.underlying25 hf
  have c2 : Tryz.prog.cellsOf 25 = 2 := by kernel_rfl
  obtain ⟨l⟩ := cs
  obtain ⟨v0, v1, rfl⟩ := two_of l (by simpa [c2] using hsz)
  obtain ⟨x0, x1, rfl⟩ := two_of xs hlen
  have g0 := hg 0 _ rfl
  have g1 := hg 1 _ rfl
  change DataW.trod enc _ w 0 _ true n2 22 (List.take (Tryz.prog.cellsOf 22) [v0, v1]) = some x0 at g0
  change DataW.trod enc _ w 0 _ true n2 23 (List.take (Tryz.prog.cellsOf 23) [v1]) = some x1 at g1
  rw [show Tryz.prog.cellsOf 22 = 1 by kernel_rfl, List.take_succ_cons, List.take_zero] at g0
  rw [show Tryz.prog.cellsOf 23 = 1 by kernel_rfl, List.take_succ_cons, List.take_zero] at g1
  simp only [Prod.mk.injEq, List.map_cons, List.map_nil] at hx
  obtain ⟨rfl, _⟩ := hx
  have hz1 : (x0.1.weights Tryz.prog 22).all (· ≤ reachBytes) = true := by
    refine List.all_eq_true.2 fun z hzz => List.all_eq_true.1 hz z ?_
    rw [DataW.weights, Tryz.underlying25]
    exact DataW.weights_mem_each (j := 0) (t := 22) rfl (show [x0.1, x1.1][0]? = some x0.1 from rfl) z hzz
  have hz2 : (x1.1.weights Tryz.prog 23).all (· ≤ reachBytes) = true := by
    refine List.all_eq_true.2 fun z hzz => List.all_eq_true.1 hz z ?_
    rw [DataW.weights, Tryz.underlying25]
    exact DataW.weights_mem_each (j := 1) (t := 23) rfl (show [x0.1, x1.1][1]? = some x1.1 from rfl) z hzz
  obtain ⟨A, c, ns, e0, k1, k2⟩ := open_names g0 hz1
  obtain ⟨B, e, es, e1, k3, k4⟩ := open_edges g1 hz2
  simp only [List.cons.injEq, and_true] at e0 e1
  subst e0 e1
  exact ⟨⟨ns, es⟩, A, B, c, e, rfl, ⟨k1, k3, k2, k4⟩⟩
end
end Go.Proofs.YtjemffgidhgfjaaGreatDoor
