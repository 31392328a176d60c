/- How a row of a law is proved from its walk: the world's shape and the sizes are handed on. Condition: the listed variables lie as the card ties them. -/
import Derived.Test.YtkmldaelgbkfbaaDoorPrw
import Derived.Test.YtkmldaelgbkfbaaDoorTie
import Derived.Test.YtkmldaelgbkfbaaDoorCards
import Derived.ProofKit
import Derived.LaidMore
import Derived.LaidLaws
import Derived.OpenShut
import Derived.Stop.Joined
import Derived.SevenTiedAt
import Derived.SizedLaws
import Derived.Lib.LaidTab
import Derived.Deep.Strs
import Derived.Deep.Slices
import Derived.Deep.SlicePairs
import Derived.Deep.Fields
import Derived.ChangeSame
import Derived.HandedShaped
import Derived.Shelf.Vars
import GoSem.PinnedTables
namespace Go.Proofs.YtkmldaelgbkfbaaDoor
open Go.ChangeShapes Go.WideShapes Go.ChangeAt Go.WideMaps Go.WideElems Go.RowKit Go.Deep Tr

theorem own : ownKnob Tryd.prog.godebug = none := by kernel_rfl
theorem laidOut : laidOutB Tryd.prog = true := by kernel_rfl
def laidP : List (String × DataW Unit) := [("unicode/utf8.acceptRanges", Rows.laid_unicode_utf8_acceptRanges), ("unicode/utf8.first", Rows.laid_unicode_utf8_first)]
/-- A start in which the pinned table lies. -/
noncomputable def pinW (os : Os) : World :=
  { World.doorLaid Tryd.prog 400 os with heap := (World.doorLaid Tryd.prog 400 os).heap.modify 1 fun
      | .cells _ t frozen => .cells (Go.Pinned.utf8FirstZ.map fun (n : Nat) => Value.int .u8 (n : Int)).toArray t frozen
      | o => o }
set_option maxRecDepth 100000 in
theorem pin_met (os : Os) (args : Array Value) : laidMetH Tryd.prog laidP ((pinW os).forCall (fun _ _ => 0) ⟨#[], args, []⟩).memory :=
  laidMetH_of_parts3 (fuel := 8) (laidMet_of_run' 8 (by kernel_rfl) (by kernel_rfl)) (by kernel_rfl) (by kernel_rfl)
theorem max_of {W : World} (h : W.ShapedOpen Tryd.prog) : MaxAt W :=
  cell_of_shapedOpen_int h (t := 3) (zero := #[.int .i64 0]) (of_decide_eq_true (by kernel_rfl)) (by kernel_rfl) rfl (by kernel_rfl) (by kernel_rfl) Tryd.underlying3
section
variable {H : Type} {enc : TypeId × Value → H}
/-- A call's contract that knows the world's shape and the sizes gives the row. -/
theorem returns_shaped_and {C : Checked} {os : Os} {f : FuncId} {fn : Func} {s : ChangeSpec} {conds : List PathCond} {X : World → Array Value → Prop}
    (hX : ∀ (w w' : World) (args : Array Value), w.heap = w'.heap → X w args → X w' args)
    (own : ownKnob C.prog.godebug = none) (started : os.Started) (noInit : C.prog.inits.idxOf? f = none) (hfn : C.prog.funcs[f]? = some fn)
    (witness : ∃ (w : World) (tape : Tape) (i : Input), w.os = os ∧ (w.forCall tape i).Shaped C.prog ∧ i.vars = [] ∧ Input.okWide C.prog (w.forCall tape i) .any w.heap.size f i ∧
      ((s.pre enc C.prog fn conds false (w.forCall tape i).memory i.args ∧ X (w.forCall tape i).memory i.args) ∧ sizedMet enc C.prog fn (OpenSpec.ofChange s) false (w.forCall tape i).memory i.args) ∧ ({} : Assume).holds C.prog (lone (Frame.enter C.prog f i.args .normal) [] (w.forCall tape i)))
    (walk : ∀ (W : World) (base : Nat) (args : Array Value) (ds gs : List (DataW H)) (before : List MemPlace), W.ShapedOpen C.prog →
      (∀ (j : Nat) t v, fn.params[j]? = some t → args[j]? = some v → Value.okWide C.prog W .any base t v) →
      DataW.Whole enc C.prog fn.params.toList s.vars false W args.toList ds gs before →
      (DataW.weightsEach C.prog (fn.params.toList ++ s.plain.varTypes C.prog) (ds ++ gs)).all (· ≤ reachBytes) = true → X W args →
      Calls C.prog f args W fun e W' => ∃ v, e = .returned v ∧ s.post enc C.prog fn false true false false W args v W') :
    ReturnsInHanded {} C os f .any (fun w args => (s.pre enc C.prog fn conds false w args ∧ X w args) ∧ sizedMet enc C.prog fn (OpenSpec.ofChange s) false w args) (s.post enc C.prog fn false true false false) := by
  refine returnsInHanded_of_calls own started noInit witness fun w tape i _ hsh _ hok hpre _ => ?_
  obtain ⟨_, _, _, fn2, hfn2, _, _, _, _, hval⟩ := hok
  obtain rfl : fn2 = fn := Option.some.inj (hfn2.symm.trans hfn)
  obtain ⟨⟨⟨ds, gs, before, hw, _⟩, hx⟩, hz⟩ := hpre
  refine (walk (w.forCall tape i) w.heap.size i.args ds gs before hsh hval (DataW.Whole.of_heap (w' := w.forCall tape i) (by rfl) hw) (hz.weights hw) (hX _ _ _ (by rfl) hx)).mono fun e W' h => ?_
  obtain ⟨v, rfl, hp⟩ := h
  exact ChangeSpec.post_blind hp
theorem plain_of_cell {w : World} {a : Addr} {v : Value} (h : w.cell? (a.add 0) = some v) : ∃ g o, a = ⟨g, o, none⟩ ∧ g < w.heap.size := by
  have h0 : a.add 0 = a := by simp [Addr.add]
  rw [h0] at h
  have hlt := World.block_lt_of_cell? w a h
  obtain ⟨g, o, s⟩ := a
  cases s with
  | none => exact ⟨g, o, rfl, hlt⟩
  | some x =>
    unfold World.cell? at h
    simp at h
    split at h <;> cases h
theorem choose_lt {β : Type} [Inhabited β] {n : Nat} {p : Nat → β → Prop} (h : ∀ i, i < n → ∃ y, p i y) : ∃ y : Nat → β, ∀ i, i < n → p i (y i) := by
  refine ⟨fun i => if hi : i < n then (h i hi).choose else default, fun i hi => ?_⟩
  simp only [hi, dite_true]
  exact (h i hi).choose_spec
theorem two_of {α : Type} (l : List α) (h : l.length = 2) : ∃ a b, l = [a, b] := by
  match l, h with
  | [a, b], _ => exact ⟨a, b, rfl⟩
instance : Inhabited Nm.Lx := ⟨⟨[], 0⟩⟩
set_option maxRecDepth 100000 in
theorem open_words {w : World} {fuel : Nat} {cs : List Value} {x : DataW H × List MemPlace}
    (h : DataW.trod enc Tryd.prog w 0 (fun _ => true) true fuel 22 cs = some x) (hz : (x.1.weights Tryd.prog 22).all (· ≤ reachBytes) = true) :
    ∃ (A : Option Addr) (c : Nat) (l : List Nm.Lx), cs = [.slice A l.length c] ∧ Nm.LxAt w w.heap.size A l ∧ l.length ≤ 5864062014634 ∧ l.length ≤ c ∧ (A = none → c = 0 ∧ l = []) := by
  have cq : Tryd.prog.cellsOf 52 = 2 := by kernel_rfl
  rcases open_slice Tryd.underlying22 h with ⟨rfl, _⟩ | ⟨a, len, cap, m, n, D, Pl, rfl, _, hl, hmx, hmm, rfl, hi⟩
  · exact ⟨none, 0, [], rfl, Nm.LxAt.nil _ _ _, by simp, by simp, fun _ => ⟨rfl, rfl⟩⟩
  · simp only [if_true] at hmm
    have hrb : reachBytes = 140737488351232 := rfl
    have each : ∀ i, i < len → ∃ t : Nm.Lx, w.cell? (a.add (i * 2)) = some (.string (str t.tx)) ∧ w.cell? (a.add (i * 2 + 1)) = some (.int .i64 t.ln) := by
      intro i hil
      obtain ⟨cs', hc, ht⟩ := hi i (by omega)
      rw [cq] at hc
      obtain ⟨xs, n2, _, hx, _, hlen, hg⟩ := DataW.trod_struct Tryd.underlying52 ht
      obtain ⟨_, hcl, hat⟩ := World.cells?_some hc
      obtain ⟨v0, v1, rfl⟩ := two_of cs' hcl
      obtain ⟨x0, x1, rfl⟩ := two_of xs hlen
      have h0 := hg 0 _ rfl
      have h1 := hg 1 _ rfl
      change DataW.trod enc _ w 0 _ true n2 9 (List.take (Tryd.prog.cellsOf 9) [v0, v1]) = some x0 at h0
      change DataW.trod enc _ w 0 _ true n2 3 (List.take (Tryd.prog.cellsOf 3) [v1]) = some x1 at h1
      rw [show Tryd.prog.cellsOf 9 = 1 by kernel_rfl, List.take_succ_cons, List.take_zero] at h0
      rw [show Tryd.prog.cellsOf 3 = 1 by kernel_rfl, List.take_succ_cons, List.take_zero] at h1
      obtain ⟨s0, e0, _, _⟩ := DataW.trod_string Tryd.underlying9 h0
      obtain ⟨z1, e1, _, _⟩ := DataW.trod_int Tryd.underlying3 h1
      simp only [List.cons.injEq, and_true] at e0 e1
      subst e0 e1
      refine ⟨⟨s0.data.toList, z1⟩, ?_, ?_⟩
      · have := hat 0 (by decide)
        rw [str_of]
        simpa [Addr.add] using this
      · have := hat 1 (by decide)
        rw [← Go.Deep.add_add]
        exact this
    have hlen : len * 24 ≤ reachBytes := by
      have hm : (((List.range len).map D).length + ((List.range (m - len)).map fun j => D (len + j)).length) * Tryd.prog.bytesOf 52 ∈ DataW.weights Tryd.prog 22 (.slice ((List.range len).map D) ((List.range (m - len)).map fun j => D (len + j))) := by
        rw [DataW.weights, Tryd.underlying22]
        exact List.mem_cons_self ..
      have := List.all_eq_true.1 hz _ hm
      rw [show Tryd.prog.bytesOf 52 = 24 by kernel_rfl] at this
      simp only [List.length_map, List.length_range, decide_eq_true_eq] at this
      omega
    obtain ⟨y, hy⟩ := choose_lt each
    refine ⟨some a, cap, (List.range len).map y, by simp, fun i hi' => ?_, by simp; omega, by simp; omega, fun h => by cases h⟩
    have hi1 : i < len := by simpa using hi'
    obtain ⟨h0, h1⟩ := hy i hi1
    obtain ⟨g, o, rfl, hg⟩ := plain_of_cell (a := a) (by
      obtain ⟨this, _⟩ := hy 0 (by omega)
      rwa [Nat.zero_mul] at this)
    rw [Nm.addr_addS] at h0 h1
    simp only [List.getElem_map, List.getElem_range]
    exact ⟨g, o, rfl, hg, h0, h1⟩
set_option maxRecDepth 100000 in
theorem open_words_at {w : World} {r : Reach} {b0 : Nat} {v : Value} {d : DataW H} {p : List MemPlace} (hv : Value.okWide Tryd.prog w r b0 22 v) (h : DataW.Trod enc Tryd.prog w 0 (fun _ => true) true 22 v d p)
    (hz : (d.weights Tryd.prog 22).all (· ≤ reachBytes) = true) :
    ∃ (A : Option Addr) (c : Nat) (l : List Nm.Lx), v = .slice A l.length c ∧ Nm.LxAt w w.heap.size A l ∧ l.length ≤ 5864062014634 ∧ l.length ≤ c ∧ (A = none → c = 0 ∧ l = []) := by
  obtain ⟨a0, len, cap, rfl⟩ := okWide_slice Tryd.underlying22 hv
  obtain ⟨fuel, hf⟩ := h
  obtain ⟨A, c, l, e, h1, h2, h3⟩ := open_words hf hz
  have e' : [Value.slice a0 len cap] = [.slice A l.length c] := e
  simp only [List.cons.injEq, and_true] at e'
  exact ⟨A, c, l, e', h1, h2, h3⟩
set_option maxRecDepth 100000 in
theorem open_text {w : World} {r : Reach} {b0 : Nat} {v : Value} {d : DataW H} {p : List MemPlace} (hv : Value.okWide Tryd.prog w r b0 24 v) (h : DataW.Trod enc Tryd.prog w 0 (fun _ => true) true 24 v d p)
    (hz : (d.weights Tryd.prog 24).all (· ≤ reachBytes) = true) :
    ∃ (A : Option Addr) (c : Nat) (t : Nm.Txt), v = Nm.txV A c t ∧ Nm.LxAt w w.heap.size A t.ws ∧ t.ws.length ≤ 5864062014634 ∧ t.ws.length ≤ c ∧ (A = none → c = 0 ∧ t.ws = []) := by
  obtain ⟨cs, rfl, hsz⟩ := okWide_struct Tryd.underlying24 hv
  obtain ⟨fuel, hf⟩ := h
  obtain ⟨xs, n2, _, hx, hcl, hlen, hg⟩ := DataW.trod_struct Tryd.underlying24 hf
  have c2 : Tryd.prog.cellsOf 24 = 2 := by kernel_rfl
  obtain ⟨l⟩ := cs
  obtain ⟨v0, v1, rfl⟩ := two_of l (by simpa [c2] using hsz)
  obtain ⟨x0, x1, rfl⟩ := two_of xs hlen
  have g0 := hg 0 _ rfl
  have g1 := hg 1 _ rfl
  change DataW.trod enc _ w 0 _ true n2 9 (List.take (Tryd.prog.cellsOf 9) [v0, v1]) = some x0 at g0
  change DataW.trod enc _ w 0 _ true n2 22 (List.take (Tryd.prog.cellsOf 22) [v1]) = some x1 at g1
  rw [show Tryd.prog.cellsOf 9 = 1 by kernel_rfl, List.take_succ_cons, List.take_zero] at g0
  rw [show Tryd.prog.cellsOf 22 = 1 by kernel_rfl, List.take_succ_cons, List.take_zero] at g1
  simp only [Prod.mk.injEq, List.map_cons, List.map_nil] at hx
  obtain ⟨rfl, _⟩ := hx
  have hz2 : (x1.1.weights Tryd.prog 22).all (· ≤ reachBytes) = true := by
    refine List.all_eq_true.2 fun z hzz => List.all_eq_true.1 hz z ?_
    rw [DataW.weights, Tryd.underlying24]
    exact DataW.weights_mem_each (j := 1) (t := 22) rfl (show [x0.1, x1.1][1]? = some x1.1 from rfl) z hzz
  obtain ⟨s0, e0, _, _⟩ := DataW.trod_string Tryd.underlying9 g0
  obtain ⟨A, c, ws, e1, k3, k4, k5, k6⟩ := open_words g1 hz2
  simp only [List.cons.injEq, and_true] at e0 e1
  subst e0 e1
  exact ⟨A, c, ⟨s0.data.toList, ws⟩, rfl, k3, k4, k5, k6⟩
end
end Go.Proofs.YtkmldaelgbkfbaaDoor
