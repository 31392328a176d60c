/- How a row of a record's law is proved from its walk: the world's shape and the sizes are handed on. Condition: the listed variables lie as the card ties them. -/
import Derived.Test.YtjemffgidhgfjaaGreatDoorRkFew
import Derived.Test.YtjemffgidhgfjaaGreatDoorTie
import Derived.Test.YtjemffgidhgfjaaGreatDoorCards
import Derived.ProofKit
import Derived.LaidMore
import Derived.LaidLaws
import Derived.OpenShut
import Derived.Stop.Joined
import Derived.SevenTiedAt
import Derived.SizedLaws
import Derived.Deep.Strs
import Derived.Deep.Slices
import Derived.Deep.SlicePairs
import Derived.Deep.Fields
import Derived.ChangeSame
import Derived.HandedShaped
import Derived.Shelf.Vars
import GoSem.PinnedTables
namespace Go.Proofs.YtjemffgidhgfjaaGreatDoor.Rk
open Go.ChangeShapes Go.WideShapes Go.ChangeAt Go.WideMaps Go.WideElems Go.RowKit Go.Deep Tr

theorem own : ownKnob Tryz.prog.godebug = none := by kernel_rfl
theorem laidOut : laidOutB Tryz.prog = true := by kernel_rfl
def laidP : List (String × DataW Unit) := [("unicode/utf8.acceptRanges", Rows.laid_unicode_utf8_acceptRanges), ("unicode/utf8.first", Rows.laid_unicode_utf8_first)]
/-- A start in which the pinned table lies. -/
noncomputable def pinW (os : Os) : World :=
  { World.doorLaid Tryz.prog 400 os with heap := (World.doorLaid Tryz.prog 400 os).heap.modify 1 fun
      | .cells _ t frozen => .cells (Go.Pinned.utf8FirstZ.map fun (n : Nat) => Value.int .u8 (n : Int)).toArray t frozen
      | o => o }
set_option maxRecDepth 100000 in
theorem pin_met (os : Os) (args : Array Value) : laidMetH Tryz.prog laidP ((pinW os).forCall (fun _ _ => 0) ⟨#[], args, []⟩).memory :=
  laidMetH_of_parts3 (fuel := 8) (laidMet_of_run' 8 (by kernel_rfl) (by kernel_rfl)) (by kernel_rfl) (by kernel_rfl)
theorem max_of {W : World} (h : W.ShapedOpen Tryz.prog) : MaxAt W :=
  cell_of_shapedOpen_int h (t := 3) (zero := #[.int .i64 0]) (of_decide_eq_true (by kernel_rfl)) (by kernel_rfl) rfl (by kernel_rfl) (by kernel_rfl) Tryz.underlying3
section
variable {H : Type} {enc : TypeId × Value → H}
/-- A call's contract that knows the world's shape and the sizes gives the row. -/
theorem returns_shaped_and {C : Checked} {os : Os} {f : FuncId} {fn : Func} {s : ChangeSpec} {conds : List PathCond} {X : World → Array Value → Prop}
    (hX : ∀ (w w' : World) (args : Array Value), w.heap = w'.heap → X w args → X w' args)
    (own : ownKnob C.prog.godebug = none) (started : os.Started) (noInit : C.prog.inits.idxOf? f = none) (hfn : C.prog.funcs[f]? = some fn)
    (witness : ∃ (w : World) (tape : Tape) (i : Input), w.os = os ∧ (w.forCall tape i).Shaped C.prog ∧ i.vars = [] ∧ Input.okWide C.prog (w.forCall tape i) .any w.heap.size f i ∧
      ((s.pre enc C.prog fn conds false (w.forCall tape i).memory i.args ∧ X (w.forCall tape i).memory i.args) ∧ sizedMet enc C.prog fn (OpenSpec.ofChange s) false (w.forCall tape i).memory i.args) ∧ ({} : Assume).holds C.prog (lone (Frame.enter C.prog f i.args .normal) [] (w.forCall tape i)))
    (walk : ∀ (W : World) (base : Nat) (args : Array Value) (ds gs : List (DataW H)) (before : List MemPlace), W.ShapedOpen C.prog →
      (∀ (j : Nat) t v, fn.params[j]? = some t → args[j]? = some v → Value.okWide C.prog W .any base t v) →
      DataW.Whole enc C.prog fn.params.toList s.vars false W args.toList ds gs before →
      (DataW.weightsEach C.prog (fn.params.toList ++ s.plain.varTypes C.prog) (ds ++ gs)).all (· ≤ reachBytes) = true → X W args →
      Calls C.prog f args W fun e W' => ∃ v, e = .returned v ∧ s.post enc C.prog fn false true false false W args v W') :
    ReturnsInHanded {} C os f .any (fun w args => (s.pre enc C.prog fn conds false w args ∧ X w args) ∧ sizedMet enc C.prog fn (OpenSpec.ofChange s) false w args) (s.post enc C.prog fn false true false false) := by
  refine returnsInHanded_of_calls own started noInit witness fun w tape i _ hsh _ hok hpre _ => ?_
  obtain ⟨_, _, _, fn2, hfn2, _, _, _, _, hval⟩ := hok
  obtain rfl : fn2 = fn := Option.some.inj (hfn2.symm.trans hfn)
  obtain ⟨⟨⟨ds, gs, before, hw, _⟩, hx⟩, hz⟩ := hpre
  refine (walk (w.forCall tape i) w.heap.size i.args ds gs before hsh hval (DataW.Whole.of_heap (w' := w.forCall tape i) (by rfl) hw) (hz.weights hw) (hX _ _ _ (by rfl) hx)).mono fun e W' h => ?_
  obtain ⟨v, rfl, hp⟩ := h
  exact ChangeSpec.post_blind hp
theorem weights_mem_all {P : Program} {e : TypeId} : ∀ {l : List (DataW H)} {d : DataW H}, d ∈ l → ∀ n ∈ d.weights P e, n ∈ DataW.weightsAll P e l
  | d0 :: l, d, hd, n, hn => by
    rw [DataW.weightsAll]
    rcases List.mem_cons.1 hd with rfl | h
    · exact List.mem_append_left _ hn
    · exact List.mem_append_right _ (weights_mem_all h n hn)
theorem plain_of_cell {w : World} {a : Addr} {v : Value} (h : w.cell? (a.add 0) = some v) : ∃ g o, a = ⟨g, o, none⟩ ∧ g < w.heap.size := by
  have h0 : a.add 0 = a := by simp [Addr.add]
  rw [h0] at h
  have hlt := World.block_lt_of_cell? w a h
  obtain ⟨g, o, s⟩ := a
  cases s with
  | none => exact ⟨g, o, rfl, hlt⟩
  | some x =>
    unfold World.cell? at h
    simp at h
    split at h <;> cases h
theorem choose_lt {β : Type} [Inhabited β] {n : Nat} {p : Nat → β → Prop} (h : ∀ i, i < n → ∃ y, p i y) : ∃ y : Nat → β, ∀ i, i < n → p i (y i) := by
  refine ⟨fun i => if hi : i < n then (h i hi).choose else default, fun i hi => ?_⟩
  simp only [hi, dite_true]
  exact (h i hi).choose_spec
theorem two_of {α : Type} (l : List α) (h : l.length = 2) : ∃ a b, l = [a, b] := by
  match l, h with
  | [a, b], _ => exact ⟨a, b, rfl⟩
theorem six_of {α : Type} (l : List α) (h : l.length = 6) : ∃ a b c d e f, l = [a, b, c, d, e, f] := by
  match l, h with
  | [a, b, c, d, e, f], _ => exact ⟨a, b, c, d, e, f, rfl⟩
theorem five_of {α : Type} (l : List α) (h : l.length = 5) : ∃ a b c d e, l = [a, b, c, d, e] := by
  match l, h with
  | [a, b, c, d, e], _ => exact ⟨a, b, c, d, e, rfl⟩
theorem str_of (s : ByteArray) : str s.data.toList = s := rfl
instance : Inhabited Tch := ⟨⟨[], []⟩⟩
instance : Inhabited Dn := ⟨⟨0, 0, 0, none, 0, [], ⟨[], []⟩⟩⟩
set_option maxRecDepth 100000 in
theorem open_strs_at {w : World} {held : Bool} {fuel : Nat} {cs : List Value} {x : DataW H × List MemPlace}
    (h : DataW.trod enc Tryz.prog w 0 (fun _ => true) held fuel 22 cs = some x) (hz : (x.1.weights Tryz.prog 22).all (· ≤ reachBytes) = true) :
    ∃ (A : Option Addr) (c : Nat) (l : List (List UInt8)), cs = [.slice A l.length c] ∧ Rc.StAt w w.heap.size A l ∧ l.length ≤ 140737488351232 ∧ ∀ p ∈ l, p.length ≤ 140737488351232 := by
  have cq : Tryz.prog.cellsOf 9 = 1 := by kernel_rfl
  rcases open_slice1 Tryz.underlying22 cq h with ⟨rfl, _⟩ | ⟨a, len, cap, m, n, V, D, Pl, rfl, _, hl, hmx, hmm, rfl, hi⟩
  · exact ⟨none, 0, [], rfl, Rc.ElAt.nil _ _ _ _ _, by simp, fun p hp => by cases hp⟩
  · simp only [if_true] at hmm
    have hrb : reachBytes = 140737488351232 := rfl
    have each : ∀ i, i < len → ∃ t : List UInt8, w.cell? (a.add i) = some (.string (str t)) ∧ t.length ≤ reachBytes := by
      intro i hil
      obtain ⟨h0, e0⟩ := hi i (by omega)
      obtain ⟨s0, q0, q2, _⟩ := DataW.trod_string Tryz.underlying9 e0
      simp only [List.cons.injEq, and_true] at q0
      have q3 : D i = .lit (.string s0.data.toList) := congrArg Prod.fst q2
      refine ⟨s0.data.toList, ?_, ?_⟩
      · rw [h0, q0]; cases s0; simp [str]
      · have hm : s0.data.toList.length ∈ DataW.weights Tryz.prog 22 (.slice ((List.range len).map D) ((List.range (m - len)).map fun j => D (len + j))) := by
          rw [DataW.weights, Tryz.underlying22]
          exact List.mem_cons_of_mem _ (List.mem_append_left _ (weights_mem_all (d := D i) (List.mem_map.2 ⟨i, List.mem_range.2 hil, rfl⟩) _ (by rw [q3]; simp [DataW.weights])))
        have := List.all_eq_true.1 hz _ hm
        simpa using this
    obtain ⟨y, hy⟩ := choose_lt each
    have hlen : len * 16 ≤ reachBytes := by
      have hm : (((List.range len).map D).length + ((List.range (m - len)).map fun j => D (len + j)).length) * Tryz.prog.bytesOf 9 ∈ DataW.weights Tryz.prog 22 (.slice ((List.range len).map D) ((List.range (m - len)).map fun j => D (len + j))) := by
        rw [DataW.weights, Tryz.underlying22]
        exact List.mem_cons_self ..
      have := List.all_eq_true.1 hz _ hm
      rw [show Tryz.prog.bytesOf 9 = 16 by kernel_rfl] at this
      simp only [List.length_map, List.length_range, decide_eq_true_eq] at this
      omega
    refine ⟨some a, cap, (List.range len).map y, by simp, fun i hi' => ?_, by simp; omega, fun p hp => by
      obtain ⟨i, hi2, rfl⟩ := List.mem_map.1 hp
      exact (hy i (List.mem_range.1 hi2)).2⟩
    have hi1 : i < len := by simpa using hi'
    have h0 := (hy i hi1).1
    obtain ⟨g, o, rfl, hg⟩ := plain_of_cell (a := a) (hy 0 (by omega)).1
    rw [addr_addS] at h0
    refine ⟨g, o, rfl, hg, fun j u hu => ?_⟩
    simp only [List.getElem_map, List.getElem_range] at hu
    match j, hu with
    | 0, hu => obtain rfl := Option.some.inj hu; simpa using h0
/-- A touched file as it lies. -/
def TchAt (w : World) (a : Addr) (i : Nat) (s : Tch) : Prop := w.cell? (a.add (i * 2)) = some (.string (str s.pth)) ∧ w.cell? (a.add (i * 2 + 1)) = some (.string (str s.dig))
set_option maxRecDepth 100000 in
theorem open_tch {w : World} {held : Bool} {fuel : Nat} {v0 v1 : Value} {x : DataW H × List MemPlace} (ht : DataW.trod enc Tryz.prog w 0 (fun _ => true) held fuel 45 [v0, v1] = some x) : ∃ t : Tch, v0 = .string (str t.pth) ∧ v1 = .string (str t.dig) := by
  obtain ⟨xs, n2, _, hx, _, hlen, hg⟩ := DataW.trod_struct Tryz.underlying45 ht
  obtain ⟨x0, x1, rfl⟩ := two_of xs hlen
  have h0 := hg 0 _ rfl
  have h1 := hg 1 _ rfl
  change DataW.trod enc _ w 0 _ held n2 9 (List.take (Tryz.prog.cellsOf 9) [v0, v1]) = some x0 at h0
  change DataW.trod enc _ w 0 _ held n2 9 (List.take (Tryz.prog.cellsOf 9) [v1]) = some x1 at h1
  rw [show Tryz.prog.cellsOf 9 = 1 by kernel_rfl, List.take_succ_cons, List.take_zero] at h0 h1
  obtain ⟨s0, e0, _, _⟩ := DataW.trod_string Tryz.underlying9 h0
  obtain ⟨s1, e1, _, _⟩ := DataW.trod_string Tryz.underlying9 h1
  simp only [List.cons.injEq, and_true] at e0 e1
  exact ⟨⟨s0.data.toList, s1.data.toList⟩, by rw [e0, str_of], by rw [e1, str_of]⟩
set_option maxRecDepth 100000 in
theorem open_tcs_at {w : World} {held : Bool} {fuel : Nat} {cs : List Value} {x : DataW H × List MemPlace}
    (h : DataW.trod enc Tryz.prog w 0 (fun _ => true) held fuel 46 cs = some x) (hz : (x.1.weights Tryz.prog 46).all (· ≤ reachBytes) = true) :
    ∃ (A : Option Addr) (c : Nat) (l : List Tch), cs = [.slice A l.length c] ∧ Rc.TcAt w w.heap.size A l ∧ l.length ≤ 140737488351232 := by
  have cq : Tryz.prog.cellsOf 45 = 2 := by kernel_rfl
  rcases open_slice Tryz.underlying46 h with ⟨rfl, _⟩ | ⟨a, len, cap, m, n, D, Pl, rfl, _, hl, hmx, hmm, rfl, hi⟩
  · exact ⟨none, 0, [], rfl, Rc.ElAt.nil _ _ _ _ _, by simp⟩
  · simp only [if_true] at hmm
    have hrb : reachBytes = 140737488351232 := rfl
    have each : ∀ i, i < len → ∃ t : Tch, TchAt w a i t := by
      intro i hil
      obtain ⟨cs', hc, ht⟩ := hi i (by omega)
      rw [cq] at hc
      obtain ⟨_, hcl, hat⟩ := World.cells?_some hc
      obtain ⟨v0, v1, rfl⟩ := two_of cs' hcl
      obtain ⟨t, rfl, rfl⟩ := open_tch ht
      refine ⟨t, ?_, ?_⟩
      · have := hat 0 (by decide)
        simpa [Addr.add] using this
      · have := hat 1 (by decide)
        rw [← Go.Deep.add_add]
        exact this
    have hlen : len * 32 ≤ reachBytes := by
      have hm : (((List.range len).map D).length + ((List.range (m - len)).map fun j => D (len + j)).length) * Tryz.prog.bytesOf 45 ∈ DataW.weights Tryz.prog 46 (.slice ((List.range len).map D) ((List.range (m - len)).map fun j => D (len + j))) := by
        rw [DataW.weights, Tryz.underlying46]
        exact List.mem_cons_self ..
      have := List.all_eq_true.1 hz _ hm
      rw [show Tryz.prog.bytesOf 45 = 32 by kernel_rfl] at this
      simp only [List.length_map, List.length_range, decide_eq_true_eq] at this
      omega
    obtain ⟨y, hy⟩ := choose_lt each
    refine ⟨some a, cap, (List.range len).map y, by simp, fun i hi' => ?_, by simp; omega⟩
    have hi1 : i < len := by simpa using hi'
    obtain ⟨h0, h1⟩ := hy i hi1
    obtain ⟨g, o, rfl, hg⟩ := plain_of_cell (a := a) (by
      obtain ⟨this, _⟩ := hy 0 (by omega)
      rwa [Nat.zero_mul] at this)
    rw [addr_addS] at h0 h1
    refine ⟨g, o, rfl, hg, fun j u hu => ?_⟩
    simp only [List.getElem_map, List.getElem_range] at hu
    match j, hu with
    | 0, hu => obtain rfl := Option.some.inj hu; exact h0
    | 1, hu => obtain rfl := Option.some.inj hu; exact h1
/-- A step as it lies. -/
def DneAt (w : World) (a : Addr) (i : Nat) (s : Dn) : Prop := (∀ k u, (Rc.dnV s)[k]? = some u → w.cell? (a.add (i * 6 + k)) = some u) ∧ Rc.TcAt w w.heap.size s.A s.rds ∧ s.rds.length ≤ 140737488351232
set_option maxRecDepth 100000 in
theorem open_done_at {w : World} {held : Bool} {fuel : Nat} {T : TypeId} {cs : List Value} {x : DataW H × List MemPlace} (hT : Tryz.prog.underlying T = some (.slice 48))
    (h : DataW.trod enc Tryz.prog w 0 (fun _ => true) held fuel T cs = some x) (hz : (x.1.weights Tryz.prog T).all (· ≤ reachBytes) = true) :
    ∃ (A : Option Addr) (c : Nat) (l : List Dn), cs = [.slice A l.length c] ∧ RcAt w A l := by
  have cq : Tryz.prog.cellsOf 48 = 6 := by kernel_rfl
  rcases open_slice hT h with ⟨rfl, _⟩ | ⟨a, len, cap, m, n, D, Pl, rfl, _, hl, hmx, hmm, rfl, hi⟩
  · exact ⟨none, 0, [], rfl, ⟨Rc.ElAt.nil _ _ _ _ _, fun s hs => by simp at hs, by simp, fun s hs => by simp at hs⟩⟩
  · simp only [if_true] at hmm
    have hrb : reachBytes = 140737488351232 := rfl
    have each : ∀ i, i < len → ∃ t : Dn, DneAt w a i t := by
      intro i hil
      obtain ⟨cs', hc, ht⟩ := hi i (by omega)
      rw [cq] at hc
      obtain ⟨xs, n2, _, hx, _, hlen, hg⟩ := DataW.trod_struct Tryz.underlying48 ht
      obtain ⟨_, hcl, hat⟩ := World.cells?_some hc
      obtain ⟨v0, v1, v2, v3, v4, v5, rfl⟩ := six_of cs' hcl
      obtain ⟨x0, x1, x2, x3, x4, rfl⟩ := five_of xs hlen
      have h0 := hg 0 _ rfl
      have h1 := hg 1 _ rfl
      have h2 := hg 2 _ rfl
      have h3 := hg 3 _ rfl
      have h4 := hg 4 _ rfl
      change DataW.trod enc _ w 0 _ held n2 3 (List.take (Tryz.prog.cellsOf 3) [v0, v1, v2, v3, v4, v5]) = some x0 at h0
      change DataW.trod enc _ w 0 _ held n2 3 (List.take (Tryz.prog.cellsOf 3) [v1, v2, v3, v4, v5]) = some x1 at h1
      change DataW.trod enc _ w 0 _ held n2 3 (List.take (Tryz.prog.cellsOf 3) [v2, v3, v4, v5]) = some x2 at h2
      change DataW.trod enc _ w 0 _ held n2 46 (List.take (Tryz.prog.cellsOf 46) [v3, v4, v5]) = some x3 at h3
      change DataW.trod enc _ w 0 _ held n2 45 (List.take (Tryz.prog.cellsOf 45) [v4, v5]) = some x4 at h4
      rw [show Tryz.prog.cellsOf 3 = 1 by kernel_rfl, List.take_succ_cons, List.take_zero] at h0 h1 h2
      rw [show Tryz.prog.cellsOf 46 = 1 by kernel_rfl, List.take_succ_cons, List.take_zero] at h3
      rw [show Tryz.prog.cellsOf 45 = 2 by kernel_rfl, List.take_succ_cons, List.take_succ_cons, List.take_zero] at h4
      simp only [Prod.mk.injEq, List.map_cons, List.map_nil] at hx
      obtain ⟨hD, _⟩ := hx
      have hz3 : (x3.1.weights Tryz.prog 46).all (· ≤ reachBytes) = true := by
        refine List.all_eq_true.2 fun z hzz => List.all_eq_true.1 hz z ?_
        rw [DataW.weights, hT]
        refine List.mem_cons_of_mem _ (List.mem_append_left _ (weights_mem_all (d := D i) (List.mem_map.2 ⟨i, List.mem_range.2 hil, rfl⟩) _ ?_))
        rw [hD, DataW.weights, Tryz.underlying48]
        exact DataW.weights_mem_each (j := 3) (t := 46) rfl (show [x0.1, x1.1, x2.1, x3.1, x4.1][3]? = some x3.1 from rfl) z hzz
      obtain ⟨z0, e0, _, _⟩ := DataW.trod_int Tryz.underlying3 h0
      obtain ⟨z1, e1, _, _⟩ := DataW.trod_int Tryz.underlying3 h1
      obtain ⟨z2, e2, _, _⟩ := DataW.trod_int Tryz.underlying3 h2
      obtain ⟨Ak, ck, l, e3, k1, k2⟩ := open_tcs_at h3 hz3
      obtain ⟨t, rfl, rfl⟩ := open_tch h4
      simp only [List.cons.injEq, and_true] at e0 e1 e2 e3
      subst e0 e1 e2 e3
      refine ⟨⟨z0, z1, z2, Ak, ck, l, t⟩, fun k u hu => ?_, k1, k2⟩
      have hk : k < 6 := (List.getElem?_eq_some_iff.1 hu).1
      have h5 := hat k hk
      rw [Go.Deep.add_add] at h5
      rw [h5]
      exact hu
    have hlen : len * 80 ≤ reachBytes := by
      have hm : (((List.range len).map D).length + ((List.range (m - len)).map fun j => D (len + j)).length) * Tryz.prog.bytesOf 48 ∈ DataW.weights Tryz.prog T (.slice ((List.range len).map D) ((List.range (m - len)).map fun j => D (len + j))) := by
        rw [DataW.weights, hT]
        exact List.mem_cons_self ..
      have := List.all_eq_true.1 hz _ hm
      rw [show Tryz.prog.bytesOf 48 = 80 by kernel_rfl] at this
      simp only [List.length_map, List.length_range, decide_eq_true_eq] at this
      omega
    obtain ⟨y, hy⟩ := choose_lt each
    refine ⟨some a, cap, (List.range len).map y, by simp, ⟨fun i hi' => ?_, fun s hs => ?_, by simp; omega, fun s hs => ?_⟩⟩
    · have hi1 : i < len := by simpa using hi'
      obtain ⟨h0, _, _⟩ := hy i hi1
      obtain ⟨g, o, rfl, hg⟩ := plain_of_cell (a := a) (by
        obtain ⟨this, _⟩ := hy 0 (by omega)
        have := this 0 _ rfl
        rwa [Nat.zero_mul] at this)
      refine ⟨g, o, rfl, hg, fun j u hu => ?_⟩
      simp only [List.getElem_map, List.getElem_range] at hu
      have := h0 j u hu
      rwa [addr_addS, ← Nat.add_assoc] at this
    · obtain ⟨i, hi2, rfl⟩ := List.mem_map.1 hs
      exact (hy i (List.mem_range.1 hi2)).2.1
    · obtain ⟨i, hi2, rfl⟩ := List.mem_map.1 hs
      exact (hy i (List.mem_range.1 hi2)).2.2
set_option maxRecDepth 100000 in
/-- An argument that is a record. -/
theorem open_rec {w : World} {r : Reach} {b0 : Nat} {v : Value} {d : DataW H} {p : List MemPlace} (hv : Value.okWide Tryz.prog w r b0 27 v) (h : DataW.Trod enc Tryz.prog w 0 (fun _ => true) true 27 v d p)
    (hz : (d.weights Tryz.prog 27).all (· ≤ reachBytes) = true) :
    ∃ (A : Option Addr) (c : Nat) (l : List Dn), v = .slice A l.length c ∧ RcAt w A l := by
  obtain ⟨a, len, cap, rfl⟩ := okWide_slice Tryz.underlying27 hv
  obtain ⟨fuel, hf⟩ := h
  obtain ⟨A, c, l, hcs, hR⟩ := open_done_at Tryz.underlying27 hf hz
  simp [Value.cells] at hcs
  obtain ⟨rfl, rfl, rfl⟩ := hcs
  exact ⟨_, _, _, rfl, hR⟩
set_option maxRecDepth 100000 in
/-- An argument that is a list of texts. -/
theorem open_strs_arg {w : World} {r : Reach} {b0 : Nat} {v : Value} {d : DataW H} {p : List MemPlace} (hv : Value.okWide Tryz.prog w r b0 22 v) (h : DataW.Trod enc Tryz.prog w 0 (fun _ => true) true 22 v d p)
    (hz : (d.weights Tryz.prog 22).all (· ≤ reachBytes) = true) :
    ∃ (A : Option Addr) (c : Nat) (l : List (List UInt8)), v = .slice A l.length c ∧ Rc.StAt w w.heap.size A l ∧ l.length ≤ 140737488351232 ∧ ∀ p ∈ l, p.length ≤ 140737488351232 := by
  obtain ⟨a, len, cap, rfl⟩ := okWide_slice Tryz.underlying22 hv
  obtain ⟨fuel, hf⟩ := h
  obtain ⟨A, c, l, hcs, hR, hL⟩ := open_strs_at hf hz
  simp [Value.cells] at hcs
  obtain ⟨rfl, rfl, rfl⟩ := hcs
  exact ⟨_, _, _, rfl, hR, hL⟩
end
end Go.Proofs.YtjemffgidhgfjaaGreatDoor.Rk
