/- How a row of a set's law is proved from its walk: the world's shape and the sizes are handed on. Condition: the listed variables lie as the card ties them. -/
import Derived.Test.YtlablbibdkcifaaGreatDoorFew
import Derived.Test.YtlablbibdkcifaaGreatDoorTie
import Derived.Test.YtlablbibdkcifaaGreatDoorCards
import Derived.ProofKit
import Derived.LaidMore
import Derived.LaidLaws
import Derived.OpenShut
import Derived.Stop.Joined
import Derived.SevenTiedAt
import Derived.SizedLaws
import Derived.Lib.LaidTab
import Derived.Deep.Strs
import Derived.Deep.Slices
import Derived.Deep.SlicePairs
import Derived.Deep.Fields
import Derived.ChangeSame
import Derived.HandedShaped
import Derived.Shelf.Vars
import GoSem.PinnedTables
namespace Go.Proofs.YtlablbibdkcifaaGreatDoor
open Go.ChangeShapes Go.WideShapes Go.ChangeAt Go.WideMaps Go.WideElems Go.RowKit Go.Deep Tr

theorem own : ownKnob Tryz.prog.godebug = none := by kernel_rfl
theorem laidOut : laidOutB Tryz.prog = true := by kernel_rfl
theorem gTab : Tryz.prog.globalNamed "internal/strconv.uint64pow10" = some 1 := by kernel_rfl
theorem tTab : (Tryz.prog.globals[1]?).map (·.type) = some 124 := by kernel_rfl
def laidP : List (String × DataW Unit) := [("math/bits.deBruijn32tab", Rows.laid_math_bits_deBruijn32tab), ("math/bits.deBruijn64tab", Rows.laid_math_bits_deBruijn64tab), ("internal/strconv.uint64pow10", Rows.laid_internal_strconv_uint64pow10), ("unicode/utf8.acceptRanges", Rows.laid_unicode_utf8_acceptRanges), ("unicode/utf8.first", Rows.laid_unicode_utf8_first)]
/-- A start in which the pinned table lies. -/
noncomputable def pinW (os : Os) : World :=
  { World.doorLaid Tryz.prog 400 os with heap := (World.doorLaid Tryz.prog 400 os).heap.modify 4 fun
      | .cells _ t frozen => .cells (Go.Pinned.utf8FirstZ.map fun (n : Nat) => Value.int .u8 (n : Int)).toArray t frozen
      | o => o }
set_option maxRecDepth 100000 in
theorem pin_met (os : Os) (args : Array Value) : laidMetH Tryz.prog laidP ((pinW os).forCall (fun _ _ => 0) ⟨#[], args, []⟩).memory :=
  laidMetH_of_parts3 (fuel := 8) (laidMet_of_run' 8 (by kernel_rfl) (by kernel_rfl)) (by kernel_rfl) (by kernel_rfl)
theorem tabs_of {W : World} (h : laidMetH Tryz.prog laidP W) : Cd.Tabs W := by
  rw [MakeChecks.laidMetH_plain _ _ _ (by kernel_rfl)] at h
  obtain ⟨ps, ⟨_, _, _, _, _, _, _, _, _, _, ⟨_, _, _, _, _, _, _, _, _, _, ⟨g0, t0, cs0, f0, p0, q0, hg0, ht0, hv0, hd0, _, _⟩, _⟩, _⟩, _, _⟩ := h
  obtain rfl := Option.some.inj (gTab.symm.trans hg0)
  obtain rfl := Option.some.inj (tTab.symm.trans ht0)
  have hl : (Rows.laid_internal_strconv_uint64pow10 : DataW Unit) = Lib.tabData .u64 Lib.pow10Tab := rfl
  rw [hl] at hd0
  have hc := Lib.cells_of_tab Tryz.underlying124 Tryz.underlying105 (by kernel_rfl) (by kernel_rfl) hd0
  unfold Cd.Tabs Lib.TabIs
  rw [hv0, ← hc]
theorem max_of {W : World} (h : W.ShapedOpen Tryz.prog) : MaxAt W :=
  cell_of_shapedOpen_int h (t := 3) (zero := #[.int .i64 0]) (of_decide_eq_true (by kernel_rfl)) (by kernel_rfl) rfl (by kernel_rfl) (by kernel_rfl) Tryz.underlying3
section
variable {H : Type} {enc : TypeId × Value → H}
/-- A call's contract that knows the world's shape and the sizes gives the row. -/
theorem returns_shaped_and {C : Checked} {os : Os} {f : FuncId} {fn : Func} {s : ChangeSpec} {conds : List PathCond} {X : World → Array Value → Prop}
    (hX : ∀ (w w' : World) (args : Array Value), w.heap = w'.heap → X w args → X w' args)
    (own : ownKnob C.prog.godebug = none) (started : os.Started) (noInit : C.prog.inits.idxOf? f = none) (hfn : C.prog.funcs[f]? = some fn)
    (witness : ∃ (w : World) (tape : Tape) (i : Input), w.os = os ∧ (w.forCall tape i).Shaped C.prog ∧ i.vars = [] ∧ Input.okWide C.prog (w.forCall tape i) .any w.heap.size f i ∧
      ((s.pre enc C.prog fn conds false (w.forCall tape i).memory i.args ∧ X (w.forCall tape i).memory i.args) ∧ sizedMet enc C.prog fn (OpenSpec.ofChange s) false (w.forCall tape i).memory i.args) ∧ ({} : Assume).holds C.prog (lone (Frame.enter C.prog f i.args .normal) [] (w.forCall tape i)))
    (walk : ∀ (W : World) (base : Nat) (args : Array Value) (ds gs : List (DataW H)) (before : List MemPlace), W.ShapedOpen C.prog →
      (∀ (j : Nat) t v, fn.params[j]? = some t → args[j]? = some v → Value.okWide C.prog W .any base t v) →
      DataW.Whole enc C.prog fn.params.toList s.vars false W args.toList ds gs before →
      (DataW.weightsEach C.prog (fn.params.toList ++ s.plain.varTypes C.prog) (ds ++ gs)).all (· ≤ reachBytes) = true → X W args →
      Calls C.prog f args W fun e W' => ∃ v, e = .returned v ∧ s.post enc C.prog fn false true false false W args v W') :
    ReturnsInHanded {} C os f .any (fun w args => (s.pre enc C.prog fn conds false w args ∧ X w args) ∧ sizedMet enc C.prog fn (OpenSpec.ofChange s) false w args) (s.post enc C.prog fn false true false false) := by
  refine returnsInHanded_of_calls own started noInit witness fun w tape i _ hsh _ hok hpre _ => ?_
  obtain ⟨_, _, _, fn2, hfn2, _, _, _, _, hval⟩ := hok
  obtain rfl : fn2 = fn := Option.some.inj (hfn2.symm.trans hfn)
  obtain ⟨⟨⟨ds, gs, before, hw, _⟩, hx⟩, hz⟩ := hpre
  refine (walk (w.forCall tape i) w.heap.size i.args ds gs before hsh hval (DataW.Whole.of_heap (w' := w.forCall tape i) (by rfl) hw) (hz.weights hw) (hX _ _ _ (by rfl) hx)).mono fun e W' h => ?_
  obtain ⟨v, rfl, hp⟩ := h
  exact ChangeSpec.post_blind hp
theorem weights_mem_all {P : Program} {e : TypeId} : ∀ {l : List (DataW H)} {d : DataW H}, d ∈ l → ∀ n ∈ d.weights P e, n ∈ DataW.weightsAll P e l
  | d0 :: l, d, hd, n, hn => by
    rw [DataW.weightsAll]
    rcases List.mem_cons.1 hd with rfl | h
    · exact List.mem_append_left _ hn
    · exact List.mem_append_right _ (weights_mem_all h n hn)
theorem plain_of_cell {w : World} {a : Addr} {v : Value} (h : w.cell? (a.add 0) = some v) : ∃ g o, a = ⟨g, o, none⟩ ∧ g < w.heap.size := by
  have h0 : a.add 0 = a := by simp [Addr.add]
  rw [h0] at h
  have hlt := World.block_lt_of_cell? w a h
  obtain ⟨g, o, s⟩ := a
  cases s with
  | none => exact ⟨g, o, rfl, hlt⟩
  | some x =>
    unfold World.cell? at h
    simp at h
    split at h <;> cases h
theorem choose_lt {β : Type} [Inhabited β] {n : Nat} {p : Nat → β → Prop} (h : ∀ i, i < n → ∃ y, p i y) : ∃ y : Nat → β, ∀ i, i < n → p i (y i) := by
  refine ⟨fun i => if hi : i < n then (h i hi).choose else default, fun i hi => ?_⟩
  simp only [hi, dite_true]
  exact (h i hi).choose_spec
theorem three_of {α : Type} (l : List α) (h : l.length = 3) : ∃ a b c, l = [a, b, c] := by
  match l, h with
  | [a, b, c], _ => exact ⟨a, b, c, rfl⟩
theorem two_of {α : Type} (l : List α) (h : l.length = 2) : ∃ a b, l = [a, b] := by
  match l, h with
  | [a, b], _ => exact ⟨a, b, rfl⟩
/-- A span as it lies. -/
def SpnAt (w : World) (a : Addr) (i : Nat) (s : Ls.Sp) : Prop := w.cell? (a.add (i * 3)) = some (.string (str s.path)) ∧ w.cell? (a.add (i * 3 + 1)) = some (.int .i64 s.lo) ∧ w.cell? (a.add (i * 3 + 2)) = some (.int .i64 s.hi)
set_option maxRecDepth 100000 in
theorem open_sps_at {w : World} {held : Bool} {fuel : Nat} {cs : List Value} {x : DataW H × List MemPlace}
    (h : DataW.trod enc Tryz.prog w 0 (fun _ => true) held fuel 23 cs = some x) (hz : (x.1.weights Tryz.prog 23).all (· ≤ reachBytes) = true) :
    ∃ (A : Option Addr) (c : Nat) (l : List Ls.Sp), cs = [.slice A l.length c] ∧ SetRaw w A l := by
  have cq : Tryz.prog.cellsOf 32 = 3 := by kernel_rfl
  rcases open_slice Tryz.underlying23 h with ⟨rfl, _⟩ | ⟨a, len, cap, m, n, D, Pl, rfl, _, hl, hmx, hmm, rfl, hi⟩
  · exact ⟨none, 0, [], rfl, Ls.ElAt.nil _ _ _ _ _, by simp⟩
  · simp only [if_true] at hmm
    have hrb : reachBytes = 140737488351232 := rfl
    have each : ∀ i, i < len → ∃ t : Ls.Sp, SpnAt w a i t := by
      intro i hil
      obtain ⟨cs', hc, ht⟩ := hi i (by omega)
      rw [cq] at hc
      obtain ⟨xs, n2, _, hx, _, hlen, hg⟩ := DataW.trod_struct Tryz.underlying32 ht
      obtain ⟨_, hcl, hat⟩ := World.cells?_some hc
      obtain ⟨v0, v1, v2, rfl⟩ := three_of cs' hcl
      obtain ⟨x0, x1, x2, rfl⟩ := three_of xs hlen
      have h0 := hg 0 _ rfl
      have h1 := hg 1 _ rfl
      have h2 := hg 2 _ rfl
      change DataW.trod enc _ w 0 _ held n2 9 (List.take (Tryz.prog.cellsOf 9) [v0, v1, v2]) = some x0 at h0
      change DataW.trod enc _ w 0 _ held n2 3 (List.take (Tryz.prog.cellsOf 3) [v1, v2]) = some x1 at h1
      change DataW.trod enc _ w 0 _ held n2 3 (List.take (Tryz.prog.cellsOf 3) [v2]) = some x2 at h2
      rw [show Tryz.prog.cellsOf 9 = 1 by kernel_rfl, List.take_succ_cons, List.take_zero] at h0
      rw [show Tryz.prog.cellsOf 3 = 1 by kernel_rfl, List.take_succ_cons, List.take_zero] at h1 h2
      obtain ⟨s0, e0, _, _⟩ := DataW.trod_string Tryz.underlying9 h0
      obtain ⟨z1, e1, _, _⟩ := DataW.trod_int Tryz.underlying3 h1
      obtain ⟨z2, e2, _, _⟩ := DataW.trod_int Tryz.underlying3 h2
      simp only [List.cons.injEq, and_true] at e0 e1 e2
      subst e0 e1 e2
      refine ⟨⟨s0.data.toList, z1, z2⟩, ?_, ?_, ?_⟩
      · have := hat 0 (by decide)
        rw [str_of]
        simpa [Addr.add] using this
      · have := hat 1 (by decide)
        rw [← Go.Deep.add_add]
        exact this
      · have := hat 2 (by decide)
        rw [← Go.Deep.add_add]
        exact this
    have hlen : len * 32 ≤ reachBytes := by
      have hm : (((List.range len).map D).length + ((List.range (m - len)).map fun j => D (len + j)).length) * Tryz.prog.bytesOf 32 ∈ DataW.weights Tryz.prog 23 (.slice ((List.range len).map D) ((List.range (m - len)).map fun j => D (len + j))) := by
        rw [DataW.weights, Tryz.underlying23]
        exact List.mem_cons_self ..
      have := List.all_eq_true.1 hz _ hm
      rw [show Tryz.prog.bytesOf 32 = 32 by kernel_rfl] at this
      simp only [List.length_map, List.length_range, decide_eq_true_eq] at this
      omega
    obtain ⟨y, hy⟩ := choose_lt each
    refine ⟨some a, cap, (List.range len).map y, by simp, fun i hi' => ?_, by simp; omega⟩
    have hi1 : i < len := by simpa using hi'
    obtain ⟨h0, h1, h2⟩ := hy i hi1
    obtain ⟨g, o, rfl, hg⟩ := plain_of_cell (a := a) (by
      obtain ⟨this, _⟩ := hy 0 (by omega)
      rwa [Nat.zero_mul] at this)
    rw [addr_addS] at h0 h1 h2
    refine ⟨g, o, rfl, hg, fun j u hu => ?_⟩
    simp only [List.getElem_map, List.getElem_range] at hu
    match j, hu with
    | 0, hu => obtain rfl := Option.some.inj hu; exact h0
    | 1, hu => obtain rfl := Option.some.inj hu; exact h1
    | 2, hu => obtain rfl := Option.some.inj hu; exact h2
set_option maxRecDepth 100000 in
/-- An argument that is a set. -/
theorem open_set {w : World} {r : Reach} {b0 : Nat} {v : Value} {d : DataW H} {p : List MemPlace} (hv : Value.okWide Tryz.prog w r b0 23 v) (h : DataW.Trod enc Tryz.prog w 0 (fun _ => true) true 23 v d p)
    (hz : (d.weights Tryz.prog 23).all (· ≤ reachBytes) = true) :
    ∃ (A : Option Addr) (c : Nat) (l : List Ls.Sp), v = .slice A l.length c ∧ SetRaw w A l := by
  obtain ⟨a, len, cap, rfl⟩ := okWide_slice Tryz.underlying23 hv
  obtain ⟨fuel, hf⟩ := h
  obtain ⟨A, c, l, hcs, hR⟩ := open_sps_at hf hz
  simp [Value.cells] at hcs
  obtain ⟨rfl, rfl, rfl⟩ := hcs
  exact ⟨_, _, _, rfl, hR⟩
set_option maxRecDepth 100000 in
theorem open_line {w : World} {r : Reach} {b0 : Nat} {v : Value} {d : DataW H} {p : List MemPlace} (hv : Value.okWide Tryz.prog w r b0 44 v) (h : DataW.Trod enc Tryz.prog w 0 (fun _ => true) true 44 v d p) :
    ∃ (s : ByteArray) (n : Int), v = .agg #[.string s, .int .i64 n] ∧ s.size ≤ maxLen := by
  obtain ⟨cs, rfl, hsz⟩ := okWide_struct Tryz.underlying44 hv
  obtain ⟨fuel, hf⟩ := h
  obtain ⟨xs, n2, _, hx, hcl, hlen, hg⟩ := DataW.trod_struct Tryz.underlying44 hf
  have c2 : Tryz.prog.cellsOf 44 = 2 := by kernel_rfl
  obtain ⟨l⟩ := cs
  obtain ⟨v3, v4, rfl⟩ := two_of l (by simpa [c2] using hsz)
  obtain ⟨y0, y1, rfl⟩ := two_of xs hlen
  have k0 := hg 0 _ rfl
  have k1 := hg 1 _ rfl
  change DataW.trod enc _ w 0 _ true n2 9 (List.take (Tryz.prog.cellsOf 9) [v3, v4]) = some y0 at k0
  change DataW.trod enc _ w 0 _ true n2 3 (List.take (Tryz.prog.cellsOf 3) [v4]) = some y1 at k1
  rw [show Tryz.prog.cellsOf 9 = 1 by kernel_rfl, List.take_succ_cons, List.take_zero] at k0
  rw [show Tryz.prog.cellsOf 3 = 1 by kernel_rfl, List.take_succ_cons, List.take_zero] at k1
  obtain ⟨pth, e3, _, hs3⟩ := DataW.trod_string Tryz.underlying9 k0
  obtain ⟨n, e4, _, _⟩ := DataW.trod_int Tryz.underlying3 k1
  simp only [List.cons.injEq, and_true] at e3 e4
  subst e3 e4
  exact ⟨pth, n, rfl, hs3⟩
end
end Go.Proofs.YtlablbibdkcifaaGreatDoor
