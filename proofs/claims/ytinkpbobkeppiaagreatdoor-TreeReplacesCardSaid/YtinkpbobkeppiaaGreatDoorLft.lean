/- How a row of a tree's law is proved from its walk: the world's shape and the sizes are handed on. Condition: the listed variables lie as the card ties them. -/
import Derived.Test.YtinkpbobkeppiaaGreatDoorFws
import Derived.Test.YtinkpbobkeppiaaGreatDoorTie
import Derived.Test.YtinkpbobkeppiaaGreatDoorCards
import Derived.ProofKit
import Derived.LaidMore
import Derived.LaidLaws
import Derived.OpenShut
import Derived.Stop.Joined
import Derived.SevenTiedAt
import Derived.SizedLaws
import Derived.Lib.LaidTab
import Derived.Deep.Strs
import Derived.Deep.Slices
import Derived.Deep.SlicePairs
import Derived.Deep.Fields
import Derived.ChangeSame
import Derived.HandedShaped
import Derived.Shelf.Vars
import GoSem.PinnedTables
namespace Go.Proofs.YtinkpbobkeppiaaGreatDoor
open Go.ChangeShapes Go.WideShapes Go.ChangeAt Go.WideMaps Go.WideElems Go.RowKit Go.Deep

theorem own : ownKnob Tryz.prog.godebug = none := by kernel_rfl
theorem laidOut : laidOutB Tryz.prog = true := by kernel_rfl
theorem gRC : Tryz.prog.globalNamed "licit/digest.roundConstants" = some 1 := by kernel_rfl
theorem tRC : (Tryz.prog.globals[1]?).map (·.type) = some 154 := by kernel_rfl
theorem gTab : Tryz.prog.globalNamed "internal/strconv.uint64pow10" = some 4 := by kernel_rfl
theorem tTab : (Tryz.prog.globals[4]?).map (·.type) = some 176 := by kernel_rfl
def laidP : List (String × DataW Unit) := [("math/bits.deBruijn32tab", Rows.laid_math_bits_deBruijn32tab), ("math/bits.deBruijn64tab", Rows.laid_math_bits_deBruijn64tab), ("internal/strconv.uint64pow10", Rows.laid_internal_strconv_uint64pow10), ("unicode/utf8.acceptRanges", Rows.laid_unicode_utf8_acceptRanges), ("licit/digest.roundConstants", Rows.laid_licit_digest_roundConstants), ("unicode/utf8.first", Rows.laid_unicode_utf8_first)]
/-- A start in which the pinned table lies. -/
noncomputable def pinW (os : Os) : World :=
  { World.doorLaid Tryz.prog 400 os with heap := (World.doorLaid Tryz.prog 400 os).heap.modify 2 fun
      | .cells _ t frozen => .cells (Go.Pinned.utf8FirstZ.map fun (n : Nat) => Value.int .u8 (n : Int)).toArray t frozen
      | o => o }
set_option maxRecDepth 100000 in
theorem pin_met (os : Os) (args : Array Value) : laidMetH Tryz.prog laidP ((pinW os).forCall (fun _ _ => 0) ⟨#[], args, []⟩).memory :=
  laidMetH_of_parts3 (fuel := 8) (laidMet_of_run' 8 (by kernel_rfl) (by kernel_rfl)) (by kernel_rfl) (by kernel_rfl)
theorem tabs_of {W : World} (h : laidMetH Tryz.prog laidP W) : Cd.Tabs W := by
  rw [MakeChecks.laidMetH_plain _ _ _ (by kernel_rfl)] at h
  obtain ⟨ps, ⟨_, _, _, _, _, _, _, _, _, _, ⟨_, _, _, _, _, _, _, _, _, _, ⟨g0, t0, cs0, f0, p0, q0, hg0, ht0, hv0, hd0, _, _⟩, _⟩, _⟩, _, _⟩ := h
  obtain rfl := Option.some.inj (gTab.symm.trans hg0)
  obtain rfl := Option.some.inj (tTab.symm.trans ht0)
  have hl : (Rows.laid_internal_strconv_uint64pow10 : DataW Unit) = Lib.tabData .u64 Lib.pow10Tab := rfl
  rw [hl] at hd0
  have hc := Lib.cells_of_tab Tryz.underlying176 Tryz.underlying114 (by kernel_rfl) (by kernel_rfl) hd0
  unfold Cd.Tabs Lib.TabIs
  rw [hv0, ← hc]
theorem const_lit : ∀ i, i < 24 → (Dg.Kec.const i).toNat = Dg.Kec.consts.getD i 0 := by decide +kernel
theorem consts_of {W : World} (h : laidMetH Tryz.prog laidP W) : Dg.Consts W := by
  rw [MakeChecks.laidMetH_plain _ _ _ (by kernel_rfl)] at h
  obtain ⟨ps, ⟨_, _, _, _, _, _, _, _, _, _, ⟨_, _, _, _, _, _, _, _, _, _, ⟨_, _, _, _, _, _, _, _, _, _, ⟨_, _, _, _, _, _, _, _, _, _, ⟨g0, t0, cs0, f0, p0, q0, hg0, ht0, hv0, hd0, _, _⟩, _⟩, _⟩, _⟩, _⟩, _, _⟩ := h
  obtain rfl := Option.some.inj (gRC.symm.trans hg0)
  obtain rfl := Option.some.inj (tRC.symm.trans ht0)
  obtain ⟨xs, m1, rfl, hx1, hlen, hn3, hel⟩ := DataW.trod_array Tryz.underlying154 hd0
  have c25 : Tryz.prog.cellsOf 114 = 1 := by kernel_rfl
  have c47 : Tryz.prog.cellsOf 154 = 24 := by kernel_rfl
  rw [c47] at hlen
  rw [c25] at hel
  have hl : (Rows.laid_licit_digest_roundConstants : DataW Unit) = .agg (Dg.Kec.consts.map fun (n : Nat) => .lit (.int .u64 (n : Int))) := rfl
  rw [hl] at hx1
  simp only [Prod.mk.injEq, DataW.agg.injEq] at hx1
  have key : ∀ i, i < 24 → W.cell? ⟨1, i, none⟩ = some (.int .u64 (Dg.U (Dg.Kec.const i))) := by
    intro i hi
    have hcell := World.var?_cell hg0 hv0 i
    have hci : i < cs0.toList.length := by omega
    have h1 := hel i hi
    rw [Nat.mul_one, List.drop_eq_getElem_cons hci, List.take_succ_cons, List.take_zero, List.getElem?_eq_getElem (by omega)] at h1
    obtain ⟨k, e1, e2, _⟩ := DataW.trod_int Tryz.underlying114 h1
    have h2 := congrArg (fun l => l[i]?) hx1.1
    simp only [List.getElem?_map] at h2
    rw [List.getElem?_eq_getElem (show i < xs.length by omega), List.getElem?_eq_getElem (show i < Dg.Kec.consts.length from hi), e2] at h2
    have hk : k = ((Dg.Kec.consts[i]'(show i < Dg.Kec.consts.length from hi) : Nat) : Int) := by simpa using h2.symm
    have hc : cs0[i]? = some (.int .u64 k) := by
      have h3 : cs0.toList[i] = .int .u64 k := by simpa using e1
      rw [← Array.getElem?_toList, List.getElem?_eq_getElem hci, h3]
    rw [hcell, hc, hk]
    have h4 := const_lit i hi
    rw [List.getD_eq_getElem?_getD, List.getElem?_eq_getElem (show i < Dg.Kec.consts.length from hi)] at h4
    unfold Dg.U
    rw [h4]
    rfl
  exact ⟨World.block_lt_of_cell? W _ (key 0 (by decide)), key⟩
theorem max_of {W : World} (h : W.ShapedOpen Tryz.prog) : MaxAt W :=
  cell_of_shapedOpen_int h (t := 3) (zero := #[.int .i64 0]) (of_decide_eq_true (by kernel_rfl)) (by kernel_rfl) rfl (by kernel_rfl) (by kernel_rfl) Tryz.underlying3
theorem id_at {W : World} (h : W.ShapedOpen Tryz.prog) (hL : laidMetH Tryz.prog laidP W) : IdAt W := ⟨max_of h, consts_of hL, tabs_of hL⟩
section
variable {H : Type} {enc : TypeId × Value → H}
/-- A call's contract that knows the world's shape and the sizes gives the row. -/
theorem returns_shaped_and {C : Checked} {os : Os} {f : FuncId} {fn : Func} {s : ChangeSpec} {conds : List PathCond} {X : World → Array Value → Prop}
    (hX : ∀ (w w' : World) (args : Array Value), w.heap = w'.heap → X w args → X w' args)
    (own : ownKnob C.prog.godebug = none) (started : os.Started) (noInit : C.prog.inits.idxOf? f = none) (hfn : C.prog.funcs[f]? = some fn)
    (witness : ∃ (w : World) (tape : Tape) (i : Input), w.os = os ∧ (w.forCall tape i).Shaped C.prog ∧ i.vars = [] ∧ Input.okWide C.prog (w.forCall tape i) .any w.heap.size f i ∧
      ((s.pre enc C.prog fn conds false (w.forCall tape i).memory i.args ∧ X (w.forCall tape i).memory i.args) ∧ sizedMet enc C.prog fn (OpenSpec.ofChange s) false (w.forCall tape i).memory i.args) ∧ ({} : Assume).holds C.prog (lone (Frame.enter C.prog f i.args .normal) [] (w.forCall tape i)))
    (walk : ∀ (W : World) (base : Nat) (args : Array Value) (ds gs : List (DataW H)) (before : List MemPlace), W.ShapedOpen C.prog →
      (∀ (j : Nat) t v, fn.params[j]? = some t → args[j]? = some v → Value.okWide C.prog W .any base t v) →
      DataW.Whole enc C.prog fn.params.toList s.vars false W args.toList ds gs before →
      (DataW.weightsEach C.prog (fn.params.toList ++ s.plain.varTypes C.prog) (ds ++ gs)).all (· ≤ reachBytes) = true → X W args →
      Calls C.prog f args W fun e W' => ∃ v, e = .returned v ∧ s.post enc C.prog fn false true false false W args v W') :
    ReturnsInHanded {} C os f .any (fun w args => (s.pre enc C.prog fn conds false w args ∧ X w args) ∧ sizedMet enc C.prog fn (OpenSpec.ofChange s) false w args) (s.post enc C.prog fn false true false false) := by
  refine returnsInHanded_of_calls own started noInit witness fun w tape i _ hsh _ hok hpre _ => ?_
  obtain ⟨_, _, _, fn2, hfn2, _, _, _, _, hval⟩ := hok
  obtain rfl : fn2 = fn := Option.some.inj (hfn2.symm.trans hfn)
  obtain ⟨⟨⟨ds, gs, before, hw, _⟩, hx⟩, hz⟩ := hpre
  refine (walk (w.forCall tape i) w.heap.size i.args ds gs before hsh hval (DataW.Whole.of_heap (w' := w.forCall tape i) (by rfl) hw) (hz.weights hw) (hX _ _ _ (by rfl) hx)).mono fun e W' h => ?_
  obtain ⟨v, rfl, hp⟩ := h
  exact ChangeSpec.post_blind hp
theorem weights_mem_all {P : Program} {e : TypeId} : ∀ {l : List (DataW H)} {d : DataW H}, d ∈ l → ∀ n ∈ d.weights P e, n ∈ DataW.weightsAll P e l
  | d0 :: l, d, hd, n, hn => by
    rw [DataW.weightsAll]
    rcases List.mem_cons.1 hd with rfl | h
    · exact List.mem_append_left _ hn
    · exact List.mem_append_right _ (weights_mem_all h n hn)
theorem plain_of_cell {w : World} {a : Addr} {v : Value} (h : w.cell? (a.add 0) = some v) : ∃ g o, a = ⟨g, o, none⟩ ∧ g < w.heap.size := by
  have h0 : a.add 0 = a := by simp [Addr.add]
  rw [h0] at h
  have hlt := World.block_lt_of_cell? w a h
  obtain ⟨g, o, s⟩ := a
  cases s with
  | none => exact ⟨g, o, rfl, hlt⟩
  | some x =>
    unfold World.cell? at h
    simp at h
    split at h <;> cases h
theorem choose_lt {β : Type} [Inhabited β] {n : Nat} {p : Nat → β → Prop} (h : ∀ i, i < n → ∃ y, p i y) : ∃ y : Nat → β, ∀ i, i < n → p i (y i) := by
  refine ⟨fun i => if hi : i < n then (h i hi).choose else default, fun i hi => ?_⟩
  simp only [hi, dite_true]
  exact (h i hi).choose_spec
set_option maxRecDepth 100000 in
/-- What an argument that is a tree gives the walk. -/
theorem open_fls_at {w : World} {held : Bool} {fuel : Nat} {cs : List Value} {x : DataW H × List MemPlace}
    (h : DataW.trod enc Tryz.prog w 0 (fun _ => true) held fuel 23 cs = some x) (hz : (x.1.weights Tryz.prog 23).all (· ≤ reachBytes) = true) :
    ∃ t : Tr, cs = [.slice t.A t.ts.length t.c] ∧ TrOk w t ∧ t.ts.length ≤ t.c ∧ t.c ≤ maxLen := by
  rcases open_slice_pairs Tryz.underlying23 Tryz.underlying31 (by kernel_rfl) rfl rfl (by kernel_rfl) (by kernel_rfl) h with ⟨rfl, _⟩ | ⟨a, len, cap, m, n, V0, V1, D0, D1, P0, P1, rfl, _, hl, hmx, hmm, rfl, hi⟩
  · exact ⟨⟨none, 0, []⟩, rfl, ⟨fun i hi => by simp at hi, by simp, by simp⟩, by simp, by simp⟩
  · simp only [if_true] at hmm
    have each : ∀ i, i < len → ∃ t : Tre.Fl, w.cell? (a.add (i * 2)) = some (.string (str t.path)) ∧ w.cell? (a.add (i * 2 + 1)) = some (.string (str t.data)) ∧ t.data.length ≤ reachBytes := by
      intro i hil
      obtain ⟨h0, h1, e0, e1⟩ := hi i (by omega)
      obtain ⟨s0, q0, _, _⟩ := DataW.trod_string Tryz.underlying9 e0
      obtain ⟨s1, q1, q2, _⟩ := DataW.trod_string Tryz.underlying9 e1
      simp only [List.cons.injEq, and_true] at q0 q1
      have q3 : D1 i = .lit (.string s1.data.toList) := congrArg Prod.fst q2
      refine ⟨⟨s0.data.toList, s1.data.toList⟩, ?_, ?_, ?_⟩
      · rw [h0, q0]; cases s0; simp [str]
      · rw [h1, q1]; cases s1; simp [str]
      · have hm : s1.data.toList.length ∈ DataW.weights Tryz.prog 23 (.slice ((List.range len).map fun i => .agg [D0 i, D1 i]) ((List.range (m - len)).map fun j => .agg [D0 (len + j), D1 (len + j)])) := by
          rw [DataW.weights, Tryz.underlying23]
          refine List.mem_cons_of_mem _ (List.mem_append_left _ (weights_mem_all (d := .agg [D0 i, D1 i]) (List.mem_map.2 ⟨i, List.mem_range.2 hil, rfl⟩) _ ?_))
          rw [DataW.weights, Tryz.underlying31]
          exact DataW.weights_mem_each (j := 1) (t := 9) rfl (show [D0 i, D1 i][1]? = some (D1 i) from rfl) _ (by rw [q3]; simp [DataW.weights])
        have := List.all_eq_true.1 hz _ hm
        simpa using this
    have hlen : len * 32 ≤ reachBytes := by
      have hm : (((List.range len).map fun i => (.agg [D0 i, D1 i] : DataW H)).length + ((List.range (m - len)).map fun j => (.agg [D0 (len + j), D1 (len + j)] : DataW H)).length) * Tryz.prog.bytesOf 31 ∈ DataW.weights Tryz.prog 23 (.slice ((List.range len).map fun i => .agg [D0 i, D1 i]) ((List.range (m - len)).map fun j => .agg [D0 (len + j), D1 (len + j)])) := by
        rw [DataW.weights, Tryz.underlying23]
        exact List.mem_cons_self ..
      have := List.all_eq_true.1 hz _ hm
      rw [show Tryz.prog.bytesOf 31 = 32 by kernel_rfl] at this
      simp only [List.length_map, List.length_range, decide_eq_true_eq] at this
      omega
    have hrb : reachBytes = 140737488351232 := rfl
    obtain ⟨y, hy⟩ := choose_lt each
    refine ⟨⟨some a, cap, (List.range len).map y⟩, by simp, ⟨fun i hi' => ?_, by simp; omega, fun f hf => ?_⟩, by simp; exact hl, hmx⟩
    · have hi1 : i < len := by simpa using hi'
      obtain ⟨h0, h1, _⟩ := hy i hi1
      obtain ⟨g, o, rfl, hg⟩ := plain_of_cell (a := a) (by
        have := (hy 0 (by omega)).1
        rwa [Nat.zero_mul] at this)
      refine ⟨g, o, rfl, hg, ?_, ?_⟩
      · rw [addr_add] at h0
        simpa using h0
      · rw [addr_add] at h1
        simpa [Nat.add_assoc] using h1
    · obtain ⟨i, hi, rfl⟩ := List.mem_map.1 hf
      have := (hy i (List.mem_range.1 hi)).2.2
      omega
end
end Go.Proofs.YtinkpbobkeppiaaGreatDoor
