/- How a row of a patch's law is proved from its walk: the world's shape and the sizes are handed on. Condition: the listed variables lie as the card ties them.
The errors of strconv lie as the text lays them. Condition: the listed variables lie as the card ties them. -/
import Derived.Test.YtmmdldicafbjdaaGreatDoorPm1
import Derived.Test.YtmmdldicafbjdaaGreatDoorTie
import Derived.Test.YtmmdldicafbjdaaGreatDoorCards
import Derived.ProofKit
import Derived.LaidMore
import Derived.LaidLaws
import Derived.OpenShut
import Derived.Stop.Joined
import Derived.SevenTiedAt
import Derived.SizedLaws
import Derived.Lib.LaidTab
import Derived.Deep.Strs
import Derived.Deep.Slices
import Derived.Deep.SlicePairs
import Derived.Deep.Fields
import Derived.ChangeSame
import Derived.HandedShaped
import Derived.Shelf.Vars
import GoSem.PinnedTables
import Derived.Test.YtmmdldicafbjdaaGreatDoorPm4
section
namespace Go.Proofs.YtmmdldicafbjdaaGreatDoor
open Go.ChangeShapes Go.WideShapes Go.ChangeAt Go.WideMaps Go.WideElems Go.RowKit Go.Deep Tr

theorem own : ownKnob Tryz.prog.godebug = none := by kernel_rfl
theorem laidOut : laidOutB Tryz.prog = true := by kernel_rfl
theorem gRC : Tryz.prog.globalNamed "licit/digest.roundConstants" = some 1 := by kernel_rfl
theorem tRC : (Tryz.prog.globals[1]?).map (·.type) = some 129 := by kernel_rfl
theorem gTab : Tryz.prog.globalNamed "internal/strconv.uint64pow10" = some 2 := by kernel_rfl
theorem tTab : (Tryz.prog.globals[2]?).map (·.type) = some 135 := by kernel_rfl
def laidP : List (String × DataW Unit) := [("math/bits.deBruijn32tab", Rows.laid_math_bits_deBruijn32tab), ("math/bits.deBruijn64tab", Rows.laid_math_bits_deBruijn64tab), ("internal/strconv.uint64pow10", Rows.laid_internal_strconv_uint64pow10), ("unicode/utf8.acceptRanges", Rows.laid_unicode_utf8_acceptRanges), ("strconv.ErrRange", Rows.laid_strconv_ErrRange), ("strconv.ErrSyntax", Rows.laid_strconv_ErrSyntax), ("licit/digest.roundConstants", Rows.laid_licit_digest_roundConstants), ("unicode/utf8.first", Rows.laid_unicode_utf8_first)]
/-- A start in which the pinned table lies. -/
noncomputable def pinW (os : Os) : World :=
  { World.doorLaid Tryz.prog 400 os with heap := (World.doorLaid Tryz.prog 400 os).heap.modify 7 fun
      | .cells _ t frozen => .cells (Go.Pinned.utf8FirstZ.map fun (n : Nat) => Value.int .u8 (n : Int)).toArray t frozen
      | o => o }
set_option maxRecDepth 100000 in
theorem pin_met (os : Os) (args : Array Value) : laidMetH Tryz.prog laidP ((pinW os).forCall (fun _ _ => 0) ⟨#[], args, []⟩).memory :=
  laidMetH_of_parts3 (fuel := 8) (laidMet_of_run' 8 (by kernel_rfl) (by kernel_rfl)) (by kernel_rfl) (by kernel_rfl)
theorem tabs_of {W : World} (h : laidMetH Tryz.prog laidP W) : Cd.Tabs W := by
  rw [MakeChecks.laidMetH_plain _ _ _ (by kernel_rfl)] at h
  obtain ⟨ps, ⟨_, _, _, _, _, _, _, _, _, _, ⟨_, _, _, _, _, _, _, _, _, _, ⟨g0, t0, cs0, f0, p0, q0, hg0, ht0, hv0, hd0, _, _⟩, _⟩, _⟩, _, _⟩ := h
  obtain rfl := Option.some.inj (gTab.symm.trans hg0)
  obtain rfl := Option.some.inj (tTab.symm.trans ht0)
  have hl : (Rows.laid_internal_strconv_uint64pow10 : DataW Unit) = Lib.tabData .u64 Lib.pow10Tab := rfl
  rw [hl] at hd0
  have hc := Lib.cells_of_tab Tryz.underlying135 Tryz.underlying93 (by kernel_rfl) (by kernel_rfl) hd0
  unfold Cd.Tabs Lib.TabIs
  rw [hv0, ← hc]
theorem const_lit : ∀ i, i < 24 → (Dg.Kec.const i).toNat = Dg.Kec.consts.getD i 0 := by decide +kernel
theorem consts_of {W : World} (h : laidMetH Tryz.prog laidP W) : Dg.Consts W := by
  rw [MakeChecks.laidMetH_plain _ _ _ (by kernel_rfl)] at h
  obtain ⟨ps, ⟨_, _, _, _, _, _, _, _, _, _, ⟨_, _, _, _, _, _, _, _, _, _, ⟨_, _, _, _, _, _, _, _, _, _, ⟨_, _, _, _, _, _, _, _, _, _, ⟨_, _, _, _, _, _, _, _, _, _, ⟨_, _, _, _, _, _, _, _, _, _, ⟨g0, t0, cs0, f0, p0, q0, hg0, ht0, hv0, hd0, _, _⟩, _⟩, _⟩, _⟩, _⟩, _⟩, _⟩, _, _⟩ := h
  obtain rfl := Option.some.inj (gRC.symm.trans hg0)
  obtain rfl := Option.some.inj (tRC.symm.trans ht0)
  obtain ⟨xs, m1, rfl, hx1, hlen, hn3, hel⟩ := DataW.trod_array Tryz.underlying129 hd0
  have c25 : Tryz.prog.cellsOf 93 = 1 := by kernel_rfl
  have c47 : Tryz.prog.cellsOf 129 = 24 := by kernel_rfl
  rw [c47] at hlen
  rw [c25] at hel
  have hl : (Rows.laid_licit_digest_roundConstants : DataW Unit) = .agg (Dg.Kec.consts.map fun (n : Nat) => .lit (.int .u64 (n : Int))) := rfl
  rw [hl] at hx1
  simp only [Prod.mk.injEq, DataW.agg.injEq] at hx1
  have key : ∀ i, i < 24 → W.cell? ⟨1, i, none⟩ = some (.int .u64 (Dg.U (Dg.Kec.const i))) := by
    intro i hi
    have hcell := World.var?_cell hg0 hv0 i
    have hci : i < cs0.toList.length := by omega
    have h1 := hel i hi
    rw [Nat.mul_one, List.drop_eq_getElem_cons hci, List.take_succ_cons, List.take_zero, List.getElem?_eq_getElem (by omega)] at h1
    obtain ⟨k, e1, e2, _⟩ := DataW.trod_int Tryz.underlying93 h1
    have h2 := congrArg (fun l => l[i]?) hx1.1
    simp only [List.getElem?_map] at h2
    rw [List.getElem?_eq_getElem (show i < xs.length by omega), List.getElem?_eq_getElem (show i < Dg.Kec.consts.length from hi), e2] at h2
    have hk : k = ((Dg.Kec.consts[i]'(show i < Dg.Kec.consts.length from hi) : Nat) : Int) := by simpa using h2.symm
    have hc : cs0[i]? = some (.int .u64 k) := by
      have h3 : cs0.toList[i] = .int .u64 k := by simpa using e1
      rw [← Array.getElem?_toList, List.getElem?_eq_getElem hci, h3]
    rw [hcell, hc, hk]
    have h4 := const_lit i hi
    rw [List.getD_eq_getElem?_getD, List.getElem?_eq_getElem (show i < Dg.Kec.consts.length from hi)] at h4
    unfold Dg.U
    rw [h4]
    rfl
  exact ⟨World.block_lt_of_cell? W _ (key 0 (by decide)), key⟩
theorem max_of {W : World} (h : W.ShapedOpen Tryz.prog) : MaxAt W :=
  cell_of_shapedOpen_int h (t := 3) (zero := #[.int .i64 0]) (of_decide_eq_true (by kernel_rfl)) (by kernel_rfl) rfl (by kernel_rfl) (by kernel_rfl) Tryz.underlying3
theorem id_at {W : World} (h : W.ShapedOpen Tryz.prog) (hL : laidMetH Tryz.prog laidP W) : IdAt W := ⟨max_of h, consts_of hL, tabs_of hL⟩
section
variable {H : Type} {enc : TypeId × Value → H}
/-- A call's contract that knows the world's shape and the sizes gives the row. -/
theorem returns_shaped_and {C : Checked} {os : Os} {f : FuncId} {fn : Func} {s : ChangeSpec} {conds : List PathCond} {X : World → Array Value → Prop}
    (hX : ∀ (w w' : World) (args : Array Value), w.heap = w'.heap → X w args → X w' args)
    (own : ownKnob C.prog.godebug = none) (started : os.Started) (noInit : C.prog.inits.idxOf? f = none) (hfn : C.prog.funcs[f]? = some fn)
    (witness : ∃ (w : World) (tape : Tape) (i : Input), w.os = os ∧ (w.forCall tape i).Shaped C.prog ∧ i.vars = [] ∧ Input.okWide C.prog (w.forCall tape i) .any w.heap.size f i ∧
      ((s.pre enc C.prog fn conds false (w.forCall tape i).memory i.args ∧ X (w.forCall tape i).memory i.args) ∧ sizedMet enc C.prog fn (OpenSpec.ofChange s) false (w.forCall tape i).memory i.args) ∧ ({} : Assume).holds C.prog (lone (Frame.enter C.prog f i.args .normal) [] (w.forCall tape i)))
    (walk : ∀ (W : World) (base : Nat) (args : Array Value) (ds gs : List (DataW H)) (before : List MemPlace), W.ShapedOpen C.prog →
      (∀ (j : Nat) t v, fn.params[j]? = some t → args[j]? = some v → Value.okWide C.prog W .any base t v) →
      DataW.Whole enc C.prog fn.params.toList s.vars false W args.toList ds gs before →
      (DataW.weightsEach C.prog (fn.params.toList ++ s.plain.varTypes C.prog) (ds ++ gs)).all (· ≤ reachBytes) = true → X W args →
      Calls C.prog f args W fun e W' => ∃ v, e = .returned v ∧ s.post enc C.prog fn false true false false W args v W') :
    ReturnsInHanded {} C os f .any (fun w args => (s.pre enc C.prog fn conds false w args ∧ X w args) ∧ sizedMet enc C.prog fn (OpenSpec.ofChange s) false w args) (s.post enc C.prog fn false true false false) := by
  refine returnsInHanded_of_calls own started noInit witness fun w tape i _ hsh _ hok hpre _ => ?_
  obtain ⟨_, _, _, fn2, hfn2, _, _, _, _, hval⟩ := hok
  obtain rfl : fn2 = fn := Option.some.inj (hfn2.symm.trans hfn)
  obtain ⟨⟨⟨ds, gs, before, hw, _⟩, hx⟩, hz⟩ := hpre
  refine (walk (w.forCall tape i) w.heap.size i.args ds gs before hsh hval (DataW.Whole.of_heap (w' := w.forCall tape i) (by rfl) hw) (hz.weights hw) (hX _ _ _ (by rfl) hx)).mono fun e W' h => ?_
  obtain ⟨v, rfl, hp⟩ := h
  exact ChangeSpec.post_blind hp
theorem weights_mem_all {P : Program} {e : TypeId} : ∀ {l : List (DataW H)} {d : DataW H}, d ∈ l → ∀ n ∈ d.weights P e, n ∈ DataW.weightsAll P e l
  | d0 :: l, d, hd, n, hn => by
    rw [DataW.weightsAll]
    rcases List.mem_cons.1 hd with rfl | h
    · exact List.mem_append_left _ hn
    · exact List.mem_append_right _ (weights_mem_all h n hn)
theorem plain_of_cell {w : World} {a : Addr} {v : Value} (h : w.cell? (a.add 0) = some v) : ∃ g o, a = ⟨g, o, none⟩ ∧ g < w.heap.size := by
  have h0 : a.add 0 = a := by simp [Addr.add]
  rw [h0] at h
  have hlt := World.block_lt_of_cell? w a h
  obtain ⟨g, o, s⟩ := a
  cases s with
  | none => exact ⟨g, o, rfl, hlt⟩
  | some x =>
    unfold World.cell? at h
    simp at h
    split at h <;> cases h
theorem choose_lt {β : Type} [Inhabited β] {n : Nat} {p : Nat → β → Prop} (h : ∀ i, i < n → ∃ y, p i y) : ∃ y : Nat → β, ∀ i, i < n → p i (y i) := by
  refine ⟨fun i => if hi : i < n then (h i hi).choose else default, fun i hi => ?_⟩
  simp only [hi, dite_true]
  exact (h i hi).choose_spec
theorem open_strs_at {w : World} {held : Bool} {fuel : Nat} {cs : List Value} {x : DataW H × List MemPlace}
    (h : DataW.trod enc Tryz.prog w 0 (fun _ => true) held fuel 45 cs = some x) (hz : (x.1.weights Tryz.prog 45).all (· ≤ reachBytes) = true) :
    ∃ (A : Option Addr) (c : Nat) (ls : List (List UInt8)), cs = [.slice A ls.length c] ∧ CellsAt w w.heap.size A (Tr.strs ls) ∧ ls.length ≤ 140737488351232 ∧ ls.length ≤ c ∧ c ≤ maxLen := by
  have cq : Tryz.prog.cellsOf 9 = 1 := by kernel_rfl
  rcases open_slice1 Tryz.underlying45 cq h with ⟨rfl, _⟩ | ⟨a, len, cap, m, n, V, D, Pl, rfl, _, hl, hmx, hmm, rfl, hi⟩
  · exact ⟨none, 0, [], rfl, fun i hi => by simp [Tr.strs] at hi, by simp, by simp, by simp⟩
  · simp only [if_true] at hmm
    have hrb : reachBytes = 140737488351232 := rfl
    have each : ∀ i, i < len → ∃ t : List UInt8, w.cell? (a.add i) = some (.string (str t)) ∧ t.length ≤ reachBytes := by
      intro i hil
      obtain ⟨h0, e0⟩ := hi i (by omega)
      obtain ⟨s0, q0, q2, _⟩ := DataW.trod_string Tryz.underlying9 e0
      simp only [List.cons.injEq, and_true] at q0
      have q3 : D i = .lit (.string s0.data.toList) := congrArg Prod.fst q2
      refine ⟨s0.data.toList, ?_, ?_⟩
      · rw [h0, q0]; cases s0; simp [str]
      · have hm : s0.data.toList.length ∈ DataW.weights Tryz.prog 45 (.slice ((List.range len).map D) ((List.range (m - len)).map fun j => D (len + j))) := by
          rw [DataW.weights, Tryz.underlying45]
          exact List.mem_cons_of_mem _ (List.mem_append_left _ (weights_mem_all (d := D i) (List.mem_map.2 ⟨i, List.mem_range.2 hil, rfl⟩) _ (by rw [q3]; simp [DataW.weights])))
        have := List.all_eq_true.1 hz _ hm
        simpa using this
    obtain ⟨y, hy⟩ := choose_lt each
    have hlen : len * 16 ≤ reachBytes := by
      have hm : (((List.range len).map D).length + ((List.range (m - len)).map fun j => D (len + j)).length) * Tryz.prog.bytesOf 9 ∈ DataW.weights Tryz.prog 45 (.slice ((List.range len).map D) ((List.range (m - len)).map fun j => D (len + j))) := by
        rw [DataW.weights, Tryz.underlying45]
        exact List.mem_cons_self ..
      have := List.all_eq_true.1 hz _ hm
      rw [show Tryz.prog.bytesOf 9 = 16 by kernel_rfl] at this
      simp only [List.length_map, List.length_range, decide_eq_true_eq] at this
      omega
    refine ⟨some a, cap, (List.range len).map y, by simp, fun i hi' => ?_, by simp; omega, by simp; exact hl, hmx⟩
    · have hi1 : i < len := by simpa [Tr.strs] using hi'
      have h0 := (hy i hi1).1
      obtain ⟨g, o, rfl, hg⟩ := plain_of_cell (a := a) (hy 0 (by omega)).1
      rw [addr_addS] at h0
      exact ⟨g, o, rfl, hg, by simpa [Tr.strs] using h0⟩
theorem three_of {α : Type} (l : List α) (h : l.length = 3) : ∃ a b c, l = [a, b, c] := by
  match l, h with
  | [a, b, c], _ => exact ⟨a, b, c, rfl⟩
theorem two_of {α : Type} (l : List α) (h : l.length = 2) : ∃ a b, l = [a, b] := by
  match l, h with
  | [a, b], _ => exact ⟨a, b, rfl⟩
/-- A hunk as it lies. -/
def HkAt (w : World) (a : Addr) (i : Nat) (h : Pc.Hk) : Prop := ∃ Ak ck, w.cell? (a.add (i * 3)) = some (.int .i64 h.kind) ∧ w.cell? (a.add (i * 3 + 1)) = some (.int .i64 h.n) ∧ w.cell? (a.add (i * 3 + 2)) = some (.slice Ak h.ls.length ck) ∧ CellsAt w w.heap.size Ak (Tr.strs h.ls) ∧ h.ls.length ≤ ck ∧ ck ≤ maxLen ∧ h.ls.length ≤ 140737488351232
set_option maxRecDepth 100000 in
theorem open_hunks_at {w : World} {held : Bool} {fuel : Nat} {cs : List Value} {x : DataW H × List MemPlace}
    (h : DataW.trod enc Tryz.prog w 0 (fun _ => true) held fuel 22 cs = some x) (hz : (x.1.weights Tryz.prog 22).all (· ≤ reachBytes) = true) :
    ∃ (A : Option Addr) (c : Nat) (hs : List Pc.Hk), cs = [.slice A hs.length c] ∧ HsAt w w.heap.size A hs ∧ hs.length ≤ 140737488351232 ∧ ∀ h ∈ hs, h.ls.length ≤ 140737488351232 := by
  have cq : Tryz.prog.cellsOf 47 = 3 := by kernel_rfl
  rcases open_slice Tryz.underlying22 h with ⟨rfl, _⟩ | ⟨a, len, cap, m, n, D, Pl, rfl, _, hl, hmx, hmm, rfl, hi⟩
  · exact ⟨none, 0, [], rfl, fun i hi => by simp at hi, by simp, fun h hh => by simp at hh⟩
  · simp only [if_true] at hmm
    have hrb : reachBytes = 140737488351232 := rfl
    have each : ∀ i, i < len → ∃ t : Pc.Hk, HkAt w a i t := by
      intro i hil
      obtain ⟨cs', hc, ht⟩ := hi i (by omega)
      rw [cq] at hc
      obtain ⟨xs, n2, _, hx, _, hlen, hg⟩ := DataW.trod_struct Tryz.underlying47 ht
      obtain ⟨_, hcl, hat⟩ := World.cells?_some hc
      obtain ⟨v0, v1, v2, rfl⟩ := three_of cs' hcl
      obtain ⟨x0, x1, x2, rfl⟩ := three_of xs hlen
      have h0 := hg 0 _ rfl
      have h1 := hg 1 _ rfl
      have h2 := hg 2 _ rfl
      change DataW.trod enc _ w 0 _ held n2 3 (List.take (Tryz.prog.cellsOf 3) [v0, v1, v2]) = some x0 at h0
      change DataW.trod enc _ w 0 _ held n2 3 (List.take (Tryz.prog.cellsOf 3) [v1, v2]) = some x1 at h1
      change DataW.trod enc _ w 0 _ held n2 45 (List.take (Tryz.prog.cellsOf 45) [v2]) = some x2 at h2
      rw [show Tryz.prog.cellsOf 3 = 1 by kernel_rfl, List.take_succ_cons, List.take_zero] at h0 h1
      rw [show Tryz.prog.cellsOf 45 = 1 by kernel_rfl, List.take_succ_cons, List.take_zero] at h2
      simp only [Prod.mk.injEq, List.map_cons, List.map_nil] at hx
      obtain ⟨hD, _⟩ := hx
      have hz2 : (x2.1.weights Tryz.prog 45).all (· ≤ reachBytes) = true := by
        refine List.all_eq_true.2 fun z hzz => List.all_eq_true.1 hz z ?_
        rw [DataW.weights, Tryz.underlying22]
        refine List.mem_cons_of_mem _ (List.mem_append_left _ (weights_mem_all (d := D i) (List.mem_map.2 ⟨i, List.mem_range.2 hil, rfl⟩) _ ?_))
        rw [hD, DataW.weights, Tryz.underlying47]
        exact DataW.weights_mem_each (j := 2) (t := 45) rfl (show [x0.1, x1.1, x2.1][2]? = some x2.1 from rfl) z hzz
      obtain ⟨z0, e0, _, _⟩ := DataW.trod_int Tryz.underlying3 h0
      obtain ⟨z1, e1, _, _⟩ := DataW.trod_int Tryz.underlying3 h1
      obtain ⟨Ak, ck, ls, e2, k1, k2, k3, k4⟩ := open_strs_at h2 hz2
      simp only [List.cons.injEq, and_true] at e0 e1 e2
      subst e0 e1 e2
      refine ⟨⟨z0, z1, ls⟩, Ak, ck, ?_, ?_, ?_, k1, k3, k4, k2⟩
      · have := hat 0 (by decide)
        simpa [Addr.add] using this
      · have := hat 1 (by decide)
        rw [← Go.Deep.add_add]
        exact this
      · have := hat 2 (by decide)
        rw [← Go.Deep.add_add]
        exact this
    have hlen : len * 40 ≤ reachBytes := by
      have hm : (((List.range len).map D).length + ((List.range (m - len)).map fun j => D (len + j)).length) * Tryz.prog.bytesOf 47 ∈ DataW.weights Tryz.prog 22 (.slice ((List.range len).map D) ((List.range (m - len)).map fun j => D (len + j))) := by
        rw [DataW.weights, Tryz.underlying22]
        exact List.mem_cons_self ..
      have := List.all_eq_true.1 hz _ hm
      rw [show Tryz.prog.bytesOf 47 = 40 by kernel_rfl] at this
      simp only [List.length_map, List.length_range, decide_eq_true_eq] at this
      omega
    obtain ⟨y, hy⟩ := choose_lt each
    refine ⟨some a, cap, (List.range len).map y, by simp, fun i hi' => ?_, by simp; omega, fun t ht => ?_⟩
    · have hi1 : i < len := by simpa using hi'
      obtain ⟨Ak, ck, h0, h1, h2, h3, h4, h5, _⟩ := hy i hi1
      obtain ⟨g, o, rfl, hg⟩ := plain_of_cell (a := a) (by
        obtain ⟨_, _, this, _⟩ := hy 0 (by omega)
        rwa [Nat.zero_mul] at this)
      rw [addr_addS] at h0 h1 h2
      refine ⟨g, o, Ak, ck, rfl, hg, ?_, ?_, ?_, ?_, ?_, h5⟩
      · simpa using h0
      · simpa [Nat.add_assoc] using h1
      · simpa [Nat.add_assoc] using h2
      · simpa using h3
      · simpa using h4
    · obtain ⟨i, hi2, rfl⟩ := List.mem_map.1 ht
      obtain ⟨_, _, _, _, _, _, _, _, h6⟩ := hy i (List.mem_range.1 hi2)
      exact h6
set_option maxRecDepth 100000 in
theorem open_patch {w : World} {r : Reach} {b0 : Nat} {v : Value} {d : DataW H} {p : List MemPlace} (hv : Value.okWide Tryz.prog w r b0 24 v) (h : DataW.Trod enc Tryz.prog w 0 (fun _ => true) true 24 v d p)
    (hz : (d.weights Tryz.prog 24).all (· ≤ reachBytes) = true) :
    ∃ (q : Pc.Pa) (A : Option Addr) (c : Nat), v = paV q A c ∧ PaRaw w q A := by
  obtain ⟨cs, rfl, hsz⟩ := okWide_struct Tryz.underlying24 hv
  obtain ⟨fuel, hf⟩ := h
  obtain ⟨xs, n2, _, hx, hcl, hlen, hg⟩ := DataW.trod_struct Tryz.underlying24 hf
  have c2 : Tryz.prog.cellsOf 24 = 2 := by kernel_rfl
  obtain ⟨l⟩ := cs
  obtain ⟨v0, v1, rfl⟩ := two_of l (by simpa [c2] using hsz)
  obtain ⟨x0, x1, rfl⟩ := two_of xs hlen
  have g0 := hg 0 _ rfl
  have g1 := hg 1 _ rfl
  change DataW.trod enc _ w 0 _ true n2 9 (List.take (Tryz.prog.cellsOf 9) [v0, v1]) = some x0 at g0
  change DataW.trod enc _ w 0 _ true n2 22 (List.take (Tryz.prog.cellsOf 22) [v1]) = some x1 at g1
  rw [show Tryz.prog.cellsOf 9 = 1 by kernel_rfl, List.take_succ_cons, List.take_zero] at g0
  rw [show Tryz.prog.cellsOf 22 = 1 by kernel_rfl, List.take_succ_cons, List.take_zero] at g1
  simp only [Prod.mk.injEq, List.map_cons, List.map_nil] at hx
  obtain ⟨rfl, _⟩ := hx
  have hz2 : (x1.1.weights Tryz.prog 22).all (· ≤ reachBytes) = true := by
    refine List.all_eq_true.2 fun z hzz => List.all_eq_true.1 hz z ?_
    rw [DataW.weights, Tryz.underlying24]
    exact DataW.weights_mem_each (j := 1) (t := 22) rfl (show [x0.1, x1.1][1]? = some x1.1 from rfl) z hzz
  obtain ⟨s, e0, _, _⟩ := DataW.trod_string Tryz.underlying9 g0
  obtain ⟨A, c, hs, e1, k1, k2, k3⟩ := open_hunks_at g1 hz2
  simp only [List.cons.injEq, and_true] at e0 e1
  subst e0 e1
  exact ⟨⟨s.data.toList, hs⟩, A, c, by rw [paV_def, str_of], ⟨k1, k2, k3⟩⟩
end
end Go.Proofs.YtmmdldicafbjdaaGreatDoor
end
section
namespace Go.Proofs.YtmmdldicafbjdaaGreatDoor
open Go.ChangeShapes Go.RowKit Go.Deep Tr

theorem trod_if {H : Type} {enc : TypeId × Value → H} {P : Program} {w : World} {base : Nat} {spare : Nat → Bool} {held : Bool} {fuel : Nat} {t : TypeId} {cs : List Value} {x : DataW H × List MemPlace} {ms : Array (String × TypeId)} (hu : P.underlying t = some (.interface ms)) (h : DataW.trod enc P w base spare held fuel t cs = some x) : cs = [.nilIface] ∨ ∃ u v, cs = [.iface u v] := by
  cases fuel with
  | zero => cases h
  | succ n =>
    unfold DataW.trod at h
    rw [hu] at h
    match cs, h with
    | [], h => cases h
    | [v], h => cases v <;> first | exact .inl rfl | exact .inr ⟨_, _, rfl⟩ | (cases h; done)
    | a :: b :: l, h => exfalso; revert h; cases a <;> simp
theorem gER : Tryz.prog.globalNamed "strconv.ErrRange" = some 4 := by kernel_rfl
theorem tER : (Tryz.prog.globals[4]?).map (·.type) = some 87 := by kernel_rfl
theorem gES : Tryz.prog.globalNamed "strconv.ErrSyntax" = some 3 := by kernel_rfl
theorem tES : (Tryz.prog.globals[3]?).map (·.type) = some 87 := by kernel_rfl
theorem err_of {W : World} (h : laidMetH Tryz.prog laidP W) : ErrAt W := by
  rw [MakeChecks.laidMetH_plain _ _ _ (by kernel_rfl)] at h
  obtain ⟨ps, ⟨_, _, _, _, _, _, _, _, _, _, ⟨_, _, _, _, _, _, _, _, _, _, ⟨_, _, _, _, _, _, _, _, _, _, ⟨_, _, _, _, _, _, _, _, _, _, ⟨g0, t0, cs0, f0, p0, q0, hg0, ht0, hv0, hd0, ⟨g1, t1, cs1, f1, p1, q1, hg1, ht1, hv1, hd1, _, _⟩, _⟩, _⟩, _⟩, _⟩, _⟩, _, _⟩ := h
  obtain rfl := Option.some.inj (gER.symm.trans hg0)
  obtain rfl := Option.some.inj (tER.symm.trans ht0)
  obtain rfl := Option.some.inj (gES.symm.trans hg1)
  obtain rfl := Option.some.inj (tES.symm.trans ht1)
  have key : ∀ (nm : String) (g : Nat) (cs : Array Value), Tryz.prog.globalNamed nm = some g → W.var? Tryz.prog nm = some cs → (cs.toList = [.nilIface] ∨ ∃ u v, cs.toList = [.iface u v]) → ∃ ev, W.cell? ⟨g, 0, none⟩ = some ev ∧ (ev = .nilIface ∨ ∃ te pe, ev = .iface te pe) := by
    intro nm g cs hg hv hc
    have hcell := World.var?_cell hg hv 0
    rw [← Array.getElem?_toList] at hcell
    rcases hc with hc | ⟨u, v, hc⟩
    · exact ⟨.nilIface, by rw [hcell, hc]; rfl, .inl rfl⟩
    · exact ⟨.iface u v, by rw [hcell, hc]; rfl, .inr ⟨_, _, rfl⟩⟩
  exact ⟨key _ _ _ gES hv1 (trod_if Tryz.underlying87 hd1), key _ _ _ gER hv0 (trod_if Tryz.underlying87 hd0)⟩
end Go.Proofs.YtmmdldicafbjdaaGreatDoor
end
