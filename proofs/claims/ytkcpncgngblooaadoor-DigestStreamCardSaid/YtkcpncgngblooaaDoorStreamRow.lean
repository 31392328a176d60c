/- The statement DigestStream of the seat. Condition: what the card says: the round constants start as the text lays them. -/
import Derived.Test.YtkcpncgngblooaaDoorLift
import Derived.Test.YtkcpncgngblooaaDoorStream
import Derived.Deep.Strs
namespace Go.Proofs.YtkcpncgngblooaaDoor
open Go.ChangeMaps (open_string shut_string)
open Go.ChangeShapes Go.WideShapes Go.ChangeAt Go.WideMaps Go.WideElems Go.RowKit Go.Deep

theorem plain_of_cell {w : World} {a : Addr} {v : Value} (h : w.cell? (a.add 0) = some v) : ∃ g o, a = ⟨g, o, none⟩ ∧ g < w.heap.size := by
  have h0 : a.add 0 = a := by simp [Addr.add]
  rw [h0] at h
  have hlt := World.block_lt_of_cell? w a h
  obtain ⟨g, o, s⟩ := a
  cases s with
  | none => exact ⟨g, o, rfl, hlt⟩
  | some x =>
    unfold World.cell? at h
    simp at h
    split at h <;> cases h
/-- What the argument gives the walk. -/
theorem open_rows {H : Type} {enc : TypeId × Value → H} {w : World} {held : Bool} {fuel : Nat} {cs : List Value} {x : DataW H × List MemPlace}
    (h : DataW.trod enc Tryd.prog w 0 (fun _ => true) held fuel 30 cs = some x) :
    ∃ (A : Option Addr) (c : Nat) (vs : List (Option Addr × Nat × List ByteArray)), cs = [.slice A vs.length c] ∧ RowsAt w A vs := by
  have ce : Tryd.prog.cellsOf 33 = 1 := by kernel_rfl
  have cq : Tryd.prog.cellsOf 9 = 1 := by kernel_rfl
  rcases open_slice1 Tryd.underlying30 ce h with ⟨rfl, _⟩ | ⟨a, len, cap, m, n, V, D, Pl, rfl, _, hl, _, hmm, _, hx⟩
  · exact ⟨none, 0, [], rfl, fun i hi => by simp at hi⟩
  · simp only [if_true] at hmm
    have each : ∀ i, i < len → ∃ y : Option Addr × Nat × List ByteArray, V i = .slice y.1 y.2.2.length y.2.1 ∧ ∀ j (hj : j < y.2.2.length), ∃ g1 o1, y.1 = some ⟨g1, o1, none⟩ ∧ g1 < w.heap.size ∧ w.cell? ⟨g1, o1 + j, none⟩ = some (.string y.2.2[j]) := by
      intro i hi
      rcases open_strs Tryd.underlying33 Tryd.underlying9 cq (hx i (by omega)).2 with ⟨hcs, _⟩ | ⟨a1, len1, cap1, m1, Sx, hcs, _, hl1, _, hm1, _, hx1⟩
      · exact ⟨(none, 0, []), by simpa using hcs, fun j hj => by simp at hj⟩
      · simp only [if_true] at hm1
        refine ⟨(some a1, cap1, (List.range len1).map Sx), by simpa using hcs, fun j hj => ?_⟩
        have hj1 : j < len1 := by simpa using hj
        obtain ⟨g1, o1, rfl, hg1⟩ := plain_of_cell (hx1 0 (by omega)).1
        refine ⟨g1, o1, rfl, hg1, ?_⟩
        have := (hx1 j (by omega)).1
        rw [add_plain] at this
        simpa using this
    obtain ⟨y, hy⟩ := choose_lt each
    refine ⟨some a, cap, (List.range len).map y, by simp, fun i hi => ?_⟩
    have hi1 : i < len := by simpa using hi
    obtain ⟨g, o, rfl, hg⟩ := plain_of_cell (hx 0 (by omega)).1
    have h1 := (hx i (by omega)).1
    rw [add_plain, (hy i hi1).1] at h1
    refine ⟨g, o, rfl, hg, by simpa using h1, ?_⟩
    have h2 := (hy i hi1).2
    intro j hj
    have hj' : j < (y i).2.2.length := by simpa using hj
    obtain ⟨g1, o1, e1, hg1, hc1⟩ := h2 j hj'
    exact ⟨g1, o1, by simpa using e1, hg1, by simpa using hc1⟩

set_option maxRecDepth 100000 in
theorem stream_lifted (os : Os) (started : os.Started) (H : Type) (enc : TypeId × Value → H) :
    ReturnsInHanded {} Tryd.checked os 6 .any (fun w args => (Rows.digestStreamSpec.pre enc Tryd.prog Tryd.f6 [] false w args ∧ laidMetH Tryd.prog laidV w) ∧ sizedMet enc Tryd.prog Tryd.f6 (OpenSpec.ofChange Rows.digestStreamSpec) false w args)
      (Rows.digestStreamSpec.post enc Tryd.prog Tryd.f6 false true false false) := by
  refine returnsInHanded_of_change_and (C := Tryd.checked) (X := fun w _ => laidMetH Tryd.prog laidV w) (fun _ _ _ hh h => h.of_heap hh) own started (by kernel_rfl) Tryd.func6
    (ChangeSpec.witness_shaped (enc := enc) (C := Tryd.checked) (os := os) (X := fun w _ => laidMetH Tryd.prog laidV w) false (World.doorLaid Tryd.prog 400 os) #[.slice none 0 0] 8 rfl (World.shaped_of_RefB (by kernel_rfl) (by kernel_rfl)) (by kernel_rfl) (by kernel_rfl) (by kernel_rfl) (door_met os _)) ?_
  intro W base args ds gs before hval0 hW _ _ hL _
  have hval : ∀ (j : Nat) t v, Tryd.f6.params[j]? = some t → args[j]? = some v → Value.okWide Tryd.prog W .any base t v := hval0
  have hW' := hW
  obtain ⟨p, q, hA0, hV, rfl, hfz, hnd⟩ := hW
  have hA : DataW.TrodAll enc Tryd.prog W 0 (fun _ => true) true Tryd.f6.params.toList args.toList ds p := hA0
  rw [Tryd.params6] at hA hval
  obtain ⟨v0, d0, rfl, rfl, h0⟩ := trodAll_one hA
  obtain ⟨rfl, rfl⟩ := trodVars_none hV
  obtain ⟨a0, len0, cap0, rfl⟩ := okWide_slice Tryd.underlying30 (hval 0 30 v0 rfl rfl)
  have h0k := h0
  obtain ⟨fuel0, hf⟩ := h0
  obtain ⟨A, c, vs, hcs, hR⟩ := open_rows hf
  simp [Value.cells] at hcs
  obtain ⟨rfl, rfl, rfl⟩ := hcs
  have hC := consts_of hL
  clear hA0 hval0
  simp only [List.append_nil] at hW'
  have hlt : ∀ x ∈ p, x.block < W.heap.size := fun x hx => by simpa using hW'.lt x hx
  refine (stream_law a0 cap0 vs W hC hR).mono fun e W' ⟨he, hb⟩ => ?_
  subst he
  refine ⟨_, rfl, _, _, _, [], p, [], hW', ?_, ?_, rfl, hb.frame _, fun h => by cases h⟩
  · exact trodAll_mk1 (shut_bool Tryd.underlying4 _)
  · exact trodAll_mk1 (Below.trod laidOut (by kernel_rfl) (of_decide_eq_true (by kernel_rfl)) h0k hb hlt)
theorem stream_holds : Rows.DigestStreamSaid :=
  OpenClaim.holds_of_wide 6 Tryd.f6 rfl rfl rfl rfl rfl rfl rfl ⟨rfl, rfl, rfl, rfl, rfl⟩ rfl rfl rfl rfl rfl (by kernel_rfl) Tryd.func6 (by kernel_rfl)
    (of_decide_eq_true (by kernel_rfl)) (by unfold Func.isWrapper; first | (rw [if_pos (by decide +kernel)]; kernel_rfl) | (rw [if_neg (by decide +kernel)]; exact ⟨rfl, rfl⟩))
    (fun os started H enc _ => stream_lifted os started H enc)

theorem stream_card : Rows.DigestStreamCardSaid :=
  Claim7.holds_tied_plain_at .later [] [.data] true Rows.digestStreamCard.stood.harness false
    stream_holds (fun _ h => by cases h) (by kernel_rfl) (fun _ h => by cases h) digestStream_row_tie rfl ⟨rfl, rfl⟩ (by kernel_rfl) rfl
    (fun f fn hf hfn => by
      obtain rfl : f = 6 := Option.some.inj ((show Tryd.prog.funcNamed "licit/licitlaw01.DigestStream" = some 6 by kernel_rfl).symm.trans hf) |>.symm
      obtain rfl : fn = Tryd.f6 := (Option.some.inj (Tryd.func6.symm.trans hfn)).symm
      exact ⟨by kernel_rfl, fun j t ht => by
        rw [Tryd.params6] at ht
        have hm : t ∈ [26, 9, 30] := by have := Array.mem_of_getElem? ht; simp at this; simp [this]
        have hall : ([26, 9, 30].all fun u => !Tryd.prog.wantsStandIn u) = true := by kernel_rfl
        exact (show Tryd.prog.wantsStandIn t = false by simpa using List.all_eq_true.1 hall t hm)⟩)
    (by kernel_rfl)
#print axioms stream_card
end Go.Proofs.YtkcpncgngblooaaDoor
