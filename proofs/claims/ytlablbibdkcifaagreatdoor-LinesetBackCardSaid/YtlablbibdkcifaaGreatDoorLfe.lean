/- How a row whose text leans on strconv's errors is proved from its walk: the listed variables, and the errors as they lie. Condition: the listed variables lie as the card ties them. -/
import Derived.Test.YtlablbibdkcifaaGreatDoorLft
import Derived.Test.YtlablbibdkcifaaGreatDoorDcp
namespace Go.Proofs.YtlablbibdkcifaaGreatDoor
open Go.ChangeShapes Go.WideShapes Go.ChangeAt Go.WideMaps Go.WideElems Go.RowKit Go.Deep Tr

def laidPe : List (String × DataW Unit) := [("math/bits.deBruijn32tab", Rows.laid_math_bits_deBruijn32tab), ("math/bits.deBruijn64tab", Rows.laid_math_bits_deBruijn64tab), ("internal/strconv.uint64pow10", Rows.laid_internal_strconv_uint64pow10), ("unicode/utf8.acceptRanges", Rows.laid_unicode_utf8_acceptRanges), ("strconv.ErrRange", Rows.laid_strconv_ErrRange), ("strconv.ErrSyntax", Rows.laid_strconv_ErrSyntax), ("unicode/utf8.first", Rows.laid_unicode_utf8_first)]
/-- A start in which the pinned table lies. -/
noncomputable def pinWe (os : Os) : World :=
  { World.doorLaid Tryz.prog 400 os with heap := (World.doorLaid Tryz.prog 400 os).heap.modify 4 fun
      | .cells _ t frozen => .cells (Go.Pinned.utf8FirstZ.map fun (n : Nat) => Value.int .u8 (n : Int)).toArray t frozen
      | o => o }
set_option maxRecDepth 100000 in
theorem pin_mete (os : Os) (args : Array Value) : laidMetH Tryz.prog laidPe ((pinWe os).forCall (fun _ _ => 0) ⟨#[], args, []⟩).memory :=
  laidMetH_of_parts3 (fuel := 8) (laidMet_of_run' 8 (by kernel_rfl) (by kernel_rfl)) (by kernel_rfl) (by kernel_rfl)
theorem tabs_ofe {W : World} (h : laidMetH Tryz.prog laidPe W) : Cd.Tabs W := by
  rw [MakeChecks.laidMetH_plain _ _ _ (by kernel_rfl)] at h
  obtain ⟨ps, ⟨_, _, _, _, _, _, _, _, _, _, ⟨_, _, _, _, _, _, _, _, _, _, ⟨g0, t0, cs0, f0, p0, q0, hg0, ht0, hv0, hd0, _, _⟩, _⟩, _⟩, _, _⟩ := h
  obtain rfl := Option.some.inj (gTab.symm.trans hg0)
  obtain rfl := Option.some.inj (tTab.symm.trans ht0)
  have hl : (Rows.laid_internal_strconv_uint64pow10 : DataW Unit) = Lib.tabData .u64 Lib.pow10Tab := rfl
  rw [hl] at hd0
  have hc := Lib.cells_of_tab Tryz.underlying124 Tryz.underlying105 (by kernel_rfl) (by kernel_rfl) hd0
  unfold Cd.Tabs Lib.TabIs
  rw [hv0, ← hc]
theorem trod_if {H : Type} {enc : TypeId × Value → H} {P : Program} {w : World} {base : Nat} {spare : Nat → Bool} {held : Bool} {fuel : Nat} {t : TypeId} {cs : List Value} {x : DataW H × List MemPlace} {ms : Array (String × TypeId)} (hu : P.underlying t = some (.interface ms)) (h : DataW.trod enc P w base spare held fuel t cs = some x) : cs = [.nilIface] ∨ ∃ u v, cs = [.iface u v] := by
  cases fuel with
  | zero => cases h
  | succ n =>
    unfold DataW.trod at h
    rw [hu] at h
    match cs, h with
    | [], h => cases h
    | [v], h => cases v <;> first | exact .inl rfl | exact .inr ⟨_, _, rfl⟩ | (cases h; done)
    | a :: b :: l, h => exfalso; revert h; cases a <;> simp
theorem gER : Tryz.prog.globalNamed "strconv.ErrRange" = some 3 := by kernel_rfl
theorem tER : (Tryz.prog.globals[3]?).map (·.type) = some 59 := by kernel_rfl
theorem gES : Tryz.prog.globalNamed "strconv.ErrSyntax" = some 2 := by kernel_rfl
theorem tES : (Tryz.prog.globals[2]?).map (·.type) = some 59 := by kernel_rfl
theorem err_of {W : World} (h : laidMetH Tryz.prog laidPe W) : ErrAt W := by
  rw [MakeChecks.laidMetH_plain _ _ _ (by kernel_rfl)] at h
  obtain ⟨ps, ⟨_, _, _, _, _, _, _, _, _, _, ⟨_, _, _, _, _, _, _, _, _, _, ⟨_, _, _, _, _, _, _, _, _, _, ⟨_, _, _, _, _, _, _, _, _, _, ⟨g0, t0, cs0, f0, p0, q0, hg0, ht0, hv0, hd0, ⟨g1, t1, cs1, f1, p1, q1, hg1, ht1, hv1, hd1, _, _⟩, _⟩, _⟩, _⟩, _⟩, _⟩, _, _⟩ := h
  obtain rfl := Option.some.inj (gER.symm.trans hg0)
  obtain rfl := Option.some.inj (tER.symm.trans ht0)
  obtain rfl := Option.some.inj (gES.symm.trans hg1)
  obtain rfl := Option.some.inj (tES.symm.trans ht1)
  have key : ∀ (nm : String) (g : Nat) (cs : Array Value), Tryz.prog.globalNamed nm = some g → W.var? Tryz.prog nm = some cs → (cs.toList = [.nilIface] ∨ ∃ u v, cs.toList = [.iface u v]) → ∃ ev, W.cell? ⟨g, 0, none⟩ = some ev ∧ (ev = .nilIface ∨ ∃ te pe, ev = .iface te pe) := by
    intro nm g cs hg hv hc
    have hcell := World.var?_cell hg hv 0
    rw [← Array.getElem?_toList] at hcell
    rcases hc with hc | ⟨u, v, hc⟩
    · exact ⟨.nilIface, by rw [hcell, hc]; rfl, .inl rfl⟩
    · exact ⟨.iface u v, by rw [hcell, hc]; rfl, .inr ⟨_, _, rfl⟩⟩
  exact ⟨key _ _ _ gES hv1 (trod_if Tryz.underlying59 hd1), key _ _ _ gER hv0 (trod_if Tryz.underlying59 hd0)⟩
end Go.Proofs.YtlablbibdkcifaaGreatDoor
