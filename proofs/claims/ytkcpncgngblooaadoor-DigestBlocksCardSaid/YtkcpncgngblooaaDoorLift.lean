/- How a row of a digest's law is proved from its walk. Condition: the round constants lie in their variable, as the card ties it. -/
import Derived.Test.YtkcpncgngblooaaDoorLaw
import Derived.Test.YtkcpncgngblooaaDoorTie
import Derived.Test.YtkcpncgngblooaaDoorCards
import Derived.ProofKit
import Derived.LaidMore
import Derived.OpenShut
import Derived.Stop.Joined
import Derived.SevenTiedAt
namespace Go.Proofs.YtkcpncgngblooaaDoor
open Go.ChangeShapes Go.WideShapes Go.ChangeAt Go.WideMaps Go.WideElems Go.RowKit

theorem own : ownKnob Tryd.prog.godebug = none := by kernel_rfl
theorem laidOut : laidOutB Tryd.prog = true := by kernel_rfl
theorem gRC : Tryd.prog.globalNamed "licit/digest.roundConstants" = some 0 := by kernel_rfl
theorem tRC : (Tryd.prog.globals[0]?).map (·.type) = some 47 := by kernel_rfl
def laidV {H : Type} : List (String × DataW H) := [("licit/digest.roundConstants", Rows.laid_licit_digest_roundConstants)]

theorem door_met (os : Os) (args : Array Value) : laidMetH Tryd.prog laidV ((World.doorLaid Tryd.prog 400 os).forCall (fun _ _ => 0) ⟨#[], args, []⟩).memory :=
  laidMetH_of_parts3 (fuel := 8) (laidMet_of_run' 8 (by kernel_rfl) (by kernel_rfl)) (by kernel_rfl) (by kernel_rfl)

theorem const_lit : ∀ i, i < 24 → (Kec.const i).toNat = Kec.consts.getD i 0 := by decide +kernel

/-- What the condition gives the walks. -/
theorem consts_of {W : World} (h : laidMetH Tryd.prog laidV W) : Consts W := by
  rw [MakeChecks.laidMetH_plain _ _ _ (by kernel_rfl)] at h
  obtain ⟨ps, ⟨g0, t0, cs0, f0, p0, q0, hg0, ht0, hv0, hd0, _, _⟩, _, _⟩ := h
  obtain rfl := Option.some.inj (gRC.symm.trans hg0)
  obtain rfl := Option.some.inj (tRC.symm.trans ht0)
  obtain ⟨xs, m1, rfl, hx1, hlen, hn3, hel⟩ := DataW.trod_array Tryd.underlying47 hd0
  have c25 : Tryd.prog.cellsOf 25 = 1 := by kernel_rfl
  have c47 : Tryd.prog.cellsOf 47 = 24 := by kernel_rfl
  rw [c47] at hlen
  rw [c25] at hel
  have hl : (Rows.laid_licit_digest_roundConstants : DataW Unit) = .agg (Kec.consts.map fun (n : Nat) => .lit (.int .u64 (n : Int))) := rfl
  rw [hl] at hx1
  simp only [Prod.mk.injEq, DataW.agg.injEq] at hx1
  have key : ∀ i, i < 24 → W.cell? ⟨0, i, none⟩ = some (.int .u64 (U (Kec.const i))) := by
    intro i hi
    have hcell := World.var?_cell hg0 hv0 i
    have hci : i < cs0.toList.length := by omega
    have h1 := hel i hi
    rw [Nat.mul_one, List.drop_eq_getElem_cons hci, List.take_succ_cons, List.take_zero, List.getElem?_eq_getElem (by omega)] at h1
    obtain ⟨k, e1, e2, _⟩ := DataW.trod_int Tryd.underlying25 h1
    have h2 := congrArg (fun l => l[i]?) hx1.1
    simp only [List.getElem?_map] at h2
    rw [List.getElem?_eq_getElem (show i < xs.length by omega), List.getElem?_eq_getElem (show i < Kec.consts.length from hi), e2] at h2
    have hk : k = ((Kec.consts[i]'(show i < Kec.consts.length from hi) : Nat) : Int) := by simpa using h2.symm
    have hc : cs0[i]? = some (.int .u64 k) := by
      have h3 : cs0.toList[i] = .int .u64 k := by simpa using e1
      rw [← Array.getElem?_toList, List.getElem?_eq_getElem hci, h3]
    rw [hcell, hc, hk]
    have h4 := const_lit i hi
    rw [List.getD_eq_getElem?_getD, List.getElem?_eq_getElem (show i < Kec.consts.length from hi)] at h4
    unfold U
    rw [h4]
    rfl
  exact ⟨Nat.lt_of_le_of_lt (Nat.zero_le _) (block_lt_of_cell (key 0 (by decide))), key⟩

/-- An argument that is a state. -/
theorem open_st {H : Type} {enc : TypeId × Value → H} {W : World} {base : Nat} {v : Value} {d : DataW H} {p : List MemPlace} (hv : Value.okWide Tryd.prog W .any base 26 v)
    (h : DataW.Trod enc Tryd.prog W 0 (fun _ => true) true 26 v d p) : ∃ A : Kec.St, v = .agg (arr A) := by
  have hc : ∃ cs, v = .agg cs := by
    simp only [Value.okWide, Tryd.underlying26] at hv
    obtain ⟨cs, h1, _⟩ := hv
    exact ⟨cs, h1⟩
  obtain ⟨cs, rfl⟩ := hc
  obtain ⟨fuel, hf⟩ := h
  have c25 : Tryd.prog.cellsOf 25 = 1 := by kernel_rfl
  have c26 : Tryd.prog.cellsOf 26 = 25 := by kernel_rfl
  obtain ⟨xs, m1, rfl, _, hlen, hn, hel⟩ := DataW.trod_array Tryd.underlying26 hf
  rw [c26] at hlen
  rw [c25] at hel
  have hcs : (Value.agg cs).cells = cs := rfl
  rw [hcs] at hlen hel
  have key : ∀ i, i < 25 → ∃ x : BitVec 64, cs[i]? = some (.int .u64 (U x)) := by
    intro i hi
    have hci : i < cs.toList.length := by omega
    have h1 := hel i hi
    rw [Nat.mul_one, List.drop_eq_getElem_cons hci, List.take_succ_cons, List.take_zero, List.getElem?_eq_getElem (by omega)] at h1
    obtain ⟨k, e1, _, wk⟩ := DataW.trod_int Tryd.underlying25 h1
    have h3 : cs.toList[i] = .int .u64 k := by simpa using e1
    have hb : 0 ≤ k ∧ k < 18446744073709551616 := by
      have := wk
      simp [Lit.wf, IntKind.min, IntKind.max, IntKind.signed, IntKind.bits] at this
      omega
    refine ⟨BitVec.ofNat 64 k.toNat, ?_⟩
    rw [← Array.getElem?_toList, List.getElem?_eq_getElem hci, h3]
    unfold U
    rw [BitVec.toNat_ofNat, Nat.mod_eq_of_lt (by omega), Int.toNat_of_nonneg hb.1]
  refine ⟨fun i => if h : i < 25 then (key i h).choose else 0#64, ?_⟩
  congr 1
  apply Array.ext_getElem?
  intro i
  by_cases hi : i < 25
  · rw [arr_get _ i hi]
    exact (key i hi).choose_spec.trans (by simp [hi])
  · rw [Array.getElem?_eq_none (by have : cs.toList.length = cs.size := rfl; omega), Array.getElem?_eq_none (by rw [arr_size]; omega)]

end Go.Proofs.YtkcpncgngblooaaDoor
