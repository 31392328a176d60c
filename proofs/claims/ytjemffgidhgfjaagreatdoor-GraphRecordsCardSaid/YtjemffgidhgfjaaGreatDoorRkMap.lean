/- Maps of texts, as functions. No condition. -/
import Derived.Test.YtjemffgidhgfjaaGreatDoorRkRpl
import Derived.Maps.OwnSet
import Derived.Maps.OwnOps
import Derived.Maps.Views
import Derived.Sort.KeysCollected
namespace Go.Proofs.YtjemffgidhgfjaaGreatDoor.Rk
open Go.RowKit Go.Maps Tr

/-- How an element is kept: as it is. -/
def tokR (v : Value) : Option (DataW Value × List MemPlace) := some (.held v, [])
theorem isKeyS (n : List UInt8) : WideAt.IsKeyLit (.string n) := by first | trivial | exact rfl | simp [WideAt.IsKeyLit]
theorem kStr : Keyed Tryz.prog 9 := string_keyed Tryz.underlying9
theorem ownsMap_block {H : Type} {w w' : World} {P : Program} {k : TypeId} {R : Value → Option (DataW H × List MemPlace)} {b n : Nat} {D : DataW H} (h : w.ownsMap P k R b n D) (e : w'.heap[b]? = w.heap[b]?) : w'.ownsMap P k R b n D := by
  obtain ⟨es, clock, hb, r⟩ := h
  exact ⟨es, clock, e.trans hb, r⟩
theorem key_str (n : List UInt8) (hn : n.length ≤ maxLen) : keyOf Tryz.prog 9 (.string (str n)) = some (.string n) := by
  have := WideMaps.keyOf_string_mk (P := Tryz.prog) Tryz.underlying9 (s := str n) (by rw [str_size]; exact hn)
  simpa [str] using this
/-- Block b is a map that has at p what F says. -/
def Mp (w : World) (b n : Nat) (F : List UInt8 → Option Value) : Prop := ∃ D : DataW Value, w.ownsMap Tryz.prog 9 tokR b n D ∧ IsMap D ∧ ∀ p z, D.atKey (.string p) z = match F p with | some v => .held v | none => z
theorem Mp.made (w : World) : Mp (w.alloc (.map #[] 0)) w.heap.size 0 fun _ => none := ⟨.map [], World.ownsMap_made w _ _ _, isMap_empty, fun _ _ => rfl⟩
section
variable {w w' : World} {b n : Nat} {F : List UInt8 → Option Value}
theorem Mp.lt (h : Mp w b n F) : b < w.heap.size := by
  obtain ⟨D, h1, _⟩ := h
  exact h1.lt
theorem Mp.block (h : Mp w b n F) (e : w'.heap[b]? = w.heap[b]?) : Mp w' b n F := by
  obtain ⟨D, h1, h2⟩ := h
  exact ⟨D, ownsMap_block h1 e, h2⟩
theorem Mp.next (h : Mp w b n F) (hb : Below w.heap.size w w') : Mp w' b n F := h.block (hb.block b h.lt)
theorem Mp.drew (h : Mp w b n F) : Mp w.drew b n F := h.block rfl
theorem Mp.mono (h : Mp w b n F) {n' : Nat} (hn : n ≤ n') : Mp w b n' F := by
  obtain ⟨D, h1, h2⟩ := h
  exact ⟨D, h1.mono hn, h2⟩
/-- 'v, ok := m[p]'. -/
theorem Mp.look {T E : TypeId} {z : Value} (h : Mp w b n F) (ht : Tryz.prog.underlying T = some (.map 9 E)) (hz : (zeroValue E).run Tryz.prog w = .ok z w) (p : List UInt8) (hp : p.length ≤ maxLen) :
    (Instr.lookup T (.map (some b)) (.string (str p)) true).run Tryz.prog w = .ok (.tuple #[(F p).getD z, .bool (F p).isSome]) w := by
  obtain ⟨D, h1, h2, h3⟩ := h
  obtain ⟨v, ps, hrun, hR⟩ := h1.look_ok kStr ht hz (zd := .held z) (zp := []) rfl (key_str p hp)
  have hR2 : (DataW.held v : DataW Value) = D.atKey (.string p) (.held z) := by
    have h1 := Option.some.inj (show some ((DataW.held v : DataW Value), ([] : List MemPlace)) = some (_, ps) from hR)
    exact congrArg (·.1) h1
  rw [h3 p] at hR2
  rw [hrun]
  cases hF : F p with
  | none =>
    rw [hF] at hR2
    rw [DataW.held.inj hR2, has_false_of_atKey (fun z => by rw [h3 p z, hF])]
    rfl
  | some u =>
    rw [hF] at hR2
    rw [DataW.held.inj hR2, has_true_of_atKey (fun z => by rw [h3 p z, hF])]
    rfl
/-- 'm[p]'. -/
theorem Mp.get {T E : TypeId} {z : Value} (h : Mp w b n F) (ht : Tryz.prog.underlying T = some (.map 9 E)) (hz : (zeroValue E).run Tryz.prog w = .ok z w) (p : List UInt8) (hp : p.length ≤ maxLen) :
    (Instr.lookup T (.map (some b)) (.string (str p)) false).run Tryz.prog w = .ok ((F p).getD z) w := by
  obtain ⟨D, h1, h2, h3⟩ := h
  obtain ⟨v, ps, hrun, hR⟩ := h1.lookup kStr ht hz (zd := .held z) (zp := []) rfl (key_str p hp)
  have hR2 : (DataW.held v : DataW Value) = D.atKey (.string p) (.held z) := by
    have h1 := Option.some.inj (show some ((DataW.held v : DataW Value), ([] : List MemPlace)) = some (_, ps) from hR)
    exact congrArg (·.1) h1
  rw [h3 p] at hR2
  rw [hrun]
  cases hF : F p with
  | none => rw [hF] at hR2; rw [DataW.held.inj hR2]; rfl
  | some u => rw [hF] at hR2; rw [DataW.held.inj hR2]; rfl
/-- 'm[p] = v'. -/
theorem Mp.store {T E : TypeId} (h : Mp w b n F) (ht : Tryz.prog.underlying T = some (.map 9 E)) (hn : n < maxLen) (p : List UInt8) (hp : p.length ≤ maxLen) (v : Value) :
    ∃ w', (Instr.mapUpdate T (.map (some b)) (.string (str p)) v).run Tryz.prog w = .ok () w' ∧ Mp w' b (n + 1) (fun x => if x = p then some v else F x) ∧ w.grownBy w' (some b) := by
  obtain ⟨D, h1, h2, h3⟩ := h
  obtain ⟨w', hrun, h4, h5⟩ := h1.update kStr ht hn (key_str p hp) (show tokR v = some (.held v, []) from rfl)
  refine ⟨w', hrun, ⟨_, h4, h2.put _ _, fun x z => ?_⟩, h5⟩
  by_cases hx : x = p
  · subst hx
    rw [atKey_put_same h2 (isKeyS _)]
    show _ = match (if x = x then some v else F x) with | some v => DataW.held v | none => z
    rw [if_pos rfl]
  · rw [atKey_put_other (fun e => hx (by injection e)), h3 x z]
    show _ = match (if x = p then some v else F x) with | some v => DataW.held v | none => z
    rw [if_neg hx]
end
theorem below_map {B b : Nat} {w w' : World} (hg : w.grownBy w' (some b)) (hb : B ≤ b) (hB : B ≤ w.heap.size) : Below B w w' :=
  ⟨hg.os, hg.tape, hg.output, hg.size, fun k hk => hg.block k (by omega) (fun e => by cases e; omega)⟩
/-- Nothing but block b has turned. -/
structure Kp (b : Nat) (w w' : World) : Prop where
  os : w'.os = w.os
  tape : w'.tape = w.tape
  output : w'.output = w.output
  size : w.heap.size ≤ w'.heap.size
  block : ∀ q, q < w.heap.size → q ≠ b → w'.heap[q]? = w.heap[q]?
theorem Kp.of_below {b : Nat} {w w' : World} (h : Below w.heap.size w w') : Kp b w w' := ⟨h.os, h.tape, h.output, h.size, fun q hq _ => h.block q hq⟩
theorem Kp.of_grown {b : Nat} {w w' : World} (h : w.grownBy w' (some b)) : Kp b w w' := ⟨h.os, h.tape, h.output, h.size, fun q hq hb => h.block q hq fun e => by cases e; exact hb rfl⟩
theorem Kp.trans {b : Nat} {w w' w'' : World} (h : Kp b w w') (h' : Kp b w' w'') : Kp b w w'' := ⟨h'.os.trans h.os, h'.tape.trans h.tape, h'.output.trans h.output, Nat.le_trans h.size h'.size, fun q hq hb => (h'.block q (Nat.lt_of_lt_of_le hq h.size) hb).trans (h.block q hq hb)⟩
theorem Kp.below {b B : Nat} {w w' : World} (h : Kp b w w') (hB : B ≤ b) (hw : B ≤ w.heap.size) : Below B w w' := ⟨h.os, h.tape, h.output, h.size, fun q hq => h.block q (by omega) (by omega)⟩
theorem Kp.refl (b : Nat) (w : World) : Kp b w w := ⟨rfl, rfl, rfl, Nat.le_refl _, fun _ _ _ => rfl⟩
/-- A map of none. -/
theorem nil_look {T E : TypeId} {z : Value} {w : World} (ht : Tryz.prog.underlying T = some (.map 9 E)) (hz : (zeroValue E).run Tryz.prog w = .ok z w) (p : List UInt8) (hp : p.length ≤ maxLen) :
    (Instr.lookup T (.map none) (.string (str p)) true).run Tryz.prog w = .ok (.tuple #[z, .bool false]) w := by
  exact Maps.look_nil true kStr ht hz (key_str p hp)
end Go.Proofs.YtjemffgidhgfjaaGreatDoor.Rk
