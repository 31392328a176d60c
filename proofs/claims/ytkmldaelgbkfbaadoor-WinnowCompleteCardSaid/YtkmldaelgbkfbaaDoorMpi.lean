/- Maps of numbers, as functions, with their size. No condition. -/
import Derived.Test.YtkmldaelgbkfbaaDoorWel
import Derived.Maps.OwnSet
import Derived.Maps.OwnOps
import Derived.Maps.Views
namespace Go.Proofs.YtkmldaelgbkfbaaDoor
open Go.RowKit Go.Maps
namespace Wn
/-- How an element is kept: as it is. -/
def tokR (v : Value) : Option (DataW Value × List MemPlace) := some (.held v, [])
theorem isKeyI (n : Int) : WideAt.IsKeyLit (.int .i64 n) := by first | trivial | exact rfl | simp [WideAt.IsKeyLit]
theorem kInt : Keyed Tryd.prog 3 := int_keyed Tryd.underlying3
theorem ownsMap_block {H : Type} {w w' : World} {P : Program} {k : TypeId} {R : Value → Option (DataW H × List MemPlace)} {b n : Nat} {D : DataW H} (h : w.ownsMap P k R b n D) (e : w'.heap[b]? = w.heap[b]?) : w'.ownsMap P k R b n D := by
  obtain ⟨es, clock, hb, r⟩ := h
  exact ⟨es, clock, e.trans hb, r⟩
/-- A number of the machine. -/
def Fit (n : Int) : Prop := (Lit.int .i64 n).wf = true
theorem fit_of {n : Int} (h1 : -9223372036854775808 ≤ n) (h2 : n ≤ 9223372036854775807) : Fit n := by
  unfold Fit Lit.wf
  rw [Bool.and_eq_true, decide_eq_true_eq, decide_eq_true_eq]
  exact ⟨h1, h2⟩
theorem key_int (n : Int) (hn : Fit n) : keyOf Tryd.prog 3 (.int .i64 n) = some (.int .i64 n) := keyOf_int_mk Tryd.underlying3 hn
/-- Block b is a map that has at p what F says, s keys in all. -/
def Mq (w : World) (b n : Nat) (F : Int → Option Value) (s : Nat) : Prop := ∃ D : DataW Value, w.ownsMap Tryd.prog 3 tokR b n D ∧ Tidy D ∧ (∀ p z, D.atKey (.int .i64 p) z = match F p with | some v => .held v | none => z) ∧ Maps.size D = s
theorem Mq.made (w : World) : Mq (w.alloc (.map #[] 0)) w.heap.size 0 (fun _ => none) 0 := ⟨.map [], World.ownsMap_made w _ _ _, tidy_empty, fun _ _ => rfl, rfl⟩
section
variable {w w' : World} {b n s : Nat} {F : Int → Option Value}
theorem Mq.lt (h : Mq w b n F s) : b < w.heap.size := by
  obtain ⟨D, h1, _⟩ := h
  exact h1.lt
theorem Mq.block (h : Mq w b n F s) (e : w'.heap[b]? = w.heap[b]?) : Mq w' b n F s := by
  obtain ⟨D, h1, h2⟩ := h
  exact ⟨D, ownsMap_block h1 e, h2⟩
theorem Mq.next (h : Mq w b n F s) (hb : Below w.heap.size w w') : Mq w' b n F s := h.block (hb.block b h.lt)
theorem Mq.mono (h : Mq w b n F s) {n' : Nat} (hn : n ≤ n') : Mq w b n' F s := by
  obtain ⟨D, h1, h2⟩ := h
  exact ⟨D, h1.mono hn, h2⟩
/-- 'm[p]'. -/
theorem Mq.get {T E : TypeId} {z : Value} (h : Mq w b n F s) (ht : Tryd.prog.underlying T = some (.map 3 E)) (hz : (zeroValue E).run Tryd.prog w = .ok z w) (p : Int) (hp : Fit p) :
    (Instr.lookup T (.map (some b)) (.int .i64 p) false).run Tryd.prog w = .ok ((F p).getD z) w := by
  obtain ⟨D, h1, h2, h3, h4⟩ := h
  obtain ⟨v, ps, hrun, hR⟩ := h1.lookup kInt ht hz (zd := .held z) (zp := []) rfl (key_int p hp)
  have hR2 : (DataW.held v : DataW Value) = D.atKey (.int .i64 p) (.held z) := by
    have h1 := Option.some.inj (show some ((DataW.held v : DataW Value), ([] : List MemPlace)) = some (_, ps) from hR)
    exact congrArg (·.1) h1
  rw [h3 p] at hR2
  rw [hrun]
  cases hF : F p with
  | none => rw [hF] at hR2; rw [DataW.held.inj hR2]; rfl
  | some u => rw [hF] at hR2; rw [DataW.held.inj hR2]; rfl
/-- 'm[p] = v'. -/
theorem Mq.store {T E : TypeId} (h : Mq w b n F s) (ht : Tryd.prog.underlying T = some (.map 3 E)) (hn : n < maxLen) (p : Int) (hp : Fit p) (v : Value) :
    ∃ w', (Instr.mapUpdate T (.map (some b)) (.int .i64 p) v).run Tryd.prog w = .ok () w' ∧ Mq w' b (n + 1) (fun x => if x = p then some v else F x) (if (F p).isSome then s else s + 1) ∧ w.grownBy w' (some b) := by
  obtain ⟨D, h1, h2, h3, h4⟩ := h
  obtain ⟨w', hrun, h5, h6⟩ := h1.update kInt ht hn (key_int p hp) (show tokR v = some (.held v, []) from rfl)
  refine ⟨w', hrun, ⟨_, h5, h2.put (isKeyI _) _, fun x z => ?_, ?_⟩, h6⟩
  · by_cases hx : x = p
    · subst hx
      rw [atKey_put_same h2.isMap (isKeyI _)]
      show _ = match (if x = x then some v else F x) with | some v => DataW.held v | none => z
      rw [if_pos rfl]
    · rw [atKey_put_other (fun e => hx (by injection e)), h3 x z]
      show _ = match (if x = p then some v else F x) with | some v => DataW.held v | none => z
      rw [if_neg hx]
  · rw [size_put h2, h4]
    cases hF : F p with
    | none => rw [has_false_of_atKey (fun z => by rw [h3 p z, hF])]; rfl
    | some u => rw [has_true_of_atKey (y := .held u) (fun z => by rw [h3 p z, hF])]; rfl
/-- 'len(m)'. -/
theorem Mq.len {T E : TypeId} (h : Mq w b n F s) (ht : Tryd.prog.underlying T = some (.map 3 E)) (ty : TypeId) : (Builtin.len_ #[T] ty #[.map (some b)]).run Tryd.prog w = .ok (.int .i64 s) w := by
  obtain ⟨D, h1, h2, h3, h4⟩ := h
  rw [h1.len ht ty, h4]
end
theorem below_map {B b : Nat} {w w' : World} (hg : w.grownBy w' (some b)) (hb : B ≤ b) (hB : B ≤ w.heap.size) : Below B w w' :=
  ⟨hg.os, hg.tape, hg.output, hg.size, fun k hk => hg.block k (by omega) (fun e => by cases e; omega)⟩
end Wn
end Go.Proofs.YtkmldaelgbkfbaaDoor
