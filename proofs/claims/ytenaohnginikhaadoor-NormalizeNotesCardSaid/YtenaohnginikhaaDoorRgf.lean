/- A range over an iterator that stores into its own variables, whose body goes on in every round; regions that draw their order, in a round. No condition. -/
import Derived.RangeFuncNested
import Derived.RangeFuncBound
import Derived.RangeFuncCalls
import Derived.RangeFuncLeaves
import Derived.Shelf.Abstract
import Derived.Shelf.RegionOpen
import Derived.WalkKit
import Derived.OwnWalkIn
import Derived.TacticsInMore
import Derived.LoopNIn
import Derived.LoopIn
import Derived.OrdersHeld
import Derived.OrdersIn
import Derived.Deep.RegionHeld3
namespace Go.Proofs.YtenaohnginikhaaDoor
open Go.RowKit
namespace Rg
variable {P : Program}
/-- An operation that defers nothing and enters no library row does in a round what it does elsewhere. -/
theorem oper_round {o : Oper} {a : Act} {w : World} {K : Act → World → Prop} {Q : Exit → Act → World → Prop} {l n : Nat} (hd : ∀ c, o.op ≠ .defer c) (h : o.wp P a w K Q) : o.wpIn (Fence.wide.inRound l) n P a w K Q := by
  refine ⟨fun _ _ => trivial, ?_⟩
  show o.uponIn _ n P a K Q ((o.semAt (some l) a.eval).run P w)
  rw [Oper.semAt_some l _ _ hd]
  unfold Oper.wp at h
  generalize (execOp a.eval o).run P w = r at *
  cases r with
  | ok x w' =>
    cases x <;> simp only [Oper.upon, Oper.uponIn] at h ⊢
    case enter =>
      refine ⟨fun h0 => (by cases h0), ?_⟩
      exact CallsIn.inRound l (callsIn_wide.2 h)
    case row =>
      refine ⟨fun h0 => (by cases h0), fun c cs _ => ?_⟩
      obtain ⟨v, w1, r, s⟩ := h c cs
      exact ⟨v, w1, r, stepsIn_wide.2 s⟩
    all_goals exact h
  | halt x w' => cases x <;> simp only [Oper.upon, Oper.uponIn] at h ⊢ <;> exact h
/-- A region that draws its order, in a round. -/
theorem any_round {md : Region.Mode} {ops : Array Oper} {Q : Exit → Act → World → Prop} {l n : Nat} (hops : ∀ (i : Nat) (o : Oper), ops[i]? = some o → ∀ c, o.op ≠ .defer c) (hQ : ¬ LetsOut Q) :
    ∀ (fuel : Nat) (listed : Array Bool) (a : Act) (w : World), wpAny P md ops Q fuel listed a w → wpAnyIn (Fence.wide.inRound l) n P md ops Q fuel listed a w := by
  intro fuel
  induction fuel with
  | zero => intro listed a w h; exact h
  | succ fuel ih =>
    intro listed a w h
    refine ⟨h.1, fun i hi => ?_⟩
    have hs := h.2 i hi
    unfold wpOp at hs
    unfold wpOpIn
    cases ho : ops[i]? with
    | none => rw [ho] at hs; exact ih _ _ _ hs
    | some o =>
      rw [ho] at hs
      dsimp only at hs ⊢
      split at hs
      · rename_i hw
        rw [if_pos hw]
        rcases hs with hs | hs
        · exact Oper.wpIn_mono (fun a w => ih _ a w) (oper_round (hops i o ho) hs)
        · exact absurd hs.2 hQ
      · rename_i hw
        rw [if_neg hw]
        exact ⟨fun _ _ => trivial, ih _ _ _ hs⟩
def noDefer (ops : Array Oper) : Bool := ops.all fun o => match o.op with | .defer _ => false | _ => true
theorem noDefer_ok {ops : Array Oper} (h : noDefer ops = true) : ∀ (i : Nat) (o : Oper), ops[i]? = some o → ∀ c, o.op ≠ .defer c := by
  intro i o ho c hc
  have hm : o ∈ ops := Array.mem_of_getElem? ho
  have := Array.all_eq_true_iff_forall_mem.1 h o hm
  rw [hc] at this
  cases this
theorem region_round {id : Nat} {ops : Array Oper} {Q : Exit → Act → World → Prop} {a : Act} {w : World} {l n : Nat} {S : World → Prop} (hm : P.follows .mixedOrders = true) (hd : noDefer ops = true) (hQ : ¬ LetsOut Q) (hS : S w.drew)
    (h : S w.drew → wpAnyH P .any ops Q S ops.size (Array.replicate ops.size false) a w.drew) : (Code.region id ops true).wpIn (Fence.wide.inRound l) n P Q a w :=
  wpIn_region_any hm (any_round (noDefer_ok hd) hQ _ _ _ _ (wpAny_of_held _ _ _ _ (h hS)))
/-- A round's contract at any depth. -/
theorem roundIn_deep {l : Nat} {f : FuncId} {tmps : Array Value} {assign body : Code} {w : World} {R : Ending → World → Prop} {n m : Nat} (h : RoundIn Fence.wide n P l f tmps assign body w R) : RoundIn Fence.wide m P l f tmps assign body w R :=
  ⟨h.1, fun c cs _ => h.2 c cs (room_wide _)⟩
/-- An iterator that calls yield with the i-th values, N times, as long as yield says true; between two rounds it stores into the first cells of the blocks qs alone. -/
def Each (P : Program) (g : Nat) (lb : Array Value) (enc : Nat → Array Value) (N : Nat) (qs : List Nat) (ok : World → Prop) : Prop :=
  ∀ (l : Nat) (J : Nat → World → Prop) (W : World), ok W →
    (∀ (i : Nat) (A : World) (v : Value) (q : Nat), J i A → q ∈ qs → J i (A.setCell ⟨q, 0, none⟩ v)) →
    (∀ (i : Nat) (W1 : World), i < N → J i W1 → YieldAt Fence.wide 0 P l (enc i) W1 fun e W' => e = .returned (.bool true) ∧ J (i + 1) W' ∧ ∀ q ∈ qs, W'.heap[q]? = W1.heap[q]?) →
    J 0 W → Calls P g (#[.func (.yield l) #[] #[]] ++ lb) W fun e W' => (∃ v, e = .returned v) ∧ J N W'
/-- How a round that goes on has to be left. -/
def GoesOn (I : Nat → World → Prop) (D i : Nat) (qs : List Nat) (W : World) : Exit → Act → World → Prop := fun e _ W' =>
  e = .normal ∧ I (i + 1) W' ∧ W'.heap[D]? = W.heap[D]? ∧ W'.heap[D + 1]? = W.heap[D + 1]? ∧ ∀ q ∈ qs, W'.heap[q]? = W.heap[q]?
/-- A range over such an iterator, whose body goes on in every round. -/
theorem each_wpIn {g : Operand} {ps : Array Tmp} {assign body : Code} {Q : Exit → Act → World → Prop} {a : Act} {w : World} {n : Nat} {gf : Nat} {lb : Array Value} {enc : Nat → Array Value} {N : Nat} {qs : List Nat} {ok : World → Prop}
    (hg : a.eval g = .func (.func gf) #[] lb) (eg : ∀ args w, (callFunc gf args).run P w = .ok (.enter gf args) w) (hps : ∀ i, (enc i).size = ps.size) (hE : Each P gf lb enc N qs ok) (hqs : ∀ q ∈ qs, q < w.heap.size)
    (hok : ∀ W1 : World, (∀ q, q < w.heap.size → W1.heap[q]? = w.heap[q]?) → ok W1) (I : Nat → World → Prop)
    (hIp : ∀ (i : Nat) (A : World) (q : Nat) (o o' : Obj), I i A → w.heap.size ≤ q → A.heap[q]? = some o → o.isCells = false → I i (A.putObj q o'))
    (hIs : ∀ (i : Nat) (A : World) (v : Value) (q : Nat), I i A → q ∈ qs → I i (A.setCell ⟨q, 0, none⟩ v))
    (h0 : ∀ o1 o2 : Obj, I 0 ((w.alloc o1).alloc o2)) (a₁ : Nat → Act)
    (hassign : ∀ (l i : Nat) (W : World) (K : Act → World → Prop), K (a₁ i) W → assign.wpIn (Fence.wide.inRound l) 0 P (Exit.then K (fun _ _ _ => False)) { tmps := (ps.zip (enc i)).foldl (fun t (p, v) => t.setIfInBounds p v) a.tmps, defers := [] } W)
    (hbody : ∀ (i : Nat) (W : World), i < N → I i W → w.heap.size + 2 ≤ W.heap.size → body.wpIn (Fence.wide.inRound (w.heap.size + 1)) 0 P (GoesOn I w.heap.size i qs W) (a₁ i) W)
    (hdone : ∀ W : World, I N W → W.heap[w.heap.size]? = some (.deferred (some [])) → Q .normal { a with defers := { target := .collected w.heap.size, args := #[] } :: a.defers } W) :
    (Code.rangeFunc g ps assign body).wpIn Fence.wide n P Q a w := by
  refine wpIn_rangeFunc fun fn hfn => ?_
  obtain ⟨D, hD⟩ : ∃ D, D = w.heap.size := ⟨_, rfl⟩
  obtain ⟨R, hR⟩ : ∃ R : LoopState → Loop, R = fun st => { state := st, pending := none, fn, tmps := a.tmps, params := ps, assign, body, defers := w.heap.size } := ⟨_, rfl⟩
  obtain ⟨V, hV⟩ : ∃ V, V = (w.alloc (.deferred (some []))).alloc (.loop (R .ready)) := ⟨_, rfl⟩
  have vD : V.heap[D]? = some (.deferred (some [])) := by
    rw [hV, hD]; exact (Below.heap_alloc _ _ _ (by simp)).trans (World.alloc_heap_new w _)
  have vL : V.heap[D + 1]? = some (.loop (R .ready)) := by
    rw [hV, hD]; have := World.alloc_heap_new (w.alloc (.deferred (some []))) (.loop (R .ready)); rwa [World.size_alloc] at this
  have vlow : ∀ q, q < w.heap.size → V.heap[q]? = w.heap[q]? := fun q hq => by
    rw [hV]; exact (Below.heap_alloc _ _ _ (by simp; omega)).trans (Below.heap_alloc _ _ _ hq)
  have hent := run_enterLoop_outer (P := P) (w := w) fn a.tmps ps assign body
  refine ⟨D + 1, [{ target := .collected D, args := #[] }], V, { target := .fn (.func gf) lb, args := #[.func (.yield (D + 1)) #[] #[]] }, V, gf, #[.func (.yield (D + 1)) #[] #[]] ++ lb, V, ?_, ?_, fun _ _ => trivial, ?_, fun h => (by cases h), ?_⟩
  · rw [hV, hR, hD]; exact hent
  · simp only [resolve, hg]; simp [go_sem]
  · simp [invoke, go_sem, eg]
  refine callsIn_wide.2 ?_
  -- what lies between two rounds
  have key := hE (D + 1) (fun i W => I i W ∧ W.heap[D]? = some (.deferred (some [])) ∧ W.heap[D + 1]? = some (.loop (R .ready))) V (hok V vlow)
  have hne : ∀ q ∈ qs, q ≠ D ∧ q ≠ D + 1 := fun q hq => by have := hqs q hq; omega
  refine (key ?_ ?_ ⟨by rw [hV]; exact h0 _ _, vD, vL⟩).mono ?_
  · rintro i A v q ⟨h1, h2, h3⟩ hq
    obtain ⟨n1, n2⟩ := hne q hq
    exact ⟨hIs i A v q h1 hq, (Below.heap_setCell _ ⟨q, 0, none⟩ _ _ (Ne.symm n1)).trans h2, (Below.heap_setCell _ ⟨q, 0, none⟩ _ _ (Ne.symm n2)).trans h3⟩
  · rintro i W hi ⟨h1, h2, h3⟩
    have hlt : D + 1 < W.heap.size := (Array.getElem?_eq_some_iff.1 h3).1
    have hy := run_yield (P := P) (args := enc i) h3 (by rw [hR]; exact hps i)
    rw [hR] at hy
    refine ⟨fn, _, assign, body, hy, roundIn_of_wpIn hfn (hassign _ i W _ ⟨_, run_beginRound h3 (by rw [hR]), ?_⟩)⟩
    obtain ⟨B, hB⟩ : ∃ B, B = W.putObj (D + 1) (.loop { R .ready with state := .busy }) := ⟨_, rfl⟩
    have b1 : I i B := by rw [hB]; exact hIp i W _ _ _ h1 (by omega) h3 rfl
    have b2 : B.heap[D]? = some (.deferred (some [])) := by rw [hB]; exact (World.putObj_heap_other (by omega)).trans h2
    have b3 : B.heap[D + 1]? = some (.loop { R .ready with state := .busy }) := by rw [hB]; exact World.putObj_heap_same hlt
    have b4 : ∀ q ∈ qs, B.heap[q]? = W.heap[q]? := fun q hq => by rw [hB]; exact World.putObj_heap_other (hne q hq).2
    have hsz : w.heap.size + 2 ≤ B.heap.size := by rw [hB]; simp; omega
    rw [← hB]
    refine wpIn_mono (by rw [hD]; exact hbody i B hi b1 hsz) ?_
    rintro e a3 W3 ⟨rfl, c1, c2, c3, c4⟩
    rw [← hD] at c2 c3
    have hl3 := c3.trans b3
    have hr := run_endRound (P := P) none hl3
    refine ⟨_, _, hr, rfl, ⟨hIp _ _ _ _ _ c1 (by omega) hl3 rfl, (World.putObj_heap_other (by omega)).trans (c2.trans b2), ?_⟩, fun q hq => ?_⟩
    · rw [World.putObj_heap_same (Array.getElem?_eq_some_iff.1 hl3).1, hR]; rfl
    · exact (World.putObj_heap_other (hne q hq).2).trans ((c4 q hq).trans (b4 q hq))
  · rintro e W ⟨⟨v, rfl⟩, h1, h2, h3⟩
    refine ⟨none, _, by have := run_endLoop (P := P) h3 (by rw [hR]; simp); rw [hR] at this; exact this, ?_⟩
    have g1 := fun o' => hIp N W (D + 1) _ o' h1 (by omega) h3 rfl
    have g2 : ∀ o', (W.putObj (D + 1) o').heap[D]? = some (.deferred (some [])) := fun o' => (World.putObj_heap_other (by omega)).trans h2
    rw [hD] at g1 g2 ⊢
    exact hdone _ (g1 _) (g2 _)
end Rg
end Go.Proofs.YtenaohnginikhaaDoor
