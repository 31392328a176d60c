/- A map from numbers to lists of numbers that grow. No condition. -/
import Derived.Test.YtkmldaelgbkfbaaDoorMpi
import Derived.Test.YtkmldaelgbkfbaaDoorOrd
namespace Go.Proofs.YtkmldaelgbkfbaaDoor
open Go.RowKit Go.Deep Go.Maps
namespace Wn
theorem zInts (w : World) : (zeroValue 47).run Tryd.prog w = .ok (.slice none 0 0) w := by kernel_rfl
theorem Mq.kind {w : World} {b n s : Nat} {F : Int → Option Value} (h : Mq w b n F s) : ∃ es c, w.heap[b]? = some (.map es c) := by
  obtain ⟨D, ⟨es, c, hb, _⟩, _⟩ := h
  exact ⟨es, c, hb⟩
theorem row_not_map {w : World} {B e size n b : Nat} {v : Value} {xs : List Value} {es : Array MapEntry} {c : Nat} (h : w.ownsRow B e size v n xs) (hb : w.heap[b]? = some (.map es c)) : v.ownBlock ≠ some b := fun e1 => by
  obtain ⟨cs, fz, h5⟩ := Lib.ownsRow_kind h b e1
  rw [h5] at hb
  cases hb
/-- Block mb is a map that has the list L h at h. -/
structure Mw (w : World) (B mb n : Nat) (L : Int → List Int) : Prop where
  ex : ∃ (V : Int → Value) (P : Int → Bool) (s : Nat), Mq w mb n (fun h => if P h then some (V h) else none) s ∧ (∀ h, P h = false → V h = .slice none 0 0) ∧ (∀ h, w.ownsRow B 3 1 (V h) (L h).length (Gr.insV (L h))) ∧ ∀ h h' g, h ≠ h' → (V h).ownBlock = some g → (V h').ownBlock = some g → False
  lo : B ≤ mb
theorem Mw.made (w : World) (B : Nat) (hB : B ≤ w.heap.size) : Mw (w.alloc (.map #[] 0)) B w.heap.size 0 fun _ => [] :=
  ⟨⟨fun _ => .slice none 0 0, fun _ => false, 0, Mq.made w, fun _ _ => rfl, fun _ => World.ownsRow_nil _ _ _ _, fun _ _ g _ hg => by simp [Value.ownBlock] at hg⟩, hB⟩
theorem Mw.lt {w : World} {B mb n : Nat} {L : Int → List Int} (h : Mw w B mb n L) : mb < w.heap.size := by
  obtain ⟨V, P, s, h1, _⟩ := h.ex
  exact h1.lt
theorem Mw.next {w w' : World} {B mb n : Nat} {L : Int → List Int} (h : Mw w B mb n L) (hb : Below w.heap.size w w') : Mw w' B mb n L := by
  obtain ⟨V, P, s, h1, h2, h3, h4⟩ := h.ex
  exact ⟨⟨V, P, s, h1.next hb, h2, fun x => own_below (h3 x) hb, h4⟩, h.lo⟩
theorem Mw.take {w : World} {B mb n : Nat} {L : Int → List Int} (h : Mw w B mb n L) (x : Int) (hx : Fit x) (hn : n < maxLen) {T : TypeId} (ht : Tryd.prog.underlying T = some (.map 3 47)) :
    ∃ v, (∀ w', w'.heap[mb]? = w.heap[mb]? → (Instr.lookup T (.map (some mb)) (.int .i64 x) false).run Tryd.prog w' = .ok v w') ∧ w.ownsRow B 3 1 v (L x).length (Gr.insV (L x)) ∧
      ∀ (gg cap : Nat) (w1 w6 : World) (t : Int), w.heap.size ≤ w1.heap.size → (∀ q, q < w.heap.size → w1.heap[q]? = w.heap[q]?) → w6.ownsRow B 3 1 (.slice (some ⟨gg, 0, none⟩) ((L x).length + 1) cap) ((L x).length + 1) (Gr.insV (L x) ++ [.int .i64 t]) → w1.grownBy w6 v.ownBlock → (v.ownBlock = some gg ∨ w.heap.size ≤ gg) →
        ∃ w7, (Instr.mapUpdate T (.map (some mb)) (.int .i64 x) (.slice (some ⟨gg, 0, none⟩) ((L x).length + 1) cap)).run Tryd.prog w6 = .ok () w7 ∧ Mw w7 B mb (n + 1) (fun y => if y = x then L x ++ [t] else L y) ∧ w6.grownBy w7 (some mb) := by
  obtain ⟨V, P, s, h1, h2, h3, h4⟩ := h.ex
  obtain ⟨es, c, hk⟩ := h1.kind
  refine ⟨V x, fun w' hw' => ?_, h3 x, fun gg cap w1 w6 t hs hq ho hg hat => ?_⟩
  · have := (h1.block hw').get ht (zInts w') x hx
    rw [this]
    cases hp : P x with
    | true => rfl
    | false => rw [h2 x hp]; rfl
  · have hlt := h.lt
    have e6 : w6.heap[mb]? = w.heap[mb]? := (hg.block mb (by omega) (fun e => row_not_map (h3 x) hk e.symm)).trans (hq mb hlt)
    obtain ⟨w7, hrun, h7, hg7⟩ := (h1.block e6).store ht hn x hx (.slice (some ⟨gg, 0, none⟩) ((L x).length + 1) cap)
    obtain ⟨s7, h7⟩ : ∃ s7, Mq w7 mb (n + 1) (fun y => if y = x then some (Value.slice (some ⟨gg, 0, none⟩) ((L x).length + 1) cap) else if P y then some (V y) else none) s7 := ⟨_, h7⟩
    have hk6 := e6.trans hk
    have hV : ∀ y, y ≠ x → ∀ g, (V y).ownBlock = some g → w7.heap[g]? = w.heap[g]? ∧ g < w.heap.size := fun y hy g hgy => by
      obtain ⟨cs, fz, h5⟩ := Lib.ownsRow_kind (h3 y) g hgy
      have hgl := blk_lt h5
      have g1 : w6.heap[g]? = w.heap[g]? := (hg.block g (by omega) (fun e => h4 x y g (Ne.symm hy) e.symm hgy)).trans (hq g hgl)
      refine ⟨(hg7.block g (Nat.lt_of_lt_of_le (by omega : g < w1.heap.size) hg.size) (fun e => ?_)).trans g1, hgl⟩
      have : g = mb := by cases e; rfl
      subst this
      rw [hk] at h5
      cases h5
    refine ⟨w7, hrun, ⟨⟨fun y => if y = x then .slice (some ⟨gg, 0, none⟩) ((L x).length + 1) cap else V y, fun y => if y = x then true else P y, s7, ?_, fun y hy => ?_, fun y => ?_, fun y y' g hne hg1 hg2 => ?_⟩, h.lo⟩, hg7⟩
    · have e : (fun y => if y = x then some (Value.slice (some ⟨gg, 0, none⟩) ((L x).length + 1) cap) else if P y then some (V y) else none) = fun y => if (if y = x then true else P y) then some (if y = x then Value.slice (some ⟨gg, 0, none⟩) ((L x).length + 1) cap else V y) else none := by
        funext y
        by_cases hy : y = x
        · simp [hy]
        · simp [hy]
      rw [← e]
      exact h7
    · dsimp only at hy ⊢
      by_cases hyx : y = x
      · rw [if_pos hyx] at hy; cases hy
      · rw [if_neg hyx] at hy ⊢; exact h2 y hy
    · dsimp only
      by_cases hyx : y = x
      · rw [if_pos hyx, if_pos hyx, List.length_append, Gr.insV_app]
        refine own_same ho fun g hgg => hg7.block g ?_ (fun e => ?_)
        · obtain ⟨cs, fz, h5⟩ := Lib.ownsRow_kind ho g hgg; exact blk_lt h5
        · have : g = mb := by cases e; rfl
          subst this
          exact row_not_map ho hk6 hgg
      · rw [if_neg hyx, if_neg hyx]
        exact own_same (h3 y) fun g hgg => (hV y hyx g hgg).1
    · dsimp only at hg1 hg2
      by_cases hyx : y = x
      · rw [if_pos hyx] at hg1
        rw [if_neg (fun e => hne (hyx.trans e.symm))] at hg2
        have hgg : gg = g := by simpa [Value.ownBlock] using hg1
        subst hgg
        rcases hat with hat | hat
        · exact h4 x y' gg (fun e => hne (hyx.trans e)) hat hg2
        · have := (hV y' (fun e => hne (hyx.trans e.symm)) gg hg2).2; omega
      · rw [if_neg hyx] at hg1
        by_cases hyx' : y' = x
        · rw [if_pos hyx'] at hg2
          have hgg : gg = g := by simpa [Value.ownBlock] using hg2
          subst hgg
          rcases hat with hat | hat
          · exact h4 x y gg (fun e => hyx e.symm) hat hg1
          · have := (hV y hyx gg hg1).2; omega
        · rw [if_neg hyx'] at hg2
          exact h4 y y' g hne hg1 hg2
end Wn
end Go.Proofs.YtkmldaelgbkfbaaDoor
