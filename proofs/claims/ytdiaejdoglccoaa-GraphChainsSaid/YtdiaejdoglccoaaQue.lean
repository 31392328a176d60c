/- A queue of numbers of the call's own: a slice that loses its first element and is appended to. No condition. -/
import Derived.Test.YtdiaejdoglccoaaWay
import Derived.ArgAppend
namespace Go.Proofs.Ytdiaejdoglccoaa
open Go.RowKit Go.Deep Tr

/-- A queue where it lies, in a block of the call's own. -/
structure QAt (w : World) (B : Nat) (v : Value) (q : List Int) : Prop where
  ex : ∃ ao cap, v = .slice ao q.length cap ∧ (ao = none → q = [] ∧ cap = 0) ∧ cap ≤ maxLen ∧ q.length ≤ cap ∧ ∀ b, ao = some b → ∃ g o cur, b = ⟨g, o, none⟩ ∧ B ≤ g ∧ w.heap[g]? = some (.cells cur 3 (0, 0)) ∧ o + cap ≤ cur.size ∧ ∀ j (h : j < q.length), cur[o + j]? = some (.int .i64 q[j])
theorem QAt.nil (w : World) (B : Nat) : QAt w B (.slice none 0 0) [] := ⟨none, 0, rfl, fun _ => ⟨rfl, rfl⟩, Nat.zero_le _, Nat.le_refl _, fun b h => by cases h⟩
theorem QAt.lt {w : World} {B : Nat} {v : Value} {q : List Int} (h : QAt w B v q) : ∀ g, v.ownBlock = some g → g < w.heap.size ∧ B ≤ g ∧ ∃ cur, w.heap[g]? = some (.cells cur 3 (0, 0)) := fun g hg => by
  obtain ⟨ao, cap, rfl, _, _, _, h4⟩ := h.ex
  cases ao with
  | none => simp [Value.ownBlock] at hg
  | some b =>
    obtain ⟨g', o, cur, rfl, h5, h6, _⟩ := h4 b rfl
    simp only [Value.ownBlock, Option.some.injEq] at hg
    subst hg
    exact ⟨blk_lt h6, h5, cur, h6⟩
theorem QAt.same {w w' : World} {B : Nat} {v : Value} {q : List Int} (h : QAt w B v q) (hb : ∀ g, v.ownBlock = some g → w'.heap[g]? = w.heap[g]?) : QAt w' B v q := by
  obtain ⟨ao, cap, rfl, h1, h2, h3, h4⟩ := h.ex
  refine ⟨ao, cap, rfl, h1, h2, h3, fun b hb2 => ?_⟩
  subst hb2
  obtain ⟨g, o, cur, rfl, h5, h6, h7⟩ := h4 b rfl
  exact ⟨g, o, cur, rfl, h5, (hb g rfl).trans h6, h7⟩
theorem QAt.of_own {w : World} {B B' : Nat} {v : Value} {q : List Int} (h : w.ownsRow B' 3 1 v q.length (Gr.insV q)) (hB : B ≤ B') : QAt w B v q := by
  rcases h.2 with ⟨rfl, h0⟩ | ⟨g, cap, cur, rfl, h2, h3, h4, h5, h6, h7⟩
  · have : q = [] := List.length_eq_zero_iff.1 h0
    subst this
    exact QAt.nil _ _
  · refine ⟨_, cap, rfl, fun h => (by cases h), h5, h4, fun b hb => ?_⟩
    injection hb with hb
    refine ⟨g, 0, cur, hb.symm, by omega, h3, by rw [h6]; omega, fun j hj => ?_⟩
    have h8 : (cur.toList.take (q.length * 1))[j]? = (Gr.insV q)[j]? := by rw [h7]
    rw [List.getElem?_take_of_lt (by omega), Gr.insV_map, List.getElem?_map, List.getElem?_eq_getElem hj] at h8
    rw [Nat.zero_add, ← Array.getElem?_toList]
    exact h8
/-- The first element lies where the queue begins. -/
theorem QAt.head {w : World} {B : Nat} {v : Value} {x : Int} {q : List Int} (h : QAt w B v (x :: q)) : ∃ g o cap, v = .slice (some ⟨g, o, none⟩) (q.length + 1) cap ∧ q.length + 1 ≤ cap ∧ cap ≤ maxLen ∧ w.cell? ⟨g, o, none⟩ = some (.int .i64 x) ∧
    (q.length + 1 < cap → QAt w B (.slice (some ⟨g, o + 1, none⟩) q.length (cap - 1)) q) ∧ (cap = 1 → q = [] ∧ QAt w B (.slice (some ⟨g, o, none⟩) 0 0) []) ∧ (q.length + 1 = cap → 1 < cap → QAt w B (.slice (some ⟨g, o + 1, none⟩) q.length (cap - 1)) q) := by
  obtain ⟨ao, cap, rfl, h1, h2, h3, h4⟩ := h.ex
  cases ao with
  | none => exact absurd (h1 rfl).1 (by simp)
  | some b =>
    obtain ⟨g, o, cur, rfl, h5, h6, h7, h8⟩ := h4 b rfl
    simp only [List.length_cons] at h3 h8
    have key : 1 < cap → QAt w B (.slice (some ⟨g, o + 1, none⟩) q.length (cap - 1)) q := fun hc =>
      ⟨_, cap - 1, rfl, fun h => by (cases h), by omega, by omega, fun b hb => by
        injection hb with hb
        refine ⟨g, o + 1, cur, hb.symm, h5, h6, by omega, fun j hj => ?_⟩
        have := h8 (j + 1) (by omega)
        rw [show o + 1 + j = o + (j + 1) by omega, this]
        rfl⟩
    refine ⟨g, o, cap, rfl, h3, h2, ?_, fun hc => key (by omega), fun hc => ?_, fun _ hc => key hc⟩
    · have := h8 0 (by omega)
      rw [cell_of_row _ _ _ _ _ _ h6]
      exact this
    · have hq : q = [] := List.length_eq_zero_iff.1 (by omega)
      exact ⟨hq, _, 0, rfl, fun h => by (cases h), Nat.zero_le _, Nat.le_refl _, fun b hb => by
        injection hb with hb
        exact ⟨g, o, cur, hb.symm, h5, h6, by omega, fun j hj => by simp at hj⟩⟩
section
variable {P : Program} {w : World}
/-- Appending to a queue. -/
theorem wpList_append_q {ops : Array Oper} {rest : List Oper} {o : Oper} {a : Act} {Q : Exit → Act → World → Prop} (hgd : o.guard = none) (s x : Operand) (t : TypeId)
    (ho : o.op = .call { callee := .builtin .append, args := #[s, x], argTypes := #[t, t] })
    (B : Nat) (i : TypeInfo) (ht : P.underlying t = some (.slice 3)) (hi : P.info? 3 = some i) (hz : i.zero = some (.int .i64 0)) (hsize : i.size = 1) (hby : i.bytes = 8)
    (v : Value) (q : List Int) (hs : a.eval s = v) (hq : QAt w B v q) (ad : Addr) (y : Int) (hx : a.eval x = .slice (some ad) 1 1) (hy : w.cell? ad = some (.int .i64 y)) (hl : q.length ≤ 100000) (hB : B ≤ w.heap.size)
    (h : ∀ v' w', QAt w' B v' (q ++ [y]) → w.grownBy w' v.ownBlock → (∀ g, v'.ownBlock = some g → v.ownBlock = some g ∨ w.heap.size ≤ g) → wpList P ops Q rest (a.put o.dst v') w') : wpList P ops Q (o :: rest) a w := by
  obtain ⟨ao, cap, rfl, h1, h2, h3, h4⟩ := hq.ex
  have hnews : ∀ j u, [Value.int .i64 y][j]? = some u → w.cell? (ad.add j) = some u := fun j u hj => by
    cases j with
    | zero =>
      simp only [List.getElem?_cons_zero, Option.some.injEq] at hj
      subst hj
      rwa [show ad.add 0 = ad by cases ad; simp [Addr.add]]
    | succ j => simp at hj
  have hones : ∀ u ∈ [Value.int .i64 y], u.oneCell' = true := by simp [Value.oneCell']
  have happ : Gr.insV q ++ [.int .i64 y] = Gr.insV (q ++ [y]) := by rw [Gr.insV_app]; rfl
  have grown : ∀ v' w', w'.ownsRow w.heap.size 3 1 v' (q.length + 1) (Gr.insV q ++ [.int .i64 y]) → w.grownBy w' none → wpList P ops Q rest (a.put o.dst v') w' := fun v' w' h5 h6 => by
    rw [happ] at h5
    refine h v' w' (QAt.of_own (by rw [List.length_append]; exact h5) hB) ⟨h6.os, h6.tape, h6.output, h6.size, fun k hk _ => h6.block k hk (by simp)⟩ fun g hg => .inr (h5.lt g hg).1
  cases ao with
  | none =>
    obtain ⟨rfl, rfl⟩ := h1 rfl
    exact wpList_append_grows w hgd s x t ho 3 i (.int .i64 0) 1 8 ht hi hz hsize hby rfl (by omega) none 0 0 [] hs (fun _ => ⟨rfl, rfl⟩) rfl (fun b hb => by cases hb) ad 1 1 _ hx rfl hnews hones (by omega) (by unfold maxLen; omega) (by omega) grown
  | some b =>
    obtain ⟨g, off, cur, rfl, h5, h6, h7, h8⟩ := h4 b rfl
    have hc : ∀ j u, (Gr.insV q)[j]? = some u → w.cell? ⟨g, off + j, none⟩ = some u := fun j u hu => by
      have hj : j < q.length := by have := (List.getElem?_eq_some_iff.1 hu).1; rwa [Gr.insV_len] at this
      rw [Gr.insV_map, List.getElem?_map, List.getElem?_eq_getElem hj] at hu
      simp only [Option.map_some, Option.some.injEq] at hu
      subst hu
      rw [cell_of_row _ _ _ _ _ _ h6]
      exact h8 j hj
    refine wpList_append_arg w hgd s x t ho 3 i (.int .i64 0) 1 8 ht hi hz hsize hby rfl (by omega) g off q.length cap (Gr.insV q) hs (by rw [Gr.insV_len]; omega) hc ad 1 1 _ hx rfl hnews hones (fun hr j hj => ?_) (by unfold maxLen; omega) (by omega) (fun hr => ?_) (fun _ => grown)
    · simp only [List.length_singleton] at hj
      obtain rfl : j = 0 := by omega
      refine ⟨?_, frozen_of_row w g _ _ _ h6⟩
      rw [cell_of_row _ _ _ _ _ _ h6, Array.getElem?_eq_getElem (by omega)]
      rfl
    · have hset : w.setCells g (off + q.length * 1) [.int .i64 y] = w.setCell ⟨g, off + q.length, none⟩ (.int .i64 y) := by rw [Nat.mul_one]; rfl
      rw [hset]
      have hheap := heap_setCell_same w g (off + q.length) cur _ (.int .i64 y) h6
      refine h _ _ ⟨_, cap, by rw [List.length_append]; rfl, fun h => by (cases h), h2, by rw [List.length_append]; exact hr, fun b hb => ?_⟩ ⟨rfl, rfl, rfl, by simp, fun k hk hne => heap_setCell_other w ⟨g, off + q.length, none⟩ k _ (fun e => hne (by rw [e]; rfl))⟩ (fun g' hg' => .inl hg')
      injection hb with hb
      refine ⟨g, off, _, hb.symm, h5, hheap, by simpa using h7, fun j hj => ?_⟩
      rw [List.length_append, List.length_singleton] at hj
      by_cases hjq : j < q.length
      · rw [Array.getElem?_setIfInBounds_ne (by omega), List.getElem_append_left hjq]
        exact h8 j hjq
      · obtain rfl : j = q.length := by omega
        rw [Array.getElem?_setIfInBounds_self_of_lt (by omega)]
        simp
end
end Go.Proofs.Ytdiaejdoglccoaa
