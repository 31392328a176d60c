/- Classes of words, and that words are valid; plain. No condition. -/
import Derived.Test.YtenaohnginikhaaDoorNwa
namespace Go.Proofs.YtenaohnginikhaaDoor
open Go.RowKit Go.Deep Tr
namespace Nm
theorem cls_ff (s : List UInt8) : cls false false s = s := by unfold cls; simp
def clx (a b : Bool) (x : Lx) : Lx := ⟨cls a b x.tx, x.ln⟩
theorem wl_cls (a b : Bool) : ∀ (L : List (List UInt8)) (i k : Nat), wl a b i k L = (wl false false i k L).map (clx a b) := by
  intro L
  induction L with
  | nil => intro i k; rw [wl_nil, wl_nil]; rfl
  | cons l t ih =>
    intro i k
    cases k with
    | succ k => rw [wl_in, wl_in, ih]
    | zero =>
      cases h : nte (div l) with
      | some n => rw [wl_note a b i t h, wl_note false false i t h, ih]
      | none =>
        rw [wl_line a b i t h, wl_line false false i t h, List.map_append, List.map_map, ih]
        congr 1
        exact List.map_congr_left fun x _ => by
          show (⟨cls a b x, (i : Int)⟩ : Lx) = ⟨cls a b (cls false false x), (i : Int)⟩
          rw [cls_ff]
theorem wrd_cls (a b : Bool) (d : List UInt8) : wrd a b d = (wrd false false d).map (clx a b) := wl_cls a b _ 0 0
theorem wrE_cls (p : List UInt8) (a b : Bool) (d : List UInt8) : wrE p a b d = wrE p false false d := by
  unfold wrE; rw [wrd_cls a b, List.length_map]
theorem wrT_cls (p : List UInt8) (a b : Bool) (d : List UInt8) : (wrT p a b d).ws = (wrT p false false d).ws.map (clx a b) ∧ (wrT p a b d).pth = (wrT p false false d).pth := by
  unfold wrT
  rw [wrE_cls, wrd_cls a b]
  split <;> exact ⟨rfl, rfl⟩
theorem cls_isW (a b : Bool) {x : List UInt8} (h : isW x = true) : isW (cls a b x) = true := by
  unfold cls
  split
  · rfl
  · split
    · rfl
    · exact h
theorem okw_mono {m m' : Int} (h : m' ≤ m) {l : List Lx} (hl : okw m l = true) : okw m' l = true := by
  cases l with
  | nil => rfl
  | cons x r =>
    rw [okw_next] at hl ⊢
    simp only [Bool.and_eq_true, decide_eq_true_eq] at hl ⊢
    exact ⟨⟨⟨hl.1.1.1, by omega⟩, hl.1.2⟩, hl.2⟩
theorem okw_line (a b : Bool) (i : Int) (hi : i < 1024) (R : List Lx) (hR : okw i R = true) : ∀ (ws : List (List UInt8)), (∀ x ∈ ws, isW x = true) → ∀ m, m ≤ i → okw m (ws.map (fun x => ⟨cls a b x, i⟩) ++ R) = true := by
  intro ws
  induction ws with
  | nil => intro _ m hm; exact okw_mono hm hR
  | cons x t ih =>
    intro hw m hm
    rw [List.map_cons, List.cons_append, okw_next]
    simp only [Bool.and_eq_true, decide_eq_true_eq]
    exact ⟨⟨⟨cls_isW a b (hw x (by simp)), hm⟩, hi⟩, ih (fun y hy => hw y (by simp [hy])) i (by omega)⟩
theorem okw_wl (a b : Bool) : ∀ (L : List (List UInt8)) (i k : Nat), i + L.length ≤ 1024 → okw (i : Int) (wl a b i k L) = true := by
  intro L
  induction L with
  | nil => intro i k _; rw [wl_nil]; rfl
  | cons l t ih =>
    intro i k h
    rw [List.length_cons] at h
    have h1 : ∀ k, okw (i : Int) (wl a b (i + 1) k t) = true := fun k => okw_mono (by omega) (ih (i + 1) k (by omega))
    cases k with
    | succ k => rw [wl_in]; exact h1 k
    | zero =>
      cases hn : nte (div l) with
      | some n => rw [wl_note a b i t hn]; exact h1 n
      | none =>
        rw [wl_line a b i t hn]
        exact okw_line a b (i : Int) (by omega) _ (h1 0) _ (fun x hx => (div_ok l x hx).1) _ (by omega)
theorem wrE_zero {p : List UInt8} {a b : Bool} {d : List UInt8} (h : wrE p a b d = 0) : Tre.path p = 0 ∧ (Tre.split 10 d).length ≤ 1024 ∧ (wrd a b d).length ≤ 8192 := by
  unfold wrE at h
  split at h
  · rename_i h1
    split at h
    · rename_i h2
      split at h
      · omega
      · refine ⟨h1, ?_, by omega⟩
        unfold Tre.lines at h2
        split at h2
        · cases h2
        · omega
    · rename_i h2; exact absurd h h2
  · omega
theorem vld_wrT {p : List UInt8} {a b : Bool} {d : List UInt8} (h : wrE p a b d = 0) : vld (wrT p a b d) = true := by
  obtain ⟨h1, h2, h3⟩ := wrE_zero h
  have e : wrT p a b d = ⟨p, wrd a b d⟩ := if_pos h
  rw [e]
  unfold vld
  simp only [Bool.and_eq_true, decide_eq_true_eq]
  exact ⟨⟨h1, h3⟩, okw_wl a b _ 0 0 (by omega)⟩
theorem wl_isW : ∀ (L : List (List UInt8)) (i k : Nat), ∀ x ∈ wl false false i k L, isW x.tx = true := by
  intro L
  induction L with
  | nil => intro i k x hx; rw [wl_nil] at hx; cases hx
  | cons l t ih =>
    intro i k x hx
    cases k with
    | succ k => rw [wl_in] at hx; exact ih _ _ x hx
    | zero =>
      cases hn : nte (div l) with
      | some n => rw [wl_note _ _ i t hn] at hx; exact ih _ _ x hx
      | none =>
        rw [wl_line _ _ i t hn] at hx
        rcases List.mem_append.1 hx with hx | hx
        · obtain ⟨y, hy, rfl⟩ := List.mem_map.1 hx
          show isW (cls false false y) = true
          rw [cls_ff]
          exact (div_ok l y hy).1
        · exact ih _ _ x hx
theorem wrT_isW (p : List UInt8) (d : List UInt8) : ∀ x ∈ (wrT p false false d).ws, isW x.tx = true := by
  intro x hx
  unfold wrT at hx
  split at hx
  · exact wl_isW _ 0 0 x hx
  · cases hx
end Nm
end Go.Proofs.YtenaohnginikhaaDoor
