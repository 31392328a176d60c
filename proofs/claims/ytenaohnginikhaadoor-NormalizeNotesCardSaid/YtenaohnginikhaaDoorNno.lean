/- A note in front of a text moves its words; plain. No condition. -/
import Derived.Test.YtenaohnginikhaaDoorNcp
import Derived.Test.YtenaohnginikhaaDoorNrn
namespace Go.Proofs.YtenaohnginikhaaDoor
open Go.RowKit Go.Deep Tr
namespace Nm
def mv (s : Nat) (x : Lx) : Lx := ⟨x.tx, x.ln + (s : Int)⟩
theorem wl_shift (a b : Bool) (s : Nat) : ∀ (L : List (List UInt8)) (i k : Nat), wl a b (i + s) k L = (wl a b i k L).map (mv s) := by
  intro L
  induction L with
  | nil => intro i k; rw [wl_nil, wl_nil]; rfl
  | cons l t ih =>
    intro i k
    have e : i + s + 1 = (i + 1) + s := by omega
    cases k with
    | succ k => rw [wl_in, wl_in, e, ih]
    | zero =>
      cases h : nte (div l) with
      | some n => rw [wl_note a b _ t h, wl_note a b i t h, e, ih]
      | none =>
        rw [wl_line a b _ t h, wl_line a b i t h, e, ih, List.map_append, List.map_map]
        congr 1
/-- The digits of the number of a note. -/
def numL (k : Nat) : List UInt8 := if 10 ≤ k then [UInt8.ofNat (48 + k / 10), UInt8.ofNat (48 + k % 10)] else [UInt8.ofNat (48 + k % 10)]
def headL (k : Nat) : List UInt8 := [32, 110, 111, 116, 101, 32, 32] ++ numL k
theorem head_ok : ∀ k, k < 21 → nte (div (headL k)) = some k ∧ (∀ z ∈ headL k, z ≠ 10) ∧ (headL k).length ≤ 9 := by decide +kernel
/-- The lines inside. -/
def insL : Nat → List UInt8 → List UInt8
  | 0, _ => []
  | k + 1, s => s ++ 10 :: insL k s
def noteT (k : Nat) (s d : List UInt8) : List UInt8 := headL k ++ 10 :: (insL k s ++ d)
theorem split_ins {s : List UInt8} (hs : ∀ z ∈ s, z ≠ 10) (d : List UInt8) : ∀ k, Tre.split 10 (insL k s ++ d) = List.replicate k s ++ Tre.split 10 d := by
  intro k
  induction k with
  | zero => rfl
  | succ k ih =>
    show Tre.split 10 (s ++ 10 :: insL k s ++ d) = _
    rw [List.append_assoc, List.cons_append, Tre.split_cut 10 _ _ hs, ih, List.replicate_succ, List.cons_append]
theorem split_note {k : Nat} (hk : k < 21) {s : List UInt8} (hs : ∀ z ∈ s, z ≠ 10) (d : List UInt8) : Tre.split 10 (noteT k s d) = headL k :: (List.replicate k s ++ Tre.split 10 d) := by
  unfold noteT
  rw [Tre.split_cut 10 _ _ (head_ok k hk).2.1, split_ins hs]
theorem wrd_note (a b : Bool) {k : Nat} (hk : k < 21) {s : List UInt8} (hs : ∀ z ∈ s, z ≠ 10) (d : List UInt8) : wrd a b (noteT k s d) = (wrd a b d).map (mv (k + 1)) := by
  unfold wrd
  rw [split_note hk hs, wl_note a b 0 _ (head_ok k hk).1, wl_skip, List.drop_left' (List.length_replicate ..), show 0 + 1 + k = 0 + (k + 1) by omega, wl_shift]
theorem ins_len (s : List UInt8) : ∀ k, (insL k s).length = k * (s.length + 1) := by
  intro k
  induction k with
  | zero => simp [insL]
  | succ k ih => show (s ++ 10 :: insL k s).length = _; rw [List.length_append, List.length_cons, ih, Nat.add_one_mul]; omega
theorem note_len {k : Nat} (hk : k < 21) {s : List UInt8} (hs : s.length ≤ 100) (d : List UInt8) : (noteT k s d).length ≤ d.length + 2140 := by
  have h1 := (head_ok k hk).2.2
  have h2 := ins_len s k
  have h3 : k * (s.length + 1) ≤ 20 * 101 := Nat.mul_le_mul (by omega) (by omega)
  unfold noteT
  rw [List.length_append, List.length_cons, List.length_append]
  omega
theorem split_count' (d : List UInt8) : (Tre.split 10 d).length = Lib.count d [10] + 1 := by
  have h : ∀ n (d : List UInt8), d.length ≤ n → (Tre.split 10 d).length = Lib.count d [10] + 1 := by
    intro n
    induction n with
    | zero =>
      intro d h
      have : d = [] := List.length_eq_zero_iff.1 (by omega)
      subst this; rfl
    | succ n ih =>
      intro d h
      rcases byte_cut 10 d with ⟨h1, h2⟩ | ⟨k, h1, h2, h3, h4⟩
      · rw [Tre.split_end 10 d h2, Lib.count_miss (by rw [Lib.index_one, h1])]; rfl
      · have hi : Lib.index d [10] = (k : Int) := by rw [Lib.index_one, h1]
        rw [Lib.count_hit (by simp) hi]
        have e1 : Tre.split 10 d = d.take k :: Tre.split 10 (d.drop (k + 1)) := by
          conv => lhs; rw [h3]
          exact Tre.split_cut 10 _ _ h4
        rw [e1, List.length_cons, ih _ (by rw [List.length_drop]; omega)]
        show _ = 1 + Lib.count (d.drop (k + 1)) [10] + 1
        omega
  exact h _ d (Nat.le_refl _)
theorem wrE_ok {d : List UInt8} {a b : Bool} (h1 : d.length ≤ 65536) (h2 : (Tre.split 10 d).length ≤ 1024) (h3 : (wrd a b d).length ≤ 8192) : wrE [97] a b d = 0 := by
  have e : Tre.lines d = (Tre.split 10 d, 0) := if_neg (by omega)
  unfold wrE
  rw [e, show Tre.path [97] = 0 by decide, if_pos rfl, if_pos rfl, if_neg (by omega)]
theorem wr_note {k : Nat} (hk : k < 21) {s d : List UInt8} (hs : ∀ z ∈ s, z ≠ 10) (hsl : s.length ≤ 100) (hd : d.length ≤ 2000) (hc : Lib.count d [10] ≤ 500) :
    wrE [97] false false d = 0 ∧ wrE [97] false false (noteT k s d) = 0 ∧ wrT [97] false false d = ⟨[97], wrd false false d⟩ ∧ wrT [97] false false (noteT k s d) = ⟨[97], (wrd false false d).map (mv (k + 1))⟩ := by
  have h1 := wrd_len false false d
  have h2 := split_count' d
  have e1 : wrE [97] false false d = 0 := wrE_ok (by omega) (by omega) (by omega)
  have e2 : wrE [97] false false (noteT k s d) = 0 := by
    have := note_len hk hsl d
    refine wrE_ok (by omega) ?_ ?_
    · rw [split_note hk hs, List.length_cons, List.length_append, List.length_replicate]; omega
    · rw [wrd_note false false hk hs, List.length_map]; omega
  exact ⟨e1, e2, if_pos e1, by rw [← wrd_note false false hk hs]; exact if_pos e2⟩
end Nm
end Go.Proofs.YtenaohnginikhaaDoor
