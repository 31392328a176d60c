/- Absorbing the padded bytes block by block is what the digest's last step does. No condition. -/
import Derived.Test.YtkcpncgngblooaaDoorSpo
namespace Go.Proofs.YtkcpncgngblooaaDoor
namespace Spo
open Kec

/-- How many zeros stand between the 6 and the last byte's end. -/
def zs (n : Nat) : Nat := 135 - n % 136
/-- The padded bytes without the last bit. -/
def pad0 (l : List UInt8) : List UInt8 := l ++ 6 :: List.replicate (zs l.length) 0
/-- The last byte's highest bit. -/
def setTop (l : List UInt8) : List UInt8 := l.set (l.length - 1) (l.getD (l.length - 1) 0 ||| 128)
/-- The padded bytes. -/
def pad (l : List UInt8) : List UInt8 := setTop (pad0 l)
theorem pad0_len (l : List UInt8) : (pad0 l).length = l.length + 1 + zs l.length := by unfold pad0; simp; omega
theorem pad_len (l : List UInt8) : (pad l).length = l.length + 1 + zs l.length := by unfold pad setTop; rw [List.length_set, pad0_len]
theorem pad_mod (l : List UInt8) : (pad l).length % 136 = 0 := by rw [pad_len]; unfold zs; omega

theorem put_zero (S : St) (k : Nat) : put S k 0 = S := by
  unfold put
  have : b64 0 <<< (8 * (k % 8)) = 0#64 := by
    have : b64 0 = 0#64 := by decide
    rw [this]; simp
  rw [this]
  funext t
  unfold upd
  split
  · next h => rw [h]; simp
  · rfl
theorem ab_zeros (n : Nat) : ∀ (S : St) (k : Nat), k + n < 136 → ab (S, k) (List.replicate n 0) = (S, k + n) := by
  induction n with
  | zero => intro S k _; rfl
  | succ n ih =>
    intro S k h
    rw [List.replicate_succ, ab_cons]
    have : ab1 (S, k) 0 = (S, k + 1) := by
      unfold ab1
      simp only [put_zero]
      rw [if_neg (by omega)]
    rw [this, ih S (k + 1) (by omega)]
    congr 1; omega
theorem put_last (S : St) : put S 135 128 = upd S 16 (S 16 ^^^ top) := by
  unfold put
  have : b64 128 <<< (8 * (135 % 8)) = top := by decide +kernel
  rw [this]
theorem put_both (S : St) : put S 135 (6 ||| 128) = upd (put S 135 6) 16 (put S 135 6 16 ^^^ top) := by
  have h : b64 (6 ||| 128) <<< (8 * (135 % 8)) = b64 6 <<< (8 * (135 % 8)) ^^^ top := by decide +kernel
  unfold put
  rw [h, show 135 / 8 = 16 from rfl, upd_at, upd_upd, BitVec.xor_assoc]
theorem set_last (l : List UInt8) (n : Nat) (c : UInt8) : setTop (l ++ List.replicate n 0 ++ [c]) = l ++ List.replicate n 0 ++ [c ||| 128] := by
  unfold setTop
  simp
theorem ab_pad (l : List UInt8) : (ab (zero, 0) (pad l)).1 = fin (ab (zero, 0) l) ∧ (ab (zero, 0) (pad l)).2 = 0 := by
  have hk : (ab (zero, 0) l).2 < 136 := ab_lt l _ (by show 0 < 136; decide)
  have he : (ab (zero, 0) l).2 = l.length % 136 := by rw [ab_at l _ (by show 0 < 136; decide)]; simp
  by_cases h : l.length % 136 = 135
  · have hz : zs l.length = 0 := by unfold zs; omega
    have hp : pad l = l ++ [6 ||| 128] := by
      unfold pad pad0
      rw [hz]
      have := set_last l 0 6
      simpa using this
    rw [hp, ab_append]
    generalize ab (zero, 0) l = p at *
    obtain ⟨S, k⟩ := p
    obtain rfl : k = 135 := by simpa [h] using he
    unfold ab
    simp only [List.foldl_cons, List.foldl_nil]
    unfold ab1
    rw [if_pos rfl]
    refine ⟨?_, rfl⟩
    unfold fin
    simp only [put_both]
  · obtain ⟨n, hn⟩ : ∃ n, zs l.length = n + 1 := ⟨zs l.length - 1, by unfold zs; omega⟩
    have hp : pad l = l ++ (6 :: (List.replicate n 0 ++ [128])) := by
      unfold pad pad0
      rw [hn, List.replicate_succ']
      have := set_last (l ++ [6]) n 0
      simpa using this
    rw [hp, ab_append]
    generalize ab (zero, 0) l = p at *
    obtain ⟨S, k⟩ := p
    have hkl : k = l.length % 136 := he
    have hkn : k + 1 + n = 135 := by unfold zs at hn; omega
    rw [ab_cons]
    have h1 : ab1 (S, k) 6 = (put S k 6, k + 1) := by
      unfold ab1
      rw [if_neg (by show ¬ k + 1 = 136; omega)]
    rw [h1, ab_append, ab_zeros n _ _ (by omega), hkn]
    unfold ab
    simp only [List.foldl_cons, List.foldl_nil]
    unfold ab1
    rw [if_pos rfl]
    refine ⟨?_, rfl⟩
    unfold fin
    simp only [put_last]
/-- The digest by its padded bytes. -/
theorem dig_pad (l : List UInt8) : dig l = sq (ab (zero, 0) (pad l)).1 := by unfold dig; rw [(ab_pad l).1]

/-- The first i bytes f of a block combined with a state. -/
def pb (S : St) (f : Nat → UInt8) : Nat → St
  | 0 => S
  | i + 1 => put (pb S f i) i (f i)
theorem ab_range (S : St) (f : Nat → UInt8) : ∀ i, i < 136 → ab (S, 0) ((List.range i).map f) = (pb S f i, i)
  | 0, _ => rfl
  | i + 1, h => by
    rw [List.range_succ, List.map_append, ab_append, ab_range S f i (by omega)]
    unfold ab
    simp only [List.map_cons, List.map_nil, List.foldl_cons, List.foldl_nil]
    unfold ab1
    rw [if_neg (by show ¬ i + 1 = 136; omega)]
    rfl
theorem ab_block (S : St) (f : Nat → UInt8) : ab (S, 0) ((List.range 136).map f) = (perm (pb S f 136), 0) := by
  rw [show (136 : Nat) = 135 + 1 from rfl, List.range_succ, List.map_append, ab_append, ab_range S f 135 (by omega)]
  unfold ab
  simp only [List.map_cons, List.map_nil, List.foldl_cons, List.foldl_nil]
  unfold ab1
  rw [if_pos rfl]
  rfl
theorem take_block (p : List UInt8) (at_ : Nat) (h : at_ + 136 ≤ p.length) : p.take (at_ + 136) = p.take at_ ++ (List.range 136).map (fun i => p.getD (at_ + i) 0) := by
  apply List.ext_getElem
  · simp; omega
  · intro i h1 h2
    simp only [List.length_take] at h1
    by_cases hi : i < at_
    · rw [List.getElem_append_left (by simp; omega)]
      simp
    · rw [List.getElem_append_right (by simp; omega)]
      simp only [List.getElem_take, List.getElem_map, List.getElem_range, List.length_take, Nat.min_eq_left (show at_ ≤ p.length by omega)]
      rw [show at_ + (i - at_) = i by omega, List.getD_eq_getElem?_getD, List.getElem?_eq_getElem (by omega)]
      rfl
/-- One block more. -/
theorem ab_next (p : List UInt8) (m : Nat) (h : 136 * m + 136 ≤ p.length) :
    (ab (zero, 0) (p.take (136 * m + 136))).1 = perm (pb (ab (zero, 0) (p.take (136 * m))).1 (fun i => p.getD (136 * m + i) 0) 136) := by
  rw [take_block p _ h, ab_append]
  have h2 : (ab (zero, 0) (p.take (136 * m))).2 = 0 := by
    rw [ab_at _ _ (by show 0 < 136; decide)]
    simp only [List.length_take]
    show (0 + min (136 * m) p.length) % 136 = 0
    omega
  generalize ab (zero, 0) (p.take (136 * m)) = q at *
  obtain ⟨S, k⟩ := q
  obtain rfl : k = 0 := h2
  rw [ab_block]
end Spo
end Go.Proofs.YtkcpncgngblooaaDoor
