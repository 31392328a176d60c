/- What a text's fingerprints are: plain. No condition. -/
import Derived.Test.YtkmldaelgbkfbaaDoorCpl
import Derived.Test.YtkmldaelgbkfbaaDoorMpi
namespace Go.Proofs.YtkmldaelgbkfbaaDoor
open Go.RowKit Go.Deep
namespace Wn
theorem ord_fps (gs : List Int) : ∀ S : List Nat, S.Pairwise (· < ·) → ordF (fps gs S) = true
  | [], _ => rfl
  | [_], _ => rfl
  | x :: y :: t, h => by
    rw [List.pairwise_cons] at h
    have ih := ord_fps gs (y :: t) h.2
    have hxy := h.1 y List.mem_cons_self
    show (decide ((x : Int) < (y : Int)) && ordF (fps gs (y :: t))) = true
    rw [ih, decide_eq_true (by omega)]
    rfl
theorem prL_eq (t : Nm.Txt) (k n : Nat) (hv : Nm.vld t = true) (h1 : 1 ≤ k) (h2 : k ≤ 1024) (h3 : 1 ≤ n) (h4 : n ≤ 1024) : prL t (k : Int) (n : Int) = fps (prG t (k : Int)) (prS t (k : Int) (n : Int)) ∧ prE t (k : Int) (n : Int) = 0 :=
  ⟨if_pos ⟨hv, sz_nat h1 h2, sz_nat h3 h4⟩, by unfold prE; rw [if_pos hv, if_pos ⟨sz_nat h1 h2, sz_nat h3 h4⟩]⟩
theorem prL_ord (t : Nm.Txt) (k n : Nat) (hv : Nm.vld t = true) (h1 : 1 ≤ k) (h2 : k ≤ 1024) (h3 : 1 ≤ n) (h4 : n ≤ 1024) : ordF (prL t (k : Int) (n : Int)) = true := by
  rw [(prL_eq t k n hv h1 h2 h3 h4).1]
  refine ord_fps _ _ ?_
  unfold prS
  rw [Int.toNat_natCast]
  exact sel_asc _ n h3 _
theorem prL_at (t : Nm.Txt) (k n : Nat) (hv : Nm.vld t = true) (h1 : 1 ≤ k) (h2 : k ≤ 1024) (h3 : 1 ≤ n) (h4 : n ≤ 1024) (x : Fp) (hx : x ∈ prL t (k : Int) (n : Int)) : ∃ u : Nat, x = ⟨(Rl.hash (((t.ws.drop u).take k).map (·.tx)) : Int), (u : Int)⟩ ∧ u + k ≤ t.ws.length := by
  rw [(prL_eq t k n hv h1 h2 h3 h4).1] at hx
  obtain ⟨u, hu, rfl⟩ := List.mem_map.1 hx
  have hlt := prS_mem t (k : Int) (n : Int) (sz_nat h3 h4) u hu
  rw [gram_len t k hv h1 h2] at hlt
  exact ⟨u, by rw [gram_at t k u hv h1 h2 (by omega)], by omega⟩
theorem prL_len (t : Nm.Txt) (k n : Nat) (hv : Nm.vld t = true) (h1 : 1 ≤ k) (h2 : k ≤ 1024) (h3 : 1 ≤ n) (h4 : n ≤ 1024) : (prL t (k : Int) (n : Int)).length ≤ t.ws.length := by
  rw [(prL_eq t k n hv h1 h2 h3 h4).1, fps_len]
  unfold prS
  rw [Int.toNat_natCast]
  have := sel_len (prG t (k : Int)) n ((prG t (k : Int)).length + 1 - n)
  rw [gram_len t k hv h1 h2] at this ⊢
  omega
theorem prL_fit (t : Nm.Txt) (k n : Nat) (hv : Nm.vld t = true) (h1 : 1 ≤ k) (h2 : k ≤ 1024) (h3 : 1 ≤ n) (h4 : n ≤ 1024) (x : Fp) (hx : x ∈ prL t (k : Int) (n : Int)) : Fit x.hash := by
  obtain ⟨u, rfl, _⟩ := prL_at t k n hv h1 h2 h3 h4 x hx
  have := Rl.hash_lt (((t.ws.drop u).take k).map (·.tx))
  rw [Rl.P_val] at this
  exact fit_of (by show _ ≤ ((_ : Nat) : Int); omega) (by show ((_ : Nat) : Int) ≤ _; omega)
theorem prs_nat (a b : Nm.Txt) (k n : Nat) (hva : Nm.vld a = true) (hvb : Nm.vld b = true) (h1 : 1 ≤ k) (h2 : k ≤ 1024) (h3 : 1 ≤ n) (h4 : n ≤ 1024) (z : Fp) (hz : z ∈ prs (prL a (k : Int) (n : Int)) (prL b (k : Int) (n : Int))) : ∃ u v : Nat, z = ⟨(u : Int), (v : Int)⟩ ∧ u ≤ 100000 ∧ v ≤ 100000 := by
  unfold prs at hz
  obtain ⟨x, hx, hz⟩ := List.mem_flatMap.1 hz
  obtain ⟨y, hy, rfl⟩ := List.mem_map.1 hz
  unfold plc at hy
  obtain ⟨e, he, rfl⟩ := List.mem_map.1 hy
  obtain ⟨u, rfl, hu⟩ := prL_at a k n hva h1 h2 h3 h4 x hx
  obtain ⟨v, rfl, hv⟩ := prL_at b k n hvb h1 h2 h3 h4 e (List.mem_filter.1 he).1
  have := vld_len hva
  have := vld_len hvb
  exact ⟨u, v, rfl, by omega, by omega⟩
end Wn
end Go.Proofs.YtkmldaelgbkfbaaDoor
