/- Plain: what the example is. -/
import Derived.Test.YtkgnbjhgdjmfdaaDoorExm
namespace Go.Proofs.YtkgnbjhgdjmfdaaDoor
open Tr

theorem ex_chk (A1 A2 : Option Addr) : Rc.chk (exR A1 A2 [98]) = 0 := by rfl
theorem ex_wr (A1 A2 : Option Addr) : Rc.wr0 (exR A1 A2 [98]) [97, 47, 98] = some 1 := by rfl
theorem ex_wo (A1 A2 : Option Addr) : Rc.wr0 (exR A1 A2 [98]) [97, 47, 111] = some 0 := by rfl
theorem ex_wx (A1 A2 : Option Addr) : Rc.wr0 (exR A1 A2 [98]) [97, 47, 120] = none := by rfl
theorem ex_wi (A1 A2 : Option Addr) : Rc.wrI (exR A1 A2 [98]) [97, 47, 98] = 1 := by rfl
theorem ex_aff (A1 A2 : Option Addr) : affL (exR A1 A2 [98]) [[97, 47, 111]] = [1] := by rfl
theorem ex_short (A1 A2 : Option Addr) (l : List UInt8) (h : (rep l).length ≤ 1000) : Sht (exR A1 A2 l) := by
  have hx : (rep [120]).length ≤ 1000 := by decide
  have ho : (rep [111]).length ≤ 1000 := by decide
  refine ⟨fun s hs t ht => ?_, fun s hs t ht => ?_⟩
  all_goals
    simp only [exR, List.mem_cons, List.not_mem_nil, or_false] at hs
    rcases hs with rfl | rfl
    all_goals
      simp only [List.mem_append, List.mem_cons, List.not_mem_nil, or_false] at ht
      rcases ht with rfl | rfl
      all_goals first | (show _ ≤ 100000000; simp; done) | (show (rep _).length ≤ _; omega)
theorem ex_ned (A1 A2 : Option Addr) (i : Nat) : Rc.Ned (exR A1 A2 [98]) [97, 47, 98] i ↔ i = 0 ∨ i = 1 := by
  constructor
  · intro h
    have := Rc.ned_le (ex_wr A1 A2) h
    omega
  · have h1 : Rc.Ned (exR A1 A2 [98]) [97, 47, 98] 1 := .base (ex_wr A1 A2)
    rintro (rfl | rfl)
    · exact .step (s := ⟨0, 1, 4, A2, 1, [⟨[97, 47, 111], rep [111]⟩], ⟨[97, 47, 98], rep [98]⟩⟩) (t := ⟨[97, 47, 111], rep [111]⟩) h1 rfl (by simp) (ex_wo A1 A2)
    · exact h1
theorem asc_uniq {a b : List Nat} (ha : a.Pairwise (· < ·)) (hb : b.Pairwise (· < ·)) (h : ∀ i, i ∈ a ↔ i ∈ b) : a = b := by
  have hn : ∀ l : List Nat, l.Pairwise (· < ·) → l.Nodup := fun l hl => hl.imp fun h => Nat.ne_of_lt h
  exact List.Perm.eq_of_pairwise (le := (· < ·)) (fun a b _ _ h1 h2 => absurd h1 (Nat.lt_asymm h2)) ha hb ((List.perm_ext_iff_of_nodup (hn a ha) (hn b hb)).2 h)
theorem ex_ndl {A1 A2 : Option Addr} {L : List Nat} (h : Rc.NdL (exR A1 A2 [98]) [97, 47, 98] L) : L = [0, 1] :=
  asc_uniq h.1 (by simp) fun i => by rw [h.2 i, ex_ned]; simp
theorem src_uniq {a b : List (List UInt8)} (ha : a.Pairwise (fun a b => leB a b = true)) (ha2 : a.Nodup) (hb : b.Pairwise (fun a b => leB a b = true)) (hb2 : b.Nodup) (h : ∀ x, x ∈ a ↔ x ∈ b) : a = b :=
  List.Perm.eq_of_pairwise (le := fun a b => leB a b = true) (fun a b _ _ h1 h2 => by simp only [leB, decide_eq_true_eq] at h1 h2; exact List.le_antisymm h1 h2) ha hb ((List.perm_ext_iff_of_nodup ha2 hb2).2 h)
theorem ex_src {A1 A2 : Option Addr} {L : List (List UInt8)} (h : SrcL (exR A1 A2 [98]) [97, 47, 98] L) : L = [[97, 47, 120]] :=
  src_uniq h.1 h.2.1 (by simp) (by simp) fun x => by
    rw [h.2.2 x]
    constructor
    · rintro ⟨i, s, t, hi, hs, ht, rfl, hw⟩
      rw [ex_ned] at hi
      rcases hi with rfl | rfl
      · cases hs
        simp only [List.mem_cons, List.not_mem_nil, or_false] at ht
        subst ht; simp
      · cases hs
        simp only [List.mem_cons, List.not_mem_nil, or_false] at ht
        subst ht
        rw [ex_wo] at hw; cases hw
    · intro hx
      rw [List.mem_singleton] at hx
      subst hx
      exact ⟨0, ⟨0, 0, 1, A1, 1, [⟨[97, 47, 120], rep [120]⟩], ⟨[97, 47, 111], rep [111]⟩⟩, ⟨[97, 47, 120], rep [120]⟩, (ex_ned A1 A2 0).2 (.inl rfl), rfl, by simp, rfl, ex_wx A1 A2⟩
theorem ex_div {A1 A2 A3 A4 : Option Addr} {n : Int} (h : DivP (exR A1 A2 [98]) (exR A3 A4 [99]) n) : n = 1 := by
  refine h.uniq ⟨1, by show 1 ≤ 2; omega, by show 1 ≤ 2; omega, fun j x y hj hx hy => ?_, fun x y hx hy => ?_, rfl⟩
  · have hj0 : j = 0 := by omega
    subst hj0
    cases hx; cases hy
    simp [sameB]
  · cases hx; cases hy
    have hne : rep [98] ≠ rep [99] := by decide
    simp [sameB, hne]
end Go.Proofs.YtkgnbjhgdjmfdaaDoor
