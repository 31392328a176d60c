/- Pairs of numbers in arrays; facts of the hunks that keep pairs. No condition. -/
import Derived.Test.YtlfgnecfabdkmaaGreatDoorQof
import Derived.Test.YtlfgnecfabdkmaaGreatDoorQaa
namespace Go.Proofs.YtlfgnecfabdkmaaGreatDoor
open Go.RowKit Go.Deep Tr

theorem infoA2 : (Tryz.prog.info? 79).map (fun i => (i.zero, i.size, i.bytes)) = some (some (.agg #[.int .i64 0, .int .i64 0]), 2, 16) := by kernel_rfl
theorem owns_prs2 {w : World} {B : Nat} {v : Value} {K : List (Nat × Nat)} (h : w.ownsRow B 79 2 v K.length (prsV K)) : ∃ A c, v = .slice A K.length c ∧ PrAt w w.heap.size A K := by
  rcases h.2 with ⟨rfl, h0⟩ | ⟨g, cap, cur, rfl, hb, hg, h1, h2, _, _⟩
  · have : K = [] := List.length_eq_zero_iff.1 h0
    subst this
    exact ⟨none, 0, rfl, fun k hk => by simp at hk⟩
  · refine ⟨_, cap, rfl, fun k hk => ⟨g, 0, rfl, (Array.getElem?_eq_some_iff.1 hg).1, ?_, ?_⟩⟩
    · rw [Nat.zero_add, h.cellAt _ (by omega)]
      exact prsV_at K k 0 hk (by omega)
    · rw [Nat.zero_add, h.cellAt _ (by omega)]
      exact prsV_at K k 1 hk (by omega)
theorem keep_facts {a b : List (List UInt8)} {K : List (Nat × Nat)} (ha1 : 1 ≤ a.length) (ha : a.length ≤ 1024) (hb1 : 1 ≤ b.length) (hb : b.length ≤ 1024) (hM : Pc.Mat a b 0 0 K) : (Pc.keepHs [] a b 0 0 K).length ≤ 2048 ∧ ∀ h ∈ Pc.keepHs [] a b 0 0 K, ∀ l ∈ h.ls, l ∈ b := by
  have st := Pc.keep_ok ha hb hM
  have hall := st.all.1
  have hsh : Pc.shape (Pc.keepHs [] a b 0 0 K) = true := by
    unfold Pc.shape
    rw [st.ord, st.src, st.dst]
    simp only [Bool.true_and, Bool.and_eq_true, Pc.isNum_iff]
    omega
  refine ⟨(Pc.shape_len hsh).1, fun h hh l hl => ?_⟩
  have h1 := ls_change _ a hall h hh l hl
  rw [st.chg, List.take_length] at h1
  exact h1
end Go.Proofs.YtlfgnecfabdkmaaGreatDoor
