/- Plain: the chapter's example, its labels, chains, gates, order and depths. -/
import Derived.Test.YtjemffgidhgfjaaGreatDoorMz4
namespace Go.Proofs.YtjemffgidhgfjaaGreatDoor

namespace Gr
theorem lab_uniq {R : Nat → List Int} {S : List Int} {c : Int} {L L' : Nat → Int} (h : Lab R S c L) (h' : Lab R S c L') : L = L' := by
  funext m
  rcases h.neg m with e | e
  · rcases h'.neg m with e' | e'
    · omega
    · have := (h.all _ _ (h'.snd m e')).1; omega
  · have h1 := h'.all _ _ (h.snd m e)
    have h2 := h.all _ _ (h'.snd m h1.1)
    omega
/-- Labels given as a list. -/
def lst (l : List Int) : Nat → Int := fun m => (l[m]?).getD (-1)
def labOk (R : Nat → List Int) (S : List Int) (c : Int) (l : List Int) : Bool :=
  (l.all fun x => x == -1 || decide (0 ≤ x)) && (S.all fun s => s == c || lst l s.toNat == 0) &&
  ((List.range l.length).all fun a => decide (lst l a < 0) || (R a).all fun b => b == c || (decide (0 ≤ lst l b.toNat) && decide (lst l b.toNat ≤ lst l a + 1))) &&
  ((List.range l.length).all fun m => decide (lst l m < 0) || (!((m : Int) == c) && if lst l m = 0 then S.contains (m : Int) else (List.range l.length).any fun a => lst l a == lst l m - 1 && (R a).contains (m : Int)))
theorem lst_lt {l : List Int} {m : Nat} (h : 0 ≤ lst l m) : m < l.length := by
  refine Decidable.byContradiction fun hn => ?_
  unfold lst at h
  rw [List.getElem?_eq_none (by omega)] at h
  simp at h
theorem lab_ok {R : Nat → List Int} {S : List Int} {c : Int} {l : List Int} (h : labOk R S c l = true) : Lab R S c (lst l) := by
  unfold labOk at h
  rw [Bool.and_eq_true, Bool.and_eq_true, Bool.and_eq_true, List.all_eq_true, List.all_eq_true, List.all_eq_true, List.all_eq_true] at h
  obtain ⟨⟨⟨h1, h2⟩, h3⟩, h4⟩ := h
  have hneg : ∀ m, lst l m = -1 ∨ 0 ≤ lst l m := fun m => by
    by_cases hm : m < l.length
    · have := h1 l[m] (List.getElem_mem hm)
      unfold lst
      rw [List.getElem?_eq_getElem hm]
      simpa using this
    · left; unfold lst; rw [List.getElem?_eq_none (by omega)]; rfl
  refine ⟨hneg, fun m hm => ?_, fun k m hw => ?_⟩
  · generalize hk : (lst l m).toNat = k
    induction k generalizing m with
    | zero =>
      have := h4 m (List.mem_range.2 (lst_lt hm))
      simp only [Bool.or_eq_true, decide_eq_true_eq, Bool.and_eq_true, Bool.not_eq_true', beq_eq_false_iff_ne] at this
      rcases this with h | ⟨h5, h6⟩
      · omega
      · rw [if_pos (by omega)] at h6
        exact .start m (by simpa using h6) h5
    | succ k ih =>
      have := h4 m (List.mem_range.2 (lst_lt hm))
      simp only [Bool.or_eq_true, decide_eq_true_eq, Bool.and_eq_true, Bool.not_eq_true', beq_eq_false_iff_ne] at this
      rcases this with h | ⟨h5, h6⟩
      · omega
      · rw [if_neg (by omega), List.any_eq_true] at h6
        obtain ⟨a, _, h7⟩ := h6
        rw [Bool.and_eq_true, beq_iff_eq] at h7
        exact .step k a m (ih a (by omega) (by omega)) (by simpa using h7.2) h5
  · induction hw with
    | start s hs hc =>
      have := h2 _ hs
      rw [Bool.or_eq_true, beq_iff_eq, beq_iff_eq, Int.toNat_natCast] at this
      rcases this with h | h
      · exact absurd h hc
      · omega
    | step k a b _ hb hc ih =>
      have := h3 a (List.mem_range.2 (lst_lt ih.1))
      rw [Bool.or_eq_true, decide_eq_true_eq, List.all_eq_true] at this
      rcases this with h | h
      · omega
      · have := h _ hb
        rw [Bool.or_eq_true, beq_iff_eq, Int.toNat_natCast, Bool.and_eq_true, decide_eq_true_eq, decide_eq_true_eq] at this
        rcases this with h | h
        · exact absurd h hc
        · omega
def gx : Gph := ⟨[[97], [98], [99], [100]], [⟨0, 1, 0⟩, ⟨0, 2, 1⟩, ⟨1, 3, 2⟩, ⟨2, 3, 3⟩]⟩
theorem gx_chk : chk gx = 0 := by decide +kernel
theorem gx_ends : isN gx 0 = true ∧ isN gx 3 = true := by decide +kernel
theorem gx_back : Lab (row false gx.es) [3] (-1) (lst [2, 1, 1, 0]) := lab_ok (by decide +kernel)
theorem gx_fwd : Lab (row true gx.es) (row true gx.es 0) (-1) (lst [-1, 0, 0, 1]) := lab_ok (by decide +kernel)
theorem gx_cut0 : Lab (row true gx.es) [0] 0 (lst [-1, -1, -1, -1]) := lab_ok (by decide +kernel)
theorem gx_cut1 : Lab (row true gx.es) [0] 1 (lst [0, -1, 1, 2]) := lab_ok (by decide +kernel)
theorem gx_cut2 : Lab (row true gx.es) [0] 2 (lst [0, 1, -1, 2]) := lab_ok (by decide +kernel)
theorem gx_cut3 : Lab (row true gx.es) [0] 3 (lst [0, 1, 1, -1]) := lab_ok (by decide +kernel)
theorem gx_chain {l : List Int} {ok : Bool} (h : Chn gx 0 3 l ok) : ok = true ∧ l = [0, 2] := by
  unfold Chn at h
  rw [if_pos ⟨gx_chk, gx_ends⟩] at h
  obtain ⟨L, hL, h⟩ := h
  rw [lab_uniq hL gx_back, if_pos (by decide)] at h
  exact ⟨h.1, h.2.trans (by decide +kernel)⟩
theorem gx_reach {l : List Int} (h : Rch true gx 0 l) : l = [1, 2, 3] := by
  unfold Rch at h
  rw [if_pos ⟨gx_chk, gx_ends.1⟩] at h
  obtain ⟨p, rfl, hp⟩ := h
  have : p = fun m => decide (0 ≤ lst [-1, 0, 0, 1] m) := by
    funext m
    rw [Bool.eq_iff_iff, lab_iff gx_fwd m]
    exact hp m
  rw [this]
  decide +kernel
theorem gx_gates {l : List Int} (h : Gts gx 0 3 l) : l = [0, 3] := by
  obtain ⟨p, hp, rfl⟩ := h.1 ⟨gx_chk, gx_ends.1, gx_ends.2, _, gx_back.snd 0 (by decide)⟩
  have key : ∀ (m : Nat) (L : Nat → Int), Lab (row true gx.es) [0] (m : Int) L → p m = !decide (0 ≤ L 3) := fun m L hL => by
    have h3 : decide (0 ≤ L 3) = true ↔ ∃ k, Wk (row true gx.es) [0] (m : Int) k 3 := lab_iff hL 3
    have h4 : p m = true ↔ ¬ ∃ k, Wk (row true gx.es) [0] (m : Int) k 3 := hp m
    rw [← h3] at h4
    cases hd : decide (0 ≤ L 3) <;> rw [hd] at h4 <;> simpa using h4
  have e0 : p 0 = true := (key 0 _ gx_cut0).trans (by decide)
  have e1 : p 1 = false := (key 1 _ gx_cut1).trans (by decide)
  have e2 : p 2 = false := (key 2 _ gx_cut2).trans (by decide)
  have e3 : p 3 = true := (key 3 _ gx_cut3).trans (by decide)
  show chs p 4 = _
  simp [chs, e0, e1, e2, e3]
theorem gx_depths {l : List Int} {e : Int} (h : Dps gx l e) : l = [0, 1, 1, 2] ∧ e = 0 := by
  unfold Dps at h
  rw [if_pos gx_chk] at h
  have hk : kahn gx.es gx.ns.length gx.ns.length [] = some [0, 1, 2, 3] := by decide +kernel
  have := h.1 _ hk
  exact ⟨this.1.trans (by decide +kernel), this.2⟩
end Gr
end Go.Proofs.YtjemffgidhgfjaaGreatDoor
