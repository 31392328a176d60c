/- Hunks and places where they lie; plain facts of hunks. No condition. -/
import Derived.Test.YtmmdldicafbjdaaGreatDoorCor
import Derived.Test.YtmmdldicafbjdaaGreatDoorTrSpl
namespace Go.Proofs.YtmmdldicafbjdaaGreatDoor
open Go.RowKit Go.Deep Tr

def HsAt (w : World) (B : Nat) (A : Option Addr) (hs : List Pc.Hk) : Prop := ∀ k (hk : k < hs.length), ∃ g o Ak ck, A = some ⟨g, o, none⟩ ∧ g < B ∧ w.cell? ⟨g, o + k * 3, none⟩ = some (.int .i64 hs[k].kind) ∧ w.cell? ⟨g, o + k * 3 + 1, none⟩ = some (.int .i64 hs[k].n) ∧ w.cell? ⟨g, o + k * 3 + 2, none⟩ = some (.slice Ak hs[k].ls.length ck) ∧ CellsAt w B Ak (strs hs[k].ls) ∧ hs[k].ls.length ≤ ck ∧ ck ≤ maxLen
theorem HsAt.next {w w' : World} {A : Option Addr} {hs : List Pc.Hk} (h : HsAt w w.heap.size A hs) (hb : Below w.heap.size w w') : HsAt w' w'.heap.size A hs := fun k hk => by
  obtain ⟨g, o, Ak, ck, rfl, hg, h0, h1, h2, h3, h4, h5⟩ := h k hk
  exact ⟨g, o, Ak, ck, rfl, Nat.lt_of_lt_of_le hg hb.size, (hb.cell (p := ⟨g, o + k * 3, none⟩) hg).trans h0, (hb.cell (p := ⟨g, o + k * 3 + 1, none⟩) hg).trans h1, (hb.cell (p := ⟨g, o + k * 3 + 2, none⟩) hg).trans h2, h3.next hb, h4, h5⟩
namespace Pc
theorem cnt_app (k : Int) (a b : List Hk) : cnt k (a ++ b) = cnt k a + cnt k b := by
  induction a with
  | nil => simp [cnt]
  | cons h a ih => rw [List.cons_append, cnt, cnt, ih]; omega
theorem cnt_snoc (k : Int) (hs : List Hk) (i : Nat) (h : i < hs.length) : cnt k (hs.take (i + 1)) = cnt k (hs.take i) + (if hs[i].kind = k then hs[i].n else 0) := by
  rw [List.take_succ_eq_append_getElem h, cnt_app]
  simp [cnt]
theorem bodyL_app (a b : List Hk) : bodyL (a ++ b) = bodyL a ++ bodyL b := by
  induction a with
  | nil => rfl
  | cons h a ih => rw [List.cons_append, bodyL, bodyL, ih]; simp
theorem bodyL_snoc (hs : List Hk) (i : Nat) (h : i < hs.length) : bodyL (hs.take (i + 1)) = (bodyL (hs.take i) ++ [headL hs[i]]) ++ hs[i].ls := by
  rw [List.take_succ_eq_append_getElem h, bodyL_app]
  simp [bodyL]
theorem isNum_iff (n : Int) : isNum n = true ↔ 1 ≤ n ∧ n ≤ 1024 := by unfold isNum; simp
theorem isHunk_num {h : Hk} (hh : isHunk h = true) : (1 ≤ h.n ∧ h.n ≤ 1024) ∧ (h.kind = 1 ∨ h.kind = 2 ∨ h.kind = 3) ∧ (h.ls.length : Int) ≤ h.n := by
  unfold isHunk at hh
  split at hh
  · rename_i hk
    simp only [Bool.and_eq_true, decide_eq_true_eq] at hh
    have := (isNum_iff _).1 hh.1
    exact ⟨this, by omega, by omega⟩
  · split at hh
    · simp only [Bool.and_eq_true, decide_eq_true_eq] at hh
      have := (isNum_iff _).1 hh.1
      exact ⟨this, by omega, by omega⟩
    · cases hh
theorem inOrder_all : ∀ (b : Int) (hs : List Hk), inOrder b hs = true → ∀ h ∈ hs, isHunk h = true
  | _, [], _, h, hm => by simp at hm
  | b, x :: t, ho, h, hm => by
    rw [inOrder, Bool.and_eq_true] at ho
    rcases List.mem_cons.1 hm with rfl | hm
    · have := ho.1
      unfold beside at this
      simp only [Bool.and_eq_true] at this
      exact this.1.1
    · exact inOrder_all _ t ho.2 h hm
theorem cnt_nonneg (k : Int) : ∀ (hs : List Hk), (∀ h ∈ hs, 1 ≤ h.n) → 0 ≤ cnt k hs
  | [], _ => by simp [cnt]
  | h :: t, ha => by
    have := cnt_nonneg k t fun x hx => ha x (by simp [hx])
    have := ha h (by simp)
    rw [cnt]; split <;> omega
theorem cnt_le (k : Int) : ∀ (hs : List Hk), (∀ h ∈ hs, 0 ≤ h.n ∧ h.n ≤ 1024) → 0 ≤ cnt k hs ∧ cnt k hs ≤ 1024 * (hs.length : Int)
  | [], _ => by simp [cnt]
  | h :: t, ha => by
    have := cnt_le k t fun x hx => ha x (by simp [hx])
    have := ha h (by simp)
    rw [cnt, List.length_cons]; split <;> omega
/-- A list of hunks in form is short. -/
theorem shape_len {hs : List Hk} (h : shape hs = true) : hs.length ≤ 2048 ∧ (bodyL hs).length ≤ 4096 ∧ (∀ x ∈ hs, isHunk x = true) := by
  unfold shape at h
  simp only [Bool.and_eq_true] at h
  obtain ⟨⟨h1, h2⟩, h3⟩ := h
  have ha := inOrder_all 0 hs h1
  have n2 := (isNum_iff _).1 h2
  have n3 := (isNum_iff _).1 h3
  have key : ∀ l : List Hk, (∀ x ∈ l, isHunk x = true) → (l.length : Int) ≤ cnt 1 l + cnt 2 l + cnt 3 l ∧ ((bodyL l).length : Int) ≤ 2 * (cnt 1 l + cnt 2 l + cnt 3 l) ∧ 0 ≤ cnt 1 l := by
    intro l
    induction l with
    | nil => intro _; simp [cnt, bodyL]
    | cons x l ih =>
      intro hx
      obtain ⟨i1, i2, i3⟩ := ih fun y hy => hx y (by simp [hy])
      obtain ⟨a1, a2, a3⟩ := isHunk_num (hx x (by simp))
      simp only [cnt, bodyL, List.length_cons, List.length_append]
      rcases a2 with e | e | e <;> simp [e] <;> omega
  obtain ⟨k1, k2, k3⟩ := key hs ha
  exact ⟨by omega, by omega, ha⟩
theorem inOrder_at (hs : List Hk) (i : Nat) (b : Int) (h : i < hs.length) : inOrder b (hs.drop i) = (beside b hs[i] && inOrder hs[i].kind (hs.drop (i + 1))) := by
  rw [List.drop_eq_getElem_cons h, inOrder]
end Pc
end Go.Proofs.YtmmdldicafbjdaaGreatDoor
