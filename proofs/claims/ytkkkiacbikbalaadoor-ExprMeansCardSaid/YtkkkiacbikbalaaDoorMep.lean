/- What a formula means, as a plain function: folding changes nothing of it; the folded formula is valid and stays. No condition but that the numbers are words. -/
import Derived.Test.YtkkkiacbikbalaaDoorVal
import Derived.Test.YtkkkiacbikbalaaDoorRnd
import Derived.Test.YtkkkiacbikbalaaDoorPnt
namespace Go.Proofs.YtkkkiacbikbalaaDoor

namespace Ex
/-- The made-up value of an operation that calls, loads or reads. -/
def mixV (n : Nat) (args : List Int) : Int := args.foldl (fun v a => (v * 31 + a) % 4294967296) (((n : Int) % 4294967296 * 40503) % 4294967296)
def vval (ev : Nat) (args : List Int) (o : Op) : Int :=
  if o.kind = 2 then ((o.text.length : Int) % 4294967296 * 2654435761) % 4294967296
  else if o.kind = 3 ∨ o.kind = 4 ∨ o.kind = 5 then mixV ev args
  else if o.kind = 6 then (unR o.text (args.getD 0 0)).1
  else if o.kind = 7 then (biR o.text (args.getD 0 0) (args.getD 1 0)).1
  else o.n
abbrev VS := List Int × List Op
def vstep (s : VS) (o : Op) : VS :=
  (s.1.take (s.1.length - (opr o).1.toNat) ++ [vval s.2.length (s.1.drop (s.1.length - (opr o).1.toNat)) o],
   if o.kind = 3 ∨ o.kind = 4 ∨ o.kind = 5 then s.2 ++ [⟨o.kind, o.text, vval s.2.length (s.1.drop (s.1.length - (opr o).1.toNat)) o⟩] else s.2)
def vrun (f : List Op) : VS := f.foldl vstep ([], [])
theorem vrun_snoc (f : List Op) (o : Op) : vrun (f ++ [o]) = vstep (vrun f) o := by unfold vrun; rw [List.foldl_append]; rfl
theorem vstep_num (s : VS) (n : Int) : vstep s ⟨1, [], n⟩ = (s.1 ++ [n], s.2) := by
  unfold vstep
  have e : (opr ⟨1, [], n⟩).1.toNat = 0 := rfl
  rw [e, Nat.sub_zero, List.take_length]
  rfl
theorem vstep_isnum (s : VS) (a : Op) (h : isNum a = true) : vstep s a = (s.1 ++ [a.n], s.2) := by
  have h1 : a.kind = 1 := by unfold isNum at h; simpa using h
  obtain ⟨k, t, n⟩ := a
  dsimp only at h1
  subst h1
  unfold vstep
  have e : (opr ⟨1, t, n⟩).1.toNat = 0 := rfl
  rw [e, Nat.sub_zero, List.take_length]
  rfl
/-- Folding one more operation. -/
theorem vrun_fold1 (acc : List Op) (o : Op) (m : Int) (hm : m ≤ acc.length) (ht : (opr o).1 ≤ m) : vrun (fold1 acc o) = vstep (vrun acc) o := by
  by_cases h6 : o.kind = 6
  · have e := opr_un h6
    obtain ⟨pre, a, rfl⟩ := last_one acc (by omega)
    rw [fold1_un pre a o h6]
    split
    · rename_i ha
      rw [vrun_snoc, vrun_snoc, vstep_num, vstep_isnum _ a ha]
      generalize vrun pre = s
      have e2 : (opr o).1.toNat = 1 := by rw [e]; rfl
      unfold vstep
      rw [e2]
      dsimp only
      rw [List.length_append, List.length_singleton, Nat.add_sub_cancel, List.take_left, List.drop_left, if_neg (by omega)]
      unfold vval
      rw [if_neg (by omega), if_neg (by omega), if_pos h6]
      rfl
    · rw [vrun_snoc]
  · by_cases h7 : o.kind = 7
    · have e := opr_bi h7
      obtain ⟨pre, a, b, rfl⟩ := last_two acc (by omega)
      rw [fold1_bi pre a b o h7]
      split
      · rename_i hab
        simp only [Bool.and_eq_true] at hab
        rw [vrun_snoc, show pre ++ [a, b] = (pre ++ [a]) ++ [b] by simp, vrun_snoc, vrun_snoc, vstep_num, vstep_isnum _ a hab.1, vstep_isnum _ b hab.2]
        generalize vrun pre = s
        have e2 : (opr o).1.toNat = 2 := by rw [e]; rfl
        unfold vstep
        rw [e2]
        dsimp only
        rw [show s.1 ++ [a.n] ++ [b.n] = s.1 ++ [a.n, b.n] by simp, List.length_append, show [a.n, b.n].length = 2 from rfl, Nat.add_sub_cancel, List.take_left, List.drop_left, if_neg (by omega)]
        unfold vval
        rw [if_neg (by omega), if_neg (by omega), if_neg (by omega), if_pos h7]
        rfl
      · rw [vrun_snoc]
    · rw [fold1_no acc o h6 h7, vrun_snoc]
theorem vrun_foldl (f : List Op) : ∀ (acc : List Op) (m : Int), (∀ o ∈ f, 0 ≤ o.n) → chk m f = 0 → m ≤ acc.length → vrun (f.foldl fold1 acc) = f.foldl vstep (vrun acc) := by
  induction f with
  | nil => intro acc m _ _ _; rfl
  | cons o f ih =>
    intro acc m hn hc hm
    rw [chk_cons] at hc
    split at hc
    · rename_i h
      rw [List.foldl_cons, List.foldl_cons, ih _ _ (fun u hu => hn u (List.mem_cons_of_mem _ hu)) hc (fold1_len acc o m (hn o (by simp)) h.2 hm), vrun_fold1 acc o m hm h.2]
    · cases hc
/-- Operations behind others that have left m values: what they leave. -/
def dep (m : Option Int) (o : Op) : Option Int := m.bind fun m => if (opr o).2 = true ∧ (opr o).1 ≤ m then some (m + (1 - (opr o).1)) else none
theorem dep_none (f : List Op) : f.foldl dep none = none := by
  induction f with
  | nil => rfl
  | cons o f ih => rw [List.foldl_cons]; exact ih
theorem chk_dep (f : List Op) : ∀ m, chk m f = 0 ↔ f.foldl dep (some m) = some 1 := by
  induction f with
  | nil =>
    intro m
    show (if m = 1 then (0 : Int) else 1) = 0 ↔ some m = some 1
    by_cases h : m = 1 <;> simp [h]
  | cons o f ih =>
    intro m
    rw [chk_cons, List.foldl_cons]
    show _ ↔ f.foldl dep (if (opr o).2 = true ∧ (opr o).1 ≤ m then some (m + (1 - (opr o).1)) else none) = some 1
    split
    · exact ih _
    · rw [dep_none]; simp
theorem dep_num (m : Int) (n : Int) (hm : 0 ≤ m) : dep (some m) ⟨1, [], n⟩ = some (m + 1) := by
  show (if (opr ⟨1, [], n⟩).2 = true ∧ (opr ⟨1, [], n⟩).1 ≤ m then some (m + (1 - (opr ⟨1, [], n⟩).1)) else none) = _
  rw [show opr ⟨1, [], n⟩ = (0, true) from rfl, if_pos ⟨rfl, hm⟩]; simp
theorem dep_isnum (m : Option Int) (a : Op) (h : isNum a = true) (k : Int) (hk : dep m a = some k) : m = some (k - 1) ∧ 1 ≤ k := by
  have h1 : a.kind = 1 := by unfold isNum at h; simpa using h
  have h0 := opr_1' h1
  cases m with
  | none => simp [dep] at hk
  | some m =>
    simp only [dep, Option.bind_some] at hk
    split at hk
    · rename_i hc
      simp only [Option.some.injEq] at hk
      rw [h0] at hk hc
      exact ⟨by congr 1; omega, by have := hc.2; omega⟩
    · cases hk
theorem dep_fold1 (acc : List Op) (o : Op) (m k : Int) (hm : m ≤ acc.length) (ht : (opr o).1 ≤ m) (ha : acc.foldl dep (some 0) = some m) (hk : dep (some m) o = some k) : (fold1 acc o).foldl dep (some 0) = some k := by
  by_cases h6 : o.kind = 6
  · have e := opr_un h6
    obtain ⟨pre, a, rfl⟩ := last_one acc (by omega)
    rw [fold1_un pre a o h6]
    split
    · rename_i hna
      rw [List.foldl_append] at ha ⊢
      obtain ⟨h1, h2⟩ := dep_isnum _ a hna m ha
      have hk2 : k = m := by
        simp only [dep, Option.bind_some] at hk
        split at hk
        · simp only [Option.some.injEq] at hk; omega
        · cases hk
      rw [h1]
      show dep (some (m - 1)) _ = _
      rw [dep_num _ _ (by omega), hk2]; congr 1; omega
    · rw [List.foldl_append, ha]; exact hk
  · by_cases h7 : o.kind = 7
    · have e := opr_bi h7
      obtain ⟨pre, a, b, rfl⟩ := last_two acc (by omega)
      rw [fold1_bi pre a b o h7]
      split
      · rename_i hab
        simp only [Bool.and_eq_true] at hab
        rw [show pre ++ [a, b] = (pre ++ [a]) ++ [b] by simp, List.foldl_append] at ha
        obtain ⟨h1, h2⟩ := dep_isnum _ b hab.2 m ha
        rw [List.foldl_append] at h1 ⊢
        obtain ⟨h3, h4⟩ := dep_isnum _ a hab.1 (m - 1) h1
        have hk2 : k = m - 1 := by
          simp only [dep, Option.bind_some] at hk
          split at hk
          · simp only [Option.some.injEq] at hk; omega
          · cases hk
        rw [h3]
        show dep (some (m - 1 - 1)) _ = _
        rw [dep_num _ _ (by omega), hk2]; congr 1; omega
      · rw [List.foldl_append, ha]; exact hk
    · rw [fold1_no acc o h6 h7, List.foldl_append, ha]; exact hk
theorem dep_foldl (f : List Op) : ∀ (acc : List Op) (m : Int), (∀ o ∈ f, 0 ≤ o.n) → f.foldl dep (some m) = some 1 → m ≤ acc.length → acc.foldl dep (some 0) = some m → (f.foldl fold1 acc).foldl dep (some 0) = some 1 := by
  induction f with
  | nil => intro acc m _ hc _ ha; rw [List.foldl_nil] at hc ⊢; rw [ha, hc]
  | cons o f ih =>
    intro acc m hn hc hm ha
    rw [List.foldl_cons] at hc ⊢
    have hd : dep (some m) o = if (opr o).2 = true ∧ (opr o).1 ≤ m then some (m + (1 - (opr o).1)) else none := rfl
    by_cases h : (opr o).2 = true ∧ (opr o).1 ≤ m
    · rw [if_pos h] at hd
      rw [hd] at hc
      exact ih _ _ (fun u hu => hn u (List.mem_cons_of_mem _ hu)) hc (fold1_len acc o m (hn o (by simp)) h.2 hm) (dep_fold1 acc o m _ hm h.2 ha hd)
    · rw [if_neg h] at hd
      rw [hd, dep_none] at hc; cases hc
/-- Folding again changes nothing. -/
def Stable (acc : List Op) : Prop := acc.foldl fold1 [] = acc
theorem stable_snoc (acc : List Op) (o : Op) (h : Stable acc) (hf : fold1 acc o = acc ++ [o]) : Stable (acc ++ [o]) := by
  unfold Stable at *
  rw [List.foldl_append, h]; exact hf
theorem stable_num (pre : List Op) (a : Op) (ha : isNum a = true) (h : Stable (pre ++ [a])) : Stable pre := by
  have h1 : a.kind = 1 := by unfold isNum at ha; simpa using ha
  unfold Stable at *
  rw [List.foldl_append] at h
  have h2 : fold1 (pre.foldl fold1 []) a = pre ++ [a] := h
  rw [fold1_no _ a (by omega) (by omega)] at h2
  exact List.append_cancel_right h2
theorem stable_fold1 (acc : List Op) (o : Op) (m : Int) (hm : m ≤ acc.length) (ht : (opr o).1 ≤ m) (h : Stable acc) : Stable (fold1 acc o) := by
  have hnum : ∀ pre n, fold1 pre ⟨1, [], n⟩ = pre ++ [⟨1, [], n⟩] := fun pre n => fold1_no _ _ (by dsimp only; decide) (by dsimp only; decide)
  by_cases h6 : o.kind = 6
  · have e := opr_un h6
    obtain ⟨pre, a, rfl⟩ := last_one acc (by omega)
    have hf := fold1_un pre a o h6
    rw [hf]
    split
    · rename_i ha; exact stable_snoc _ _ (stable_num pre a ha h) (hnum _ _)
    · rename_i ha; rw [if_neg ha] at hf; exact stable_snoc _ _ h hf
  · by_cases h7 : o.kind = 7
    · have e := opr_bi h7
      obtain ⟨pre, a, b, rfl⟩ := last_two acc (by omega)
      have hf := fold1_bi pre a b o h7
      rw [hf]
      split
      · rename_i hab
        simp only [Bool.and_eq_true] at hab
        rw [show pre ++ [a, b] = (pre ++ [a]) ++ [b] by simp] at h
        exact stable_snoc _ _ (stable_num pre a hab.1 (stable_num _ b hab.2 h)) (hnum _ _)
      · rename_i hab; rw [if_neg hab] at hf; exact stable_snoc _ _ h hf
    · rw [fold1_no acc o h6 h7]; exact stable_snoc _ _ h (fold1_no acc o h6 h7)
theorem stable_foldl (f : List Op) : ∀ (acc : List Op) (m : Int), (∀ o ∈ f, 0 ≤ o.n) → chk m f = 0 → m ≤ acc.length → Stable acc → Stable (f.foldl fold1 acc) := by
  induction f with
  | nil => intro acc m _ _ _ h; exact h
  | cons o f ih =>
    intro acc m hn hc hm h
    rw [chk_cons] at hc
    split at hc
    · rename_i h2
      rw [List.foldl_cons]
      exact ih _ _ (fun u hu => hn u (List.mem_cons_of_mem _ hu)) hc (fold1_len acc o m (hn o (by simp)) h2.2 hm) (stable_fold1 acc o m hm h2.2 h)
    · cases hc
theorem words_fold1 (acc : List Op) (o : Op) (m : Int) (hm : m ≤ acc.length) (ht : (opr o).1 ≤ m) (ha : OpsLen acc) (ho : o.text.length ≤ 1000000000 ∧ 0 ≤ o.n ∧ o.n < 4294967296) : OpsLen (fold1 acc o) := by
  have snoc : ∀ (l : List Op) (u : Op), OpsLen l → (u.text.length ≤ 1000000000 ∧ 0 ≤ u.n ∧ u.n < 4294967296) → OpsLen (l ++ [u]) := fun l u hl hu x hx => by
    rcases List.mem_append.1 hx with hx | hx
    · exact hl x hx
    · simp at hx; subst hx; exact hu
  have left : ∀ (l l2 : List Op), OpsLen (l ++ l2) → OpsLen l := fun l l2 h x hx => h x (List.mem_append_left _ hx)
  by_cases h6 : o.kind = 6
  · have e := opr_un h6
    obtain ⟨pre, a, rfl⟩ := last_one acc (by omega)
    have h2 := ha a (by simp)
    rw [fold1_un pre a o h6]
    split
    · have := un_lt (l := o.text) h2.2.1 h2.2.2
      exact snoc _ _ (left _ _ ha) ⟨by simp, this.1, this.2⟩
    · exact snoc _ _ ha ho
  · by_cases h7 : o.kind = 7
    · have e := opr_bi h7
      obtain ⟨pre, a, b, rfl⟩ := last_two acc (by omega)
      have h2 := ha a (by simp)
      have h3 := ha b (by simp)
      rw [fold1_bi pre a b o h7]
      split
      · have := bi_lt (l := o.text) h2.2.1 h2.2.2 h3.2.1 h3.2.2
        exact snoc _ _ (left _ _ ha) ⟨by simp, this.1, this.2⟩
      · exact snoc _ _ ha ho
    · rw [fold1_no acc o h6 h7]; exact snoc _ _ ha ho
theorem words_foldl (f : List Op) : ∀ (acc : List Op) (m : Int), OpsLen f → chk m f = 0 → m ≤ acc.length → OpsLen acc → OpsLen (f.foldl fold1 acc) := by
  induction f with
  | nil => intro acc m _ _ _ h; exact h
  | cons o f ih =>
    intro acc m hn hc hm h
    rw [chk_cons] at hc
    split at hc
    · rename_i h2
      rw [List.foldl_cons]
      exact ih _ _ (fun u hu => hn u (List.mem_cons_of_mem _ hu)) hc (fold1_len acc o m (hn o (by simp)).2.1 h2.2 hm) (words_fold1 acc o m hm h2.2 h (hn o (by simp)))
    · cases hc
theorem check_zero {f : List Op} (h : check f = 0) : f.length ≤ 256 ∧ chk 0 f = 0 := by
  rw [check_def] at h
  split at h
  · cases h
  · exact ⟨by omega, h⟩
/-- What folding a valid formula gives. -/
theorem fold_means (f : List Op) (hL : OpsLen f) (h : check f = 0) : ∃ g, fold f = (g, 0) ∧ g.length ≤ f.length ∧ OpsLen g ∧ check g = 0 ∧ fold g = (g, 0) ∧ vrun g = vrun f := by
  obtain ⟨h256, hc⟩ := check_zero h
  have hn : ∀ o ∈ f, 0 ≤ o.n := fun o ho => (hL o ho).2.1
  have e : fold f = (f.foldl fold1 [], 0) := by rw [fold_def, if_neg (fun c => c h)]
  have hlen := fold_len f
  rw [e] at hlen
  have hchk : check (f.foldl fold1 []) = 0 := by
    dsimp only at hlen
    rw [check_def, if_neg (by omega)]
    exact (chk_dep _ _).2 (dep_foldl f [] 0 hn ((chk_dep f 0).1 hc) (by simp) rfl)
  refine ⟨_, e, hlen, words_foldl f [] 0 hL hc (by simp) (fun o ho => by simp at ho), hchk, ?_, ?_⟩
  · rw [fold_def, if_neg (fun c => c hchk)]
    exact congrArg (fun x => (x, (0 : Int))) (stable_foldl f [] 0 hn hc (by simp) rfl)
  · exact vrun_foldl f [] 0 hn hc (by simp)
end Ex
end Go.Proofs.YtkkkiacbikbalaaDoor
