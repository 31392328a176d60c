/- Paths, lines and trees of files, as plain functions. No condition. -/
import Derived.Lib.SplitLaws
import Derived.Lib.CountLaws
import GoSem.Op.String
namespace Go.Proofs.YtkmldaelgbkfbaaDoor.Tr
namespace Tre

/-- The parts between the bytes c. -/
def split (c : UInt8) : List UInt8 → List (List UInt8)
  | [] => [[]]
  | x :: s => if x = c then [] :: split c s else match split c s with
    | [] => [[x]]
    | p :: r => (x :: p) :: r
def byteOk (c : UInt8) : Bool := decide ((97 ≤ c.toNat ∧ c.toNat ≤ 122) ∨ (48 ≤ c.toNat ∧ c.toNat ≤ 57) ∨ c.toNat = 46 ∨ c.toNat = 95 ∨ c.toNat = 45)
/-- Whether a row of bytes is a name part. -/
def part (s : List UInt8) : Bool := decide (1 ≤ s.length ∧ s.length ≤ 32) && !(s.head? == some 46) && !(s.head? == some 45) && s.all byteOk
def pathOk (s : List UInt8) : Bool := decide (s.length ≤ 128) && decide ((split 47 s).length ≤ 8) && (split 47 s).all part
def path (s : List UInt8) : Int := if pathOk s = true then 0 else 2
/-- Whether a path is below another one. -/
def below (p d : List UInt8) : Bool := decide (d.length < p.length) && (p.take d.length == d) && (p[d.length]? == some 47)
structure Fl where
  path : List UInt8
  data : List UInt8
deriving DecidableEq, Inhabited
def after (a b : List UInt8) : Bool := Op.bytesLess b a || b == a
/-- The error of the files behind some others. -/
def checkAt (seen : List Fl) : List Fl → Int
  | [] => 0
  | f :: t =>
    if pathOk f.path = false then 2
    else if 65536 < f.data.length then 10
    else if (seen.getLast?.any fun g => Op.bytesLess f.path g.path || f.path == g.path) = true then 5
    else if (seen.any fun g => below f.path g.path) = true then 6
    else checkAt (seen ++ [f]) t
def check (t : List Fl) : Int := if 64 < t.length then 10 else checkAt [] t
def find (t : List Fl) (p : List UInt8) : List UInt8 × Bool :=
  match t.find? (fun f => f.path == p) with
  | some f => (f.data, true)
  | none => ([], false)
def drop (t : List Fl) (p : List UInt8) : List Fl := t.filter fun f => !(f.path == p)
/-- The lines of a text, or the error. -/
def lines (s : List UInt8) : List (List UInt8) × Int := if 65536 < s.length ∨ 1024 < (split 10 s).length then ([], 10) else (split 10 s, 0)
/-- The bytes of lines, with a line feed between two. -/
def joined : List (List UInt8) → List UInt8
  | [] => []
  | [a] => a
  | a :: b :: l => a ++ 10 :: joined (b :: l)
def join (l : List (List UInt8)) : List UInt8 × Int :=
  if l = [] ∨ (l.any fun s => s.contains 10) = true then ([], 1)
  else if 65536 < (joined l).length ∨ 1024 < l.length then ([], 10) else (joined l, 0)

theorem split_ne (c : UInt8) (s : List UInt8) : split c s ≠ [] := by
  cases s with
  | nil => simp [split]
  | cons x s =>
    unfold split
    split
    · simp
    · split <;> simp
theorem split_hit (c : UInt8) (s : List UInt8) : split c (c :: s) = [] :: split c s := by simp [split]
theorem split_miss (c x : UInt8) (s : List UInt8) (h : x ≠ c) : ∃ p r, split c s = p :: r ∧ split c (x :: s) = (x :: p) :: r := by
  cases hs : split c s with
  | nil => exact absurd hs (split_ne c s)
  | cons p r => exact ⟨p, r, rfl, by simp [split, h, hs]⟩
/-- In front of the first c. -/
theorem split_front (c : UInt8) (a : List UInt8) (s : List UInt8) (h : ∀ x ∈ a, x ≠ c) : ∃ p r, split c s = p :: r ∧ split c (a ++ s) = (a ++ p) :: r := by
  induction a with
  | nil =>
    cases hs : split c s with
    | nil => exact absurd hs (split_ne c s)
    | cons p r => exact ⟨p, r, rfl, hs⟩
  | cons x a ih =>
    obtain ⟨p, r, h1, h2⟩ := ih (fun y hy => h y (by simp [hy]))
    obtain ⟨p', r', h3, h4⟩ := split_miss c x (a ++ s) (h x (by simp))
    rw [h2] at h3
    injection h3 with e1 e2
    subst e1 e2
    exact ⟨p, r, h1, h4⟩
theorem split_end (c : UInt8) (a : List UInt8) (h : ∀ x ∈ a, x ≠ c) : split c a = [a] := by
  obtain ⟨p, r, h1, h2⟩ := split_front c a [] h
  simp only [split, List.cons.injEq] at h1
  obtain ⟨rfl, rfl⟩ := h1
  simpa using h2
theorem split_cut (c : UInt8) (a s : List UInt8) (h : ∀ x ∈ a, x ≠ c) : split c (a ++ c :: s) = a :: split c s := by
  obtain ⟨p, r, h1, h2⟩ := split_front c a (c :: s) h
  rw [split_hit] at h1
  injection h1 with e1 e2
  subst e1 e2
  simpa using h2
theorem split_count (c : UInt8) (s : List UInt8) : (split c s).length = s.count c + 1 := by
  induction s with
  | nil => rfl
  | cons x s ih =>
    by_cases h : x = c
    · subst h; rw [split_hit]; simp [ih]
    · obtain ⟨p, r, h1, h2⟩ := split_miss c x s h
      rw [h2, List.count_cons_of_ne (by simpa using h)]
      rw [h1] at ih
      simpa using ih
theorem split_le (c : UInt8) (s : List UInt8) : ∀ p ∈ split c s, p.length ≤ s.length := by
  induction s with
  | nil => simp [split]
  | cons x s ih =>
    by_cases h : x = c
    · subst h; rw [split_hit]
      intro p hp
      rcases List.mem_cons.1 hp with rfl | hp
      · simp
      · have := ih p hp; simp; omega
    · obtain ⟨p, r, h1, h2⟩ := split_miss c x s h
      rw [h2]
      intro q hq
      rcases List.mem_cons.1 hq with rfl | hq
      · have := ih p (by simp [h1]); simp; omega
      · have := ih q (by simp [h1, hq]); simp; omega
theorem split_pure (c : UInt8) (s : List UInt8) : ∀ p ∈ split c s, ∀ x ∈ p, x ≠ c := by
  induction s with
  | nil => simp [split]
  | cons y s ih =>
    by_cases h : y = c
    · subst h; rw [split_hit]
      intro p hp
      rcases List.mem_cons.1 hp with rfl | hp
      · simp
      · exact ih p hp
    · obtain ⟨p, r, h1, h2⟩ := split_miss c y s h
      rw [h2]
      intro q hq
      rcases List.mem_cons.1 hq with rfl | hq
      · intro x hx
        rcases List.mem_cons.1 hx with rfl | hx
        · exact h
        · exact ih p (by simp [h1]) x hx
      · exact ih q (by simp [h1, hq])
theorem joined_split (s : List UInt8) : joined (split 10 s) = s := by
  induction s with
  | nil => rfl
  | cons x s ih =>
    by_cases h : x = 10
    · subst h; rw [split_hit]
      cases hs : split 10 s with
      | nil => exact absurd hs (split_ne 10 s)
      | cons p r => rw [hs] at ih; simp [joined, ih]
    · obtain ⟨p, r, h1, h2⟩ := split_miss 10 x s h
      rw [h2]
      rw [h1] at ih
      cases r with
      | nil => simp [joined] at ih ⊢; exact ih
      | cons q r => simp [joined] at ih ⊢; exact ih
theorem split_joined (l : List (List UInt8)) (hl : l ≠ []) (h : ∀ p ∈ l, ∀ x ∈ p, x ≠ 10) : split 10 (joined l) = l := by
  induction l with
  | nil => exact absurd rfl hl
  | cons a l ih =>
    cases l with
    | nil => exact split_end 10 a (h a (by simp))
    | cons b l =>
      show split 10 (a ++ 10 :: joined (b :: l)) = _
      rw [split_cut 10 a _ (h a (by simp)), ih (by simp) (fun p hp => h p (by simp [hp]))]
theorem contains_iff (s : List UInt8) (c : UInt8) : s.contains c = decide (1 < (split c s).length) := by
  rw [split_count, Bool.eq_iff_iff]
  simp only [List.contains_iff_mem, decide_eq_true_iff]
  rw [← List.count_pos_iff]
  omega
theorem joined_len : ∀ (l : List (List UInt8)), l ≠ [] → (joined l).length + 1 = (l.map (·.length)).sum + l.length
  | [], h => absurd rfl h
  | [a], _ => by simp [joined]
  | a :: b :: l, _ => by
    have ih := joined_len (b :: l) (by simp)
    simp only [joined, List.length_append, List.length_cons, List.map_cons, List.sum_cons] at ih ⊢
    omega
theorem checkAt_cons (seen : List Fl) (f : Fl) (t : List Fl) : checkAt seen (f :: t) = if pathOk f.path = false then 2
    else if 65536 < f.data.length then 10
    else if (seen.getLast?.any fun g => Op.bytesLess f.path g.path || f.path == g.path) = true then 5
    else if (seen.any fun g => below f.path g.path) = true then 6
    else checkAt (seen ++ [f]) t := rfl
theorem checkAt_range (seen t : List Fl) : checkAt seen t = 0 ∨ checkAt seen t = 2 ∨ checkAt seen t = 10 ∨ checkAt seen t = 5 ∨ checkAt seen t = 6 := by
  induction t generalizing seen with
  | nil => exact .inl rfl
  | cons f t ih =>
    rw [checkAt_cons]
    split
    · simp
    · split
      · simp
      · split
        · simp
        · split
          · simp
          · exact ih _
theorem index_cons (x c : UInt8) (s : List UInt8) : Lib.index (x :: s) [c] = if x = c then 0 else if Lib.index s [c] = -1 then -1 else Lib.index s [c] + 1 := by
  rw [Lib.index_one, Lib.index_one]
  simp [Lib.indexByte]
theorem piecesL (c : UInt8) (s : List UInt8) : Lib.splitK [c] 0 (s.count c) s = split c s := by
  induction s with
  | nil => rfl
  | cons x s ih =>
    by_cases h : x = c
    · subst h
      rw [split_hit, List.count_cons_self, Lib.splitK, index_cons, if_pos rfl]
      simp [ih]
    · obtain ⟨p, r, h1, h2⟩ := split_miss c x s h
      rw [h2, List.count_cons_of_ne (by simpa using h)]
      rw [h1] at ih
      cases hk : s.count c with
      | zero =>
        rw [hk] at ih
        simp only [Lib.splitK, List.cons.injEq] at ih ⊢
        exact ⟨by simp [ih.1], ih.2⟩
      | succ k =>
        rw [hk] at ih
        have hi : Lib.index s [c] ≠ -1 := fun e => by
          rw [Lib.index_one] at e
          have := Lib.indexByte_none e
          have hm : c ∈ s := List.count_pos_iff.1 (by omega)
          obtain ⟨j, hj, e⟩ := List.mem_iff_getElem.1 hm
          exact this j (by rw [List.getElem?_eq_getElem hj, e])
        have hg := Lib.index_ge s [c]
        rw [Lib.splitK] at ih ⊢
        rw [index_cons, if_neg h, if_neg hi]
        have e1 : (Lib.index s [c] == -1) = false := by rw [beq_eq_false_iff_ne]; exact hi
        have e2 : (Lib.index s [c] + 1 == -1) = false := by rw [beq_eq_false_iff_ne]; omega
        have e3 : (Lib.index s [c] + 1).toNat = (Lib.index s [c]).toNat + 1 := by omega
        rw [e1] at ih
        rw [e2, e3]
        simp only [Bool.false_eq_true, if_false, List.cons.injEq, Nat.add_zero, List.length_singleton, List.take_succ_cons, List.drop_succ_cons] at ih ⊢
        exact ⟨by simp [ih.1], ih.2⟩
/-- The shelf's pieces are the parts. -/
theorem pieces (c : UInt8) (s : ByteArray) : (Lib.splitB ⟨#[c]⟩ 0 (Lib.countB s ⟨#[c]⟩) s).map (·.data.toList) = split c s.data.toList := by
  rw [Lib.splitB_data]
  show Lib.splitK [c] 0 (Lib.count s.data.toList [c]) _ = _
  rw [Lib.count_one, piecesL]
end Tre
end Go.Proofs.YtkmldaelgbkfbaaDoor.Tr
