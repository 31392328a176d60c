/- Paths, lines and trees of files, as plain functions. No condition.
Small facts on bytes and strings; name parts on both sides. No condition but the string's length.
The parts of a string: strings.Split at one byte, and the reference's. Condition: bytealg's MaxLen lies in its variable.
Paths on both sides; whether a path is below another one. Condition: bytealg's MaxLen lies in its variable.
Order of files, and what Check asks of them, as a property; plain. No condition. -/
import Derived.Lib.SplitLaws
import Derived.Lib.CountLaws
import GoSem.Op.String
import Derived.Test.YtjemffgidhgfjaaGreatDoorRows
import Derived.WalkKit
import Derived.WalkSpells
import Derived.WalkLawsBesides
import Derived.Lib.Hide
import Derived.Deep.DeepCutAuto
import Derived.Deep.LoopGhost
import Derived.Test.YtjemffgidhgfjaaGreatDoorShelf
import Derived.Deep.AppendLies
import Derived.Lib.Builder
import Derived.Lib.AppendStr
import Derived.Shelf.Small.Wraps
section
namespace Go.Proofs.YtjemffgidhgfjaaGreatDoor.Tr
namespace Tre

/-- The parts between the bytes c. -/
def split (c : UInt8) : List UInt8 → List (List UInt8)
  | [] => [[]]
  | x :: s => if x = c then [] :: split c s else match split c s with
    | [] => [[x]]
    | p :: r => (x :: p) :: r
def byteOk (c : UInt8) : Bool := decide ((97 ≤ c.toNat ∧ c.toNat ≤ 122) ∨ (48 ≤ c.toNat ∧ c.toNat ≤ 57) ∨ c.toNat = 46 ∨ c.toNat = 95 ∨ c.toNat = 45)
/-- Whether a row of bytes is a name part. -/
def part (s : List UInt8) : Bool := decide (1 ≤ s.length ∧ s.length ≤ 32) && !(s.head? == some 46) && !(s.head? == some 45) && s.all byteOk
def pathOk (s : List UInt8) : Bool := decide (s.length ≤ 128) && decide ((split 47 s).length ≤ 8) && (split 47 s).all part
def path (s : List UInt8) : Int := if pathOk s = true then 0 else 2
/-- Whether a path is below another one. -/
def below (p d : List UInt8) : Bool := decide (d.length < p.length) && (p.take d.length == d) && (p[d.length]? == some 47)
structure Fl where
  path : List UInt8
  data : List UInt8
deriving DecidableEq, Inhabited
def after (a b : List UInt8) : Bool := Op.bytesLess b a || b == a
/-- The error of the files behind some others. -/
def checkAt (seen : List Fl) : List Fl → Int
  | [] => 0
  | f :: t =>
    if pathOk f.path = false then 2
    else if 65536 < f.data.length then 10
    else if (seen.getLast?.any fun g => Op.bytesLess f.path g.path || f.path == g.path) = true then 5
    else if (seen.any fun g => below f.path g.path) = true then 6
    else checkAt (seen ++ [f]) t
def check (t : List Fl) : Int := if 64 < t.length then 10 else checkAt [] t
def find (t : List Fl) (p : List UInt8) : List UInt8 × Bool :=
  match t.find? (fun f => f.path == p) with
  | some f => (f.data, true)
  | none => ([], false)
def drop (t : List Fl) (p : List UInt8) : List Fl := t.filter fun f => !(f.path == p)
/-- The lines of a text, or the error. -/
def lines (s : List UInt8) : List (List UInt8) × Int := if 65536 < s.length ∨ 1024 < (split 10 s).length then ([], 10) else (split 10 s, 0)
/-- The bytes of lines, with a line feed between two. -/
def joined : List (List UInt8) → List UInt8
  | [] => []
  | [a] => a
  | a :: b :: l => a ++ 10 :: joined (b :: l)
def join (l : List (List UInt8)) : List UInt8 × Int :=
  if l = [] ∨ (l.any fun s => s.contains 10) = true then ([], 1)
  else if 65536 < (joined l).length ∨ 1024 < l.length then ([], 10) else (joined l, 0)

theorem split_ne (c : UInt8) (s : List UInt8) : split c s ≠ [] := by
  cases s with
  | nil => simp [split]
  | cons x s =>
    unfold split
    split
    · simp
    · split <;> simp
theorem split_hit (c : UInt8) (s : List UInt8) : split c (c :: s) = [] :: split c s := by simp [split]
theorem split_miss (c x : UInt8) (s : List UInt8) (h : x ≠ c) : ∃ p r, split c s = p :: r ∧ split c (x :: s) = (x :: p) :: r := by
  cases hs : split c s with
  | nil => exact absurd hs (split_ne c s)
  | cons p r => exact ⟨p, r, rfl, by simp [split, h, hs]⟩
/-- In front of the first c. -/
theorem split_front (c : UInt8) (a : List UInt8) (s : List UInt8) (h : ∀ x ∈ a, x ≠ c) : ∃ p r, split c s = p :: r ∧ split c (a ++ s) = (a ++ p) :: r := by
  induction a with
  | nil =>
    cases hs : split c s with
    | nil => exact absurd hs (split_ne c s)
    | cons p r => exact ⟨p, r, rfl, hs⟩
  | cons x a ih =>
    obtain ⟨p, r, h1, h2⟩ := ih (fun y hy => h y (by simp [hy]))
    obtain ⟨p', r', h3, h4⟩ := split_miss c x (a ++ s) (h x (by simp))
    rw [h2] at h3
    injection h3 with e1 e2
    subst e1 e2
    exact ⟨p, r, h1, h4⟩
theorem split_end (c : UInt8) (a : List UInt8) (h : ∀ x ∈ a, x ≠ c) : split c a = [a] := by
  obtain ⟨p, r, h1, h2⟩ := split_front c a [] h
  simp only [split, List.cons.injEq] at h1
  obtain ⟨rfl, rfl⟩ := h1
  simpa using h2
theorem split_cut (c : UInt8) (a s : List UInt8) (h : ∀ x ∈ a, x ≠ c) : split c (a ++ c :: s) = a :: split c s := by
  obtain ⟨p, r, h1, h2⟩ := split_front c a (c :: s) h
  rw [split_hit] at h1
  injection h1 with e1 e2
  subst e1 e2
  simpa using h2
theorem split_count (c : UInt8) (s : List UInt8) : (split c s).length = s.count c + 1 := by
  induction s with
  | nil => rfl
  | cons x s ih =>
    by_cases h : x = c
    · subst h; rw [split_hit]; simp [ih]
    · obtain ⟨p, r, h1, h2⟩ := split_miss c x s h
      rw [h2, List.count_cons_of_ne (by simpa using h)]
      rw [h1] at ih
      simpa using ih
theorem split_le (c : UInt8) (s : List UInt8) : ∀ p ∈ split c s, p.length ≤ s.length := by
  induction s with
  | nil => simp [split]
  | cons x s ih =>
    by_cases h : x = c
    · subst h; rw [split_hit]
      intro p hp
      rcases List.mem_cons.1 hp with rfl | hp
      · simp
      · have := ih p hp; simp; omega
    · obtain ⟨p, r, h1, h2⟩ := split_miss c x s h
      rw [h2]
      intro q hq
      rcases List.mem_cons.1 hq with rfl | hq
      · have := ih p (by simp [h1]); simp; omega
      · have := ih q (by simp [h1, hq]); simp; omega
theorem split_pure (c : UInt8) (s : List UInt8) : ∀ p ∈ split c s, ∀ x ∈ p, x ≠ c := by
  induction s with
  | nil => simp [split]
  | cons y s ih =>
    by_cases h : y = c
    · subst h; rw [split_hit]
      intro p hp
      rcases List.mem_cons.1 hp with rfl | hp
      · simp
      · exact ih p hp
    · obtain ⟨p, r, h1, h2⟩ := split_miss c y s h
      rw [h2]
      intro q hq
      rcases List.mem_cons.1 hq with rfl | hq
      · intro x hx
        rcases List.mem_cons.1 hx with rfl | hx
        · exact h
        · exact ih p (by simp [h1]) x hx
      · exact ih q (by simp [h1, hq])
theorem joined_split (s : List UInt8) : joined (split 10 s) = s := by
  induction s with
  | nil => rfl
  | cons x s ih =>
    by_cases h : x = 10
    · subst h; rw [split_hit]
      cases hs : split 10 s with
      | nil => exact absurd hs (split_ne 10 s)
      | cons p r => rw [hs] at ih; simp [joined, ih]
    · obtain ⟨p, r, h1, h2⟩ := split_miss 10 x s h
      rw [h2]
      rw [h1] at ih
      cases r with
      | nil => simp [joined] at ih ⊢; exact ih
      | cons q r => simp [joined] at ih ⊢; exact ih
theorem split_joined (l : List (List UInt8)) (hl : l ≠ []) (h : ∀ p ∈ l, ∀ x ∈ p, x ≠ 10) : split 10 (joined l) = l := by
  induction l with
  | nil => exact absurd rfl hl
  | cons a l ih =>
    cases l with
    | nil => exact split_end 10 a (h a (by simp))
    | cons b l =>
      show split 10 (a ++ 10 :: joined (b :: l)) = _
      rw [split_cut 10 a _ (h a (by simp)), ih (by simp) (fun p hp => h p (by simp [hp]))]
theorem contains_iff (s : List UInt8) (c : UInt8) : s.contains c = decide (1 < (split c s).length) := by
  rw [split_count, Bool.eq_iff_iff]
  simp only [List.contains_iff_mem, decide_eq_true_iff]
  rw [← List.count_pos_iff]
  omega
theorem joined_len : ∀ (l : List (List UInt8)), l ≠ [] → (joined l).length + 1 = (l.map (·.length)).sum + l.length
  | [], h => absurd rfl h
  | [a], _ => by simp [joined]
  | a :: b :: l, _ => by
    have ih := joined_len (b :: l) (by simp)
    simp only [joined, List.length_append, List.length_cons, List.map_cons, List.sum_cons] at ih ⊢
    omega
theorem checkAt_cons (seen : List Fl) (f : Fl) (t : List Fl) : checkAt seen (f :: t) = if pathOk f.path = false then 2
    else if 65536 < f.data.length then 10
    else if (seen.getLast?.any fun g => Op.bytesLess f.path g.path || f.path == g.path) = true then 5
    else if (seen.any fun g => below f.path g.path) = true then 6
    else checkAt (seen ++ [f]) t := rfl
theorem checkAt_range (seen t : List Fl) : checkAt seen t = 0 ∨ checkAt seen t = 2 ∨ checkAt seen t = 10 ∨ checkAt seen t = 5 ∨ checkAt seen t = 6 := by
  induction t generalizing seen with
  | nil => exact .inl rfl
  | cons f t ih =>
    rw [checkAt_cons]
    split
    · simp
    · split
      · simp
      · split
        · simp
        · split
          · simp
          · exact ih _
theorem index_cons (x c : UInt8) (s : List UInt8) : Lib.index (x :: s) [c] = if x = c then 0 else if Lib.index s [c] = -1 then -1 else Lib.index s [c] + 1 := by
  rw [Lib.index_one, Lib.index_one]
  simp [Lib.indexByte]
theorem piecesL (c : UInt8) (s : List UInt8) : Lib.splitK [c] 0 (s.count c) s = split c s := by
  induction s with
  | nil => rfl
  | cons x s ih =>
    by_cases h : x = c
    · subst h
      rw [split_hit, List.count_cons_self, Lib.splitK, index_cons, if_pos rfl]
      simp [ih]
    · obtain ⟨p, r, h1, h2⟩ := split_miss c x s h
      rw [h2, List.count_cons_of_ne (by simpa using h)]
      rw [h1] at ih
      cases hk : s.count c with
      | zero =>
        rw [hk] at ih
        simp only [Lib.splitK, List.cons.injEq] at ih ⊢
        exact ⟨by simp [ih.1], ih.2⟩
      | succ k =>
        rw [hk] at ih
        have hi : Lib.index s [c] ≠ -1 := fun e => by
          rw [Lib.index_one] at e
          have := Lib.indexByte_none e
          have hm : c ∈ s := List.count_pos_iff.1 (by omega)
          obtain ⟨j, hj, e⟩ := List.mem_iff_getElem.1 hm
          exact this j (by rw [List.getElem?_eq_getElem hj, e])
        have hg := Lib.index_ge s [c]
        rw [Lib.splitK] at ih ⊢
        rw [index_cons, if_neg h, if_neg hi]
        have e1 : (Lib.index s [c] == -1) = false := by rw [beq_eq_false_iff_ne]; exact hi
        have e2 : (Lib.index s [c] + 1 == -1) = false := by rw [beq_eq_false_iff_ne]; omega
        have e3 : (Lib.index s [c] + 1).toNat = (Lib.index s [c]).toNat + 1 := by omega
        rw [e1] at ih
        rw [e2, e3]
        simp only [Bool.false_eq_true, if_false, List.cons.injEq, Nat.add_zero, List.length_singleton, List.take_succ_cons, List.drop_succ_cons] at ih ⊢
        exact ⟨by simp [ih.1], ih.2⟩
/-- The shelf's pieces are the parts. -/
theorem pieces (c : UInt8) (s : ByteArray) : (Lib.splitB ⟨#[c]⟩ 0 (Lib.countB s ⟨#[c]⟩) s).map (·.data.toList) = split c s.data.toList := by
  rw [Lib.splitB_data]
  show Lib.splitK [c] 0 (Lib.count s.data.toList [c]) _ = _
  rw [Lib.count_one, piecesL]
end Tre
end Go.Proofs.YtjemffgidhgfjaaGreatDoor.Tr
end
section
namespace Go.Proofs.YtjemffgidhgfjaaGreatDoor.Tr
open Go.RowKit

/-- Bytes as a string. -/
def str (l : List UInt8) : ByteArray := ⟨l.toArray⟩
theorem str_data (l : List UInt8) : (str l).data.toList = l := rfl
theorem str_app (a b : List UInt8) : str a ++ str b = str (a ++ b) := by
  apply ByteArray.ext; simp [str]
theorem str_size (l : List UInt8) : (str l).size = l.length := by show l.toArray.size = _; simp
theorem str_of (s : ByteArray) : str s.data.toList = s := by apply ByteArray.ext; simp [str]
theorem size_data (s : ByteArray) : s.data.toList.length = s.size := rfl
theorem str_inj {a b : List UInt8} (h : str a = str b) : a = b := by have := congrArg (fun x => x.data.toList) h; exact this
theorem ext_take (s : ByteArray) (a : Nat) : s.extract 0 a = str (s.data.toList.take a) := by
  rw [← str_of (s.extract 0 a)]
  congr 1
  rw [ByteArray.data_extract, Array.toList_extract]
  simp only [List.extract_eq_take_drop]
  simp
theorem ext_drop (s : ByteArray) (a : Nat) : s.extract a s.size = str (s.data.toList.drop a) := by
  rw [← str_of (s.extract a s.size)]
  congr 1
  rw [ByteArray.data_extract, Array.toList_extract]
  have h : s.size = s.data.toList.length := rfl
  rw [h]
  simp only [List.extract_eq_take_drop]
  exact List.take_of_length_le (by simp)
theorem ext_mid (s : ByteArray) (a b : Nat) : s.extract a b = str ((s.data.toList.drop a).take (b - a)) := by
  rw [← str_of (s.extract a b)]
  congr 1
  rw [ByteArray.data_extract, Array.toList_extract, List.extract_eq_take_drop]
theorem get_s (s : ByteArray) (k : Nat) (h : k < s.size) : s.data.toList.drop k = s[k] :: s.data.toList.drop (k + 1) := by
  have hl : k < s.data.toList.length := h
  rw [List.drop_eq_getElem_cons hl]
  rfl
theorem ret_bool {a b : Bool} (h : a = b) : Ending.returned (.bool a) = .returned (.bool b) := by rw [h]
theorem ret_int {k : IntKind} {a b : Int} (h : a = b) : Ending.returned (.int k a) = .returned (.int k b) := by rw [h]
theorem get_d (s : ByteArray) (k : Nat) (h : k < s.size) : s.data.toList[k]? = some s[k] := by
  have hl : k < s.data.toList.length := h
  rw [List.getElem?_eq_getElem hl]; rfl
theorem head_s (s : ByteArray) (h : 0 < s.size) : s.data.toList.head? = some s[0] := by
  rw [List.head?_eq_getElem?]; exact get_d s 0 h
theorem ne_list (s : ByteArray) (h : ¬ s.size = 0) : ¬ s.toList = [] := fun e => by
  rw [ByteArray.toList_eq] at e
  have := congrArg List.length e
  rw [size_data] at this
  exact h this
theorem nat_ne {c : UInt8} {k : UInt8} (h : c ≠ k) : c.toNat ≠ k.toNat := fun e => h (UInt8.toNat_inj.1 e)
theorem part_def (s : List UInt8) : Tre.part s = (decide (1 ≤ s.length ∧ s.length ≤ 32) && !(s.head? == some 46) && !(s.head? == some 45) && s.all Tre.byteOk) := rfl
theorem byte_def (c : UInt8) : Tre.byteOk c = decide ((97 ≤ c.toNat ∧ c.toNat ≤ 122) ∨ (48 ≤ c.toNat ∧ c.toNat ≤ 57) ∨ c.toNat = 46 ∨ c.toNat = 95 ∨ c.toNat = 45) := rfl
theorem all_drop (p : UInt8 → Bool) (s : ByteArray) (k : Nat) (h : k < s.size) : (s.data.toList.drop k).all p = (p s[k] && (s.data.toList.drop (k + 1)).all p) := by
  rw [get_s s k h, List.all_cons]
set_option maxHeartbeats 4000000 in
set_option maxRecDepth 100000 in
theorem part_any (s : ByteArray) (w : World) (hs : s.size ≤ 1000000000) :
    Calls Tryz.prog 77 #[.string s] w fun e w' => e = .returned (.bool (Tre.part s.data.toList)) ∧ w = w' := by
  have HV := Lib.hid (part_def s.data.toList)
  generalize Tre.part s.data.toList = v at *
  by_cases h0 : s.size = 0
  · have HT := Lib.hid (show v = false by rw [HV.out, size_data, h0]; rfl)
    have he : s = ⟨#[]⟩ := by apply ByteArray.ext; exact Array.eq_empty_of_size_eq_zero h0
    subst he
    clear HV
    go_enter Tryz.func77, Tryz.ntmps77
    go_wp2_with fail
    go_ret
    exact ⟨ret_bool (by rw [HT.out]), rfl⟩
  have h1 : 1 ≤ s.size := by omega
  have n0 : (s.size == 0) = false := by rw [beq_eq_false_iff_ne]; exact h0
  have ne := ne_list s h0
  have ni : s.toList.isEmpty = false := by rw [List.isEmpty_eq_false_iff]; exact ne
  have i1 : decide ((s.size : Int) < 1) = false := by simp; omega
  have i1n : decide (s.size < 1) = false := decide_eq_false (by omega)
  by_cases h32 : 32 < s.size
  · have b0 : decide ((32 : Int) < s.size) = true := by simp; omega
    have b0n : decide (32 < s.size) = true := by simp; omega
    have HT := Lib.hid (show v = false by rw [HV.out, size_data, show decide (1 ≤ s.size ∧ s.size ≤ 32) = false by simp; omega]; rfl)
    clear HV h0
    go_enter Tryz.func77, Tryz.ntmps77
    go_wp2_with fail
    go_ret
    exact ⟨ret_bool (by rw [HT.out]), rfl⟩
  have b0 : decide ((32 : Int) < s.size) = false := by simp; omega
  have b0n : decide (32 < s.size) = false := by simp; omega
  have h0s : 0 < s.size := h1
  have HH := Lib.hid (head_s s h0s)
  by_cases hd : s[0] = 46 ∨ s[0] = 45
  · have HT := Lib.hid (show v = false by rw [HV.out, HH.out]; rcases hd with e | e <;> rw [e] <;> simp)
    clear HV HH h0
    have hq : (s[0].toNat = 46 ∨ s[0].toNat = 45) := hd.imp (fun e => by rw [e]; rfl) (fun e => by rw [e]; rfl)
    clear hd
    generalize hc : s[0] = c at *
    rcases hq with q | q
    · have e1 : ((c.toNat : Int) == 46) = true := by rw [beq_iff_eq]; omega
      have e1n : (c.toNat == 46) = true := by rw [beq_iff_eq]; omega
      clear q
      go_enter Tryz.func77, Tryz.ntmps77
      go_wp2_with fail
      go_ret
      exact ⟨ret_bool (by rw [HT.out]), rfl⟩
    · have e1 : ((c.toNat : Int) == 46) = false := by rw [beq_eq_false_iff_ne]; omega
      have e1n : (c.toNat == 46) = false := by rw [beq_eq_false_iff_ne]; omega
      have e2 : ((c.toNat : Int) == 45) = true := by rw [beq_iff_eq]; omega
      have e2n : (c.toNat == 45) = true := by rw [beq_iff_eq]; omega
      clear q
      go_enter Tryz.func77, Tryz.ntmps77
      go_wp2_with fail
      go_ret
      exact ⟨ret_bool (by rw [HT.out]), rfl⟩
  have hd1 : s[0] ≠ 46 := fun e => hd (.inl e)
  have hd2 : s[0] ≠ 45 := fun e => hd (.inr e)
  have g1 : s[0].toNat ≠ 46 := nat_ne hd1
  have g2 : s[0].toNat ≠ 45 := nat_ne hd2
  have d1 : ((s[0].toNat : Int) == 46) = false := by rw [beq_eq_false_iff_ne]; omega
  have d2 : ((s[0].toNat : Int) == 45) = false := by rw [beq_eq_false_iff_ne]; omega
  have d1n : (s[0].toNat == 46) = false := by rw [beq_eq_false_iff_ne]; exact g1
  have d2n : (s[0].toNat == 45) = false := by rw [beq_eq_false_iff_ne]; exact g2
  have HA := Lib.hid (show v = s.data.toList.all Tre.byteOk by
    rw [HV.out, HH.out, size_data]
    have x1 : (some s[0] == some (46 : UInt8)) = false := by rw [beq_eq_false_iff_ne]; intro e; exact hd1 (Option.some.inj e)
    have x2 : (some s[0] == some (45 : UInt8)) = false := by rw [beq_eq_false_iff_ne]; intro e; exact hd2 (Option.some.inj e)
    rw [x1, x2]
    have x3 : decide (1 ≤ s.size ∧ s.size ≤ 32) = true := by simp; omega
    rw [x3]; rfl)
  have HL := Lib.hid (show s.size ≤ 32 by omega)
  clear HV HH hd hd1 hd2 g1 g2 h0 h32
  go_enter Tryz.func77, Tryz.ntmps77
  go_wp2_with fail
  go_loopw [24] (fun i wr => ∃ k : Nat, k ≤ s.size ∧ i = .int .i64 k ∧ v = (s.data.toList.drop k).all Tre.byteOk ∧ wr = w) (fun i _ => s.size - (intOf i).toNat)
  case atStart => exact ⟨0, by omega, rfl, by rw [HA.out, List.drop_zero], rfl⟩
  case round =>
    clear d1 d2 d1n d2n HA
    obtain ⟨k, hk, rfl, hv, rfl⟩ := hrel
    by_cases hlt : k < s.size
    · have b1 : decide ((k : Int) < s.size) = true := by simp; omega
      have b1n : decide (k < s.size) = true := by simp; omega
      rw [all_drop _ s k hlt] at hv
      have HVV := Lib.hid hv
      have hcl := s[k].toNat_lt
      have HB := Lib.hid (byte_def s[k])
      clear hv
      generalize hcg : s[k] = c at *
      have hsplit : (97 ≤ c.toNat ∧ c.toNat ≤ 122) ∨ (48 ≤ c.toNat ∧ c.toNat ≤ 57) ∨ (c.toNat = 46) ∨ (c.toNat = 95) ∨ (c.toNat = 45) ∨ (c.toNat < 48 ∧ c.toNat ≠ 46 ∧ c.toNat ≠ 45) ∨ (57 < c.toNat ∧ c.toNat < 97 ∧ c.toNat ≠ 95) ∨ (122 < c.toNat) := by omega
      rcases hsplit with hx | hx | hx | hx | hx | hx | hx | hx
      · have f0 : decide ((c.toNat : Int) < 97) = false := by simp; omega
        have f0n : decide (c.toNat < 97) = false := by simp; omega
        have f1 : decide ((122 : Int) < (c.toNat : Int)) = false := by simp; omega
        have f1n : decide (122 < c.toNat) = false := by simp; omega
        have f2 : decide ((c.toNat : Int) < 48) = false := by simp; omega
        have f2n : decide (c.toNat < 48) = false := by simp; omega
        have f3 : decide ((57 : Int) < (c.toNat : Int)) = true := by simp; omega
        have f3n : decide (57 < c.toNat) = true := by simp; omega
        have e46 : ((c.toNat : Int) == 46) = false := by rw [beq_eq_false_iff_ne]; omega
        have e46n : (c.toNat == 46) = false := by rw [beq_eq_false_iff_ne]; omega
        have n46 : ((c.toNat : Int) != 46) = true := by rw [bne_iff_ne]; omega
        have e95 : ((c.toNat : Int) == 95) = false := by rw [beq_eq_false_iff_ne]; omega
        have e95n : (c.toNat == 95) = false := by rw [beq_eq_false_iff_ne]; omega
        have n95 : ((c.toNat : Int) != 95) = true := by rw [bne_iff_ne]; omega
        have e45 : ((c.toNat : Int) == 45) = false := by rw [beq_eq_false_iff_ne]; omega
        have e45n : (c.toNat == 45) = false := by rw [beq_eq_false_iff_ne]; omega
        have n45 : ((c.toNat : Int) != 45) = true := by rw [bne_iff_ne]; omega
        have HN := Lib.hid (show v = (s.data.toList.drop (k + 1)).all Tre.byteOk by rw [HVV.out, HB.out]; rw [show decide ((97 ≤ c.toNat ∧ c.toNat ≤ 122) ∨ (48 ≤ c.toNat ∧ c.toNat ≤ 57) ∨ c.toNat = 46 ∨ c.toNat = 95 ∨ c.toNat = 45) = true by simp only [decide_eq_true_iff]; omega]; rfl)
        clear HVV HB hx
        go_wp2_with fail
        go_roundw
        case rel => exact ⟨k + 1, by omega, by go_num, HN.out, by trivial⟩
        case measure => simp [intOf]; omega
      · have f0 : decide ((c.toNat : Int) < 97) = true := by simp; omega
        have f0n : decide (c.toNat < 97) = true := by simp; omega
        have f1 : decide ((122 : Int) < (c.toNat : Int)) = false := by simp; omega
        have f1n : decide (122 < c.toNat) = false := by simp; omega
        have f2 : decide ((c.toNat : Int) < 48) = false := by simp; omega
        have f2n : decide (c.toNat < 48) = false := by simp; omega
        have f3 : decide ((57 : Int) < (c.toNat : Int)) = false := by simp; omega
        have f3n : decide (57 < c.toNat) = false := by simp; omega
        have e46 : ((c.toNat : Int) == 46) = false := by rw [beq_eq_false_iff_ne]; omega
        have e46n : (c.toNat == 46) = false := by rw [beq_eq_false_iff_ne]; omega
        have n46 : ((c.toNat : Int) != 46) = true := by rw [bne_iff_ne]; omega
        have e95 : ((c.toNat : Int) == 95) = false := by rw [beq_eq_false_iff_ne]; omega
        have e95n : (c.toNat == 95) = false := by rw [beq_eq_false_iff_ne]; omega
        have n95 : ((c.toNat : Int) != 95) = true := by rw [bne_iff_ne]; omega
        have e45 : ((c.toNat : Int) == 45) = false := by rw [beq_eq_false_iff_ne]; omega
        have e45n : (c.toNat == 45) = false := by rw [beq_eq_false_iff_ne]; omega
        have n45 : ((c.toNat : Int) != 45) = true := by rw [bne_iff_ne]; omega
        have HN := Lib.hid (show v = (s.data.toList.drop (k + 1)).all Tre.byteOk by rw [HVV.out, HB.out]; rw [show decide ((97 ≤ c.toNat ∧ c.toNat ≤ 122) ∨ (48 ≤ c.toNat ∧ c.toNat ≤ 57) ∨ c.toNat = 46 ∨ c.toNat = 95 ∨ c.toNat = 45) = true by simp only [decide_eq_true_iff]; omega]; rfl)
        clear HVV HB hx
        go_wp2_with fail
        go_roundw
        case rel => exact ⟨k + 1, by omega, by go_num, HN.out, by trivial⟩
        case measure => simp [intOf]; omega
      · have f0 : decide ((c.toNat : Int) < 97) = true := by simp; omega
        have f0n : decide (c.toNat < 97) = true := by simp; omega
        have f1 : decide ((122 : Int) < (c.toNat : Int)) = false := by simp; omega
        have f1n : decide (122 < c.toNat) = false := by simp; omega
        have f2 : decide ((c.toNat : Int) < 48) = true := by simp; omega
        have f2n : decide (c.toNat < 48) = true := by simp; omega
        have f3 : decide ((57 : Int) < (c.toNat : Int)) = false := by simp; omega
        have f3n : decide (57 < c.toNat) = false := by simp; omega
        have e46 : ((c.toNat : Int) == 46) = true := by rw [beq_iff_eq]; omega
        have e46n : (c.toNat == 46) = true := by rw [beq_iff_eq]; omega
        have n46 : ((c.toNat : Int) != 46) = false := by simp; omega
        have e95 : ((c.toNat : Int) == 95) = false := by rw [beq_eq_false_iff_ne]; omega
        have e95n : (c.toNat == 95) = false := by rw [beq_eq_false_iff_ne]; omega
        have n95 : ((c.toNat : Int) != 95) = true := by rw [bne_iff_ne]; omega
        have e45 : ((c.toNat : Int) == 45) = false := by rw [beq_eq_false_iff_ne]; omega
        have e45n : (c.toNat == 45) = false := by rw [beq_eq_false_iff_ne]; omega
        have n45 : ((c.toNat : Int) != 45) = true := by rw [bne_iff_ne]; omega
        have HN := Lib.hid (show v = (s.data.toList.drop (k + 1)).all Tre.byteOk by rw [HVV.out, HB.out]; rw [show decide ((97 ≤ c.toNat ∧ c.toNat ≤ 122) ∨ (48 ≤ c.toNat ∧ c.toNat ≤ 57) ∨ c.toNat = 46 ∨ c.toNat = 95 ∨ c.toNat = 45) = true by simp only [decide_eq_true_iff]; omega]; rfl)
        clear HVV HB hx
        go_wp2_with fail
        go_roundw
        case rel => exact ⟨k + 1, by omega, by go_num, HN.out, by trivial⟩
        case measure => simp [intOf]; omega
      · have f0 : decide ((c.toNat : Int) < 97) = true := by simp; omega
        have f0n : decide (c.toNat < 97) = true := by simp; omega
        have f1 : decide ((122 : Int) < (c.toNat : Int)) = false := by simp; omega
        have f1n : decide (122 < c.toNat) = false := by simp; omega
        have f2 : decide ((c.toNat : Int) < 48) = false := by simp; omega
        have f2n : decide (c.toNat < 48) = false := by simp; omega
        have f3 : decide ((57 : Int) < (c.toNat : Int)) = true := by simp; omega
        have f3n : decide (57 < c.toNat) = true := by simp; omega
        have e46 : ((c.toNat : Int) == 46) = false := by rw [beq_eq_false_iff_ne]; omega
        have e46n : (c.toNat == 46) = false := by rw [beq_eq_false_iff_ne]; omega
        have n46 : ((c.toNat : Int) != 46) = true := by rw [bne_iff_ne]; omega
        have e95 : ((c.toNat : Int) == 95) = true := by rw [beq_iff_eq]; omega
        have e95n : (c.toNat == 95) = true := by rw [beq_iff_eq]; omega
        have n95 : ((c.toNat : Int) != 95) = false := by simp; omega
        have e45 : ((c.toNat : Int) == 45) = false := by rw [beq_eq_false_iff_ne]; omega
        have e45n : (c.toNat == 45) = false := by rw [beq_eq_false_iff_ne]; omega
        have n45 : ((c.toNat : Int) != 45) = true := by rw [bne_iff_ne]; omega
        have HN := Lib.hid (show v = (s.data.toList.drop (k + 1)).all Tre.byteOk by rw [HVV.out, HB.out]; rw [show decide ((97 ≤ c.toNat ∧ c.toNat ≤ 122) ∨ (48 ≤ c.toNat ∧ c.toNat ≤ 57) ∨ c.toNat = 46 ∨ c.toNat = 95 ∨ c.toNat = 45) = true by simp only [decide_eq_true_iff]; omega]; rfl)
        clear HVV HB hx
        go_wp2_with fail
        go_roundw
        case rel => exact ⟨k + 1, by omega, by go_num, HN.out, by trivial⟩
        case measure => simp [intOf]; omega
      · have f0 : decide ((c.toNat : Int) < 97) = true := by simp; omega
        have f0n : decide (c.toNat < 97) = true := by simp; omega
        have f1 : decide ((122 : Int) < (c.toNat : Int)) = false := by simp; omega
        have f1n : decide (122 < c.toNat) = false := by simp; omega
        have f2 : decide ((c.toNat : Int) < 48) = true := by simp; omega
        have f2n : decide (c.toNat < 48) = true := by simp; omega
        have f3 : decide ((57 : Int) < (c.toNat : Int)) = false := by simp; omega
        have f3n : decide (57 < c.toNat) = false := by simp; omega
        have e46 : ((c.toNat : Int) == 46) = false := by rw [beq_eq_false_iff_ne]; omega
        have e46n : (c.toNat == 46) = false := by rw [beq_eq_false_iff_ne]; omega
        have n46 : ((c.toNat : Int) != 46) = true := by rw [bne_iff_ne]; omega
        have e95 : ((c.toNat : Int) == 95) = false := by rw [beq_eq_false_iff_ne]; omega
        have e95n : (c.toNat == 95) = false := by rw [beq_eq_false_iff_ne]; omega
        have n95 : ((c.toNat : Int) != 95) = true := by rw [bne_iff_ne]; omega
        have e45 : ((c.toNat : Int) == 45) = true := by rw [beq_iff_eq]; omega
        have e45n : (c.toNat == 45) = true := by rw [beq_iff_eq]; omega
        have n45 : ((c.toNat : Int) != 45) = false := by simp; omega
        have HN := Lib.hid (show v = (s.data.toList.drop (k + 1)).all Tre.byteOk by rw [HVV.out, HB.out]; rw [show decide ((97 ≤ c.toNat ∧ c.toNat ≤ 122) ∨ (48 ≤ c.toNat ∧ c.toNat ≤ 57) ∨ c.toNat = 46 ∨ c.toNat = 95 ∨ c.toNat = 45) = true by simp only [decide_eq_true_iff]; omega]; rfl)
        clear HVV HB hx
        go_wp2_with fail
        go_roundw
        case rel => exact ⟨k + 1, by omega, by go_num, HN.out, by trivial⟩
        case measure => simp [intOf]; omega
      · have f0 : decide ((c.toNat : Int) < 97) = true := by simp; omega
        have f0n : decide (c.toNat < 97) = true := by simp; omega
        have f1 : decide ((122 : Int) < (c.toNat : Int)) = false := by simp; omega
        have f1n : decide (122 < c.toNat) = false := by simp; omega
        have f2 : decide ((c.toNat : Int) < 48) = true := by simp; omega
        have f2n : decide (c.toNat < 48) = true := by simp; omega
        have f3 : decide ((57 : Int) < (c.toNat : Int)) = false := by simp; omega
        have f3n : decide (57 < c.toNat) = false := by simp; omega
        have e46 : ((c.toNat : Int) == 46) = false := by rw [beq_eq_false_iff_ne]; omega
        have e46n : (c.toNat == 46) = false := by rw [beq_eq_false_iff_ne]; omega
        have n46 : ((c.toNat : Int) != 46) = true := by rw [bne_iff_ne]; omega
        have e95 : ((c.toNat : Int) == 95) = false := by rw [beq_eq_false_iff_ne]; omega
        have e95n : (c.toNat == 95) = false := by rw [beq_eq_false_iff_ne]; omega
        have n95 : ((c.toNat : Int) != 95) = true := by rw [bne_iff_ne]; omega
        have e45 : ((c.toNat : Int) == 45) = false := by rw [beq_eq_false_iff_ne]; omega
        have e45n : (c.toNat == 45) = false := by rw [beq_eq_false_iff_ne]; omega
        have n45 : ((c.toNat : Int) != 45) = true := by rw [bne_iff_ne]; omega
        have HN := Lib.hid (show v = false by rw [HVV.out, HB.out]; rw [show decide ((97 ≤ c.toNat ∧ c.toNat ≤ 122) ∨ (48 ≤ c.toNat ∧ c.toNat ≤ 57) ∨ c.toNat = 46 ∨ c.toNat = 95 ∨ c.toNat = 45) = false by simp only [decide_eq_false_iff_not]; omega]; rfl)
        clear HVV HB hx
        go_wp2_with fail
        go_ret
        exact ⟨ret_bool (by rw [HN.out]), rfl⟩
      · have f0 : decide ((c.toNat : Int) < 97) = true := by simp; omega
        have f0n : decide (c.toNat < 97) = true := by simp; omega
        have f1 : decide ((122 : Int) < (c.toNat : Int)) = false := by simp; omega
        have f1n : decide (122 < c.toNat) = false := by simp; omega
        have f2 : decide ((c.toNat : Int) < 48) = false := by simp; omega
        have f2n : decide (c.toNat < 48) = false := by simp; omega
        have f3 : decide ((57 : Int) < (c.toNat : Int)) = true := by simp; omega
        have f3n : decide (57 < c.toNat) = true := by simp; omega
        have e46 : ((c.toNat : Int) == 46) = false := by rw [beq_eq_false_iff_ne]; omega
        have e46n : (c.toNat == 46) = false := by rw [beq_eq_false_iff_ne]; omega
        have n46 : ((c.toNat : Int) != 46) = true := by rw [bne_iff_ne]; omega
        have e95 : ((c.toNat : Int) == 95) = false := by rw [beq_eq_false_iff_ne]; omega
        have e95n : (c.toNat == 95) = false := by rw [beq_eq_false_iff_ne]; omega
        have n95 : ((c.toNat : Int) != 95) = true := by rw [bne_iff_ne]; omega
        have e45 : ((c.toNat : Int) == 45) = false := by rw [beq_eq_false_iff_ne]; omega
        have e45n : (c.toNat == 45) = false := by rw [beq_eq_false_iff_ne]; omega
        have n45 : ((c.toNat : Int) != 45) = true := by rw [bne_iff_ne]; omega
        have HN := Lib.hid (show v = false by rw [HVV.out, HB.out]; rw [show decide ((97 ≤ c.toNat ∧ c.toNat ≤ 122) ∨ (48 ≤ c.toNat ∧ c.toNat ≤ 57) ∨ c.toNat = 46 ∨ c.toNat = 95 ∨ c.toNat = 45) = false by simp only [decide_eq_false_iff_not]; omega]; rfl)
        clear HVV HB hx
        go_wp2_with fail
        go_ret
        exact ⟨ret_bool (by rw [HN.out]), rfl⟩
      · have f0 : decide ((c.toNat : Int) < 97) = false := by simp; omega
        have f0n : decide (c.toNat < 97) = false := by simp; omega
        have f1 : decide ((122 : Int) < (c.toNat : Int)) = true := by simp; omega
        have f1n : decide (122 < c.toNat) = true := by simp; omega
        have f2 : decide ((c.toNat : Int) < 48) = false := by simp; omega
        have f2n : decide (c.toNat < 48) = false := by simp; omega
        have f3 : decide ((57 : Int) < (c.toNat : Int)) = true := by simp; omega
        have f3n : decide (57 < c.toNat) = true := by simp; omega
        have e46 : ((c.toNat : Int) == 46) = false := by rw [beq_eq_false_iff_ne]; omega
        have e46n : (c.toNat == 46) = false := by rw [beq_eq_false_iff_ne]; omega
        have n46 : ((c.toNat : Int) != 46) = true := by rw [bne_iff_ne]; omega
        have e95 : ((c.toNat : Int) == 95) = false := by rw [beq_eq_false_iff_ne]; omega
        have e95n : (c.toNat == 95) = false := by rw [beq_eq_false_iff_ne]; omega
        have n95 : ((c.toNat : Int) != 95) = true := by rw [bne_iff_ne]; omega
        have e45 : ((c.toNat : Int) == 45) = false := by rw [beq_eq_false_iff_ne]; omega
        have e45n : (c.toNat == 45) = false := by rw [beq_eq_false_iff_ne]; omega
        have n45 : ((c.toNat : Int) != 45) = true := by rw [bne_iff_ne]; omega
        have HN := Lib.hid (show v = false by rw [HVV.out, HB.out]; rw [show decide ((97 ≤ c.toNat ∧ c.toNat ≤ 122) ∨ (48 ≤ c.toNat ∧ c.toNat ≤ 57) ∨ c.toNat = 46 ∨ c.toNat = 95 ∨ c.toNat = 45) = false by simp only [decide_eq_false_iff_not]; omega]; rfl)
        clear HVV HB hx
        go_wp2_with fail
        go_ret
        exact ⟨ret_bool (by rw [HN.out]), rfl⟩
    · have b1 : decide ((k : Int) < s.size) = false := by simp; omega
      have b1n : decide (k < s.size) = false := by simp; omega
      have HN := Lib.hid (show v = true by rw [hv, List.drop_of_length_le (by rw [size_data]; omega)]; rfl)
      clear hv
      go_wp2_with fail
      go_ret
      exact ⟨ret_bool (by rw [HN.out]), rfl⟩
end Go.Proofs.YtjemffgidhgfjaaGreatDoor.Tr
end
section
namespace Go.Proofs.YtjemffgidhgfjaaGreatDoor.Tr
open Go.RowKit

/-- The library's variable holds a number. -/
def MaxAt (w : World) : Prop := ∃ m : Int, w.cell? ⟨0, 0, none⟩ = some (.int .i64 m)
theorem MaxAt.below {w w' : World} (h : MaxAt w) (hb : Below w.heap.size w w') : MaxAt w' := by
  obtain ⟨m, hc⟩ := h
  have hlt := World.block_lt_of_cell? w _ hc
  exact ⟨m, (hb.cell hlt).trans hc⟩
/-- The slice value's cells are these values; they lie below block B. -/
def CellsAt (w : World) (B : Nat) (A : Option Addr) (vs : List Value) : Prop := ∀ i (h : i < vs.length), ∃ g o, A = some ⟨g, o, none⟩ ∧ g < B ∧ w.cell? ⟨g, o + i, none⟩ = some vs[i]
theorem CellsAt.below {w w' : World} {B B' : Nat} {A : Option Addr} {vs : List Value} (h : CellsAt w B A vs) (hb : Below B' w w') (hB : B ≤ B') : CellsAt w' B A vs := fun i hi => by
  obtain ⟨g, o, e, hg, hc⟩ := h i hi
  exact ⟨g, o, e, hg, (hb.cell (p := ⟨g, o + i, none⟩) (by show g < B'; omega)).trans hc⟩
theorem CellsAt.next {w w' : World} {A : Option Addr} {vs : List Value} (h : CellsAt w w.heap.size A vs) (hb : Below w.heap.size w w') : CellsAt w' w'.heap.size A vs := fun i hi => by
  obtain ⟨g, o, e, hg, hc⟩ := h.below hb (Nat.le_refl _) i hi
  exact ⟨g, o, e, Nat.lt_of_lt_of_le hg hb.size, hc⟩
theorem owns_cells {w : World} {B : Nat} {e : TypeId} {v : Value} {n : Nat} {xs : List Value} (h : w.ownsRow B e 1 v n xs) : ∃ A c, v = .slice A n c ∧ CellsAt w w.heap.size A xs := by
  have hl : xs.length = n := by simpa using h.1
  rcases h.2 with ⟨rfl, h0⟩ | ⟨g, cap, cur, rfl, hb, hg, hn, hc, hs, ht⟩
  · subst h0
    exact ⟨none, 0, rfl, fun i hi => by omega⟩
  · refine ⟨_, cap, rfl, fun i hi => ⟨g, 0, rfl, (Array.getElem?_eq_some_iff.1 hg).1, ?_⟩⟩
    rw [Nat.zero_add, cell_of_row w g i cur e (0, 0) hg]
    have h1 := congrArg (fun x => x[i]?) ht
    simp only [Nat.mul_one, List.getElem?_take, if_pos (show i < n by omega)] at h1
    rw [← Array.getElem?_toList, h1, List.getElem?_eq_getElem hi]
theorem owns_below {w w' : World} {B size n : Nat} {e : TypeId} {v : Value} {xs : List Value} (h : w.ownsRow B e size v n xs) (hb : Below w.heap.size w w') : w'.ownsRow B e size v n xs :=
  h.kept (row := none) ⟨hb.os, hb.tape, hb.output, hb.size, fun k hk _ => hb.block k hk⟩ (by cases hv : v.ownBlock <;> simp)
theorem grown_own0 {w W w2 : World} {row : Option Nat} (hb : Below w.heap.size w W) (hg : W.grownBy w2 row) (hr : ∀ k, row = some k → w.heap.size ≤ k) : Below w.heap.size w w2 :=
  ⟨hg.os.trans hb.os, hg.tape.trans hb.tape, hg.output.trans hb.output, Nat.le_trans hb.size hg.size, fun i hi => (hg.block i (Nat.lt_of_lt_of_le hi hb.size) (fun e => by have := hr i e.symm; omega)).trans (hb.block i hi)⟩
theorem infoS : (Tryz.prog.info? 9).map (fun i => (i.zero, i.size, i.bytes)) = some (some (.string ⟨#[]⟩), 1, 16) := by kernel_rfl
def strs (ps : List (List UInt8)) : List Value := ps.map fun p => .string (str p)
theorem strs_len (ps : List (List UInt8)) : (strs ps).length = ps.length := by simp [strs]
theorem strs_snoc (ps : List (List UInt8)) (p : List UInt8) : strs ps ++ [Value.string (str p)] = strs (ps ++ [p]) := by simp [strs]
/-- What parts of a string are as a result. -/
def GotP (w : World) (ps : List (List UInt8)) : Ending → World → Prop := fun x w' => ∃ v, x = .returned v ∧ w'.ownsRow w.heap.size 9 1 v ps.length (strs ps) ∧ Below w.heap.size w w'
theorem cut_any (s : ByteArray) (c : UInt8) (w : World) (hs : s.size ≤ 1000000000) (hM : MaxAt w) :
    Calls Tryz.prog 76 #[.string s, .string ⟨#[c]⟩] w (GotP w (Tre.split c s.data.toList)) := by
  obtain ⟨m, hm⟩ := hM
  have h1 : 1 ≤ (⟨#[c]⟩ : ByteArray).size := Nat.le_refl 1
  have hn := Lib.countB_le ⟨#[c]⟩ h1 s.size s (Nat.le_refl _)
  have hlen := Lib.splitB_all ⟨#[c]⟩ h1 0 _ s rfl
  have hp := Tre.pieces c s
  have e1 : (Tre.split c s.data.toList).length = Lib.countB s ⟨#[c]⟩ + 1 := by rw [← hp, List.length_map, hlen]
  have e2 : strs (Tre.split c s.data.toList) = (Lib.splitB ⟨#[c]⟩ 0 (Lib.countB s ⟨#[c]⟩) s).map Value.string := by
    rw [← hp, strs, List.map_map]
    exact List.map_congr_left fun x _ => by rw [Function.comp, str_of]
  refine (Tryz.strings_Split s ⟨#[c]⟩ m w (by omega) hm h1).mono ?_
  rintro e w' ⟨rfl, rfl⟩
  refine ⟨_, rfl, ?_, (Below.refl _ _).alloc (Nat.le_refl _) _⟩
  rw [e1, e2]
  exact World.ownsRow_lit w _ _ (Nat.le_refl _) (by unfold maxLen; omega) (by simp [hlen])

theorem mid_cut (s : ByteArray) (f k : Nat) (hf : f ≤ k) (hk : k < s.size) : s.data.toList.drop f = (s.data.toList.drop f).take (k - f) ++ s[k] :: s.data.toList.drop (k + 1) := by
  rw [← get_s s k hk]
  conv => lhs; rw [← List.take_append_drop (k - f) (s.data.toList.drop f)]
  rw [List.drop_drop, show f + (k - f) = k by omega]
theorem mid_snoc (s : ByteArray) (f k : Nat) (hf : f ≤ k) (hk : k < s.size) : (s.data.toList.drop f).take (k + 1 - f) = (s.data.toList.drop f).take (k - f) ++ [s[k]] := by
  rw [show k + 1 - f = (k - f) + 1 by omega, List.take_add_one, List.getElem?_drop, show f + (k - f) = k by omega, get_d s k hk]
  rfl
end Go.Proofs.YtjemffgidhgfjaaGreatDoor.Tr
end
section
namespace Go.Proofs.YtjemffgidhgfjaaGreatDoor.Tr
open Go.RowKit

theorem path_def (s : List UInt8) : Tre.path s = if (decide (s.length ≤ 128) && decide ((Tre.split 47 s).length ≤ 8) && (Tre.split 47 s).all Tre.part) = true then 0 else 2 := rfl
theorem all_snoc {α : Type} (p : α → Bool) (zs : List α) (k : Nat) (h : k < zs.length) : (zs.take (k + 1)).all p = ((zs.take k).all p && p zs[k]) := by
  rw [List.take_succ_eq_append_getElem h, List.all_append]; simp
theorem all_stop {α : Type} (p : α → Bool) (zs : List α) (k : Nat) (h : k < zs.length) (hp : p zs[k] = false) : zs.all p = false := by
  rw [List.all_eq_false]
  exact ⟨zs[k], List.getElem_mem h, by simp [hp]⟩
theorem strs_get (ps : List (List UInt8)) (k : Nat) (h : k < ps.length) (h' : k < (strs ps).length) : (strs ps)[k] = .string (str ps[k]) := by simp [strs]
set_option maxHeartbeats 4000000 in
set_option maxRecDepth 100000 in
theorem path_any (s : ByteArray) (w : World) (hs : s.size ≤ 1000000000) (hM : MaxAt w) :
    Calls Tryz.prog 48 #[.string s] w fun e w' => e = .returned (.int .i64 (Tre.path s.data.toList)) ∧ Below w.heap.size w w' := by
  have HV := Lib.hid (path_def s.data.toList)
  generalize Tre.path s.data.toList = v at *
  rw [size_data] at HV
  have hcnt := Tre.split_count 47 s.data.toList
  by_cases hbig : 128 < s.size
  · have b0 : decide ((128 : Int) < s.size) = true := by simp; omega
    have b0n : decide (128 < s.size) = true := by simp; omega
    have HT := Lib.hid (show v = 2 by rw [HV.out, show decide (s.size ≤ 128) = false from decide_eq_false (by omega)]; rfl)
    clear HV hcnt
    go_enter Tryz.func48, Tryz.ntmps48
    go_wp2_with fail
    go_ret
    exact ⟨ret_int HT.out.symm, Below.refl _ _⟩
  have b0 : decide ((128 : Int) < s.size) = false := by simp; omega
  have b0n : decide (128 < s.size) = false := by simp; omega
  have hc1 : ∀ w, Calls Tryz.prog 75 #[.string s, .string ⟨#[47]⟩] w fun e w' => e = .returned (.int .i64 (s.data.toList.count 47 : Nat)) ∧ w = w' := fun w => (Tryz.strings_Count_one s 47 w).mono fun e w' h => ⟨h.1, h.2.symm⟩
  have HSZ := Lib.hid (show decide (s.size ≤ 128) = true from decide_eq_true (by omega))
  by_cases h8 : 8 ≤ s.data.toList.count 47
  · have b1 : decide ((8 : Int) ≤ (s.data.toList.count 47 : Nat)) = true := decide_eq_true (by omega)
    have HT := Lib.hid (show v = 2 by rw [HV.out, HSZ.out, show decide ((Tre.split 47 s.data.toList).length ≤ 8) = false from decide_eq_false (by omega)]; rfl)
    clear HV hcnt h8
    generalize s.data.toList.count 47 = n at *
    go_enter Tryz.func48, Tryz.ntmps48
    go_wp2_with (go_at_call 75; (with_reducible refine (hc1 _).mono ?_); rintro e w' ⟨rfl, rfl⟩)
    go_ret
    exact ⟨ret_int HT.out.symm, Below.refl _ _⟩
  have b1 : decide ((8 : Int) ≤ (s.data.toList.count 47 : Nat)) = false := decide_eq_false (by omega)
  have HVP := Lib.hid (show v = if (Tre.split 47 s.data.toList).all Tre.part = true then 0 else 2 by
    rw [HV.out, HSZ.out, show decide ((Tre.split 47 s.data.toList).length ≤ 8) = true from decide_eq_true (by omega), Bool.and_self, Bool.true_and])
  have hcall := cut_any s 47 w hs hM
  have hpl := Tre.split_le 47 s.data.toList
  rw [size_data] at hpl
  have hP8 : (Tre.split 47 s.data.toList).length ≤ 8 := by omega
  clear HV HSZ hcnt h8
  generalize s.data.toList.count 47 = n at *
  generalize Tre.split 47 s.data.toList = P at *
  go_enter Tryz.func48, Tryz.ntmps48
  go_wp2_with (go_at_call 75; (with_reducible refine (hc1 _).mono ?_); rintro e w' ⟨rfl, rfl⟩)
  with_reducible refine hcall.mono ?_
  clear hcall hc1 b1
  rintro e w1 ⟨v1, rfl, hown, hb⟩
  obtain ⟨A, c, rfl, hA⟩ := owns_cells hown
  clear hown
  go_wp2_with fail
  go_loopw [16] (fun i wr => ∃ k : Nat, k ≤ P.length ∧ i = .int .i64 k ∧ (P.take k).all Tre.part = true ∧ Below w.heap.size w wr ∧ Below w1.heap.size w1 wr) (fun i _ => P.length - (intOf i).toNat)
  case atStart => exact ⟨0, by omega, rfl, by simp, hb, Below.refl _ _⟩
  case round =>
    clear hb
    obtain ⟨k, hk, rfl, hall, hb, hb1⟩ := hrel
    have HALL := Lib.hid hall
    clear hall
    by_cases hlt : k < P.length
    · have b2 : decide ((k : Int) < (P.length : Int)) = true := by simp; omega
      have b2n : decide (k < P.length) = true := by simp; omega
      obtain ⟨g, o, rfl, hg, hc0⟩ := hA k (by rw [strs_len]; exact hlt)
      have hd0 := (hb1.cell (p := ⟨g, o + k, none⟩) hg).trans hc0
      rw [strs_get P k hlt] at hd0
      have hsn := all_snoc Tre.part P k hlt
      rw [HALL.out, Bool.true_and] at hsn
      have hst := all_stop Tre.part P k hlt
      have hlen := hpl P[k] (List.getElem_mem hlt)
      have hcall := part_any (str P[k]) wr (by rw [str_size]; omega)
      rw [str_data] at hcall
      clear hc0 HALL
      generalize P[k] = p at *
      cases hp : Tre.part p with
      | true =>
        have HSN := Lib.hid (hsn.trans hp)
        rw [hp] at hcall
        clear hsn hst hp
        go_wp2_with (go_at_call 77; (with_reducible refine hcall.mono ?_); rintro e w' ⟨rfl, rfl⟩)
        go_roundw
        case rel => exact ⟨k + 1, by omega, by go_num, HSN.out, hb, hb1⟩
        case measure => simp [intOf]; omega
      | false =>
        have HT := Lib.hid (show v = 2 by rw [HVP.out, hst hp]; rfl)
        rw [hp] at hcall
        clear hsn hst hp
        go_wp2_with (go_at_call 77; (with_reducible refine hcall.mono ?_); rintro e w' ⟨rfl, rfl⟩)
        go_ret
        exact ⟨ret_int HT.out.symm, hb⟩
    · have b2 : decide ((k : Int) < (P.length : Int)) = false := by simp; omega
      have b2n : decide (k < P.length) = false := by simp; omega
      have HT := Lib.hid (show v = 0 by
        have h := HALL.out
        rw [show k = P.length by omega, List.take_length] at h
        rw [HVP.out, h]; rfl)
      clear HALL
      go_wp2_with fail
      go_ret
      exact ⟨ret_int HT.out.symm, hb⟩
end Go.Proofs.YtjemffgidhgfjaaGreatDoor.Tr
end
section
namespace Go.Proofs.YtjemffgidhgfjaaGreatDoor.Tr
namespace Tre

theorem bl_cons (a b : UInt8) (x y : List UInt8) : Op.bytesLess (a :: x) (b :: y) = true ↔ a.toNat < b.toNat ∨ (a = b ∧ Op.bytesLess x y = true) := by
  simp [Op.bytesLess, UInt8.lt_iff_toNat_lt]
theorem bl_nil (x : List UInt8) : Op.bytesLess x [] = false := by cases x <;> rfl
theorem bl_irr : ∀ a : List UInt8, Op.bytesLess a a = false
  | [] => rfl
  | a :: x => by
    rw [Bool.eq_false_iff]
    intro h
    rcases (bl_cons a a x x).1 h with h | ⟨_, h⟩
    · omega
    · rw [bl_irr x] at h; cases h
theorem bl_trans : ∀ a b c : List UInt8, Op.bytesLess a b = true → Op.bytesLess b c = true → Op.bytesLess a c = true
  | _, [], _, h, _ => by rw [bl_nil] at h; cases h
  | _, _ :: _, [], _, h => by rw [bl_nil] at h; cases h
  | [], _ :: _, _ :: _, _, _ => rfl
  | a :: x, b :: y, c :: z, h1, h2 => by
    rw [bl_cons] at h1 h2 ⊢
    rcases h1 with h1 | ⟨rfl, h1⟩
    · rcases h2 with h2 | ⟨rfl, _⟩
      · exact .inl (by omega)
      · exact .inl h1
    · rcases h2 with h2 | ⟨rfl, h2⟩
      · exact .inl h2
      · exact .inr ⟨rfl, bl_trans x y z h1 h2⟩
theorem bl_total : ∀ a b : List UInt8, Op.bytesLess a b = true ∨ a = b ∨ Op.bytesLess b a = true
  | [], [] => .inr (.inl rfl)
  | [], _ :: _ => .inl rfl
  | _ :: _, [] => .inr (.inr rfl)
  | a :: x, b :: y => by
    rw [bl_cons, bl_cons]
    rcases Nat.lt_trichotomy a.toNat b.toNat with h | h | h
    · exact .inl (.inl h)
    · have e : a = b := UInt8.toNat_inj.1 h
      subst e
      rcases bl_total x y with h | h | h
      · exact .inl (.inr ⟨rfl, h⟩)
      · exact .inr (.inl (by rw [h]))
      · exact .inr (.inr (.inr ⟨rfl, h⟩))
    · exact .inr (.inr (.inl h))
theorem bl_ne {a b : List UInt8} (h : Op.bytesLess a b = true) : a ≠ b := fun e => by rw [e, bl_irr] at h; cases h
theorem bl_asym {a b : List UInt8} (h : Op.bytesLess a b = true) : Op.bytesLess b a = false := by
  rw [Bool.eq_false_iff]
  intro h2
  have := bl_trans a b a h h2
  rw [bl_irr] at this; cases this
theorem bl_prefix : ∀ (a b : List UInt8), b ≠ [] → Op.bytesLess a (a ++ b) = true
  | [], [], h => absurd rfl h
  | [], _ :: _, _ => rfl
  | x :: a, b, h => by rw [List.cons_append, bl_cons]; exact .inr ⟨rfl, bl_prefix a b h⟩
/-- Two rising lists of the same things are one. -/
theorem rising_eq {l m : List (List UInt8)} (hl : l.Pairwise fun a b => Op.bytesLess a b = true) (hm : m.Pairwise fun a b => Op.bytesLess a b = true) (h : ∀ x, x ∈ l ↔ x ∈ m) : l = m := by
  have hp : l.Perm m := (List.perm_ext_iff_of_nodup (hl.imp fun h => bl_ne h) (hm.imp fun h => bl_ne h)).2 h
  refine List.Perm.eq_of_pairwise (le := fun a b => Op.bytesLess a b = true) (fun a b _ _ h1 h2 => ?_) hl hm hp
  rw [bl_asym h1] at h2; cases h2

/-- What Check asks. -/
structure Good (ts : List Fl) : Prop where
  len : ts.length ≤ 64
  ok : ∀ f ∈ ts, pathOk f.path = true
  size : ∀ f ∈ ts, f.data.length ≤ 65536
  sorted : ts.Pairwise fun f g => Op.bytesLess f.path g.path = true
  apart : ts.Pairwise fun f g => below g.path f.path = false
theorem last_split {α : Type} (l : List α) (x : α) (h : l.getLast? = some x) : ∃ i, l = i ++ [x] := by
  rw [List.getLast?_eq_some_iff] at h
  exact h
theorem checkAt_good : ∀ (ts seen : List Fl), seen.Pairwise (fun f g => Op.bytesLess f.path g.path = true) → seen.Pairwise (fun f g => below g.path f.path = false) → checkAt seen ts = 0 →
    (∀ f ∈ ts, pathOk f.path = true ∧ f.data.length ≤ 65536) ∧ (seen ++ ts).Pairwise (fun f g => Op.bytesLess f.path g.path = true) ∧ (seen ++ ts).Pairwise (fun f g => below g.path f.path = false)
  | [], seen, h1, h2, _ => ⟨by simp, by simpa using h1, by simpa using h2⟩
  | f :: t, seen, h1, h2, h => by
    rw [checkAt_cons] at h
    split at h
    · cases h
    · split at h
      · cases h
      · split at h
        · cases h
        · split at h
          · cases h
          · rename_i a1 a2 a3 a4
            have hlt : ∀ x ∈ seen, Op.bytesLess x.path f.path = true := by
              intro x hx
              cases hg : seen.getLast? with
              | none => rw [List.getLast?_eq_none_iff] at hg; subst hg; simp at hx
              | some g =>
                obtain ⟨i, rfl⟩ := last_split _ _ hg
                rw [hg] at a3
                simp only [Option.any_some, Bool.or_eq_true, beq_iff_eq, not_or] at a3
                have hgf : Op.bytesLess g.path f.path = true := by
                  rcases bl_total g.path f.path with h | h | h
                  · exact h
                  · exact absurd h.symm a3.2
                  · exact absurd h a3.1
                rcases List.mem_append.1 hx with hx | hx
                · exact bl_trans _ _ _ ((List.pairwise_append.1 h1).2.2 x hx g (by simp)) hgf
                · simp at hx; subst hx; exact hgf
            have hap : ∀ x ∈ seen, below f.path x.path = false := by
              intro x hx
              rw [Bool.eq_false_iff]
              intro hb
              exact a4 (List.any_eq_true.2 ⟨x, hx, hb⟩)
            obtain ⟨r1, r2, r3⟩ := checkAt_good t (seen ++ [f]) (List.pairwise_append.2 ⟨h1, by simp, fun a ha b hb => by simp at hb; subst hb; exact hlt a ha⟩) (List.pairwise_append.2 ⟨h2, by simp, fun a ha b hb => by simp at hb; subst hb; exact hap a ha⟩) h
            rw [List.append_assoc] at r2 r3
            refine ⟨fun g hg => ?_, r2, r3⟩
            rcases List.mem_cons.1 hg with rfl | hg
            · exact ⟨by simpa using a1, by omega⟩
            · exact r1 g hg
theorem good_checkAt : ∀ (ts seen : List Fl), (∀ f ∈ ts, pathOk f.path = true ∧ f.data.length ≤ 65536) → (seen ++ ts).Pairwise (fun f g => Op.bytesLess f.path g.path = true) → (seen ++ ts).Pairwise (fun f g => below g.path f.path = false) → checkAt seen ts = 0
  | [], _, _, _, _ => rfl
  | f :: t, seen, h0, h1, h2 => by
    obtain ⟨o1, o2⟩ := h0 f (by simp)
    rw [checkAt_cons, if_neg (by rw [o1]; decide), if_neg (by omega), if_neg, if_neg]
    · refine good_checkAt t (seen ++ [f]) (fun g hg => h0 g (by simp [hg])) ?_ ?_
      · rw [List.append_assoc]; exact h1
      · rw [List.append_assoc]; exact h2
    · intro hb
      obtain ⟨x, hx, hb⟩ := List.any_eq_true.1 hb
      have := (List.pairwise_append.1 h2).2.2 x hx f (by simp)
      rw [this] at hb; cases hb
    · intro hb
      cases hg : seen.getLast? with
      | none => rw [hg] at hb; cases hb
      | some g =>
        rw [hg] at hb
        have hm : g ∈ seen := List.mem_of_getLast? hg
        have := (List.pairwise_append.1 h1).2.2 g hm f (by simp)
        simp only [Option.any_some, Bool.or_eq_true, beq_iff_eq] at hb
        rcases hb with hb | hb
        · rw [bl_asym this] at hb; cases hb
        · exact bl_ne this hb.symm
theorem good_iff (ts : List Fl) : check ts = 0 ↔ Good ts := by
  unfold check
  constructor
  · intro h
    split at h
    · cases h
    · obtain ⟨a, b, c⟩ := checkAt_good ts [] .nil .nil h
      exact ⟨by omega, fun f hf => (a f hf).1, fun f hf => (a f hf).2, b, c⟩
  · intro g
    rw [if_neg (by have := g.len; omega)]
    exact good_checkAt ts [] (fun f hf => ⟨g.ok f hf, g.size f hf⟩) g.sorted g.apart
theorem Good.sub {ts us : List Fl} (g : Good ts) (h : us.Sublist ts) : Good us :=
  ⟨Nat.le_trans h.length_le g.len, fun f hf => g.ok f (h.subset hf), fun f hf => g.size f (h.subset hf), g.sorted.sublist h, g.apart.sublist h⟩
theorem good_nil : Good [] := ⟨by simp, by simp, by simp, .nil, .nil⟩
/-- A file of a tree is the one with its path. -/
theorem Good.one {ts : List Fl} (g : Good ts) {f h : Fl} (hf : f ∈ ts) (hh : h ∈ ts) (e : f.path = h.path) : f = h := by
  induction ts with
  | nil => simp at hf
  | cons x t ih =>
    have gs := List.pairwise_cons.1 g.sorted
    rcases List.mem_cons.1 hf with e1 | hf2
    · rcases List.mem_cons.1 hh with e2 | hh2
      · rw [e1, e2]
      · exact absurd e (bl_ne (by rw [e1]; exact gs.1 h hh2))
    · rcases List.mem_cons.1 hh with e2 | hh2
      · exact absurd e.symm (bl_ne (by rw [e2]; exact gs.1 f hf2))
      · exact ih (g.sub (List.sublist_cons_self x t)) hf2 hh2
theorem find_mem {ts : List Fl} {p : List UInt8} (h : (find ts p).2 = true) : ∃ f ∈ ts, f.path = p ∧ (find ts p).1 = f.data := by
  unfold find at h ⊢
  cases hf : ts.find? (fun f => f.path == p) with
  | none => rw [hf] at h; cases h
  | some f => exact ⟨f, List.mem_of_find?_eq_some hf, by simpa using List.find?_some hf, rfl⟩
theorem find_none {ts : List Fl} {p : List UInt8} (h : (find ts p).2 = false) : (∀ f ∈ ts, f.path ≠ p) ∧ (find ts p).1 = [] := by
  unfold find at h ⊢
  cases hf : ts.find? (fun f => f.path == p) with
  | none =>
    refine ⟨fun f hm e => ?_, rfl⟩
    have := List.find?_eq_none.1 hf f hm
    simp [e] at this
  | some f => rw [hf] at h; cases h
theorem Good.find_of {ts : List Fl} (g : Good ts) {f : Fl} (hf : f ∈ ts) : find ts f.path = (f.data, true) := by
  cases h : (find ts f.path).2 with
  | false => exact absurd rfl ((find_none h).1 f hf)
  | true =>
    obtain ⟨x, hx, e, hd⟩ := find_mem h
    have := g.one hf hx e.symm
    subst this
    exact Prod.ext hd h
end Tre
end Go.Proofs.YtjemffgidhgfjaaGreatDoor.Tr
end
