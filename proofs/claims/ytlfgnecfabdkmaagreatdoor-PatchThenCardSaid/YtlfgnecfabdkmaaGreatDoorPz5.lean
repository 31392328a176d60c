/- Patches of texts as plain functions. No condition.
Hunks and places where they lie; plain facts of hunks. No condition.
Where the lines of a patched text come from: plain facts. No condition.
The patch that keeps the lines of some pairs, plain. No condition.
The patch that keeps rising pairs of equal lines leads from one text to the other one, plain. No condition.
The longest common subsequence of two lists, and the pairs that the program finds, plain. No condition.
Undoing a patch, and joining two, plain. No condition but that no digest is empty. -/
import Derived.Test.YtlfgnecfabdkmaaGreatDoorTrTre
import Derived.Test.YtlfgnecfabdkmaaGreatDoorPz2
import Derived.Test.YtlfgnecfabdkmaaGreatDoorPz1
import Derived.Lib.ItoaLen
import Derived.Test.YtlfgnecfabdkmaaGreatDoorTrSpl
section
namespace Go.Proofs.YtlfgnecfabdkmaaGreatDoor
namespace Pc

/-- A hunk. -/
structure Hk where
  kind : Int
  n : Int
  ls : List (List UInt8)
deriving DecidableEq, Inhabited
/-- A patch. -/
structure Pa where
  base : List UInt8
  hs : List Hk
deriving DecidableEq, Inhabited
def isNum (n : Int) : Bool := decide (1 ≤ n) && decide (n ≤ 1024)
def isHunk (h : Hk) : Bool :=
  if h.kind = 1 ∨ h.kind = 2 then isNum h.n && decide (h.ls.length = 0)
  else if h.kind = 3 then isNum h.n && decide ((h.ls.length : Int) = h.n) else false
def beside (before : Int) (h : Hk) : Bool := isHunk h && !(h.kind == before) && !(h.kind == 2 && before == 3)
def inOrder : Int → List Hk → Bool
  | _, [] => true
  | before, h :: t => beside before h && inOrder h.kind t
def cnt (k : Int) : List Hk → Int
  | [] => 0
  | h :: t => (if h.kind = k then h.n else 0) + cnt k t
def shape (hs : List Hk) : Bool := inOrder 0 hs && isNum (cnt 1 hs + cnt 2 hs) && isNum (cnt 1 hs + cnt 3 hs)
/-- The word of a kind, with its blank. -/
def word (k : Int) : List UInt8 := if k = 1 then [107, 101, 101, 112, 32] else if k = 2 then [100, 114, 111, 112, 32] else [97, 100, 100, 32]
def baseW : List UInt8 := [98, 97, 115, 101, 32]
def headL (h : Hk) : List UInt8 := word h.kind ++ Lib.decDigits h.n.toNat
def bodyL : List Hk → List (List UInt8)
  | [] => []
  | h :: t => headL h :: h.ls ++ bodyL t
/-- The hexadecimal text of a digest. -/
def hex (b : List UInt8) : List UInt8 := (Dg.hexS ⟨b.toArray⟩).data.toList
def printL (p : Pa) : List (List UInt8) := (if p.base = [] then [] else [baseW ++ hex p.base]) ++ bodyL p.hs
def baseOk (b : List UInt8) : Bool := decide (b = []) || decide (b.length = 32)
def valid (p : Pa) : Bool := shape p.hs && baseOk p.base && decide ((Tr.Tre.join (printL p)).2 = 0)
def print (p : Pa) : List UInt8 × Int := if valid p = true then (Tr.Tre.joined (printL p), 0) else ([], 1)
def cost (p : Pa) : Int × Int := if valid p = true then (cnt 2 p.hs + cnt 3 p.hs, 0) else (0, 1)
/-- The lines of the result. -/
def change : List Hk → List (List UInt8) → List (List UInt8)
  | [], _ => []
  | h :: t, l => if h.kind = 1 then l.take h.n.toNat ++ change t (l.drop h.n.toNat) else if h.kind = 2 then change t (l.drop h.n.toNat) else if h.kind = 3 then h.ls ++ change t l else change t l
def dig (s : List UInt8) : List UInt8 := Dg.Spo.dig s
def apply (p : Pa) (data : List UInt8) : List UInt8 × Int :=
  if valid p = false then ([], 1)
  else if (Tr.Tre.lines data).2 ≠ 0 then ([], (Tr.Tre.lines data).2)
  else if cnt 1 p.hs + cnt 2 p.hs ≠ ((Tr.Tre.lines data).1.length : Int) ∨ (p.base ≠ [] ∧ p.base ≠ dig data) then ([], 9)
  else Tr.Tre.join (change p.hs (Tr.Tre.lines data).1)
/-- Where a line comes from. -/
structure Pl where
  old : Int
  new : Int
deriving DecidableEq, Inhabited
def keeps (old : Nat) : Nat → List Pl
  | 0 => []
  | n + 1 => ⟨old, -1⟩ :: keeps (old + 1) n
def adds (line : Nat) : Nat → List Pl
  | 0 => []
  | n + 1 => ⟨-1, line⟩ :: adds (line + 1) n
/-- The places, from a line of the text and a line of the patch on. -/
def places : List Hk → Nat → Nat → List Pl
  | [], _, _ => []
  | h :: t, old, line => if h.kind = 1 then keeps old h.n.toNat ++ places t (old + h.n.toNat) (line + 1)
    else if h.kind = 2 then places t (old + h.n.toNat) (line + 1)
    else if h.kind = 3 then adds (line + 1) h.n.toNat ++ places t old (line + 1 + h.n.toNat) else places t old (line + 1)
def placesOf (p : Pa) : List Pl := places p.hs 0 (if p.base = [] then 0 else 1)
def trace (p : Pa) (n : Int) : List Pl × Int := if valid p = false then ([], 1) else if cnt 1 p.hs + cnt 2 p.hs ≠ n then ([], 9) else (placesOf p, 0)
/-- Lines of one kind are taken into the hunks. -/
def addTo (k : Int) (ls : List (List UInt8)) (h : Hk) : Hk := ⟨h.kind, h.n + ls.length, if k = 3 then h.ls ++ ls else h.ls⟩
def take (hs : List Hk) (k : Int) (ls : List (List UInt8)) : List Hk :=
  if ls = [] then hs
  else match hs.getLast? with
    | some h => if h.kind = k then hs.dropLast ++ [addTo k ls h] else hs ++ [addTo k ls ⟨k, 0, []⟩]
    | none => [addTo k ls ⟨k, 0, []⟩]
/-- The hunks that keep the lines of some pairs: what is left of both texts behind i and j lines. -/
def keepHs (hs : List Hk) (a b : List (List UInt8)) (i j : Nat) : List (Nat × Nat) → List Hk
  | [] => take (take hs 2 (a.drop i)) 3 (b.drop j)
  | (x, y) :: t => keepHs (take (take (take hs 2 ((a.take x).drop i)) 3 ((b.take y).drop j)) 1 ((a.take (x + 1)).drop x)) a b (x + 1) (y + 1) t
def keeping (base : List UInt8) (a b : List (List UInt8)) (kept : List (Nat × Nat)) : Pa × Int :=
  if valid ⟨base, keepHs [] a b 0 0 kept⟩ = true then (⟨base, keepHs [] a b 0 0 kept⟩, 0) else (⟨[], []⟩, 10)
end Pc
end Go.Proofs.YtlfgnecfabdkmaaGreatDoor
end
section
namespace Go.Proofs.YtlfgnecfabdkmaaGreatDoor
open Go.RowKit Go.Deep Tr

def HsAt (w : World) (B : Nat) (A : Option Addr) (hs : List Pc.Hk) : Prop := ∀ k (hk : k < hs.length), ∃ g o Ak ck, A = some ⟨g, o, none⟩ ∧ g < B ∧ w.cell? ⟨g, o + k * 3, none⟩ = some (.int .i64 hs[k].kind) ∧ w.cell? ⟨g, o + k * 3 + 1, none⟩ = some (.int .i64 hs[k].n) ∧ w.cell? ⟨g, o + k * 3 + 2, none⟩ = some (.slice Ak hs[k].ls.length ck) ∧ CellsAt w B Ak (strs hs[k].ls) ∧ hs[k].ls.length ≤ ck ∧ ck ≤ maxLen
theorem HsAt.next {w w' : World} {A : Option Addr} {hs : List Pc.Hk} (h : HsAt w w.heap.size A hs) (hb : Below w.heap.size w w') : HsAt w' w'.heap.size A hs := fun k hk => by
  obtain ⟨g, o, Ak, ck, rfl, hg, h0, h1, h2, h3, h4, h5⟩ := h k hk
  exact ⟨g, o, Ak, ck, rfl, Nat.lt_of_lt_of_le hg hb.size, (hb.cell (p := ⟨g, o + k * 3, none⟩) hg).trans h0, (hb.cell (p := ⟨g, o + k * 3 + 1, none⟩) hg).trans h1, (hb.cell (p := ⟨g, o + k * 3 + 2, none⟩) hg).trans h2, h3.next hb, h4, h5⟩
namespace Pc
theorem cnt_app (k : Int) (a b : List Hk) : cnt k (a ++ b) = cnt k a + cnt k b := by
  induction a with
  | nil => simp [cnt]
  | cons h a ih => rw [List.cons_append, cnt, cnt, ih]; omega
theorem cnt_snoc (k : Int) (hs : List Hk) (i : Nat) (h : i < hs.length) : cnt k (hs.take (i + 1)) = cnt k (hs.take i) + (if hs[i].kind = k then hs[i].n else 0) := by
  rw [List.take_succ_eq_append_getElem h, cnt_app]
  simp [cnt]
theorem bodyL_app (a b : List Hk) : bodyL (a ++ b) = bodyL a ++ bodyL b := by
  induction a with
  | nil => rfl
  | cons h a ih => rw [List.cons_append, bodyL, bodyL, ih]; simp
theorem bodyL_snoc (hs : List Hk) (i : Nat) (h : i < hs.length) : bodyL (hs.take (i + 1)) = (bodyL (hs.take i) ++ [headL hs[i]]) ++ hs[i].ls := by
  rw [List.take_succ_eq_append_getElem h, bodyL_app]
  simp [bodyL]
theorem isNum_iff (n : Int) : isNum n = true ↔ 1 ≤ n ∧ n ≤ 1024 := by unfold isNum; simp
theorem isHunk_num {h : Hk} (hh : isHunk h = true) : (1 ≤ h.n ∧ h.n ≤ 1024) ∧ (h.kind = 1 ∨ h.kind = 2 ∨ h.kind = 3) ∧ (h.ls.length : Int) ≤ h.n := by
  unfold isHunk at hh
  split at hh
  · rename_i hk
    simp only [Bool.and_eq_true, decide_eq_true_eq] at hh
    have := (isNum_iff _).1 hh.1
    exact ⟨this, by omega, by omega⟩
  · split at hh
    · simp only [Bool.and_eq_true, decide_eq_true_eq] at hh
      have := (isNum_iff _).1 hh.1
      exact ⟨this, by omega, by omega⟩
    · cases hh
theorem inOrder_all : ∀ (b : Int) (hs : List Hk), inOrder b hs = true → ∀ h ∈ hs, isHunk h = true
  | _, [], _, h, hm => by simp at hm
  | b, x :: t, ho, h, hm => by
    rw [inOrder, Bool.and_eq_true] at ho
    rcases List.mem_cons.1 hm with rfl | hm
    · have := ho.1
      unfold beside at this
      simp only [Bool.and_eq_true] at this
      exact this.1.1
    · exact inOrder_all _ t ho.2 h hm
theorem cnt_nonneg (k : Int) : ∀ (hs : List Hk), (∀ h ∈ hs, 1 ≤ h.n) → 0 ≤ cnt k hs
  | [], _ => by simp [cnt]
  | h :: t, ha => by
    have := cnt_nonneg k t fun x hx => ha x (by simp [hx])
    have := ha h (by simp)
    rw [cnt]; split <;> omega
theorem cnt_le (k : Int) : ∀ (hs : List Hk), (∀ h ∈ hs, 0 ≤ h.n ∧ h.n ≤ 1024) → 0 ≤ cnt k hs ∧ cnt k hs ≤ 1024 * (hs.length : Int)
  | [], _ => by simp [cnt]
  | h :: t, ha => by
    have := cnt_le k t fun x hx => ha x (by simp [hx])
    have := ha h (by simp)
    rw [cnt, List.length_cons]; split <;> omega
/-- A list of hunks in form is short. -/
theorem shape_len {hs : List Hk} (h : shape hs = true) : hs.length ≤ 2048 ∧ (bodyL hs).length ≤ 4096 ∧ (∀ x ∈ hs, isHunk x = true) := by
  unfold shape at h
  simp only [Bool.and_eq_true] at h
  obtain ⟨⟨h1, h2⟩, h3⟩ := h
  have ha := inOrder_all 0 hs h1
  have n2 := (isNum_iff _).1 h2
  have n3 := (isNum_iff _).1 h3
  have key : ∀ l : List Hk, (∀ x ∈ l, isHunk x = true) → (l.length : Int) ≤ cnt 1 l + cnt 2 l + cnt 3 l ∧ ((bodyL l).length : Int) ≤ 2 * (cnt 1 l + cnt 2 l + cnt 3 l) ∧ 0 ≤ cnt 1 l := by
    intro l
    induction l with
    | nil => intro _; simp [cnt, bodyL]
    | cons x l ih =>
      intro hx
      obtain ⟨i1, i2, i3⟩ := ih fun y hy => hx y (by simp [hy])
      obtain ⟨a1, a2, a3⟩ := isHunk_num (hx x (by simp))
      simp only [cnt, bodyL, List.length_cons, List.length_append]
      rcases a2 with e | e | e <;> simp [e] <;> omega
  obtain ⟨k1, k2, k3⟩ := key hs ha
  exact ⟨by omega, by omega, ha⟩
theorem inOrder_at (hs : List Hk) (i : Nat) (b : Int) (h : i < hs.length) : inOrder b (hs.drop i) = (beside b hs[i] && inOrder hs[i].kind (hs.drop (i + 1))) := by
  rw [List.drop_eq_getElem_cons h, inOrder]
end Pc
end Go.Proofs.YtlfgnecfabdkmaaGreatDoor
end
section
namespace Go.Proofs.YtlfgnecfabdkmaaGreatDoor
open Tr
namespace Pc

theorem keeps_len (o n : Nat) : (keeps o n).length = n := by
  induction n generalizing o with
  | zero => rfl
  | succ n ih => rw [keeps, List.length_cons, ih]
theorem adds_len (o n : Nat) : (adds o n).length = n := by
  induction n generalizing o with
  | zero => rfl
  | succ n ih => rw [adds, List.length_cons, ih]
theorem keeps_at (o n k : Nat) (h : k < n) : (keeps o n)[k]'(by rw [keeps_len]; exact h) = ⟨((o + k : Nat) : Int), -1⟩ := by
  induction n generalizing o k with
  | zero => omega
  | succ n ih =>
    cases k with
    | zero => simp [keeps]
    | succ k =>
      simp only [keeps, List.getElem_cons_succ]
      rw [ih (o + 1) k (by omega)]
      congr 1
      omega
theorem adds_at (o n k : Nat) (h : k < n) : (adds o n)[k]'(by rw [adds_len]; exact h) = ⟨-1, ((o + k : Nat) : Int)⟩ := by
  induction n generalizing o k with
  | zero => omega
  | succ n ih =>
    cases k with
    | zero => simp [adds]
    | succ k =>
      simp only [adds, List.getElem_cons_succ]
      rw [ih (o + 1) k (by omega)]
      congr 1
      omega
theorem keeps_snoc (o n : Nat) : keeps o (n + 1) = keeps o n ++ [⟨((o + n : Nat) : Int), -1⟩] := by
  induction n generalizing o with
  | zero => rfl
  | succ n ih =>
    rw [keeps, ih, keeps, List.cons_append]
    congr 4
    omega
theorem adds_snoc (o n : Nat) : adds o (n + 1) = adds o n ++ [⟨-1, ((o + n : Nat) : Int)⟩] := by
  induction n generalizing o with
  | zero => rfl
  | succ n ih =>
    rw [adds, ih, adds, List.cons_append]
    congr 4
    omega
/-- A place says what stands there, the places rise. -/
structure Says (a own : List (List UInt8)) (lo : Int) (l : List Pl) (out : List (List UInt8)) : Prop where
  len : l.length = out.length
  at_ : ∀ k (h : k < l.length) (h' : k < out.length), (∃ i : Nat, l[k] = ⟨(i : Int), -1⟩ ∧ a[i]? = some out[k]) ∨ (∃ i : Nat, l[k] = ⟨-1, (i : Int)⟩ ∧ own[i]? = some out[k])
  low : ∀ x ∈ l, x.new = -1 → lo ≤ x.old
  rise : l.Pairwise fun x y => x.new = -1 → y.new = -1 → x.old < y.old
theorem says_nil (a own : List (List UInt8)) (lo : Int) : Says a own lo [] [] := ⟨rfl, fun k h => by simp at h, by simp, .nil⟩
theorem says_app {a own : List (List UInt8)} {lo mid : Int} {l1 l2 : List Pl} {o1 o2 : List (List UInt8)} (h1 : Says a own lo l1 o1) (h2 : Says a own mid l2 o2) (hm : lo ≤ mid) (hu : ∀ x ∈ l1, x.new = -1 → x.old < mid) : Says a own lo (l1 ++ l2) (o1 ++ o2) := by
  refine ⟨by rw [List.length_append, List.length_append, h1.len, h2.len], fun k h h' => ?_, fun x hx hn => ?_, ?_⟩
  · by_cases hk : k < l1.length
    · rw [List.getElem_append_left hk, List.getElem_append_left (by rw [← h1.len]; exact hk)]
      exact h1.at_ k hk (by rw [← h1.len]; exact hk)
    · rw [List.getElem_append_right (by omega), List.getElem_append_right (by rw [← h1.len]; omega)]
      have e : k - o1.length = k - l1.length := by rw [h1.len]
      rw [List.length_append] at h
      have := h2.at_ (k - l1.length) (by omega) (by rw [← h2.len]; omega)
      simp only [e]
      exact this
  · rcases List.mem_append.1 hx with hx | hx
    · exact h1.low x hx hn
    · exact Int.le_trans hm (h2.low x hx hn)
  · rw [List.pairwise_append]
    exact ⟨h1.rise, h2.rise, fun x hx y hy hn hm' => Int.lt_of_lt_of_le (hu x hx hn) (h2.low y hy hm')⟩
theorem says_keeps (a own : List (List UInt8)) (o n : Nat) (h : o + n ≤ a.length) : Says a own o (keeps o n) ((a.drop o).take n) := by
  refine ⟨by rw [keeps_len, List.length_take, List.length_drop]; omega, fun k h1 h2 => ?_, fun x hx _ => ?_, ?_⟩
  · rw [keeps_len] at h1
    refine .inl ⟨o + k, keeps_at o n k h1, ?_⟩
    rw [List.getElem_take, List.getElem_drop, List.getElem?_eq_getElem (by omega)]
  · obtain ⟨k, hk, rfl⟩ := List.mem_iff_getElem.1 hx
    rw [keeps_at o n k (by rw [keeps_len] at hk; exact hk)]
    show (o : Int) ≤ ((o + k : Nat) : Int)
    omega
  · rw [List.pairwise_iff_getElem]
    intro i j hi hj hij _ _
    rw [keeps_len] at hi hj
    rw [keeps_at o n i hi, keeps_at o n j hj]
    show ((o + i : Nat) : Int) < ((o + j : Nat) : Int)
    omega
theorem says_adds (a own : List (List UInt8)) (lo : Int) (m n : Nat) (ls : List (List UInt8)) (hn : ls.length = n) (h : ∀ k (hk : k < ls.length), own[m + k]? = some ls[k]) : Says a own lo (adds m n) ls := by
  refine ⟨by rw [adds_len, hn], fun k h1 h2 => .inr ⟨m + k, adds_at m n k (by rw [adds_len] at h1; exact h1), h k h2⟩, fun x hx hnw => ?_, ?_⟩
  · obtain ⟨k, hk, rfl⟩ := List.mem_iff_getElem.1 hx
    rw [adds_at m n k (by rw [adds_len] at hk; exact hk)] at hnw
    have : ((m + k : Nat) : Int) = -1 := hnw
    omega
  · rw [List.pairwise_iff_getElem]
    intro i j hi hj hij hx _
    rw [adds_len] at hi
    rw [adds_at m n i hi] at hx
    have : ((m + i : Nat) : Int) = -1 := hx
    omega
/-- The lines of the result stand where the places say. -/
theorem says_change (a own : List (List UInt8)) : ∀ (hs : List Hk) (o m : Nat), (∀ h ∈ hs, isHunk h = true) → (o : Int) + cnt 1 hs + cnt 2 hs ≤ a.length → own.drop m = bodyL hs → Says a own o (places hs o m) (change hs (a.drop o))
  | [], o, m, _, _, _ => says_nil a own o
  | h :: t, o, m, hh, hl, hb => by
    obtain ⟨⟨n1, n2⟩, hk, hls⟩ := isHunk_num (hh h (by simp))
    have ht : ∀ x ∈ t, isHunk x = true := fun x hx => hh x (by simp [hx])
    have c1 := cnt_nonneg 1 t fun x hx => (isHunk_num (ht x hx)).1.1
    have c2 := cnt_nonneg 2 t fun x hx => (isHunk_num (ht x hx)).1.1
    obtain ⟨n, hn⟩ : ∃ n : Nat, h.n = (n : Int) := ⟨h.n.toNat, by omega⟩
    have hnt : h.n.toNat = n := by omega
    rw [bodyL] at hb
    have hb1 : own.drop (m + 1) = h.ls ++ bodyL t := by
      have := congrArg (List.drop 1) hb
      rw [List.drop_drop] at this
      rw [this]; rfl
    simp only [cnt] at hl
    have hd : (a.drop o).drop n = a.drop (o + n) := by rw [List.drop_drop]
    rw [places, change, hnt, hd]
    rcases hk with e | e | e
    · have hz : h.ls = [] := by
        have := hh h (by simp)
        unfold isHunk at this
        rw [if_pos (.inl e)] at this
        simp only [Bool.and_eq_true, decide_eq_true_eq] at this
        exact List.length_eq_zero_iff.1 this.2
      rw [hz, List.nil_append] at hb1
      rw [if_pos e, if_pos e]
      simp only [e, if_true] at hl
      refine says_app (mid := ((o + n : Nat) : Int)) (says_keeps a own o n (by omega)) (says_change a own t (o + n) (m + 1) ht (by omega) hb1) (by omega) fun x hx _ => ?_
      obtain ⟨k, hk2, rfl⟩ := List.mem_iff_getElem.1 hx
      rw [keeps_len] at hk2
      rw [keeps_at o n k hk2]
      show ((o + k : Nat) : Int) < ((o + n : Nat) : Int)
      omega
    · have hz : h.ls = [] := by
        have := hh h (by simp)
        unfold isHunk at this
        rw [if_pos (.inr e)] at this
        simp only [Bool.and_eq_true, decide_eq_true_eq] at this
        exact List.length_eq_zero_iff.1 this.2
      rw [hz, List.nil_append] at hb1
      have e1 : ¬ h.kind = 1 := by omega
      rw [if_neg e1, if_neg e1, if_pos e, if_pos e]
      simp only [e, if_true] at hl
      have h2 := says_change a own t (o + n) (m + 1) ht (by omega) hb1
      exact ⟨h2.len, h2.at_, fun x hx hx2 => Int.le_trans (by omega) (h2.low x hx hx2), h2.rise⟩
    · have hz : h.ls.length = n := by
        have := hh h (by simp)
        unfold isHunk at this
        rw [if_neg (by omega), if_pos e] at this
        simp only [Bool.and_eq_true, decide_eq_true_eq] at this
        omega
      have e1 : ¬ h.kind = 1 := by omega
      have e2 : ¬ h.kind = 2 := by omega
      rw [if_neg e1, if_neg e1, if_neg e2, if_neg e2, if_pos e, if_pos e]
      have hb2 : own.drop (m + 1 + n) = bodyL t := by
        rw [← List.drop_drop, hb1, List.drop_left' hz]
      refine says_app (mid := (o : Int)) (says_adds a own o (m + 1) n h.ls hz fun k hk2 => ?_) (says_change a own t o (m + 1 + n) ht (by omega) hb2) (Int.le_refl _) fun x hx hx2 => ?_
      · have := congrArg (fun l => l[k]?) hb1
        simp only [List.getElem?_drop] at this
        rw [this, List.getElem?_append_left hk2, List.getElem?_eq_getElem hk2]
      · obtain ⟨k, hk2, rfl⟩ := List.mem_iff_getElem.1 hx
        rw [adds_len] at hk2
        rw [adds_at (m + 1) n k hk2] at hx2
        have : ((m + 1 + k : Nat) : Int) = -1 := hx2
        omega
theorem pure_iff {s : List UInt8} : s.contains 10 = false ↔ ∀ x ∈ s, x ≠ 10 := by
  rw [Bool.eq_false_iff, Ne, List.contains_iff_mem]
  exact ⟨fun h x hx e => h (by rw [← e]; exact hx), fun h hm => h 10 hm rfl⟩
theorem join_ok {l : List (List UInt8)} (h : (Tre.join l).2 = 0) : Tre.join l = (Tre.joined l, 0) ∧ Tre.lines (Tre.joined l) = (l, 0) ∧ l ≠ [] ∧ l.length ≤ 1024 ∧ (Tre.joined l).length ≤ 65536 := by
  unfold Tre.join at h ⊢
  split at h
  · cases h
  · rename_i h1
    split at h
    · cases h
    · rename_i h2
      have h0 : l ≠ [] := fun e => h1 (.inl e)
      have hp : ∀ p ∈ l, ∀ x ∈ p, x ≠ 10 := fun p hp => pure_iff.1 (by
        rw [Bool.eq_false_iff]
        exact fun e => h1 (.inr (List.any_eq_true.2 ⟨p, hp, e⟩)))
      have e := Tre.split_joined l h0 hp
      refine ⟨by rw [if_neg h1, if_neg h2], ?_, h0, by omega, by omega⟩
      unfold Tre.lines
      rw [e, if_neg (by omega)]
theorem valid_parts {p : Pa} (h : valid p = true) : shape p.hs = true ∧ baseOk p.base = true ∧ (Tre.join (printL p)).2 = 0 := by
  unfold valid at h
  simp only [Bool.and_eq_true, decide_eq_true_eq] at h
  exact ⟨h.1.1, h.1.2, h.2⟩
/-- What applying a patch gives, where it gives something. -/
structure Did (p : Pa) (data s : List UInt8) (a : List (List UInt8)) : Prop where
  valid : Pc.valid p = true
  shape : Pc.shape p.hs = true
  print : Pc.print p = (Tre.joined (printL p), 0)
  own : Tre.lines (Tre.joined (printL p)) = (printL p, 0)
  old : Tre.lines data = (a, 0)
  now : Tre.lines s = (change p.hs a, 0)
  trace : Pc.trace p a.length = (placesOf p, 0)
  says : Says a (printL p) 0 (placesOf p) (change p.hs a)
theorem apply_cases (p : Pa) (data : List UInt8) : ((apply p data).2 ≠ 0 ∧ (apply p data).1 = []) ∨ ((apply p data).2 = 0 ∧ ∃ a, Did p data (apply p data).1 a) := by
  have hd : apply p data = if valid p = false then ([], 1)
      else if (Tre.lines data).2 ≠ 0 then ([], (Tre.lines data).2)
      else if cnt 1 p.hs + cnt 2 p.hs ≠ ((Tre.lines data).1.length : Int) ∨ (p.base ≠ [] ∧ p.base ≠ dig data) then ([], 9)
      else Tre.join (change p.hs (Tre.lines data).1) := rfl
  by_cases h1 : valid p = false
  · rw [if_pos h1] at hd; rw [hd]; exact .inl ⟨by decide, rfl⟩
  rw [if_neg h1] at hd
  by_cases h2 : (Tre.lines data).2 ≠ 0
  · rw [if_pos h2] at hd; rw [hd]; exact .inl ⟨h2, rfl⟩
  rw [if_neg h2] at hd
  by_cases h3 : cnt 1 p.hs + cnt 2 p.hs ≠ ((Tre.lines data).1.length : Int) ∨ (p.base ≠ [] ∧ p.base ≠ dig data)
  · rw [if_pos h3] at hd; rw [hd]; exact .inl ⟨by decide, rfl⟩
  rw [if_neg h3] at hd
  by_cases h4 : (Tre.join (change p.hs (Tre.lines data).1)).2 = 0
  · obtain ⟨j1, j2, _⟩ := join_ok h4
    rw [j1] at hd
    have hv : valid p = true := by simpa using h1
    obtain ⟨hs, _, hj⟩ := valid_parts hv
    obtain ⟨q1, q2, _⟩ := join_ok hj
    have hlen : cnt 1 p.hs + cnt 2 p.hs = ((Tre.lines data).1.length : Int) := by
      refine Classical.byContradiction fun e => h3 (.inl e)
    refine .inr ⟨by rw [hd], (Tre.lines data).1, hv, hs, by unfold Pc.print; rw [if_pos hv], q2, Prod.ext rfl (by simpa using h2), by rw [hd]; exact j2, by unfold Pc.trace; rw [if_neg h1, if_neg (by rw [hlen]; exact fun h => h rfl)], ?_⟩
    have hb : (printL p).drop (if p.base = [] then 0 else 1) = bodyL p.hs := by
      unfold printL
      split <;> rfl
    have := says_change (Tre.lines data).1 (printL p) p.hs 0 (if p.base = [] then 0 else 1) (shape_len hs).2.2 (by omega) hb
    rw [List.drop_zero] at this
    exact this
  · rw [hd]
    refine .inl ⟨h4, ?_⟩
    unfold Tre.join at h4 ⊢
    split at h4
    · rename_i h; rw [if_pos h]
    · rename_i h
      rw [if_neg h]
      split at h4
      · rename_i h'; rw [if_pos h']
      · exact absurd rfl h4
end Pc
end Go.Proofs.YtlfgnecfabdkmaaGreatDoor
end
section
namespace Go.Proofs.YtlfgnecfabdkmaaGreatDoor
open Tr
namespace Pc

def run (o n : Nat) : Nat → List (Nat × Nat)
  | 0 => []
  | k + 1 => (o, n) :: run (o + 1) (n + 1) k
/-- The pairs of lines that hunks keep. -/
def prs : List Hk → Nat → Nat → List (Nat × Nat)
  | [], _, _ => []
  | h :: t, o, n => if h.kind = 1 then run o n h.n.toNat ++ prs t (o + h.n.toNat) (n + h.n.toNat) else if h.kind = 2 then prs t (o + h.n.toNat) n else prs t o (n + h.n.toNat)
theorem take_nil (hs : List Hk) (k : Int) : take hs k [] = hs := by unfold take; rw [if_pos rfl]
theorem take_new (hs : List Hk) (k : Int) (ls : List (List UInt8)) (hl : ls ≠ []) (h : ∀ x, hs.getLast? = some x → x.kind ≠ k) : take hs k ls = hs ++ [addTo k ls ⟨k, 0, []⟩] := by
  unfold take
  rw [if_neg hl]
  cases hg : hs.getLast? with
  | none => rw [List.getLast?_eq_none_iff.1 hg]; rfl
  | some x => simp only []; rw [if_neg (h x hg)]
theorem take_same (hs : List Hk) (x : Hk) (k : Int) (ls : List (List UInt8)) (hl : ls ≠ []) (h : x.kind = k) : take (hs ++ [x]) k ls = hs ++ [addTo k ls x] := by
  unfold take
  rw [if_neg hl]
  simp [h]
/-- The hunks for so many lines dropped and some added. -/
def pend (d : Nat) (ls : List (List UInt8)) : List Hk := (if d = 0 then [] else [⟨2, (d : Int), []⟩]) ++ (if ls = [] then [] else [⟨3, (ls.length : Int), ls⟩])
theorem take_pend (acc : List Hk) (A B : List (List UInt8)) (h : ∀ x, acc.getLast? = some x → x.kind = 1) : take (take acc 2 A) 3 B = acc ++ pend A.length B := by
  have h2 : take acc 2 A = acc ++ (if A.length = 0 then [] else [⟨2, (A.length : Int), []⟩]) := by
    cases A with
    | nil => rw [take_nil]; simp
    | cons a A =>
      rw [take_new acc 2 _ (by simp) (fun x hx => by rw [h x hx]; decide)]
      simp [addTo]
  rw [h2]
  unfold pend
  cases B with
  | nil => rw [take_nil]; simp
  | cons b B =>
    rw [take_new _ 3 _ (by simp) (fun x hx => ?_)]
    · simp [addTo]
    · split at hx
      · rw [List.append_nil] at hx; rw [h x hx]; decide
      · rw [List.getLast?_append] at hx
        simp at hx
        rw [← hx]; show (2 : Int) ≠ 3; decide
theorem pend_last (acc : List Hk) (d : Nat) (ls : List (List UInt8)) (h : ¬ (d = 0 ∧ ls = [])) : ∀ x, (acc ++ pend d ls).getLast? = some x → x.kind ≠ 1 := by
  intro x hx
  unfold pend at hx
  by_cases h1 : ls = []
  · have hd : d ≠ 0 := fun e => h ⟨e, h1⟩
    rw [if_pos h1, if_neg hd, List.append_nil, List.getLast?_append] at hx
    simp at hx
    rw [← hx]; show (2 : Int) ≠ 1; decide
  · rw [if_neg h1, ← List.append_assoc, List.getLast?_append] at hx
    simp at hx
    rw [← hx]; show (3 : Int) ≠ 1; decide
theorem seg_one {α : Type} (a : List α) (i : Nat) (h : i < a.length) : (a.take (i + 1)).drop i = [a[i]] := by
  rw [List.take_succ_eq_append_getElem h, List.drop_left' (by rw [List.length_take]; omega)]
theorem seg_none {α : Type} (a : List α) (i : Nat) : (a.take i).drop i = [] := List.drop_eq_nil_of_le (by rw [List.length_take]; omega)
theorem keep_run (a b : List (List UInt8)) (K : List (Nat × Nat)) : ∀ (m : Nat) (acc : List Hk) (c : Int) (i j : Nat), i + m ≤ a.length → keepHs (acc ++ [⟨1, c, []⟩]) a b i j (run i j m ++ K) = keepHs (acc ++ [⟨1, c + m, []⟩]) a b (i + m) (j + m) K
  | 0, acc, c, i, j, _ => by simp [run]
  | m + 1, acc, c, i, j, h => by
    rw [run, List.cons_append, keepHs, seg_none, seg_none, take_nil, take_nil, seg_one a i (by omega), take_same _ _ 1 _ (by simp) rfl]
    have := keep_run a b K m acc (c + 1) (i + 1) (j + 1) (by omega)
    have e : addTo 1 [a[i]] ⟨1, c, []⟩ = ⟨1, c + 1, []⟩ := by simp [addTo]
    rw [show c + 1 + (m : Int) = c + ((m + 1 : Nat) : Int) by omega, show i + 1 + m = i + (m + 1) by omega, show j + 1 + m = j + (m + 1) by omega] at this
    rw [e, this]
/-- Hunks in form are those that keep their pairs. -/
theorem canon (a b : List (List UInt8)) : ∀ (hs acc : List Hk) (i o j n : Nat), i ≤ o → j ≤ n → (∀ x, acc.getLast? = some x → x.kind = 1) →
    inOrder (if j < n then 3 else if i < o then 2 else match acc.getLast? with | some _ => 1 | none => 0) hs = true → (o : Int) + cnt 1 hs + cnt 2 hs = a.length → n ≤ b.length → b.drop n = change hs (a.drop o) →
    keepHs acc a b i j (prs hs o n) = acc ++ pend (o - i) ((b.take n).drop j) ++ hs
  | [], acc, i, o, j, n, hio, hjn, hacc, _, hl, hn, hb => by
    simp only [cnt] at hl
    have ho : o = a.length := by omega
    have hbn : n = b.length := by
      have := congrArg List.length hb
      rw [List.length_drop] at this
      simp [change] at this
      omega
    rw [prs, keepHs, take_pend acc _ _ hacc, List.append_nil, List.length_drop, ho, hbn, List.take_length]
  | h :: t, acc, i, o, j, n, hio, hjn, hacc, hord, hl, hn, hb => by
    have hall := inOrder_all _ _ hord
    have hh := hall h (by simp)
    obtain ⟨⟨n1, n2⟩, hk, hls⟩ := isHunk_num hh
    have c1 := cnt_nonneg 1 t fun x hx => (isHunk_num (hall x (by simp [hx]))).1.1
    have c2 := cnt_nonneg 2 t fun x hx => (isHunk_num (hall x (by simp [hx]))).1.1
    rw [inOrder, Bool.and_eq_true] at hord
    obtain ⟨hbs, hord⟩ := hord
    unfold beside at hbs
    simp only [Bool.and_eq_true, Bool.not_eq_true', Bool.and_eq_false_iff, beq_eq_false_iff_ne] at hbs
    obtain ⟨⟨_, hne⟩, hda⟩ := hbs
    obtain ⟨m, hm⟩ : ∃ m : Nat, h.n = (m : Int) := ⟨h.n.toNat, by omega⟩
    have hmt : h.n.toNat = m := by omega
    have hd : (a.drop o).drop m = a.drop (o + m) := by rw [List.drop_drop]
    simp only [cnt] at hl
    rw [change, hmt, hd] at hb
    rw [prs, hmt]
    obtain ⟨hkind, hn', hls'⟩ : True ∧ True ∧ True := ⟨trivial, trivial, trivial⟩
    have hz : h.kind ≠ 3 → h.ls = [] := fun e => by
      unfold isHunk at hh
      rw [if_pos (by omega)] at hh
      simp only [Bool.and_eq_true, decide_eq_true_eq] at hh
      exact List.length_eq_zero_iff.1 hh.2
    rcases hk with e | e | e
    · have hls0 := hz (by omega)
      have hhe : h = ⟨1, (m : Int), []⟩ := by cases h; simp at e hm hls0; rw [e, hm, hls0]
      rw [if_pos e] at hb ⊢
      simp only [e, if_true] at hl
      have hol : o + m ≤ a.length := by omega
      obtain ⟨m', rfl⟩ : ∃ m', m = m' + 1 := ⟨m - 1, by omega⟩
      have hpl : ¬ (o - i = 0 ∧ (b.take n).drop j = []) ∨ acc = [] := by
        by_cases hj : j < n
        · refine .inl fun hx => ?_
          have := congrArg List.length hx.2
          rw [List.length_drop, List.length_take] at this
          simp at this
          omega
        · by_cases hi : i < o
          · exact .inl fun hx => by omega
          · rw [if_neg hj, if_neg hi, e] at hne
            cases hg : acc.getLast? with
            | none => exact .inr (List.getLast?_eq_none_iff.1 hg)
            | some x => rw [hg] at hne; exact absurd rfl hne
      have hnew : ∀ x, (acc ++ pend (o - i) ((b.take n).drop j)).getLast? = some x → x.kind ≠ 1 := by
        rcases hpl with hp | hp
        · exact pend_last acc _ _ hp
        · by_cases hz2 : o - i = 0 ∧ (b.take n).drop j = []
          · rw [hp, hz2.1, hz2.2]
            intro x hx
            simp [pend] at hx
          · exact pend_last acc _ _ hz2
      have hseg : ((a.take o).drop i).length = o - i := by rw [List.length_drop, List.length_take]; omega
      rw [run, List.cons_append, keepHs, take_pend acc _ _ hacc, hseg, seg_one a o (by omega), take_new _ 1 _ (by simp) hnew]
      have ea : addTo 1 [a[o]] ⟨1, 0, []⟩ = ⟨1, 1, []⟩ := by simp [addTo]
      rw [ea, keep_run a b _ m' _ 1 (o + 1) (n + 1) (by omega)]
      have hblen : n + (m' + 1) ≤ b.length := by
        have := congrArg List.length hb
        rw [List.length_drop, List.length_append, List.length_take, List.length_drop] at this
        omega
      have hb2 : b.drop (n + (m' + 1)) = change t (a.drop (o + (m' + 1))) := by
        rw [← List.drop_drop, hb, List.drop_left' (by rw [List.length_take, List.length_drop]; omega)]
      have ih := canon a b t (acc ++ pend (o - i) ((b.take n).drop j) ++ [⟨1, 1 + (m' : Int), []⟩]) (o + (m' + 1)) (o + (m' + 1)) (n + (m' + 1)) (n + (m' + 1)) (Nat.le_refl _) (Nat.le_refl _) (fun x hx => by simp at hx; rw [← hx])
        (by rw [if_neg (by omega), if_neg (by omega)]; simp; rw [← e]; exact hord) (by omega) hblen hb2
      have e1 : o + 1 + m' = o + (m' + 1) := by omega
      have e2 : n + 1 + m' = n + (m' + 1) := by omega
      rw [e1, e2, ih, seg_none, Nat.sub_self]
      have ep : pend 0 [] = [] := rfl
      rw [ep, hhe]
      simp
      omega
    · have hls0 := hz (by omega)
      have hhe : h = ⟨2, (m : Int), []⟩ := by cases h; simp at e hm hls0; rw [e, hm, hls0]
      have e1 : ¬ h.kind = 1 := by omega
      have hj : ¬ j < n := fun hj => by
        rw [if_pos hj] at hda
        rcases hda with hda | hda
        · exact hda e
        · exact hda rfl
      have hi : ¬ i < o := fun hi => by rw [if_neg hj, if_pos hi] at hne; exact hne e
      rw [if_neg e1, if_pos e] at hb ⊢
      simp only [e, if_true] at hl
      obtain rfl : j = n := by omega
      obtain rfl : i = o := by omega
      have ih := canon a b t acc i (i + m) j j (by omega) (Nat.le_refl _) hacc (by rw [if_neg (by omega), if_pos (by omega), ← e]; exact hord) (by omega) hn hb
      rw [ih, seg_none, hhe, Nat.sub_self]
      have ep : pend 0 [] = [] := rfl
      have em : pend (i + m - i) [] = [⟨2, (m : Int), []⟩] := by
        unfold pend
        rw [if_neg (by omega), if_pos rfl, show i + m - i = m by omega]; rfl
      rw [ep, em]; simp
    · have hlm : h.ls.length = m := by
        unfold isHunk at hh
        rw [if_neg (by omega), if_pos e] at hh
        simp only [Bool.and_eq_true, decide_eq_true_eq] at hh
        omega
      have e1 : ¬ h.kind = 1 := by omega
      have e2 : ¬ h.kind = 2 := by omega
      have hj : ¬ j < n := fun hj => by rw [if_pos hj] at hne; exact hne e
      rw [if_neg e1, if_neg e2] at hb ⊢
      rw [if_pos e] at hb
      simp only [e] at hl
      obtain rfl : j = n := by omega
      have hblen : j + m ≤ b.length := by
        have := congrArg List.length hb
        rw [List.length_drop, List.length_append, hlm] at this
        omega
      have hb2 : b.drop (j + m) = change t (a.drop o) := by rw [← List.drop_drop, hb, List.drop_left' hlm]
      have hseg : (b.take (j + m)).drop j = h.ls := by
        rw [← List.take_drop, hb, List.take_left' hlm]
      have ih := canon a b t acc i o j (j + m) hio (by omega) hacc (by rw [if_pos (by omega), ← e]; exact hord) (by simpa using hl) hblen hb2
      rw [ih, hseg, seg_none]
      have hne2 : h.ls ≠ [] := fun hx => by rw [hx] at hlm; simp at hlm; omega
      have em : pend (o - i) h.ls = pend (o - i) [] ++ [h] := by
        unfold pend
        rw [if_neg hne2, if_pos rfl, List.append_nil]
        congr 1
        cases h
        simp at e hm hlm ⊢
        exact ⟨e.symm, by omega⟩
      rw [em]; simp
end Pc
end Go.Proofs.YtlfgnecfabdkmaaGreatDoor
end
section
namespace Go.Proofs.YtlfgnecfabdkmaaGreatDoor
open Tr
namespace Pc

abbrev Ln := List UInt8
/-- Rising pairs of equal lines, from i and j on. -/
structure Mat (a b : List Ln) (i j : Nat) (K : List (Nat × Nat)) : Prop where
  rise : K.Pairwise fun p q => p.1 < q.1 ∧ p.2 < q.2
  at_ : ∀ p ∈ K, i ≤ p.1 ∧ j ≤ p.2 ∧ p.1 < a.length ∧ p.2 < b.length ∧ a[p.1]? = b[p.2]?
theorem mat_nil (a b : List Ln) (i j : Nat) : Mat a b i j [] := ⟨.nil, by simp⟩
theorem mat_tail {a b : List Ln} {i j x y : Nat} {K : List (Nat × Nat)} (h : Mat a b i j ((x, y) :: K)) : i ≤ x ∧ j ≤ y ∧ x < a.length ∧ y < b.length ∧ a[x]? = b[y]? ∧ Mat a b (x + 1) (y + 1) K := by
  obtain ⟨h1, h2⟩ := h
  rw [List.pairwise_cons] at h1
  obtain ⟨a1, a2, a3, a4, a5⟩ := h2 (x, y) (by simp)
  refine ⟨a1, a2, a3, a4, a5, h1.2, fun p hp => ?_⟩
  obtain ⟨b1, b2, b3, b4, b5⟩ := h2 p (by simp [hp])
  have := h1.1 p hp
  exact ⟨this.1, this.2, b3, b4, b5⟩
theorem mat_cons {a b : List Ln} {i j x y : Nat} {K : List (Nat × Nat)} (h1 : i ≤ x) (h2 : j ≤ y) (h3 : x < a.length) (h4 : y < b.length) (h5 : a[x]? = b[y]?) (h : Mat a b (x + 1) (y + 1) K) : Mat a b i j ((x, y) :: K) := by
  obtain ⟨k1, k2⟩ := h
  refine ⟨List.pairwise_cons.2 ⟨fun p hp => ?_, k1⟩, fun p hp => ?_⟩
  · obtain ⟨b1, b2, _⟩ := k2 p hp
    exact ⟨by show x < p.1; omega, by show y < p.2; omega⟩
  · rcases List.mem_cons.1 hp with rfl | hp
    · exact ⟨h1, h2, h3, h4, h5⟩
    · obtain ⟨b1, b2, b3, b4, b5⟩ := k2 p hp
      exact ⟨by omega, by omega, b3, b4, b5⟩
theorem mat_mono {a b : List Ln} {i j i' j' : Nat} {K : List (Nat × Nat)} (h : Mat a b i j K) (hi : i' ≤ i) (hj : j' ≤ j) : Mat a b i' j' K :=
  ⟨h.rise, fun p hp => by obtain ⟨b1, b2, b3, b4, b5⟩ := h.at_ p hp; exact ⟨by omega, by omega, b3, b4, b5⟩⟩
def sw (p : Nat × Nat) : Nat × Nat := (p.2, p.1)
theorem sw_sw (K : List (Nat × Nat)) : (K.map sw).map sw = K := by
  rw [List.map_map]; conv => rhs; rw [← List.map_id K]
  exact List.map_congr_left fun p _ => rfl
theorem mat_swap {a b : List Ln} {i j : Nat} {K : List (Nat × Nat)} (h : Mat a b i j K) : Mat b a j i (K.map sw) := by
  refine ⟨?_, fun p hp => ?_⟩
  · rw [List.pairwise_map]
    exact h.rise.imp fun h => ⟨h.2, h.1⟩
  · obtain ⟨q, hq, rfl⟩ := List.mem_map.1 hp
    obtain ⟨b1, b2, b3, b4, b5⟩ := h.at_ q hq
    exact ⟨b2, b1, b4, b3, b5.symm⟩
/-- The kind of the last hunk. -/
def lk : Int → List Hk → Int
  | b, [] => b
  | _, h :: t => lk h.kind t
theorem lk_snoc (b : Int) (hs : List Hk) (x : Hk) : lk b (hs ++ [x]) = x.kind := by
  induction hs generalizing b with
  | nil => rfl
  | cons h t ih => exact ih _
theorem inOrder_snoc (b : Int) (hs : List Hk) (x : Hk) : inOrder b (hs ++ [x]) = (inOrder b hs && beside (lk b hs) x) := by
  induction hs generalizing b with
  | nil => simp [inOrder, lk]
  | cons h t ih => rw [List.cons_append, inOrder, inOrder, ih, lk, Bool.and_assoc]
theorem lk_last (hs : List Hk) : (hs = [] ∧ lk 0 hs = 0) ∨ ∃ x, hs.getLast? = some x ∧ lk 0 hs = x.kind := by
  rcases List.eq_nil_or_concat hs with rfl | ⟨t, x, rfl⟩
  · exact .inl ⟨rfl, rfl⟩
  · refine .inr ⟨x, by simp, ?_⟩
    simpa using lk_snoc 0 t x
/-- Lines of the text, and of the result, that hunks take. -/
def eats : List Hk → Nat
  | [] => 0
  | h :: t => (if h.kind = 1 ∨ h.kind = 2 then h.n.toNat else 0) + eats t
def puts : List Hk → Nat
  | [] => 0
  | h :: t => (if h.kind = 1 ∨ h.kind = 3 then h.n.toNat else 0) + puts t
theorem eats_cnt : ∀ (hs : List Hk), (∀ h ∈ hs, isHunk h = true) → (eats hs : Int) = cnt 1 hs + cnt 2 hs ∧ (puts hs : Int) = cnt 1 hs + cnt 3 hs
  | [], _ => by simp [eats, puts, cnt]
  | h :: t, hh => by
    obtain ⟨i1, i2⟩ := eats_cnt t fun x hx => hh x (by simp [hx])
    obtain ⟨⟨n1, n2⟩, hk, _⟩ := isHunk_num (hh h (by simp))
    have hn : (h.n.toNat : Int) = h.n := by omega
    simp only [eats, puts, cnt]
    rcases hk with e | e | e <;> simp [e, hn] <;> omega
theorem change_app : ∀ (hs t : List Hk) (l : List Ln), (∀ h ∈ hs, isHunk h = true) → change (hs ++ t) l = change hs l ++ change t (l.drop (eats hs))
  | [], t, l, _ => by simp [change, eats]
  | h :: r, t, l, hh => by
    have ih := fun l => change_app r t l fun x hx => hh x (by simp [hx])
    obtain ⟨_, hk, _⟩ := isHunk_num (hh h (by simp))
    rw [List.cons_append, change, change, eats]
    rcases hk with e | e | e <;> simp [e, ih, List.drop_drop]
theorem prs_app : ∀ (hs t : List Hk) (o n : Nat), (∀ h ∈ hs, isHunk h = true) → prs (hs ++ t) o n = prs hs o n ++ prs t (o + eats hs) (n + puts hs)
  | [], t, o, n, _ => by simp [prs, eats, puts]
  | h :: r, t, o, n, hh => by
    have ih := fun o n => prs_app r t o n fun x hx => hh x (by simp [hx])
    obtain ⟨_, hk, _⟩ := isHunk_num (hh h (by simp))
    rw [List.cons_append, prs, prs, eats, puts]
    rcases hk with e | e | e <;> simp [e, ih, Nat.add_assoc]
theorem run_len (o n m : Nat) : (run o n m).length = m := by
  induction m generalizing o n with
  | zero => rfl
  | succ m ih => rw [run, List.length_cons, ih]
theorem run_snoc (o n m : Nat) : run o n (m + 1) = run o n m ++ [(o + m, n + m)] := by
  induction m generalizing o n with
  | zero => rfl
  | succ m ih =>
    rw [run, ih, run, List.cons_append]
    congr 4 <;> omega
/-- Hunks that lead from the first i lines of a text to the first j lines of the other one. -/
structure St (a b : List Ln) (hs : List Hk) (i j : Nat) (K : List (Nat × Nat)) : Prop where
  ord : inOrder 0 hs = true
  src : cnt 1 hs + cnt 2 hs = i
  dst : cnt 1 hs + cnt 3 hs = j
  chg : change hs a = b.take j
  prs : Pc.prs hs 0 0 = K
  kept : cnt 1 hs = K.length
  il : i ≤ a.length
  jl : j ≤ b.length
theorem St.all {a b : List Ln} {hs : List Hk} {i j : Nat} {K : List (Nat × Nat)} (h : St a b hs i j K) : (∀ x ∈ hs, isHunk x = true) ∧ eats hs = i ∧ puts hs = j := by
  have ha := inOrder_all 0 hs h.ord
  obtain ⟨e1, e2⟩ := eats_cnt hs ha
  have := h.src; have := h.dst
  exact ⟨ha, by omega, by omega⟩
theorem st_nil (a b : List Ln) : St a b [] 0 0 [] := ⟨rfl, rfl, rfl, rfl, rfl, rfl, Nat.zero_le _, Nat.zero_le _⟩
theorem isHunk_two (k : Int) (hk : k = 1 ∨ k = 2) (m : Nat) (h1 : 1 ≤ m) (h2 : m ≤ 1024) : isHunk ⟨k, (m : Int), []⟩ = true := by
  unfold isHunk
  rw [if_pos hk]
  simp only [Bool.and_eq_true, decide_eq_true_eq, isNum_iff]
  exact ⟨by omega, rfl⟩
theorem isHunk_add (ls : List Ln) (h1 : 1 ≤ ls.length) (h2 : ls.length ≤ 1024) : isHunk ⟨3, (ls.length : Int), ls⟩ = true := by
  unfold isHunk
  rw [if_neg (by simp), if_pos rfl, Bool.and_eq_true]
  exact ⟨(isNum_iff _).2 (by dsimp only; omega), decide_eq_true rfl⟩
theorem beside_of {b : Int} {h : Hk} (h1 : isHunk h = true) (h2 : h.kind ≠ b) (h3 : ¬ (h.kind = 2 ∧ b = 3)) : beside b h = true := by
  unfold beside
  simp only [Bool.and_eq_true, Bool.not_eq_true', beq_eq_false_iff_ne, Bool.and_eq_false_iff]
  exact ⟨⟨h1, h2⟩, by by_cases e : h.kind = 2 <;> simp [e] <;> exact fun e2 => h3 ⟨e, e2⟩⟩
theorem St.drop {a b : List Ln} {hs : List Hk} {i j : Nat} {K : List (Nat × Nat)} (h : St a b hs i j K) (m : Nat) (h1 : 1 ≤ m) (h2 : m ≤ 1024) (hi : i + m ≤ a.length) (hl : lk 0 hs ≠ 2) (hl3 : lk 0 hs ≠ 3) : St a b (hs ++ [⟨2, (m : Int), []⟩]) (i + m) j K := by
  obtain ⟨ha, e1, e2⟩ := h.all
  refine ⟨?_, ?_, ?_, ?_, ?_, ?_, hi, h.jl⟩
  · rw [inOrder_snoc, h.ord, beside_of (isHunk_two 2 (.inr rfl) m h1 h2) (fun e => hl e.symm) (fun e => hl3 e.2)]; rfl
  · have := h.src; simp [cnt_app, cnt]; omega
  · have := h.dst; simp [cnt_app, cnt]; omega
  · rw [change_app _ _ _ ha, h.chg]; simp [change]
  · rw [prs_app _ _ _ _ ha, h.prs]; simp [Pc.prs]
  · have := h.kept; simp [cnt_app, cnt]; omega
theorem St.add {a b : List Ln} {hs : List Hk} {i j : Nat} {K : List (Nat × Nat)} (h : St a b hs i j K) (m : Nat) (h1 : 1 ≤ m) (h2 : m ≤ 1024) (hj : j + m ≤ b.length) (hl : lk 0 hs ≠ 3) : St a b (hs ++ [⟨3, (m : Int), (b.take (j + m)).drop j⟩]) i (j + m) K := by
  obtain ⟨ha, e1, e2⟩ := h.all
  have hlen : ((b.take (j + m)).drop j).length = m := by rw [List.length_drop, List.length_take]; omega
  have hh := isHunk_add ((b.take (j + m)).drop j) (by omega) (by omega)
  rw [hlen] at hh
  refine ⟨?_, ?_, ?_, ?_, ?_, ?_, h.il, hj⟩
  · rw [inOrder_snoc, h.ord, beside_of hh (fun e => hl e.symm) (fun e => absurd e.1 (by show (3 : Int) ≠ 2; decide))]; rfl
  · have := h.src; simp [cnt_app, cnt]; omega
  · have := h.dst; simp [cnt_app, cnt]; omega
  · rw [change_app _ _ _ ha, h.chg]
    simp only [change]
    simp only [show ¬ ((3 : Int) = 1) by decide, show ¬ ((3 : Int) = 2) by decide, if_false, if_true, List.append_nil]
    have e : b.take j = (b.take (j + m)).take j := by rw [List.take_take, Nat.min_eq_left (by omega)]
    rw [e, List.take_append_drop]
  · rw [prs_app _ _ _ _ ha, h.prs]; simp [Pc.prs]
  · have := h.kept; simp [cnt_app, cnt]; omega
theorem take_at {α : Type} (l : List α) (i : Nat) (h : i < l.length) : l.take (i + 1) = l.take i ++ [l[i]] := List.take_succ_eq_append_getElem h
theorem St.keep {a b : List Ln} {hs : List Hk} {i j : Nat} {K : List (Nat × Nat)} (h : St a b hs i j K) (hi : i < a.length) (hj : j < b.length) (he : a[i]? = b[j]?) (hl : lk 0 hs ≠ 1) : St a b (hs ++ [⟨1, 1, []⟩]) (i + 1) (j + 1) (K ++ [(i, j)]) := by
  obtain ⟨ha, e1, e2⟩ := h.all
  have hh : isHunk ⟨1, 1, []⟩ = true := by decide
  refine ⟨?_, ?_, ?_, ?_, ?_, ?_, hi, hj⟩
  · rw [inOrder_snoc, h.ord, beside_of hh (fun e => hl e.symm) (fun e => absurd e.1 (by show (1 : Int) ≠ 2; decide))]; rfl
  · have := h.src; simp [cnt_app, cnt]; omega
  · have := h.dst; simp [cnt_app, cnt]; omega
  · rw [change_app _ _ _ ha, h.chg, e1, take_at b j hj]
    have ee : b[j] = a[i] := by
      rw [List.getElem?_eq_getElem hi, List.getElem?_eq_getElem hj] at he
      exact (Option.some.inj he).symm
    rw [ee]
    have : (a.drop i).take 1 = [a[i]] := by rw [List.drop_eq_getElem_cons hi]; rfl
    simp [change, this]
  · rw [prs_app _ _ _ _ ha, h.prs, e1, e2]; simp [Pc.prs, run]
  · have := h.kept; simp [cnt_app, cnt]; omega
theorem St.more {a b : List Ln} {hs : List Hk} {c : Int} {i j : Nat} {K : List (Nat × Nat)} (h : St a b (hs ++ [⟨1, c, []⟩]) i j K) (hi : i < a.length) (hj : j < b.length) (he : a[i]? = b[j]?) (ha : a.length ≤ 1024) : St a b (hs ++ [⟨1, c + 1, []⟩]) (i + 1) (j + 1) (K ++ [(i, j)]) := by
  have hall := h.all.1
  have ho := h.ord
  rw [inOrder_snoc, Bool.and_eq_true] at ho
  have hh := inOrder_all 0 hs ho.1
  obtain ⟨q1, q2⟩ := eats_cnt hs hh
  obtain ⟨⟨n1, n2⟩, _⟩ := isHunk_num (hall ⟨1, c, []⟩ (by simp))
  dsimp only at n1 n2
  have hsrc := h.src; have hdst := h.dst; have hkept := h.kept; have hchg := h.chg; have hprs := h.prs
  simp only [cnt_app, cnt] at hsrc hdst hkept
  simp at hsrc hdst hkept
  have c1 := cnt_nonneg 1 hs fun x hx => (isHunk_num (hh x hx)).1.1
  have c2 := cnt_nonneg 2 hs fun x hx => (isHunk_num (hh x hx)).1.1
  obtain ⟨m, rfl⟩ : ∃ m : Nat, c = (m : Int) := ⟨c.toNat, by omega⟩
  have hb2 := ho.2
  unfold beside at hb2
  simp only [Bool.and_eq_true, Bool.not_eq_true', beq_eq_false_iff_ne] at hb2
  have hn : isHunk ⟨1, (m : Int) + 1, []⟩ = true := by
    have h := isHunk_two 1 (.inl rfl) (m + 1) (by omega) (by omega)
    rwa [show ((m + 1 : Nat) : Int) = (m : Int) + 1 by omega] at h
  refine ⟨?_, ?_, ?_, ?_, ?_, ?_, hi, hj⟩
  · rw [inOrder_snoc, ho.1, beside_of (h := ⟨1, (m : Int) + 1, []⟩) hn hb2.1.2 (fun e => absurd e.1 (by show (1 : Int) ≠ 2; decide))]; rfl
  · simp [cnt_app, cnt]; omega
  · simp [cnt_app, cnt]; omega
  · rw [change_app _ _ _ hh] at hchg ⊢
    simp only [change, if_true, List.append_nil] at hchg ⊢
    have em : ((m : Int) + 1).toNat = m + 1 := by omega
    have em0 : (m : Int).toNat = m := by omega
    rw [em0] at hchg
    have hlt : m < (a.drop (eats hs)).length := by rw [List.length_drop]; omega
    have ee : (a.drop (eats hs))[m] = b[j] := by
      rw [List.getElem_drop]
      rw [List.getElem?_eq_getElem hi, List.getElem?_eq_getElem hj] at he
      have := Option.some.inj he
      rw [← this]
      congr 1
      omega
    rw [em, take_at _ m hlt, ← List.append_assoc, hchg, take_at b j hj, ee]
  · rw [prs_app _ _ _ _ hh] at hprs ⊢
    simp only [Pc.prs, if_true, List.append_nil] at hprs ⊢
    have em : ((m : Int) + 1).toNat = m + 1 := by omega
    have em0 : (m : Int).toNat = m := by omega
    rw [em0] at hprs
    rw [em, run_snoc, ← List.append_assoc, hprs]
    congr 3 <;> omega
  · simp [cnt_app, cnt]; omega
theorem St.pend {a b : List Ln} {hs : List Hk} {i j : Nat} {K : List (Nat × Nat)} (h : St a b hs i j K) (x y : Nat) (hx : i ≤ x) (hy : j ≤ y) (hxa : x ≤ a.length) (hyb : y ≤ b.length) (ha : a.length ≤ 1024) (hb : b.length ≤ 1024) (hl : hs = [] ∨ lk 0 hs = 1) :
    St a b (hs ++ Pc.pend ((a.take x).drop i).length ((b.take y).drop j)) x y K := by
  have l1 : ((a.take x).drop i).length = x - i := by rw [List.length_drop, List.length_take]; omega
  have l2 : ((b.take y).drop j).length = y - j := by rw [List.length_drop, List.length_take]; omega
  have hl2 : lk 0 hs ≠ 2 ∧ lk 0 hs ≠ 3 := by
    rcases hl with rfl | e
    · exact ⟨by decide, by decide⟩
    · rw [e]; exact ⟨by decide, by decide⟩
  unfold Pc.pend
  rw [l1]
  have step1 : St a b (hs ++ (if x - i = 0 then [] else [⟨2, ((x - i : Nat) : Int), []⟩])) x j K ∧ lk 0 (hs ++ (if x - i = 0 then [] else [⟨2, ((x - i : Nat) : Int), []⟩])) ≠ 3 := by
    by_cases e : x - i = 0
    · rw [if_pos e, List.append_nil, show x = i by omega]; exact ⟨h, hl2.2⟩
    · rw [if_neg e]
      have := h.drop (x - i) (by omega) (by omega) (by omega) hl2.1 hl2.2
      rw [show i + (x - i) = x by omega] at this
      exact ⟨this, by rw [lk_snoc]; show (2 : Int) ≠ 3; decide⟩
  rw [← List.append_assoc]
  by_cases e : (b.take y).drop j = []
  · rw [if_pos e, List.append_nil]
    rw [e] at l2
    simp at l2
    rw [show y = j by omega]
    exact step1.1
  · rw [if_neg e]
    have hpos : 1 ≤ y - j := by
      rw [← l2]
      exact List.length_pos_iff.2 e
    have := step1.1.add (y - j) hpos (by omega) (by omega) step1.2
    rw [show j + (y - j) = y by omega] at this
    rw [l2]
    exact this
theorem keep_st (a b : List Ln) (ha : a.length ≤ 1024) (hb : b.length ≤ 1024) : ∀ (K K0 : List (Nat × Nat)) (acc : List Hk) (i j : Nat), St a b acc i j K0 → (acc = [] ∨ lk 0 acc = 1) → Mat a b i j K → St a b (keepHs acc a b i j K) a.length b.length (K0 ++ K)
  | [], K0, acc, i, j, hs, hl, _ => by
    have hlast : ∀ x, acc.getLast? = some x → x.kind = 1 := fun x hx => by
      rcases lk_last acc with ⟨rfl, _⟩ | ⟨y, hy, e⟩
      · simp at hx
      · rw [hx] at hy
        obtain rfl := Option.some.inj hy
        rcases hl with rfl | e1
        · simp at hx
        · rw [← e, e1]
    have h := hs.pend a.length b.length hs.il hs.jl (Nat.le_refl _) (Nat.le_refl _) ha hb hl
    rw [List.take_length, List.take_length] at h
    rw [keepHs, take_pend acc _ _ hlast, List.append_nil]
    exact h
  | (x, y) :: K, K0, acc, i, j, hs, hl, hm => by
    have hlast : ∀ x, acc.getLast? = some x → x.kind = 1 := fun x hx => by
      rcases lk_last acc with ⟨rfl, _⟩ | ⟨y, hy, e⟩
      · simp at hx
      · rw [hx] at hy
        obtain rfl := Option.some.inj hy
        rcases hl with rfl | e1
        · simp at hx
        · rw [← e, e1]
    obtain ⟨m1, m2, m3, m4, m5, m6⟩ := mat_tail hm
    have h := hs.pend x y m1 m2 (by omega) (by omega) ha hb hl
    rw [keepHs, take_pend acc _ _ hlast, seg_one a x m3]
    have e1 : K0 ++ (x, y) :: K = (K0 ++ [(x, y)]) ++ K := by simp
    rw [e1]
    by_cases hp : lk 0 (acc ++ Pc.pend ((a.take x).drop i).length ((b.take y).drop j)) = 1
    · rcases List.eq_nil_or_concat (acc ++ Pc.pend ((a.take x).drop i).length ((b.take y).drop j)) with e | ⟨t, z, e⟩
      · rw [e] at hp; exact absurd hp (by decide)
      · rw [List.concat_eq_append] at e
        rw [e] at h hp ⊢
        rw [lk_snoc] at hp
        have hz := h.all.1 z (by simp)
        have hzl : z.ls = [] := by
          unfold isHunk at hz
          rw [if_pos (.inl hp)] at hz
          simp only [Bool.and_eq_true, decide_eq_true_eq] at hz
          exact List.length_eq_zero_iff.1 hz.2
        obtain ⟨zk, zn, zls⟩ := z
        simp at hp hzl
        subst hp hzl
        rw [take_same _ _ 1 _ (by simp) rfl]
        have ea : addTo 1 [a[x]] ⟨1, zn, []⟩ = ⟨1, zn + 1, []⟩ := by simp [addTo]
        rw [ea]
        exact keep_st a b ha hb K _ _ (x + 1) (y + 1) (h.more m3 m4 m5 ha) (.inr (lk_snoc _ _ _)) m6
    · have hnl : ∀ z, (acc ++ Pc.pend ((a.take x).drop i).length ((b.take y).drop j)).getLast? = some z → z.kind ≠ 1 := fun z hz => by
        rcases lk_last (acc ++ Pc.pend ((a.take x).drop i).length ((b.take y).drop j)) with ⟨e, _⟩ | ⟨w, hw, e⟩
        · rw [e] at hz; simp at hz
        · rw [hz] at hw
          obtain rfl := Option.some.inj hw
          rw [← e]; exact hp
      rw [take_new _ 1 _ (by simp) hnl]
      have ea : addTo 1 [a[x]] ⟨1, 0, []⟩ = ⟨1, 1, []⟩ := by simp [addTo]
      rw [ea]
      exact keep_st a b ha hb K _ _ (x + 1) (y + 1) (h.keep m3 m4 m5 hp) (.inr (lk_snoc _ _ _)) m6
/-- The hunks that keep rising pairs lead from one text to the other one. -/
theorem keep_ok {a b : List Ln} {K : List (Nat × Nat)} (ha : a.length ≤ 1024) (hb : b.length ≤ 1024) (h : Mat a b 0 0 K) : St a b (keepHs [] a b 0 0 K) a.length b.length K := by
  have := keep_st a b ha hb K [] [] 0 0 (st_nil a b) (.inl rfl) h
  exact this
/-- The pairs that hunks keep rise, and their lines are equal. -/
theorem prs_mat (a b : List Ln) : ∀ (hs : List Hk) (o n : Nat), (∀ h ∈ hs, isHunk h = true) → o + eats hs ≤ a.length → n ≤ b.length → b.drop n = change hs (a.drop o) → Mat a b o n (prs hs o n)
  | [], o, n, _, _, _, _ => mat_nil _ _ _ _
  | h :: t, o, n, hh, hl, hn, hb => by
    have ih := fun o n => prs_mat a b t o n fun x hx => hh x (by simp [hx])
    obtain ⟨⟨n1, n2⟩, hk, hls⟩ := isHunk_num (hh h (by simp))
    obtain ⟨m, hm⟩ : ∃ m : Nat, h.n = (m : Int) := ⟨h.n.toNat, by omega⟩
    have hmt : h.n.toNat = m := by omega
    have hd : (a.drop o).drop m = a.drop (o + m) := by rw [List.drop_drop]
    rw [eats, hmt] at hl
    rw [change, hmt, hd] at hb
    rw [prs, hmt]
    rcases hk with e | e | e
    · rw [if_pos e] at hb ⊢
      rw [if_pos (.inl e)] at hl
      have hlen : n + m ≤ b.length := by
        have := congrArg List.length hb
        rw [List.length_drop, List.length_append, List.length_take, List.length_drop] at this
        omega
      have hb2 : b.drop (n + m) = change t (a.drop (o + m)) := by
        rw [← List.drop_drop, hb, List.drop_left' (by rw [List.length_take, List.length_drop]; omega)]
      have hrun : ∀ k K, o + k ≤ a.length → k ≤ m → Mat a b (o + k) (n + k) K → Mat a b o n (run o n k ++ K) := by
        intro k
        induction k with
        | zero => intro K _ _ h; simpa [run] using h
        | succ k ihk =>
          intro K h1 h2 h3
          rw [run_snoc, List.append_assoc]
          refine ihk _ (by omega) (by omega) (mat_cons (Nat.le_refl _) (Nat.le_refl _) (by omega) (by omega) ?_ h3)
          have h5 := congrArg (fun l => l[k]?) hb
          simp only [List.getElem?_drop] at h5
          rw [h5, List.getElem?_append_left (by rw [List.length_take, List.length_drop]; omega), List.getElem?_take, if_pos (by omega), List.getElem?_drop]
      exact hrun m _ (by omega) (Nat.le_refl _) (ih (o + m) (n + m) (by omega) hlen hb2)
    · have e1 : ¬ h.kind = 1 := by omega
      rw [if_neg e1, if_pos e] at hb ⊢
      rw [if_pos (.inr e)] at hl
      exact mat_mono (ih (o + m) n (by omega) hn hb) (by omega) (Nat.le_refl _)
    · have e1 : ¬ h.kind = 1 := by omega
      have e2 : ¬ h.kind = 2 := by omega
      have hlm : h.ls.length = m := by
        have := hh h (by simp)
        unfold isHunk at this
        rw [if_neg (by omega), if_pos e] at this
        simp only [Bool.and_eq_true, decide_eq_true_eq] at this
        omega
      rw [if_neg e1, if_neg e2] at hb ⊢
      rw [if_pos e] at hb
      rw [if_neg (by omega)] at hl
      have hlen : n + m ≤ b.length := by
        have := congrArg List.length hb
        rw [List.length_drop, List.length_append, hlm] at this
        omega
      have hb2 : b.drop (n + m) = change t (a.drop o) := by rw [← List.drop_drop, hb, List.drop_left' hlm]
      exact mat_mono (ih o (n + m) (by omega) hlen hb2) (Nat.le_refl _) (by omega)
end Pc
end Go.Proofs.YtlfgnecfabdkmaaGreatDoor
end
section
namespace Go.Proofs.YtlfgnecfabdkmaaGreatDoor
open Tr
namespace Pc

def lcs : List Ln → List Ln → Nat
  | [], _ => 0
  | _ :: _, [] => 0
  | x :: a, y :: b => if x = y then lcs a b + 1 else max (lcs a (y :: b)) (lcs (x :: a) b)
termination_by a b => a.length + b.length
theorem lcs_nil (b : List Ln) : lcs [] b = 0 := by rw [lcs]
theorem lcs_nil_r (a : List Ln) : lcs a [] = 0 := by cases a <;> rw [lcs]
theorem lcs_cons (x y : Ln) (a b : List Ln) : lcs (x :: a) (y :: b) = if x = y then lcs a b + 1 else max (lcs a (y :: b)) (lcs (x :: a) b) := by rw [lcs]
theorem lcs_steps : ∀ (N : Nat) (a b : List Ln), a.length + b.length ≤ N → (∀ x, lcs a b ≤ lcs (x :: a) b ∧ lcs (x :: a) b ≤ lcs a b + 1) ∧ (∀ y, lcs a b ≤ lcs a (y :: b) ∧ lcs a (y :: b) ≤ lcs a b + 1)
  | N, a, b, h => by
    constructor
    · intro x
      cases b with
      | nil => rw [lcs_nil_r, lcs_nil_r]; omega
      | cons y b' =>
        cases N with
        | zero => simp at h
        | succ N =>
          rw [List.length_cons] at h
          obtain ⟨q1, q2⟩ := lcs_steps N a b' (by omega)
          have r1 := q1 x
          have r2 := q2 y
          rw [lcs_cons]
          split <;> omega
    · intro y
      cases a with
      | nil => rw [lcs_nil, lcs_nil]; omega
      | cons x a' =>
        cases N with
        | zero => simp at h
        | succ N =>
          rw [List.length_cons] at h
          obtain ⟨q1, q2⟩ := lcs_steps N a' b (by omega)
          have r1 := q1 x
          have r2 := q2 y
          rw [lcs_cons]
          split <;> omega
theorem lcs_a (x : Ln) (a b : List Ln) : lcs a b ≤ lcs (x :: a) b ∧ lcs (x :: a) b ≤ lcs a b + 1 := (lcs_steps _ a b (Nat.le_refl _)).1 x
theorem lcs_b (y : Ln) (a b : List Ln) : lcs a b ≤ lcs a (y :: b) ∧ lcs a (y :: b) ≤ lcs a b + 1 := (lcs_steps _ a b (Nat.le_refl _)).2 y
/-- Where a line stands first. -/
def firstEq (x : Ln) : List Ln → Option Nat
  | [] => none
  | y :: b => if x = y then some 0 else (firstEq x b).map (· + 1)
theorem first_none {x : Ln} : ∀ {b : List Ln} (a : List Ln), firstEq x b = none → lcs (x :: a) b = lcs a b
  | [], a, _ => by rw [lcs_nil_r, lcs_nil_r]
  | y :: b, a, h => by
    rw [firstEq] at h
    split at h
    · cases h
    · rename_i hne
      rw [Option.map_eq_none_iff] at h
      have ih := first_none a h
      have := lcs_b y a b
      rw [lcs_cons, if_neg hne, ih]
      omega
theorem first_some {x : Ln} : ∀ {b : List Ln} {k : Nat} (a : List Ln), firstEq x b = some k → lcs (x :: a) b = max (lcs a b) (lcs a (b.drop (k + 1)) + 1)
  | [], k, a, h => by cases h
  | y :: b, k, a, h => by
    rw [firstEq] at h
    split at h
    · rename_i he
      obtain rfl := Option.some.inj h
      have := lcs_b y a b
      rw [lcs_cons, if_pos he]
      simp only [List.drop_succ_cons, List.drop_zero]
      omega
    · rename_i hne
      obtain ⟨k', hk, rfl⟩ := Option.map_eq_some_iff.1 h
      have ih := first_some a hk
      have := lcs_b y a b
      rw [lcs_cons, if_neg hne, ih, List.drop_succ_cons]
      omega
theorem first_at {x : Ln} : ∀ {b : List Ln} {k : Nat}, firstEq x b = some k → b[k]? = some x ∧ ∀ j, j < k → b[j]? ≠ some x
  | [], k, h => by cases h
  | y :: b, k, h => by
    rw [firstEq] at h
    split at h
    · rename_i he
      obtain rfl := Option.some.inj h
      exact ⟨by simp [he], fun j hj => by omega⟩
    · rename_i hne
      obtain ⟨k', hk, rfl⟩ := Option.map_eq_some_iff.1 h
      obtain ⟨h1, h2⟩ := first_at hk
      refine ⟨by simpa using h1, fun j hj => ?_⟩
      cases j with
      | zero => simp; exact fun e => hne e.symm
      | succ j => simpa using h2 j (by omega)
theorem first_miss {x : Ln} : ∀ {b : List Ln}, (∀ j : Nat, b[j]? ≠ some x) → firstEq x b = none
  | [], _ => rfl
  | y :: b, h => by
    rw [firstEq, if_neg (fun e => h 0 (by simp [e])), first_miss (fun j => by have := h (j + 1); simpa using this)]
    rfl
theorem first_hit {x : Ln} : ∀ {b : List Ln} {k : Nat}, b[k]? = some x → (∀ j, j < k → b[j]? ≠ some x) → firstEq x b = some k
  | [], k, h, _ => by simp at h
  | y :: b, 0, h, _ => by
    simp at h
    rw [firstEq, if_pos h.symm]
  | y :: b, k + 1, h, h2 => by
    rw [firstEq, if_neg (fun e => h2 0 (by omega) (by simp [e])), first_hit (by simpa using h) (fun j hj => by have := h2 (j + 1) (by omega); simpa using this)]
    rfl
/-- The pairs that the program finds: what is left of both lists behind i and j lines. -/
def common : List Ln → List Ln → Nat → Nat → List (Nat × Nat)
  | [], _, _, _ => []
  | x :: a, b, i, j => match firstEq x b with
    | none => common a b (i + 1) j
    | some k => if lcs a (b.drop (k + 1)) + 1 = lcs (x :: a) b then (i, j + k) :: common a (b.drop (k + 1)) (i + 1) (j + k + 1) else common a b (i + 1) j
theorem common_len : ∀ (a b : List Ln) (i j : Nat), (common a b i j).length = lcs a b
  | [], b, i, j => by rw [lcs_nil]; rfl
  | x :: a, b, i, j => by
    rw [common]
    split
    · rename_i h
      rw [common_len a b, first_none a h]
    · rename_i k h
      have hs := first_some a h
      split
      · rename_i e
        rw [List.length_cons, common_len a _, e]
      · rename_i e
        rw [common_len a b]
        omega
theorem common_mat (A B : List Ln) : ∀ (a b : List Ln) (i j : Nat), a = A.drop i → b = B.drop j → Mat A B i j (common a b i j)
  | [], b, i, j, _, _ => mat_nil _ _ _ _
  | x :: a, b, i, j, ha, hb => by
    have hi : i < A.length := by
      have := congrArg List.length ha
      rw [List.length_cons, List.length_drop] at this
      omega
    have hx : A[i]? = some x := by
      have := congrArg (fun l => l[0]?) ha
      simp only [List.getElem?_drop, Nat.add_zero] at this
      rw [← this]; rfl
    have ha' : a = A.drop (i + 1) := by
      have := congrArg (List.drop 1) ha
      rw [List.drop_drop] at this
      exact this
    rw [common]
    split
    · exact mat_mono (common_mat A B a b (i + 1) j ha' hb) (by omega) (Nat.le_refl _)
    · rename_i k h
      obtain ⟨h1, _⟩ := first_at h
      rw [hb, List.getElem?_drop] at h1
      have hj := (List.getElem?_eq_some_iff.1 h1).1
      split
      · exact mat_cons (Nat.le_refl _) (by omega) hi hj (hx.trans h1.symm) (common_mat A B a _ (i + 1) (j + k + 1) ha' (by rw [hb, List.drop_drop]; congr 1))
      · exact mat_mono (common_mat A B a b (i + 1) j ha' hb) (by omega) (Nat.le_refl _)
/-- No rising pairs of equal lines are more. -/
theorem mat_le (A B : List Ln) : ∀ (N : Nat) (a b : List Ln) (i j : Nat) (K : List (Nat × Nat)), a.length + b.length ≤ N → a = A.drop i → b = B.drop j → Mat A B i j K → K.length ≤ lcs a b
  | N, [], b, i, j, K, _, ha, _, hm => by
    cases K with
    | nil => simp
    | cons p K =>
      obtain ⟨m1, _, m3, _⟩ := mat_tail hm
      have := congrArg List.length ha
      rw [List.length_drop] at this
      simp at this; omega
  | N, x :: a, [], i, j, K, _, _, hb, hm => by
    cases K with
    | nil => simp
    | cons p K =>
      obtain ⟨_, m2, _, m4, _⟩ := mat_tail hm
      have := congrArg List.length hb
      rw [List.length_drop] at this
      simp at this; omega
  | 0, x :: a, y :: b, i, j, K, h, _, _, _ => by simp at h
  | N + 1, x :: a, y :: b, i, j, K, h, ha, hb, hm => by
    simp only [List.length_cons] at h
    have hx : A[i]? = some x := by
      have := congrArg (fun l => l[0]?) ha
      simp only [List.getElem?_drop, Nat.add_zero] at this
      rw [← this]; rfl
    have hy : B[j]? = some y := by
      have := congrArg (fun l => l[0]?) hb
      simp only [List.getElem?_drop, Nat.add_zero] at this
      rw [← this]; rfl
    have ha' : a = A.drop (i + 1) := by
      have := congrArg (List.drop 1) ha
      rw [List.drop_drop] at this
      exact this
    have hb' : b = B.drop (j + 1) := by
      have := congrArg (List.drop 1) hb
      rw [List.drop_drop] at this
      exact this
    cases K with
    | nil => simp
    | cons p K =>
      obtain ⟨p1, p2⟩ := p
      obtain ⟨m1, m2, m3, m4, m5, m6⟩ := mat_tail hm
      rw [lcs_cons]
      split
      · have := mat_le A B N a b (i + 1) (j + 1) K (by omega) ha' hb' (mat_mono m6 (by omega) (by omega))
        rw [List.length_cons]; omega
      · rename_i hne
        by_cases e1 : i < p1
        · have := mat_le A B N a (y :: b) (i + 1) j ((p1, p2) :: K) (by simp only [List.length_cons]; omega) ha' hb (mat_cons (by omega) m2 m3 m4 m5 m6)
          omega
        · by_cases e2 : j < p2
          · have := mat_le A B N (x :: a) b i (j + 1) ((p1, p2) :: K) (by simp only [List.length_cons]; omega) ha hb' (mat_cons m1 (by omega) m3 m4 m5 m6)
            omega
          · exfalso
            obtain rfl : p1 = i := by omega
            obtain rfl : p2 = j := by omega
            rw [hx, hy] at m5
            exact hne (Option.some.inj m5)
end Pc
end Go.Proofs.YtlfgnecfabdkmaaGreatDoor
end
section
namespace Go.Proofs.YtlfgnecfabdkmaaGreatDoor
open Tr
namespace Pc

/-- The pairs that undo places. -/
def invK : List Pl → Nat → List (Nat × Nat)
  | [], _ => []
  | x :: t, i => if 0 ≤ x.old then (i, x.old.toNat) :: invK t (i + 1) else invK t (i + 1)
/-- The pairs that lead through two lists of places. -/
def thenK (first : List Pl) : List Pl → Nat → List (Nat × Nat)
  | [], _ => []
  | x :: t, i => if 0 ≤ x.old ∧ 0 ≤ (first.getD x.old.toNat default).old then ((first.getD x.old.toNat default).old.toNat, i) :: thenK first t (i + 1) else thenK first t (i + 1)
def invert (p : Pa) (data : List UInt8) : Pa × Int :=
  if (apply p data).2 ≠ 0 then (⟨[], []⟩, (apply p data).2)
  else keeping (if p.base = [] then [] else dig (apply p data).1) (Tre.lines (apply p data).1).1 (Tre.lines data).1 (invK (placesOf p) 0)
def thenP (p q : Pa) (data : List UInt8) : Pa × Int :=
  if (apply p data).2 ≠ 0 then (⟨[], []⟩, (apply p data).2)
  else if (apply q (apply p data).1).2 ≠ 0 then (⟨[], []⟩, (apply q (apply p data).1).2)
  else keeping p.base (Tre.lines data).1 (Tre.lines (apply q (apply p data).1).1).1 (thenK (placesOf p) (placesOf q) 0)
def make (f t : List UInt8) : Pa × Int :=
  if (Tre.lines f).2 ≠ 0 then (⟨[], []⟩, (Tre.lines f).2)
  else if (Tre.lines t).2 ≠ 0 then (⟨[], []⟩, (Tre.lines t).2)
  else keeping [] (Tre.lines f).1 (Tre.lines t).1 (common (Tre.lines f).1 (Tre.lines t).1 0 0)
theorem invK_app (l1 l2 : List Pl) (n : Nat) : invK (l1 ++ l2) n = invK l1 n ++ invK l2 (n + l1.length) := by
  induction l1 generalizing n with
  | nil => rfl
  | cons x t ih =>
    rw [List.cons_append, invK, invK, ih, List.length_cons, show n + 1 + t.length = n + (t.length + 1) by omega]
    split <;> simp
theorem thenK_app (f l1 l2 : List Pl) (n : Nat) : thenK f (l1 ++ l2) n = thenK f l1 n ++ thenK f l2 (n + l1.length) := by
  induction l1 generalizing n with
  | nil => rfl
  | cons x t ih =>
    rw [List.cons_append, thenK, thenK, ih, List.length_cons, show n + 1 + t.length = n + (t.length + 1) by omega]
    split <;> simp
theorem invK_keeps (o n m : Nat) : invK (keeps o m) n = (run o n m).map sw := by
  induction m generalizing o n with
  | zero => rfl
  | succ m ih =>
    rw [keeps, invK, if_pos (by show (0 : Int) ≤ (o : Int); omega), ih, run, List.map_cons]
    rfl
theorem invK_adds (l n m : Nat) : invK (adds l m) n = [] := by
  induction m generalizing l n with
  | zero => rfl
  | succ m ih => rw [adds, invK, if_neg (by show ¬ (0 : Int) ≤ -1; decide), ih]
/-- What joining takes out of a pair. -/
def thr (f : List Pl) (p : Nat × Nat) : Option (Nat × Nat) := if 0 ≤ (f.getD p.1 default).old then some ((f.getD p.1 default).old.toNat, p.2) else none
theorem thenK_keeps (f : List Pl) (o n m : Nat) : thenK f (keeps o m) n = (run o n m).filterMap (thr f) := by
  induction m generalizing o n with
  | zero => rfl
  | succ m ih =>
    rw [keeps, thenK, ih, run, List.filterMap_cons]
    simp only [Int.toNat_natCast, thr]
    by_cases h : 0 ≤ (f.getD o default).old
    · rw [if_pos ⟨by omega, h⟩, if_pos h]
    · rw [if_neg (fun e => h e.2), if_neg h]
theorem thenK_adds (f : List Pl) (l n m : Nat) : thenK f (adds l m) n = [] := by
  induction m generalizing l n with
  | zero => rfl
  | succ m ih => rw [adds, thenK, if_neg (by rintro ⟨h, _⟩; exact absurd h (by show ¬ (0 : Int) ≤ -1; decide)), ih]
theorem inv_places : ∀ (hs : List Hk) (o m n : Nat), (∀ h ∈ hs, isHunk h = true) → invK (places hs o m) n = (prs hs o n).map sw
  | [], _, _, _, _ => rfl
  | h :: t, o, m, n, hh => by
    have ih := fun o m n => inv_places t o m n fun x hx => hh x (by simp [hx])
    obtain ⟨_, hk, _⟩ := isHunk_num (hh h (by simp))
    rw [places, prs]
    rcases hk with e | e | e
    · rw [if_pos e, if_pos e, invK_app, invK_keeps, keeps_len, ih, List.map_append]
    · have e1 : ¬ h.kind = 1 := by omega
      rw [if_neg e1, if_neg e1, if_pos e, if_pos e, ih]
    · have e1 : ¬ h.kind = 1 := by omega
      have e2 : ¬ h.kind = 2 := by omega
      rw [if_neg e1, if_neg e1, if_neg e2, if_neg e2, if_pos e, invK_app, invK_adds, adds_len, ih, List.nil_append]
theorem then_places (f : List Pl) : ∀ (hs : List Hk) (o m n : Nat), (∀ h ∈ hs, isHunk h = true) → thenK f (places hs o m) n = (prs hs o n).filterMap (thr f)
  | [], _, _, _, _ => rfl
  | h :: t, o, m, n, hh => by
    have ih := fun o m n => then_places f t o m n fun x hx => hh x (by simp [hx])
    obtain ⟨_, hk, _⟩ := isHunk_num (hh h (by simp))
    rw [places, prs]
    rcases hk with e | e | e
    · rw [if_pos e, if_pos e, thenK_app, thenK_keeps, keeps_len, ih, List.filterMap_append]
    · have e1 : ¬ h.kind = 1 := by omega
      rw [if_neg e1, if_neg e1, if_pos e, if_pos e, ih]
    · have e1 : ¬ h.kind = 1 := by omega
      have e2 : ¬ h.kind = 2 := by omega
      rw [if_neg e1, if_neg e1, if_neg e2, if_neg e2, if_pos e, thenK_app, thenK_adds, adds_len, ih, List.nil_append]
/-- The lines of a text. -/
theorem lines_ok {s : List UInt8} {l : List Ln} (h : Tre.lines s = (l, 0)) : l ≠ [] ∧ 1 ≤ l.length ∧ l.length ≤ 1024 ∧ Tre.joined l = s ∧ Tre.join l = (s, 0) ∧ l = Tre.split 10 s := by
  unfold Tre.lines at h
  split at h
  · cases (Prod.mk.inj h).2
  · rename_i hn
    obtain ⟨rfl, _⟩ := Prod.mk.inj h
    have h0 := Tre.split_ne 10 s
    have hj := Tre.joined_split s
    have hp : ¬ (Tre.split 10 s = [] ∨ ((Tre.split 10 s).any fun x => x.contains 10) = true) := by
      rintro (e | e)
      · exact h0 e
      · obtain ⟨x, hx, hc⟩ := List.any_eq_true.1 e
        have := pure_iff.2 (Tre.split_pure 10 s x hx)
        rw [this] at hc; cases hc
    refine ⟨h0, ?_, by omega, hj, ?_, rfl⟩
    · exact List.length_pos_iff.2 h0
    · unfold Tre.join
      rw [if_neg hp, hj, if_neg (by omega)]
theorem apply_ok {p : Pa} {data : List UInt8} {a : List Ln} (hv : valid p = true) (hl : Tre.lines data = (a, 0)) (hn : cnt 1 p.hs + cnt 2 p.hs = a.length) (hb : p.base = [] ∨ p.base = dig data) : apply p data = Tre.join (change p.hs a) := by
  unfold apply
  rw [if_neg (by rw [hv]; simp), hl, if_neg (by simp), if_neg]
  rintro (e | ⟨e1, e2⟩)
  · exact e hn
  · rcases hb with h | h
    · exact e1 h
    · exact e2 h
theorem apply_base {p : Pa} {data s : List UInt8} {a : List Ln} (h : apply p data = (s, 0)) (hl : Tre.lines data = (a, 0)) : cnt 1 p.hs + cnt 2 p.hs = a.length ∧ (p.base = [] ∨ p.base = dig data) := by
  unfold apply at h
  split at h
  · cases (Prod.mk.inj h).2
  · rw [hl] at h
    rw [if_neg (by simp)] at h
    split at h
    · cases (Prod.mk.inj h).2
    · rename_i hn
      exact ⟨Classical.byContradiction fun e => hn (.inl e), Classical.byContradiction fun e => hn (.inr ⟨fun e1 => e (.inl e1), fun e2 => e (.inr e2)⟩)⟩
theorem keeping_ok {base : List UInt8} {a b : List Ln} {K : List (Nat × Nat)} {r : Pa} (h : keeping base a b K = (r, 0)) : r = ⟨base, keepHs [] a b 0 0 K⟩ ∧ valid r = true := by
  unfold keeping at h
  split at h
  · rename_i hv
    obtain ⟨rfl, _⟩ := Prod.mk.inj h
    exact ⟨rfl, hv⟩
  · cases (Prod.mk.inj h).2
theorem keeping_err {base : List UInt8} {a b : List Ln} {K : List (Nat × Nat)} (h : (keeping base a b K).2 ≠ 0) : (keeping base a b K).1 = ⟨[], []⟩ := by
  unfold keeping at h ⊢
  split at h
  · exact absurd rfl h
  · rename_i hv
    rw [if_neg hv]
/-- What a patch that was applied does, in one. -/
structure Led (p : Pa) (data s : List UInt8) (a b : List Ln) : Prop where
  old : Tre.lines data = (a, 0)
  now : Tre.lines s = (b, 0)
  chg : b = change p.hs a
  valid : Pc.valid p = true
  base : p.base = [] ∨ p.base = dig data
  app : apply p data = (s, 0)
  all : ∀ h ∈ p.hs, isHunk h = true
  st : St a b p.hs a.length b.length (prs p.hs 0 0)
  mat : Mat a b 0 0 (prs p.hs 0 0)
  says : Says a (printL p) 0 (placesOf p) b
  canon : keepHs [] a b 0 0 (prs p.hs 0 0) = p.hs
theorem led_of {p : Pa} {data s : List UInt8} (h : apply p data = (s, 0)) : ∃ a b, Led p data s a b := by
  rcases apply_cases p data with ⟨h1, _⟩ | ⟨_, a, D⟩
  · exact absurd (by rw [h]) h1
  · rw [h] at D
    obtain ⟨hn, hb⟩ := apply_base h D.old
    obtain ⟨o1, o2, o3, o4, o5, o6⟩ := lines_ok D.old
    obtain ⟨n1, n2, n3, n4, n5, n6⟩ := lines_ok D.now
    have hall := (shape_len D.shape).2.2
    obtain ⟨e1, e2⟩ := eats_cnt p.hs hall
    have hord : inOrder 0 p.hs = true := by
      have := D.shape
      unfold shape at this
      simp only [Bool.and_eq_true] at this
      exact this.1.1
    have hm : Mat a (change p.hs a) 0 0 (prs p.hs 0 0) := prs_mat a (change p.hs a) p.hs 0 0 hall (by omega) (Nat.zero_le _) (by simp)
    have hc := Pc.canon a (change p.hs a) p.hs [] 0 0 0 0 (Nat.le_refl _) (Nat.le_refl _) (by simp) (by simpa using hord) (by simpa using hn) (Nat.zero_le _) (by simp)
    have hc' : keepHs [] a (change p.hs a) 0 0 (prs p.hs 0 0) = p.hs := by
      rw [hc]; simp [Pc.pend]
    have hst := keep_ok o3 n3 hm
    rw [hc'] at hst
    exact ⟨a, change p.hs a, D.old, D.now, rfl, D.valid, hb, h, hall, hst, hm, D.says, hc'⟩
/-- The cost of a patch is what it does not keep. -/
theorem Led.cost {p : Pa} {data s : List UInt8} {a b : List Ln} (h : Led p data s a b) : Pc.cost p = ((a.length : Int) + b.length - 2 * (prs p.hs 0 0).length, 0) := by
  have h1 := h.st.src; have h2 := h.st.dst; have h3 := h.st.kept
  unfold Pc.cost
  rw [if_pos h.valid]
  congr 1
  omega
theorem invert_eq {p : Pa} {data s : List UInt8} {a b : List Ln} (h : Led p data s a b) : invert p data = keeping (if p.base = [] then [] else dig s) b a ((prs p.hs 0 0).map sw) := by
  unfold invert
  rw [h.app, if_neg (by simp), h.now, h.old]
  congr 1
  unfold placesOf
  exact inv_places p.hs 0 _ 0 h.all
/-- Applying a patch and then its inverse leads back. -/
theorem back_ok (hdig : ∀ s, dig s ≠ []) {p q : Pa} {data s : List UInt8} {a b : List Ln} (h : Led p data s a b) (hq : invert p data = (q, 0)) :
    apply q s = (data, 0) ∧ invert q s = (p, 0) ∧ Pc.cost q = Pc.cost p ∧ (p.base = [] ↔ q.base = []) := by
  rw [invert_eq h] at hq
  obtain ⟨rfl, hv⟩ := keeping_ok hq
  obtain ⟨o1, o2, o3, o4, o5, o6⟩ := lines_ok h.old
  obtain ⟨n1, n2, n3, n4, n5, n6⟩ := lines_ok h.now
  have hst := keep_ok n3 o3 (mat_swap h.mat)
  have happ : apply ⟨if p.base = [] then [] else dig s, keepHs [] b a 0 0 ((prs p.hs 0 0).map sw)⟩ s = (data, 0) := by
    rw [apply_ok hv h.now hst.src (by by_cases e : p.base = [] <;> simp [e])]
    show Tre.join (change (keepHs [] b a 0 0 ((prs p.hs 0 0).map sw)) b) = (data, 0)
    rw [hst.chg, List.take_length, o5]
  obtain ⟨a', b', h'⟩ := led_of happ
  obtain rfl : b = a' := by have := h.now.symm.trans h'.old; exact (Prod.mk.inj this).1
  obtain rfl : a = b' := by have := h.old.symm.trans h'.now; exact (Prod.mk.inj this).1
  refine ⟨happ, ?_, ?_, ?_⟩
  · rw [invert_eq h']
    have hb2 : (if (if p.base = [] then [] else dig s) = [] then [] else dig data) = p.base := by
      by_cases e : p.base = []
      · simp [e]
      · rw [if_neg e, if_neg (hdig s)]
        exact (h.base.resolve_left e).symm
    dsimp only
    rw [hb2, hst.prs, sw_sw]
    unfold keeping
    rw [h.canon, if_pos h.valid]
  · rw [h.cost, h'.cost, h'.st.prs.symm]
    dsimp only
    rw [hst.prs, List.length_map]
    congr 1
    omega
  · by_cases e : p.base = []
    · simp [e]
    · simp [e, hdig s]
theorem invert_err {p : Pa} {data : List UInt8} : (invert p data).2 ≠ 0 → (invert p data).1 = ⟨[], []⟩ := by
  unfold invert
  split
  · exact fun _ => rfl
  · exact keeping_err
theorem then_err {p q : Pa} {data : List UInt8} : (thenP p q data).2 ≠ 0 → (thenP p q data).1 = ⟨[], []⟩ := by
  unfold thenP
  split
  · exact fun _ => rfl
  · split
    · exact fun _ => rfl
    · exact keeping_err
theorem then_eq {p q : Pa} {data m s : List UInt8} {a b c : List Ln} (h : Led p data m a b) (k : Led q m s b c) : thenP p q data = keeping p.base a c ((prs q.hs 0 0).filterMap (thr (placesOf p))) := by
  unfold thenP
  rw [h.app]
  dsimp only
  rw [if_neg (by simp), k.app]
  dsimp only
  rw [if_neg (by simp), k.now, h.old]
  congr 1
  unfold placesOf
  exact then_places _ q.hs 0 _ 0 k.all
theorem getD_at {α : Type} (l : List α) (d : α) (i : Nat) (h : i < l.length) : l.getD i d = l[i] := by
  rw [List.getD_eq_getElem?_getD, List.getElem?_eq_getElem h]; rfl
theorem then_mat {p q : Pa} {data m s : List UInt8} {a b c : List Ln} (h : Led p data m a b) (k : Led q m s b c) : Mat a c 0 0 ((prs q.hs 0 0).filterMap (thr (placesOf p))) := by
  have hlen := h.says.len
  have key : ∀ r ∈ prs q.hs 0 0, ∀ z, thr (placesOf p) r = some z → ∃ (hr : r.1 < (placesOf p).length) (o : Nat), (placesOf p)[r.1] = ⟨(o : Int), -1⟩ ∧ z = (o, r.2) ∧ a[o]? = c[r.2]? ∧ r.2 < c.length := by
    intro r hr z hz
    obtain ⟨_, _, h3, h4, h5⟩ := k.mat.at_ r hr
    have hl : r.1 < (placesOf p).length := by rw [hlen]; exact h3
    unfold thr at hz
    rw [getD_at _ _ _ hl] at hz
    rcases h.says.at_ r.1 hl h3 with ⟨o, e, ho⟩ | ⟨o, e, _⟩
    · rw [e, if_pos (by show (0 : Int) ≤ (o : Int); omega)] at hz
      refine ⟨hl, o, e, (Option.some.inj hz).symm, ?_, h4⟩
      rw [ho, ← h5, List.getElem?_eq_getElem h3]
    · rw [e, if_neg (by show ¬ (0 : Int) ≤ -1; decide)] at hz; cases hz
  refine ⟨?_, fun z hz => ?_⟩
  · rw [List.pairwise_filterMap]
    refine k.mat.rise.imp_of_mem fun {r1 r2} hr1 hr2 hlt z1 hz1 z2 hz2 => ?_
    obtain ⟨l1, o1, e1, rfl, _⟩ := key r1 hr1 z1 hz1
    obtain ⟨l2, o2, e2, rfl, _⟩ := key r2 hr2 z2 hz2
    have := List.pairwise_iff_getElem.1 h.says.rise r1.1 r2.1 l1 l2 hlt.1 (by rw [e1]) (by rw [e2])
    rw [e1, e2] at this
    have : (o1 : Int) < (o2 : Int) := this
    exact ⟨by show o1 < o2; omega, hlt.2⟩
  · obtain ⟨r, hr, hz'⟩ := List.mem_filterMap.1 hz
    obtain ⟨l, o, e, rfl, ho, hc⟩ := key r hr z hz'
    refine ⟨Nat.zero_le _, Nat.zero_le _, ?_, hc, ho⟩
    rw [List.getElem?_eq_getElem hc] at ho
    exact (List.getElem?_eq_some_iff.1 ho).1
theorem invK_len : ∀ (l : List Pl) (n : Nat), (invK l n).length = l.countP fun x => decide (0 ≤ x.old)
  | [], _ => rfl
  | x :: t, n => by
    rw [invK, List.countP_cons]
    by_cases h : 0 ≤ x.old
    · rw [if_pos h, List.length_cons, invK_len t]; simp [h]
    · rw [if_neg h, invK_len t]; simp [h]
theorem thr_len (f : List Pl) : ∀ K : List (Nat × Nat), (K.filterMap (thr f)).length = K.countP fun r => decide (0 ≤ (f.getD r.1 default).old)
  | [] => rfl
  | r :: K => by
    by_cases h : 0 ≤ (f.getD r.1 default).old
    · have e : thr f r = some ((f.getD r.1 default).old.toNat, r.2) := if_pos h
      rw [List.filterMap_cons, e, List.countP_cons, decide_eq_true h]
      simp only [List.length_cons, thr_len f K, if_true]
    · have e : thr f r = none := if_neg h
      rw [List.filterMap_cons, e, List.countP_cons, decide_eq_false h]
      simp only [thr_len f K, Bool.false_eq_true, if_false, Nat.add_zero]
theorem sub_range : ∀ (n lo : Nat) (l : List Nat), l.Pairwise (· < ·) → (∀ x ∈ l, lo ≤ x ∧ x < lo + n) → l.Sublist (List.range' lo n)
  | 0, lo, l, _, h => by
    cases l with
    | nil => simp
    | cons x t => have := h x (by simp); omega
  | n + 1, lo, [], _, _ => List.nil_sublist _
  | n + 1, lo, x :: t, hp, h => by
    rw [List.pairwise_cons] at hp
    rw [List.range'_succ]
    have hx := h x (by simp)
    by_cases e : x = lo
    · subst e
      exact List.Sublist.cons_cons _ (sub_range n (x + 1) t hp.2 fun y hy => ⟨hp.1 y hy, by have := h y (by simp [hy]); omega⟩)
    · exact List.Sublist.cons _ (sub_range n (lo + 1) (x :: t) (List.pairwise_cons.2 hp) fun y hy => by
        have h1 := h y hy
        rcases List.mem_cons.1 hy with rfl | hy
        · omega
        · have := hp.1 y hy; omega)
theorem countP_not {α : Type} (p : α → Bool) (l : List α) : l.countP p + l.countP (fun x => !p x) = l.length := by
  induction l with
  | nil => rfl
  | cons x t ih =>
    rw [List.countP_cons, List.countP_cons, List.length_cons]
    cases p x <;> simp <;> omega
theorem range_map (f : List Pl) : (List.range' 0 f.length).map (fun i => f.getD i default) = f := by
  apply List.ext_getElem
  · simp
  · intro i h1 h2
    rw [List.getElem_map, List.getElem_range', getD_at _ _ _ (by omega)]
    congr 1; omega
/-- Enough pairs lead through. -/
theorem then_len {p q : Pa} {data m s : List UInt8} {a b c : List Ln} (h : Led p data m a b) (k : Led q m s b c) : (prs p.hs 0 0).length + (prs q.hs 0 0).length ≤ ((prs q.hs 0 0).filterMap (thr (placesOf p))).length + b.length := by
  have hlen := h.says.len
  have e1 : (prs p.hs 0 0).length = (placesOf p).countP fun x => decide (0 ≤ x.old) := by
    rw [← invK_len (placesOf p) 0]
    unfold placesOf
    rw [inv_places p.hs 0 _ 0 h.all, List.length_map]
  have e2 := countP_not (fun x : Pl => decide (0 ≤ x.old)) (placesOf p)
  have e3 := countP_not (fun r : Nat × Nat => decide (0 ≤ ((placesOf p).getD r.1 default).old)) (prs q.hs 0 0)
  rw [thr_len]
  have hsub : ((prs q.hs 0 0).map Prod.fst).Sublist (List.range' 0 b.length) := by
    refine sub_range _ 0 _ ?_ fun x hx => ?_
    · rw [List.pairwise_map]
      exact k.mat.rise.imp fun h => h.1
    · obtain ⟨r, hr, rfl⟩ := List.mem_map.1 hx
      obtain ⟨_, _, h3, _⟩ := k.mat.at_ r hr
      omega
  have e4 : (prs q.hs 0 0).countP (fun r => !decide (0 ≤ ((placesOf p).getD r.1 default).old)) ≤ (placesOf p).countP fun x => !decide (0 ≤ x.old) := by
    have h1 := hsub.countP_le (p := fun i => !decide (0 ≤ ((placesOf p).getD i default).old))
    rw [List.countP_map] at h1
    have h2 : (List.range' 0 b.length).countP (fun i => !decide (0 ≤ ((placesOf p).getD i default).old)) = (placesOf p).countP fun x => !decide (0 ≤ x.old) := by
      conv => rhs; rw [← range_map (placesOf p)]
      rw [List.countP_map, hlen]
      rfl
    rw [h2] at h1
    exact h1
  omega
/-- Applying both joined is applying one and then the other one. -/
theorem join_both {p q r : Pa} {data m s : List UInt8} (h1 : apply p data = (m, 0)) (h2 : apply q m = (s, 0)) (h3 : thenP p q data = (r, 0)) :
    apply r data = (s, 0) ∧ r.base = p.base ∧ (Pc.cost r).2 = 0 ∧ (Pc.cost p).2 = 0 ∧ (Pc.cost q).2 = 0 ∧ (Pc.cost r).1 ≤ (Pc.cost p).1 + (Pc.cost q).1 := by
  obtain ⟨a, b, h⟩ := led_of h1
  obtain ⟨b', c, k⟩ := led_of h2
  obtain rfl : b = b' := by have := h.now.symm.trans k.old; exact (Prod.mk.inj this).1
  rw [then_eq h k] at h3
  obtain ⟨rfl, hv⟩ := keeping_ok h3
  obtain ⟨o1, o2, o3, o4, o5, o6⟩ := lines_ok h.old
  obtain ⟨n1, n2, n3, n4, n5, n6⟩ := lines_ok k.now
  have hst := keep_ok o3 n3 (then_mat h k)
  have happ : apply ⟨p.base, keepHs [] a c 0 0 ((prs q.hs 0 0).filterMap (thr (placesOf p)))⟩ data = (s, 0) := by
    rw [apply_ok hv h.old hst.src h.base]
    show Tre.join (change (keepHs [] a c 0 0 ((prs q.hs 0 0).filterMap (thr (placesOf p)))) a) = (s, 0)
    rw [hst.chg, List.take_length, n5]
  obtain ⟨a', c', l⟩ := led_of happ
  obtain rfl : a = a' := by have := h.old.symm.trans l.old; exact (Prod.mk.inj this).1
  obtain rfl : c = c' := by have := k.now.symm.trans l.now; exact (Prod.mk.inj this).1
  refine ⟨happ, rfl, by rw [l.cost], by rw [h.cost], by rw [k.cost], ?_⟩
  rw [l.cost, h.cost, k.cost, l.st.prs.symm]
  dsimp only
  rw [hst.prs]
  have := then_len h k
  omega
theorem keeps_prs (n : Nat) : prs [⟨1, (n : Int), []⟩] 0 0 = run 0 0 n := by simp [prs]
/-- The patch that keeps so many lines. -/
def keepAll (n : Nat) : Pa := ⟨[], [⟨1, (n : Int), []⟩]⟩
/-- Joined with a patch that keeps everything, a patch stays the same. -/
theorem join_keep {p : Pa} {data m : List UInt8} {a b : List Ln} (h : Led p data m a b) (hv : valid (keepAll b.length) = true) : thenP p (keepAll b.length) data = (p, 0) := by
  have happ : apply (keepAll b.length) m = (m, 0) := by
    obtain ⟨n1, n2, n3, n4, n5, n6⟩ := lines_ok h.now
    rw [apply_ok hv h.now (by simp [keepAll, cnt]) (.inl rfl)]
    simp [keepAll, change, n5]
  obtain ⟨b', c, k⟩ := led_of happ
  obtain rfl : b = b' := by have := h.now.symm.trans k.old; exact (Prod.mk.inj this).1
  obtain rfl : b = c := by have := h.now.symm.trans k.now; exact (Prod.mk.inj this).1
  rw [then_eq h k]
  have hpr : prs (keepAll b.length).hs 0 0 = run 0 0 b.length := keeps_prs _
  rw [hpr]
  have hlen := h.says.len
  have hK : (run 0 0 b.length).filterMap (thr (placesOf p)) = prs p.hs 0 0 := by
    have e1 : (invK (placesOf p) 0).map sw = prs p.hs 0 0 := by
      unfold placesOf
      rw [inv_places p.hs 0 _ 0 h.all, sw_sw]
    rw [← e1, ← hlen]
    have gen : ∀ (l pre : List Pl), placesOf p = pre ++ l → (run pre.length pre.length l.length).filterMap (thr (placesOf p)) = (invK l pre.length).map sw := by
      intro l
      induction l with
      | nil => intro pre _; rfl
      | cons x t ih =>
        intro pre hp
        have := ih (pre ++ [x]) (by rw [hp]; simp)
        rw [List.length_append, List.length_singleton] at this
        rw [List.length_cons, run, List.filterMap_cons, invK]
        have hx : (placesOf p).getD pre.length default = x := by rw [hp]; simp
        simp only [thr, hx]
        by_cases e : 0 ≤ x.old
        · rw [if_pos e, if_pos e]
          simp only [List.map_cons]
          rw [this]; rfl
        · rw [if_neg e, if_neg e]
          exact this
    have := gen (placesOf p) [] rfl
    exact this
  rw [hK]
  unfold keeping
  rw [h.canon, if_pos h.valid]
end Pc
end Go.Proofs.YtlfgnecfabdkmaaGreatDoor
end
